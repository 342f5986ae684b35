import PyProof.Rows.All
import Wide.All
import OpenK.AllK
import Wide.FinOn
import Lean
import PyProof.EqAt
import PyProof.EqKinds
import PyProof.TupleCall
import PyProof.NeKinds
import PyProof.ExcInit
import PyProof.StationsW
import PyProof.ExcBaseAll.ValueError
import PyProof.ExcArgs
import KE.KIsAll
import PyProof.ReprRoads
import PyProof.CallFns
import PyProof.ExcClass3
import PyProof.StrBlock2
import PyProof.FitsInt
import PyProof.StrLawsRepr
import KE.KTryMore
import PyProof.RulesAs
import KE.KIntText
import PyProof.StrLawsChain
import PyProof.StrCalls2
import PyProof.ZipIter
import PyProof.Conv_bool
import PyProof.CallStr
import PySem.Challenge.RW_slideroom_k72_prices_walked
-- CHANGE: your row's module here, as the last of these rows
set_option Elab.async false
set_option linter.all false
set_option maxRecDepth 100000
namespace L2
open PySem PySem.Spec PyProof.Rows
abbrev Key := Sum Int Str
def keyIs : Key → Value → Bool
  | .inl k, v => Value.isInt k v
  | .inr x, v => Value.isStrOf x v
def keyH (w : World) : Key → Int
  | .inl k => hashInt k
  | .inr x => hashStr w x
theorem keyIs_shape : ∀ {k : Key} {v : Value}, keyIs k v = true → (∃ i t, k = Sum.inl i ∧ v = Value.int i t) ∨ (∃ x t, k = Sum.inr x ∧ v = Value.str x t)
  | .inl i, v, h => by
    obtain ⟨t, e⟩ := Value.isInt_shape (k := i) (v := v) h
    exact .inl ⟨i, t, rfl, e⟩
  | .inr x, v, h => by
    obtain ⟨t, e⟩ := Value.isStrOf_shape (x := x) (v := v) h
    exact .inr ⟨x, t, rfl, e⟩
theorem key_ll (a b : Int) : decide ((Sum.inl a : Key) = Sum.inl b) = (a == b) := by
  by_cases e : a = b
  · subst e; simp
  · have h : ¬ (Sum.inl a : Key) = Sum.inl b := fun q => e (Sum.inl.inj q)
    rw [decide_eq_false h]
    exact (beq_eq_false_iff_ne.mpr e).symm
theorem key_rr (a b : Str) : decide ((Sum.inr a : Key) = Sum.inr b) = decide (a = b) := by
  by_cases e : a = b
  · subst e; simp
  · have h : ¬ (Sum.inr a : Key) = Sum.inr b := fun q => e (Sum.inr.inj q)
    rw [decide_eq_false h, decide_eq_false e]
theorem key_lr (a : Int) (b : Str) : decide ((Sum.inl a : Key) = Sum.inr b) = false := decide_eq_false (fun q => nomatch q)
theorem key_rl (a : Str) (b : Int) : decide ((Sum.inr a : Key) = Sum.inl b) = false := decide_eq_false (fun q => nomatch q)
def mixKind (prog : Program) (w : World) : PySem.KeyKind prog w Key where
  is := keyIs
  hash := keyH w
  inj := fun v a b ha hb => by
    rcases keyIs_shape ha with ⟨i, t, rfl, rfl⟩ | ⟨x, t, rfl, rfl⟩
    · rcases keyIs_shape hb with ⟨j, u, rfl, e⟩ | ⟨y, u, rfl, e⟩
      · injection e with e1 _; rw [e1]
      · exact nomatch e
    · rcases keyIs_shape hb with ⟨j, u, rfl, e⟩ | ⟨y, u, rfl, e⟩
      · exact nomatch e
      · injection e with e1 _; rw [e1]
  byValue := fun k v h => by
    rcases keyIs_shape h with ⟨i, t, rfl, rfl⟩ | ⟨x, t, rfl, rfl⟩ <;> rfl
  pyHash := fun hv h => by
    rcases keyIs_shape hv with ⟨i, t, rfl, rfl⟩ | ⟨x, t, rfl, rfl⟩
    · exact wpAny_pyHash_int h
    · exact wpAny_pyHash_str h
  eqBool := fun hu hv h => by
    rcases keyIs_shape hu with ⟨i, t, rfl, rfl⟩ | ⟨x, t, rfl, rfl⟩
    · rcases keyIs_shape hv with ⟨j, u, rfl, rfl⟩ | ⟨y, u, rfl, rfl⟩
      · rw [key_ll] at h; exact wpAny_eqBool_int h
      · rw [key_lr] at h; exact SeqAt.EqAt.int_str i t y u _ _ _ _ h
    · rcases keyIs_shape hv with ⟨j, u, rfl, rfl⟩ | ⟨y, u, rfl, rfl⟩
      · rw [key_rl] at h; exact SeqAt.EqAt.str_int x t j u _ _ _ _ h
      · rw [key_rr] at h; exact wpAny_eqBool_str h
  «strs» := fun k x t v h => by
    rcases keyIs_shape h with ⟨i, u, rfl, e⟩ | ⟨y, u, rfl, e⟩
    · exact nomatch e
    · injection e with e1 _
      subst e1
      cases v <;> rfl
inductive V where
  | non | bl (b : Bool) | int (i : Int) | str (x : Str) | byt (b : Array UInt8) | flt (b : UInt64) | ref (a : Addr) | ty (n : String)
  deriving DecidableEq
def RelV : V → Value → Prop
  | .non, u => u = Value.none
  | .bl b, u => u = Value.bool b
  | .int i, u => ∃ t, u = Value.int i t
  | .str x, u => ∃ t, u = Value.str x t
  | .byt b, u => ∃ t, u = Value.bytes b t
  | .flt b, u => ∃ t, u = Value.float b t
  | .ref a, u => u = Value.ref a
  | .ty n, u => u = Value.type n
abbrev Vals : List V → List Value → Prop := Paired RelV
theorem Vals.length {xs : List V} {us : List Value} (r : Vals xs us) : xs.length = us.length := Paired.length r
theorem Vals.get : ∀ {xs : List V} {us : List Value} {i : Nat} {x : V}, Vals xs us → xs[i]? = some x → ∃ u, us[i]? = some u ∧ RelV x u
  | _, _, _, _, .nil, e => by simp at e
  | _, _, 0, _, .cons r _, e => by simp at e; subst e; exact ⟨_, rfl, r⟩
  | _, _, i + 1, x, .cons _ t, e => by
    obtain ⟨u, h1, h2⟩ := Vals.get (i := i) (x := x) t (by simpa using e)
    exact ⟨u, by simpa using h1, h2⟩
theorem Vals.set {x : V} {u : Value} (r : RelV x u) : ∀ {xs : List V} {us : List Value} (i : Nat), Vals xs us → Vals (xs.set i x) (us.set i u)
  | _, _, _, .nil => .nil
  | _, _, 0, .cons _ t => .cons r t
  | _, _, i + 1, .cons q t => .cons q (Vals.set r i t)
theorem Vals.append : ∀ {xs ys : List V} {us ws : List Value}, Vals xs us → Vals ys ws → Vals (xs ++ ys) (us ++ ws)
  | _, _, _, _, .nil, s => s
  | _, _, _, _, .cons r t, s => .cons r (Vals.append t s)
theorem Vals.take : ∀ {xs : List V} {us : List Value} (n : Nat), Vals xs us → Vals (xs.take n) (us.take n)
  | _, _, 0, _ => .nil
  | _, _, _ + 1, .nil => .nil
  | _, _, n + 1, .cons r t => .cons r (Vals.take n t)
theorem Vals.drop : ∀ {xs : List V} {us : List Value} (n : Nat), Vals xs us → Vals (xs.drop n) (us.drop n)
  | _, _, 0, r => r
  | _, _, _ + 1, .nil => .nil
  | _, _, n + 1, .cons _ t => Vals.drop n t
def RelO : Option V → Option Value → Prop
  | some v, some u => RelV v u
  | none, none => True
  | _, _ => False
def KV {κ : Type} : List (κ × V) → List (κ × Value) → Prop := Paired fun (p : κ × V) (q : κ × Value) => p.1 = q.1 ∧ RelV p.2 q.2
def kV : Key → V
  | .inl i => .int i
  | .inr x => .str x
inductive HO where
  /-- a list -/
  | lst (xs : List V)
  /-- a tuple (never changes) -/
  | tup (xs : List V)
  /-- a dict whose keys are ints and texts; one whose keys are tuples of ints and texts (the empty one is both) -/
  | dK (kvs : List (Key × V)) | dT (kvs : List (List Key × V))
  /-- a set of ints: its members, its size -/
  | set (S : Int → Bool) (n : Nat)
  /-- an instance of the class at C, its dict at dx, its attributes -/
  | ins (C dx : Addr) (fs : List (Str × V))
  /-- the dict of the instance at x -/
  | own (x : Addr)
  /-- the dict of an exception -/
  | xd (fs : List (Str × V))
  /-- a bound method, f of x -/
  | met (f x : Addr)
  /-- a range object lo, lo + 1, .. below hi -/
  | rng (lo hi : Int)
  /-- a thing that is known to the object (the script; a dict while a loop walks it): read, never written while it is so -/
  | frz (o : Obj) (u : HO)
  /-- a code object's table -/
  | tbl (ps : Array Value)
  /-- any other thing, by what is true of its one object (a def of one's own: SetO a S n := HO.ext fun h => ..) -/
  | ext (φ : Heap → Prop)
abbrev Hp := Addr → Option HO
def upd (H : Hp) (a : Addr) (o : HO) : Hp := fun b => if b = a then some o else H b
theorem upd_same {H : Hp} {a : Addr} {o : HO} : upd H a o a = some o := by unfold upd; rw [if_pos rfl]
theorem upd_ne {H : Hp} {a b : Addr} {o : HO} (h : b ≠ a) : upd H a o b = H b := by unfold upd; rw [if_neg h]
theorem upd_upd {H : Hp} {a : Addr} {o u : HO} : upd (upd H a o) a u = upd H a u := by
  funext b; unfold upd; split <;> rfl
theorem ne_of_none {H : Hp} {a b : Addr} {o : HO} (h : H a = some o) (h' : H b = none) : a ≠ b := by
  intro e; subst e; rw [h] at h'; cases h'
section
variable (P : Program) (w : World)
def ObjOk (H : Hp) (h : Heap) (a : Addr) : HO → Prop
  | .lst xs => xs.length ≤ sizeLine ∧ ∃ (its : List Value) (n : Nat), Vals xs its ∧ h.get? a = some { cls := .type "list", data := .seq its.toArray n }
  | .tup xs => xs.length ≤ sizeLine ∧ ∃ its : List Value, Vals xs its ∧ IsTup h a its.toArray
  | .dK kvs => kvs.length ≤ sizeLine ∧ (a == sysModules) = false ∧ ∃ vs, KV kvs vs ∧ h.DictOf (mixKind P w) a vs
  | .dT kvs => kvs.length ≤ sizeLine ∧ (a == sysModules) = false ∧ ∃ xs : List (List Key × Addr × Value),
      Paired (fun (p : List Key × V) (q : List Key × Addr × Value) => p.1 = q.1 ∧ H q.2.1 = some (.tup (p.1.map kV)) ∧ RelV p.2 q.2.2) kvs xs ∧
      ∃ o es ep, h.get? a = some o ∧ o.ExactDict ∧ o.data = .dict es ep ∧ es.toList = xs.map (entryOfKey (tupleKind (mixKind P w))) ∧ (xs.map (·.1)).Nodup
  | .set S n => h.SetOf (intKind P w) a S n
  | .ins C dx fs => H dx = some (.own a) ∧ fs.length ≤ 1000 ∧ dx ≠ a ∧ h.get? a = some (PySem.W.instObj C dx) ∧
      ∃ mA, h.Ns1 dx mA ∧ (∀ f, RelO (fs.lookup f) (mA f)) ∧ PySem.Within mA (fs.map (·.1))
  | .own _ => ∃ o, h.get? a = some o
  | .xd fs => ∃ mA, h.Ns1 a mA ∧ ∀ f, RelO (fs.lookup f) (mA f)
  | .rng lo hi => ∃ t u v, h.get? a = some { cls := .type "range", data := .fields #[.int lo t, .int hi u, .int 1 v] }
  | .frz o u => h.get? a = some o ∧ ObjOk H h a u
  | .tbl ps => h.get? a = some { cls := .none, data := .fields ps }
  | .met f x => h.get? a = some (PySem.W.methodObj (.ref f) (.ref x))
  | .ext φ => φ h ∧ (∃ o, h.get? a = some o) ∧ ∀ h1 h2 : Heap, φ h1 → (∀ o, h1.get? a = some o → h2.get? a = some o) → φ h2
def HOk (H : Hp) (h : Heap) : Prop := ∀ a o, H a = some o → ObjOk P w H h a o
end
section
variable {P : Program} {w : World} {H H' : Hp} {h h' : Heap} {a : Addr} {o : HO}
theorem ObjOk.lt (x : ObjOk P w H h a o) : a < h.objs.size := by
  cases o with
  | lst xs => obtain ⟨_, _, _, _, e⟩ := x; exact Heap.lt_size e
  | tup xs => obtain ⟨_, _, _, p⟩ := x; exact p.lt
  | dK kvs => obtain ⟨_, _, _, _, o, _, _, e, _⟩ := x; exact Heap.lt_size e
  | dT kvs => obtain ⟨_, _, _, _, o, _, _, e, _⟩ := x; exact Heap.lt_size e
  | set S n => obtain ⟨o, _, _, _, e, _⟩ := x; exact Heap.lt_size e
  | ins C dx fs => obtain ⟨_, _, _, e, _⟩ := x; exact Heap.lt_size e
  | own y => obtain ⟨_, e⟩ := x; exact Heap.lt_size e
  | xd fs => obtain ⟨_, ⟨_, _, _, e, _⟩, _⟩ := x; exact Heap.lt_size e
  | rng lo hi => obtain ⟨_, _, _, e⟩ := x; exact Heap.lt_size e
  | frz ob u => obtain ⟨e, _⟩ := x; exact Heap.lt_size e
  | tbl ps => exact Heap.lt_size (show h.get? a = some _ from x)
  | met f y => exact Heap.lt_size (show h.get? a = some _ from x)
  | ext φ => obtain ⟨_, ⟨_, e⟩, _⟩ := x; exact Heap.lt_size e
theorem Paired.mapP {α β : Type} {F G : α → β → Prop} : ∀ {l₁ : List α} {l₂ : List β}, Paired F l₁ l₂ → (∀ a b, F a b → G a b) → Paired G l₁ l₂
  | _, _, .nil, _ => .nil
  | _, _, .cons r t, f => .cons (f _ _ r) (Paired.mapP t f)
theorem ObjOk.stay (x : ObjOk P w H h a o) (k : ∀ b u, (b = a ∨ H b = some (.own a)) → h.get? b = some u → h'.get? b = some u)
    (ho : ∀ b, H b = some (.own a) → H' b = some (.own a)) (ht : ∀ b xs, H b = some (.tup xs) → H' b = some (.tup xs)) : ObjOk P w H' h' a o := by
  induction o with
  | lst xs => obtain ⟨z, its, n, r, e⟩ := x; exact ⟨z, its, n, r, k _ _ (.inl rfl) e⟩
  | tup xs => obtain ⟨z, its, r, ob, e, c⟩ := x; exact ⟨z, its, r, ob, k _ _ (.inl rfl) e, c⟩
  | dK kvs => obtain ⟨z, y, vs, r, ob, es, ep, e, c⟩ := x; exact ⟨z, y, vs, r, ob, es, ep, k _ _ (.inl rfl) e, c⟩
  | dT kvs =>
    obtain ⟨z, y, xs, r, ob, es, ep, e, c⟩ := x
    exact ⟨z, y, xs, Paired.mapP r fun p q z => ⟨z.1, ht _ _ z.2.1, z.2.2⟩, ob, es, ep, k _ _ (.inl rfl) e, c⟩
  | set S n => obtain ⟨ob, es, ep, t, e, c⟩ := x; exact ⟨ob, es, ep, t, k _ _ (.inl rfl) e, c⟩
  | ins C dx fs =>
    obtain ⟨d, z, ne, e, mA, ⟨od, es, ep, e2, c⟩, r⟩ := x
    exact ⟨ho _ d, z, ne, k _ _ (.inl rfl) e, mA, ⟨od, es, ep, k _ _ (.inr d) e2, c⟩, r⟩
  | own y => obtain ⟨ob, e⟩ := x; exact ⟨ob, k _ _ (.inl rfl) e⟩
  | xd fs => obtain ⟨mA, ⟨od, es, ep, e, c⟩, r⟩ := x; exact ⟨mA, ⟨od, es, ep, k _ _ (.inl rfl) e, c⟩, r⟩
  | rng lo hi => obtain ⟨t, u, v, e⟩ := x; exact ⟨t, u, v, k _ _ (.inl rfl) e⟩
  | frz ob u ih => obtain ⟨e, q⟩ := x; exact ⟨k _ _ (.inl rfl) e, ih q⟩
  | tbl ps =>
    have e : h.get? a = some { cls := .none, data := .fields ps } := x
    show h'.get? a = some { cls := .none, data := .fields ps }
    exact k a _ (.inl rfl) e
  | met f y =>
    have e : h.get? a = some (PySem.W.methodObj (.ref f) (.ref y)) := x
    show h'.get? a = some (PySem.W.methodObj (.ref f) (.ref y))
    exact k a _ (.inl rfl) e
  | ext φ => obtain ⟨p, ⟨o, e⟩, st⟩ := x; exact ⟨st _ _ p fun o q => k _ _ (.inl rfl) q, ⟨o, k _ _ (.inl rfl) e⟩, st⟩
theorem HOk.lt (x : HOk P w H h) (e : H a = some o) : a < h.objs.size := (x a o e).lt
theorem HOk.fresh (x : HOk P w H h) (e : h.objs.size ≤ a) : H a = none := by
  cases q : H a with
  | none => rfl
  | some u => exact absurd (Nat.lt_of_lt_of_le (x.lt q) e) (Nat.lt_irrefl _)
theorem HOk.kept (x : HOk P w H h) (k : ∀ b u, h.get? b = some u → h'.get? b = some u) : HOk P w H h' := fun a o e =>
  (x a o e).stay (fun b u _ q => k b u q) (fun _ q => q) fun _ _ q => q
theorem HOk.laid (x : HOk P w H h) (k : ∀ b u, h.get? b = some u → h'.get? b = some u) (hp : h.objs.size ≤ a) (new : ObjOk P w (upd H a o) h' a o) : HOk P w (upd H a o) h' := fun b u e => by
  have hn := x.fresh hp
  by_cases hb : b = a
  · subst hb; rw [upd_same] at e; cases e; exact new
  · rw [upd_ne hb] at e
    exact (x b u e).stay (fun c v _ q => k c v q) (fun c q => by rw [upd_ne (ne_of_none q hn)]; exact q) fun c xs q => by rw [upd_ne (ne_of_none q hn)]; exact q
end
def Rd (H : Hp) (a : Addr) (u : HO) : Prop := H a = some u ∨ ∃ o, H a = some (.frz o u)
theorem Rd.of {H : Hp} {a : Addr} {u : HO} (h : H a = some u) : Rd H a u := .inl h
theorem Rd.ok {P : Program} {w : World} {H : Hp} {h : Heap} {a : Addr} {u : HO} (r : Rd H a u) (x : HOk P w H h) : ObjOk P w H h a u := by
  rcases r with r | ⟨o, r⟩
  · exact x a u r
  · obtain ⟨_, q⟩ := x a _ r
    exact q
def Mut : Option HO → Prop
  | some (.lst _) => True
  | some (.dK _) => True
  | some (.dT _) => True
  | some (.set _ _) => True
  | some (.ins _ _ _) => True
  | some (.ext _) => True
  | _ => False
section
variable {P : Program} {w : World} {H : Hp} {h h' : Heap} {x e : Addr} {o' : HO}
theorem HOk.write (ok : HOk P w H h) (mu : Mut (H x)) (he : e = x ∨ H e = some (.own x)) (k : ∀ b u, b ≠ e → h.get? b = some u → h'.get? b = some u) (heo : ∃ u, h'.get? e = some u)
    (new : ObjOk P w (upd H x o') h' x o') : HOk P w (upd H x o') h' := fun b u q => by
  have nown : ∀ c y, H c = some (.own y) → c ≠ x := fun c y r z => by subst z; rw [r] at mu; exact mu
  have ntup : ∀ c xs, H c = some (.tup xs) → c ≠ x := fun c xs r z => by subst z; rw [r] at mu; exact mu
  by_cases hb : b = x
  · subst hb; rw [upd_same] at q; cases q; exact new
  · rw [upd_ne hb] at q
    by_cases hbe : b = e
    · have q' : H b = some (.own x) := by
        rcases he with z | z
        · exact absurd (hbe.trans z) hb
        · rw [hbe]; exact z
      rw [q] at q'; cases q'
      obtain ⟨v, hv⟩ := heo
      exact ⟨v, by rw [hbe]; exact hv⟩
    · refine (ok b u q).stay (fun c v hc r => k c v ?_ r) (fun c r => by rw [upd_ne (nown c b r)]; exact r) fun c xs r => by rw [upd_ne (ntup c xs r)]; exact r
      rcases hc with rfl | hc
      · exact hbe
      · rintro rfl
        rcases he with z | z
        · exact nown c b hc z
        · rw [hc] at z; cases z; exact hb rfl
end
structure Un (fs ex : List Addr) (H H' : Hp) (h h' : Heap) : Prop where
  keep : ∀ b o, h.get? b = some o → H b = none → b ∉ fs → b ∉ ex → h'.get? b = some o
  slot : ∀ b o, h.get? b = some o → H b = none → b ∈ fs → b ∉ ex → ∃ sl, h'.get? b = some { o with slots := sl }
  free : ∀ b o, h.get? b = some o → H b = none → b ∉ ex → H' b = none
  there : ∀ b o, h.get? b = some o → b ∉ ex → ∃ o', h'.get? b = some o'
  tups : ∀ b xs, H b = some (.tup xs) → H' b = some (.tup xs)
  frzs : ∀ b o u, H b = some (.frz o u) → H' b = some (.frz o u)
  tbls : ∀ b ps, H b = some (.tbl ps) → ∃ more, H' b = some (.tbl (ps ++ more))
section
variable {fs fs' ex ex' : List Addr} {H H1 H2 : Hp} {h h1 h2 h' : Heap} {a x e : Addr} {o : HO}
theorem Un.any (u : Un fs ex H H1 h h1) {b : Addr} {ob : Obj} (q : h.get? b = some ob) (n : H b = none) (hx : b ∉ ex) : ∃ sl, h1.get? b = some { ob with slots := sl } := by
  by_cases hb : b ∈ fs
  · exact u.slot b ob q n hb hx
  · exact ⟨ob.slots, u.keep b ob q n hb hx⟩
theorem Un.trans (a : Un fs ex H H1 h h1) (b : Un fs ex H1 H2 h1 h2) : Un fs ex H H2 h h2 where
  keep := fun c ob q n hc hx => b.keep c ob (a.keep c ob q n hc hx) (a.free c ob q n hx) hc hx
  slot := fun c ob q n hc hx => by
    obtain ⟨sl, e1⟩ := a.slot c ob q n hc hx
    obtain ⟨sl', e2⟩ := b.slot c _ e1 (a.free c ob q n hx) hc hx
    exact ⟨sl', e2⟩
  free := fun c ob q n hx => by
    obtain ⟨o', e1⟩ := a.there c ob q hx
    exact b.free c o' e1 (a.free c ob q n hx) hx
  there := fun c ob q hx => by
    obtain ⟨o', e1⟩ := a.there c ob q hx
    exact b.there c o' e1 hx
  tups := fun c xs q => b.tups c xs (a.tups c xs q)
  frzs := fun c ob xs q => b.frzs c ob xs (a.frzs c ob xs q)
  tbls := fun c ps q => by
    obtain ⟨m1, e1⟩ := a.tbls c ps q
    obtain ⟨m2, e2⟩ := b.tbls c _ e1
    exact ⟨m1 ++ m2, by rw [e2, Array.append_assoc]⟩
theorem Un.kept (k : ∀ b u, h.get? b = some u → h'.get? b = some u) : Un fs ex H H h h' :=
  ⟨fun b ob q _ _ _ => k b ob q, fun b ob q _ _ _ => ⟨ob.slots, k b ob q⟩, fun _ _ _ n _ => n, fun b ob q _ => ⟨ob, k b ob q⟩, fun _ _ q => q, fun _ _ _ q => q, fun _ ps q => ⟨#[], by rw [q]; simp⟩⟩
theorem Un.refl : Un fs ex H H h h := Un.kept fun _ _ q => q
theorem Un.laid (k : ∀ b u, h.get? b = some u → h'.get? b = some u) (hp : h.objs.size ≤ a) (hn : H a = none) : Un fs ex H (upd H a o) h h' where
  keep := fun b u q _ _ _ => k b u q
  slot := fun b u q _ _ _ => ⟨u.slots, k b u q⟩
  free := fun b u q n _ => by rw [upd_ne (Nat.ne_of_lt (Nat.lt_of_lt_of_le (Heap.lt_size q) hp))]; exact n
  there := fun b u q _ => ⟨u, k b u q⟩
  tups := fun b xs q => by rw [upd_ne (ne_of_none q hn)]; exact q
  frzs := fun b u xs q => by rw [upd_ne (ne_of_none q hn)]; exact q
  tbls := fun b ps q => ⟨#[], by rw [upd_ne (ne_of_none q hn), q]; simp⟩
theorem Un.write (mu : Mut (H x)) (he : e = x ∨ H e = some (.own x)) (k : ∀ b u, b ≠ e → h.get? b = some u → h'.get? b = some u) (heo : ∃ u, h'.get? e = some u) : Un fs ex H (upd H x o) h h' := by
  have hx : ∀ b, H b = none → b ≠ x := fun b n z => by subst z; rw [n] at mu; exact mu
  have hb : ∀ b, H b = none → b ≠ e := fun b n z => by
    subst z
    rcases he with r | r
    · exact hx b n r
    · rw [n] at r; cases r
  have hm : ∀ b u, H b = some u → ¬ Mut (some u) → b ≠ x := fun b u q nm z => by subst z; rw [q] at mu; exact nm mu
  refine ⟨fun b u q n _ _ => k b u (hb b n) q, fun b u q n _ _ => ⟨u.slots, k b u (hb b n) q⟩, fun b u q n _ => by rw [upd_ne (hx b n)]; exact n, fun b u q _ => ?_,
    fun b xs q => by rw [upd_ne (hm b _ q fun z => z)]; exact q, fun b u xs q => by rw [upd_ne (hm b _ q fun z => z)]; exact q, fun b ps q => ⟨#[], by rw [upd_ne (hm b _ q fun z => z), q]; simp⟩⟩
  by_cases hbe : b = e
  · subst hbe; exact heo
  · exact ⟨u, k b u hbe q⟩
end
def trk (h : Heap) (H : Hp) : List Addr := (List.range h.objs.size).filter fun a => (H a).isSome
def hidT (h : Heap) (H : Hp) : Heap := PySem.W.hideAll h (trk h H)
theorem hidT_size (h : Heap) (H : Hp) : (hidT h H).objs.size = h.objs.size := PySem.W.hideAll_size _ _
theorem hidT_get {h : Heap} {H : Hp} {b : Addr} {o : Obj} (e : h.get? b = some o) (n : H b = none) : (hidT h H).get? b = some o :=
  PySem.W.hideAll_get _ e fun hm => by
    have q : (H b).isSome = true := (List.mem_filter.mp hm).2
    rw [n] at q; simp at q
theorem of_hidT {h : Heap} {H : Hp} {b : Addr} {o : Obj} (e : (hidT h H).get? b = some o) : h.get? b = some o ∧ H b = none := by
  have e' : h.get? b = some o := PySem.W.of_hideAll (trk h H) e
  refine ⟨e', ?_⟩
  cases q : H b with
  | none => rfl
  | some x =>
    have hm : b ∈ trk h H := List.mem_filter.mpr ⟨List.mem_range.mpr (Heap.lt_size e'), by simp [q]⟩
    have z : (hidT h H).get? b = none := PySem.W.hideAll_none (trk h H) hm
    rw [z] at e; cases e
structure Mod (K : PySem.W.Frag) (mg : Str → Option Value) (base : Heap) : Prop where
  kin : K.In base
  glob : base.Ns mainGlobals mg
  blt : ∃ mb, base.Ns builtinsNs mb ∧ ∀ x : Str, x ≠ "__name__" → mb x = bootBuiltins x
  nolimit : base.NoLimit
/-- the context: a def's body (or a comprehension's block) running. base: fixed through the whole law; s₀, H₀: the entry; outer: the frames whose slots others may change (a def's callers); stack: all frames that run;
   ex: iterators that were made ahead of the entry and are walked here (a comprehension's); fn: the names whose cells were made at the entry (a def: all; a comprehension's block: its own); calm: not within an except suite; pn: pins that every state bears; xe: what is wanted of an exception that leaves the code -/
structure Cx where
  prog : Program
  w : World
  K : PySem.W.Frag
  mg : Str → Option Value
  base : Heap
  A : Around
  N : List Str
  s₀ : Shared
  H₀ : Hp
  env : Env
  outer : List Env
  stack : List Env
  ex : List Addr
  fn : Str → Bool
  calm : Bool
  pn : List (Addr × Obj)
  xe : Value → Shared → Prop
def frs (l : List Env) : List Addr := l.filterMap (·.frame)
abbrev Cx.fs (X : Cx) : List Addr := frs X.outer
def Vis (sc : Scope) (x : Str) : Prop := sc.names.lookup x = some .local ∨ sc.names.lookup x = some .cell ∨ sc.names.lookup x = some .free
def Loc (sc : Scope) (x : Str) : Prop := sc.names.lookup x = some .local ∨ sc.names.lookup x = some .cell
def Look (env : Env) (h : Heap) (m : Str → Option Value) (x : Str) (u : Value) : Prop :=
  (env.kindOf x = some .local ∧ m x = some u) ∨ ((env.kindOf x = some .cell ∨ env.kindOf x = some .free) ∧ ∃ c, env.cells.lookup x = some c ∧ h.IsCell c (some u))
structure Cx.Ok (X : Cx) : Prop where
  mod : Mod X.K X.mg X.base
  kind : X.env.scope.kind = .function
  glob : X.env.globals = mainGlobals
  blt : X.env.builtins = builtinsNs
  above : X.s₀.heap.objs.size ≤ X.env.locals
  inj : ∀ x y c, X.env.cells.lookup x = some c → X.env.cells.lookup y = some c → x = y
  has : ∀ x, (X.env.kindOf x = some .cell ∨ X.env.kindOf x = some .free) → ∃ c, X.env.cells.lookup x = some c
  cab : ∀ x c, X.fn x = true → X.env.cells.lookup x = some c → X.s₀.heap.objs.size ≤ c
  hd : X.calm = true → X.A.handled = none
  frames : X.A.frames = some X.stack
  stk : X.stack = X.outer ∨ (X.stack = X.env :: X.outer ∧ X.env.frame = some X.env.locals)
  exf : ∀ b ∈ X.ex, b ≠ X.env.locals ∧ ∀ x c, X.env.cells.lookup x = some c → c ≠ b
  bs : ∀ b o, X.base.get? b = some o → X.s₀.heap.get? b = some o ∧ X.H₀ b = none
  bsz : X.base.objs.size ≤ X.s₀.heap.objs.size
  noex : ∀ b o, X.base.get? b = some o → b ∉ X.ex
  exfs : ∀ b ∈ X.ex, b ∉ X.fs
  funs : X.s₀.heap.FunFrames X.base X.outer
  frf : ∀ b ∈ X.fs, X.H₀ b = none
structure Inv (X : Cx) (pins : List (Addr × Obj)) (σ : List (Option V)) (H : Hp) (s : Shared) : Prop where
  ok : X.Ok
  os : s.os = X.s₀.os
  bare : AllBare s.gens
  base : Un X.fs X.ex X.H₀ H X.s₀.heap s.heap
  loc : ∃ m, s.heap.Ns X.env.locals m ∧ ∀ (i : Nat) (x : Str) (v : V), X.N[i]? = some x → σ[i]? = some (some v) → Vis X.env.scope x → ∃ u, RelV v u ∧ Look X.env s.heap m x u
  cell : ∀ x c, X.env.cells.lookup x = some c → ∃ v, s.heap.IsCell c v
  free : H X.env.locals = none
  freeC : ∀ x c, X.env.cells.lookup x = some c → H c = none
  pin : ∀ p ∈ X.pn ++ pins, s.heap.get? p.1 = some p.2 ∧ H p.1 = none ∧ p.1 ≠ X.env.locals ∧ p.1 ∉ X.fs ∧ ∀ v, p.2.data ≠ .cell v
  hok : HOk X.prog X.w H s.heap
  len : σ.length = X.N.length
section
variable {X : Cx} {pins : List (Addr × Obj)} {σ : List (Option V)} {H H' : Hp} {s : Shared} {h' : Heap}
theorem Cx.Ok.nofr (ok : X.Ok) {b : Addr} {o : Obj} (e : X.base.get? b = some o) : b ∉ X.fs := fun hb => by
  have := (ok.funs.mem hb).1
  rw [e] at this; cases this
theorem Inv.bs (I : Inv X pins σ H s) : ∀ b o, X.base.get? b = some o → s.heap.get? b = some o ∧ H b = none := fun b o e =>
  ⟨I.base.keep b o (I.ok.bs b o e).1 (I.ok.bs b o e).2 (I.ok.nofr e) (I.ok.noex b o e), I.base.free b o (I.ok.bs b o e).1 (I.ok.bs b o e).2 (I.ok.noex b o e)⟩
theorem Inv.bk (I : Inv X pins σ H s) : ∀ b o, X.base.get? b = some o → s.heap.get? b = some o := fun b o e => (I.bs b o e).1
theorem Inv.mod (I : Inv X pins σ H s) : Mod X.K X.mg X.base := I.ok.mod
theorem Inv.kIn (I : Inv X pins σ H s) : X.K.In s.heap := I.ok.mod.kin.keeps I.bk
theorem Inv.fr (I : Inv X pins σ H s) : ∃ m, Fr X.base X.env.locals s.heap m :=
  let ⟨m, hn, _⟩ := I.loc
  ⟨m, hn, I.bk, Nat.le_trans I.ok.bsz I.ok.above⟩
theorem Inv.lt (I : Inv X pins σ H s) : X.env.locals < s.heap.objs.size := let ⟨_, hn, _⟩ := I.loc; hn.lt
theorem Inv.sz (I : Inv X pins σ H s) : X.s₀.heap.objs.size ≤ s.heap.objs.size := Nat.le_trans I.ok.above (Nat.le_of_lt I.lt)
theorem Inv.nofs (I : Inv X pins σ H s) {a : Addr} (h : s.heap.objs.size ≤ a) : a ∉ X.fs := fun hb => by
  obtain ⟨_, o, ho, _⟩ := I.ok.funs.mem hb
  exact absurd (Nat.lt_of_lt_of_le (Heap.lt_size ho) (Nat.le_trans I.sz h)) (Nat.lt_irrefl _)
theorem Inv.cne (I : Inv X pins σ H s) : ∀ x c, X.env.cells.lookup x = some c → c ≠ X.env.locals := fun x c e z => by
  obtain ⟨v, o, ho, hd⟩ := I.cell x c e
  obtain ⟨m, ⟨o', es, ep, ho', hd', _⟩, _⟩ := I.loc
  rw [z, ho'] at ho; cases ho; rw [hd'] at hd; cases hd
theorem Inv.funs (I : Inv X pins σ H s) : s.heap.FunFrames X.base X.outer := by
  have all : ∀ (l : List Env), (∀ b ∈ frs l, b ∈ X.fs) → X.s₀.heap.FunFrames X.base l → s.heap.FunFrames X.base l := by
    intro l
    induction l with
    | nil => intro _ _; trivial
    | cons env r ih =>
      intro hs hl
      obtain ⟨hk, ⟨L, o, hf, hn, ho, hd⟩, hr⟩ := hl
      have hL : L ∈ X.fs := hs L (by unfold frs; rw [List.filterMap_cons, hf]; exact List.mem_cons_self)
      obtain ⟨sl, e⟩ := I.base.slot L o ho (I.ok.frf L hL) hL fun z => I.ok.exfs L z hL
      exact ⟨hk, ⟨L, _, hf, hn, e, hd⟩, ih (fun b hb => hs b (by unfold frs; rw [List.filterMap_cons, hf]; exact List.mem_cons_of_mem _ hb)) hr⟩
  exact all X.outer (fun _ hb => hb) I.ok.funs
theorem Inv.stack (I : Inv X pins σ H s) : s.heap.FunFrames X.base X.stack := by
  rcases I.ok.stk with e | ⟨e, hf⟩
  · rw [e]; exact I.funs
  · rw [e]
    obtain ⟨m, hn, _⟩ := I.loc
    refine .cons (by rw [I.ok.kind]; decide) hf hn ?_ I.funs
    exact Heap.get?_none_of_le (Nat.le_trans I.ok.bsz I.ok.above)
theorem Inv.stkSub (I : Inv X pins σ H s) : ∀ b ∈ frs X.stack, b ∈ X.env.locals :: X.fs := fun b hb => by
  rcases I.ok.stk with e | ⟨e, hf⟩
  · rw [e] at hb; exact List.mem_cons_of_mem _ hb
  · rw [e] at hb
    unfold frs at hb
    rw [List.filterMap_cons, hf] at hb
    exact hb
theorem Inv.stkFree (I : Inv X pins σ H s) : ∀ b ∈ frs X.stack, H b = none := fun b hb => by
  rcases List.mem_cons.mp (I.stkSub b hb) with e | hb
  · rw [e]; exact I.free
  · obtain ⟨_, o, ho, _⟩ := I.ok.funs.mem hb
    exact I.base.free b o ho (I.ok.frf b hb) fun z => I.ok.exfs b z hb
theorem Inv.step {g' : Array GenState} {t' : Nat} {d' : Drawn} {ch : List Addr} (I : Inv X pins σ H s)
    (hch : ∀ b ∈ ch, (b ∈ X.ex ∨ X.s₀.heap.objs.size ≤ b) ∧ b ≠ X.env.locals ∧ (∀ x c, X.env.cells.lookup x = some c → c ≠ b) ∧ ∀ p ∈ X.pn ++ pins, p.1 ≠ b)
    (keep : ∀ b o, b ≠ X.env.locals → b ∉ X.fs → b ∉ ch → s.heap.get? b = some o → H b = none → h'.get? b = some o)
    (slot : ∀ b o, b ≠ X.env.locals → b ∈ X.fs → b ∉ ch → s.heap.get? b = some o → H b = none → ∃ sl, h'.get? b = some { o with slots := sl }) (free : ∀ b o, b ∉ ch → s.heap.get? b = some o → H b = none → H' b = none)
    (there : ∀ b o, b ∉ ch → s.heap.get? b = some o → ∃ o', h'.get? b = some o')
    (tups : ∀ b xs, H b = some (.tup xs) → H' b = some (.tup xs)) (frzs : ∀ b o u, H b = some (.frz o u) → H' b = some (.frz o u)) (tbls : ∀ b ps, H b = some (.tbl ps) → ∃ more, H' b = some (.tbl (ps ++ more)))
    (ns : ∀ m, s.heap.Ns X.env.locals m → h'.Ns X.env.locals m) (hok : HOk X.prog X.w H' h') (hg : AllBare g') :
    Inv X pins σ H' { s with heap := h', gens := g', drawn := d', toks := t' } := by
  have neL : ∀ b o, X.s₀.heap.get? b = some o → b ≠ X.env.locals := fun b o e => Nat.ne_of_lt (Nat.lt_of_lt_of_le (Heap.lt_size e) I.ok.above)
  have neC : ∀ b o, X.s₀.heap.get? b = some o → b ∉ X.ex → b ∉ ch := fun b o e hx hb => by
    rcases (hch b hb).1 with z | z
    · exact hx z
    · exact absurd (Nat.lt_of_lt_of_le (Heap.lt_size e) z) (Nat.lt_irrefl _)
  have cellK : ∀ x c, X.env.cells.lookup x = some c → ∀ v, s.heap.IsCell c v → h'.IsCell c v := fun x c e v ⟨o, ho, hd⟩ => by
    have nch : c ∉ ch := fun z => (hch c z).2.2.1 x c e rfl
    by_cases hc : c ∈ X.fs
    · obtain ⟨sl, q⟩ := slot c o (I.cne x c e) hc nch ho (I.freeC x c e)
      exact ⟨_, q, hd⟩
    · exact ⟨o, keep c o (I.cne x c e) hc nch ho (I.freeC x c e), hd⟩
  refine ⟨I.ok, I.os, hg, ⟨fun b o e n hb hx => ?_, fun b o e n hb hx => ?_, fun b o e n hx => ?_, fun b o e hx => ?_, fun b xs e => tups b xs (I.base.tups b xs e), fun b o xs e => frzs b o xs (I.base.frzs b o xs e), fun b ps e => ?_⟩, ?_, fun x c e => ?_, ?_, fun x c e => ?_, fun p hp => ?_, hok, I.len⟩
  · exact keep b o (neL b o e) hb (neC b o e hx) (I.base.keep b o e n hb hx) (I.base.free b o e n hx)
  · obtain ⟨sl, e1⟩ := I.base.slot b o e n hb hx
    obtain ⟨sl', e2⟩ := slot b _ (neL b o e) hb (neC b o e hx) e1 (I.base.free b o e n hx)
    exact ⟨sl', e2⟩
  · obtain ⟨o', e1⟩ := I.base.there b o e hx
    exact free b o' (neC b o e hx) e1 (I.base.free b o e n hx)
  · obtain ⟨o', e1⟩ := I.base.there b o e hx
    exact there b o' (neC b o e hx) e1
  · obtain ⟨m1, e1⟩ := I.base.tbls b ps e
    obtain ⟨m2, e2⟩ := tbls b _ e1
    exact ⟨m1 ++ m2, by rw [e2, Array.append_assoc]⟩
  · obtain ⟨m, hn, hl⟩ := I.loc
    refine ⟨m, ns m hn, fun i x v e1 e2 e3 => ?_⟩
    obtain ⟨u, r, l⟩ := hl i x v e1 e2 e3
    refine ⟨u, r, ?_⟩
    rcases l with l | ⟨k, c, e, z⟩
    · exact .inl l
    · exact .inr ⟨k, c, e, cellK x c e _ z⟩
  · obtain ⟨v, z⟩ := I.cell x c e
    exact ⟨v, cellK x c e v z⟩
  · obtain ⟨m, ⟨o, _, _, ho, _⟩, _⟩ := I.loc
    exact free _ o (fun z => (hch _ z).2.1 rfl) ho I.free
  · obtain ⟨v, o, ho, hd⟩ := I.cell x c e
    exact free c o (fun z => (hch c z).2.2.1 x c e rfl) ho (I.freeC x c e)
  · obtain ⟨e, n, ne, nf, d⟩ := I.pin p hp
    have nch : p.1 ∉ ch := fun z => (hch p.1 z).2.2.2 p hp rfl
    exact ⟨keep p.1 p.2 ne nf nch e n, free p.1 p.2 nch e n, ne, nf, d⟩
theorem Inv.un {t' : Nat} (I : Inv X pins σ H s) (u : Un X.fs [] H H' s.heap h') (hok : HOk X.prog X.w H' h') : Inv X pins σ H' { s with heap := h', toks := t' } := by
  obtain ⟨m, ⟨o, es, ep, ho, r⟩, _⟩ := id I.loc
  obtain ⟨sl, hL⟩ := u.any ho I.free (by simp)
  exact I.step (g' := s.gens) (d' := s.drawn) (ch := []) (fun _ z => nomatch z) (fun b o _ hb _ e n => u.keep b o e n hb (by simp)) (fun b o _ hb _ e n => u.slot b o e n hb (by simp)) (fun b o _ e n => u.free b o e n (by simp)) (fun b o _ e => u.there b o e (by simp)) u.tups u.frzs u.tbls (fun m' hm => by
    obtain ⟨o', es', ep', ho', r'⟩ := hm
    rw [ho] at ho'; cases ho'
    exact ⟨_, es', ep', hL, r'⟩) hok I.bare
theorem Inv.call {g' : Array GenState} {t' : Nat} {d' : Drawn} {ch : List Addr} (I : Inv X pins σ H s) (u : Un (frs X.stack) ch H H' s.heap h') (hok : HOk X.prog X.w H' h') (hg : AllBare g')
    (hch : ∀ b ∈ ch, (b ∈ X.ex ∨ X.s₀.heap.objs.size ≤ b) ∧ b ≠ X.env.locals ∧ (∀ x c, X.env.cells.lookup x = some c → c ≠ b) ∧ ∀ p ∈ X.pn ++ pins, p.1 ≠ b) :
    Inv X pins σ H' { s with heap := h', gens := g', drawn := d', toks := t' } := by
  obtain ⟨m, ⟨o, es, ep, ho, r⟩, _⟩ := id I.loc
  obtain ⟨sl, hL⟩ := u.any ho I.free fun z => (hch _ z).2.1 rfl
  exact I.step (ch := ch) hch (fun b o hL hb hc e n => u.keep b o e n (fun z => (List.mem_cons.mp (I.stkSub b z)).elim hL hb) hc) (fun b o _ _ hc e n => u.any e n hc) (fun b o hc e n => u.free b o e n hc) (fun b o hc e => u.there b o e hc) u.tups u.frzs u.tbls (fun m' hm => by
    obtain ⟨o', es', ep', ho', r'⟩ := hm
    rw [ho] at ho'; cases ho'
    exact ⟨_, es', ep', hL, r'⟩) hok hg
theorem Inv.turned {t' : Nat} {it : Addr} (I : Inv X pins σ H s) (k : ∀ b o, b ≠ it → s.heap.get? b = some o → h'.get? b = some o) (hn : H it = none) (hL : it ≠ X.env.locals)
    (h1 : it ∈ X.ex ∨ X.s₀.heap.objs.size ≤ it) (h2 : ∀ x c, X.env.cells.lookup x = some c → c ≠ it) (h3 : ∀ p ∈ X.pn ++ pins, p.1 ≠ it) : Inv X pins σ H { s with heap := h', toks := t' } := by
  have nit : ∀ b u, H b = some u → b ≠ it := fun b u e z => by rw [z, hn] at e; cases e
  refine I.step (g' := s.gens) (d' := s.drawn) (ch := [it]) (fun b hb => ?_) (fun b o _ _ hc e _ => k b o (fun z => hc (by simp [z])) e) (fun b o _ _ hc e _ => ⟨o.slots, k b o (fun z => hc (by simp [z])) e⟩) (fun _ _ _ _ n => n)
    (fun b o hc e => ⟨o, k b o (fun z => hc (by simp [z])) e⟩) (fun _ _ e => e) (fun _ _ _ e => e) (fun b ps e => ⟨#[], by rw [e]; simp⟩) (fun m hm => ?_) (fun b u e => ?_) I.bare
  · have e : b = it := by simpa using hb
    subst e
    exact ⟨h1, hL, h2, h3⟩
  · obtain ⟨o, es, ep, ho, r⟩ := hm
    exact ⟨o, es, ep, k _ o (Ne.symm hL) ho, r⟩
  · refine (I.hok b u e).stay (fun c v hc q => k c v ?_ q) (fun _ q => q) fun _ _ q => q
    rcases hc with z | z
    · rw [z]; exact nit b u e
    · exact nit c _ z
theorem Inv.tok (I : Inv X pins σ H s) (t : Nat) : Inv X pins σ H { s with toks := t } := I.un (h' := s.heap) (t' := t) Un.refl I.hok
theorem Inv.kept {t' : Nat} (I : Inv X pins σ H s) (k : ∀ b u, s.heap.get? b = some u → h'.get? b = some u) : Inv X pins σ H { s with heap := h', toks := t' } := I.un (Un.kept k) (I.hok.kept k)
theorem Inv.laid {a : Addr} {o : HO} {t' : Nat} (I : Inv X pins σ H s) (k : ∀ b u, s.heap.get? b = some u → h'.get? b = some u) (hp : s.heap.objs.size ≤ a) (new : ObjOk X.prog X.w (upd H a o) h' a o) :
    Inv X pins σ (upd H a o) { s with heap := h', toks := t' } := I.un (Un.laid k hp (I.hok.fresh hp)) (I.hok.laid k hp new)
theorem Inv.write {x e : Addr} {o : HO} {t' : Nat} (I : Inv X pins σ H s) (mu : Mut (H x)) (he : e = x ∨ H e = some (.own x)) (k : ∀ b u, b ≠ e → s.heap.get? b = some u → h'.get? b = some u) (heo : ∃ u, h'.get? e = some u)
    (new : ObjOk X.prog X.w (upd H x o) h' x o) : Inv X pins σ (upd H x o) { s with heap := h', toks := t' } := I.un (Un.write mu he k heo) (I.hok.write mu he k heo new)
theorem Inv.pins_of {pins' : List (Addr × Obj)} (I : Inv X pins σ H s) (h : ∀ p ∈ pins', s.heap.get? p.1 = some p.2 ∧ H p.1 = none ∧ p.1 ≠ X.env.locals ∧ p.1 ∉ X.fs ∧ ∀ v, p.2.data ≠ .cell v) : Inv X pins' σ H s :=
  ⟨I.ok, I.os, I.bare, I.base, I.loc, I.cell, I.free, I.freeC, fun p hp => (List.mem_append.mp hp).elim (fun z => I.pin p (List.mem_append_left _ z)) (h p), I.hok, I.len⟩
theorem nodup_ix {N : List Str} (hN : N.Nodup) {i j : Nat} {x : Str} (a : N[i]? = some x) (b : N[j]? = some x) : i = j := by
  obtain ⟨h1, e1⟩ := List.getElem?_eq_some_iff.mp a
  obtain ⟨h2, e2⟩ := List.getElem?_eq_some_iff.mp b
  exact (List.getElem_inj hN).mp (e1.trans e2.symm)
theorem store_ok2 {M : Model} {A : Around} {E : Value → Shared → Prop} {i : Nat} {x : Str} {v : V} {u : Value} {Q : Unit → Shared → Prop} (I : Inv X pins σ H s) (hN : X.N.Nodup) (hi : X.N[i]? = some x) (hx : Loc X.env.scope x) (r : RelV v u)
    (h : ∀ s', Inv X pins (σ.set i (some v)) H s' → (∃ a, Heap.SameBut a s.heap s'.heap ∧ (a = X.env.locals ∨ X.env.cells.lookup x = some a)) → Q () s') (hf : X.fn x = true ∨ X.env.scope.names.lookup x = some .local := by first | exact .inl rfl | exact .inr rfl | assumption) : wpAny M A (storeName X.env x u) Q E s := by
  obtain ⟨m, hn, hl⟩ := id I.loc
  have hcls : (X.env.scope.kind == .class || (X.env.scope.kind == .module && X.env.locals != X.env.globals)) = false := by rw [I.ok.kind]; rfl
  have hiσ : i < σ.length := by rw [I.len]; exact (List.getElem?_eq_some_iff.mp hi).1
  have cne := I.cne
  have tracked : ∀ {a : Addr} {h' : Heap}, (∃ o, s.heap.get? a = some o ∧ H a = none) → Heap.SameBut a s.heap h' → HOk X.prog X.w H h' := fun {a h'} ha hs b ob e => by
    obtain ⟨_, _, hfree⟩ := ha
    refine (I.hok b ob e).stay (fun c w' hc q => (hs.2 c ?_).trans q) (fun _ q => q) fun _ _ q => q
    rintro rfl
    rcases hc with rfl | hc
    · rw [hfree] at e; cases e
    · rw [hfree] at hc; cases hc
  rcases hx with hk | hk
  · refine wpAny_storeName_local hk hn (fun h' hn' hs => ?_) hcls
    obtain ⟨oL, _, _, hoL, _⟩ := id hn
    refine h _ ⟨I.ok, I.os, I.bare, ⟨fun b o e n hb hx => ?_, fun b o e n hb hx => ?_, I.base.free, fun b o e hx => ?_, I.base.tups, I.base.frzs, I.base.tbls⟩, ⟨_, hn', fun j y v' e1 e2 e3 => ?_⟩, fun y c e => ?_, I.free, I.freeC, fun p hp => ?_, tracked ⟨oL, hoL, I.free⟩ hs, by simpa using I.len⟩ ⟨_, hs, .inl rfl⟩
    · exact (hs.2 b (Nat.ne_of_lt (Nat.lt_of_lt_of_le (Heap.lt_size e) I.ok.above))).trans (I.base.keep b o e n hb hx)
    · obtain ⟨sl, e1⟩ := I.base.slot b o e n hb hx
      exact ⟨sl, (hs.2 b (Nat.ne_of_lt (Nat.lt_of_lt_of_le (Heap.lt_size e) I.ok.above))).trans e1⟩
    · obtain ⟨o', e1⟩ := I.base.there b o e hx
      exact ⟨o', (hs.2 b (Nat.ne_of_lt (Nat.lt_of_lt_of_le (Heap.lt_size e) I.ok.above))).trans e1⟩
    · by_cases hj : j = i
      · subst hj
        rw [hi] at e1; cases e1
        rw [List.getElem?_set_self hiσ] at e2
        cases e2
        exact ⟨u, r, .inl ⟨hk, by simp⟩⟩
      · rw [List.getElem?_set_ne (Ne.symm hj)] at e2
        obtain ⟨u', r', q⟩ := hl j y v' e1 e2 e3
        refine ⟨u', r', ?_⟩
        rcases q with ⟨k, e⟩ | ⟨k, c, e, z⟩
        · refine .inl ⟨k, ?_⟩
          have : y ≠ x := fun e => hj (nodup_ix hN e1 (e ▸ hi))
          simp [this, e]
        · exact .inr ⟨k, c, e, z.sameBut hs (cne y c e)⟩
    · obtain ⟨w', z⟩ := I.cell y c e
      exact ⟨w', z.sameBut hs (cne y c e)⟩
    · obtain ⟨e, n, ne, nf, d⟩ := I.pin p hp
      exact ⟨(hs.2 p.1 ne).trans e, n, ne, nf, d⟩
  · have hfn : X.fn x = true := by
      rcases hf with z | z
      · exact z
      · rw [z] at hk; cases hk
    obtain ⟨c, hc⟩ := I.ok.has x (.inl hk)
    obtain ⟨w', z⟩ := I.cell x c hc
    refine wpAny_storeName_cell I.ok.kind hk hc z (fun h' hc' hs => ?_)
    obtain ⟨oc, hoc, hocd⟩ := id z
    refine h { s with heap := h' } ⟨I.ok, I.os, I.bare, ⟨fun b o e n hb hx => ?_, fun b o e n hb hx => ?_, I.base.free, fun b o e hx => ?_, I.base.tups, I.base.frzs, I.base.tbls⟩, ⟨m, hn.sameBut hs (Ne.symm (cne x c hc)), fun j y v' e1 e2 e3 => ?_⟩, fun y c' e => ?_, I.free, I.freeC, fun p hp => ?_, tracked ⟨oc, hoc, I.freeC x c hc⟩ hs, by simpa using I.len⟩ ⟨c, hs, .inr hc⟩
    · exact (hs.2 b (Nat.ne_of_lt (Nat.lt_of_lt_of_le (Heap.lt_size e) (I.ok.cab x c hfn hc)))).trans (I.base.keep b o e n hb hx)
    · obtain ⟨sl, e1⟩ := I.base.slot b o e n hb hx
      exact ⟨sl, (hs.2 b (Nat.ne_of_lt (Nat.lt_of_lt_of_le (Heap.lt_size e) (I.ok.cab x c hfn hc)))).trans e1⟩
    · obtain ⟨o', e1⟩ := I.base.there b o e hx
      exact ⟨o', (hs.2 b (Nat.ne_of_lt (Nat.lt_of_lt_of_le (Heap.lt_size e) (I.ok.cab x c hfn hc)))).trans e1⟩
    · by_cases hj : j = i
      · subst hj
        rw [hi] at e1; cases e1
        rw [List.getElem?_set_self hiσ] at e2
        cases e2
        exact ⟨u, r, .inr ⟨.inl hk, c, hc, hc'⟩⟩
      · rw [List.getElem?_set_ne (Ne.symm hj)] at e2
        obtain ⟨u', r', q⟩ := hl j y v' e1 e2 e3
        refine ⟨u', r', ?_⟩
        rcases q with q | ⟨k, c', e, z'⟩
        · exact .inl q
        · refine .inr ⟨k, c', e, z'.sameBut hs ?_⟩
          rintro rfl
          exact hj (nodup_ix hN e1 (I.ok.inj _ _ _ e hc ▸ hi))
    · by_cases hcc : c' = c
      · subst hcc; exact ⟨_, hc'⟩
      · obtain ⟨w2, z2⟩ := I.cell y c' e
        exact ⟨w2, z2.sameBut hs hcc⟩
    · obtain ⟨e, n, ne, nf, d⟩ := I.pin p hp
      refine ⟨(hs.2 p.1 ?_).trans e, n, ne, nf, d⟩
      intro q
      rw [q, hoc] at e
      have q' : oc = p.2 := Option.some.inj e
      exact d w' (by rw [← q']; exact hocd)
theorem store_ok {M : Model} {A : Around} {E : Value → Shared → Prop} {i : Nat} {x : Str} {v : V} {u : Value} {Q : Unit → Shared → Prop} (I : Inv X pins σ H s) (hN : X.N.Nodup) (hi : X.N[i]? = some x) (hx : Loc X.env.scope x) (r : RelV v u)
    (h : ∀ s', Inv X pins (σ.set i (some v)) H s' → Q () s') (hf : X.fn x = true ∨ X.env.scope.names.lookup x = some .local := by first | exact .inl rfl | exact .inr rfl | assumption) : wpAny M A (storeName X.env x u) Q E s :=
  store_ok2 I hN hi hx r (fun s' I' _ => h s' I') hf
theorem Inv.call' {s' : Shared} {ch : List Addr} (I : Inv X pins σ H s) (ho : s'.os = s.os) (u : Un (frs X.stack) ch H H' s.heap s'.heap) (hok : HOk X.prog X.w H' s'.heap) (hg : AllBare s'.gens)
    (hch : ∀ b ∈ ch, (b ∈ X.ex ∨ X.s₀.heap.objs.size ≤ b) ∧ b ≠ X.env.locals ∧ (∀ x c, X.env.cells.lookup x = some c → c ≠ b) ∧ ∀ p ∈ X.pn ++ pins, p.1 ≠ b) : Inv X pins σ H' s' := by
  obtain ⟨h', g', d', t', o'⟩ := s'
  have e : o' = s.os := ho
  subst e
  exact I.call (g' := g') (t' := t') (d' := d') u hok hg hch
end
abbrev XK := Value → Option Addr → Hp → Prop
abbrev St := List (Option V)
abbrev VK := V → Hp → Prop
abbrev TE := St → Hp → VK → Prop
abbrev TT := St → Hp → (Bool → Hp → Prop) → Prop
abbrev TA := St → Hp → (List V → Hp → Prop) → Prop
structure Ends where
  nx : St → Hp → Prop
  rt : VK
  bk : St → Hp → Prop := fun _ _ => False
  ct : St → Hp → Prop := fun _ _ => False
abbrev TS := Ends → St → Hp → Prop
def EP (X : Cx) (pins : List (Addr × Obj)) (σ : St) (Q : VK) (u : Value) (s' : Shared) : Prop := ∃ v H', Inv X pins σ H' s' ∧ RelV v u ∧ Q v H'
def TP (X : Cx) (pins : List (Addr × Obj)) (σ : St) (Q : Bool → Hp → Prop) (b : Bool) (s' : Shared) : Prop := ∃ H', Inv X pins σ H' s' ∧ Q b H'
def AP (X : Cx) (pins : List (Addr × Obj)) (σ : St) (Q : List V → Hp → Prop) (us : List Value) (s' : Shared) : Prop := ∃ vs H', Inv X pins σ H' s' ∧ Vals vs us ∧ Q vs H'
def SP (X : Cx) (pins : List (Addr × Obj)) (D : Ends) (f : Flow) (s' : Shared) : Prop :=
  match f with
  | .next => ∃ σ' H', Inv X pins σ' H' s' ∧ D.nx σ' H'
  | .brk => ∃ σ' H', Inv X pins σ' H' s' ∧ D.bk σ' H'
  | .cont => ∃ σ' H', Inv X pins σ' H' s' ∧ D.ct σ' H'
  | .ret u => ∃ v σ' H', Inv X pins σ' H' s' ∧ RelV v u ∧ D.rt v H'
def PE (X : Cx) (e : Expr) (t : TE) : Prop :=
  ∀ (pins : List (Addr × Obj)) (s : Shared) (σ : St) (H : Hp) (Q : VK), Inv X pins σ H s → t σ H Q → wpAny (model X.prog X.w) X.A (eval e X.env) (EP X pins σ Q) X.xe s
def PT (X : Cx) (e : Expr) (t : TT) : Prop :=
  ∀ (pins : List (Addr × Obj)) (s : Shared) (σ : St) (H : Hp) (Q : Bool → Hp → Prop), Inv X pins σ H s → t σ H Q → wpAny (model X.prog X.w) X.A (isTrue e X.env (eval e X.env)) (TP X pins σ Q) X.xe s
def PW (X : Cx) (e : Expr) (t : TT) : Prop :=
  ∀ (whole : Sem Value) (pins : List (Addr × Obj)) (s : Shared) (σ : St) (H : Hp) (Q : Bool → Hp → Prop), Inv X pins σ H s → t σ H Q → wpAny (model X.prog X.w) X.A (isTrue e X.env whole) (TP X pins σ Q) X.xe s
theorem PW.pt {X : Cx} {e : Expr} {t : TT} (h : PW X e t) : PT X e t := h _
def PA (X : Cx) (es : List Expr) (t : TA) : Prop :=
  ∀ (pos : Pos) (pins : List (Addr × Obj)) (s : Shared) (σ : St) (H : Hp) (Q : List V → Hp → Prop), Inv X pins σ H s → t σ H Q → wpAny (model X.prog X.w) X.A (spliced (backTo pos (starEach es X.env))) (AP X pins σ Q) X.xe s
def PS (X : Cx) (st : Stmt) (t : TS) : Prop :=
  ∀ (pins : List (Addr × Obj)) (s : Shared) (σ : St) (H : Hp) (D : Ends), Inv X pins σ H s → t D σ H → wpAny (model X.prog X.w) X.A (exec st X.env) (SP X pins D) X.xe s
def PSs (X : Cx) (st : List Stmt) (t : TS) : Prop :=
  ∀ (pins : List (Addr × Obj)) (s : Shared) (σ : St) (H : Hp) (D : Ends), Inv X pins σ H s → t D σ H → wpAny (model X.prog X.w) X.A (execs st X.env) (SP X pins D) X.xe s
theorem thn {α : Type} {t : Sem α} {Q Q' : α → Shared → Prop} {M : Model} {A : Around} {E : Value → Shared → Prop} {s : Shared} (h : wpAny M A t Q E s) (hQ : ∀ a s, Q a s → Q' a s) : wpAny M A t Q' E s := wpAny_mono h hQ fun _ _ x => x
section
variable {X : Cx}
def tVar (i : Nat) : TE := fun σ H Q => ∃ v, σ[i]? = some (some v) ∧ Q v H
def tC (v : V) : TE := fun _ H Q => Q v H
theorem pe_var {i : Nat} {x : Str} {pos : Pos} (hN : X.N[i]? = some x) (hv : Vis X.env.scope x) (hd : (x == ("__debug__" : Str)) = false := by decide) (hcd : (x == ("__classdict__" : Str)) = false := by decide) : PE X (.Name x pos) (tVar i) := by
  intro pins s σ H Q I h
  obtain ⟨v, e, h⟩ := h
  obtain ⟨m, hn, hl⟩ := I.loc
  obtain ⟨u, r, l⟩ := hl i x v hN e hv
  have fin : EP X pins σ Q u s := ⟨v, H, I, r, h⟩
  rcases l with ⟨hk, hm⟩ | ⟨hk, c, hc, hcell⟩
  · exact wpAny_Name (wpAny_loadName_local I.ok.kind hk hn hm fin) hd
  · rcases hk with hk | hk
    · exact wpAny_Name (wpAny_loadName_cell I.ok.kind hk hc hcell fin) hd
    · exact wpAny_Name (wpAny_loadName_free I.ok.kind hk hc hcell fin hcd) hd
theorem pe_int {i j pos} : PE X (.Constant (.int i) j pos) (tC (.int i)) := fun _ _ _ H _ I h => wpAny_Constant_int ⟨.int i, H, I.tok _, ⟨_, rfl⟩, h⟩
theorem pe_bl {b j pos} : PE X (.Constant (.bool b) j pos) (tC (.bl b)) := fun _ _ _ H _ I h => Constant_bool ⟨.bl b, H, I, rfl, h⟩
theorem pe_non {j pos} : PE X (.Constant .none j pos) (tC .non) := fun _ _ _ H _ I h => Constant_none ⟨.non, H, I, rfl, h⟩
theorem pe_str {x j pos} : PE X (.Constant (.str x) j pos) (tC (.str x)) := fun _ _ _ H _ I h => Calls.Constant_str ⟨.str x, H, I.tok _, ⟨_, rfl⟩, h⟩
def Gl (X : Cx) (x : Str) : Prop := X.env.kindOf x = some .globalImplicit
theorem ld_glob {E : Value → Shared → Prop} {pins : List (Addr × Obj)} {s : Shared} {σ : St} {H : Hp} {x : Str} {u : Value} {pos : Pos} {Q : Value → Shared → Prop} (I : Inv X pins σ H s) (hg : Gl X x) (hm : X.mg x = some u) (h : Q u s)
    (hd : (x == ("__debug__" : Str)) = false := by decide) : wpAny (model X.prog X.w) X.A (eval (.Name x pos) X.env) Q E s :=
  Calls.Name_function_global I.ok.kind hg (Calls.loadGlobal_global (by rw [I.ok.glob]; exact I.mod.glob.keeps I.bk) hm h) hd
theorem ld_blt {E : Value → Shared → Prop} {pins : List (Addr × Obj)} {s : Shared} {σ : St} {H : Hp} {x : Str} {u : Value} {pos : Pos} {Q : Value → Shared → Prop} (I : Inv X pins σ H s) (hg : Gl X x) (hm : X.mg x = none) (hv : bootBuiltins x = some u) (h : Q u s)
    (hn : x ≠ "__name__" := by decide) (hd : (x == ("__debug__" : Str)) = false := by decide) : wpAny (model X.prog X.w) X.A (eval (.Name x pos) X.env) Q E s := by
  obtain ⟨mb, h1, h2⟩ := I.mod.blt
  exact Calls.Name_function_global I.ok.kind hg (Calls.loadGlobal_builtin (by rw [I.ok.glob]; exact I.mod.glob.keeps I.bk) hm (by rw [I.ok.blt]; exact h1.keeps I.bk) ((h2 x hn).trans hv) h) hd
theorem pe_glob {x : Str} {v : V} {u : Value} {pos : Pos} (hg : Gl X x) (hm : X.mg x = some u) (r : RelV v u) (hd : (x == ("__debug__" : Str)) = false := by decide) : PE X (.Name x pos) (tC v) :=
  fun _ _ _ H _ I h => ld_glob I hg hm ⟨v, H, I, r, h⟩ hd
theorem pe_bltn {x : Str} {v : V} {u : Value} {pos : Pos} (hg : Gl X x) (hm : X.mg x = none) (hv : bootBuiltins x = some u) (r : RelV v u) (hn : x ≠ "__name__" := by decide) (hd : (x == ("__debug__" : Str)) = false := by decide) : PE X (.Name x pos) (tC v) :=
  fun _ _ _ H _ I h => ld_blt I hg hm hv ⟨v, H, I, r, h⟩ hn hd
variable {a b : Expr} {ta tb : TE} {pos : Pos}
def tB (t : TE) : TT := fun σ H Q => t σ H fun x H1 => ∃ c, x = .bl c ∧ Q c H1
theorem pt_val {e : Expr} {t : TE} (h : PE X e t) (he : ∀ whole, isTrue e X.env whole = (do let v ← whole; standAt e.pos; holding [v] (truthy v)) := by intro _; rfl) : PT X e (tB t) := by
  intro pins s σ H Q I hw
  refine isTrue_plain (thn (h pins s σ H _ I hw) fun v s1 ⟨x, H1, I1, r1, q1⟩ => ?_) (he _)
  obtain ⟨d, rfl, q⟩ := q1
  cases r1
  exact wpAny_truthy_bool ⟨H1, I1, q⟩
variable {tA tB' : TT} {rest : List Expr}
def tAnd (t u : TT) : TT := fun σ H Q => t σ H fun c H1 => if c = true then u σ H1 Q else Q false H1
def tOr (t u : TT) : TT := fun σ H Q => t σ H fun c H1 => if c = true then Q true H1 else u σ H1 Q
def tNot (t : TT) : TT := fun σ H Q => t σ H fun c H1 => Q (!c) H1
theorem pw_and1 (ha : PT X a tA) : PW X (.BoolOp .And [a] pos) tA := by
  intro wh pins s σ H Q I h
  refine isTrue_and (thn (ha pins s σ H Q I h) fun c s1 e => ?_)
  cases c with
  | true => exact isTrue_and_nil e
  | false => exact e
theorem pw_or1 (ha : PT X a tA) : PW X (.BoolOp .Or [a] pos) tA := by
  intro wh pins s σ H Q I h
  refine isTrue_or (thn (ha pins s σ H Q I h) fun c s1 e => ?_)
  cases c with
  | false => exact isTrue_or_nil e
  | true => exact e
theorem pw_and (ha : PT X a tA) (hb : PW X (.BoolOp .And (b :: rest) pos) tB') : PW X (.BoolOp .And (a :: b :: rest) pos) (tAnd tA tB') := by
  intro wh pins s σ H Q I h
  refine isTrue_and (thn (ha pins s σ H _ I h) fun c s1 ⟨H1, I1, q1⟩ => ?_)
  cases c with
  | true => exact hb wh pins s1 σ H1 Q I1 q1
  | false => exact ⟨H1, I1, q1⟩
theorem pw_or (ha : PT X a tA) (hb : PW X (.BoolOp .Or (b :: rest) pos) tB') : PW X (.BoolOp .Or (a :: b :: rest) pos) (tOr tA tB') := by
  intro wh pins s σ H Q I h
  refine isTrue_or (thn (ha pins s σ H _ I h) fun c s1 ⟨H1, I1, q1⟩ => ?_)
  cases c with
  | true => exact ⟨H1, I1, q1⟩
  | false => exact hb wh pins s1 σ H1 Q I1 q1
theorem pt_not (ha : PT X a tA) : PT X (.UnaryOp .Not a pos) (tNot tA) := by
  intro pins s σ H Q I h
  exact isTrue_not (ha pins s σ H (fun c H1 => Q (!c) H1) I h)
def tAndV (ta tb : TE) : TE := fun σ H Q => ta σ H fun x H1 => ∃ c, x = .bl c ∧ if c = true then tb σ H1 Q else Q (.bl false) H1
def tNotV (ta : TE) : TE := fun σ H Q => ta σ H fun x H1 => ∃ c, x = .bl c ∧ Q (.bl (!c)) H1
theorem pe_one {op} {t : TE} (h : PE X a t) : PE X (.BoolOp op [a] pos) t := fun pins s σ H Q I hw => BoolOp_one (h pins s σ H Q I hw)
theorem pe_and (ha : PE X a ta) (hb : PE X (.BoolOp .And (b :: rest) pos) tb) : PE X (.BoolOp .And (a :: b :: rest) pos) (tAndV ta tb) := by
  intro pins s σ H Q I h
  refine BoolOp_and (thn (ha pins s σ H _ I h) fun v s1 ⟨x, H1, I1, r1, q1⟩ => ?_)
  obtain ⟨c, rfl, q1⟩ := q1
  cases r1
  refine wpAny_truthy_bool ?_
  cases c with
  | true => exact hb pins s1 σ H1 Q I1 q1
  | false => exact ⟨.bl false, H1, I1, rfl, q1⟩
theorem pe_not (ha : PE X a ta) : PE X (.UnaryOp .Not a pos) (tNotV ta) := by
  intro pins s σ H Q I h
  refine UnaryOp_ (thn (ha pins s σ H _ I h) fun v s1 ⟨x, H1, I1, r1, q1⟩ => ?_)
  obtain ⟨c, rfl, q1⟩ := q1
  cases r1
  exact not_of (wpAny_truthy_bool ⟨.bl (!c), H1, I1, rfl, q1⟩)
end
def SqL (K : PySem.W.Frag) (H : Hp) (a : Addr) (xs : List V) : Prop :=
  Rd H a (.lst xs) ∨
    ∃ (o : Obj) (its : Array Value) (n : Nat), K.lookup a = some o ∧ o.cls = .type "list" ∧ o.dict = none ∧ o.data = .seq its n ∧ its.size ≤ sizeLine ∧ Vals xs its.toList
def SqT (K : PySem.W.Frag) (H : Hp) (a : Addr) (xs : List V) : Prop :=
  Rd H a (.tup xs) ∨
    ∃ (o : Obj) (its : Array Value) (n : Nat), K.lookup a = some o ∧ o.cls = .type "tuple" ∧ o.data = .seq its n ∧ its.size ≤ sizeLine ∧ Vals xs its.toList
def absV : Value → Option V
  | .none => some .non
  | .bool b => some (.bl b)
  | .int i _ => some (.int i)
  | .str x _ => some (.str x)
  | .bytes b _ => some (.byt b)
  | .float b _ => some (.flt b)
  | .ref a => some (.ref a)
  | .type n => some (.ty n)
  | _ => none
theorem RelV.abs {x : V} {u : Value} (r : RelV x u) : absV u = some x := by
  cases x with
  | non => cases r; rfl
  | bl _ => cases r; rfl
  | int _ => obtain ⟨t, rfl⟩ := r; rfl
  | str _ => obtain ⟨t, rfl⟩ := r; rfl
  | byt _ => obtain ⟨t, rfl⟩ := r; rfl
  | flt _ => obtain ⟨t, rfl⟩ := r; rfl
  | ref _ => cases r; rfl
  | ty _ => cases r; rfl
theorem RelV.inj {x y : V} {u : Value} (r : RelV x u) (q : RelV y u) : x = y := Option.some.inj (r.abs.symm.trans q.abs)
theorem Vals.inj : ∀ {xs ys : List V} {us : List Value}, Vals xs us → Vals ys us → xs = ys
  | _, _, _, .nil, .nil => rfl
  | _, _, _, .cons r t, .cons r' t' => by rw [r.inj r', Vals.inj t t']
section
variable {X : Cx} {pins : List (Addr × Obj)} {σ : St} {H : Hp} {s : Shared} {a : Addr} {xs ys : List V}
theorem SqL.of {K : PySem.W.Frag} (h : H a = some (.lst xs)) : SqL K H a xs := .inl (.inl h)
theorem SqT.of {K : PySem.W.Frag} (h : H a = some (.tup xs)) : SqT K H a xs := .inl (.inl h)
theorem Inv.list (I : Inv X pins σ H s) (h : SqL X.K H a xs) : ∃ its : List Value, Vals xs its ∧ PlainL s.heap a its.toArray ∧ xs.length ≤ sizeLine := by
  rcases h with h | ⟨o, its, n, hk, hc, hd, hs, hz, r⟩
  · obtain ⟨z, its, n, r, e⟩ := h.ok I.hok
    exact ⟨its, r, ⟨_, n, e, rfl, rfl, rfl⟩, z⟩
  · refine ⟨its.toList, r, ⟨o, n, I.kIn a o hk, hc, hd, by simpa using hs⟩, ?_⟩
    have e := r.length
    simp only [Array.length_toList] at e
    omega
theorem Inv.tuple (I : Inv X pins σ H s) (h : SqT X.K H a xs) : ∃ its : List Value, Vals xs its ∧ IsTup s.heap a its.toArray ∧ xs.length ≤ sizeLine := by
  rcases h with h | ⟨o, its, n, hk, hc, hs, hz, r⟩
  · obtain ⟨z, its, r, p⟩ := h.ok I.hok
    exact ⟨its, r, p, z⟩
  · refine ⟨its.toList, r, ⟨o, I.kIn a o hk, hc, n, by simpa using hs⟩, ?_⟩
    have e := r.length
    simp only [Array.length_toList] at e
    omega
theorem Inv.list_inj (I : Inv X pins σ H s) (h : SqL X.K H a xs) (h' : SqL X.K H a ys) : xs = ys := by
  obtain ⟨its, r, ⟨o, n, e, _, _, d⟩, _⟩ := I.list h
  obtain ⟨its', r', ⟨o', n', e', _, _, d'⟩, _⟩ := I.list h'
  rw [e] at e'; cases e'
  rw [d] at d'
  injection d' with d1 _
  have : its = its' := by simpa using congrArg Array.toList d1
  subst this
  exact r.inj r'
theorem Inv.tuple_inj (I : Inv X pins σ H s) (h : SqT X.K H a xs) (h' : SqT X.K H a ys) : xs = ys := by
  obtain ⟨its, r, ⟨o, e, _, n, d⟩, _⟩ := I.tuple h
  obtain ⟨its', r', ⟨o', e', _, n', d'⟩, _⟩ := I.tuple h'
  rw [e] at e'; cases e'
  rw [d] at d'
  injection d' with d1 _
  have : its = its' := by simpa using congrArg Array.toList d1
  subst this
  exact r.inj r'
end
abbrev Cx.wish (X : Cx) (E : Value → Shared → Prop) : Cx := { X with xe := E }
abbrev Cx.nox (X : Cx) : Cx := X.wish fun _ _ => False
theorem Cx.Ok.wish {X : Cx} (ok : X.Ok) (E : Value → Shared → Prop) : (X.wish E).Ok :=
  ⟨ok.mod, ok.kind, ok.glob, ok.blt, ok.above, ok.inj, ok.has, ok.cab, ok.hd, ok.frames, ok.stk, ok.exf, ok.bs, ok.bsz, ok.noex, ok.exfs, ok.funs, ok.frf⟩
theorem Cx.Ok.unwish {X : Cx} {E : Value → Shared → Prop} (ok : (X.wish E).Ok) : X.Ok :=
  ⟨ok.mod, ok.kind, ok.glob, ok.blt, ok.above, ok.inj, ok.has, ok.cab, ok.hd, ok.frames, ok.stk, ok.exf, ok.bs, ok.bsz, ok.noex, ok.exfs, ok.funs, ok.frf⟩
section
variable {X : Cx} {pins : List (Addr × Obj)} {σ : St} {H : Hp} {s : Shared} {E : Value → Shared → Prop}
theorem Inv.wish (I : Inv X pins σ H s) (E : Value → Shared → Prop) : Inv (X.wish E) pins σ H s := ⟨I.ok.wish E, I.os, I.bare, I.base, I.loc, I.cell, I.free, I.freeC, I.pin, I.hok, I.len⟩
theorem Inv.unwish (I : Inv (X.wish E) pins σ H s) : Inv X pins σ H s := ⟨I.ok.unwish, I.os, I.bare, I.base, I.loc, I.cell, I.free, I.freeC, I.pin, I.hok, I.len⟩
theorem SP.unwish {D : Ends} {f : Flow} {s' : Shared} (h : SP (X.wish E) pins D f s') : SP X pins D f s' := by
  cases f with
  | next => obtain ⟨σ', H', I, q⟩ := h; exact ⟨σ', H', I.unwish, q⟩
  | brk => obtain ⟨σ', H', I, q⟩ := h; exact ⟨σ', H', I.unwish, q⟩
  | cont => obtain ⟨σ', H', I, q⟩ := h; exact ⟨σ', H', I.unwish, q⟩
  | ret u => obtain ⟨v, σ', H', I, r, q⟩ := h; exact ⟨v, σ', H', I.unwish, r, q⟩
theorem PE.nox {e : Expr} {t : TE} (h : PE X.nox e t) : PE X e t := fun pins s σ H Q I hw =>
  wpAny_mono (h pins s σ H Q (I.wish _) hw) (fun _ _ ⟨v, H', I', r, q⟩ => ⟨v, H', I'.unwish, r, q⟩) fun _ _ z => False.elim z
theorem PT.nox {e : Expr} {t : TT} (h : PT X.nox e t) : PT X e t := fun pins s σ H Q I hw =>
  wpAny_mono (h pins s σ H Q (I.wish _) hw) (fun _ _ ⟨H', I', q⟩ => ⟨H', I'.unwish, q⟩) fun _ _ z => False.elim z
theorem PSs.nox {st : List Stmt} {t : TS} (h : PSs X.nox st t) : PSs X st t := fun pins s σ H D I hw =>
  wpAny_mono (h pins s σ H D (I.wish _) hw) (fun _ _ q => q.unwish) fun _ _ z => False.elim z
end
section
variable {X : Cx} {st : Stmt} {rest : List Stmt} {t u : TS} {e : Expr} {te : TE} {pos : Pos}
def tNext : TS := fun D σ H => D.nx σ H
def tSeq (t u : TS) : TS := fun D σ H => t { D with nx := u D } σ H
theorem pss_nil : PSs X [] tNext := fun _ _ σ H _ I h => wpAny_execs_nil ⟨σ, H, I, h⟩
theorem pss_cons (h1 : PS X st t) (h2 : PSs X rest u) : PSs X (st :: rest) (tSeq t u) := by
  intro pins s σ H D I h
  refine wpAny_execs_cons (thn (h1 pins s σ H { D with nx := u D } I h) fun f s1 q => ?_)
  cases f with
  | next =>
    obtain ⟨σ', H', I', q⟩ := q
    exact h2 pins s1 σ' H' D I' q
  | ret v => exact q
  | brk => exact q
  | cont => exact q
theorem pss_one (h1 : PS X st t) : PSs X [st] t := by
  intro pins s σ H D I h
  refine wpAny_execs_cons (thn (h1 pins s σ H D I h) fun f s1 q => ?_)
  cases f with
  | next => exact wpAny_execs_nil q
  | ret v => exact q
  | brk => exact q
  | cont => exact q
def tBreak : TS := fun D σ H => D.bk σ H
theorem ps_break : PS X (.Break pos) tBreak := fun _ _ σ H _ I h => wpAny_Break ⟨σ, H, I, h⟩
theorem Inv.quiet {pins : List (Addr × Obj)} {σ : St} {H : Hp} {s : Shared} (I : Inv X pins σ H s) : interactive X.env = false := by simp [interactive, I.ok.kind]
def tDrop (te : TE) : TS := fun D σ H => te σ H fun _ H1 => D.nx σ H1
theorem ps_expr (he : PE X e te) (hs : swapsWith e none pos.line X.env = pure false := by rfl) : PS X (.Expr e pos) (tDrop te) := by
  intro pins s σ H D I h
  exact wpAny_Expr_any (thn (he pins s σ H _ I h) fun v s1 ⟨x, H1, I1, r1, q1⟩ => ⟨σ, H1, I1, q1⟩) I.quiet hs
def tRet (te : TE) : TS := fun D σ H => te σ H D.rt
theorem ps_ret (he : PE X e te) : PS X (.Return (some e) pos) (tRet te) := by
  intro pins s σ H D I h
  exact wpAny_Return_some (thn (he pins s σ H _ I h) fun v s1 ⟨x, H1, I1, r1, q1⟩ => ⟨x, σ, H1, I1, r1, q1⟩)
def tIfS (c : TT) (t u : TS) : TS := fun D σ H => c σ H fun b H1 => if b = true then t D σ H1 else u D σ H1
theorem ps_if {c : Expr} {a b : List Stmt} {tc : TT} (hc : PT X c tc) (ha : PSs X a t) (hb : PSs X b u) : PS X (.If c a b pos) (tIfS tc t u) := by
  intro pins s σ H D I h
  refine wpAny_If (thn (hc pins s σ H _ I h) fun d s1 ⟨H1, I1, q1⟩ => ?_)
  cases d with
  | true => exact ha pins s1 σ H1 D I1 q1
  | false => exact hb pins s1 σ H1 D I1 q1
def tNever : TS := fun _ _ _ => False
theorem pss_never {sts : List Stmt} : PSs X sts tNever := fun _ _ _ _ _ _ h => h.elim
end
abbrev TG := V → St → Hp → (St → Hp → Prop) → Prop
abbrev TGs := List V → St → Hp → (St → Hp → Prop) → Prop
def PG (X : Cx) (target : Expr) (t : TG) : Prop :=
  ∀ (pins : List (Addr × Obj)) (s : Shared) (σ : St) (H : Hp) (v : V) (u : Value) (Q : St → Hp → Prop), Inv X pins σ H s → RelV v u → t v σ H Q →
    wpAny (model X.prog X.w) X.A (assign target X.env u) (fun _ s' => ∃ σ' H', Inv X pins σ' H' s' ∧ Q σ' H') X.xe s
def PGs (X : Cx) (ts : List Expr) (t : TGs) : Prop :=
  ∀ (pins : List (Addr × Obj)) (s : Shared) (σ : St) (H : Hp) (vs : List V) (us : List Value) (Q : St → Hp → Prop), Inv X pins σ H s → Vals vs us → t vs σ H Q →
    wpAny (model X.prog X.w) X.A (assignInOrder ((assignEach ts X.env).map (·.2)) us) (fun _ s' => ∃ σ' H', Inv X pins σ' H' s' ∧ Q σ' H') X.xe s
abbrev TSet := V → V → V → Hp → (Hp → Prop) → Prop
def PSet (X : Cx) (t : TSet) : Prop :=
  ∀ (pins : List (Addr × Obj)) (s : Shared) (σ : St) (H : Hp) (o i v : V) (ov iv u : Value) (Q : Hp → Prop), Inv X pins σ H s → RelV o ov → RelV i iv → RelV v u → t o i v H Q →
    wpAny (model X.prog X.w) X.A (setItem ov iv u) (fun _ s' => ∃ H', Inv X pins σ H' s' ∧ Q H') X.xe s
section
variable {X : Cx} {pos : Pos}
def gName (i : Nat) : TG := fun v σ H Q => Q (σ.set i (some v)) H
theorem pg_name {i : Nat} {x : Str} (hN : X.N.Nodup) (hi : X.N[i]? = some x) (hx : Loc X.env.scope x) (hf : X.fn x = true ∨ X.env.scope.names.lookup x = some .local := by first | exact .inl rfl | exact .inr rfl | assumption) : PG X (.Name x pos) (gName i) := by
  intro pins s σ H v u Q I r h
  exact wpAny_assign_Name (store_ok I hN hi hx r (fun s' I' => ⟨_, H, I', h⟩) hf)
def gNil : TGs := fun vs σ H Q => vs = [] ∧ Q σ H
def gCons (t : TG) (u : TGs) : TGs := fun vs σ H Q => ∃ v r, vs = v :: r ∧ t v σ H fun σ' H' => u r σ' H' Q
theorem pgs_nil : PGs X [] gNil := by
  intro pins s σ H vs us Q I r h
  obtain ⟨e, h⟩ := h
  subst e
  cases r
  exact assignInOrder_nil ⟨σ, H, I, h⟩
theorem pgs_cons {e : Expr} {es : List Expr} {t : TG} {u : TGs} (h1 : PG X e t) (h2 : PGs X es u)
    (hs : (assignEach (e :: es) X.env).map (·.2) = assign e X.env :: (assignEach es X.env).map (·.2) := by rfl) : PGs X (e :: es) (gCons t u) := by
  intro pins s σ H vs us Q I r h
  obtain ⟨v, vr, e1, h⟩ := h
  subst e1
  cases r with
  | cons r rr =>
    rw [hs]
    refine assignInOrder_cons (thn (h1 pins s σ H _ _ _ I r h) fun _ s1 ⟨σ1, H1, I1, q1⟩ => ?_)
    exact h2 pins s1 σ1 H1 _ _ Q I1 rr q1
def gTup (K : PySem.W.Frag) (n : Nat) (t : TGs) : TG := fun v σ H Q => ∃ a xs, v = .ref a ∧ SqT K H a xs ∧ xs.length = n ∧ t xs σ H Q
theorem pg_tup {es : List Expr} {k : Nat} {t : TGs} {n : Nat} (hc : X.calm = true) (h : PGs X es t)
    (hn : (assignEach es X.env).length = n := by rfl) (hst : (assignEach es X.env).findIdx? (·.1) = none := by rfl) : PG X (.Tuple es k pos) (gTup X.K n t) := by
  intro pins s σ H v u Q I r hw
  obtain ⟨a, xs, e1, hq, hl, hw⟩ := hw
  subst e1
  cases r
  obtain ⟨its, rv, ht, hz⟩ := I.tuple hq
  refine assign_Tuple_tuple (I.ok.hd hc) ht (by simp [hn, ← hl, rv.length]) hst fun h' hx => ?_
  have I1 : Inv X pins σ H { s with heap := h' } := I.kept (t' := s.toks) fun b o e => hx b o (Nat.ne_of_lt (Heap.lt_size e)) e
  exact h pins _ σ H xs _ Q I1 (by simpa using rv) hw
def gSub (to ti : TE) (t : TSet) : TG := fun v σ H Q => to σ H fun o H1 => ti σ H1 fun i H2 => t o i v H2 fun H3 => Q σ H3
theorem pg_sub {o i : Expr} {to ti : TE} {t : TSet} (ho : PE X o to) (hi : PE X i ti) (hs : PSet X t)
    (ha : ∀ v, assign (.Subscript o i pos) X.env v = (do
      let ov ← holding [v] (eval o X.env)
      let iv ← holding [v, ov] (eval i X.env)
      standAt pos
      holding [v, ov, iv] (setItem ov iv v)
      release [v, ov, iv] []) := by intro _; rfl) : PG X (.Subscript o i pos) (gSub to ti t) := by
  intro pins s σ H v u Q I r h
  rw [ha]
  refine wpAny_bind (wpAny_holding (thn (ho pins s σ H _ I h) fun ov s1 ⟨x, H1, I1, r1, q1⟩ => ?_))
  refine wpAny_bind (wpAny_holding (thn (hi pins s1 σ H1 _ I1 q1) fun iv s2 ⟨y, H2, I2, r2, q2⟩ => ?_))
  refine wpAny_bind (wpAny_standAt (wpAny_bind (wpAny_holding (thn (hs pins s2 σ H2 x y v ov iv u _ I2 r1 r2 r q2) fun _ s3 ⟨H3, I3, q3⟩ => ?_))))
  exact wpAny_release ⟨σ, H3, I3, q3⟩
def tAsg (te : TE) (g : TG) : TS := fun D σ H => te σ H fun x H1 => g x σ H1 D.nx
theorem ps_asg {tg e : Expr} {te : TE} {g : TG} (he : PE X e te) (hg : PG X tg g) (hs : swapsWithSole [tg] e pos.line X.env = pure false := by rfl) (hw : swappedStores [tg] e X.env = pure none := by rfl)
    (h1 : (assignEach [tg] X.env).map (·.2) = [assign tg X.env] := by rfl) : PS X (.Assign [tg] e pos) (tAsg te g) := by
  intro pins s σ H D I h
  refine wpAny_Assign_stores (thn (he pins s σ H _ I h) fun v s1 ⟨x, H1, I1, r1, q1⟩ => ?_) hs hw
  rw [h1]
  exact thn (hg pins s1 σ H1 x v _ I1 r1 q1) fun _ s2 q => q
theorem ps_set {i : Nat} {x : Str} {e : Expr} {te : TE} {pos' : Pos} (hN : X.N.Nodup) (hi : X.N[i]? = some x) (hx : Loc X.env.scope x) (he : PE X e te) (hs : swapsWith e (some (.Name x pos')) pos.line X.env = pure false := by rfl) (hf : X.fn x = true ∨ X.env.scope.names.lookup x = some .local := by first | exact .inl rfl | exact .inr rfl | assumption) :
    PS X (.Assign [.Name x pos'] e pos) (tAsg te (gName i)) := by
  intro pins s σ H D I h
  refine wpAny_Assign_Name (thn (he pins s σ H _ I h) fun v s1 ⟨y, H1, I1, r1, q1⟩ => ?_) hs
  exact store_ok I1 hN hi hx r1 (fun s2 I2 => ⟨_, H1, I2, q1⟩) hf
end
section
variable {X : Cx} {pos : Pos}
def tWhile (c : TT) (tb : TS) : TS := fun D σ H => ∃ W : Nat → St → Hp → Prop, (∃ m, W m σ H) ∧ ∀ m σ H, W m σ H →
  c σ H fun b H1 => if b = true then ∃ N : St → Hp → Prop, (∀ σ' H', N σ' H' → ∃ m', m' < m ∧ W m' σ' H') ∧ tb { D with nx := N, ct := N, bk := D.nx } σ H1 else D.nx σ H1
theorem ps_while {c : Expr} {body : List Stmt} {tc : TT} {tb : TS} (hp : PassesOwn (model X.prog X.w) X.A X.env X.xe) (hc : PT X c tc) (hb : PSs X body tb) : PS X (.While c body [] pos) (tWhile tc tb) := by
  intro pins s σ H D I h
  obtain ⟨W, ⟨m0, w0⟩, turn⟩ := h
  refine wpAny_While (codeAny_whileLoop (fun n s' => ∃ σ' H', Inv X pins σ' H' s' ∧ W n σ' H') ?_ m0 ⟨σ, H, I, w0⟩)
  rintro n s1 ⟨σ1, H1, I1, w1⟩
  refine wpAny_passesOwn hp (thn (hc pins s1 σ1 H1 _ I1 (turn n σ1 H1 w1)) fun b s2 ⟨H2, I2, q2⟩ => ?_)
  cases b with
  | true =>
    obtain ⟨N, hN, q2⟩ := q2
    rw [if_pos rfl]
    refine wpAny_passesOwn hp (thn (hb pins s2 σ1 H2 _ I2 q2) fun f s3 q3 => ?_)
    cases f with
    | next =>
      obtain ⟨σ3, H3, I3, n3⟩ := q3
      obtain ⟨m', hm, w3⟩ := hN σ3 H3 n3
      exact ⟨m', hm, σ3, H3, I3, w3⟩
    | cont =>
      obtain ⟨σ3, H3, I3, n3⟩ := q3
      obtain ⟨m', hm, w3⟩ := hN σ3 H3 n3
      exact ⟨m', hm, σ3, H3, I3, w3⟩
    | brk => exact q3
    | ret v => exact q3
  | false =>
    rw [if_neg Bool.false_ne_true]
    exact wpAny_execs_nil ⟨σ1, H2, I2, q2⟩
end
structure It where
  go : Nat → Hp → Prop
  yld : Nat → Hp → V → Hp → Prop
  stop : Nat → Hp → Prop
def FpOk (X : Cx) (pins : List (Addr × Obj)) (H : Hp) (b : Addr) : Prop :=
  H b = none ∧ b ≠ X.env.locals ∧ b ∉ X.fs ∧ (b ∈ X.ex ∨ X.s₀.heap.objs.size ≤ b) ∧ (∀ x c, X.env.cells.lookup x = some c → c ≠ b) ∧ ∀ p ∈ X.pn ++ pins, p.1 ≠ b
theorem Inv.fpOk {X : Cx} {pins : List (Addr × Obj)} {σ : St} {H H' : Hp} {s : Shared} {b : Addr} (I : Inv X pins σ H s) (hb : s.heap.objs.size ≤ b) (hn : H' b = none) : FpOk X pins H' b := by
  refine ⟨hn, Nat.ne_of_gt (Nat.lt_of_lt_of_le I.lt hb), I.nofs hb, .inr (Nat.le_trans I.sz hb), fun x c e z => ?_, fun p hp z => ?_⟩
  · obtain ⟨v, q⟩ := I.cell x c e
    exact absurd (Nat.lt_of_lt_of_le q.lt (by rw [z]; exact hb)) (Nat.lt_irrefl _)
  · exact absurd (Nat.lt_of_lt_of_le (Heap.lt_size (I.pin p hp).1) (by rw [z]; exact hb)) (Nat.lt_irrefl _)
structure Turn (P : Program) (w : World) (K : PySem.W.Frag) (tg : Expr) (J : It) (fp : List Addr) (it : Addr) (tn : Nat → Heap → Prop) : Prop where
  mem : it ∈ fp
  obj : ∀ i h, tn i h → ∀ b ∈ fp, ∃ o, h.get? b = some o ∧ ∀ v, o.data ≠ .cell v
  keep : ∀ i h h', tn i h → (∀ b ∈ fp, ∀ o, h.get? b = some o → h'.get? b = some o) → tn i h'
  item : ∀ (X : Cx), X.prog = P → X.w = w → X.K = K → X.calm = true → ∀ (i : Nat) (pins : List (Addr × Obj)) (s : Shared) (σ : St) (H : Hp) (E : Value → Shared → Prop), Inv X pins σ H s → (∀ b ∈ fp, FpOk X pins H b) → tn i s.heap → J.go i H →
    wpAny (model P w) X.A (pyNext (.ref it)) (fun r s1 => ∃ u, r = some u ∧
      wpAny (model P w) X.A (letOwnedTupleGo tg (.ref it) u) (fun _ s2 => ∃ x H', Inv X pins σ H' s2 ∧ RelV x u ∧ J.yld i H x H' ∧ tn (i + 1) s2.heap ∧ ∀ b ∈ fp, H' b = none) E s1) E s
  done : ∀ (X : Cx), X.prog = P → X.w = w → X.K = K → X.calm = true → ∀ (i : Nat) (pins : List (Addr × Obj)) (s : Shared) (σ : St) (H : Hp) (E : Value → Shared → Prop), Inv X pins σ H s → (∀ b ∈ fp, FpOk X pins H b) → tn i s.heap → J.stop i H →
    wpAny (model P w) X.A (pyNext (.ref it)) (fun r s1 => r = none ∧ Inv X pins σ H s1) E s
  self : ∀ (A : Around) (i : Nat) (s : Shared) (Q : Value → Shared → Prop) (E : Value → Shared → Prop), tn i s.heap → Q (.ref it) s → wpAny (model P w) A (pyIter (.ref it)) Q E s
abbrev TI := St → Hp → (It → Hp → Prop) → Prop
def PIE (X : Cx) (pins : List (Addr × Obj)) (σ : St) (tg : Expr) (R : It → Hp → Prop) (itv : Value) (s2 : Shared) : Prop :=
  ∃ (it : Addr) (fp : List Addr) (tn : Nat → Heap → Prop) (J : It) (H' : Hp), itv = .ref it ∧ Inv X pins σ H' s2 ∧ Turn X.prog X.w X.K tg J fp it tn ∧ tn 0 s2.heap ∧ (∀ b ∈ fp, FpOk X pins H' b) ∧ R J H'
def PI (X : Cx) (tg iter : Expr) (wi : TI) : Prop :=
  ∀ (pins : List (Addr × Obj)) (s : Shared) (σ : St) (H : Hp) (R : It → Hp → Prop), Inv X pins σ H s → wi σ H R →
    wpAny (model X.prog X.w) X.A (eval iter X.env) (fun v s1 => wpAny (model X.prog X.w) X.A (pyIter v) (PIE X pins σ tg R) X.xe s1) X.xe s
theorem go_of {M : Model} {A : Around} {E : Value → Shared → Prop} {s : Shared} {tg : Expr} {it : Addr} {u : Value} {o : Obj} {n : String} {vs : Array Value} {Q : Unit → Shared → Prop} (ho : s.heap.get? it = some o) (hc : o.cls = .type n) (hd : o.data = .fields vs)
    (hn : ["enumerate", "zip", "dict_itemiterator", "dict_reverseitemiterator", "odict_iterator", "itertools.zip_longest", "itertools.pairwise"].contains n = false) (hQ : Q () s) : wpAny M A (letOwnedTupleGo tg (.ref it) u) Q E s := by
  unfold letOwnedTupleGo
  cases tg <;> first
    | exact wpAny_pure hQ
    | (cases u <;> first
        | exact wpAny_pure hQ
        | (refine wpAny_bind (wpAny_load ho ?_)
           rw [hc, hd]
           show wpAny M A (if (["enumerate", "zip", "dict_itemiterator", "dict_reverseitemiterator", "odict_iterator", "itertools.zip_longest", "itertools.pairwise"].contains n && vs[0]? == some (rawInt _)) = true then _ else _) Q E s
           rw [if_neg (by intro h; rw [hn, Bool.false_and] at h; cases h)]
           exact wpAny_pure hQ))
def Itl (K : PySem.W.Frag) (a : Addr) : It :=
  ⟨fun i H => ∃ xs x, SqL K H a xs ∧ xs[i]? = some x, fun i H x H' => H' = H ∧ ∀ xs, SqL K H a xs → xs[i]? = some x, fun i H => ∃ xs, SqL K H a xs ∧ xs.length ≤ i⟩
def Itt (K : PySem.W.Frag) (a : Addr) : It :=
  ⟨fun i H => ∃ xs x, SqT K H a xs ∧ xs[i]? = some x, fun i H x H' => H' = H ∧ ∀ xs, SqT K H a xs → xs[i]? = some x, fun i H => ∃ xs, SqT K H a xs ∧ xs.length ≤ i⟩
def Itr (lo : Int) (n : Nat) : It := ⟨fun i _ => i < n, fun i H x H' => H' = H ∧ x = .int (lo + i), fun i _ => n ≤ i⟩
theorem turn_list {P : Program} {w : World} {K : PySem.W.Frag} {tg : Expr} (a it : Addr) : Turn P w K tg (Itl K a) [it] it (fun i h => h.IsListIter it a i) where
  mem := by simp
  obj := fun i h st b hb => by
    have e : b = it := by simpa using hb
    subst e
    obtain ⟨o, e, c, d⟩ := st
    exact ⟨o, e, fun v z => by rw [d] at z; cases z⟩
  keep := fun i h h' st k => st.at fun o e => k it (by simp) o e
  item := by
    intro X hP hw hK hc i pins s σ H E I hf st hg
    subst hP hw hK
    obtain ⟨xs, x, hq, hx⟩ := hg
    obtain ⟨its, rv, p, hz⟩ := I.list hq
    obtain ⟨u, hu, ru⟩ := rv.get hx
    obtain ⟨f0, f1, f2, f3, f4, f5⟩ := hf it (by simp)
    refine wpAny_pyNext_list_item st p.isList (x := u) (by simpa using hu) fun h' st' sb => ?_
    have I1 : Inv X pins σ H { s with heap := h' } := I.turned (t' := s.toks) (fun b o hb e => (sb.2 b hb).trans e) f0 f1 f3 f4 f5
    obtain ⟨o, e, c, d⟩ := id st'
    exact ⟨u, rfl, go_of (s := { s with heap := h' }) e c d (by decide) ⟨x, H, I1, ru, ⟨rfl, fun ys hy => by rw [I.list_inj hy hq]; exact hx⟩, st', fun b hb => (hf b hb).1⟩⟩
  done := by
    intro X hP hw hK hc i pins s σ H E I hf st hg
    subst hP hw hK
    obtain ⟨xs, hq, hx⟩ := hg
    obtain ⟨its, rv, p, hz⟩ := I.list hq
    obtain ⟨f0, f1, f2, f3, f4, f5⟩ := hf it (by simp)
    have hl := rv.length
    exact wpAny_pyNext_list_end (I.ok.hd hc) st p.isList (by simp; omega) fun h' eb => ⟨rfl, I.turned (t' := s.toks) (fun b o hb e => eb b o hb e) f0 f1 f3 f4 f5⟩
  self := fun _ _ _ _ _ st h => wpAny_pyIter_listiter st h
theorem turn_tuple {P : Program} {w : World} {K : PySem.W.Frag} {tg : Expr} (a it : Addr) : Turn P w K tg (Itt K a) [it] it (fun i h => h.IsTupleIter it a i) where
  mem := by simp
  obj := fun i h st b hb => by
    have e : b = it := by simpa using hb
    subst e
    obtain ⟨o, e, c, d⟩ := st
    exact ⟨o, e, fun v z => by rw [d] at z; cases z⟩
  keep := fun i h h' st k => st.at fun o e => k it (by simp) o e
  item := by
    intro X hP hw hK hc i pins s σ H E I hf st hg
    subst hP hw hK
    obtain ⟨xs, x, hq, hx⟩ := hg
    obtain ⟨its, rv, p, hz⟩ := I.tuple hq
    obtain ⟨u, hu, ru⟩ := rv.get hx
    obtain ⟨f0, f1, f2, f3, f4, f5⟩ := hf it (by simp)
    refine wpAny_pyNext_tuple_item st (show s.heap.IsTuple a its.toArray from p) (x := u) (by simpa using hu) fun h' st' sb => ?_
    have I1 : Inv X pins σ H { s with heap := h' } := I.turned (t' := s.toks) (fun b o hb e => (sb.2 b hb).trans e) f0 f1 f3 f4 f5
    obtain ⟨o, e, c, d⟩ := id st'
    exact ⟨u, rfl, go_of (s := { s with heap := h' }) e c d (by decide) ⟨x, H, I1, ru, ⟨rfl, fun ys hy => by rw [I.tuple_inj hy hq]; exact hx⟩, st', fun b hb => (hf b hb).1⟩⟩
  done := by
    intro X hP hw hK hc i pins s σ H E I hf st hg
    subst hP hw hK
    obtain ⟨xs, hq, hx⟩ := hg
    obtain ⟨its, rv, p, hz⟩ := I.tuple hq
    obtain ⟨f0, f1, f2, f3, f4, f5⟩ := hf it (by simp)
    have hl := rv.length
    exact wpAny_pyNext_tuple_end (I.ok.hd hc) st (show s.heap.IsTuple a its.toArray from p) (by simp; omega) fun h' eb => ⟨rfl, I.turned (t' := s.toks) (fun b o hb e => eb b o hb e) f0 f1 f3 f4 f5⟩
  self := fun _ _ _ _ _ st h => wpAny_pyIter_tupleiter st h
theorem turn_range {P : Program} {w : World} {K : PySem.W.Frag} {tg : Expr} (it : Addr) (lo : Int) (n : Nat) : Turn P w K tg (Itr lo n) [it] it (fun i h => IsRangeIter h it (lo + (i : Nat) * 1) ((n : Int) - (i : Nat)) 1) where
  mem := by simp
  obj := fun i h st b hb => by
    have e : b = it := by simpa using hb
    subst e
    exact ⟨_, st, fun v z => by
      have z' : Data.fields _ = Data.cell v := z
      cases z'⟩
  keep := fun i h h' st k => k it (by simp) _ st
  item := by
    intro X hP hw hK hc i pins s σ H E I hf st hg
    subst hP hw hK
    obtain ⟨f0, f1, f2, f3, f4, f5⟩ := hf it (by simp)
    have W := Walks.range (prog := X.prog) (w := X.w) (I.ok.hd hc) it lo 1 n
    refine W.item i s _ _ hg st fun v h' tk hv st' kk => ?_
    obtain ⟨t, rfl⟩ := hv
    have I1 : Inv X pins σ H { s with heap := h', toks := tk } := I.turned (fun b o hb e => kk b o (by simpa using hb) e) f0 f1 f3 f4 f5
    refine ⟨_, rfl, go_of (s := { s with heap := h', toks := tk }) (n := "range_iterator") st' rfl rfl (by decide) ⟨.int (lo + i), H, I1, ⟨t, ?_⟩, ⟨rfl, rfl⟩, st', fun b hb => (hf b hb).1⟩⟩
    rw [Int.mul_one]
  done := by
    intro X hP hw hK hc i pins s σ H E I hf st hg
    subst hP hw hK
    obtain ⟨f0, f1, f2, f3, f4, f5⟩ := hf it (by simp)
    exact wpAny_pyNext_range_end (I.ok.hd hc) st (by have : n ≤ i := hg; omega) fun h' eb => ⟨rfl, I.turned (t' := s.toks) (fun b o hb e => eb b o hb e) f0 f1 f3 f4 f5⟩
  self := fun _ _ _ _ _ st h => wpAny_pyIter_rangeiter st h
section
variable {X : Cx} {tg : Expr}
def iList (K : PySem.W.Frag) (tl : TE) : TI := fun σ H R => tl σ H fun x H1 => ∃ a, x = .ref a ∧ (∃ xs, SqL K H1 a xs) ∧ R (Itl K a) H1
def iTup (K : PySem.W.Frag) (tl : TE) : TI := fun σ H R => tl σ H fun x H1 => ∃ a, x = .ref a ∧ (∃ xs, SqT K H1 a xs) ∧ R (Itt K a) H1
theorem pi_list {l : Expr} {tl : TE} (hl : PE X l tl) : PI X tg l (iList X.K tl) := by
  intro pins s σ H R I h
  refine thn (hl pins s σ H _ I h) fun v s1 ⟨x, H1, I1, r1, q1⟩ => ?_
  obtain ⟨a, e, ⟨xs, hq⟩, q⟩ := q1
  subst e
  cases r1
  obtain ⟨its, rv, p, hz⟩ := I1.list hq
  refine wpAny_pyIter_list p.isList ?_
  refine ⟨s1.heap.objs.size, [s1.heap.objs.size], _, _, H1, rfl, I1.kept (t' := s1.toks) fun b o e => Heap.get?_push_of_some _ e, turn_list a _, ⟨_, Heap.get?_push_size _ rfl, rfl, rfl⟩, fun b hb => ?_, q⟩
  have e : b = s1.heap.objs.size := by simpa using hb
  subst e
  exact I1.fpOk (Nat.le_refl _) (I1.hok.fresh (Nat.le_refl _))
theorem pi_tup {l : Expr} {tl : TE} (hl : PE X l tl) : PI X tg l (iTup X.K tl) := by
  intro pins s σ H R I h
  refine thn (hl pins s σ H _ I h) fun v s1 ⟨x, H1, I1, r1, q1⟩ => ?_
  obtain ⟨a, e, ⟨xs, hq⟩, q⟩ := q1
  subst e
  cases r1
  obtain ⟨its, rv, p, hz⟩ := I1.tuple hq
  refine wpAny_pyIter_tuple (show s1.heap.IsTuple a its.toArray from p) ?_
  refine ⟨s1.heap.objs.size, [s1.heap.objs.size], _, _, H1, rfl, I1.kept (t' := s1.toks) fun b o e => Heap.get?_push_of_some _ e, turn_tuple a _, ⟨_, Heap.get?_push_size _ rfl, rfl, rfl⟩, fun b hb => ?_, q⟩
  have e : b = s1.heap.objs.size := by simpa using hb
  subst e
  exact I1.fpOk (Nat.le_refl _) (I1.hok.fresh (Nat.le_refl _))
theorem range_it {pins : List (Addr × Obj)} {σ : St} {H : Hp} {s : Shared} {R : It → Hp → Prop} {E : Value → Shared → Prop} {lo hi : Int} {t u v : Tok} {tk : Nat} (I : Inv X pins σ H s) (h1 : -(2 ^ 62) ≤ lo) (h2 : lo < 2 ^ 62) (h3 : -(2 ^ 62) ≤ hi) (h4 : hi < 2 ^ 62)
    (q : R (Itr lo (hi - lo).toNat) H) : wpAny (model X.prog X.w) X.A (pyIter (.ref s.heap.objs.size)) (PIE X pins σ tg R) E { s with heap := s.heap.push { cls := .type "range", data := .fields #[.int lo t, .int hi u, .int 1 v] }, toks := tk } := by
  refine wpAny_pyIter_range (IsRange.new ..) (small_one h1 h2 h3 h4) ?_
  have I1 : Inv X pins σ H { s with heap := s.heap.push { cls := .type "range", data := .fields #[.int lo t, .int hi u, .int 1 v] }, toks := tk } := I.kept fun b o e => Heap.get?_push_of_some _ e
  refine ⟨(s.heap.push { cls := .type "range", data := .fields #[.int lo t, .int hi u, .int 1 v] }).objs.size, [(s.heap.push { cls := .type "range", data := .fields #[.int lo t, .int hi u, .int 1 v] }).objs.size], _, _, H, rfl,
    I1.kept (t' := tk) fun b o e => Heap.get?_push_of_some _ e, turn_range _ lo (hi - lo).toNat, ?_, fun b hb => ?_, q⟩
  · have e1 : lo + ((0 : Nat) : Int) * 1 = lo := by simp
    have e2 : (((hi - lo).toNat : Nat) : Int) - ((0 : Nat) : Int) = Builtin.Range.rangeSize lo hi 1 := by rw [rangeSize_one]; split <;> omega
    show IsRangeIter _ _ (lo + ((0 : Nat) : Int) * 1) ((((hi - lo).toNat : Nat) : Int) - ((0 : Nat) : Int)) 1
    rw [e1, e2]
    exact Heap.get?_push_size _ rfl
  · have e : b = (s.heap.push { cls := .type "range", data := .fields #[.int lo t, .int hi u, .int 1 v] }).objs.size := by simpa using hb
    subst e
    exact I1.fpOk (Nat.le_refl _) (I1.hok.fresh (Nat.le_refl _))
def iRng1 (ta : TA) : TI := fun σ H R => ta σ H fun vs H1 => ∃ j : Int, vs = [.int j] ∧ -(2 ^ 62) ≤ j ∧ j < 2 ^ 62 ∧ R (Itr 0 j.toNat) H1
def iRng2 (ta : TA) : TI := fun σ H R => ta σ H fun vs H1 => ∃ i j : Int, vs = [.int i, .int j] ∧ (-(2 ^ 62) ≤ i ∧ i < 2 ^ 62 ∧ -(2 ^ 62) ≤ j ∧ j < 2 ^ 62) ∧ R (Itr i (j - i).toNat) H1
theorem pi_range1 {a : Expr} {ta : TA} {p pos : Pos} (hg : Gl X "range") (hm : X.mg "range" = none) (ha : PA X [a] ta) (hs : starEach [a] X.env = [(false, eval a X.env)] := by rfl) : PI X tg (.Call (.Name "range" p) [a] [] pos) (iRng1 ta) := by
  intro pins s σ H R I h
  refine Call_ (ld_blt I hg hm boot_range (PyProof.Rows.callWith_type1 (thn (ha pos pins s σ H _ I h) fun us s1 ⟨vs, H1, I1, r1, q1⟩ => ?_) hs rfl))
  obtain ⟨j, e, q1, q2, q⟩ := q1
  subst e
  cases r1 with
  | cons r rr =>
    cases rr
    obtain ⟨t, rfl⟩ := r
    exact call_range_1 (range_it I1 (by omega) (by omega) q1 q2 (by simpa using q))
theorem pi_range2 {a b : Expr} {ta : TA} {p pos : Pos} (hg : Gl X "range") (hm : X.mg "range" = none) (ha : PA X [a, b] ta) (hs : starEach [a, b] X.env = [(false, eval a X.env), (false, eval b X.env)] := by rfl) (hs2 : starEach [b] X.env = [(false, eval b X.env)] := by rfl) :
    PI X tg (.Call (.Name "range" p) [a, b] [] pos) (iRng2 ta) := by
  intro pins s σ H R I h
  refine Call_ (ld_blt I hg hm boot_range (PyProof.Rows.callWith_type1 (thn (ha pos pins s σ H _ I h) fun us s1 ⟨vs, H1, I1, r1, q1⟩ => ?_) (by rw [hs, hs2]) (by rw [hs2]; rfl)))
  obtain ⟨i, j, e, ⟨q1, q2, q3, q4⟩, q⟩ := q1
  subst e
  cases r1 with
  | cons r rr =>
    cases rr with
    | cons r' rr =>
      cases rr
      obtain ⟨t, rfl⟩ := r
      obtain ⟨t', rfl⟩ := r'
      exact call_range_2 (range_it I1 q1 q2 q3 q4 q)
def tFor (wi : TI) (g : TG) (tb : TS) : TS := fun D σ H => wi σ H fun J H1 => ∃ W : Nat → Nat → St → Hp → Prop, (∃ m, W 0 m σ H1) ∧ ∀ i m σ H, W i m σ H →
  (J.stop i H ∧ D.nx σ H) ∨ (J.go i H ∧ ∃ N : St → Hp → Prop, (∀ σ' H', N σ' H' → ∃ m', m' < m ∧ W (i + 1) m' σ' H') ∧ ∀ x H', J.yld i H x H' → g x σ H' fun σ2 H2 => tb { D with nx := N, ct := N, bk := D.nx } σ2 H2)
def pinsAt (fp : List Addr) (h : Heap) : List (Addr × Obj) := fp.filterMap fun b => (h.get? b).map fun o => (b, o)
theorem mem_pinsAt {fp : List Addr} {h : Heap} {b : Addr} {o : Obj} (hb : b ∈ fp) (e : h.get? b = some o) : (b, o) ∈ pinsAt fp h := List.mem_filterMap.mpr ⟨b, hb, by rw [e]; rfl⟩
theorem of_pinsAt {fp : List Addr} {h : Heap} {p : Addr × Obj} (hp : p ∈ pinsAt fp h) : p.1 ∈ fp ∧ h.get? p.1 = some p.2 := by
  obtain ⟨b, hb, e⟩ := List.mem_filterMap.mp hp
  cases q : h.get? b with
  | none => rw [q] at e; cases e
  | some o =>
    rw [q] at e
    have e' : (b, o) = p := Option.some.inj e
    subst e'
    exact ⟨hb, q⟩
theorem Inv.pinned {pins : List (Addr × Obj)} {σ : St} {H : Hp} {s : Shared} {fp : List Addr} (I : Inv X pins σ H s) (hf : ∀ b ∈ fp, FpOk X pins H b) (ho : ∀ b ∈ fp, ∃ o, s.heap.get? b = some o ∧ ∀ v, o.data ≠ .cell v) : Inv X (pins ++ pinsAt fp s.heap) σ H s :=
  I.pins_of fun p hp => (List.mem_append.mp hp).elim (fun z => I.pin p (List.mem_append_right _ z)) fun z => by
    obtain ⟨hb, e⟩ := of_pinsAt z
    obtain ⟨f0, f1, f2, _⟩ := hf p.1 hb
    obtain ⟨o, e', d⟩ := ho p.1 hb
    rw [e] at e'; cases e'
    exact ⟨e, f0, f1, f2, d⟩
theorem Inv.unpinned {pins pl : List (Addr × Obj)} {σ : St} {H : Hp} {s : Shared} (I : Inv X (pins ++ pl) σ H s) : Inv X pins σ H s := I.pins_of fun p hp => I.pin p (List.mem_append_right _ (List.mem_append_left _ hp))
theorem ps_for {iter : Expr} {body : List Stmt} {wi : TI} {g : TG} {tb : TS} {pos : Pos} (hp : PassesOwn (model X.prog X.w) X.A X.env X.xe) (hc : X.calm = true) (hi : PI X tg iter wi) (hg : PG X tg g) (hb : PSs X body tb)
    (hs : ∀ x, foldedSetIterable iter X.env x = pure x := by intro _; rfl) : PS X (.For tg iter body [] pos) (tFor wi g tb) := by
  intro pins s σ H D I h
  refine wpAny_For (thn (hi pins s σ H _ I h) fun v s1 h1 => thn h1 fun itv s2 h2 => ?_) hs
  obtain ⟨it, fp, tn, J, H2, e, I2, T, st2, f2, W, ⟨m0, w0⟩, turn⟩ := h2
  subst e
  -- what stays true of the iterator's objects through the loop
  have stat : ∀ {H' : Hp}, (∀ b ∈ fp, H' b = none) → ∀ b ∈ fp, FpOk X pins H' b := fun hn b hb => ⟨hn b hb, (f2 b hb).2⟩
  refine codeAny_forLoop_any (fun n s' => ∃ i σ' H', Inv X pins σ' H' s' ∧ tn i s'.heap ∧ (∀ b ∈ fp, H' b = none) ∧ W i n σ' H') ?_ m0 ⟨0, σ, H2, I2, st2, fun b hb => (f2 b hb).1, w0⟩
  rintro n s3 ⟨i, σ3, H3, I3, st3, fr3, w3⟩
  rcases turn i n σ3 H3 w3 with ⟨stop, qn⟩ | ⟨go, N, hN, step⟩
  · refine wpAny_passesOwn hp (thn (T.done X rfl rfl rfl hc i pins s3 σ3 H3 X.xe I3 (stat fr3) st3 stop) fun r s4 ⟨hr, I4⟩ => ?_)
    subst hr
    exact wpAny_execs_nil ⟨σ3, H3, I4, qn⟩
  · refine wpAny_passesOwn hp (thn (T.item X rfl rfl rfl hc i pins s3 σ3 H3 X.xe I3 (stat fr3) st3 go) fun r s4 ⟨u, hr, h4⟩ => ?_)
    subst hr
    refine wpAny_passesOwn hp (thn h4 fun _ s5 ⟨x, H5, I5, r5, y5, st5, fr5⟩ => ?_)
    have I5' := I5.pinned (stat fr5) (T.obj _ _ st5)
    refine wpAny_passesOwn hp (thn (hg _ s5 σ3 H5 x u _ I5' r5 (step x H5 y5)) fun _ s6 ⟨σ6, H6, I6, q6⟩ => ?_)
    refine wpAny_passesOwn hp (thn (hb _ s6 σ6 H6 _ I6 q6) fun f s7 q7 => ?_)
    have again : ∀ {σ7 : St} {H7 : Hp}, Inv X (pins ++ pinsAt fp s5.heap) σ7 H7 s7 → N σ7 H7 → ∃ m, m < n ∧ ∃ i σ' H', Inv X pins σ' H' s7 ∧ tn i s7.heap ∧ (∀ b ∈ fp, H' b = none) ∧ W i m σ' H' := fun {σ7 H7} I7 n7 => by
      obtain ⟨m', hm, w7⟩ := hN σ7 H7 n7
      refine ⟨m', hm, i + 1, σ7, H7, I7.unpinned, T.keep _ _ _ st5 fun b hb o e => (I7.pin (b, o) (List.mem_append_right _ (List.mem_append_right _ (mem_pinsAt hb e)))).1, fun b hb => ?_, w7⟩
      obtain ⟨o, e, d⟩ := T.obj _ _ st5 b hb
      exact (I7.pin (b, o) (List.mem_append_right _ (List.mem_append_right _ (mem_pinsAt hb e)))).2.1
    cases f with
    | next => obtain ⟨σ7, H7, I7, n7⟩ := q7; exact again I7 n7
    | cont => obtain ⟨σ7, H7, I7, n7⟩ := q7; exact again I7 n7
    | brk => obtain ⟨σ7, H7, I7, q7⟩ := q7; exact ⟨σ7, H7, I7.unpinned, q7⟩
    | ret v => obtain ⟨x7, σ7, H7, I7, r7, q7⟩ := q7; exact ⟨x7, σ7, H7, I7.unpinned, r7, q7⟩
end
theorem for_list {K : PySem.W.Frag} {a : Addr} {xs : List V} {g : TG} {tb : TS} {D : Ends} {σ : St} {H : Hp} (Pv : Nat → St → Hp → Prop) (h0 : Pv 0 σ H) (hl : ∀ i σ H, i ≤ xs.length → Pv i σ H → SqL K H a xs)
    (hs : ∀ i x σ H, xs[i]? = some x → Pv i σ H → g x σ H fun σ2 H2 => tb { D with nx := Pv (i + 1), ct := Pv (i + 1), bk := D.nx } σ2 H2) (hd : ∀ σ H, Pv xs.length σ H → D.nx σ H) :
    ∃ W : Nat → Nat → St → Hp → Prop, (∃ m, W 0 m σ H) ∧ ∀ i m σ H, W i m σ H →
      ((Itl K a).stop i H ∧ D.nx σ H) ∨ ((Itl K a).go i H ∧ ∃ N : St → Hp → Prop, (∀ σ' H', N σ' H' → ∃ m', m' < m ∧ W (i + 1) m' σ' H') ∧ ∀ x H', (Itl K a).yld i H x H' → g x σ H' fun σ2 H2 => tb { D with nx := N, ct := N, bk := D.nx } σ2 H2) := by
  refine ⟨fun i m σ H => m = xs.length - i ∧ i ≤ xs.length ∧ Pv i σ H, ⟨xs.length, by simp, Nat.zero_le _, h0⟩, ?_⟩
  rintro i m σ H ⟨rfl, hi, p⟩
  have q := hl i σ H hi p
  by_cases hlt : i < xs.length
  · refine .inr ⟨⟨xs, xs[i], q, by simp [hlt]⟩, Pv (i + 1), fun σ' H' p' => ⟨xs.length - (i + 1), by omega, rfl, hlt, p'⟩, fun x H' y => ?_⟩
    obtain ⟨e, y⟩ := y
    subst e
    exact hs i x σ _ (y xs q) p
  · have e : i = xs.length := by omega
    subst e
    exact .inl ⟨⟨xs, q, Nat.le_refl _⟩, hd σ H p⟩
theorem for_range {lo : Int} {n : Nat} {g : TG} {tb : TS} {D : Ends} {σ : St} {H : Hp} (Pv : Nat → St → Hp → Prop) (h0 : Pv 0 σ H)
    (hs : ∀ i σ H, i < n → Pv i σ H → g (.int (lo + i)) σ H fun σ2 H2 => tb { D with nx := Pv (i + 1), ct := Pv (i + 1), bk := D.nx } σ2 H2) (hd : ∀ σ H, Pv n σ H → D.nx σ H) :
    ∃ W : Nat → Nat → St → Hp → Prop, (∃ m, W 0 m σ H) ∧ ∀ i m σ H, W i m σ H →
      ((Itr lo n).stop i H ∧ D.nx σ H) ∨ ((Itr lo n).go i H ∧ ∃ N : St → Hp → Prop, (∀ σ' H', N σ' H' → ∃ m', m' < m ∧ W (i + 1) m' σ' H') ∧ ∀ x H', (Itr lo n).yld i H x H' → g x σ H' fun σ2 H2 => tb { D with nx := N, ct := N, bk := D.nx } σ2 H2) := by
  refine ⟨fun i m σ H => m = n - i ∧ i ≤ n ∧ Pv i σ H, ⟨n, by simp, Nat.zero_le _, h0⟩, ?_⟩
  rintro i m σ H ⟨rfl, hi, p⟩
  by_cases hlt : i < n
  · refine .inr ⟨hlt, Pv (i + 1), fun σ' H' p' => ⟨n - (i + 1), by omega, rfl, hlt, p'⟩, fun x H' y => ?_⟩
    obtain ⟨e, y⟩ := y
    subst e y
    exact hs i σ _ hlt p
  · have e : i = n := by omega
    subst e
    exact .inl ⟨Nat.le_refl _, hd σ H p⟩
abbrev R2 := V → V → Hp → VK → Prop
def OpR (X : Cx) (f : Value → Value → Sem Value) (r : R2) : Prop :=
  ∀ (pins : List (Addr × Obj)) (s : Shared) (σ : St) (H : Hp) (x y : V) (v u : Value) (Q : VK), Inv X pins σ H s → RelV x v → RelV y u → r x y H Q →
    wpAny (model X.prog X.w) X.A (f v u) (EP X pins σ Q) X.xe s
def UnR (X : Cx) (f : Value → Sem Value) (r : V → Hp → VK → Prop) : Prop :=
  ∀ (pins : List (Addr × Obj)) (s : Shared) (σ : St) (H : Hp) (x : V) (v : Value) (Q : VK), Inv X pins σ H s → RelV x v → r x H Q →
    wpAny (model X.prog X.w) X.A (f v) (EP X pins σ Q) X.xe s
def CallR (X : Cx) (f : Value) (r : List V → Hp → VK → Prop) : Prop :=
  ∀ (pins : List (Addr × Obj)) (s : Shared) (σ : St) (H : Hp) (xs : List V) (us : List Value) (Q : VK), Inv X pins σ H s → Vals xs us → r xs H Q →
    wpAny (model X.prog X.w) X.A (call f us) (EP X pins σ Q) X.xe s
def tOp (r : R2) (ta tb : TE) : TE := fun σ H Q => ta σ H fun x H1 => tb σ H1 fun y H2 => r x y H2 Q
def tUn (r : V → Hp → VK → Prop) (ta : TE) : TE := fun σ H Q => ta σ H fun x H1 => r x H1 Q
def rI (C : Int → Int → Prop) (g : Int → Int → V) : R2 := fun x y H Q => ∃ i j, x = .int i ∧ y = .int j ∧ C i j ∧ Q (g i j) H
def rI0 (g : Int → Int → V) : R2 := fun x y H Q => ∃ i j, x = .int i ∧ y = .int j ∧ Q (g i j) H
def rU (g : Int → V) : V → Hp → VK → Prop := fun x H Q => ∃ i, x = .int i ∧ Q (g i) H
section
variable {X : Cx} {a b c : Expr} {ta tb tc : TE} {pos : Pos}
theorem binT (ha : PE X a ta) (hb : PE X b tb) {pins : List (Addr × Obj)} {s : Shared} {σ : St} {H : Hp} {R : V → V → Hp → Prop} (I : Inv X pins σ H s)
    (h : ta σ H fun x H1 => tb σ H1 fun y H2 => R x y H2) {Q : Value → Shared → Prop} {f : Value → Value → Sem Value}
    (hf : ∀ v u s2 x y H2, Inv X pins σ H2 s2 → RelV x v → RelV y u → R x y H2 → wpAny (model X.prog X.w) X.A (f v u) Q X.xe s2) :
    wpAny (model X.prog X.w) X.A (eval a X.env) (fun v s₁ => wpAny (model X.prog X.w) X.A (eval b X.env) (fun u s₂ => wpAny (model X.prog X.w) X.A (f v u) Q X.xe s₂) X.xe s₁) X.xe s := by
  refine thn (ha pins s σ H _ I h) fun v s1 ⟨x, H1, I1, r1, q1⟩ => ?_
  refine thn (hb pins s1 σ H1 _ I1 q1) fun u s2 ⟨y, H2, I2, r2, q2⟩ => ?_
  exact hf v u s2 x y H2 I2 r1 r2 q2
theorem pe_op {op : Operator} {r : R2} (ho : OpR X (binaryOp op) r) (ha : PE X a ta) (hb : PE X b tb) : PE X (.BinOp a op b pos) (tOp r ta tb) := by
  intro pins s σ H Q I h
  exact wpAny_BinOp (binT ha hb I h fun v u s2 x y H2 I2 rx ry q => ho pins s2 σ H2 x y v u Q I2 rx ry q)
theorem pe_un {op : UnaryOp} {r : V → Hp → VK → Prop} (ho : UnR X (unaryOp op) r) (ha : PE X a ta) : PE X (.UnaryOp op a pos) (tUn r ta) := by
  intro pins s σ H Q I h
  exact UnaryOp_ (thn (ha pins s σ H _ I h) fun v s1 ⟨x, H1, I1, r1, q1⟩ => ho pins s1 σ H1 x v Q I1 r1 q1)
theorem opI {f : Value → Value → Sem Value} {C : Int → Int → Prop} {g : Int → Int → Int}
    (rule : ∀ (i j : Int) (t u : Tok) (s : Shared) (Q : Value → Shared → Prop) (E : Value → Shared → Prop), C i j → Q (.int (g i j) s.toks) { s with toks := s.toks + 1 } → wpAny (model X.prog X.w) X.A (f (.int i t) (.int j u)) Q E s) :
    OpR X f (rI C fun i j => .int (g i j)) := by
  intro pins s σ H x y v u Q I rx ry h
  obtain ⟨i, j, rfl, rfl, hc, q⟩ := h
  obtain ⟨t, rfl⟩ := rx
  obtain ⟨t', rfl⟩ := ry
  exact rule i j t t' s _ _ hc ⟨.int (g i j), H, I.tok _, ⟨_, rfl⟩, q⟩
theorem opI0 {f : Value → Value → Sem Value} {g : Int → Int → Int}
    (rule : ∀ (i j : Int) (t u : Tok) (s : Shared) (Q : Value → Shared → Prop) (E : Value → Shared → Prop), Q (.int (g i j) s.toks) { s with toks := s.toks + 1 } → wpAny (model X.prog X.w) X.A (f (.int i t) (.int j u)) Q E s) :
    OpR X f (rI0 fun i j => .int (g i j)) := by
  intro pins s σ H x y v u Q I rx ry h
  obtain ⟨i, j, rfl, rfl, q⟩ := h
  obtain ⟨t, rfl⟩ := rx
  obtain ⟨t', rfl⟩ := ry
  exact rule i j t t' s _ _ ⟨.int (g i j), H, I.tok _, ⟨_, rfl⟩, q⟩
theorem opB0 {f : Value → Value → Sem Value} {g : Int → Int → Bool}
    (rule : ∀ (i j : Int) (t u : Tok) (s : Shared) (Q : Value → Shared → Prop) (E : Value → Shared → Prop), Q (.bool (g i j)) s → wpAny (model X.prog X.w) X.A (f (.int i t) (.int j u)) Q E s) :
    OpR X f (rI0 fun i j => .bl (g i j)) := by
  intro pins s σ H x y v u Q I rx ry h
  obtain ⟨i, j, rfl, rfl, q⟩ := h
  obtain ⟨t, rfl⟩ := rx
  obtain ⟨t', rfl⟩ := ry
  exact rule i j t t' s _ _ ⟨.bl (g i j), H, I, rfl, q⟩
def CDiv (i j : Int) : Prop := 0 < j ∧ j < 1073741824
def CPow (i j : Int) : Prop := 0 ≤ j ∧ j ≤ 1000000 ∧ i.natAbs < 2 ^ 64
def CMul (i j : Int) : Prop := (-(2 ^ 64) < i ∧ i < 2 ^ 64) ∨ (-(2 ^ 64) < j ∧ j < 2 ^ 64)
theorem CMul.ok {i j : Int} (h : CMul i j) : IntMulOk i j := by
  rcases h with ⟨h1, h2⟩ | ⟨h1, h2⟩
  · exact .of_left (intBits_le_64 h1 h2)
  · exact .of_right (intBits_le_64 h1 h2)
theorem op_add : OpR X (binaryOp .Add) (rI0 fun i j => .int (i + j)) := opI0 fun _ _ _ _ _ _ _ q => add_int q
theorem op_sub : OpR X (binaryOp .Sub) (rI0 fun i j => .int (i - j)) := opI0 fun _ _ _ _ _ _ _ q => sub_int q
theorem op_mul : OpR X (binaryOp .Mult) (rI CMul fun i j => .int (i * j)) := opI fun _ _ _ _ _ _ _ hc q => mul_int q hc.ok
theorem op_fdiv : OpR X (binaryOp .FloorDiv) (rI CDiv fun i j => .int (i / j)) := opI fun i j _ _ _ _ _ hc q => by
  have h1 : (0 : Int) < j := hc.1
  have h2 : j < 1073741824 := hc.2
  exact floordiv_int (by omega) (by rw [Int.fdiv_eq_ediv_of_nonneg i (by omega)]; exact q) (.inl (PyProof.noPylong_small (by omega)))
theorem op_mod : OpR X (binaryOp .Mod) (rI (fun _ j => 0 < j) fun i j => .int (i % j)) := opI fun i j _ _ _ _ _ hc q => by
  have h1 : (0 : Int) < j := hc
  exact mod_int' (by omega) (by rw [Int.fmod_eq_emod_of_nonneg i (by omega)]; exact q)
theorem op_pow : OpR X (binaryOp .Pow) (rI CPow fun i j => .int (i ^ j.toNat)) := opI fun _ _ _ _ _ _ _ hc q => pow_int_small hc.1 hc.2.1 hc.2.2 q
theorem unI {f : Value → Sem Value} {g : Int → Int}
    (rule : ∀ (i : Int) (t : Tok) (s : Shared) (Q : Value → Shared → Prop) (E : Value → Shared → Prop), Q (.int (g i) s.toks) { s with toks := s.toks + 1 } → wpAny (model X.prog X.w) X.A (f (.int i t)) Q E s) :
    UnR X f (rU fun i => .int (g i)) := by
  intro pins s σ H x v Q I rx h
  obtain ⟨i, rfl, q⟩ := h
  obtain ⟨t, rfl⟩ := rx
  exact rule i t s _ _ ⟨.int (g i), H, I.tok _, ⟨_, rfl⟩, q⟩
theorem un_neg : UnR X (unaryOp .USub) (rU fun i => .int (-i)) := unI fun _ _ _ _ _ q => neg_int q
end
def scal : V → V → Bool
  | .non, .non => true | .non, .int _ => true | .int _, .non => true | .non, .bl _ => true | .bl _, .non => true | .non, .str _ => true | .str _, .non => true
  | .int _, .int _ => true | .bl _, .bl _ => true | .str _, .str _ => true | .byt _, .byt _ => true
  | .int _, .str _ => true | .str _, .int _ => true | .bl _, .str _ => true | .str _, .bl _ => true
  | _, _ => false
def rEq : R2 := fun x y H Q => scal x y = true ∧ Q (.bl (decide (x = y))) H
def rNe : R2 := fun x y H Q => scal x y = true ∧ Q (.bl (!decide (x = y))) H
theorem dec_int {i j : Int} : decide (V.int i = V.int j) = (i == j) := by
  rw [Bool.eq_iff_iff]
  simp
theorem dec_bl {i j : Bool} : decide (V.bl i = V.bl j) = (i == j) := by
  rw [Bool.eq_iff_iff]
  simp
theorem dec_str {i j : Str} : decide (V.str i = V.str j) = (i == j) := by
  rw [Bool.eq_iff_iff]
  simp
theorem dec_byt {i j : Array UInt8} : decide (V.byt i = V.byt j) = (i.toList == j.toList) := by
  rw [Bool.eq_iff_iff]
  cases i
  cases j
  simp
section
variable {X : Cx} {a b c : Expr} {ta tb tc : TE} {pos : Pos}
theorem fin_bl {pins : List (Addr × Obj)} {σ : St} {H : Hp} {s : Shared} {Q : VK} {k k' : Bool} (I : Inv X pins σ H s) (q : Q (.bl k) H) (e : k = k') : EP X pins σ Q (.bool k') s := by
  subst e
  exact ⟨.bl k, H, I, rfl, q⟩
theorem op_eq : OpR X (compareOp .Eq) rEq := by
  intro pins s σ H x y v u Q I rx ry h
  obtain ⟨hs, q⟩ := h
  cases x with
  | non =>
    cases rx
    cases y with
    | non => cases ry; exact PySem.EqNone.eq_none_none (fin_bl I q (by simp))
    | bl j => cases ry; exact PySem.EqNone.eq_none_bool (fin_bl I q (by simp))
    | int j => obtain ⟨t', rfl⟩ := ry; exact PySem.EqNone.eq_none_int (fin_bl I q (by simp))
    | str j => obtain ⟨t', rfl⟩ := ry; exact PySem.EqNone.eq_none_str (fin_bl I q (by simp))
    | _ => exact absurd (show false = true from hs) Bool.false_ne_true
  | bl i =>
    cases rx
    cases y with
    | non => cases ry; exact PySem.EqNone.eq_bool_none (fin_bl I q (by simp))
    | bl j => cases ry; exact eq_bool (fin_bl I q dec_bl)
    | str j => obtain ⟨t', rfl⟩ := ry; exact PySem.EqMixed.eq_bool_str (fin_bl I q (by simp))
    | _ => exact absurd (show false = true from hs) Bool.false_ne_true
  | int i =>
    obtain ⟨t, rfl⟩ := rx
    cases y with
    | non => cases ry; exact PySem.EqNone.eq_int_none (fin_bl I q (by simp))
    | int j => obtain ⟨t', rfl⟩ := ry; exact eq_int (fin_bl I q dec_int)
    | str j => obtain ⟨t', rfl⟩ := ry; exact PySem.EqMixed.eq_int_str (fin_bl I q (by simp))
    | _ => exact absurd (show false = true from hs) Bool.false_ne_true
  | str i =>
    obtain ⟨t, rfl⟩ := rx
    cases y with
    | non => cases ry; exact PySem.EqNone.eq_str_none (fin_bl I q (by simp))
    | bl j => cases ry; exact PySem.EqMixed.eq_str_bool (fin_bl I q (by simp))
    | int j => obtain ⟨t', rfl⟩ := ry; exact PySem.EqMixed.eq_str_int (fin_bl I q (by simp))
    | str j => obtain ⟨t', rfl⟩ := ry; exact eq_str (fin_bl I q dec_str)
    | _ => exact absurd (show false = true from hs) Bool.false_ne_true
  | byt i =>
    obtain ⟨t, rfl⟩ := rx
    cases y with
    | byt j => obtain ⟨t', rfl⟩ := ry; exact PySem.W.eq_bytes (fin_bl I q dec_byt)
    | _ => exact absurd (show false = true from hs) Bool.false_ne_true
  | _ => cases y <;> exact absurd (show false = true from hs) Bool.false_ne_true
theorem op_ne : OpR X (compareOp .NotEq) rNe := by
  intro pins s σ H x y v u Q I rx ry h
  obtain ⟨hs, q⟩ := h
  cases x with
  | non =>
    cases rx
    cases y with
    | non => cases ry; exact PySem.EqNone.ne_none_none (fin_bl I q (by simp))
    | bl j => cases ry; exact PySem.EqNone.ne_none_bool (fin_bl I q (by simp))
    | int j => obtain ⟨t', rfl⟩ := ry; exact PySem.EqNone.ne_none_int (fin_bl I q (by simp))
    | str j => obtain ⟨t', rfl⟩ := ry; exact PySem.EqNone.ne_none_str (fin_bl I q (by simp))
    | _ => exact absurd (show false = true from hs) Bool.false_ne_true
  | bl i =>
    cases rx
    cases y with
    | non => cases ry; exact PySem.EqNone.ne_bool_none (fin_bl I q (by simp))
    | bl j => cases ry; exact ne_bool (fin_bl I q (congrArg not dec_bl))
    | str j => obtain ⟨t', rfl⟩ := ry; exact PySem.EqMixed.ne_bool_str (fin_bl I q (by simp))
    | _ => exact absurd (show false = true from hs) Bool.false_ne_true
  | int i =>
    obtain ⟨t, rfl⟩ := rx
    cases y with
    | non => cases ry; exact PySem.EqNone.ne_int_none (fin_bl I q (by simp))
    | int j => obtain ⟨t', rfl⟩ := ry; exact ne_int (fin_bl I q (congrArg not dec_int))
    | str j => obtain ⟨t', rfl⟩ := ry; exact PySem.EqMixed.ne_int_str (fin_bl I q (by simp))
    | _ => exact absurd (show false = true from hs) Bool.false_ne_true
  | str i =>
    obtain ⟨t, rfl⟩ := rx
    cases y with
    | non => cases ry; exact PySem.EqNone.ne_str_none (fin_bl I q (by simp))
    | bl j => cases ry; exact PySem.EqMixed.ne_str_bool (fin_bl I q (by simp))
    | int j => obtain ⟨t', rfl⟩ := ry; exact PySem.EqMixed.ne_str_int (fin_bl I q (by simp))
    | str j => obtain ⟨t', rfl⟩ := ry; exact ne_str (fin_bl I q (congrArg not dec_str))
    | _ => exact absurd (show false = true from hs) Bool.false_ne_true
  | byt i =>
    obtain ⟨t, rfl⟩ := rx
    cases y with
    | byt j => obtain ⟨t', rfl⟩ := ry; exact PySem.W.ne_bytes (fin_bl I q (congrArg not dec_byt))
    | _ => exact absurd (show false = true from hs) Bool.false_ne_true
  | _ => cases y <;> exact absurd (show false = true from hs) Bool.false_ne_true
theorem op_lt : OpR X (compareOp .Lt) (rI0 fun i j => .bl (decide (i < j))) := opB0 fun _ _ _ _ _ _ _ q => lt_int q
theorem op_le : OpR X (compareOp .LtE) (rI0 fun i j => .bl (decide (i ≤ j))) := opB0 fun _ _ _ _ _ _ _ q => le_int q
theorem op_gt : OpR X (compareOp .Gt) (rI0 fun i j => .bl (decide (j < i))) := opB0 fun _ _ _ _ _ _ _ q => gt_int q
theorem op_ge : OpR X (compareOp .GtE) (rI0 fun i j => .bl (decide (j ≤ i))) := opB0 fun _ _ _ _ _ _ _ q => ge_int q
theorem op_notN : OpR X (compareOp .IsNot) (fun x y H Q => y = .non ∧ Q (.bl (!decide (x = .non))) H) := by
  intro pins s σ H x y v u Q I rx ry h
  obtain ⟨rfl, q⟩ := h
  cases ry
  refine isnot_none_gen (fin_bl I q ?_)
  cases x <;> first
    | (cases rx; rfl)
    | (obtain ⟨t, rfl⟩ := rx; rfl)
theorem OpR.or {f : Value → Value → Sem Value} {r r' : R2} (h : OpR X f r) (h' : OpR X f r') : OpR X f (fun x y H Q => r x y H Q ∨ r' x y H Q) := by
  intro pins s σ H x y v u Q I rx ry q
  rcases q with q | q
  · exact h pins s σ H x y v u Q I rx ry q
  · exact h' pins s σ H x y v u Q I rx ry q
theorem nomark (b : Expr) {op : CmpOp} (h : op ≠ .In := by decide) (h2 : op ≠ .NotIn := by decide) : behindInMarks op b = false := by
  have e1 : (op == CmpOp.In) = false := by cases op <;> first | rfl | exact absurd rfl h
  have e2 : (op == CmpOp.NotIn) = false := by cases op <;> first | rfl | exact absurd rfl h2
  cases b <;> simp [behindInMarks, e1, e2]
theorem pe_cmpR {op : CmpOp} {r : R2} (ho : OpR X (compareOp op) r) (ha : PE X a ta) (hb : PE X b tb) (hm : behindInMarks op b = false) : PE X (.Compare a [op] [b] pos) (tOp r ta tb) := by
  intro pins s σ H Q I h
  exact wpAny_Compare1 (binT ha hb I h fun v u s2 x y H2 I2 rx ry q => ho pins s2 σ H2 x y v u Q I2 rx ry q) hm
def tTest (t : TE) : TT := fun σ H Q => t σ H fun x H' => ∃ k, x = .bl k ∧ Q k H'
theorem pt_cmpR {op : CmpOp} {r : R2} (ho : OpR X (compareOp op) r) (ha : PE X a ta) (hb : PE X b tb) (hm : behindInMarks op b = false) : PT X (.Compare a [op] [b] pos) (tTest (tOp r ta tb)) := by
  intro pins s σ H Q I h
  refine wpAny_isTrue_Compare1 (thn (ha pins s σ H _ I h) fun v s1 ⟨x, H1, I1, r1, q1⟩ => thn (hb pins s1 σ H1 _ I1 q1) fun u s2 ⟨y, H2, I2, r2, q2⟩ =>
    thn (ho pins s2 σ H2 x y v u _ I2 r1 r2 q2) fun c s3 ⟨z, H3, I3, r3, k, e, q3⟩ => ?_) hm
  subst e
  cases r3
  exact wpAny_truthy_bool ⟨H3, I3, q3⟩
def tChain (r r' : R2) (ta tb tc : TE) : TE := fun σ H Q => ta σ H fun x H1 => tb σ H1 fun y H2 => r x y H2 fun z H3 => ∃ k, z = .bl k ∧
  (if k = true then tc σ H3 fun w' H4 => r' y w' H4 Q else Q (.bl false) H3)
theorem pe_chain {op op' : CmpOp} {r r' : R2} (ho : OpR X (compareOp op) r) (ho' : OpR X (compareOp op') r') (ha : PE X a ta) (hb : PE X b tb) (hc : PE X c tc)
    (hm : lastMarks [op, op'] [b, c] = false := by with_unfolding_all rfl) : PE X (.Compare a [op, op'] [b, c] pos) (tChain r r' ta tb tc) := by
  intro pins s σ H Q I h
  refine Compare_chain (thn (ha pins s σ H _ I h) fun v s1 ⟨x, H1, I1, r1, q1⟩ => chain_link (thn (hb pins s1 σ H1 _ I1 q1) fun u s2 ⟨y, H2, I2, r2, q2⟩ =>
    thn (ho pins s2 σ H2 x y v u _ I2 r1 r2 q2) fun d s3 ⟨z, H3, I3, r3, k, e, q3⟩ => ?_)) hm
  subst e
  cases r3
  refine wpAny_truthy_bool ?_
  cases k with
  | false => exact ite_ff ⟨.bl false, H3, I3, rfl, q3⟩
  | true => exact ite_tt (chain_last (thn (hc pins s3 σ H3 _ I3 q3) fun w' s4 ⟨z', H4, I4, r4, q4⟩ => ho' pins s4 σ H4 y z' u w' Q I4 r2 r4 q4))
theorem pt_chain {op op' : CmpOp} {r r' : R2} (ho : OpR X (compareOp op) r) (ho' : OpR X (compareOp op') r') (ha : PE X a ta) (hb : PE X b tb) (hc : PE X c tc)
    (hm : lastMarks [op, op'] [b, c] = false := by with_unfolding_all rfl) : PT X (.Compare a [op, op'] [b, c] pos) (tTest (tChain r r' ta tb tc)) := by
  intro pins s σ H Q I h
  refine isTrue_chain (thn (ha pins s σ H _ I h) fun v s1 ⟨x, H1, I1, r1, q1⟩ => test_link (thn (hb pins s1 σ H1 _ I1 q1) fun u s2 ⟨y, H2, I2, r2, q2⟩ =>
    thn (ho pins s2 σ H2 x y v u _ I2 r1 r2 q2) fun d s3 ⟨z, H3, I3, r3, k, e, q3⟩ => ?_)) hm
  subst e
  cases r3
  refine wpAny_truthy_bool ?_
  cases k with
  | false =>
    obtain ⟨k', e', q'⟩ := q3
    cases e'
    exact ite_ff ⟨H3, I3, q'⟩
  | true =>
    refine ite_tt (test_last (thn (hc pins s3 σ H3 _ I3 q3) fun w' s4 ⟨z', H4, I4, r4, q4⟩ => thn (ho' pins s4 σ H4 y z' u w' _ I4 r2 r4 q4) fun d' s5 ⟨z2, H5, I5, r5, k2, e2, q5⟩ => ?_))
    subst e2
    cases r5
    exact wpAny_truthy_bool ⟨H5, I5, q5⟩
theorem line63 : (sizeLine : Nat) < 2 ^ 63 := by rw [sizeLine_eq]; decide
theorem op_add_str : OpR X (binaryOp .Add) (fun x y H Q => ∃ i j, x = .str i ∧ y = .str j ∧ i.length + j.length ≤ sizeLine ∧ Q (.str (i ++ j)) H) := by
  intro pins s σ H x y v u Q I rx ry h
  obtain ⟨i, j, rfl, rfl, hz, q⟩ := h
  obtain ⟨t, rfl⟩ := rx
  obtain ⟨t', rfl⟩ := ry
  exact add_str (fun t' tk => ⟨.str (i ++ j), H, I.tok _, ⟨_, rfl⟩, q⟩) hz
theorem vals1 {x : V} {us : List Value} (r : Vals [x] us) : ∃ u, us = [u] ∧ RelV x u := by
  cases r with
  | cons r1 r2 => cases r2; exact ⟨_, rfl, r1⟩
theorem vals2 {x y : V} {us : List Value} (r : Vals [x, y] us) : ∃ u w', us = [u, w'] ∧ RelV x u ∧ RelV y w' := by
  cases r with
  | cons r1 r2 =>
    cases r2 with
    | cons r3 r4 => cases r4; exact ⟨_, _, rfl, r1, r3⟩
theorem call_max2 (hc : X.calm = true) : CallR X (.builtin "max") (fun xs H Q => ∃ i j, xs = [.int i, .int j] ∧ Q (.int (if j > i then j else i)) H) := by
  intro pins s σ H xs us Q I r h
  obtain ⟨i, j, rfl, q⟩ := h
  obtain ⟨u, w', rfl, ⟨t, rfl⟩, ⟨t', rfl⟩⟩ := vals2 r
  refine max_two_ints (I.ok.hd hc) fun h' tk k => ⟨_, H, I.kept k, ?_, q⟩
  by_cases hj : j > i
  · rw [if_pos hj, if_pos hj]; exact ⟨_, rfl⟩
  · rw [if_neg hj, if_neg hj]; exact ⟨_, rfl⟩
theorem call_min2 (hc : X.calm = true) : CallR X (.builtin "min") (fun xs H Q => ∃ i j, xs = [.int i, .int j] ∧ Q (.int (if j < i then j else i)) H) := by
  intro pins s σ H xs us Q I r h
  obtain ⟨i, j, rfl, q⟩ := h
  obtain ⟨u, w', rfl, ⟨t, rfl⟩, ⟨t', rfl⟩⟩ := vals2 r
  refine min_two_ints (I.ok.hd hc) fun h' tk k => ⟨_, H, I.kept k, ?_, q⟩
  by_cases hj : j < i
  · rw [if_pos hj, if_pos hj]; exact ⟨_, rfl⟩
  · rw [if_neg hj, if_neg hj]; exact ⟨_, rfl⟩
theorem call_int1 : CallR X (.type "int") (fun xs H Q => (∃ i, xs = [.int i] ∧ Q (.int i) H) ∨ ∃ k, xs = [.bl k] ∧ Q (.int (if k then 1 else 0)) H) := by
  intro pins s σ H xs us Q I r h
  rcases h with ⟨i, rfl, q⟩ | ⟨k, rfl, q⟩
  · obtain ⟨u, rfl, t, rfl⟩ := vals1 r
    exact call_int_int ⟨.int i, H, I, ⟨_, rfl⟩, q⟩
  · obtain ⟨u, rfl, r1⟩ := vals1 r
    cases r1
    exact call_int_bool ⟨.int (if k then 1 else 0), H, I.tok _, ⟨_, rfl⟩, q⟩
def LenV (K : PySem.W.Frag) (x : V) (H : Hp) (n : Nat) : Prop :=
  match x with
  | .str y => y.length ≤ sizeLine ∧ n = y.length
  | .byt y => y.size ≤ sizeLine ∧ n = y.size
  | .ref p => (∃ xs, SqL K H p xs ∧ n = xs.length) ∨ ∃ xs, SqT K H p xs ∧ n = xs.length
  | _ => False
theorem call_len : CallR X (.builtin "len") (fun xs H Q => ∃ x n, xs = [x] ∧ LenV X.K x H n ∧ Q (.int n) H) := by
  intro pins s σ H xs us Q I r h
  obtain ⟨x, n, rfl, e, q⟩ := h
  obtain ⟨u, rfl, rx⟩ := vals1 r
  have hl := line63
  have hs : sizeLine = 16777216 := sizeLine_eq
  cases x with
  | str y =>
    obtain ⟨t, rfl⟩ := rx
    obtain ⟨hy, e'⟩ : y.length ≤ sizeLine ∧ n = y.length := e
    subst e'
    exact len_str (by omega) ⟨.int _, H, I.tok _, ⟨_, rfl⟩, q⟩
  | byt y =>
    obtain ⟨t, rfl⟩ := rx
    obtain ⟨hy, e'⟩ : y.size ≤ sizeLine ∧ n = y.size := e
    subst e'
    exact PySem.W.len_bytes (by omega) ⟨.int _, H, I.tok _, ⟨_, rfl⟩, q⟩
  | ref p =>
    cases rx
    have e' : (∃ xs, SqL X.K H p xs ∧ n = xs.length) ∨ ∃ xs, SqT X.K H p xs ∧ n = xs.length := e
    rcases e' with ⟨xs, hx, e'⟩ | ⟨xs, hx, e'⟩
    · subst e'
      obtain ⟨its, r', pl, hz⟩ := I.list hx
      have hlen := r'.length
      exact Calls.call_len_list pl.isList (by simp only [List.size_toArray]; omega) ⟨.int xs.length, H, I.tok _, ⟨_, by simp only [List.size_toArray]; rw [hlen]⟩, q⟩
    · subst e'
      obtain ⟨its, r', pl, hz⟩ := I.tuple hx
      have hlen := r'.length
      exact len_tuple pl (by simp only [List.size_toArray]; omega) ⟨.int xs.length, H, I.tok _, ⟨_, by simp only [List.size_toArray]; rw [hlen]⟩, q⟩
  | _ => exact (show False from e).elim
end
structure ObjM (h : Heap) (x dx C : Addr) (mA : Str → Option Value) : Prop where
  obj : h.get? x = some (PySem.W.instObj C dx)
  ns : h.Ns1 dx mA
  ne : dx ≠ x
theorem lookIn_ns {h : Heap} {dx : Addr} {mA : Str → Option Value} (n : h.Ns1 dx mA) : ∃ od, h.get? dx = some od ∧ ∀ name, PySem.W.lookIn name od = some (mA name) := by
  obtain ⟨o, es, ep, ho, hd, hk, _, hm⟩ := n
  refine ⟨o, ho, fun name => ?_⟩
  have e := hm name
  unfold nsFind findBy at e
  rw [← Array.find?_toList] at e
  unfold PySem.W.lookIn
  rw [hd]
  dsimp only
  split
  · rename_i y q
    rw [q] at e
    exact congrArg some e
  · rename_i q
    rw [q] at e
    have a : es.toList.any (·.refKey) = false := by
      rw [List.any_eq_false]
      intro y hy
      obtain ⟨z, t, hkey⟩ := hk y (Array.mem_toList_iff.mp hy)
      simp [DictEntry.refKey, hkey]
    have a' : ¬ es.toList.any (·.refKey) = true := by rw [a]; exact Bool.false_ne_true
    rw [if_neg a']
    exact congrArg some e
theorem ObjM.look {h : Heap} {x dx C : Addr} {mA : Str → Option Value} (I : ObjM h x dx C mA) : ∃ od, PySem.W.InstAt h x (PySem.W.instObj C dx) C (some od) ∧ ∀ name, PySem.W.lookIn name od = some (mA name) :=
  let ⟨od, ho, hl⟩ := lookIn_ns I.ns
  ⟨od, ⟨I.obj, rfl, rfl, ho⟩, hl⟩
section
variable {prog : Program} {w : World} {A : Around} {E : Value → Shared → Prop} {s : Shared} {K : PySem.W.Frag} {x dx C f : Addr} {mA : Str → Option Value} {name : Str} {v : Value}
theorem get_map {expr : Bool} {Q : Value → Shared → Prop} (X : K.In s.heap) (I : ObjM s.heap x dx C mA) (hg : PySem.W.plainGet K C name = true) (hh : PySem.W.hasDictIn K C = true)
    (ha : PySem.W.findIn K (.ref C) name = some none) (hv : mA name = some v) (hv' : PySem.W.handedIn v = true) (h : Q v { s with toks := s.toks + 1 }) :
    wpAny (model prog w) A (getAttr (.ref x) name expr) Q E s := by
  obtain ⟨od, J, hl⟩ := I.look
  exact PySem.W.get_value X J (PySem.W.plainGet_of hg).1 (PySem.W.findObj_own hh ha rfl (by rw [hl, hv])) hv' h
theorem get_meth {pl : Sem Bool} {Q : Value × List Value → Shared → Prop} (X : K.In s.heap) (I : ObjM s.heap x dx C mA) (hg : PySem.W.plainGet K C name = true)
    (hf : PySem.W.findIn K (.ref C) name = some (some (.ref f))) (ht : PySem.W.isFn K (.ref f) = true) (hv : mA name = none) (h : Q (.ref f, [.ref x]) s) :
    wpAny (model prog w) A (getMethod (.ref x) name pl) Q E s := by
  obtain ⟨od, J, hl⟩ := I.look
  exact PySem.W.method_fn X J (PySem.W.plainGet_of hg).1 (PySem.W.plainGet_of hg).2 hf (beq_iff_eq.mp ht) (by show (PySem.W.lookIn name od).map (·.isSome) = some false; rw [hl, hv]; rfl) h
theorem set_map {ns : List Str} {Q : Unit → Shared → Prop} (X : K.In s.heap) (I : ObjM s.heap x dx C mA)
    (hs : PySem.W.findIn K (.ref C) "__setattr__" = some (some (.builtin "object.__setattr__"))) (hp : PySem.W.plainOver K C = true) (ht : PySem.W.takerIn K C name = some none) (hh : PySem.W.hasDictIn K C = true)
    (hw : PySem.Within mA ns) (hsz : ns.length ≤ sizeLine)
    (h : ∀ h', ObjM h' x dx C (fun y => if y = name then some v else mA y) → Heap.SameBut dx s.heap h' → Q () { s with heap := h', toks := s.toks + 2 }) :
    wpAny (model prog w) A (setAttr (.ref x) name v) Q E s := by
  obtain ⟨od, J, hl⟩ := I.look
  refine PySem.W.set_plain X J hs (PySem.W.osa_open (s := { s with toks := s.toks + 1 }) (r := none) X J hp ht fun b => ?_)
  obtain ⟨cd, hc, hd'⟩ := PySem.W.any_some hh
  have hx : s.heap.get? x = some ⟨.ref C, some dx, .plain, #[]⟩ := I.obj
  refine wpAny_bind (wpAny_pure (wpAny_bind (wpAny_bind (wpAny_loadPart hx (wpAny_bind (PySem.W.Looks.here (s := { s with toks := s.toks + 1 }) (PySem.W.looks_clsIn X hc) ?_))))))
  rw [hd']
  refine wpAny_pure (a := some dx) (wpAny_bind (wpAny_pure (wpAny_bind ?_)))
  refine wpAny_nsSet1 (s := { s with toks := s.toks + 1 }) I.ns fun h' hn2 hs2 => ?_
  obtain ⟨oD, esD, epD, hoD, hdD, hcD⟩ := hn2.count (PySem.Within.cons name v hw)
  refine wpAny_bind (wpAny_lookBehind hoD (by rw [hdD]; exact pastItsLine_dict (Nat.le_trans hcD (by rw [List.length_cons]; omega))) ?_)
  exact wpAny_pure (h _ ⟨(hs2.2 _ (Ne.symm I.ne)).trans I.obj, hn2, I.ne⟩ hs2)
theorem make_map {R : Result → Shared → Prop} {vs : List Value} {kw : List (Str × Value)} (X : K.In s.heap) (hm : PySem.W.makesIn K C = true)
    (hi : PySem.W.findIn K (.ref C) "__init__" = some (some (.ref f))) (hf : PySem.W.typeIn K (.ref f) = some (.type "function"))
    (h : codeAny (model prog w) (A.under (.builtin "type.__call__" ⟨.ref C :: vs, kw⟩)) (.call (.ref f) ⟨.ref (s.heap.objs.size + 1) :: vs, kw⟩) (PySem.W.InitBack (s.heap.objs.size + 1) R)
      { s with heap := (s.heap.push PySem.W.emptyDict).push (PySem.W.instObj C s.heap.objs.size) }) :
    codeAny (model prog w) A (.call (.ref C) ⟨vs, kw⟩) R s := by
  obtain ⟨hh, g, d, t, os⟩ := s
  exact PySem.W.make_core (PySem.W.makes_of X hm) (PySem.W.looks_findIn X hi) (fun self => PySem.W.bind_fn X self hf) (.inl rfl) h
end
def putF (f : Str) (v : V) : List (Str × V) → List (Str × V)
  | [] => [(f, v)]
  | (g, x) :: r => if g = f then (g, v) :: r else (g, x) :: putF f v r
theorem lookup_putF (f g : Str) (v : V) : ∀ fs : List (Str × V), (putF f v fs).lookup g = if g = f then some v else fs.lookup g
  | [] => by
    show List.lookup g [(f, v)] = _
    by_cases h : g = f
    · have hb : (g == f) = true := beq_iff_eq.mpr h
      simp only [List.lookup, hb, if_pos h]
    · have hb : (g == f) = false := beq_eq_false_iff_ne.mpr h
      simp only [List.lookup, hb, if_neg h]
  | (k, x) :: r => by
    have ih := lookup_putF f g v r
    rw [show putF f v ((k, x) :: r) = (if k = f then (k, v) :: r else (k, x) :: putF f v r) from rfl]
    by_cases hk : k = f
    · rw [if_pos hk]
      by_cases h : g = k
      · have hb : (g == k) = true := beq_iff_eq.mpr h
        simp only [List.lookup, hb, if_pos (h.trans hk)]
      · have hb : (g == k) = false := beq_eq_false_iff_ne.mpr h
        simp only [List.lookup, hb, if_neg (fun e : g = f => h (e.trans hk.symm))]
    · rw [if_neg hk]
      by_cases h : g = k
      · have hb : (g == k) = true := beq_iff_eq.mpr h
        simp only [List.lookup, hb, if_neg (fun e : g = f => hk (h.symm.trans e))]
      · have hb : (g == k) = false := beq_eq_false_iff_ne.mpr h
        simp only [List.lookup, hb]
        exact ih
theorem keys_putF (f : Str) (v : V) : ∀ fs : List (Str × V), f ∈ (putF f v fs).map (·.1) ∧ ∀ g, g ∈ fs.map (·.1) → g ∈ (putF f v fs).map (·.1)
  | [] => ⟨by simp [putF], fun g h => by simp at h⟩
  | (k, x) :: r => by
    obtain ⟨i1, i2⟩ := keys_putF f v r
    rw [show putF f v ((k, x) :: r) = (if k = f then (k, v) :: r else (k, x) :: putF f v r) from rfl]
    by_cases hk : k = f
    · rw [if_pos hk]
      subst hk
      exact ⟨by simp, fun g h => by simpa using h⟩
    · rw [if_neg hk]
      refine ⟨?_, fun g h => ?_⟩
      · rw [List.map_cons]
        exact List.mem_cons_of_mem _ i1
      · rw [List.map_cons] at h ⊢
        rcases List.mem_cons.mp h with e | e
        · exact List.mem_cons.mpr (.inl e)
        · exact List.mem_cons_of_mem _ (i2 g e)
theorem length_putF (f : Str) (v : V) : ∀ fs : List (Str × V), (putF f v fs).length ≤ fs.length + 1
  | [] => by simp [putF]
  | (k, x) :: r => by
    have ih := length_putF f v r
    rw [show putF f v ((k, x) :: r) = (if k = f then (k, v) :: r else (k, x) :: putF f v r) from rfl]
    by_cases hk : k = f
    · rw [if_pos hk, List.length_cons, List.length_cons]; omega
    · rw [if_neg hk, List.length_cons, List.length_cons]; omega
theorem RelO.some_of {v : V} {o : Option Value} (r : RelO (some v) o) : ∃ u, o = some u ∧ RelV v u := by
  cases o with
  | none => exact (show False from r).elim
  | some u => exact ⟨u, rfl, r⟩
theorem RelO.none_of {o : Option Value} (r : RelO none o) : o = none := by
  cases o with
  | none => rfl
  | some u => exact (show False from r).elim
theorem handed_of {v : V} {u : Value} (r : RelV v u) : PySem.W.handedIn u = true := by
  cases v with
  | non => cases (show u = Value.none from r); rfl
  | bl b => cases (show u = Value.bool b from r); rfl
  | int i => obtain ⟨t, e⟩ := (show ∃ t, u = Value.int i t from r); cases e; rfl
  | str x => obtain ⟨t, e⟩ := (show ∃ t, u = Value.str x t from r); cases e; rfl
  | byt b => obtain ⟨t, e⟩ := (show ∃ t, u = Value.bytes b t from r); cases e; rfl
  | flt b => obtain ⟨t, e⟩ := (show ∃ t, u = Value.float b t from r); cases e; rfl
  | ref a => cases (show u = Value.ref a from r); rfl
  | ty n => cases (show u = Value.type n from r); rfl
section
variable {P : Program} {w : World} {H H' : Hp} {h h' : Heap} {a C dx : Addr} {fs fs' : List (Str × V)}
theorem ins_get (hok : HOk P w H h) (e : H a = some (.ins C dx fs)) : ∃ mA, ObjM h a dx C mA ∧ (∀ f, RelO (fs.lookup f) (mA f)) ∧ PySem.Within mA (fs.map (·.1)) ∧ fs.length ≤ 1000 ∧ H dx = some (.own a) := by
  obtain ⟨d, z, ne, ob, mA, n, r, q⟩ := (show ObjOk P w H h a (.ins C dx fs) from hok a _ e)
  exact ⟨mA, ⟨ob, n, ne⟩, r, q, z, d⟩
end
structure Cls (K : PySem.W.Frag) (C : Addr) : Prop where
  pg : PySem.W.plainGet K C Str.empty = true
  hd : PySem.W.hasDictIn K C = true
  po : PySem.W.plainOver K C = true
  sa : PySem.W.findIn K (.ref C) "__setattr__" = some (some (.builtin "object.__setattr__"))
theorem Cls.get {K : PySem.W.Frag} {C : Addr} (c : Cls K C) (f : Str) : PySem.W.plainGet K C f = true := c.pg
def NoAttr (K : PySem.W.Frag) (C : Addr) (f : Str) : Prop := PySem.W.findIn K (.ref C) f = some none
theorem NoAttr.taker {K : PySem.W.Frag} {C : Addr} {f : Str} (n : NoAttr K C f) : PySem.W.takerIn K C f = some none := by
  unfold PySem.W.takerIn
  rw [show PySem.W.findIn K (.ref C) f = some none from n]
  rfl
structure Meth (K : PySem.W.Frag) (C : Addr) (m : Str) (f : Addr) : Prop where
  at_ : PySem.W.findIn K (.ref C) m = some (some (.ref f))
  fn : PySem.W.isFn K (.ref f) = true
  kp : PySem.W.keepIn K (.ref f) = true
section
variable {X : Cx} {pins : List (Addr × Obj)} {σ : St} {H : Hp} {s : Shared} {a C dx : Addr} {fs : List (Str × V)} {f : Str} {v : V} {A : Around} {E : Value → Shared → Prop}
theorem getattr_ok {b : Bool} {Q : Value → Shared → Prop} (I : Inv X pins σ H s) (e : H a = some (.ins C dx fs)) (c : Cls X.K C) (n : NoAttr X.K C f) (l : fs.lookup f = some v)
    (h : ∀ u s', Inv X pins σ H s' → RelV v u → Q u s') : wpAny (model X.prog X.w) A (getAttr (.ref a) f b) Q E s := by
  obtain ⟨mA, O, r, _, _, _⟩ := ins_get I.hok e
  obtain ⟨u, hu, ru⟩ := RelO.some_of (v := v) (o := mA f) (by rw [← l]; exact r f)
  exact get_map I.kIn O (c.get f) c.hd n hu (handed_of ru) (h u _ (I.tok _) ru)
theorem getmeth_ok {m : Str} {g : Addr} {pl : Sem Bool} {Q : Value × List Value → Shared → Prop} (I : Inv X pins σ H s) (e : H a = some (.ins C dx fs)) (c : Cls X.K C) (k : Meth X.K C m g) (l : fs.lookup m = none)
    (h : Q (.ref g, [.ref a]) s) : wpAny (model X.prog X.w) A (getMethod (.ref a) m pl) Q E s := by
  obtain ⟨mA, O, r, _, _, _⟩ := ins_get I.hok e
  have hn : mA m = none := RelO.none_of (by rw [← l]; exact r m)
  exact get_meth I.kIn O (c.get m) k.at_ k.fn hn h
theorem setattr_ok {y : V} {u : Value} {Q : Unit → Shared → Prop} (I : Inv X pins σ H s) (e : H a = some (.ins C dx fs)) (c : Cls X.K C) (n : NoAttr X.K C f) (hl : fs.length < 1000) (ry : RelV y u)
    (h : ∀ s', Inv X pins σ (upd H a (.ins C dx (putF f y fs))) s' → Q () s') : wpAny (model X.prog X.w) A (setAttr (.ref a) f u) Q E s := by
  obtain ⟨mA, O, r, wi, _, ho⟩ := ins_get I.hok e
  have hz : (fs.map (·.1)).length ≤ sizeLine := by rw [List.length_map, sizeLine_eq]; omega
  refine set_map I.kIn O c.sa c.po n.taker c.hd wi hz fun h' O' sb => h _ ?_
  have hd : ∃ o, h'.get? dx = some o := let ⟨o, _, _, e', _⟩ := O'.ns; ⟨o, e'⟩
  refine I.write (x := a) (e := dx) (by rw [e]; exact True.intro) (.inr ho) (fun b q hb z => (sb.2 b hb).trans z) hd ?_
  refine ⟨by rw [upd_ne O.ne]; exact ho, ?_, O.ne, O'.obj, _, O'.ns, fun g => ?_, fun g hg => ?_⟩
  · have := length_putF f y fs; omega
  · show RelO ((putF f y fs).lookup g) (if g = f then some u else mA g)
    rw [lookup_putF]
    by_cases q : g = f
    · rw [if_pos q, if_pos q]; exact ry
    · rw [if_neg q, if_neg q]; exact r g
  · by_cases q : g = f
    · rw [q]; exact (keys_putF f y fs).1
    · refine (keys_putF f y fs).2 g (wi g fun z => hg ?_)
      show (if g = f then some u else mA g) = none
      rw [if_neg q]; exact z
theorem Inv.made (I : Inv X pins σ H s) : Inv X pins σ (upd (upd H s.heap.objs.size (.own (s.heap.objs.size + 1))) (s.heap.objs.size + 1) (.ins C s.heap.objs.size []))
    { s with heap := (s.heap.push PySem.W.emptyDict).push (PySem.W.instObj C s.heap.objs.size) } := by
  have e1 : (s.heap.push PySem.W.emptyDict).get? s.heap.objs.size = some PySem.W.emptyDict := Heap.get?_push_size s.heap rfl
  have e2 : ((s.heap.push PySem.W.emptyDict).push (PySem.W.instObj C s.heap.objs.size)).get? (s.heap.objs.size + 1) = some (PySem.W.instObj C s.heap.objs.size) := by
    have := Heap.get?_push_size (s.heap.push PySem.W.emptyDict) (o := PySem.W.instObj C s.heap.objs.size) rfl
    rwa [Heap.size_push] at this
  have e3 : (s.heap.push PySem.W.emptyDict).Ns s.heap.objs.size (fun _ => none) := ⟨PySem.W.emptyDict, #[], _, e1, rfl, (fun e he => absurd he (by simp)), fun _ => rfl⟩
  have I1 := I.laid (a := s.heap.objs.size) (o := .own (s.heap.objs.size + 1)) (h' := s.heap.push PySem.W.emptyDict) (t' := s.toks) (fun b u q => Heap.get?_push_of_some _ q) (Nat.le_refl _) ⟨_, e1⟩
  refine I1.laid (a := s.heap.objs.size + 1) (o := .ins C s.heap.objs.size []) (t' := s.toks) (fun b u q => Heap.get?_push_of_some _ q) (Nat.le_of_eq (Heap.size_push _ _)) ?_
  have ne : s.heap.objs.size ≠ s.heap.objs.size + 1 := Nat.ne_of_lt (Nat.lt_succ_self _)
  refine ⟨by rw [upd_ne ne, upd_same], Nat.zero_le _, ne, e2, fun _ => none, (Heap.Ns1.of_empty e3).at fun o q => Heap.get?_push_of_some _ q, fun _ => True.intro, fun y hy => absurd rfl hy⟩
theorem attr_of {prog : Program} {w : World} {env : Env} {e : Expr} {f : Str} {pos : Pos} {s : Shared} {Q : Value → Shared → Prop} (hb : attributeBase e f env (eval e env) = eval e env)
    (h : wpAny (model prog w) A (eval e env) (fun o s₁ => wpAny (model prog w) A (getAttr o f true) Q E s₁) E s) : wpAny (model prog w) A (eval (.Attribute e f pos) env) Q E s :=
  Attribute_any_ h (by rw [arm_eval_Attribute, hb])
end
def tFld (K : PySem.W.Frag) (ta : TE) (f : Str) : TE := fun σ H Q => ta σ H fun x H1 => ∃ a C dx fs v, x = .ref a ∧ H1 a = some (.ins C dx fs) ∧ Cls K C ∧ NoAttr K C f ∧ fs.lookup f = some v ∧ Q v H1
def sFld (K : PySem.W.Frag) (ta tv : TE) (f : Str) : TS := fun D σ H => tv σ H fun y H1 => ta σ H1 fun x H2 => ∃ a C dx fs, x = .ref a ∧ H2 a = some (.ins C dx fs) ∧ Cls K C ∧ NoAttr K C f ∧ fs.length < 1000 ∧
  D.nx σ (upd H2 a (.ins C dx (putF f y fs)))
section
variable {X : Cx} {o e value : Expr} {f : Str} {pos pos' tpos : Pos} {ta tv : TE}
theorem pe_fld (he : PE X e ta) (hb : attributeBase e f X.env (eval e X.env) = eval e X.env) : PE X (.Attribute e f pos) (tFld X.K ta f) := by
  intro pins s σ H Q I h
  refine attr_of hb (thn (he pins s σ H _ I h) fun u s1 ⟨x, H1, I1, rx, a, C, dx, fs, v, ex, ea, c, n, l, q⟩ => ?_)
  subst ex
  obtain rfl : u = Value.ref a := rx
  exact getattr_ok I1 ea c n l fun u' s2 I2 ru => ⟨v, H1, I2, ru, q⟩
theorem ps_fld (ha : PE X o ta) (hv : PE X value tv) (hs : swapsWith value (some (.Attribute o f pos')) pos.line X.env = pure false) : PS X (.Assign [.Attribute o f pos'] value pos) (sFld X.K ta tv f) := by
  intro pins s σ H D I h
  refine plainObj_wpAny_Assign_Attribute (thn (hv pins s σ H _ I h) fun u s1 ⟨y, H1, I1, ry, q⟩ => thn (ha pins s1 σ H1 _ I1 q) fun ov s2 ⟨x, H2, I2, rx, a, C, dx, fs, ex, ea, c, n, l, q2⟩ => ?_) hs
  subst ex
  obtain rfl : ov = Value.ref a := rx
  exact setattr_ok I2 ea c n l ry fun s3 I3 => ⟨σ, _, I3, q2⟩
end
section
variable {X : Cx} {pins : List (Addr × Obj)} {σ : St} {H : Hp} {s : Shared} {A : Around} {E : Value → Shared → Prop} {Q : Value → Shared → Prop} {c : Value} {b : Bool}
inductive TyOf (K : PySem.W.Frag) (H : Hp) : V → Value → Prop where
  | non : TyOf K H .non (.type "NoneType")
  | bl (x : Bool) : TyOf K H (.bl x) (.type "bool")
  | int (i : Int) : TyOf K H (.int i) (.type "int")
  | str (x : Str) : TyOf K H (.str x) (.type "str")
  | flt (x : UInt64) : TyOf K H (.flt x) (.type "float")
  | lst {a : Addr} {xs : List V} (e : H a = some (.lst xs)) : TyOf K H (.ref a) (.type "list")
  | frz {a : Addr} {o : Obj} {xs : List V} (e : H a = some (.frz o (.lst xs))) : TyOf K H (.ref a) (.type "list")
  | tup {a : Addr} {xs : List V} (e : H a = some (.tup xs)) : TyOf K H (.ref a) (.type "tuple")
  | dK {a : Addr} {kvs : List (Key × V)} (e : H a = some (.dK kvs)) : TyOf K H (.ref a) (.type "dict")
  | dT {a : Addr} {kvs : List (List Key × V)} (e : H a = some (.dT kvs)) : TyOf K H (.ref a) (.type "dict")
  | ins {a C dx : Addr} {fs : List (Str × V)} (e : H a = some (.ins C dx fs)) (cl : Cls K C) (ha : PySem.W.findIn K (.ref C) "__class__" = some (some (.builtin "object.__class__")))
      (hn : PySem.W.specialIn K (.builtin "object.__class__") "__get__" = some (some (.builtin "getset_descriptor.__get__"))) (htk : PySem.W.takesIn K (.builtin "object.__class__") = some true)
      (hm : PySem.W.mroIn K C (.type "object") = some true) : TyOf K H (.ref a) (.ref C)
theorem isinst_ok {x : V} {u t : Value} (I : Inv X pins σ H s) (rx : RelV x u) (ty : TyOf X.K H x t) (e : PySem.W.kitOne X.K t c = some b) (h : ∀ tk, Q (.bool b) { s with toks := tk }) :
    wpAny (model X.prog X.w) A (call (.builtin "isinstance") [u, c]) Q E s := by
  cases ty with
  | non => cases (show u = Value.none from rx); exact PySem.W.kia_one PySem.W.kitx_none I.kIn True.intro e (fun z => nomatch z) h
  | bl y => cases (show u = Value.bool y from rx); exact PySem.W.kia_one PySem.W.kitx_bool I.kIn True.intro e (fun z => nomatch z) h
  | int i => obtain ⟨t, q⟩ := (show ∃ t, u = Value.int i t from rx); cases q; exact PySem.W.kia_one PySem.W.kitx_int I.kIn True.intro e (fun z => nomatch z) h
  | str y => obtain ⟨t, q⟩ := (show ∃ t, u = Value.str y t from rx); cases q; exact PySem.W.kia_one PySem.W.kitx_str I.kIn True.intro e (fun z => nomatch z) h
  | flt y => obtain ⟨t, q⟩ := (show ∃ t, u = Value.float y t from rx); cases q; exact PySem.W.kia_one PySem.W.kitx_float I.kIn True.intro e (fun z => nomatch z) h
  | @lst a xs ea =>
    cases (show u = Value.ref a from rx)
    obtain ⟨_, _, n, _, h1⟩ := (show ObjOk X.prog X.w H s.heap a (.lst xs) from I.hok a _ ea)
    exact PySem.W.kia_one PySem.W.kitx_list I.kIn ⟨_, h1, rfl⟩ e (fun z => nomatch z) h
  | @frz a ob xs ea =>
    cases (show u = Value.ref a from rx)
    obtain ⟨_, _, _, n, _, h1⟩ := (show ObjOk X.prog X.w H s.heap a (.frz ob (.lst xs)) from I.hok a _ ea)
    exact PySem.W.kia_one PySem.W.kitx_list I.kIn ⟨_, h1, rfl⟩ e (fun z => nomatch z) h
  | @tup a xs ea =>
    cases (show u = Value.ref a from rx)
    obtain ⟨_, _, _, p⟩ := (show ObjOk X.prog X.w H s.heap a (.tup xs) from I.hok a _ ea)
    obtain ⟨o, h1, h2, _⟩ := p
    exact PySem.W.kia_one PySem.W.kitx_tuple I.kIn ⟨o, h1, h2⟩ e (fun z => nomatch z) h
  | @dK a kvs ea =>
    cases (show u = Value.ref a from rx)
    obtain ⟨_, _, vs, _, p⟩ := (show ObjOk X.prog X.w H s.heap a (.dK kvs) from I.hok a _ ea)
    obtain ⟨o, es, ep, h1, h2, _⟩ := p
    exact PySem.W.kia_one PySem.W.kitx_dict I.kIn ⟨o, h1, h2.1⟩ e (fun z => nomatch z) h
  | @dT a kvs ea =>
    cases (show u = Value.ref a from rx)
    obtain ⟨_, _, xs, _, o, es, ep, h1, h2, _⟩ := (show ObjOk X.prog X.w H s.heap a (.dT kvs) from I.hok a _ ea)
    exact PySem.W.kia_one PySem.W.kitx_dict I.kIn ⟨o, h1, h2.1⟩ e (fun z => nomatch z) h
  | @ins a C dx fs ea cl ha hn htk hm =>
    cases (show u = Value.ref a from rx)
    obtain ⟨mA, O, _⟩ := ins_get I.hok ea
    obtain ⟨od, J, _⟩ := O.look
    exact PySem.W.kia_one (PySem.W.kitx_own (cl.get _) cl.hd ha hn htk hm) I.kIn J e (fun z => nomatch z) h
end
structure Room (k : Nat) (A : Around) : Prop where
  hd : A.handled = none
  dp : A.depth + 3 * k + 5 < recursionLimit
  un : A.units + 16 * k + 200 < cLine
  gd : A.guards = some []
theorem Room.mono {j k : Nat} {A : Around} (r : Room k A) (h : j ≤ k) : Room j A := ⟨r.hd, by have := r.dp; omega, by have := r.un; omega, r.gd⟩
theorem Room.deeper {k : Nat} {A : Around} (r : Room (k + 1) A) (env : Env) : Room k (A.deeper env) :=
  ⟨r.hd, by have := r.dp; show A.depth + 1 + 3 * k + 5 < _; omega, by have := r.un; show A.units + 3 + 16 * k + 200 < _; omega, r.gd⟩
theorem make_depth {A : Around} {C : Addr} {us : List Value} {kw : List (Str × Value)} : (A.under (.builtin "type.__call__" ⟨.ref C :: us, kw⟩)).depth = A.depth + 1 := by
  first | rfl | simp [Around.under, Code.weight, Code.isCreation, Code.isGuard, Code.isCaller, Code.frames, Code.isFrame, guardIds]
theorem make_units {A : Around} {C : Addr} {us : List Value} {kw : List (Str × Value)} : (A.under (.builtin "type.__call__" ⟨.ref C :: us, kw⟩)).units = A.units + 1 := by
  first | rfl | simp [Around.under, Code.cUnits, Code.frames, Code.isFrame]
theorem Room.make {k : Nat} {A : Around} (r : Room (k + 1) A) (C : Addr) (us : List Value) (kw : List (Str × Value)) : Room k (A.under (.builtin "type.__call__" ⟨.ref C :: us, kw⟩)) :=
  ⟨r.hd, by have := r.dp; rw [make_depth]; omega, by have := r.un; rw [make_units]; omega, by first | exact r.gd | (simp [Around.under, Code.guards, Code.isGuard, guardIds, pushGuards]; exact r.gd)⟩
theorem Room.depth {k : Nat} {A : Around} (r : Room k A) : A.depth < recursionLimit := by have := r.dp; omega
def tNil : TA := fun _ H Q => Q [] H
def tCons (ta : TE) (tr : TA) : TA := fun σ H Q => ta σ H fun x H1 => tr σ H1 fun xs H2 => Q (x :: xs) H2
section
variable {X : Cx} {e : Expr} {es : List Expr} {te : TE} {t : TA} {pos : Pos}
theorem pa_nil : PA X [] tNil := fun _ _ _ _ H Q I h => Calls.spliced_nil ⟨[], H, I, .nil, h⟩
theorem pa_cons (ha : PE X e te) (hr : PA X es t) (hs : starEach (e :: es) X.env = (false, eval e X.env) :: starEach es X.env := by rfl) : PA X (e :: es) (tCons te t) := by
  intro pos pins s σ H Q I h
  rw [hs]
  show wpAny _ _ (spliced ((false, eval e X.env) :: backTo pos (starEach es X.env))) _ _ s
  refine Calls.spliced_cons (thn (ha pins s σ H _ I h) fun u s1 ⟨x, H1, I1, r1, q1⟩ => ?_)
  exact thn (hr pos pins s1 σ H1 _ I1 q1) fun us s2 ⟨xs, H2, I2, r2, q2⟩ => ⟨x :: xs, H2, I2, .cons r1 r2, q2⟩
end
abbrev Sp := List V → Hp → VK → XK → Prop
abbrev CXT := List Env → Hp → Shared → XK → Value → Shared → Prop
structure Env0 (P : Program) (w : World) (K : PySem.W.Frag) (mg : Str → Option Value) (base : Heap) (A : Around) (outer : List Env) (s : Shared) (H : Hp) : Prop where
  frames : A.frames = some outer
  mod : Mod K mg base
  bs : ∀ b o, base.get? b = some o → s.heap.get? b = some o ∧ H b = none
  bsz : base.objs.size ≤ s.heap.objs.size
  funs : s.heap.FunFrames base outer
  frf : ∀ b ∈ frs outer, H b = none
  hok : HOk P w H s.heap
  bare : AllBare s.gens
def CE (outer : List Env) (P : Program) (w : World) (H : Hp) (s : Shared) (Q : VK) (u : Value) (s' : Shared) : Prop :=
  ∃ v H', s'.os = s.os ∧ AllBare s'.gens ∧ Un (frs outer) [] H H' s.heap s'.heap ∧ HOk P w H' s'.heap ∧ RelV v u ∧ Q v H'
def CR (CX : CXT) (outer : List Env) (P : Program) (w : World) (H : Hp) (s : Shared) (Q : VK) (E : XK) (r : Result) (s' : Shared) : Prop :=
  match r with
  | .ok (.ret u) => CE outer P w H s Q u s'
  | .ok _ => False
  | .error e => CX outer H s E e s'
structure FnOk (P : Program) (w : World) (K : PySem.W.Frag) (mg : Str → Option Value) (base : Heap) (CX : CXT) (k : Nat) (f : Addr) (fd : FuncData) (ps : List Str) (sp : Sp) : Prop where
  len : ∀ vs H Q E, sp vs H Q E → vs.length = ps.length
  run : ∀ (A : Around) (outer : List Env) (s : Shared) (H : Hp) (args : Args) (us : List Value) (vs : List V) (Q : VK) (E : XK), Room k A → Env0 P w K mg base A outer s H → BindsTo s fd args (ps.zip us) → Vals vs us → sp vs H Q E →
    codeAny (model P w) A (.call (.ref f) args) (CR CX outer P w H s Q E) s
theorem Env0.make {P : Program} {w : World} {K : PySem.W.Frag} {mg : Str → Option Value} {base : Heap} {A : Around} {outer : List Env} {s : Shared} {H : Hp} (e : Env0 P w K mg base A outer s H) (C : Addr) (us : List Value) (kw : List (Str × Value)) :
    Env0 P w K mg base (A.under (.builtin "type.__call__" ⟨.ref C :: us, kw⟩)) outer s H := ⟨by first | exact e.frames | (simpa [Around.under, Code.envs, Code.isFrame, pushEnvs] using e.frames), e.mod, e.bs, e.bsz, e.funs, e.frf, e.hok, e.bare⟩
section
variable {X : Cx} {pins : List (Addr × Obj)} {σ : St} {H : Hp} {s s' : Shared}
theorem Inv.env0 (I : Inv X pins σ H s) : Env0 X.prog X.w X.K X.mg X.base X.A X.stack s H :=
  ⟨I.ok.frames, I.ok.mod, I.bs, Nat.le_trans I.ok.bsz I.sz, I.stack, I.stkFree, I.hok, I.bare⟩
theorem Inv.after {Q : VK} {u : Value} (I : Inv X pins σ H s) (h : CE X.stack X.prog X.w H s Q u s') : EP X pins σ Q u s' := by
  obtain ⟨v, H', os, bare, un, hok, r, q⟩ := h
  obtain ⟨hh, g, d, t, os'⟩ := s'
  obtain rfl : os' = s.os := os
  exact ⟨v, H', I.call (h' := hh) (g' := g) (d' := d) (t' := t) (ch := []) un hok bare (fun b z => absurd z (by simp)), r, q⟩
end
def tCall (sp : Sp) (dvs : List V) (E : XK) (t : TA) : TE := fun σ H Q => t σ H fun vs H1 => sp (vs ++ dvs) H1 Q E
def tMeth (C : Addr) (m : Str) (sp : Sp) (dvs : List V) (E : XK) (ta : TE) (t : TA) : TE := fun σ H Q => ta σ H fun x H1 => ∃ a dx fs, x = .ref a ∧ H1 a = some (.ins C dx fs) ∧ fs.lookup m = none ∧
  t σ H1 fun vs H2 => sp (x :: (vs ++ dvs)) H2 Q E
def Binds (K : PySem.W.Frag) (fd : FuncData) (ps : List Str) (ds : List Value) : Prop :=
  ∀ (s : Shared) (us : List Value), K.In s.heap → (us ++ ds).length = ps.length → BindsTo s fd ⟨us, []⟩ (ps.zip (us ++ ds))
theorem Binds.all {K : PySem.W.Frag} {fd : FuncData} {ps : List Str} (h : ∀ us : List Value, us.length = ps.length → bindArgs fd ⟨us, []⟩ = pure (ps.zip us)) : Binds K fd ps [] := fun s us _ hl => by
  rw [List.append_nil] at hl ⊢
  exact .of_eq (h us hl)
def Passes (CX : CXT) (X : Cx) (E : XK) : Prop := ∀ (pins : List (Addr × Obj)) (σ : St) (H : Hp) (s : Shared) (e : Value) (s' : Shared), Inv X pins σ H s → CX X.stack H s E e s' → X.xe e s'
section
variable {X : Cx} {CX : CXT} {k : Nat} {f C : Addr} {fd : FuncData} {ps : List Str} {sp : Sp} {dvs : List V} {ds : List Value} {E : XK} {x m : Str} {p pos apos : Pos} {e o : Expr} {es : List Expr} {ta : TE} {t : TA}
theorem run_fn {pins : List (Addr × Obj)} {σ : St} {H : Hp} {s : Shared} {Q : VK} {us : List Value} {vs : List V} (F : FnOk X.prog X.w X.K X.mg X.base CX k f fd ps sp) (hr : Room k X.A) (hb : Binds X.K fd ps ds) (hd : Vals dvs ds) (hx : Passes CX X E)
    (I : Inv X pins σ H s) (r : Vals vs us) (h : sp (vs ++ dvs) H Q E) : wpAny (model X.prog X.w) X.A (call (.ref f) us) (EP X pins σ Q) X.xe s := by
  have r2 : Vals (vs ++ dvs) (us ++ ds) := r.append hd
  have hl : (us ++ ds).length = ps.length := by rw [← r2.length]; exact F.len _ _ _ _ h
  refine wpAny_call (codeAny_mono (F.run X.A X.stack s H ⟨us, []⟩ (us ++ ds) (vs ++ dvs) Q E hr I.env0 (hb s us I.kIn hl) r2 h) fun r s' hq => ?_)
  cases r with
  | error e => exact hx pins σ H s e s' I hq
  | ok fl =>
    cases fl with
    | ret u => exact I.after hq
    | next => exact False.elim hq
    | brk => exact False.elim hq
    | cont => exact False.elim hq
theorem pe_call (F : FnOk X.prog X.w X.K X.mg X.base CX k f fd ps sp) (hr : Room k X.A) (hg : Gl X x) (hm : X.mg x = some (.ref f)) (hk : PySem.W.keepIn X.K (.ref f) = true) (hb : Binds X.K fd ps ds) (hd : Vals dvs ds) (hx : Passes CX X E)
    (ha : PA X (e :: es) t) (hdb : (x == ("__debug__" : Str)) = false := by decide) (he : starEach (e :: es) X.env = (false, eval e X.env) :: starEach es X.env := by rfl) (hpl : (backTo pos (starEach es X.env)).any (·.1) = false := by rfl) :
    PE X (.Call (.Name x p) (e :: es) [] pos) (tCall sp dvs E t) := by
  intro pins s σ H Q I h
  refine wpAny_Call_Name_kw (ld_glob I hg hm ?_ hdb)
  refine PySem.W.callWith_K (h₀ := X.base) I.ok.mod.kin hk (thn (ha pos pins s σ H _ I h) fun us s1 ⟨vs, H1, I1, r, q⟩ => ⟨I1.kIn, ?_⟩) he hpl
  exact run_fn F hr hb hd hx I1 r q
theorem pe_meth0 {pl : Sem Bool} (he : PE X o ta) (c : Cls X.K C) (hm : Meth X.K C m f) (F : FnOk X.prog X.w X.K X.mg X.base CX k f fd ps sp) (hr : Room k X.A) (hb : Binds X.K fd ps ds) (hd : Vals dvs ds) (hx : Passes CX X E)
    (ht : eval (.Call (.Attribute o m apos) [] [] pos) X.env = (do
      let ov ← eval o X.env
      standAt apos.atName
      let (f, first) ← holding [ov] (getMethod ov m pl)
      callWith pos f first (backTo pos (starEach [] X.env)) (backToKw pos (keywordEach [] X.env))) := by rfl) :
    PE X (.Call (.Attribute o m apos) [] [] pos) (tMeth C m sp dvs E ta tNil) := by
  intro pins s σ H Q I h
  refine PySem.W.methodCall_KW (pl := pl) (thn (he pins s σ H _ I h) fun u s1 ⟨x, H1, I1, rx, a, dx, fs, ex, ea, l, q⟩ => ?_) ht
  subst ex
  obtain rfl : u = Value.ref a := rx
  refine getmeth_ok I1 ea c hm l ?_
  exact PySem.W.callWith_K0 (first := [.ref a]) I1.kIn hm.kp (run_fn (us := [.ref a]) (vs := [.ref a]) F hr hb hd hx I1 (.cons rfl .nil) q)
structure Mk (K : PySem.W.Frag) (C f : Addr) : Prop where
  makes : PySem.W.makesIn K C = true
  init : PySem.W.findIn K (.ref C) "__init__" = some (some (.ref f))
  fn : PySem.W.isFn K (.ref f) = true
  kp : PySem.W.keepIn K (.ref C) = true
theorem run_make {pins : List (Addr × Obj)} {σ : St} {H : Hp} {s : Shared} {Q : VK} {us : List Value} {vs : List V} (M : Mk X.K C f) (F : FnOk X.prog X.w X.K X.mg X.base CX k f fd ps sp) (hr : Room (k + 1) X.A) (hb : Binds X.K fd ps ds) (hd : Vals dvs ds)
    (hx : Passes CX X E) (I : Inv X pins σ H s) (r : Vals vs us)
    (h : ∀ x dx, H x = none → H dx = none → dx ≠ x → sp (.ref x :: (vs ++ dvs)) (upd (upd H dx (.own x)) x (.ins C dx [])) (fun v H2 => v = .non ∧ Q (.ref x) H2) E) :
    wpAny (model X.prog X.w) X.A (call (.ref C) us) (EP X pins σ Q) X.xe s := by
  have hq := h (s.heap.objs.size + 1) s.heap.objs.size (I.hok.fresh (Nat.le_succ _)) (I.hok.fresh (Nat.le_refl _)) (Nat.ne_of_lt (Nat.lt_succ_self _))
  have I2 := Inv.made (C := C) I
  have r2 : Vals (V.ref (s.heap.objs.size + 1) :: (vs ++ dvs)) (Value.ref (s.heap.objs.size + 1) :: (us ++ ds)) := .cons rfl (r.append hd)
  have hl : (Value.ref (s.heap.objs.size + 1) :: us ++ ds).length = ps.length := by
    have e := r2.length
    rw [F.len _ _ _ _ hq] at e
    exact e.symm
  refine wpAny_call (make_map (f := f) I.kIn M.makes M.init (beq_iff_eq.mp M.fn) (codeAny_mono (F.run _ X.stack _ _ ⟨Value.ref (s.heap.objs.size + 1) :: us, []⟩ (Value.ref (s.heap.objs.size + 1) :: (us ++ ds)) _ _ E (hr.make C us [])
    (I2.env0.make C us []) (hb _ (Value.ref (s.heap.objs.size + 1) :: us) I2.kIn hl) r2 hq) fun r s' hq' => ?_))
  cases r with
  | error e => exact hx pins σ _ _ e s' I2 hq'
  | ok fl =>
    cases fl with
    | ret u =>
      obtain ⟨v, H', I3, rv, ev, q3⟩ := I2.after hq'
      subst ev
      exact ⟨rv, ⟨V.ref (s.heap.objs.size + 1), H', I3, rfl, q3⟩⟩
    | next => exact False.elim hq'
    | brk => exact False.elim hq'
    | cont => exact False.elim hq'
end
structure FnScope (N P : List Str) (sc : Scope) : Prop where
  kind : sc.kind = .function
  co : sc.isCoroutine = false
  gen : sc.isGenerator = false
  nd : N.Nodup
  pre : N.take P.length = P
  par : ∀ x ∈ P, sc.names.lookup x = some .local ∨ sc.names.lookup x = some .cell
  nofree : ∀ y ∈ sc.names, y.2 ≠ .free
theorem bindL_out {kindOf : Str → Option NameKind} {x : Str} : ∀ {binds : List (Str × Value)} {m : Str → Option Value}, (∀ v, (x, v) ∉ binds) → bindL kindOf binds m x = m x
  | [], _, _ => rfl
  | (n, v) :: r, m, h => by
    unfold bindL
    rw [bindL_out fun w hw => h w (List.mem_cons_of_mem _ hw)]
    split
    · have : x ≠ n := by rintro rfl; exact h v List.mem_cons_self
      simp [this]
    · rfl
theorem bindC_out {kindOf : Str → Option NameKind} {x : Str} : ∀ {binds : List (Str × Value)} {m : Str → Option Value}, (∀ v, (x, v) ∉ binds) → bindC kindOf binds m x = m x
  | [], _, _ => rfl
  | (n, v) :: r, m, h => by
    unfold bindC
    rw [bindC_out fun w hw => h w (List.mem_cons_of_mem _ hw)]
    split
    · rfl
    · have : x ≠ n := by rintro rfl; exact h v List.mem_cons_self
      simp [this]
theorem bindL_get {kindOf : Str → Option NameKind} {x : Str} {v : Value} : ∀ {P : List Str} {vs : List Value} {i : Nat} {m : Str → Option Value}, P.Nodup → P[i]? = some x → vs[i]? = some v → kindOf x = some .local →
    bindL kindOf (P.zip vs) m x = some v
  | [], _, _, _, _, h, _, _ => by simp at h
  | _ :: _, [], _, _, _, _, h, _ => by simp at h
  | p :: P, w :: vs, 0, m, nd, h1, h2, hk => by
    simp at h1 h2; subst h1; subst h2
    show bindL kindOf ((p, w) :: P.zip vs) m p = _
    unfold bindL
    rw [bindL_out fun v hv => (List.nodup_cons.mp nd).1 (List.of_mem_zip hv).1, if_pos hk]
    simp
  | p :: P, w :: vs, i + 1, m, nd, h1, h2, hk => by
    show bindL kindOf ((p, w) :: P.zip vs) m x = _
    unfold bindL
    exact bindL_get (i := i) (List.nodup_cons.mp nd).2 (by simpa using h1) (by simpa using h2) hk
theorem bindC_get {kindOf : Str → Option NameKind} {x : Str} {v : Value} : ∀ {P : List Str} {vs : List Value} {i : Nat} {m : Str → Option Value}, P.Nodup → P[i]? = some x → vs[i]? = some v → kindOf x ≠ some .local →
    bindC kindOf (P.zip vs) m x = some v
  | [], _, _, _, _, h, _, _ => by simp at h
  | _ :: _, [], _, _, _, _, h, _ => by simp at h
  | p :: P, w :: vs, 0, m, nd, h1, h2, hk => by
    simp at h1 h2; subst h1; subst h2
    show bindC kindOf ((p, w) :: P.zip vs) m p = _
    unfold bindC
    rw [bindC_out fun v hv => (List.nodup_cons.mp nd).1 (List.of_mem_zip hv).1, if_neg hk]
    simp
  | p :: P, w :: vs, i + 1, m, nd, h1, h2, hk => by
    show bindC kindOf ((p, w) :: P.zip vs) m x = _
    unfold bindC
    exact bindC_get (i := i) (List.nodup_cons.mp nd).2 (by simpa using h1) (by simpa using h2) hk
def start (N : List Str) (vs : List V) : St := vs.map some ++ List.replicate (N.length - vs.length) none
def cxOf (CX : CXT) (P : Program) (w : World) (K : PySem.W.Frag) (mg : Str → Option Value) (base : Heap) (N : List Str) (qual : Str) (scope : Scope) (f : Addr) (cd : Value) (A : Around) (outer : List Env) (s : Shared) (H : Hp) (E : XK) : Cx where
  prog := P
  w := w
  K := K
  mg := mg
  base := base
  A := A.deeper (envOfC qual scope s.heap.objs.size f cd)
  N := N
  s₀ := s
  H₀ := H
  env := envOfC qual scope s.heap.objs.size f cd
  outer := outer
  stack := envOfC qual scope s.heap.objs.size f cd :: outer
  ex := []
  calm := true
  fn := fun _ => true
  pn := []
  xe := fun e s' => wpAny (model P w) (A.deeper (envOfC qual scope s.heap.objs.size f cd)) (leaving (envOfC qual scope s.heap.objs.size f cd) e) (fun _ s'' => CX outer H s E e s'') (fun e' s'' => CX outer H s E e' s'') s'
theorem cell_has {sc : Scope} {n : Nat} {x : Str} (h : sc.names.lookup x = some .cell) : ∃ c, (cellsFrom n sc.names []).lookup x = some c := by
  have q := PySem.W.cellsFrom_some sc.names n [] (.inl h)
  exact Option.isSome_iff_exists.mp q
theorem inv_start {CX : CXT} {P : Program} {w : World} {K : PySem.W.Frag} {mg : Str → Option Value} {base : Heap} {N ps : List Str} {qual : Str} {scope : Scope} {f : Addr} {cd : Value} {A : Around} {outer : List Env} {s s1 : Shared} {H : Hp} {E : XK} {us : List Value} {vs : List V}
    (S : FnScope N ps scope) (hd : A.handled = none) (e0 : Env0 P w K mg base A outer s H) (hl : vs.length = ps.length) (r : Vals vs us)
    (x : InCallC s s.heap.objs.size (bindL (envOfC qual scope s.heap.objs.size f cd).kindOf (ps.zip us) fun _ => none) (cellsFrom (s.heap.objs.size + 1) scope.names []) (bindC (envOfC qual scope s.heap.objs.size f cd).kindOf (ps.zip us) fun _ => none) s1) :
    Inv (cxOf CX P w K mg base N qual scope f cd A outer s H E) [] (start N vs) H s1 := by
  have hpl : ps.length ≤ N.length := by have := congrArg List.length S.pre; rw [List.length_take] at this; omega
  obtain ⟨h1, tk, rfl, hk⟩ := x.done
  have noA : ∀ b : Addr, b ∉ (cxOf CX P w K mg base N qual scope f cd A outer s H E).ex := fun b z => absurd (show b ∈ ([] : List Addr) from z) (by simp)
  refine ⟨⟨e0.mod, S.kind, rfl, rfl, Nat.le_refl _, fun y z c h1 h2 => ?_, fun y hy => ?_, fun y c _ h => ?_, fun _ => hd, Around.frames_deeper e0.frames, .inr ⟨rfl, rfl⟩, fun b z => absurd z (noA b), e0.bs, e0.bsz, fun b _ _ => noA b, fun b z => absurd z (noA b), e0.funs, e0.frf⟩,
    rfl, e0.bare, Un.kept hk, ⟨_, x.toInCall.ns, fun i y v h1 h2 h3 => ?_⟩, fun y c h => ⟨_, x.cell y c h⟩, e0.hok.fresh (Nat.le_refl _), fun y c h => ?_, fun p hp => absurd (show p ∈ ([] : List (Addr × Obj)) from hp) (by simp), e0.hok.kept hk, ?_⟩
  · exact name_of_addr x.apart (PySem.mem_of_lookup h1) (PySem.mem_of_lookup h2)
  · have hy : scope.names.lookup y = some .cell ∨ scope.names.lookup y = some .free := hy
    rcases hy with hy | hy
    · exact cell_has hy
    · exact absurd rfl (S.nofree _ (PySem.mem_of_lookup hy))
  · exact Nat.le_of_lt (x.above y c (PySem.mem_of_lookup h))
  · have hi : i < vs.length := by
      unfold start at h2
      by_cases hi : i < vs.length
      · exact hi
      · rw [List.getElem?_append_right (by simpa using hi)] at h2
        rw [List.getElem?_replicate] at h2
        split at h2 <;> cases h2
    have ha : vs[i]? = some v := by
      unfold start at h2
      rw [List.getElem?_append_left (by simpa using hi), List.getElem?_map] at h2
      cases e : vs[i]? with
      | none => rw [e] at h2; cases h2
      | some a => rw [e] at h2; cases h2; rfl
    obtain ⟨u, hu, rv⟩ := r.get ha
    have hp : ps[i]? = some y := by
      rw [← S.pre, List.getElem?_take_of_lt (by omega)]; exact h1
    have ndP : ps.Nodup := by rw [← S.pre]; exact S.nd.sublist (List.take_sublist _ _)
    refine ⟨u, rv, ?_⟩
    rcases S.par y (List.mem_of_getElem? hp) with k | k
    · exact .inl ⟨k, bindL_get ndP hp hu k⟩
    · obtain ⟨c, e⟩ := cell_has (n := s.heap.objs.size + 1) k
      refine .inr ⟨.inl k, c, e, ?_⟩
      have q := x.cell y c e
      rw [bindC_get ndP hp hu (by show scope.names.lookup y ≠ _; rw [k]; decide)] at q
      exact q
  · exact e0.hok.fresh (Nat.le_of_lt (x.above y c (PySem.mem_of_lookup h)))
  · unfold start
    show _ = N.length
    rw [List.length_append, List.length_map, List.length_replicate]
    omega
theorem fn_of {CX : CXT} {P : Program} {w : World} {K : PySem.W.Frag} {mg : Str → Option Value} {base : Heap} {k : Nat} {f : Addr} {name qual : Str} {params : Arguments} {body : List Stmt} {scope : Scope} {dV kV doc pm cdv ct oc : Value} {an od : Option Addr}
    {osl : Array (Option Value)} {N ps : List Str} {sp : Sp} (lk : K.lookup f = some ⟨oc, od, .func (PySem.W.fnOf name qual params body scope dV kV doc pm an cdv ct), osl⟩) (hcd : PySem.W.codeIn K cdv qual = true) (S : FnScope N ps scope)
    (len : ∀ vs H Q E, sp vs H Q E → vs.length = ps.length)
    (hbody : ∀ (A : Around) (outer : List Env) (s : Shared) (H : Hp) (vs : List V) (Q : VK) (E : XK), Room k (A.deeper (envOfC qual scope s.heap.objs.size f cdv)) → sp vs H Q E →
      ∃ t, PSs (cxOf CX P w K mg base N qual scope f cdv A outer s H E) body t ∧ t { nx := fun _ H' => Q .non H', rt := Q } (start N vs) H) :
    FnOk P w K mg base CX (k + 1) f (PySem.W.fnOf name qual params body scope dV kV doc pm an cdv ct) ps sp := by
  refine ⟨len, fun A outer s H args us vs Q E hr e0 hb r hsp => ?_⟩
  have hl := len _ _ _ _ hsp
  have KX : K.In s.heap := e0.mod.kin.keeps fun b o e => (e0.bs b o e).1
  have lim : s.heap.NoLimit := e0.mod.nolimit.keeps fun b o e => (e0.bs b o e).1
  have hkind : ∀ y ∈ ps.zip us, scope.names.lookup y.1 = some .local ∨ (scope.names.lookup y.1 = some .cell ∧ ((cellsFrom (s.heap.objs.size + 1) scope.names []).lookup y.1).isSome = true) := fun ⟨n, v⟩ hy => by
    rcases S.par n (List.of_mem_zip hy).1 with q | q
    · exact .inl q
    · exact .inr ⟨q, PySem.W.cellsFrom_some _ _ _ (.inl q)⟩
  refine codeAny_call_function hr.depth (KX _ _ lk) rfl S.co S.gen rfl (PySem.W.codeRec_of KX hcd) (hb _ _ _ _ ?_)
  refine wpAny_newFunctionEnv_cells S.kind hkind fun env he s1 x => ?_
  subst he
  refine ⟨lim.keeps x.toInCall.keep, codeAny_func ?_⟩
  obtain ⟨t, ht, hq⟩ := hbody A outer s H vs Q E (hr.deeper _) hsp
  have I : Inv (cxOf CX P w K mg base N qual scope f cdv A outer s H E) [] (start N vs) H s1 := inv_start S hr.hd e0 hl r x
  refine wpAny_mono (ht [] s1 (start N vs) H _ I hq) (fun fl s' hs => ?_) fun e s' hs => hs
  have fin : ∀ {σ' : St} {H' : Hp} {v : V} {u : Value}, Inv (cxOf CX P w K mg base N qual scope f cdv A outer s H E) [] σ' H' s' → RelV v u → Q v H' → CE outer P w H s Q u s' :=
    fun {σ' H' v u} J rv q => ⟨v, H', J.os, J.bare, J.base, J.hok, rv, q⟩
  cases fl with
  | ret u =>
    obtain ⟨v, σ', H', J, rv, q⟩ := hs
    exact fin J rv q
  | next =>
    obtain ⟨σ', H', J, q⟩ := hs
    exact fin (v := V.non) (u := Value.none) J rfl q
  | brk =>
    obtain ⟨_, _, _, q⟩ := hs
    exact False.elim q
  | cont =>
    obtain ⟨_, _, _, q⟩ := hs
    exact False.elim q
section
variable {X : Cx} {x : Str} {p pos : Pos} {e : Expr} {es : List Expr} {t : TA} {id T : String} {r : List V → Hp → VK → Prop}
def tCB (r : List V → Hp → VK → Prop) (t : TA) : TE := fun σ H Q => t σ H fun vs H1 => r vs H1 Q
theorem pe_callB (hc : CallR X (.builtin id) r) (hg : Gl X x) (hm : X.mg x = none) (hv : bootBuiltins x = some (.builtin id)) (ha : PA X (e :: es) t) (hn : x ≠ "__name__" := by decide) (hdb : (x == ("__debug__" : Str)) = false := by decide)
    (he : starEach (e :: es) X.env = (false, eval e X.env) :: starEach es X.env := by rfl) (hpl : (backTo pos (starEach es X.env)).any (·.1) = false := by rfl) : PE X (.Call (.Name x p) (e :: es) [] pos) (tCB r t) := by
  intro pins s σ H Q I h
  refine wpAny_Call_Name_kw (ld_blt I hg hm hv ?_ hn hdb)
  exact PyProof.Rows.callWith_builtin1 (thn (ha pos pins s σ H _ I h) fun us s1 ⟨vs, H1, I1, r1, q1⟩ => hc pins s1 σ H1 vs us Q I1 r1 q1) he hpl
theorem pe_callTy (hc : CallR X (.type T) r) (hg : Gl X x) (hm : X.mg x = none) (hv : bootBuiltins x = some (.type T)) (ha : PA X (e :: es) t) (hn : x ≠ "__name__" := by decide) (hdb : (x == ("__debug__" : Str)) = false := by decide)
    (he : starEach (e :: es) X.env = (false, eval e X.env) :: starEach es X.env := by rfl) (hpl : (backTo pos (starEach es X.env)).any (·.1) = false := by rfl) : PE X (.Call (.Name x p) (e :: es) [] pos) (tCB r t) := by
  intro pins s σ H Q I h
  refine wpAny_Call_Name_kw (ld_blt I hg hm hv ?_ hn hdb)
  exact PyProof.Rows.callWith_type1 (thn (ha pos pins s σ H _ I h) fun us s1 ⟨vs, H1, I1, r1, q1⟩ => hc pins s1 σ H1 vs us Q I1 r1 q1) he hpl
end
end L2
namespace HT
open PySem PyProof.Rows
section
open PySem.SeqAt
open PySem.AutoSeq1 (wpAny_loadPart')
open PySem.MeetsSeq PySem.MeetsSeq2 PySem.MeetsSeq3
end
section
variable {prog : Program} {w : World} {A : Around} {E : Value → Shared → Prop} {s : Shared}
def sIx (n d : Nat) : Option Int → Nat
  | none => d
  | some v => if v < 0 then (v + (n : Int)).toNat else min v.toNat n
theorem sIx_nat (n d k : Nat) : sIx n d (some (k : Int)) = min k n := by
  show (if (k : Int) < 0 then ((k : Int) + (n : Int)).toNat else min (k : Int).toNat n) = min k n
  rw [if_neg (by omega), Int.toNat_natCast]
end
end HT
namespace L2
open PySem PySem.Spec PyProof.Rows
abbrev TO := St → Hp → (Option Int → Hp → Prop) → Prop
def PO (X : Cx) (e : Option Expr) (t : TO) : Prop :=
  ∀ (pins : List (Addr × Obj)) (s : Shared) (σ : St) (H : Hp) (Q : Option Int → Hp → Prop), Inv X pins σ H s → t σ H Q →
    wpAny (model X.prog X.w) X.A (evalPart e X.env) (fun u s' => ∃ o H', Inv X pins σ H' s' ∧ IsPart u o ∧ Q o H') X.xe s
def tNoPart : TO := fun _ H Q => Q none H
def tPart (t : TE) : TO := fun σ H Q => t σ H fun x H1 => ∃ i, x = .int i ∧ Q (some i) H1
section
variable {X : Cx} {e : Expr} {te : TE} {lo hi : Option Expr} {tl th : TO} {pos p2 : Pos}
theorem po_none : PO X none tNoPart := by
  intro pins s σ H Q I h
  rw [evalPart_none]
  exact wpAny_pure ⟨none, H, I, .none, h⟩
theorem po_some (h : PE X e te) : PO X (some e) (tPart te) := by
  intro pins s σ H Q I hw
  rw [evalPart_some]
  refine thn (h pins s σ H _ I hw) fun u s1 ⟨x, H1, I1, r1, q1⟩ => ?_
  obtain ⟨i, rfl, q⟩ := q1
  obtain ⟨t, rfl⟩ := r1
  exact ⟨some i, H1, I1, .int i t, q⟩
def SlR (X : Cx) (r : V → Option Int → Option Int → Hp → VK → Prop) : Prop :=
  ∀ (pins : List (Addr × Obj)) (s : Shared) (σ : St) (H : Hp) (x : V) (v vl vu : Value) (lo hi : Option Int) (sl : Addr) (Q : VK), Inv X pins σ H s → RelV x v → s.heap.IsSliceOf sl vl vu .none → IsPart vl lo → IsPart vu hi → r x lo hi H Q →
    ∃ T id, typeLookup (.type T) "__getitem__" = pure (some (.builtin id)) ∧ s.TypeIs v T ∧ wpAny (model X.prog X.w) X.A (getItem v (.ref sl)) (EP X pins σ Q) X.xe s
theorem SlR.or {r r' : V → Option Int → Option Int → Hp → VK → Prop} (h : SlR X r) (h' : SlR X r') : SlR X (fun x lo hi H Q => r x lo hi H Q ∨ r' x lo hi H Q) := by
  intro pins s σ H x v vl vu lo hi sl Q I rx hs pl pu q
  rcases q with q | q
  · exact h pins s σ H x v vl vu lo hi sl Q I rx hs pl pu q
  · exact h' pins s σ H x v vl vu lo hi sl Q I rx hs pl pu q
def tSl (r : V → Option Int → Option Int → Hp → VK → Prop) (te : TE) (tl th : TO) : TE := fun σ H Q => te σ H fun x H1 => tl σ H1 fun l H2 => th σ H2 fun u H3 => r x l u H3 Q
theorem pe_slice {r : V → Option Int → Option Int → Hp → VK → Prop} (hr : SlR X r) (he : PE X e te) (hl : PO X lo tl) (hu : PO X hi th) : PE X (.Subscript e (.Slice lo hi none p2) pos) (tSl r te tl th) := by
  intro pins s σ H Q I h
  refine Subscript_ (thn (he pins s σ H _ I h) fun v s1 ⟨x, H1, I1, r1, q1⟩ => ?_)
  refine wpAny_Slice (thn (hl pins s1 σ H1 _ I1 q1) fun vl s2 ⟨l, H2, I2, pl, q2⟩ => thn (hu pins s2 σ H2 _ I2 q2) fun vu s3 ⟨u, H3, I3, pu, q3⟩ => ?_)
  rw [evalPart_none]
  refine wpAny_pure ?_
  have I4 : Inv X pins σ H3 { s3 with heap := s3.heap.push { cls := .type "slice", data := .fields #[vl, vu, .none] } } := I3.kept (t' := s3.toks) fun b ob q => Heap.get?_push_of_some _ q
  obtain ⟨T, id, hT, ht, hg⟩ := hr pins { s3 with heap := s3.heap.push { cls := .type "slice", data := .fields #[vl, vu, .none] } } σ H3 x v vl vu l u s3.heap.objs.size Q I4 r1 (Heap.IsSliceOf.new ..) pl pu q3
  show wpAny (model X.prog X.w) X.A (subscriptTail e (.Slice lo hi none p2) v (.ref s3.heap.objs.size)) (EP X pins σ Q) X.xe { s3 with heap := s3.heap.push { cls := .type "slice", data := .fields #[vl, vu, .none] } }
  exact tail_any (ops := [.ref s3.heap.objs.size, v]) ht hT hg (by with_unfolding_all rfl)
def cutV (xs : List V) (lo hi : Option Int) : List V := (xs.drop (HT.sIx xs.length 0 lo)).take (HT.sIx xs.length xs.length hi - HT.sIx xs.length 0 lo)
theorem cutV_length (xs : List V) (lo hi : Option Int) : (cutV xs lo hi).length ≤ xs.length := by
  unfold cutV
  rw [List.length_take, List.length_drop]
  omega
end
def ixN (n : Nat) (i : Int) : Option Nat := if 0 ≤ i then (if i < n then some i.toNat else none) else if -(n : Int) ≤ i then some (i + n).toNat else none
def atI {α : Type} (xs : List α) (i : Int) : Option α := (ixN xs.length i).bind fun j => xs[j]?
theorem ixN_seq {n : Nat} {i : Int} {j : Nat} (h : ixN n i = some j) : seqIndex? i n = some j ∧ j < n ∧ -(n : Int) ≤ i ∧ i < n := by
  unfold ixN at h
  by_cases h0 : 0 ≤ i
  · rw [if_pos h0] at h
    by_cases h1 : i < n
    · rw [if_pos h1] at h
      have e : i.toNat = j := Option.some.inj h
      exact ⟨by rw [seqIndex_of h0 h1, e], by omega, by omega, h1⟩
    · rw [if_neg h1] at h; cases h
  · rw [if_neg h0] at h
    by_cases h1 : -(n : Int) ≤ i
    · rw [if_pos h1] at h
      have e : (i + n).toNat = j := Option.some.inj h
      exact ⟨by rw [seqIndex_neg (by omega) h1, e], by omega, h1, by omega⟩
    · rw [if_neg h1] at h; cases h
theorem atI_get {α : Type} {xs : List α} {i : Int} {v : α} (h : atI xs i = some v) : ∃ j, seqIndex? i xs.length = some j ∧ xs[j]? = some v ∧ j < xs.length ∧ -(xs.length : Int) ≤ i ∧ i < xs.length := by
  unfold atI at h
  cases e : ixN xs.length i with
  | none => rw [e] at h; cases h
  | some j =>
    rw [e] at h
    obtain ⟨h1, h2, h3, h4⟩ := ixN_seq e
    exact ⟨j, h1, h, h2, h3, h4⟩
theorem atI_nat {α : Type} {xs : List α} {j : Nat} {v : α} (h : xs[j]? = some v) : atI xs (j : Int) = some v := by
  have hj : j < xs.length := (List.getElem?_eq_some_iff.mp h).1
  have e : ixN xs.length (j : Int) = some j := by
    unfold ixN
    rw [if_pos (by omega), if_pos (by omega)]; simp
  unfold atI; rw [e]; exact h
def PlainIx (b : Expr) : Prop := ∀ o i, subscripted b false o i = operate [o, i] (getItem o i)
def IxR (X : Cx) (r : R2) : Prop :=
  ∀ (value slice : Expr) (pins : List (Addr × Obj)) (s : Shared) (σ : St) (H : Hp) (x y : V) (v u : Value) (Q : VK), Inv X pins σ H s → RelV x v → RelV y u → r x y H Q →
    subscripted slice false v u = operate [v, u] (getItem v u) → wpAny (model X.prog X.w) X.A (subscriptTail value slice v u) (EP X pins σ Q) X.xe s
def MtR (X : Cx) (id : String) (r : V → List V → Hp → VK → Prop) : Prop :=
  ∀ (pins : List (Addr × Obj)) (s : Shared) (σ : St) (H : Hp) (x : V) (xs : List V) (v : Value) (us : List Value) (Q : VK), Inv X pins σ H s → RelV x v → Vals xs us → r x xs H Q →
    wpAny (model X.prog X.w) X.A (call (.builtin id) (v :: us)) (EP X pins σ Q) X.xe s
section
variable {X : Cx} {a b : Expr} {ta tb : TE} {pos : Pos}
theorem IxR.or {r r' : R2} (h : IxR X r) (h' : IxR X r') : IxR X (fun x y H Q => r x y H Q ∨ r' x y H Q) := by
  intro value slice pins s σ H x y v u Q I rx ry q hs
  rcases q with q | q
  · exact h value slice pins s σ H x y v u Q I rx ry q hs
  · exact h' value slice pins s σ H x y v u Q I rx ry q hs
theorem MtR.or {id : String} {r r' : V → List V → Hp → VK → Prop} (h : MtR X id r) (h' : MtR X id r') : MtR X id (fun x xs H Q => r x xs H Q ∨ r' x xs H Q) := by
  intro pins s σ H x xs v us Q I rx rs q
  rcases q with q | q
  · exact h pins s σ H x xs v us Q I rx rs q
  · exact h' pins s σ H x xs v us Q I rx rs q
theorem pe_ix {r : R2} (hr : IxR X r) (ha : PE X a ta) (hb : PE X b tb) (hs : PlainIx b) : PE X (.Subscript a b pos) (tOp r ta tb) := by
  intro pins s σ H Q I h
  exact Subscript_ (binT ha hb I h fun v u s2 x y H2 I2 rx ry q => hr a b pins s2 σ H2 x y v u Q I2 rx ry q (hs _ _))
def rIxL (K : PySem.W.Frag) : R2 := fun x y H Q => ∃ p xs i v, x = .ref p ∧ y = .int i ∧ SqL K H p xs ∧ atI xs i = some v ∧ Q v H
def rIxT (K : PySem.W.Frag) : R2 := fun x y H Q => ∃ p xs i v, x = .ref p ∧ y = .int i ∧ SqT K H p xs ∧ atI xs i = some v ∧ Q v H
def rIxS : R2 := fun x y H Q => ∃ z i c, x = .str z ∧ y = .int i ∧ z.length ≤ sizeLine ∧ atI z.cps.toList i = some c ∧ Q (.str ⟨#[c]⟩) H
theorem ix_list : IxR X (rIxL X.K) := by
  intro value slice pins s σ H x y v u Q I rx ry h hs
  obtain ⟨p, xs, i, z, rfl, rfl, hq, he, q⟩ := h
  cases rx
  obtain ⟨t, rfl⟩ := ry
  obtain ⟨its, r, pl, hz⟩ := I.list hq
  obtain ⟨j, h1, h2, h3, h4, h5⟩ := atI_get he
  obtain ⟨w, ew, rw'⟩ := r.get h2
  have hl := r.length
  have hn := line63
  have fin : EP X pins σ Q w s := ⟨z, H, I, rw', q⟩
  by_cases h0 : 0 ≤ i
  · have hj : i.toNat = j := by
      rw [seqIndex_of h0 h5] at h1
      exact Option.some.inj h1
    exact item_listR pl.isList h0 (by omega) (by rw [hj]; simpa using ew) fin hs
  · have hj : (i + (its.toArray.size : Int)).toNat = j := by
      rw [seqIndex_neg (by omega) h4] at h1
      rw [List.size_toArray, ← hl]
      exact Option.some.inj h1
    exact subscriptTail_builtinR (x := w) pl.isList.typeIs slot_list_getitem.lookup
      (wpAny_getItem_list_neg (Q := fun r s' => r = w ∧ EP X pins σ Q r s') pl.isList (by omega) (by rw [List.size_toArray] <;> omega) (by omega) (by rw [hj]; simpa using ew) ⟨rfl, fin⟩) hs
theorem ix_tup : IxR X (rIxT X.K) := by
  intro value slice pins s σ H x y v u Q I rx ry h hs
  obtain ⟨p, xs, i, z, rfl, rfl, hq, he, q⟩ := h
  cases rx
  obtain ⟨t, rfl⟩ := ry
  obtain ⟨its, r, pl, hz⟩ := I.tuple hq
  obtain ⟨j, h1, h2, h3, h4, h5⟩ := atI_get he
  obtain ⟨w, ew, rw'⟩ := r.get h2
  have hl := r.length
  have hn := line63
  have fin : EP X pins σ Q w s := ⟨z, H, I, rw', q⟩
  exact subscriptTail_builtinR (x := w) pl.typeIs slot_tuple_getitem.lookup
    (getItem_tuple (j := j) (Q := fun r s' => r = w ∧ EP X pins σ Q r s') pl (by omega) (by omega) (by rw [List.size_toArray, ← hl]; exact h1) (by simpa using ew) ⟨rfl, fin⟩) hs
theorem ix_str : IxR X rIxS := by
  intro value slice pins s σ H x y v u Q I rx ry h hs
  obtain ⟨z, i, c, rfl, rfl, hz, he, q⟩ := h
  obtain ⟨t, rfl⟩ := rx
  obtain ⟨t', rfl⟩ := ry
  obtain ⟨j, h1, h2, h3, h4, h5⟩ := atI_get he
  have hl : z.cps.toList.length = z.length := by simp [Str.length]
  rw [hl] at h1 h4 h5
  have hn := line63
  exact tail_any (typeIs_str s z t) slot_str_getitem.lookup (getItem_str (c := c) (by
    have e1 : decide (i < -(2 ^ 63 : Int)) = false := decide_eq_false (by omega)
    have e2 : decide (i ≥ 2 ^ 63) = false := decide_eq_false (by omega)
    rw [e1, e2, Bool.or_false]) (by rw [h1]; simpa using h2) ⟨.str ⟨#[c]⟩, H, I.tok _, ⟨_, rfl⟩, q⟩) hs
theorem mapSeq_set (its : List Value) (n j : Nat) (u : Value) : Obj.mapSeq (·.setIfInBounds j u) { cls := .type "list", data := .seq its.toArray n } = { cls := .type "list", data := .seq (its.set j u).toArray n } := by
  simp [Obj.mapSeq]
theorem Inv.lst {pins : List (Addr × Obj)} {σ : St} {H : Hp} {s : Shared} {p : Addr} {xs : List V} (I : Inv X pins σ H s) (h : H p = some (.lst xs)) :
    ∃ (its : List Value) (n : Nat), Vals xs its ∧ s.heap.get? p = some { cls := .type "list", data := .seq its.toArray n } ∧ xs.length ≤ sizeLine := by
  obtain ⟨z, its, n, r, e⟩ := I.hok p _ h
  exact ⟨its, n, r, e, z⟩
theorem Inv.lstUpd {pins : List (Addr × Obj)} {σ : St} {H : Hp} {s : Shared} {p : Addr} {xs ys : List V} {its its' : List Value} {n n' : Nat} {f : Obj → Obj} (I : Inv X pins σ H s) (h : H p = some (.lst xs))
    (ho : s.heap.get? p = some { cls := .type "list", data := .seq its.toArray n }) (hf : f { cls := .type "list", data := .seq its.toArray n } = { cls := .type "list", data := .seq its'.toArray n' }) (r : Vals ys its') (hz : ys.length ≤ sizeLine) (t : Nat) :
    Inv X pins σ (upd H p (.lst ys)) { s with heap := s.heap.update p f, toks := t } := by
  have e : (s.heap.update p f).get? p = some { cls := .type "list", data := .seq its'.toArray n' } := by
    rw [Heap.get?_update_self f ho (by rw [hf] <;> rfl), hf]
  refine I.write (x := p) (e := p) (by rw [h]; trivial) (.inl rfl) (fun b u hb q => (Heap.get?_update_other _ _ (Ne.symm hb)).trans q) ⟨_, e⟩ ?_
  exact ⟨hz, its', n', r, e⟩
def rSetL : V → V → V → Hp → (Hp → Prop) → Prop := fun o i v H Q => ∃ p xs k j, o = .ref p ∧ i = .int k ∧ H p = some (.lst xs) ∧ ixN xs.length k = some j ∧ Q (upd H p (.lst (xs.set j v)))
theorem set_list : PSet X rSetL := by
  intro pins s σ H o i v ov iv u Q I ro ri rv h
  obtain ⟨p, xs, k, j, rfl, rfl, hp, hj, q⟩ := h
  cases ro
  obtain ⟨t, rfl⟩ := ri
  obtain ⟨its, n, r, ho, hz⟩ := I.lst hp
  obtain ⟨h1, h2, h3, h4⟩ := ixN_seq hj
  have hl := r.length
  have hn := line63
  have I' : Inv X pins σ (upd H p (.lst (xs.set j v))) { s with heap := s.heap.update p (Obj.mapSeq (·.setIfInBounds j u)) } :=
    I.lstUpd hp ho (mapSeq_set its n j u) (r.set rv j) (by rw [List.length_set]; exact hz) s.toks
  by_cases h0 : 0 ≤ k
  · have hk : k.toNat = j := by
      rw [seqIndex_of h0 h4] at h1
      exact Option.some.inj h1
    exact PySem.W.ki_setAt ho h0 (by omega) (by rw [List.size_toArray, ← hl]; exact h4) (by rw [hk]; exact ⟨_, I', q⟩)
  · have hk : (k + (its.toArray.size : Int)).toNat = j := by
      rw [seqIndex_neg (by omega) h3] at h1
      rw [List.size_toArray, ← hl]
      exact Option.some.inj h1
    exact PySem.W.ki_setBack ho (by omega) (by rw [List.size_toArray, ← hl]; exact h3) (by omega) (by rw [hk]; exact ⟨_, I', q⟩)
theorem slice_bounds (lo hi : Option Int) (n : Nat) : (sliceBounds lo hi none n).1 = ((HT.sIx n 0 lo : Nat) : Int) ∧ (sliceBounds lo hi none n).2.1 = ((HT.sIx n n hi : Nat) : Int) ∧ (sliceBounds lo hi none n).2.2 = 1 := by
  refine ⟨?_, ?_, rfl⟩
  · cases lo with
    | none => simp [sliceBounds, HT.sIx]
    | some i =>
      simp only [sliceBounds, HT.sIx, Option.getD_none, show (1 : Int) > 0 by decide, if_true]
      by_cases h : i < 0
      · simp only [h, if_true] <;> omega
      · simp only [h, if_false] <;> omega
  · cases hi with
    | none => simp [sliceBounds, HT.sIx]
    | some i =>
      simp only [sliceBounds, HT.sIx, Option.getD_none, show (1 : Int) > 0 by decide, if_true]
      by_cases h : i < 0
      · simp only [h, if_true] <;> omega
      · simp only [h, if_false] <;> omega
theorem slicePick_cut (its : List Value) (lo hi : Option Int) : slicePick its.toArray lo hi none = ((its.drop (HT.sIx its.length 0 lo)).take (HT.sIx its.length its.length hi - HT.sIx its.length 0 lo)).toArray := by
  obtain ⟨h1, h2, h3⟩ := slice_bounds lo hi its.toArray.size
  unfold slicePick
  rw [h1, h2, h3]
  simp only [sliceRange_one, pick_run, List.size_toArray] <;> rfl
def rSlL (K : PySem.W.Frag) : V → Option Int → Option Int → Hp → VK → Prop := fun x lo hi H Q => ∃ a xs, x = .ref a ∧ SqL K H a xs ∧ ∀ p, H p = none → Q (.ref p) (upd H p (.lst (cutV xs lo hi)))
theorem sl_list : SlR X (rSlL X.K) := by
  intro pins s σ H x v vl vu lo hi sl Q I rx hs pl pu h
  obtain ⟨a, xs, rfl, hx, q⟩ := h
  cases rx
  obtain ⟨its, r, ht, hz⟩ := I.list hx
  have hlen := r.length
  refine ⟨"list", _, slot_list_getitem.lookup, ht.isList.typeIs, ?_⟩
  refine wpAny_getItem_list_slice ht.isList hs pl pu .none (by simp) ?_ (by rw [List.size_toArray] <;> omega)
  rw [slicePick_cut, ← hlen]
  refine ⟨.ref s.heap.objs.size, _, I.laid (t' := s.toks) (o := .lst (cutV xs lo hi)) (fun b ob q => Heap.get?_push_of_some _ q) (Nat.le_refl _) ?_, rfl, q _ (I.hok.fresh (Nat.le_refl _))⟩
  exact ⟨Nat.le_trans (cutV_length xs lo hi) hz, _, 0, (r.drop (HT.sIx xs.length 0 lo)).take (HT.sIx xs.length xs.length hi - HT.sIx xs.length 0 lo), Heap.get?_push_size _ rfl⟩
theorem CallR.or {f : Value} {r r' : List V → Hp → VK → Prop} (h : CallR X f r) (h' : CallR X f r') : CallR X f (fun xs H Q => r xs H Q ∨ r' xs H Q) := by
  intro pins s σ H xs us Q I rs q
  rcases q with q | q
  · exact h pins s σ H xs us Q I rs q
  · exact h' pins s σ H xs us Q I rs q
theorem call_list_of : CallR X (.type "list") (fun xs H Q => ∃ p ys, xs = [.ref p] ∧ (SqL X.K H p ys ∨ SqT X.K H p ys) ∧ ∀ l, H l = none → Q (.ref l) (upd H l (.lst ys))) := by
  intro pins s σ H xs us Q I r h
  obtain ⟨p, ys, rfl, hq, q⟩ := h
  obtain ⟨u, rfl, rx⟩ := vals1 r
  cases rx
  have fin : ∀ (its : List Value), Vals ys its → ys.length ≤ sizeLine → ∀ (h' : Heap) (c' : Nat), (∀ b o', s.heap.get? b = some o' → h'.get? b = some o') →
      h'.get? s.heap.objs.size = some { cls := .type "list", dict := none, data := .seq its.toArray c', slots := #[] } → EP X pins σ Q (.ref s.heap.objs.size) { s with heap := h' } := fun its r' hz h' c' kp e =>
    ⟨.ref s.heap.objs.size, _, I.laid (t' := s.toks) kp (Nat.le_refl _) (show ObjOk X.prog X.w _ h' _ (.lst ys) from ⟨hz, its, c', r', e⟩), rfl, q _ (I.hok.fresh (Nat.le_refl _))⟩
  rcases hq with hq | hq
  · obtain ⟨its, r', pl, hz⟩ := I.list hq
    have hlen := r'.length
    obtain ⟨o, ho, hc, n, hd⟩ := pl.isList
    exact call_list_seq p (.inl rfl) ho hc hd (fun h' c' kp e => fin its r' hz h' c' kp e) (by simp only [List.size_toArray] <;> omega)
  · obtain ⟨its, r', pl, hz⟩ := I.tuple hq
    have hlen := r'.length
    obtain ⟨o, ho, hc, n, hd⟩ := pl
    exact call_list_seq p (.inr rfl) ho hc hd (fun h' c' kp e => fin its r' hz h' c' kp e) (by simp only [List.size_toArray] <;> omega)
def tyV (K : PySem.W.Frag) (T : String) (x : V) (H : Hp) : Prop := match x with
  | .str _ => T = "str"
  | .int _ => T = "int"
  | .ref p => (T = "list" ∧ ∃ xs, SqL K H p xs) ∨ (T = "tuple" ∧ ∃ o, K.lookup p = some o ∧ o.cls = .type "tuple" ∧ o.dict = none) ∨
      (T = "dict" ∧ ((∃ kvs, H p = some (.dK kvs)) ∨ ∃ kvs, H p = some (.dT kvs))) ∨ (T = "set" ∧ ∃ S n, H p = some (.set S n))
  | _ => False
theorem tyV_is {pins : List (Addr × Obj)} {σ : St} {H : Hp} {s : Shared} {T : String} {x : V} {v : Value} (I : Inv X pins σ H s) (r : RelV x v) (ty : tyV X.K T x H) :
    s.TypeIs v T ∧ ∀ a, v = .ref a → ∃ ob, s.heap.get? a = some ob ∧ ob.dict = none := by
  cases x with
  | str z =>
    obtain ⟨t, rfl⟩ := r
    cases (show T = "str" from ty)
    exact ⟨typeIs_str s z t, fun _ e => nomatch e⟩
  | int i =>
    obtain ⟨t, rfl⟩ := r
    cases (show T = "int" from ty)
    exact ⟨typeIs_int s i t, fun _ e => nomatch e⟩
  | ref p =>
    cases r
    rcases ty with ⟨rfl, xs, hq⟩ | ⟨rfl, o, hk, hc, hd⟩ | ⟨rfl, hk⟩ | ⟨rfl, S, n, hk⟩
    · obtain ⟨its, _, pl, _⟩ := I.list hq
      refine ⟨pl.isList.typeIs, fun a e => ?_⟩
      cases e
      obtain ⟨o, n, e, c, hd, _⟩ := pl
      exact ⟨o, e, hd⟩
    · refine ⟨⟨o, I.kIn p o hk, hc⟩, fun a e => ?_⟩
      cases e
      exact ⟨o, I.kIn _ o hk, hd⟩
    · have z : ∃ o, s.heap.get? p = some o ∧ o.ExactDict := by
        rcases hk with ⟨kvs, hk⟩ | ⟨kvs, hk⟩
        · obtain ⟨_, _, _, _, o, _, _, e, ex, _⟩ := I.hok p _ hk
          exact ⟨o, e, ex⟩
        · obtain ⟨_, _, _, _, o, _, _, e, ex, _⟩ := I.hok p _ hk
          exact ⟨o, e, ex⟩
      obtain ⟨o, e, ex⟩ := z
      refine ⟨⟨o, e, ex.1⟩, fun a e2 => ?_⟩
      cases e2
      exact ⟨o, e, ex.2.1⟩
    · obtain ⟨o, _, _, _, e, ex, _⟩ := I.hok p _ hk
      refine ⟨⟨o, e, ex.1⟩, fun a e2 => ?_⟩
      cases e2
      exact ⟨o, e, ex.2.1⟩
  | _ => exact False.elim ty
def tBM0 (K : PySem.W.Frag) (T : String) (r : V → List V → Hp → VK → Prop) (to : TE) : TE := fun σ H Q => to σ H fun x H1 => tyV K T x H1 ∧ r x [] H1 Q
def tBM (K : PySem.W.Frag) (T : String) (r : V → List V → Hp → VK → Prop) (to : TE) (t : TA) : TE := fun σ H Q => to σ H fun x H1 => tyV K T x H1 ∧ t σ H1 fun xs H2 => r x xs H2 Q
variable {o e : Expr} {es : List Expr} {to : TE} {t : TA} {name : Str} {apos cpos : Pos} {T id : String} {r : V → List V → Hp → VK → Prop}
theorem pe_bm0 (pa : PlainAttrs T) (slot : Slot T name id) (hty : typeOf (.builtin id) = pure (.type "method_descriptor")) (hm : MtR X id r) (ho : PE X o to)
    (hbase : attributeBase o name X.env (eval o X.env) = eval o X.env := by rfl) (hline : (apos.endLine == cpos.line) = true := by rfl) : PE X (.Call (.Attribute o name apos) [] [] cpos) (tBM0 X.K T r to) := by
  intro pins s σ H Q I h
  refine wpAny_Call_method0_late hbase hline (thn (ho pins s σ H _ I h) fun v s1 ⟨x, H1, I1, r1, ty, q1⟩ => ?_)
  obtain ⟨h1, h2⟩ := tyV_is I1 r1 ty
  exact ⟨T, id, pa, slot, hty, h1, h2, Calls.callWith_builtin rfl (PySem.evalArgs_none (hm pins s1 σ H1 x [] v [] Q I1 r1 .nil q1))⟩
theorem pe_bm (pa : PlainAttrs T) (slot : Slot T name id) (hty : typeOf (.builtin id) = pure (.type "method_descriptor")) (hm : MtR X id r) (ho : PE X o to) (ha : PA X (e :: es) t)
    (hbase : attributeBase o name X.env (eval o X.env) = eval o X.env := by rfl)
    (hfew : ((backTo cpos (starEach (e :: es) X.env)).all (fun x => !x.1) && (backToKw cpos (keywordEach [] X.env)).all (fun x => x.1.isSome)
      && decide ((e :: es).length + ([] : List Keyword).length + (if ([] : List Keyword).isEmpty then 0 else 1) < 30)) = true := by rfl)
    (hline : (apos.endLine == cpos.line) = true := by rfl) (hs : starEach (e :: es) X.env = (false, eval e X.env) :: starEach es X.env := by rfl) (hplain : (backTo cpos (starEach es X.env)).any (·.1) = false := by rfl) :
    PE X (.Call (.Attribute o name apos) (e :: es) [] cpos) (tBM X.K T r to t) := by
  intro pins s σ H Q I h
  refine wpAny_Call_method_late hbase hfew hline rfl (thn (ho pins s σ H _ I h) fun v s1 ⟨x, H1, I1, r1, ty, q1⟩ => ?_)
  obtain ⟨h1, h2⟩ := tyV_is I1 r1 ty
  refine ⟨T, id, pa, slot, hty, h1, h2, ?_⟩
  have hA := ha cpos pins s1 σ H1 _ I1 q1
  rw [hs] at hA ⊢
  refine Calls.callWith_builtin (by show (false || (backTo cpos (starEach es X.env)).any (·.1)) = false; rw [hplain] <;> rfl) (Calls.evalArgs_plain ?_)
  exact thn hA fun us s2 ⟨vs, H2, I2, r2, q2⟩ => hm pins s2 σ H2 x vs v us Q I2 r1 r2 q2
end
def MtM (X : Cx) (id : String) (r : V → List V → Hp → VK → Prop) : Prop :=
  ∀ (pins : List (Addr × Obj)) (s : Shared) (σ : St) (H : Hp) (x : V) (xs : List V) (v : Value) (us : List Value) (Q : VK), Inv X pins σ H s → RelV x v → Vals xs us → r x xs H Q →
    wpAny (model X.prog X.w) X.A (call (.builtin id) (v :: us)) (EP X pins σ Q) X.xe s
theorem Vals.one : ∀ {x : V} {us : List Value}, Vals [x] us → ∃ u, us = [u] ∧ RelV x u
  | _, _, .cons r .nil => ⟨_, rfl, r⟩
theorem Vals.two : ∀ {x y : V} {us : List Value}, Vals [x, y] us → ∃ u v, us = [u, v] ∧ RelV x u ∧ RelV y v
  | _, _, _, .cons r (.cons q .nil) => ⟨_, _, rfl, r, q⟩
theorem Vals.zero : ∀ {us : List Value}, Vals [] us → us = []
  | _, .nil => rfl
theorem Vals.eraseIdx : ∀ {xs : List V} {us : List Value} (i : Nat), Vals xs us → Vals (xs.eraseIdx i) (us.eraseIdx i)
  | _, _, _, .nil => .nil
  | _, _, 0, .cons _ t => t
  | _, _, i + 1, .cons r t => .cons r (Vals.eraseIdx i t)
theorem Vals.reverse {xs : List V} {us : List Value} (h : Vals xs us) : Vals xs.reverse us.reverse := by
  induction h with
  | nil => exact .nil
  | cons r t ih => rw [List.reverse_cons, List.reverse_cons]; exact Vals.append ih (.cons r .nil)
theorem Vals.rep {xs : List V} {us : List Value} (h : Vals xs us) : ∀ k : Nat, Vals (List.replicate k xs).flatten (List.replicate k us).flatten
  | 0 => .nil
  | k + 1 => by
    rw [List.replicate_succ, List.replicate_succ, List.flatten_cons, List.flatten_cons]
    exact Vals.append h (Vals.rep h k)
theorem len_erase {α : Type} : ∀ (l : List α) (i : Nat), (l.eraseIdx i).length ≤ l.length
  | [], _ => Nat.le_refl _
  | _ :: _, 0 => Nat.le_succ _
  | _ :: r, i + 1 => Nat.succ_le_succ (len_erase r i)
theorem foldl_rep (its : List Value) : ∀ (k : Nat) (acc : List Value),
    List.foldl (fun x1 x2 => x1 ++ x2) acc.toArray (List.replicate k its.toArray) = (acc ++ (List.replicate k its).flatten).toArray
  | 0, acc => by simp
  | k + 1, acc => by
    have e : acc.toArray ++ its.toArray = (acc ++ its).toArray := by simp
    have e2 : (acc ++ its) ++ (List.replicate k its).flatten = acc ++ (List.replicate (k + 1) its).flatten := by
      rw [List.replicate_succ, List.flatten_cons, List.append_assoc]
    rw [← e2, ← foldl_rep its k (acc ++ its), ← e, List.replicate_succ, List.foldl_cons]
section
variable {X : Cx} {pins : List (Addr × Obj)} {σ : St} {H : Hp} {s : Shared} {l b : Addr} {xs ys zs : List V}
theorem Inv.lset {its its' : List Value} {n : Nat} {f : Array Value → Array Value} {t' : Nat} (I : Inv X pins σ H s) (hH : H l = some (.lst xs))
    (e : s.heap.get? l = some { cls := .type "list", data := .seq its.toArray n }) (hf : f its.toArray = its'.toArray) (hv : Vals ys its') (hz : ys.length ≤ sizeLine) :
    Inv X pins σ (upd H l (.lst ys)) { s with heap := s.heap.update l (Obj.mapSeq f), toks := t' } := by
  have q := PySem.IsL.update e f
  rw [hf] at q
  refine I.write (x := l) (e := l) (by rw [hH]; exact trivial) (.inl rfl) (fun b' u hb hu => (Heap.get?_update_other s.heap (Obj.mapSeq f) (Ne.symm hb)).trans hu) ⟨_, q⟩ ?_
  exact ⟨hz, its', _, hv, q⟩
theorem Inv.lnew {its : List Value} {t' : Nat} (I : Inv X pins σ H s) (hv : Vals ys its) (hz : ys.length ≤ sizeLine) :
    Inv X pins σ (upd H s.heap.objs.size (.lst ys)) { s with heap := s.heap.push { cls := .type "list", data := .seq its.toArray }, toks := t' } :=
  I.laid (fun _ _ q => Heap.get?_push_of_some _ q) (Nat.le_refl _) ⟨hz, its, 0, hv, Heap.get?_push_size _ rfl⟩
theorem Inv.fresh (I : Inv X pins σ H s) : H s.heap.objs.size = none := I.hok.fresh (Nat.le_refl _)
theorem Inv.lstM (I : Inv X pins σ H s) (hH : H l = some (.lst xs)) : xs.length ≤ sizeLine ∧ ∃ (its : List Value) (n : Nat), Vals xs its ∧ xs.length = its.length ∧ s.heap.get? l = some { cls := .type "list", data := .seq its.toArray n } := by
  obtain ⟨z, its, n, r, e⟩ := I.hok l _ hH
  exact ⟨z, its, n, r, r.length, e⟩
theorem notLongL {n : Nat} (h : n ≤ sizeLine) : Builtin.List.listTooLong n = false := by
  unfold Builtin.List.listTooLong
  exact decide_eq_false (by omega)
end
section
variable {X : Cx}
def rAppend : V → List V → Hp → VK → Prop := fun x vs H Q => ∃ l xs y, x = .ref l ∧ vs = [y] ∧ H l = some (.lst xs) ∧ xs.length < sizeLine ∧ Q .non (upd H l (.lst (xs ++ [y])))
theorem mt_append : MtM X "list.append" rAppend := by
  intro pins s σ H x vs v us Q I rx rv h
  obtain ⟨l, xs, y, rfl, rfl, hH, hz, q⟩ := h
  cases rx
  obtain ⟨u, rfl, ru⟩ := rv.one
  obtain ⟨z, its, n, r, hl, e⟩ := I.lstM hH
  refine call_meets F.slot_list_append ⟨_, e, rfl⟩ F.entry_list_append (F.args_list_append_2 _ _) (PySem.list_append l its.toArray n u (by rw [List.size_toArray]; omega)) ⟨e, ?_⟩
  refine ⟨.non, _, I.lset (its' := its ++ [u]) hH e (by simp) (r.append (.cons ru .nil)) ?_, rfl, q⟩
  rw [List.length_append, List.length_singleton]
  omega
def rPopAt : V → List V → Hp → VK → Prop := fun x vs H Q => ∃ l xs i k y, x = .ref l ∧ vs = [.int i] ∧ H l = some (.lst xs) ∧ -(2 ^ 63) ≤ i ∧ i < 2 ^ 63 ∧ seqIndex? i xs.length = some k ∧ xs[k]? = some y ∧ Q y (upd H l (.lst (xs.eraseIdx k)))
theorem mt_popAt : MtM X "list.pop" rPopAt := by
  intro pins s σ H x vs v us Q I rx rv h
  obtain ⟨l, xs, i, k, y, rfl, rfl, hH, h1, h2, hk, hy, q⟩ := h
  cases rx
  obtain ⟨u, rfl, ru⟩ := rv.one
  obtain ⟨t, rfl⟩ := ru
  obtain ⟨z, its, n, r, hl, e⟩ := I.lstM hH
  obtain ⟨w, hw, rw'⟩ := r.get hy
  refine call_meets F.slot_list_pop ⟨_, e, rfl⟩ F.entry_list_pop (F.args_list_pop_2 _ _)
    (MeetsSeq.list_pop_at l its.toArray n i t k w (fitsIndex_both h1 h2) (by rw [List.size_toArray, ← hl]; exact hk) (by rw [← Array.getElem?_toList]; exact hw) (by rw [List.size_toArray]; omega)) ⟨e, ?_⟩
  refine ⟨y, _, I.lset (its' := its.eraseIdx k) hH e ?_ (r.eraseIdx k) ?_, rw', q⟩
  · show its.toArray.eraseIdxIfInBounds k = (its.eraseIdx k).toArray
    rw [List.eraseIdxIfInBounds_toArray]
  · have := len_erase xs k
    omega
def rClear : V → List V → Hp → VK → Prop := fun x vs H Q => ∃ l xs, x = .ref l ∧ vs = [] ∧ H l = some (.lst xs) ∧ Q .non (upd H l (.lst []))
theorem mt_clear : MtM X "list.clear" rClear := by
  intro pins s σ H x vs v us Q I rx rv h
  obtain ⟨l, xs, rfl, rfl, hH, q⟩ := h
  cases rx
  have hus := rv.zero
  subst hus
  obtain ⟨z, its, n, r, hl, e⟩ := I.lstM hH
  refine call_meets F.slot_list_clear ⟨_, e, rfl⟩ F.entry_list_clear (F.args_list_clear_1 _) (AutoSeq1.list_clear_list_0 l its.toArray n (by rw [List.size_toArray]; omega)) ⟨e, ?_⟩
  exact ⟨.non, _, I.lset (its' := []) (ys := []) hH e rfl .nil (Nat.zero_le _), rfl, q⟩
def rCat : R2 := fun x y H Q => ∃ l b xs zs, x = .ref l ∧ y = .ref b ∧ H l = some (.lst xs) ∧ H b = some (.lst zs) ∧ xs.length + zs.length ≤ sizeLine ∧ ∀ p, H p = none → Q (.ref p) (upd H p (.lst (xs ++ zs)))
theorem op_cat : OpR X (binaryOp .Add) rCat := by
  intro pins s σ H x y v u Q I rx ry h
  obtain ⟨l, b, xs, zs, rfl, rfl, hH, hB, hz, q⟩ := h
  cases rx
  cases ry
  obtain ⟨z, its, n, r, hl, e⟩ := I.lstM hH
  obtain ⟨z2, its2, n2, r2, hl2, e2⟩ := I.lstM hB
  refine PySem.P.add_list e e2 ?_ (by rw [List.size_toArray, List.size_toArray]; omega)
  have ea : its.toArray ++ its2.toArray = (its ++ its2).toArray := by simp
  rw [ea]
  exact ⟨.ref _, _, I.lnew (t' := s.toks) (r.append r2) (by rw [List.length_append]; omega), rfl, q _ I.fresh⟩
def rRep : R2 := fun x y H Q => ∃ l k xs, x = .ref l ∧ y = .int k ∧ H l = some (.lst xs) ∧ -(2 ^ 63) ≤ k ∧ k < 2 ^ 63 ∧ xs.length * k.toNat ≤ sizeLine ∧
  ∀ p, H p = none → Q (.ref p) (upd H p (.lst (List.replicate k.toNat xs).flatten))
theorem len_rep {α : Type} (xs : List α) (k : Nat) : (List.replicate k xs).flatten.length = k * xs.length := by
  induction k with
  | zero => simp
  | succ k ih => rw [List.replicate_succ, List.flatten_cons, List.length_append, ih, Nat.succ_mul, Nat.add_comm]
theorem op_rep : OpR X (binaryOp .Mult) rRep := by
  intro pins s σ H x y v u Q I rx ry h
  obtain ⟨l, k, xs, rfl, rfl, hH, h1, h2, hz, q⟩ := h
  cases rx
  obtain ⟨t, rfl⟩ := ry
  obtain ⟨z, its, n, r, hl, e⟩ := I.lstM hH
  have hlen : its.toArray.size * k.toNat ≤ sizeLine := by rw [List.size_toArray, ← hl]; exact hz
  have hcap : ¬ its.toArray.size * k.toNat > (2 ^ 63 - 1) / 8 := by
    have : (sizeLine : Nat) ≤ (2 ^ 63 - 1) / 8 := by decide
    omega
  have hfit : ¬ (!Builtin.List.listFitsIndex k) = true := by
    rw [fitsIndex_both h1 h2]
    exact Bool.false_ne_true
  have hlong : ¬ Builtin.List.listTooLong (its.toArray.size * k.toNat) = true := by
    rw [notLongL hlen]
    exact Bool.false_ne_true
  have hnew : List.foldl (fun x1 x2 => x1 ++ x2) #[] (List.replicate (if its.toArray.isEmpty = true then 0 else k.toNat) its.toArray) = (List.replicate k.toNat its).flatten.toArray := by
    have f0 : ∀ m : Nat, List.foldl (fun x1 x2 => x1 ++ x2) #[] (List.replicate m its.toArray) = (List.replicate m its).flatten.toArray := fun m => by
      have := foldl_rep its m []
      rw [List.nil_append] at this
      exact this
    rw [f0]
    cases its with
    | nil => simp
    | cons a r' => rw [if_neg (by simp)]
  refine wpAny_binaryOp_repeat_ref (T := "list") (U := "int") (by decide) ⟨_, e, rfl⟩ (fun s' => typeIs_int s' k t) noFill_list_mul F.fills_int_mul F.slot_int_rmul repeat_list F.slot_int_index.lookup
    (call_meets F.slot_int_rmul (typeIs_int s k t) F.entry_int_rmul (F.args_int_rmul_2 _ _) (int___rmul___int_list k t l its.toArray n)
      ⟨e, rfl, ⟨_, e, rfl⟩, call_meets F.slot_list_mul ⟨_, e, rfl⟩ F.entry_list_mul (F.args_list_mul_2 _ _) (AutoListH.list___mul___list_int_3 l its.toArray n k t hfit hcap hlong) ⟨e, ?_⟩⟩)
  rw [hnew]
  exact ⟨.ref _, _, I.lnew (t' := s.toks) (r.rep k.toNat) (by rw [len_rep, Nat.mul_comm]; exact hz), rfl, q _ I.fresh⟩
end
end L2
namespace Att
open PySem PySem.W PySem.Calls PyProof.Rows
theorem ints_of_wellAll {P : Params} {h : Heap} : ∀ (ns : List Int) (vs : List Value), WellAll P h vs (ns.map WData.int) → IntsAre vs ns := by
  intro ns
  induction ns with
  | nil =>
    intro vs w
    rw [List.map_nil] at w
    cases w
    exact .nil
  | cons n ns ih =>
    intro vs w
    rw [List.map_cons] at w
    cases w with
    | cons a b =>
      cases a
      exact .cons _ _ (ih _ b)
theorem script_of {l : OpenLaw} {n : Nat} (hn : l.most = some n) {P : Params} {h : Heap} {args : List WData} {vals : List Value}
    (hpre : l.row.toRowW.claim.pre args = true) (hwl : WellAll P h vals args) :
    ∃ a vs ns, vals = [Value.ref a] ∧ args = [WData.list (ns.map WData.int)] ∧ h.get? a = some { cls := .type "list", data := .seq vs.toArray } ∧ IntsAre vs ns ∧ ns.length ≤ n := by
  have hsh : WShape.hasAll [] args [.list .int] = true := (pre_splitW hpre).1
  have hc : l.pre.holds [] { args := args } = true := (pre_splitW hpre).2
  obtain ⟨d, r, rfl, h1, h2⟩ := hasAllW_cons hsh
  obtain rfl := hasAllW_nil h2
  obtain ⟨xs, rfl, h3⟩ := hasW_list h1
  obtain ⟨ns, rfl⟩ := items_int h3
  have hlen : ns.length ≤ n := by
    unfold OpenLaw.pre at hc
    have h4 : (WTm.not (.lt (.lit (.int (n : Int))) (.len (.arg 0)))).holds [] { args := [.list (ns.map .int)] } = true := by
      have h4 := (holds_andW hc).1
      rw [hn] at h4
      exact h4
    have h5 := condW_of h4 (w_not (w_lt w_lit (w_len_list (w_arg rfl))))
    rw [List.length_map] at h5
    refine Nat.le_of_not_lt fun q => ?_
    have q' : (n : Int) < ((ns.length : Nat) : Int) := by omega
    first
      | (rw [decide_eq_true q'] at h5; exact absurd h5 (by decide))
      | (simp at h5; omega)
  cases hwl with
  | cons w1 w2 =>
    cases w2
    cases w1 with
    | list ho hall => exact ⟨_, _, ns, rfl, rfl, ho, ints_of_wellAll ns _ hall, hlen⟩
theorem post_true (l : OpenLaw) (args : List WData) : l.row.toRowW.claim.post args (.bool true) args = true :=
  postW_of (r := l.row.toRowW) (X := (true == true))
    (show WShape.has [] (.bool true) .bool = true by first | rfl | decide | simp [WShape.has, WShape.arms, WShape.armsAll])
    (show (WTm.eq .res (.lit (.bool true))).value [] { args := args, res := some (.bool true), after := args } = some (.bool (true == true)) from w_eq_bool (w_res rfl) w_lit) rfl
theorem attach_call {l : OpenLaw} {n : Nat} {q : Program} {loose : List Str} {XP : (Str → Option Value) → Heap → Prop} {YP : World → Heap → Prop} {d : DefRec}
    (hn : l.most = some n) (hdf : d.params.defaults = [])
    (call : ∀ (w : World) (s₀ s₁ : Shared) (mg mb : Str → Option Value) (fa : Addr) (o : Obj) (pm cd doc : Value) (a : Addr) (vs : List Value) (ns : List Int),
      Ground q loose [] XP w s₀ mg mb s₁.heap → YP w s₁.heap →
      s₁.heap.get? fa = some o → o.data = .func (docDef d.name d.params d.body d.scope pm cd doc) → s₁.heap.CodeRec cd d.name → mg d.name = some (.ref fa) →
      s₁.heap.get? a = some { cls := .type "list", data := .seq vs.toArray } → IntsAre vs ns → ns.length ≤ n → s₁.gens = #[] →
      codeAny (model l.prog w) callerA (.call (.ref fa) ⟨[.ref a], []⟩) (fun r s' => r = .ok (.ret (.bool true)) ∧ OldK s₁.heap s'.heap ∧ s'.os = s₁.os ∧ AllBare s'.gens) s₁) :
    WalkO q loose XP YP l.row.toRowW d [] (fun f vs => PySem.call f vs) := by
  intro w s₀ s₁ mg mb G Y fa o pm cd doc dV kV ho hd hcd hD hmg hg args vals as hpre hlay hrd hwl hlo
  obtain rfl : dV = .none := Dflts.none hD hdf
  obtain rfl : kV = .none := Dflts.noKw hD
  obtain ⟨a, vs, ns, rfl, rfl, hobj, hints, hlen⟩ := script_of hn hpre hwl
  refine enter_call (codeAny_mono (call w s₀ s₁ mg mb fa o pm cd doc a vs ns G Y ho (fd_plain hd) hcd hmg hobj hints hlen hg) fun r s' hq => ?_)
  obtain ⟨rfl, h2, h3, h4⟩ := hq
  exact ⟨.inl ⟨.bool true, .bool true, [], rfl, fun _ => rfl, .bool true, post_true l _, fun _ => ⟨List.Pairwise.nil, fun _ hm => (nomatch hm)⟩⟩, h2, h3, h4⟩
end Att
namespace L2
open PySem PySem.Spec PyProof.Rows
theorem vals_ints : ∀ {vs : List Value} {ns : List Int}, IntsAre vs ns → Vals (ns.map V.int) vs
  | _, _, .nil => .nil
  | _, _, .cons n t h => .cons ⟨t, rfl⟩ (vals_ints h)
def inClass (s : Stmt) (j : Nat) : Stmt := match s with
  | .ClassDef _ _ _ body _ _ _ _ _ _ _ => body.getD j (.Pass ⟨0, 0, 0, 0⟩)
  | _ => .Pass ⟨0, 0, 0, 0⟩
def defArgs (s : Stmt) : Arguments := match s with
  | .FunctionDef _ a _ _ _ _ _ _ _ _ => a
  | _ => { posonlyargs := [], args := [], vararg := none, kwonlyargs := [], kw_defaults := [], kwarg := none, defaults := [] }
def defBody (s : Stmt) : List Stmt := match s with
  | .FunctionDef _ _ b _ _ _ _ _ _ _ => b
  | _ => []
def defScope (s : Stmt) : Scope := match s with
  | .FunctionDef _ _ _ _ _ _ sc _ _ _ => sc
  | _ => { kind := .function, names := [], isGenerator := false, isCoroutine := false }
abbrev CX0 : CXT := fun _ _ _ _ _ _ => False
abbrev E0 : XK := fun _ _ _ => False
theorem pass0 {X : Cx} : Passes CX0 X E0 := fun _ _ _ _ _ _ _ h => h.elim
structure Fun (K : PySem.W.Frag) (x qual : Str) (st : Stmt) (f : Addr) (fd : FuncData) : Prop where
  ex : ∃ (oc : Value) (od : Option Addr) (kV doc pm : Value) (an : Option Addr) (cdv ct : Value) (osl : Array (Option Value)),
    fd = PySem.W.fnOf x qual (defArgs st) (defBody st) (defScope st) .none kV doc pm an cdv ct ∧ K.lookup f = some ⟨oc, od, .func fd, osl⟩ ∧ PySem.W.codeIn K cdv qual = true
  kp : PySem.W.keepIn K (.ref f) = true
section
variable {P : Program} {w : World} {K : PySem.W.Frag} {mg : Str → Option Value} {base : Heap}
theorem Fun.ok {x qual : Str} {st : Stmt} {f : Addr} {fd : FuncData} {N ps : List Str} {k : Nat} {sp : Sp} (F : Fun K x qual st f fd) (S : FnScope N ps (defScope st)) (len : ∀ vs H Q E, sp vs H Q E → vs.length = ps.length)
    (hbody : ∀ (cdv : Value) (A : Around) (outer : List Env) (s : Shared) (H : Hp) (vs : List V) (Q : VK) (E : XK), Room k (A.deeper (envOfC qual (defScope st) s.heap.objs.size f cdv)) → sp vs H Q E →
      ∃ t, PSs (cxOf CX0 P w K mg base N qual (defScope st) f cdv A outer s H E).nox (defBody st) t ∧ t { nx := fun _ H' => Q .non H', rt := Q } (start N vs) H) : FnOk P w K mg base CX0 (k + 1) f fd ps sp := by
  obtain ⟨oc, od, kV, doc, pm, an, cdv, ct, osl, rfl, lk, hcd⟩ := F.ex
  refine fn_of lk hcd S len fun A outer s H vs Q E hr hsp => ?_
  obtain ⟨t, h, q⟩ := hbody cdv A outer s H vs Q E hr hsp
  exact ⟨t, h.nox, q⟩
theorem Fun.binds {x qual : Str} {st : Stmt} {f : Addr} {fd : FuncData} {ps : List Str} (F : Fun K x qual st f fd)
    (h : ∀ (kV doc pm : Value) (an : Option Addr) (cdv ct : Value) (us : List Value), us.length = ps.length → bindArgs (PySem.W.fnOf x qual (defArgs st) (defBody st) (defScope st) .none kV doc pm an cdv ct) ⟨us, []⟩ = pure (ps.zip us)) : Binds K fd ps [] := by
  obtain ⟨oc, od, kV, doc, pm, an, cdv, ct, osl, rfl, lk, hcd⟩ := F.ex
  exact .all (h kV doc pm an cdv ct)
theorem fun_mk {x qual : Str} {st : Stmt} {f : Addr} {oc : Value} {od an : Option Addr} {osl : Array (Option Value)} {kV doc pm cdv ct : Value} (l : K.lookup f = some ⟨oc, od, .func (PySem.W.fnOf x qual (defArgs st) (defBody st) (defScope st) .none kV doc pm an cdv ct), osl⟩)
    (c : PySem.W.codeIn K cdv qual = true) (k : PySem.W.keepIn K (.ref f) = true) : Fun K x qual st f (PySem.W.fnOf x qual (defArgs st) (defBody st) (defScope st) .none kV doc pm an cdv ct) := ⟨⟨oc, od, kV, doc, pm, an, cdv, ct, osl, rfl, l, c⟩, k⟩
end
section
variable {X : Cx}
theorem pv (i : Nat) {x : Str} {pos : Pos} (hN : X.N[i]? = some x := by rfl) (hv : Vis X.env.scope x := by first | exact Or.inl rfl | exact Or.inr (Or.inl rfl) | exact Or.inr (Or.inr rfl)) (hd : (x == ("__debug__" : Str)) = false := by decide)
    (hcd : (x == ("__classdict__" : Str)) = false := by decide) : PE X (.Name x pos) (tVar i) := pe_var hN hv hd hcd
end
theorem iteF {A B : Prop} (h : B) : if false = true then A else B := by
  rw [if_neg Bool.false_ne_true]
  exact h
theorem iteT {A B : Prop} (h : A) : if true = true then A else B := by
  rw [if_pos rfl]
  exact h
def Same (H H' : Hp) : Prop := ∀ b o, H b = some o → H' b = some o
theorem Same.refl (H : Hp) : Same H H := fun _ _ h => h
theorem Same.trans {H H1 H2 : Hp} (a : Same H H1) (b : Same H1 H2) : Same H H2 := fun c o h => b c o (a c o h)
theorem Same.free {H H' : Hp} (e : Same H H') {l : Addr} (h : H' l = Option.none) : H l = Option.none := by
  cases q : H l with
  | none => rfl
  | some o =>
    rw [e l o q] at h
    cases h
theorem Same.seq {K : PySem.W.Frag} {H H' : Hp} {a : Addr} {xs : List V} (e : Same H H') (h : SqL K H a xs) : SqL K H' a xs := by
  rcases h with (h | ⟨o, h⟩) | h
  · exact .inl (.inl (e _ _ h))
  · exact .inl (.inr ⟨o, e _ _ h⟩)
  · exact .inr h
section
variable {κ : Type} [DecidableEq κ]
def valV (kvs : List (κ × V)) (k : κ) : Option V := (kvs.find? fun kv => decide (kv.1 = k)).map (·.2)
def putK (kvs : List (κ × V)) (k : κ) (v : V) : List (κ × V) :=
  if (kvs.any fun kv => decide (kv.1 = k)) = true then kvs.map (fun kv => if kv.1 = k then (kv.1, v) else kv) else kvs ++ [(k, v)]
theorem RelO.getD {o : Option V} {u : Option Value} {d : V} {d' : Value} (r : RelO o u) (rd : RelV d d') : RelV (o.getD d) (u.getD d') := by
  cases o with
  | none => cases u with
    | none => exact rd
    | some _ => exact (show False from r).elim
  | some _ => cases u with
    | none => exact (show False from r).elim
    | some _ => exact r
theorem KV.any {kvs : List (κ × V)} {vs : List (κ × Value)} (r : KV kvs vs) (k : κ) : (kvs.any fun kv => decide (kv.1 = k)) = vs.any fun kv => decide (kv.1 = k) := by
  unfold KV at r
  induction r with
  | nil => rfl
  | cons h t ih => rw [List.any_cons, List.any_cons, ih, h.1]
theorem KV.keys {kvs : List (κ × V)} {vs : List (κ × Value)} (r : KV kvs vs) : kvs.map (·.1) = vs.map (·.1) := by
  unfold KV at r
  induction r with
  | nil => rfl
  | cons h t ih => rw [List.map_cons, List.map_cons, ih, h.1]
theorem KV.length {kvs : List (κ × V)} {vs : List (κ × Value)} (r : KV kvs vs) : kvs.length = vs.length := Paired.length r
end
def DGet (H : Hp) (a : Addr) (y : V) (r : Option V) : Prop :=
  (∃ kvs k, Rd H a (.dK kvs) ∧ y = kV k ∧ r = valV kvs k) ∨ ∃ kvs k b, Rd H a (.dT kvs) ∧ y = .ref b ∧ H b = some (.tup (k.map kV)) ∧ r = valV kvs k
def DPut (H : Hp) (a : Addr) (y v : V) (H' : Hp) : Prop :=
  (∃ kvs k, H a = some (.dK kvs) ∧ y = kV k ∧ kvs.length < sizeLine ∧ H' = upd H a (.dK (putK kvs k v))) ∨
  ∃ kvs k b, H a = some (.dT kvs) ∧ y = .ref b ∧ H b = some (.tup (k.map kV)) ∧ kvs.length < sizeLine ∧ H' = upd H a (.dT (putK kvs k v))
theorem DGet.k {H : Hp} {a : Addr} {kvs : List (Key × V)} {k : Key} (e : H a = some (.dK kvs)) : DGet H a (kV k) (valV kvs k) := .inl ⟨kvs, k, .inl e, rfl, rfl⟩
theorem DGet.t {H : Hp} {a b : Addr} {kvs : List (List Key × V)} {k : List Key} (e : H a = some (.dT kvs)) (eb : H b = some (.tup (k.map kV))) : DGet H a (.ref b) (valV kvs k) := .inr ⟨kvs, k, b, .inl e, rfl, eb, rfl⟩
theorem DPut.k {H : Hp} {a : Addr} {kvs : List (Key × V)} {k : Key} {v : V} (e : H a = some (.dK kvs)) (hl : kvs.length < sizeLine) : DPut H a (kV k) v (upd H a (.dK (putK kvs k v))) := .inl ⟨kvs, k, e, rfl, hl, rfl⟩
theorem DPut.t {H : Hp} {a b : Addr} {kvs : List (List Key × V)} {k : List Key} {v : V} (e : H a = some (.dT kvs)) (eb : H b = some (.tup (k.map kV))) (hl : kvs.length < sizeLine) :
    DPut H a (.ref b) v (upd H a (.dT (putK kvs k v))) := .inr ⟨kvs, k, b, e, rfl, eb, hl, rfl⟩
end L2
set_option maxHeartbeats 4000000
namespace L2
open PySem PySem.Spec PyProof.Rows
section
variable {P : Program} {w : World} {K : PySem.W.Frag} {mg : Str → Option Value} {base : Heap} {CX : CXT} {x : Str} {ps : List Str} {sp : Sp} {j k : Nat}
structure Def (P : Program) (w : World) (K : PySem.W.Frag) (mg : Str → Option Value) (base : Heap) (CX : CXT) (k : Nat) (x : Str) (ps : List Str) (sp : Sp) : Prop where
  ex : ∃ (f : Addr) (fd : FuncData), FnOk P w K mg base CX k f fd ps sp ∧ mg x = some (.ref f) ∧ PySem.W.keepIn K (.ref f) = true ∧ Binds K fd ps []
def HasDef (K : PySem.W.Frag) (mg : Str → Option Value) (x : Str) (st : Stmt) : Prop := ∃ (f : Addr) (fd : FuncData), Fun K x x st f fd ∧ mg x = some (.ref f)
theorem HasDef.mk {st : Stmt} {f : Addr} {oc : Value} {od an : Option Addr} {osl : Array (Option Value)} {kV doc pm cdv ct : Value} (m : mg x = some (.ref f))
    (l : K.lookup f = some ⟨oc, od, .func (PySem.W.fnOf x x (defArgs st) (defBody st) (defScope st) .none kV doc pm an cdv ct), osl⟩)
    (c : PySem.W.codeIn K cdv x = true) (k : PySem.W.keepIn K (.ref f) = true) : HasDef K mg x st := ⟨f, _, fun_mk l c k, m⟩
theorem def_of {st : Stmt} {N : List Str} (h : HasDef K mg x st) (S : FnScope N ps (defScope st)) (len : ∀ vs H Q E, sp vs H Q E → vs.length = ps.length)
    (hb : ∀ (kV doc pm : Value) (an : Option Addr) (cdv ct : Value) (us : List Value), us.length = ps.length → bindArgs (PySem.W.fnOf x x (defArgs st) (defBody st) (defScope st) .none kV doc pm an cdv ct) ⟨us, []⟩ = pure (ps.zip us))
    (hbody : ∀ (f : Addr) (cdv : Value) (A : Around) (outer : List Env) (s : Shared) (H : Hp) (vs : List V) (Q : VK) (E : XK), Room k (A.deeper (envOfC x (defScope st) s.heap.objs.size f cdv)) → sp vs H Q E →
      ∃ t, PSs (cxOf CX P w K mg base N x (defScope st) f cdv A outer s H E).nox (defBody st) t ∧ t { nx := fun _ H' => Q .non H', rt := Q } (start N vs) H) : Def P w K mg base CX (k + 1) x ps sp := by
  obtain ⟨f, fd, F, m⟩ := h
  refine ⟨f, fd, ?_, m, F.kp, F.binds hb⟩
  obtain ⟨oc, od, kV, doc, pm, an, cdv, ct, osl, rfl, lk, hcd⟩ := F.ex
  refine fn_of lk hcd S len fun A outer s H vs Q E hr hsp => ?_
  obtain ⟨t, h, q⟩ := hbody f cdv A outer s H vs Q E hr hsp
  exact ⟨t, h.nox, q⟩
end
section
variable {X : Cx} {CX : CXT} {k m : Nat} {x : Str} {ps : List Str} {sp : Sp} {E : XK} {p pos : Pos} {e : Expr} {es : List Expr} {t : TA}
theorem pe_def (D : Def X.prog X.w X.K X.mg X.base CX k x ps sp) (hr : Room m X.A) (ha : PA X (e :: es) t) (hk : k ≤ m := by decide) (hx : Passes CX X E := by exact pass0) (hg : Gl X x := by rfl)
    (hdb : (x == ("__debug__" : Str)) = false := by decide) (he : starEach (e :: es) X.env = (false, eval e X.env) :: starEach es X.env := by rfl) (hpl : (backTo pos (starEach es X.env)).any (·.1) = false := by rfl) :
    PE X (.Call (.Name x p) (e :: es) [] pos) (tCall sp [] E t) := by
  obtain ⟨f, fd, F, hm, kp, b⟩ := D.ex
  exact pe_call F (hr.mono hk) hg hm kp b .nil hx ha hdb he hpl
end
def GlobIs (mg : Str → Option Value) (x : Str) (v : V) : Prop := ∃ u, mg x = some u ∧ RelV v u
theorem pe_gl {X : Cx} {x : Str} {v : V} {pos : Pos} (h : GlobIs X.mg x v) (hg : Gl X x := by rfl) (hd : (x == ("__debug__" : Str)) = false := by decide) : PE X (.Name x pos) (tC v) :=
  let ⟨_, e, r⟩ := h
  pe_glob hg e r hd
section
variable {X : Cx} {T : String} {pos : Pos}
theorem pe_ty {x : Str} (hg : Gl X x) (hm : X.mg x = none) (hv : bootBuiltins x = some (.type T)) (hn : x ≠ "__name__" := by decide) (hd : (x == ("__debug__" : Str)) = false := by decide) : PE X (.Name x pos) (tC (.ty T)) :=
  pe_bltn hg hm hv rfl hn hd
def clsIs (K : PySem.W.Frag) (t : Value) : V → Option Bool
  | .ty T => PySem.W.kitOne K t (.type T)
  | .ref C => PySem.W.kitOne K t (.ref C)
  | _ => none
theorem call_isinstance : CallR X (.builtin "isinstance") (fun xs H Q => ∃ x c t b, xs = [x, c] ∧ TyOf X.K H x t ∧ clsIs X.K t c = some b ∧ Q (.bl b) H) := by
  intro pins s σ H xs us Q I r h
  obtain ⟨x, c, t, b, rfl, ty, e, q⟩ := h
  obtain ⟨u, v, rfl, ru, rv⟩ := vals2 r
  cases c with
  | ty T =>
    obtain rfl : v = Value.type T := rv
    exact isinst_ok I ru ty e fun tk => ⟨.bl b, H, I.tok _, rfl, q⟩
  | ref C =>
    obtain rfl : v = Value.ref C := rv
    exact isinst_ok I ru ty e fun tk => ⟨.bl b, H, I.tok _, rfl, q⟩
  | _ => cases e
end
section
variable {X : Cx}
theorem vals_bools : ∀ {bs : List Bool} {us : List Value}, Vals (bs.map V.bl) us → LSm.BoolsAre us bs
  | [], _, .nil => .nil
  | b :: bs, _, .cons r t => by
    cases (show _ = Value.bool b from r)
    exact .cons b (vals_bools t)
theorem call_all (hc : X.calm = true) : CallR X (.builtin "all") (fun xs H Q => ∃ (p : Addr) (bs : List Bool), xs = [.ref p] ∧ SqL X.K H p (bs.map V.bl) ∧ Q (.bl (bs.all id)) H) := by
  intro pins s σ H xs us Q I r h
  obtain ⟨p, bs, rfl, hq, q⟩ := h
  obtain ⟨u, rfl, rx⟩ := vals1 r
  cases rx
  obtain ⟨its, rv, pl, hz⟩ := I.list hq
  have hb := vals_bools rv
  have hl := pl.isList
  have hlt : p < s.heap.objs.size := by obtain ⟨_, e, _⟩ := hl; exact Heap.lt_size e
  refine call_all_walk (wpAny_pyIter_list hl ?_)
  refine ⟨s.heap.objs.size, [s.heap.objs.size, p], [s.heap.objs.size], its.toArray.size, _, _, fun i => (bs[i]?).getD true, rfl, Walks.list (A := X.A.in1) (I.ok.hd hc) _ p (Nat.ne_of_lt hlt) its.toArray,
    ⟨⟨_, Heap.get?_push_size _ rfl, rfl, rfl⟩, hl.push _⟩, fun i v s' Q' E' hP hQ => ?_, fun h' tk hk => ?_⟩
  · obtain ⟨b, e, rfl⟩ := hb.get i v (by simpa using hP)
    simp only [e, Option.getD_some] at hQ
    exact wpAny_truthy_bool hQ
  · have e : ((List.range its.toArray.size).all fun i => (bs[i]?).getD true) = bs.all id := by
      rw [List.size_toArray, hb.length]; exact LSm.range_all bs
    rw [e]
    exact ⟨.bl _, H, I.kept (LSm.kept_iter hk), rfl, q⟩
theorem call_any (hc : X.calm = true) : CallR X (.builtin "any") (fun xs H Q => ∃ (p : Addr) (bs : List Bool), xs = [.ref p] ∧ SqL X.K H p (bs.map V.bl) ∧ Q (.bl (bs.any id)) H) := by
  intro pins s σ H xs us Q I r h
  obtain ⟨p, bs, rfl, hq, q⟩ := h
  obtain ⟨u, rfl, rx⟩ := vals1 r
  cases rx
  obtain ⟨its, rv, pl, hz⟩ := I.list hq
  have hb := vals_bools rv
  have hl := pl.isList
  have hlt : p < s.heap.objs.size := by obtain ⟨_, e, _⟩ := hl; exact Heap.lt_size e
  refine call_any_walk (wpAny_pyIter_list hl ?_)
  refine ⟨s.heap.objs.size, [s.heap.objs.size, p], [s.heap.objs.size], its.toArray.size, _, _, fun i => (bs[i]?).getD false, rfl, Walks.list (A := X.A.in1) (I.ok.hd hc) _ p (Nat.ne_of_lt hlt) its.toArray,
    ⟨⟨_, Heap.get?_push_size _ rfl, rfl, rfl⟩, hl.push _⟩, fun i v s' Q' E' hP hQ => ?_, fun h' tk hk => ?_⟩
  · obtain ⟨b, e, rfl⟩ := hb.get i v (by simpa using hP)
    simp only [e, Option.getD_some] at hQ
    exact wpAny_truthy_bool hQ
  · have e : ((List.range its.toArray.size).any fun i => (bs[i]?).getD false) = bs.any id := by
      rw [List.size_toArray, hb.length]; exact LSm.range_any bs
    rw [e]
    exact ⟨.bl _, H, I.kept (LSm.kept_iter hk), rfl, q⟩
end
section
variable {X : Cx}
theorem op_in_str1 : OpR X (compareOp .In) (fun x y H Q => ∃ c j, x = .str ⟨#[c]⟩ ∧ y = .str j ∧ Q (.bl (decide (c ∈ j.cps.toList))) H) := by
  intro pins s σ H x y v u Q I rx ry h
  obtain ⟨c, j, rfl, rfl, q⟩ := h
  obtain ⟨t, rfl⟩ := rx
  obtain ⟨t', rfl⟩ := ry
  exact in_str (fin_bl I q (PySem.StrLaws.found_one j c).symm)
def Its (z : Str) : It := ⟨fun i _ => i < z.cps.size, fun i H x H' => H' = H ∧ ∃ c, z.cps[i]? = some c ∧ x = .str ⟨#[c]⟩, fun i _ => z.cps.size ≤ i⟩
section
variable {P : Program} {w : World} {K : PySem.W.Frag} {tg : Expr}
theorem turn_strA (it : Addr) (z : Str) (t : Tok) : Turn P w K tg (Its z) [it] it (fun i h => h.IsStrIter it "str_ascii_iterator" z t i) where
  mem := by simp
  obj := fun i h st b hb => by
    have e : b = it := by simpa using hb
    subst e
    obtain ⟨o, e, c, d⟩ := st
    exact ⟨o, e, fun v z => by rw [d] at z; cases z⟩
  keep := fun i h h' st k => let ⟨o, e, r⟩ := st; ⟨o, k it (by simp) o e, r⟩
  item := by
    intro X hP hw hK hc i pins s σ H E I hf st hg
    subst hP hw hK
    obtain ⟨f0, f1, f2, f3, f4, f5⟩ := hf it (by simp)
    have hi : i < z.cps.size := hg
    refine wpAny_pyNext_ascii_item st (c := z.cps[i]) (by simp [hi]) fun h' st' sb => ?_
    have I1 : Inv X pins σ H { s with heap := h', toks := s.toks + 1 } := I.turned (fun b o hb e => sb.extBut b o hb e) f0 f1 f3 f4 f5
    obtain ⟨o, e, c, d⟩ := id st'
    exact ⟨_, rfl, go_of (s := { s with heap := h', toks := s.toks + 1 }) e c d (by decide) ⟨.str ⟨#[z.cps[i]]⟩, H, I1, ⟨_, rfl⟩, ⟨rfl, z.cps[i], by simp [hi], rfl⟩, st', fun b hb => (hf b hb).1⟩⟩
  done := by
    intro X hP hw hK hc i pins s σ H E I hf st hg
    subst hP hw hK
    obtain ⟨f0, f1, f2, f3, f4, f5⟩ := hf it (by simp)
    have hi : z.cps.size ≤ i := hg
    exact wpAny_pyNext_ascii_end (I.ok.hd hc) st (by simp [hi]) fun h' eb => ⟨rfl, I.turned (t' := s.toks) (fun b o hb e => eb b o hb e) f0 f1 f3 f4 f5⟩
  self := fun _ _ _ _ _ st h => wpAny_pyIter_striter_ascii st h
theorem turn_strW (it : Addr) (z : Str) (t : Tok) : Turn P w K tg (Its z) [it] it (fun i h => h.IsStrIter it "str_iterator" z t i) where
  mem := by simp
  obj := fun i h st b hb => by
    have e : b = it := by simpa using hb
    subst e
    obtain ⟨o, e, c, d⟩ := st
    exact ⟨o, e, fun v z => by rw [d] at z; cases z⟩
  keep := fun i h h' st k => let ⟨o, e, r⟩ := st; ⟨o, k it (by simp) o e, r⟩
  item := by
    intro X hP hw hK hc i pins s σ H E I hf st hg
    subst hP hw hK
    obtain ⟨f0, f1, f2, f3, f4, f5⟩ := hf it (by simp)
    have hi : i < z.cps.size := hg
    refine wpAny_pyNext_wide_item st (c := z.cps[i]) (by simp [hi]) fun h' st' sb => ?_
    have I1 : Inv X pins σ H { s with heap := h', toks := s.toks + 1 } := I.turned (fun b o hb e => sb.extBut b o hb e) f0 f1 f3 f4 f5
    obtain ⟨o, e, c, d⟩ := id st'
    exact ⟨_, rfl, go_of (s := { s with heap := h', toks := s.toks + 1 }) e c d (by decide) ⟨.str ⟨#[z.cps[i]]⟩, H, I1, ⟨_, rfl⟩, ⟨rfl, z.cps[i], by simp [hi], rfl⟩, st', fun b hb => (hf b hb).1⟩⟩
  done := by
    intro X hP hw hK hc i pins s σ H E I hf st hg
    subst hP hw hK
    obtain ⟨f0, f1, f2, f3, f4, f5⟩ := hf it (by simp)
    have hi : z.cps.size ≤ i := hg
    exact wpAny_pyNext_wide_end (I.ok.hd hc) st (by simp [hi]) fun h' eb => ⟨rfl, I.turned (t' := s.toks) (fun b o hb e => eb b o hb e) f0 f1 f3 f4 f5⟩
  self := fun _ _ _ _ _ st h => wpAny_pyIter_striter_wide st h
end
def iStr (tl : TE) : TI := fun σ H R => tl σ H fun x H1 => ∃ z, x = .str z ∧ R (Its z) H1
theorem pi_str {tg l : Expr} {tl : TE} (hl : PE X l tl) : PI X tg l (iStr tl) := by
  intro pins s σ H R I h
  refine thn (hl pins s σ H _ I h) fun v s1 ⟨x, H1, I1, r1, q1⟩ => ?_
  obtain ⟨z, e, q⟩ := q1
  subst e
  obtain ⟨t, rfl⟩ := r1
  have fp : ∀ (b : Addr), b ∈ [s1.heap.objs.size] → FpOk X pins H1 b := fun b hb => by
    have e : b = s1.heap.objs.size := by simpa using hb
    subst e
    exact I1.fpOk (Nat.le_refl _) (I1.hok.fresh (Nat.le_refl _))
  cases ha : z.cps.all (· < 128)
  · exact wpAny_pyIter_wide ha ⟨s1.heap.objs.size, [s1.heap.objs.size], _, _, H1, rfl, I1.kept (t' := s1.toks) fun b o e => Heap.get?_push_of_some _ e, turn_strW _ z t, ⟨_, Heap.get?_push_size _ rfl, rfl, rfl⟩, fp, q⟩
  · exact wpAny_pyIter_ascii ha ⟨s1.heap.objs.size, [s1.heap.objs.size], _, _, H1, rfl, I1.kept (t' := s1.toks) fun b o e => Heap.get?_push_of_some _ e, turn_strA _ z t, ⟨_, Heap.get?_push_size _ rfl, rfl, rfl⟩, fp, q⟩
end
def closOf (env : Env) : List (Str × NameKind) → Option (List (Str × Addr))
  | [] => some []
  | (n, k) :: r => if k = .free then (env.cells.lookup n).bind fun c => (closOf env r).map fun cl => cl ++ [(n, c)] else closOf env r
theorem closOf_lookup {env : Env} : ∀ {names : List (Str × NameKind)} {cl : List (Str × Addr)}, closOf env names = some cl → ∀ x c, cl.lookup x = some c → env.cells.lookup x = some c
  | [], cl, h, x, c, e => by
    cases (Option.some.inj h)
    cases e
  | (n, k) :: r, cl, h, x, c, e => by
    unfold closOf at h
    by_cases hk : k = .free
    · rw [if_pos hk] at h
      cases hc : env.cells.lookup n with
      | none => rw [hc] at h; cases h
      | some c' =>
        rw [hc] at h
        have h : (closOf env r).map (fun cl => cl ++ [(n, c')]) = some cl := h
        cases hr : closOf env r with
        | none => rw [hr] at h; cases h
        | some cl' =>
          rw [hr] at h
          have h : cl' ++ [(n, c')] = cl := Option.some.inj h
          subst h
          rw [List.lookup_append] at e
          cases h2 : cl'.lookup x with
          | some c2 =>
            rw [h2] at e
            have e : c2 = c := by simpa using e
            subst e
            exact closOf_lookup hr x c2 h2
          | none =>
            rw [h2] at e
            have e : List.lookup x [(n, c')] = some c := by simpa using e
            by_cases hx : x = n
            · subst hx
              have : c' = c := by simpa using e
              subst this
              exact hc
            · have hb : (x == n) = false := by simpa using hx
              simp [List.lookup_cons, hb] at e
    · rw [if_neg hk] at h
      exact closOf_lookup h x c e
theorem closureFor_go {env : Env} : ∀ (names : List (Str × NameKind)) (acc cl : List (Str × Addr)), closOf env names = some cl →
    (forIn (m := Sem) names acc fun x c => if x.2 == NameKind.free then (do let a ← cellOf env x.1; pure (ForInStep.yield ((x.1, a) :: c))) else pure (ForInStep.yield c)) = pure (cl ++ acc)
  | [], acc, cl, h => by
    cases (Option.some.inj h)
    rfl
  | (n, k) :: r, acc, cl, h => by
    unfold closOf at h
    rw [List.forIn_cons]
    by_cases hk : k = .free
    · rw [if_pos hk] at h
      cases hc : env.cells.lookup n with
      | none => rw [hc] at h; cases h
      | some c' =>
        rw [hc] at h
        have h : (closOf env r).map (fun cl => cl ++ [(n, c')]) = some cl := h
        cases hr : closOf env r with
        | none => rw [hr] at h; cases h
        | some cl' =>
          rw [hr] at h
          have h : cl' ++ [(n, c')] = cl := Option.some.inj h
          subst h
          have hb : (k == NameKind.free) = true := by simpa using hk
          have := closureFor_go r ((n, c') :: acc) cl' hr
          have ec : cellOf env n = pure c' := by unfold cellOf; rw [hc]
          simp only [hb, if_true, ec, pure_bind, bind_assoc]
          rw [this]
          simp
    · rw [if_neg hk] at h
      have hb : (k == NameKind.free) = false := by simpa using hk
      have := closureFor_go r acc cl h
      simp only [hb, Bool.false_eq_true, if_false, pure_bind]
      exact this
theorem closureFor_of {env : Env} {scope : Scope} {cl : List (Str × Addr)} (h : closOf env scope.names = some cl) : closureFor scope env = pure cl := by
  have := closureFor_go scope.names [] cl h
  rw [List.append_nil] at this
  have key : closureFor scope env = (forIn (m := Sem) scope.names ([] : List (Str × Addr)) fun x c => if x.2 == NameKind.free then (do let a ← cellOf env x.1; pure (ForInStep.yield ((x.1, a) :: c))) else pure (ForInStep.yield c)) >>= fun cs => pure cs := by
    unfold closureFor
    rfl
  rw [key, this]
  rfl
theorem comp_loop {prog : Program} {w : World} {A : Around} {R : Result → Shared → Prop} {s : Shared} {elt target iter : Expr} {ifs : List Expr} {scope : Scope} {pos : Pos} {it acc : Value} {env : Env} (I : Nat → Shared → Prop)
    (turn : ∀ n s, I n s → wpAny (model prog w) A (pyNext it) (fun r s₁ => match r with
      | none => R (.ok .next) s₁
      | some v => wpAny (model prog w) A (letOwnedTupleGo target it v) (fun _ s₀ => wpAny (model prog w) A (assign target env v) (fun _ s₂ =>
          wpAny (model prog w) A (forIn ifs true fun c r => if r = true then do let ok ← isTrue c env (eval c env); pure (ForInStep.yield ok) else pure (ForInStep.yield r)) (fun ok s₃ =>
            if ok = true then wpAny (model prog w) A (eval elt env) (fun x s₄ =>
              wpAny (model prog w) A (call (.builtin "list.append") [acc, x]) (fun _ s₅ => ∃ m, m < n ∧ I m s₅) (fun _ _ => False) s₄) (fun _ _ => False) s₃
            else ∃ m, m < n ∧ I m s₃) (fun _ _ => False) s₂) (fun _ _ => False) s₀) (fun _ _ => False) s₁) (fun _ _ => False) s)
    (n : Nat) (h : I n s) :
    codeAny (model prog w) A (.compLoop (.ListComp elt [⟨target, iter, ifs, 0⟩] scope pos) 0 it acc env) R s := by
  refine codeAny_loop rfl I (fun n s hI => ?_) n h
  show wpAny _ A ((compTurn (.ListComp elt [⟨target, iter, ifs, 0⟩] scope pos) 0 it acc env).onRaise (fun x => do noteFrame x env; theTreesLotGoes x)) _ _ s
  refine wpAny_noted ?_
  rw [compTurn_list]
  refine wpAny_bind (wpAny_standAt (wpAny_bind (wpAny_mono (turn n s hI) (fun r s₁ h₁ => ?_) fun _ _ h' => h'.elim)))
  cases r with
  | none => exact wpAny_pure h₁
  | some v =>
    refine wpAny_bind (wpAny_mono h₁ (fun _ s₀ h₀ => ?_) fun _ _ h' => h'.elim)
    refine wpAny_bind (wpAny_mono h₀ (fun _ s₂ h₂ => wpAny_bind (wpAny_mono h₂ (fun ok s₃ h₃ => ?_) fun _ _ h' => h'.elim)) fun _ _ h' => h'.elim)
    cases ok with
    | false => exact wpAny_pure ⟨rfl, h₃⟩
    | true =>
      exact wpAny_bind (wpAny_bind (wpAny_mono h₃ (fun x s₄ h₄ => wpAny_bind (wpAny_mono h₄ (fun _ s₅ h₅ => wpAny_pure (wpAny_pure ⟨rfl, h₅⟩)) fun _ _ h' => h'.elim)) fun _ _ h' => h'.elim))
def cxComp (X : Cx) (N : List Str) (scope : Scope) (cl : List (Str × Addr)) (pins : List (Addr × Obj)) (s : Shared) (H : Hp) (fp : List Addr) : Cx where
  prog := X.prog
  w := X.w
  K := X.K
  mg := X.mg
  base := X.base
  A := X.A
  N := N
  s₀ := s
  H₀ := H
  env := compEnvC scope cl s.heap.objs.size X.env
  outer := X.stack
  stack := X.stack
  ex := fp
  fn := fun _ => false
  calm := X.calm
  pn := X.pn ++ pins
  xe := fun _ _ => False
def compStart0 (nt : Nat) (fr : List Nat) (σ : St) : St := List.replicate nt none ++ fr.map fun i => (σ[i]?).getD none
structure CompNames (X : Cx) (N : List Str) (nt : Nat) (fr : List Nat) (scope : Scope) (cl : List (Str × Addr)) : Prop where
  len : N.length = nt + fr.length
  free : ∀ (j : Nat) (i : Nat) (x : Str), fr[j]? = some i → N[nt + j]? = some x → X.N[i]? = some x ∧ (∃ c, cl.lookup x = some c) ∧ (X.env.kindOf x = some .cell ∨ X.env.kindOf x = some .free) ∧
    ((relabel scope X.env).names.lookup x = some .cell ∨ (relabel scope X.env).names.lookup x = some .free)
  cells : ∀ x c, cl.lookup x = some c → X.env.cells.lookup x = some c
  has : ∀ x, ((relabel scope X.env).names.lookup x = some .cell ∨ (relabel scope X.env).names.lookup x = some .free) → ∃ c, cl.lookup x = some c
  kind : scope.kind = .function
theorem Vis_of_cell {X : Cx} {x : Str} (h : X.env.kindOf x = some .cell ∨ X.env.kindOf x = some .free) : Vis X.env.scope x := by
  rcases h with h | h
  · exact .inr (.inl h)
  · exact .inr (.inr h)
section
variable {X : Cx} {N : List Str} {nt : Nat} {fr : List Nat} {scope : Scope} {cl : List (Str × Addr)} {pins : List (Addr × Obj)} {σ : St} {H : Hp} {s : Shared} {fp : List Addr}
theorem comp_ok (I : Inv X pins σ H s) (cn : CompNames X N nt fr scope cl) (hf : ∀ b ∈ fp, FpOk X pins H b) (ho : ∀ b ∈ fp, b < s.heap.objs.size) : (cxComp X N scope cl pins s H fp).Ok where
  mod := I.mod
  kind := cn.kind
  glob := I.ok.glob
  blt := I.ok.blt
  above := Nat.le_refl _
  inj := fun x y c h1 h2 => I.ok.inj x y c (cn.cells x c h1) (cn.cells y c h2)
  has := fun x hx => cn.has x hx
  cab := fun x c h _ => by cases (show false = true from h)
  hd := I.ok.hd
  frames := I.ok.frames
  stk := .inl rfl
  exf := fun b hb => ⟨Nat.ne_of_lt (ho b hb), fun x c e => (hf b hb).2.2.2.2.1 x c (cn.cells x c e)⟩
  bs := I.bs
  bsz := Nat.le_trans I.ok.bsz I.sz
  noex := fun b o e hb => by
    rcases (hf b hb).2.2.2.1 with z | z
    · exact I.ok.noex b o e z
    · exact absurd (Nat.lt_of_lt_of_le (Heap.lt_size e) (Nat.le_trans I.ok.bsz z)) (Nat.lt_irrefl _)
  exfs := fun b hb z => (List.mem_cons.mp (I.stkSub b z)).elim (fun e => (hf b hb).2.1 e) fun e => (hf b hb).2.2.1 e
  funs := I.stack
  frf := I.stkFree
theorem comp_inv {h4 : Heap} {t' : Nat} (I : Inv X pins σ H s) (cn : CompNames X N nt fr scope cl) (hf : ∀ b ∈ fp, FpOk X pins H b) (ho : ∀ b ∈ fp, b < s.heap.objs.size)
    (k : ∀ b o, s.heap.get? b = some o → h4.get? b = some o) (hns : ∃ m, h4.Ns s.heap.objs.size m) : Inv (cxComp X N scope cl pins s H fp) [] (compStart0 nt fr σ) H { s with heap := h4, toks := t' } := by
  have ck : ∀ {c : Addr} {v : Option Value}, s.heap.IsCell c v → h4.IsCell c v := fun ⟨o, e, d⟩ => ⟨o, k _ o e, d⟩
  refine ⟨comp_ok I cn hf ho, rfl, I.bare, Un.kept k, ?_, fun x c e => ?_, ?_, fun x c e => ?_, fun p hp => ?_, I.hok.kept k, ?_⟩
  · obtain ⟨m, hm⟩ := hns
    refine ⟨m, hm, fun i x v e1 e2 _ => ?_⟩
    have e2 : (compStart0 nt fr σ)[i]? = some (some v) := e2
    have e1 : N[i]? = some x := e1
    unfold compStart0 at e2
    by_cases hi : i < nt
    · rw [List.getElem?_append_left (by simpa using hi), List.getElem?_replicate, if_pos hi] at e2
      cases e2
    · obtain ⟨j, rfl⟩ : ∃ j, i = nt + j := ⟨i - nt, by omega⟩
      rw [List.getElem?_append_right (by simp), List.length_replicate, Nat.add_sub_cancel_left, List.getElem?_map] at e2
      cases hj : fr[j]? with
      | none => rw [hj] at e2; cases e2
      | some i' =>
        rw [hj] at e2
        have e2 : (σ[i']?).getD none = some v := Option.some.inj e2
        have e3 : σ[i']? = some (some v) := by
          cases q : σ[i']? with
          | none => rw [q] at e2; cases e2
          | some o => rw [q] at e2; rw [show o = some v from e2]
        obtain ⟨hN, ⟨c, hc⟩, hk, hk'⟩ := cn.free j i' x hj e1
        obtain ⟨m0, _, hl⟩ := I.loc
        obtain ⟨u, r, l⟩ := hl i' x v hN e3 (Vis_of_cell hk)
        refine ⟨u, r, .inr ⟨hk', c, hc, ?_⟩⟩
        rcases l with ⟨hl', _⟩ | ⟨_, c', hc', hcell⟩
        · rcases hk with z | z <;> (rw [hl'] at z; cases z)
        · have hcc := cn.cells x c hc
          rw [hc'] at hcc; cases hcc
          exact ck hcell
  · obtain ⟨v, hv⟩ := I.cell x c (cn.cells x c e)
    exact ⟨v, ck hv⟩
  · exact I.hok.fresh (Nat.le_refl _)
  · exact I.freeC x c (cn.cells x c e)
  · have hp : p ∈ (X.pn ++ pins) ++ [] := hp
    rw [List.append_nil] at hp
    obtain ⟨e, n, ne, nf, d⟩ := I.pin p hp
    exact ⟨k p.1 p.2 e, n, Nat.ne_of_lt (Heap.lt_size e), fun z => (List.mem_cons.mp (I.stkSub p.1 z)).elim ne nf, d⟩
  · show (compStart0 nt fr σ).length = N.length
    unfold compStart0
    rw [cn.len, List.length_append, List.length_replicate, List.length_map]
theorem comp_back {H' : Hp} {s1 s' : Shared} {h' : Heap} {σ' : St} (I : Inv X pins σ H s) (hsz : s.heap.objs.size ≤ s1.heap.objs.size) (hos : s1.os = s.os) {H1 : Hp} (hH : Un (frs X.stack) fp H H1 s.heap s1.heap)
    (hf : ∀ b ∈ fp, FpOk X pins H b)
    (J : Inv (cxComp X N scope cl pins s1 H1 fp) [] σ' H' s') (sb : Heap.SameBut s1.heap.objs.size s'.heap h') : Inv X pins σ H' { s' with heap := h' } := by
  have u : Un (frs X.stack) fp H H' s.heap s'.heap := hH.trans J.base
  have lt : ∀ b o, s.heap.get? b = some o → b ≠ s1.heap.objs.size := fun b o e => Nat.ne_of_lt (Nat.lt_of_lt_of_le (Heap.lt_size e) hsz)
  have kk : ∀ b o, b ≠ s1.heap.objs.size → s'.heap.get? b = some o → h'.get? b = some o := fun b o hb e => sb.extBut b o hb e
  have u' : Un (frs X.stack) fp H H' s.heap h' := ⟨fun b o e n hb hx => kk b o (lt b o e) (u.keep b o e n hb hx), fun b o e n hb hx => let ⟨sl, z⟩ := u.slot b o e n hb hx; ⟨sl, kk b _ (lt b o e) z⟩, u.free,
    fun b o e hx => let ⟨o', z⟩ := u.there b o e hx; ⟨o', kk b o' (lt b o e) z⟩, u.tups, u.frzs, u.tbls⟩
  have nC : H' s1.heap.objs.size = none := J.free
  refine I.call' (s' := { s' with heap := h' }) (ch := fp) (J.os.trans hos) u' (fun a o e => ?_) J.bare fun b hb => ⟨(hf b hb).2.2.2.1, (hf b hb).2.1, (hf b hb).2.2.2.2.1, (hf b hb).2.2.2.2.2⟩
  refine (J.hok a o e).stay (fun b v hb q => kk b v ?_ q) (fun _ q => q) fun _ _ q => q
  rcases hb with z | z
  · rintro rfl
    rw [← z, nC] at e; cases e
  · rintro rfl
    rw [nC] at z; cases z
end
def freeB (X : Cx) (N : List Str) (nt : Nat) (scope : Scope) : List Nat → Nat → Bool
  | [], _ => true
  | i :: r, j => (match N[nt + j]? with
    | some x => decide (X.N[i]? = some x) && decide (scope.names.lookup x = some .free) && (decide (X.env.kindOf x = some .cell) || decide (X.env.kindOf x = some .free))
    | none => false) && freeB X N nt scope r (j + 1)
theorem freeB_at {X : Cx} {N : List Str} {nt : Nat} {scope : Scope} : ∀ {fr : List Nat} {k : Nat}, freeB X N nt scope fr k = true → ∀ (j i : Nat) (x : Str), fr[j]? = some i → N[nt + (k + j)]? = some x →
    X.N[i]? = some x ∧ scope.names.lookup x = some .free ∧ (X.env.kindOf x = some .cell ∨ X.env.kindOf x = some .free)
  | [], _, _, j, i, x, e, _ => by simp at e
  | i0 :: r, k, h, j, i, x, e1, e2 => by
    unfold freeB at h
    rw [Bool.and_eq_true] at h
    obtain ⟨h1, h2⟩ := h
    cases j with
    | zero =>
      have e1 : i0 = i := by simpa using e1
      subst e1
      rw [Nat.add_zero] at e2
      rw [e2] at h1
      simp only [Bool.and_eq_true, Bool.or_eq_true, decide_eq_true_eq] at h1
      exact ⟨h1.1.1, h1.1.2, h1.2⟩
    | succ j =>
      exact freeB_at h2 j i x (by simpa using e1) (by rw [show nt + (k + 1 + j) = nt + (k + (j + 1)) by omega]; exact e2)
theorem lookup_relabel {env : Env} : ∀ {names : List (Str × NameKind)} {x : Str} {k' : NameKind},
    (names.map fun (n, k) => if (k == NameKind.free && env.scope.kind == .function && env.kindOf n == some .cell) then (n, NameKind.cell) else (n, k)).lookup x = some k' →
    ∃ k, names.lookup x = some k ∧ (k = k' ∨ (k = .free ∧ k' = .cell))
  | [], _, _, h => by simp at h
  | (n, k) :: r, x, k', h => by
    have h : List.lookup x ((if (k == NameKind.free && env.scope.kind == .function && env.kindOf n == some .cell) = true then (n, NameKind.cell) else (n, k)) :: r.map _) = some k' := h
    cases hx : x == n with
    | true =>
      by_cases hc : (k == NameKind.free && env.scope.kind == .function && env.kindOf n == some .cell) = true
      · rw [if_pos hc] at h
        simp only [List.lookup_cons, hx] at h
        have hk : k = .free := by
          simp only [Bool.and_eq_true, beq_iff_eq] at hc
          exact hc.1.1
        exact ⟨k, by simp [List.lookup_cons, hx], .inr ⟨hk, (Option.some.inj h).symm⟩⟩
      · rw [if_neg hc] at h
        simp only [List.lookup_cons, hx] at h
        exact ⟨k, by simp [List.lookup_cons, hx], .inl (Option.some.inj h)⟩
    | false =>
      have h2 : List.lookup x (r.map fun (n, k) => if (k == NameKind.free && env.scope.kind == .function && env.kindOf n == some .cell) then (n, NameKind.cell) else (n, k)) = some k' := by
        by_cases hc : (k == NameKind.free && env.scope.kind == .function && env.kindOf n == some .cell) = true
        · rw [if_pos hc] at h; simpa only [List.lookup_cons, hx] using h
        · rw [if_neg hc] at h; simpa only [List.lookup_cons, hx] using h
      obtain ⟨k2, e2, o2⟩ := lookup_relabel h2
      exact ⟨k2, by simp only [List.lookup_cons, hx]; exact e2, o2⟩
theorem relabel_free {env : Env} : ∀ {names : List (Str × NameKind)} {x : Str}, names.lookup x = some .free →
    (names.map fun (n, k) => if (k == NameKind.free && env.scope.kind == .function && env.kindOf n == some .cell) then (n, NameKind.cell) else (n, k)).lookup x = some .cell ∨
    (names.map fun (n, k) => if (k == NameKind.free && env.scope.kind == .function && env.kindOf n == some .cell) then (n, NameKind.cell) else (n, k)).lookup x = some .free
  | [], _, h => by simp at h
  | (n, k) :: r, x, h => by
    show List.lookup x ((if (k == NameKind.free && env.scope.kind == .function && env.kindOf n == some .cell) = true then (n, NameKind.cell) else (n, k)) :: r.map _) = some .cell ∨ List.lookup x ((if (k == NameKind.free && env.scope.kind == .function && env.kindOf n == some .cell) = true then (n, NameKind.cell) else (n, k)) :: r.map _) = some .free
    cases hx : x == n with
    | true =>
      simp only [List.lookup_cons, hx] at h
      cases h
      by_cases hc : (NameKind.free == NameKind.free && env.scope.kind == .function && env.kindOf n == some .cell) = true
      · rw [if_pos hc]; left; simp [List.lookup_cons, hx]
      · rw [if_neg hc]; right; simp [List.lookup_cons, hx]
    | false =>
      simp only [List.lookup_cons, hx] at h
      have ih := relabel_free (env := env) h
      by_cases hc : (k == NameKind.free && env.scope.kind == .function && env.kindOf n == some .cell) = true
      · rw [if_pos hc]; simpa only [List.lookup_cons, hx] using ih
      · rw [if_neg hc]; simpa only [List.lookup_cons, hx] using ih
theorem closOf_has {env : Env} : ∀ {names : List (Str × NameKind)} {cl : List (Str × Addr)}, closOf env names = some cl → ∀ x, names.lookup x = some .free → ∃ c, cl.lookup x = some c
  | [], _, _, x, e => by simp at e
  | (n, k) :: r, cl, h, x, e => by
    unfold closOf at h
    by_cases hk : k = .free
    · rw [if_pos hk] at h
      cases hc : env.cells.lookup n with
      | none => rw [hc] at h; cases h
      | some c' =>
        rw [hc] at h
        have h : (closOf env r).map (fun cl => cl ++ [(n, c')]) = some cl := h
        cases hr : closOf env r with
        | none => rw [hr] at h; cases h
        | some cl' =>
          rw [hr] at h
          have h : cl' ++ [(n, c')] = cl := Option.some.inj h
          subst h
          rw [List.lookup_append]
          cases h2 : cl'.lookup x with
          | some c2 => exact ⟨c2, by simp⟩
          | none =>
            cases hx : x == n with
            | true => exact ⟨c', by simp [List.lookup_cons, hx]⟩
            | false =>
              simp only [List.lookup_cons, hx] at e
              obtain ⟨c3, e3⟩ := closOf_has hr x e
              rw [h2] at e3; cases e3
    · rw [if_neg hk] at h
      cases hx : x == n with
      | true =>
        simp only [List.lookup_cons, hx] at e
        exact absurd (Option.some.inj e) hk
      | false =>
        simp only [List.lookup_cons, hx] at e
        exact closOf_has h x e
theorem CompNames.of {X : Cx} {N : List Str} {nt : Nat} {fr : List Nat} {scope : Scope} {cl : List (Str × Addr)} (hcl : closOf X.env scope.names = some cl) (hlen : N.length = nt + fr.length) (hB : freeB X N nt scope fr 0 = true)
    (hcell : ∀ y ∈ scope.names, y.2 ≠ .cell) (hkind : scope.kind = .function) : CompNames X N nt fr scope cl where
  len := hlen
  free := fun j i x e1 e2 => by
    obtain ⟨h1, h2, h3⟩ := freeB_at hB j i x e1 (by rw [Nat.zero_add]; exact e2)
    exact ⟨h1, closOf_has hcl x h2, h3, relabel_free h2⟩
  cells := closOf_lookup hcl
  has := fun x hx => by
    have : scope.names.lookup x = some .free := by
      rcases hx with hx | hx
      · obtain ⟨k, e, o⟩ := lookup_relabel (names := scope.names) (env := X.env) hx
        rcases o with rfl | ⟨rfl, _⟩
        · exact absurd rfl (hcell _ (PySem.mem_of_lookup e))
        · exact e
      · obtain ⟨k, e, o⟩ := lookup_relabel (names := scope.names) (env := X.env) hx
        rcases o with rfl | ⟨rfl, _⟩
        · exact e
        · exact e
    exact closOf_has hcl x this
  kind := hkind
def PIf (X : Cx) (ifs : List Expr) (t : TT) : Prop :=
  ∀ (pins : List (Addr × Obj)) (s : Shared) (σ : St) (H : Hp) (Q : Bool → Hp → Prop), Inv X pins σ H s → t σ H Q →
    wpAny (model X.prog X.w) X.A (forIn ifs true fun c r => if r = true then do let ok ← isTrue c X.env (eval c X.env); pure (ForInStep.yield ok) else pure (ForInStep.yield r)) (TP X pins σ Q) X.xe s
def tTrue : TT := fun _ H Q => Q true H
theorem pif_nil {X : Cx} : PIf X [] tTrue := fun _ _ _ H _ I h => wpAny_pure ⟨H, I, h⟩
def CompGoal (J : It) (nt : Nat) (fr : List Nat) (g : TG) (c : TT) (te : TE) (σ : St) (H1 : Hp) (Q : VK) (acc : Addr) : Prop :=
  ∃ W : Nat → Nat → St → List V → Hp → Prop, (∃ m, W 0 m (compStart0 nt fr σ) [] (upd H1 acc (.lst []))) ∧ ∀ i m σ' ys H', W i m σ' ys H' → H' acc = some (.lst ys) ∧
    ((J.stop i H' ∧ Q (.ref acc) H') ∨ (J.go i H' ∧ ∀ x H2, J.yld i H' x H2 → g x σ' H2 fun σ2 H3 => c σ2 H3 fun b H4 => if b = true then
      te σ2 H4 fun y H5 => ys.length < sizeLine ∧ H5 acc = some (.lst ys) ∧ ∃ m', m' < m ∧ W (i + 1) m' σ2 (ys ++ [y]) (upd H5 acc (.lst (ys ++ [y])))
      else ∃ m', m' < m ∧ W (i + 1) m' σ2 ys H4))
def tComp (wi : TI) (nt : Nat) (fr : List Nat) (g : TG) (c : TT) (te : TE) : TE := fun σ H Q => wi σ H fun J H1 => ∀ acc, H1 acc = none → CompGoal J nt fr g c te σ H1 Q acc
section
variable {X : Cx} {target iter elt : Expr} {ifs : List Expr} {scope : Scope} {pos : Pos} {N : List Str} {nt : Nat} {fr : List Nat} {cl : List (Str × Addr)} {wi : TI} {g : TG} {c : TT} {te : TE}
theorem comp_fp {pins : List (Addr × Obj)} {σ : St} {H H1 : Hp} {s : Shared} {fp : List Addr} (I : Inv X pins σ H s) (cn : CompNames X N nt fr scope cl) (hf : ∀ b ∈ fp, FpOk X pins H b) (ho : ∀ b ∈ fp, b < s.heap.objs.size) {H' : Hp} (hn : ∀ b ∈ fp, H' b = none) :
    ∀ b ∈ fp, FpOk (cxComp X N scope cl pins s H1 fp) [] H' b := fun b hb =>
  ⟨hn b hb, Nat.ne_of_lt (ho b hb), fun z => (List.mem_cons.mp (I.stkSub b z)).elim (hf b hb).2.1 (hf b hb).2.2.1, .inl hb, fun x c e => (hf b hb).2.2.2.2.1 x c (cn.cells x c e), fun p hp => (hf b hb).2.2.2.2.2 p (by
    have hp : p ∈ (X.pn ++ pins) ++ [] := hp
    rw [List.append_nil] at hp
    exact hp)⟩
theorem comp_block {pins : List (Addr × Obj)} {σ : St} {s : Shared} {Q : VK} {itv : Value} {RR : Value → Addr → Result → Shared → Prop} {E : Value → Shared → Prop}
    (hc : X.calm = true) (cn : CompNames X N nt fr scope cl) (hcell : ∀ y ∈ scope.names, y.2 ≠ .cell)
    (hg : ∀ pins s H fp, PG (cxComp X N scope cl pins s H fp) target g) (hif : ∀ pins s H fp, PIf (cxComp X N scope cl pins s H fp) ifs c) (he : ∀ pins s H fp, PE (cxComp X N scope cl pins s H fp) elt te)
    (h : PIE X pins σ target (fun J H1 => ∀ acc, H1 acc = none → CompGoal J nt fr g c te σ H1 Q acc) itv s)
    (hRR : ∀ (acc C : Addr) (s' : Shared) (H' : Hp), (∃ m, s'.heap.Ns C m) → Inv X pins σ H' s' → FpOk X pins H' C → Q (.ref acc) H' → RR (.ref acc) C (.ok .next) s') :
    wpAny (model X.prog X.w) X.A (newList []) (fun acc s₃ => wpAny (model X.prog X.w) X.A (newFunctionEnv scope X.env.globals cl [] X.env.qual none .none (some X.env)) (fun cenv s₄ =>
      codeAny (model X.prog X.w) X.A (.compStart (.ListComp elt [⟨target, iter, ifs, 0⟩] scope pos) 0 itv acc { cenv with scope := relabel scope X.env }) (RR acc cenv.locals) s₄) E s₃) E s := by
  obtain ⟨it, fp, tn, J, H2, e, I2, T, st2, f2, R⟩ := h
  subst e
  have fo : ∀ b ∈ fp, b < s.heap.objs.size := fun b hb => let ⟨o, e, _⟩ := T.obj 0 _ st2 b hb; Heap.lt_size e
  refine wpAny_newObj_type (wpAny_newFunctionEnv hcell (by intro y hy; simp at hy) (fun h₁ hns₁ hsb₁ => ?_) cn.kind)
  dsimp only at hns₁ hsb₁ ⊢
  have ha : H2 s.heap.objs.size = none := I2.hok.fresh (Nat.le_refl _)
  have I3 : Inv X pins σ (upd H2 s.heap.objs.size (.lst [])) { s with heap := s.heap.push { cls := .type "list", data := .seq ([] : List Value).toArray } } :=
    I2.laid (t' := s.toks) (fun b u e => Heap.get?_push_of_some _ e) (Nat.le_refl _) ⟨Nat.zero_le _, [], 0, .nil, Heap.get?_push_size _ rfl⟩
  generalize hs3 : ({ s with heap := s.heap.push { cls := .type "list", data := .seq ([] : List Value).toArray } } : Shared) = s3 at I3
  have hh3 : s3.heap = s.heap.push { cls := .type "list", data := .seq ([] : List Value).toArray } := by rw [← hs3]
  have hsz : s3.heap.objs.size = s.heap.objs.size + 1 := by rw [hh3, Heap.size_push]
  have fne : ∀ b ∈ fp, b ≠ s.heap.objs.size := fun b hb => Nat.ne_of_lt (fo b hb)
  have f3 : ∀ b ∈ fp, FpOk X pins (upd H2 s.heap.objs.size (.lst [])) b := fun b hb => ⟨by rw [upd_ne (fne b hb)]; exact (f2 b hb).1, (f2 b hb).2⟩
  have fo3 : ∀ b ∈ fp, b < s3.heap.objs.size := fun b hb => by rw [hsz]; exact Nat.lt_succ_of_lt (fo b hb)
  have k3 : ∀ b o, s3.heap.get? b = some o → h₁.get? b = some o := fun b o e => hsb₁.extBut b o (by rw [← hh3]; exact Nat.ne_of_lt (Heap.lt_size e)) (by rw [← hh3]; exact Heap.get?_push_of_some _ e)
  have hns : ∃ m, h₁.Ns s3.heap.objs.size m := ⟨_, by rw [hh3]; exact hns₁⟩
  have I4 : Inv (cxComp X N scope cl pins s3 (upd H2 s.heap.objs.size (.lst [])) fp) [] (compStart0 nt fr σ) (upd H2 s.heap.objs.size (.lst [])) { s3 with heap := h₁, toks := s3.toks + ([] : List (Str × Value)).length } := comp_inv I3 cn f3 fo3 k3 hns
  have st4 : tn 0 h₁ := T.keep 0 _ _ st2 fun b hb o e => k3 b o (by rw [hh3]; exact Heap.get?_push_of_some _ e)
  obtain ⟨W, ⟨m0, w0⟩, turn⟩ := R s.heap.objs.size ha
  have stat : ∀ {H' : Hp}, (∀ b ∈ fp, H' b = none) → ∀ b ∈ fp, FpOk (cxComp X N scope cl pins s3 (upd H2 s.heap.objs.size (.lst [])) fp) [] H' b := fun hn => comp_fp I3 cn f3 fo3 hn
  have hH : Un (frs X.stack) fp H2 (upd H2 s.heap.objs.size (.lst [])) s.heap s3.heap := by
    rw [hh3]
    exact Un.laid (fun b u e => Heap.get?_push_of_some _ e) (Nat.le_refl _) ha
  have back : ∀ {σ' : St} {H' : Hp} {s' : Shared} {h' : Heap}, Inv (cxComp X N scope cl pins s3 (upd H2 s.heap.objs.size (.lst [])) fp) [] σ' H' s' → Heap.SameBut s3.heap.objs.size s'.heap h' → Inv X pins σ H' { s' with heap := h' } := fun J' sb =>
    comp_back I2 (by rw [hsz]; exact Nat.le_succ _) (by rw [← hs3]) hH f2 J' sb
  have loop : codeAny (model X.prog X.w) X.A (.compLoop (.ListComp elt [⟨target, iter, ifs, 0⟩] scope pos) 0 (.ref it) (.ref s.heap.objs.size) (compEnvC scope cl s3.heap.objs.size X.env)) (RR (.ref s.heap.objs.size) s3.heap.objs.size)
      { s3 with heap := h₁, toks := s3.toks + ([] : List (Str × Value)).length } := by
    refine comp_loop (fun n s' => ∃ i σ' ys H', Inv (cxComp X N scope cl pins s3 (upd H2 s.heap.objs.size (.lst [])) fp) [] σ' H' s' ∧ tn i s'.heap ∧ (∀ b ∈ fp, H' b = none) ∧ W i n σ' ys H') ?_ m0
      ⟨0, _, [], _, I4, st4, fun b hb => (f3 b hb).1, w0⟩
    rintro n s5 ⟨i, σ5, ys, H5, I5, st5, fr5, w5⟩
    obtain ⟨hacc, step⟩ := turn i n σ5 ys H5 w5
    rcases step with ⟨stop, q⟩ | ⟨go, step⟩
    · refine thn (T.done (cxComp X N scope cl pins s3 (upd H2 s.heap.objs.size (.lst [])) fp) rfl rfl rfl hc i [] s5 σ5 H5 (fun _ _ => False) I5 (stat fr5) st5 stop) fun r s6 ⟨hr, I6⟩ => ?_
      subst hr
      obtain ⟨m, hm, _⟩ := I6.loc
      exact hRR _ _ s6 H5 ⟨m, hm⟩ (back I6 (Heap.SameBut.refl _ _)) (I2.fpOk (by rw [hsz]; exact Nat.le_succ _) I6.free) q
    · refine thn (T.item (cxComp X N scope cl pins s3 (upd H2 s.heap.objs.size (.lst [])) fp) rfl rfl rfl hc i [] s5 σ5 H5 (fun _ _ => False) I5 (stat fr5) st5 go) fun r s6 ⟨u, hr, h6⟩ => ?_
      subst hr
      refine thn h6 fun _ s7 ⟨x, H7, I7, r7, y7, st7, fr7⟩ => ?_
      have I7' := I7.pinned (stat fr7) (T.obj _ _ st7)
      refine thn (hg pins s3 _ fp _ s7 σ5 H7 x u _ I7' r7 (step x H7 y7)) fun _ s8 ⟨σ8, H8, I8, q8⟩ => ?_
      have keepT : ∀ {σ' : St} {H' : Hp} {s' : Shared}, Inv (cxComp X N scope cl pins s3 (upd H2 s.heap.objs.size (.lst [])) fp) ([] ++ pinsAt fp s7.heap) σ' H' s' → tn (i + 1) s'.heap ∧ ∀ b ∈ fp, H' b = none := fun {σ' H' s'} I' =>
        ⟨T.keep _ _ _ st7 fun b hb o e => (I'.pin (b, o) (List.mem_append_right _ (List.mem_append_right _ (mem_pinsAt hb e)))).1, fun b hb => by
          obtain ⟨o, e, d⟩ := T.obj _ _ st7 b hb
          exact (I'.pin (b, o) (List.mem_append_right _ (List.mem_append_right _ (mem_pinsAt hb e)))).2.1⟩
      refine thn (hif pins s3 _ fp _ s8 σ8 H8 _ I8 q8) fun ok s9 ⟨H9, I9, q9⟩ => ?_
      cases ok with
      | false =>
        have q9 : ∃ m', m' < n ∧ W (i + 1) m' σ8 ys H9 := q9
        obtain ⟨m', hm, w9⟩ := q9
        exact ⟨m', hm, i + 1, σ8, ys, H9, I9.unpinned, (keepT I9).1, (keepT I9).2, w9⟩
      | true =>
        rw [if_pos rfl]
        refine thn (he pins s3 _ fp _ s9 σ8 H9 _ I9 q9) fun z s10 ⟨y, H10, I10, r10, hz, ha10, m', hm, w10⟩ => ?_
        refine thn (mt_append _ s10 σ8 H10 (.ref s.heap.objs.size) [y] (.ref s.heap.objs.size) [z] (fun v H' => v = .non ∧ H' = upd H10 s.heap.objs.size (.lst (ys ++ [y]))) I10 rfl (.cons r10 .nil) ⟨_, ys, y, rfl, rfl, ha10, hz, rfl, rfl⟩) fun v s11 ⟨_, H11, I11, _, _, e11⟩ => ?_
        subst e11
        exact ⟨m', hm, i + 1, σ8, ys ++ [y], _, I11.unpinned, (keepT I11).1, (keepT I11).2, w10⟩
  have fin : codeAny (model X.prog X.w) X.A (.compStart (.ListComp elt [⟨target, iter, ifs, 0⟩] scope pos) 0 (.ref it) (.ref s.heap.objs.size) (compEnvC scope cl s3.heap.objs.size X.env)) (RR (.ref s.heap.objs.size) s3.heap.objs.size)
      { s3 with heap := h₁, toks := s3.toks + ([] : List (Str × Value)).length } :=
    codeAny_compStart_list loop (T.self _ 0 _ _ _ st4 loop)
  rw [← hs3] at fin
  exact fin
theorem pe_comp (hi : PI X target iter wi) (hg : ∀ pins s H fp, PG (cxComp X N scope cl pins s H fp) target g) (hif : ∀ pins s H fp, PIf (cxComp X N scope cl pins s H fp) ifs c) (he : ∀ pins s H fp, PE (cxComp X N scope cl pins s H fp) elt te)
    (hc : X.calm = true := by rfl) (hcl : closOf X.env scope.names = some cl := by rfl) (hlen : N.length = nt + fr.length := by rfl) (hB : freeB X N nt scope fr 0 = true := by rfl)
    (hcell : ∀ y ∈ scope.names, y.2 ≠ .cell := by decide +kernel) (hkind : scope.kind = .function := by rfl) (hnames : ∀ y ∈ scope.names, y.2 = .local → scope.names.lookup y.1 = some .local := by decide +kernel)
    (hs : ∀ x, foldedSetIterable iter X.env x = pure x := by intro _; rfl) : PE X (.ListComp elt [⟨target, iter, ifs, 0⟩] scope pos) (tComp wi nt fr g c te) := by
  intro pins s σ H Q I h
  rw [eval_ListComp]
  refine wpAny_comprehension_free (use := none) rfl hs (closureFor_of hcl) hkind hnames (thn (hi pins s σ H _ I h) fun xv s1 h1 => thn h1 fun itv s2 h2 => ?_)
  exact comp_block hc (CompNames.of hcl hlen hB hcell hkind) hcell hg hif he h2 fun acc C s' H' ⟨m, hm⟩ hI hF hq => ⟨m, hm, fun h' sb => ⟨.ref acc, H', hI.turned (t' := s'.toks) (fun b o hb e => sb.extBut b o hb e) hF.1 hF.2.1 hF.2.2.2.1 hF.2.2.2.2.1 hF.2.2.2.2.2, rfl, hq⟩⟩
end
structure ItemsOf (J : It) (xs : List V) (L : Hp → Prop) : Prop where
  go : ∀ i H, L H → i < xs.length → J.go i H
  yld : ∀ i H x H', L H → i < xs.length → J.yld i H x H' → H' = H ∧ xs[i]? = some x
  stop : ∀ H, L H → J.stop xs.length H
theorem items_list {K : PySem.W.Frag} {a : Addr} {xs : List V} : ItemsOf (Itl K a) xs (fun H => SqL K H a xs) :=
  ⟨fun i H h hi => ⟨xs, xs[i], h, by simp [hi]⟩, fun i H x H' h hi y => ⟨y.1, y.2 xs h⟩, fun H h => ⟨xs, h, Nat.le_refl _⟩⟩
theorem items_tup {K : PySem.W.Frag} {a : Addr} {xs : List V} : ItemsOf (Itt K a) xs (fun H => SqT K H a xs) :=
  ⟨fun i H h hi => ⟨xs, xs[i], h, by simp [hi]⟩, fun i H x H' h hi y => ⟨y.1, y.2 xs h⟩, fun H h => ⟨xs, h, Nat.le_refl _⟩⟩
def rangeV (lo : Int) (n : Nat) : List V := (List.range n).map fun i : Nat => V.int (lo + (i : Int))
theorem items_range {lo : Int} {n : Nat} : ItemsOf (Itr lo n) (rangeV lo n) (fun _ => True) :=
  ⟨fun i H _ hi => by show i < n; simpa [rangeV] using hi, fun i H x H' _ hi y => ⟨y.1, by
    have hi : i < n := by simpa [rangeV] using hi
    rw [y.2]; simp [rangeV, hi]⟩, fun H _ => by show n ≤ _; simp [rangeV]⟩
def signsV (z : Str) : List V := z.cps.toList.map fun c => V.str ⟨#[c]⟩
theorem items_str {z : Str} : ItemsOf (Its z) (signsV z) (fun _ => True) :=
  ⟨fun i H _ hi => by show i < z.cps.size; simpa [signsV] using hi, fun i H x H' _ hi y => ⟨y.1, by
    obtain ⟨_, c, e, rfl⟩ := y
    have hi : i < z.cps.size := by simpa [signsV] using hi
    have e : z.cps[i] = c := by simpa [hi] using e
    simp [signsV, hi, e]⟩, fun H _ => by show z.cps.size ≤ _; simp [signsV]⟩
def CompW (xs : List V) (nt : Nat) (fvs : St) (Pv : Nat → List V → Hp → Prop) : Nat → Nat → St → List V → Hp → Prop := fun i m σ' ys H' =>
  m = xs.length - i ∧ i ≤ xs.length ∧ Pv i ys H' ∧ ∃ tv : List (Option V), tv.length = nt ∧ σ' = tv ++ fvs
theorem CompW.next {xs : List V} {nt : Nat} {fvs : St} {Pv : Nat → List V → Hp → Prop} {i : Nat} {tv : List (Option V)} {ys : List V} {H : Hp} (hi : i < xs.length) (p : Pv (i + 1) ys H) (ht : tv.length = nt) :
    ∃ m', m' < xs.length - i ∧ CompW xs nt fvs Pv (i + 1) m' (tv ++ fvs) ys H := ⟨xs.length - (i + 1), by omega, rfl, hi, p, tv, ht, rfl⟩
theorem comp_by {J : It} {xs : List V} {L : Hp → Prop} {σ : St} {H1 : Hp} {nt : Nat} {fr : List Nat} {g : TG} {c : TT} {te : TE} {Q : VK} {acc : Addr} (it : ItemsOf J xs L) (Pv : Nat → List V → Hp → Prop)
    (h0 : Pv 0 [] (upd H1 acc (.lst []))) (hL : ∀ i ys H', i ≤ xs.length → Pv i ys H' → L H' ∧ H' acc = some (.lst ys))
    (turn : ∀ i x tv ys H', xs[i]? = some x → i < xs.length → Pv i ys H' → tv.length = nt → g x (tv ++ fr.map fun i => (σ[i]?).getD none) H' fun σ2 H3 =>
      c σ2 H3 fun b H4 => if b = true then te σ2 H4 fun y H5 => ys.length < sizeLine ∧ H5 acc = some (.lst ys) ∧ ∃ m', m' < xs.length - i ∧ CompW xs nt (fr.map fun i => (σ[i]?).getD none) Pv (i + 1) m' σ2 (ys ++ [y]) (upd H5 acc (.lst (ys ++ [y])))
        else ∃ m', m' < xs.length - i ∧ CompW xs nt (fr.map fun i => (σ[i]?).getD none) Pv (i + 1) m' σ2 ys H4)
    (hd : ∀ ys H', Pv xs.length ys H' → Q (.ref acc) H') : CompGoal J nt fr g c te σ H1 Q acc := by
  refine ⟨CompW xs nt (fr.map fun i => (σ[i]?).getD none) Pv, ⟨xs.length, by simp, Nat.zero_le _, h0, List.replicate nt none, by simp, rfl⟩, ?_⟩
  rintro i m σ' ys H' ⟨rfl, hi, p, tv, htv, rfl⟩
  obtain ⟨l, ha⟩ := hL i ys H' hi p
  refine ⟨ha, ?_⟩
  by_cases hlt : i < xs.length
  · refine .inr ⟨it.go i H' l hlt, fun x H2 y => ?_⟩
    obtain ⟨rfl, hx⟩ := it.yld i H' x H2 l hlt y
    exact turn i x tv ys H2 hx hlt p htv
  · have e : i = xs.length := by omega
    subst e
    exact .inl ⟨it.stop H' l, hd ys H' p⟩
end L2
namespace L2
open PySem PySem.Spec PyProof.Rows PySem.SeqAt
inductive Dt where
  | non | bl (b : Bool) | int (i : Int) | str (x : Str) | lst (xs : List Dt) | tup (xs : List Dt)
mutual
def Rep (K : PySem.W.Frag) (H : Hp) : Dt → V → Prop
  | .non, v => v = .non
  | .bl b, v => v = .bl b
  | .int i, v => v = .int i
  | .str x, v => v = .str x
  | .lst ds, v => ∃ p xs, v = .ref p ∧ SqL K H p xs ∧ Reps K H ds xs
  | .tup ds, v => ∃ p xs, v = .ref p ∧ SqT K H p xs ∧ Reps K H ds xs
def Reps (K : PySem.W.Frag) (H : Hp) : List Dt → List V → Prop
  | [], xs => xs = []
  | d :: ds, xs => ∃ x r, xs = x :: r ∧ Rep K H d x ∧ Reps K H ds r
end
mutual
def eqDt : Dt → Dt → Bool
  | .non, .non => true
  | .bl a, .bl b => a == b
  | .bl a, .int b => (if a then 1 else 0) == b
  | .int a, .bl b => a == (if b then 1 else 0)
  | .int a, .int b => a == b
  | .str a, .str b => a == b
  | .lst xs, .lst ys => eqDts xs ys
  | .tup xs, .tup ys => eqDts xs ys
  | _, _ => false
def eqDts : List Dt → List Dt → Bool
  | [], [] => true
  | x :: xs, y :: ys => eqDt x y && eqDts xs ys
  | _, _ => false
end
mutual
def depD : Dt → Nat
  | .lst xs => depDs xs + 1
  | .tup xs => depDs xs + 1
  | _ => 0
def depDs : List Dt → Nat
  | [] => 0
  | x :: xs => max (depD x) (depDs xs)
end
theorem Reps.length {K : PySem.W.Frag} {H : Hp} : ∀ {ds : List Dt} {xs : List V}, Reps K H ds xs → ds.length = xs.length
  | [], xs, h => by rw [show xs = [] from by simpa [Reps] using h]; rfl
  | d :: ds, xs, h => by
    obtain ⟨x, r, rfl, _, h2⟩ : ∃ x r, xs = x :: r ∧ Rep K H d x ∧ Reps K H ds r := by simpa [Reps] using h
    simp [Reps.length h2]
theorem Reps.get {K : PySem.W.Frag} {H : Hp} : ∀ {ds : List Dt} {xs : List V} {j : Nat} {d : Dt}, Reps K H ds xs → ds[j]? = some d → ∃ x, xs[j]? = some x ∧ Rep K H d x
  | [], _, _, _, _, e => by simp at e
  | d0 :: ds, xs, j, d, h, e => by
    obtain ⟨x, r, rfl, h1, h2⟩ : ∃ x r, xs = x :: r ∧ Rep K H d0 x ∧ Reps K H ds r := by simpa [Reps] using h
    cases j with
    | zero =>
      have e : d0 = d := by simpa using e
      subst e
      exact ⟨x, rfl, h1⟩
    | succ j =>
      obtain ⟨y, e1, e2⟩ := Reps.get (j := j) h2 (by simpa using e)
      exact ⟨y, by simpa using e1, e2⟩
theorem depDs_get : ∀ {ds : List Dt} {j : Nat} {d : Dt}, ds[j]? = some d → depD d ≤ depDs ds
  | [], _, _, e => by simp at e
  | d0 :: ds, j, d, e => by
    cases j with
    | zero =>
      have e : d0 = d := by simpa using e
      subst e
      simp only [depDs]; omega
    | succ j =>
      have := depDs_get (ds := ds) (j := j) (d := d) (by simpa using e)
      simp only [depDs]; omega
theorem eqDts_all : ∀ (ds es : List Dt), ds.length = es.length → ((List.range ds.length).all fun j => eqDt (ds.getD j .non) (es.getD j .non)) = eqDts ds es
  | [], [], _ => rfl
  | [], _ :: _, h => by simp at h
  | _ :: _, [], h => by simp at h
  | d :: ds, e :: es, h => by
    have h : ds.length = es.length := by simpa using h
    rw [List.length_cons, List.range_succ_eq_map, List.all_cons, List.all_map]
    have := eqDts_all ds es h
    simp only [eqDts]
    rw [← this]
    rfl
theorem eqDts_length : ∀ (ds es : List Dt), ds.length ≠ es.length → eqDts ds es = false
  | [], [], h => by simp at h
  | [], _ :: _, _ => rfl
  | _ :: _, [], _ => rfl
  | d :: ds, e :: es, h => by
    have h : ds.length ≠ es.length := fun z => h (by simp [z])
    simp only [eqDts, eqDts_length ds es h, Bool.and_false]
mutual
theorem eqDt_refl : ∀ d : Dt, eqDt d d = true
  | .non => rfl
  | .bl b => by simp [eqDt]
  | .int i => by simp [eqDt]
  | .str x => by simp [eqDt]
  | .lst xs => by simp only [eqDt]; exact eqDts_refl xs
  | .tup xs => by simp only [eqDt]; exact eqDts_refl xs
theorem eqDts_refl : ∀ ds : List Dt, eqDts ds ds = true
  | [] => rfl
  | d :: ds => by simp only [eqDts, eqDt_refl d, eqDts_refl ds, Bool.and_true]
end
section
variable {X : Cx} {pins : List (Addr × Obj)} {σ : St} {H : Hp} {s : Shared}
theorem lst_not_tup {a : Addr} {xs ys : List V} (I : Inv X pins σ H s) (h : SqL X.K H a xs) (h' : SqT X.K H a ys) : False := by
  obtain ⟨its, _, pl, _⟩ := I.list h
  obtain ⟨its', _, pt, _⟩ := I.tuple h'
  obtain ⟨o, n, e, c, _, _⟩ := pl
  obtain ⟨o', e', c', _⟩ := pt
  rw [e] at e'; cases e'
  rw [c] at c'
  exact absurd c' (by decide)
mutual
theorem rep_inj (I : Inv X pins σ H s) : ∀ (d d' : Dt) (v : V), Rep X.K H d v → Rep X.K H d' v → d = d'
  | .non, d', v, h, h' => by
    have h : v = .non := by simpa [Rep] using h
    subst h
    cases d' <;> simp [Rep] at h' <;> rfl
  | .bl b, d', v, h, h' => by
    have h : v = .bl b := by simpa [Rep] using h
    subst h
    cases d' <;> simp [Rep] at h'
    rw [h']
  | .int b, d', v, h, h' => by
    have h : v = .int b := by simpa [Rep] using h
    subst h
    cases d' <;> simp [Rep] at h'
    rw [h']
  | .str b, d', v, h, h' => by
    have h : v = .str b := by simpa [Rep] using h
    subst h
    cases d' <;> simp [Rep] at h'
    rw [h']
  | .lst ds, d', v, h, h' => by
    obtain ⟨p, xs, rfl, hq, hr⟩ : ∃ p xs, v = .ref p ∧ SqL X.K H p xs ∧ Reps X.K H ds xs := by simpa only [Rep] using h
    cases d' with
    | lst es =>
      obtain ⟨p', ys, e, hq', hr'⟩ : ∃ p' ys, V.ref p = .ref p' ∧ SqL X.K H p' ys ∧ Reps X.K H es ys := by simpa only [Rep] using h'
      cases e
      rw [I.list_inj hq' hq] at hr'
      rw [reps_inj I ds es xs hr hr']
    | tup es =>
      obtain ⟨p', ys, e, hq', hr'⟩ : ∃ p' ys, V.ref p = .ref p' ∧ SqT X.K H p' ys ∧ Reps X.K H es ys := by simpa only [Rep] using h'
      cases e
      exact (lst_not_tup I hq hq').elim
    | _ => simp [Rep] at h'
  | .tup ds, d', v, h, h' => by
    obtain ⟨p, xs, rfl, hq, hr⟩ : ∃ p xs, v = .ref p ∧ SqT X.K H p xs ∧ Reps X.K H ds xs := by simpa only [Rep] using h
    cases d' with
    | tup es =>
      obtain ⟨p', ys, e, hq', hr'⟩ : ∃ p' ys, V.ref p = .ref p' ∧ SqT X.K H p' ys ∧ Reps X.K H es ys := by simpa only [Rep] using h'
      cases e
      rw [I.tuple_inj hq' hq] at hr'
      rw [reps_inj I ds es xs hr hr']
    | lst es =>
      obtain ⟨p', ys, e, hq', hr'⟩ : ∃ p' ys, V.ref p = .ref p' ∧ SqL X.K H p' ys ∧ Reps X.K H es ys := by simpa only [Rep] using h'
      cases e
      exact (lst_not_tup I hq' hq).elim
    | _ => simp [Rep] at h'
theorem reps_inj (I : Inv X pins σ H s) : ∀ (ds es : List Dt) (xs : List V), Reps X.K H ds xs → Reps X.K H es xs → ds = es
  | [], es, xs, h, h' => by
    have h : xs = [] := by simpa [Reps] using h
    subst h
    cases es with
    | nil => rfl
    | cons e es => simp [Reps] at h'
  | d :: ds, es, xs, h, h' => by
    obtain ⟨x, r, rfl, h1, h2⟩ : ∃ x r, xs = x :: r ∧ Rep X.K H d x ∧ Reps X.K H ds r := by simpa only [Reps] using h
    cases es with
    | nil => simp [Reps] at h'
    | cons e es =>
      obtain ⟨x', r', e', h1', h2'⟩ : ∃ x' r', x :: r = x' :: r' ∧ Rep X.K H e x' ∧ Reps X.K H es r' := by simpa only [Reps] using h'
      cases e'
      rw [rep_inj I d e x h1 h1', reps_inj I ds es r h2 h2']
end
structure Eq3 (A : Around) (s : Shared) (u v : Value) (b : Bool) : Prop where
  eq : EqAt A s u v b
  rc : RcAt A s u v b
  ne : RcNeAt A s u v (!b)
theorem items_eq (I : Inv X pins σ H s) {n : Nat} {A : Around} (ih : ∀ (d d' : Dt) (x y : V) (u v : Value), depD d ≤ n → Rep X.K H d x → Rep X.K H d' y → RelV x u → RelV y v → Eq3 A.in1 s u v (eqDt d d'))
    {ds es : List Dt} {xs ys : List V} {us vs : List Value} (hd : depDs ds ≤ n) (hx : Reps X.K H ds xs) (hy : Reps X.K H es ys) (ru : Vals xs us) (rv : Vals ys vs) :
    ∀ j (h1 : j < us.toArray.size) (h2 : j < vs.toArray.size), EqAt A.in1 s us.toArray[j] vs.toArray[j] (eqDt (ds.getD j .non) (es.getD j .non)) := by
  intro j h1 h2
  have l1 : j < ds.length := by rw [hx.length, ru.length]; simpa using h1
  have l2 : j < es.length := by rw [hy.length, rv.length]; simpa using h2
  have e1 : ds[j]? = some ds[j] := by simp [l1]
  have e2 : es[j]? = some es[j] := by simp [l2]
  obtain ⟨x, ex, rx⟩ := hx.get e1
  obtain ⟨y, ey, ry⟩ := hy.get e2
  obtain ⟨u, eu, qu⟩ := ru.get ex
  obtain ⟨v, ev, qv⟩ := rv.get ey
  have h1' : j < us.length := by simpa using h1
  have h2' : j < vs.length := by simpa using h2
  have z1 : us.toArray[j] = u := by
    have : us[j]? = some us[j] := by simp [h1']
    rw [this] at eu
    simpa using eu
  have z2 : vs.toArray[j] = v := by
    have : vs[j]? = some vs[j] := by simp [h2']
    rw [this] at ev
    simpa using ev
  rw [z1, z2]
  have g1 : ds.getD j .non = ds[j] := by simp [List.getD, l1]
  have g2 : es.getD j .non = es[j] := by simp [List.getD, l2]
  rw [g1, g2]
  exact (ih _ _ x y u v (Nat.le_trans (depDs_get e1) hd) rx ry qu qv).eq
theorem eq3_lists (I : Inv X pins σ H s) {n : Nat} {A : Around} (hu : A.units < cLine) (ih : ∀ (d d' : Dt) (x y : V) (u v : Value), depD d ≤ n → Rep X.K H d x → Rep X.K H d' y → RelV x u → RelV y v → Eq3 A.in1 s u v (eqDt d d'))
    {ds es : List Dt} {p q : Addr} (hd : depDs ds ≤ n) (hp : Rep X.K H (.lst ds) (.ref p)) (hq : Rep X.K H (.lst es) (.ref q)) : Eq3 A s (.ref p) (.ref q) (eqDts ds es) := by
  obtain ⟨p', xs, e, lx, hx⟩ : ∃ p' xs, V.ref p = .ref p' ∧ SqL X.K H p' xs ∧ Reps X.K H ds xs := by simpa only [Rep] using hp
  cases e
  obtain ⟨q', ys, e, ly, hy⟩ : ∃ q' ys, V.ref q = .ref q' ∧ SqL X.K H q' ys ∧ Reps X.K H es ys := by simpa only [Rep] using hq
  cases e
  obtain ⟨us, ru, pu, _⟩ := I.list lx
  obtain ⟨vs, rv, pv', _⟩ := I.list ly
  have both : RcAt A s (.ref p) (.ref q) (eqDts ds es) ∧ RcNeAt A s (.ref p) (.ref q) (!eqDts ds es) := by
    by_cases hl : ds.length = es.length
    · have hsz : us.toArray.size = vs.toArray.size := by simp [← ru.length, ← rv.length, ← hx.length, ← hy.length, hl]
      have hz : us.toArray.size = ds.length := by simp [← ru.length, ← hx.length]
      have a := RcAt.lists pu.isList pv'.isList hsz hu (items_eq I ih hd hx hy ru rv)
      have b := RcNeAt.lists pu.isList pv'.isList hsz hu (items_eq I ih hd hx hy ru rv)
      rw [hz, eqDts_all ds es hl] at a b
      exact ⟨a, b⟩
    · have hsz : (us.toArray.size != vs.toArray.size) = true := by simp [← ru.length, ← rv.length, ← hx.length, ← hy.length, hl]
      rw [eqDts_length ds es hl]
      exact ⟨RcAt.lists_lengths pu.isList pv'.isList hsz hu, RcNeAt.lists_lengths pu.isList pv'.isList hsz hu⟩
  refine ⟨?_, both.1, both.2⟩
  by_cases hpq : p = q
  · subst hpq
    have : ds = es := by
      rw [I.list_inj ly lx] at hy
      exact reps_inj I ds es xs hx hy
    subst this
    rw [eqDts_refl]
    exact EqAt.same _
  · exact EqAt.of_refs hpq both.1
theorem eq3_tups (I : Inv X pins σ H s) {n : Nat} {A : Around} (hu : A.units < cLine) (ih : ∀ (d d' : Dt) (x y : V) (u v : Value), depD d ≤ n → Rep X.K H d x → Rep X.K H d' y → RelV x u → RelV y v → Eq3 A.in1 s u v (eqDt d d'))
    {ds es : List Dt} {p q : Addr} (hd : depDs ds ≤ n) (hp : Rep X.K H (.tup ds) (.ref p)) (hq : Rep X.K H (.tup es) (.ref q)) : Eq3 A s (.ref p) (.ref q) (eqDts ds es) := by
  obtain ⟨p', xs, e, lx, hx⟩ : ∃ p' xs, V.ref p = .ref p' ∧ SqT X.K H p' xs ∧ Reps X.K H ds xs := by simpa only [Rep] using hp
  cases e
  obtain ⟨q', ys, e, ly, hy⟩ : ∃ q' ys, V.ref q = .ref q' ∧ SqT X.K H q' ys ∧ Reps X.K H es ys := by simpa only [Rep] using hq
  cases e
  obtain ⟨us, ru, pu, _⟩ := I.tuple lx
  obtain ⟨vs, rv, pv', _⟩ := I.tuple ly
  have hz : us.toArray.size = ds.length := by simp [← ru.length, ← hx.length]
  have hz' : vs.toArray.size = es.length := by simp [← rv.length, ← hy.length]
  have key : ((List.range (min us.toArray.size vs.toArray.size)).all (fun j => eqDt (ds.getD j .non) (es.getD j .non)) && us.toArray.size == vs.toArray.size) = eqDts ds es := by
    rw [hz, hz']
    by_cases hl : ds.length = es.length
    · rw [← hl, Nat.min_self, eqDts_all ds es hl]; simp
    · rw [eqDts_length ds es hl]; simp [hl]
  have a := RcAt.tuples pu pv' hu (items_eq I ih hd hx hy ru rv)
  have b := RcNeAt.tuples pu pv' hu (items_eq I ih hd hx hy ru rv)
  rw [key] at a b
  refine ⟨?_, a, b⟩
  by_cases hpq : p = q
  · subst hpq
    have : ds = es := by
      rw [I.tuple_inj ly lx] at hy
      exact reps_inj I ds es xs hx hy
    subst this
    rw [eqDts_refl]
    exact EqAt.same _
  · exact EqAt.of_refs hpq a
end
section
variable {X : Cx} {pins : List (Addr × Obj)} {σ : St} {H : Hp} {s : Shared}
theorem rep_ref_l {ds : List Dt} {x : V} (h : Rep X.K H (.lst ds) x) : ∃ p xs, x = .ref p ∧ SqL X.K H p xs := by
  obtain ⟨p, xs, e, l, _⟩ : ∃ p xs, x = .ref p ∧ SqL X.K H p xs ∧ Reps X.K H ds xs := by simpa only [Rep] using h
  exact ⟨p, xs, e, l⟩
theorem rep_ref_t {ds : List Dt} {x : V} (h : Rep X.K H (.tup ds) x) : ∃ p xs, x = .ref p ∧ SqT X.K H p xs := by
  obtain ⟨p, xs, e, l, _⟩ : ∃ p xs, x = .ref p ∧ SqT X.K H p xs ∧ Reps X.K H ds xs := by simpa only [Rep] using h
  exact ⟨p, xs, e, l⟩
theorem eq3_step (I : Inv X pins σ H s) {n : Nat} {A : Around} (ih : ∀ (d d' : Dt) (x y : V) (u v : Value), depD d < n → Rep X.K H d x → Rep X.K H d' y → RelV x u → RelV y v → Eq3 A.in1 s u v (eqDt d d'))
    {d d' : Dt} {x y : V} {u v : Value} (hu : A.units + n < cLine) (hd : depD d ≤ n) (hx : Rep X.K H d x) (hy : Rep X.K H d' y) (rx : RelV x u) (ry : RelV y v) : Eq3 A s u v (eqDt d d') := by
  have hu0 : A.units < cLine := by omega
  cases d with
  | non =>
    have e : x = V.non := by simpa [Rep] using hx
    subst e
    cases rx
    cases d' with
    | non =>
      have e : y = V.non := by simpa [Rep] using hy
      subst e
      cases ry
      exact ⟨(EqAt.same _), RcAt.none_none , RcNeAt.none_none ⟩
    | bl b =>
      have e : y = V.bl b := by simpa [Rep] using hy
      subst e
      cases ry
      exact ⟨(EqAt.none_bool b), RcAt.none_bool b, RcNeAt.none_bool b⟩
    | int b =>
      have e : y = V.int b := by simpa [Rep] using hy
      subst e
      obtain ⟨u, rfl⟩ := ry
      exact ⟨(EqAt.none_int b u), RcAt.none_int b u, RcNeAt.none_int b u⟩
    | str b =>
      have e : y = V.str b := by simpa [Rep] using hy
      subst e
      obtain ⟨u, rfl⟩ := ry
      exact ⟨(EqAt.none_str b u), RcAt.none_str b u, RcNeAt.none_str b u⟩
    | lst b =>
      obtain ⟨pW, xsW, rfl, lW⟩ := rep_ref_l hy
      cases ry
      obtain ⟨itW, _, plW, _⟩ := I.list lW
      exact ⟨EqAt.none_list  plW.isList hu0, RcAt.none_list  plW.isList hu0, RcNeAt.none_list  plW.isList hu0⟩
    | tup b =>
      obtain ⟨pW, xsW, rfl, lW⟩ := rep_ref_t hy
      cases ry
      obtain ⟨itW, _, plW, _⟩ := I.tuple lW
      exact ⟨EqAt.none_tuple  plW hu0, RcAt.none_tuple  plW hu0, RcNeAt.none_tuple  plW hu0⟩
  | bl a =>
    have e : x = V.bl a := by simpa [Rep] using hx
    subst e
    cases rx
    cases d' with
    | non =>
      have e : y = V.non := by simpa [Rep] using hy
      subst e
      cases ry
      exact ⟨(EqAt.bool_none a), RcAt.bool_none a, RcNeAt.bool_none a⟩
    | bl b =>
      have e : y = V.bl b := by simpa [Rep] using hy
      subst e
      cases ry
      exact ⟨(EqAt.bool_bool a b), RcAt.bool_bool a b, RcNeAt.bool_bool a b⟩
    | int b =>
      have e : y = V.int b := by simpa [Rep] using hy
      subst e
      obtain ⟨u, rfl⟩ := ry
      exact ⟨(EqAt.bool_int a b u), RcAt.bool_int a b u, RcNeAt.bool_int a b u⟩
    | str b =>
      have e : y = V.str b := by simpa [Rep] using hy
      subst e
      obtain ⟨u, rfl⟩ := ry
      exact ⟨(EqAt.bool_str a b u), RcAt.bool_str a b u, RcNeAt.bool_str a b u⟩
    | lst b =>
      obtain ⟨pW, xsW, rfl, lW⟩ := rep_ref_l hy
      cases ry
      obtain ⟨itW, _, plW, _⟩ := I.list lW
      exact ⟨EqAt.bool_list a plW.isList hu0, RcAt.bool_list a plW.isList hu0, RcNeAt.bool_list a plW.isList hu0⟩
    | tup b =>
      obtain ⟨pW, xsW, rfl, lW⟩ := rep_ref_t hy
      cases ry
      obtain ⟨itW, _, plW, _⟩ := I.tuple lW
      exact ⟨EqAt.bool_tuple a plW hu0, RcAt.bool_tuple a plW hu0, RcNeAt.bool_tuple a plW hu0⟩
  | int a =>
    have e : x = V.int a := by simpa [Rep] using hx
    subst e
    obtain ⟨t, rfl⟩ := rx
    cases d' with
    | non =>
      have e : y = V.non := by simpa [Rep] using hy
      subst e
      cases ry
      exact ⟨(EqAt.int_none a t), RcAt.int_none a t, RcNeAt.int_none a t⟩
    | bl b =>
      have e : y = V.bl b := by simpa [Rep] using hy
      subst e
      cases ry
      exact ⟨(EqAt.int_bool a t b), RcAt.int_bool a t b, RcNeAt.int_bool a t b⟩
    | int b =>
      have e : y = V.int b := by simpa [Rep] using hy
      subst e
      obtain ⟨u, rfl⟩ := ry
      exact ⟨(EqAt.int_int a t b u), RcAt.int_int a t b u, RcNeAt.int_int a t b u⟩
    | str b =>
      have e : y = V.str b := by simpa [Rep] using hy
      subst e
      obtain ⟨u, rfl⟩ := ry
      exact ⟨(EqAt.int_str a t b u), RcAt.int_str a t b u, RcNeAt.int_str a t b u⟩
    | lst b =>
      obtain ⟨pW, xsW, rfl, lW⟩ := rep_ref_l hy
      cases ry
      obtain ⟨itW, _, plW, _⟩ := I.list lW
      exact ⟨EqAt.int_list a t plW.isList hu0, RcAt.int_list a t plW.isList hu0, RcNeAt.int_list a t plW.isList hu0⟩
    | tup b =>
      obtain ⟨pW, xsW, rfl, lW⟩ := rep_ref_t hy
      cases ry
      obtain ⟨itW, _, plW, _⟩ := I.tuple lW
      exact ⟨EqAt.int_tuple a t plW hu0, RcAt.int_tuple a t plW hu0, RcNeAt.int_tuple a t plW hu0⟩
  | str a =>
    have e : x = V.str a := by simpa [Rep] using hx
    subst e
    obtain ⟨t, rfl⟩ := rx
    cases d' with
    | non =>
      have e : y = V.non := by simpa [Rep] using hy
      subst e
      cases ry
      exact ⟨(EqAt.str_none a t), RcAt.str_none a t, RcNeAt.str_none a t⟩
    | bl b =>
      have e : y = V.bl b := by simpa [Rep] using hy
      subst e
      cases ry
      exact ⟨(EqAt.str_bool a t b), RcAt.str_bool a t b, RcNeAt.str_bool a t b⟩
    | int b =>
      have e : y = V.int b := by simpa [Rep] using hy
      subst e
      obtain ⟨u, rfl⟩ := ry
      exact ⟨(EqAt.str_int a t b u), RcAt.str_int a t b u, RcNeAt.str_int a t b u⟩
    | str b =>
      have e : y = V.str b := by simpa [Rep] using hy
      subst e
      obtain ⟨u, rfl⟩ := ry
      exact ⟨(EqAt.str_str a t b u), RcAt.str_str a t b u, RcNeAt.str_str a t b u⟩
    | lst b =>
      obtain ⟨pW, xsW, rfl, lW⟩ := rep_ref_l hy
      cases ry
      obtain ⟨itW, _, plW, _⟩ := I.list lW
      exact ⟨EqAt.str_list a t plW.isList hu0, RcAt.str_list a t plW.isList hu0, RcNeAt.str_list a t plW.isList hu0⟩
    | tup b =>
      obtain ⟨pW, xsW, rfl, lW⟩ := rep_ref_t hy
      cases ry
      obtain ⟨itW, _, plW, _⟩ := I.tuple lW
      exact ⟨EqAt.str_tuple a t plW hu0, RcAt.str_tuple a t plW hu0, RcNeAt.str_tuple a t plW hu0⟩
  | lst a =>
    obtain ⟨pU, xsU, rfl, lU⟩ := rep_ref_l hx
    cases rx
    obtain ⟨itU, _, plU, _⟩ := I.list lU
    cases d' with
    | non =>
      have e : y = V.non := by simpa [Rep] using hy
      subst e
      cases ry
      exact ⟨EqAt.list_none  plU.isList hu0, RcAt.list_none  plU.isList hu0, RcNeAt.list_none  plU.isList hu0⟩
    | bl b =>
      have e : y = V.bl b := by simpa [Rep] using hy
      subst e
      cases ry
      exact ⟨EqAt.list_bool b plU.isList hu0, RcAt.list_bool b plU.isList hu0, RcNeAt.list_bool b plU.isList hu0⟩
    | int b =>
      have e : y = V.int b := by simpa [Rep] using hy
      subst e
      obtain ⟨u, rfl⟩ := ry
      exact ⟨EqAt.list_int b u plU.isList hu0, RcAt.list_int b u plU.isList hu0, RcNeAt.list_int b u plU.isList hu0⟩
    | str b =>
      have e : y = V.str b := by simpa [Rep] using hy
      subst e
      obtain ⟨u, rfl⟩ := ry
      exact ⟨EqAt.list_str b u plU.isList hu0, RcAt.list_str b u plU.isList hu0, RcNeAt.list_str b u plU.isList hu0⟩
    | lst b =>
      obtain ⟨pW, xsW, rfl, lW⟩ := rep_ref_l hy
      cases ry
      obtain ⟨itW, _, plW, _⟩ := I.list lW
      have hd : depDs a + 1 ≤ n := by simpa only [depD] using hd
      exact eq3_lists I (n := n - 1) hu0 (fun d d' x y u v h => ih d d' x y u v (by omega)) (by omega) hx hy
    | tup b =>
      obtain ⟨pW, xsW, rfl, lW⟩ := rep_ref_t hy
      cases ry
      obtain ⟨itW, _, plW, _⟩ := I.tuple lW
      exact ⟨EqAt.list_tuple plU.isList plW hu0, RcAt.list_tuple plU.isList plW hu0, RcNeAt.list_tuple plU.isList plW hu0⟩
  | tup a =>
    obtain ⟨pU, xsU, rfl, lU⟩ := rep_ref_t hx
    cases rx
    obtain ⟨itU, _, plU, _⟩ := I.tuple lU
    cases d' with
    | non =>
      have e : y = V.non := by simpa [Rep] using hy
      subst e
      cases ry
      exact ⟨EqAt.tuple_none  plU hu0, RcAt.tuple_none  plU hu0, RcNeAt.tuple_none  plU hu0⟩
    | bl b =>
      have e : y = V.bl b := by simpa [Rep] using hy
      subst e
      cases ry
      exact ⟨EqAt.tuple_bool b plU hu0, RcAt.tuple_bool b plU hu0, RcNeAt.tuple_bool b plU hu0⟩
    | int b =>
      have e : y = V.int b := by simpa [Rep] using hy
      subst e
      obtain ⟨u, rfl⟩ := ry
      exact ⟨EqAt.tuple_int b u plU hu0, RcAt.tuple_int b u plU hu0, RcNeAt.tuple_int b u plU hu0⟩
    | str b =>
      have e : y = V.str b := by simpa [Rep] using hy
      subst e
      obtain ⟨u, rfl⟩ := ry
      exact ⟨EqAt.tuple_str b u plU hu0, RcAt.tuple_str b u plU hu0, RcNeAt.tuple_str b u plU hu0⟩
    | lst b =>
      obtain ⟨pW, xsW, rfl, lW⟩ := rep_ref_l hy
      cases ry
      obtain ⟨itW, _, plW, _⟩ := I.list lW
      exact ⟨EqAt.tuple_list plU plW.isList hu0, RcAt.tuple_list plU plW.isList hu0, RcNeAt.tuple_list plU plW.isList hu0⟩
    | tup b =>
      obtain ⟨pW, xsW, rfl, lW⟩ := rep_ref_t hy
      cases ry
      obtain ⟨itW, _, plW, _⟩ := I.tuple lW
      have hd : depDs a + 1 ≤ n := by simpa only [depD] using hd
      exact eq3_tups I (n := n - 1) hu0 (fun d d' x y u v h => ih d d' x y u v (by omega)) (by omega) hx hy
end
section
variable {X : Cx} {pins : List (Addr × Obj)} {σ : St} {H : Hp} {s : Shared}
theorem eq3 (I : Inv X pins σ H s) : ∀ (n : Nat) (A : Around) (d d' : Dt) (x y : V) (u v : Value), A.units + n < cLine → depD d ≤ n → Rep X.K H d x → Rep X.K H d' y → RelV x u → RelV y v → Eq3 A s u v (eqDt d d') := by
  intro n
  induction n with
  | zero => exact fun A d d' x y u v hu hd hx hy rx ry => eq3_step I (n := 0) (fun _ _ _ _ _ _ h => absurd h (Nat.not_lt_zero _)) hu hd hx hy rx ry
  | succ n ih => exact fun A d d' x y u v hu hd hx hy rx ry => eq3_step I (n := n + 1) (fun d d' x y u v h hx hy rx ry => ih A.in1 d d' x y u v (by show A.units + 1 + n < cLine; omega) (Nat.le_of_lt_succ h) hx hy rx ry) hu hd hx hy rx ry
end
section
variable {X : Cx}
theorem op_eq_d {k : Nat} (hr : Room k X.A) : OpR X (compareOp .Eq) (fun x y H Q => ∃ d d', Rep X.K H d x ∧ Rep X.K H d' y ∧ depD d ≤ 100 ∧ Q (.bl (eqDt d d')) H) := by
  intro pins s σ H x y v u Q I rx ry h
  obtain ⟨d, d', h1, h2, hd, q⟩ := h
  exact (eq3 I 100 X.A d d' x y v u (by have := hr.un; omega) hd h1 h2 rx ry).rc X.prog X.w X.xe _ ⟨.bl _, H, I, rfl, q⟩
theorem op_ne_d {k : Nat} (hr : Room k X.A) : OpR X (compareOp .NotEq) (fun x y H Q => ∃ d d', Rep X.K H d x ∧ Rep X.K H d' y ∧ depD d ≤ 100 ∧ Q (.bl (!eqDt d d')) H) := by
  intro pins s σ H x y v u Q I rx ry h
  obtain ⟨d, d', h1, h2, hd, q⟩ := h
  exact (eq3 I 100 X.A d d' x y v u (by have := hr.un; omega) hd h1 h2 rx ry).ne X.prog X.w X.xe _ ⟨.bl _, H, I, rfl, q⟩
end
end L2
namespace L2
open PySem PySem.Spec PyProof.Rows
def isW : V → Bool
  | .int _ => true
  | _ => false
def isIB : V → Bool
  | .int _ => true
  | .bl _ => true
  | _ => false
def isB : V → Bool
  | .bl _ => true
  | _ => false
def isS : V → Bool
  | .str _ => true
  | _ => false
theorem isW_eq (x : V) : isW x = (isIB x && !isB x) := by cases x <;> rfl
section
variable {K : PySem.W.Frag} {H H' : Hp} {x : V} {n : String}
theorem bt_int (h : TyOf K H x (.type n)) : clsIs K (.type n) (.ty "int") = some (isIB x) := by cases h <;> rfl
theorem bt_bool (h : TyOf K H x (.type n)) : clsIs K (.type n) (.ty "bool") = some (isB x) := by cases h <;> rfl
theorem bt_str (h : TyOf K H x (.type n)) : clsIs K (.type n) (.ty "str") = some (isS x) := by cases h <;> rfl
theorem bt_list (h : TyOf K H x (.type n)) : clsIs K (.type n) (.ty "list") = some (n == "list") := by cases h <;> rfl
theorem bt_tuple (h : TyOf K H x (.type n)) : clsIs K (.type n) (.ty "tuple") = some (n == "tuple") := by cases h <;> rfl
theorem TyOf.same {t : Value} (e : Same H H') (h : TyOf K H x t) : TyOf K H' x t := by
  cases h with
  | non => exact .non
  | bl b => exact .bl b
  | int i => exact .int i
  | str y => exact .str y
  | flt y => exact .flt y
  | lst q => exact .lst (e _ _ q)
  | frz q => exact .frz (e _ _ q)
  | tup q => exact .tup (e _ _ q)
  | dK q => exact .dK (e _ _ q)
  | dT q => exact .dT (e _ _ q)
  | ins q c a b d m => exact .ins (e _ _ q) c a b d m
end
theorem atI_0 {α : Type} {c : α} {cs : List α} : atI (c :: cs) (0 : Int) = some c := atI_nat (j := 0) rfl
theorem atI_lt {α : Type} {xs : List α} {i : Int} (h0 : 0 ≤ i) (h1 : i < xs.length) : ∃ v, atI xs i = some v ∧ v ∈ xs := by
  obtain ⟨j, rfl⟩ : ∃ j : Nat, i = (j : Int) := ⟨i.toNat, by omega⟩
  have hj : j < xs.length := by omega
  exact ⟨xs[j], atI_nat (by simp [hj]), List.getElem_mem hj⟩
theorem Same.new {H : Hp} {p : Addr} {o : HO} (h : H p = none) : Same H (upd H p o) := fun b u e => by
  rw [upd_ne (ne_of_none e h)]
  exact e
theorem Same.tup {K : PySem.W.Frag} {H H' : Hp} {a : Addr} {xs : List V} (e : Same H H') (h : SqT K H a xs) : SqT K H' a xs := by
  rcases h with (h | ⟨o, h⟩) | h
  · exact .inl (.inl (e _ _ h))
  · exact .inl (.inr ⟨o, e _ _ h⟩)
  · exact .inr h
def Off (p : Addr) (H H' : Hp) : Prop := ∀ b, b ≠ p → H' b = H b
theorem Off.trans {p : Addr} {H H1 H2 : Hp} (a : Off p H H1) (b : Off p H1 H2) : Off p H H2 := fun c h => (b c h).trans (a c h)
theorem Off.upd {p : Addr} {H : Hp} {o : HO} : Off p H (upd H p o) := fun _ h => upd_ne h
theorem small_line {n : Nat} (h : n ≤ 1000000) : n ≤ sizeLine := Nat.le_trans h (by decide)
theorem fnok_of {P : Program} {w : World} {K : PySem.W.Frag} {mg : Str → Option Value} {base : Heap} {CX : CXT} {x : Str} {ps : List Str} {sp : Sp} {k : Nat} {st : Stmt} {N : List Str} {f : Addr} {fd : FuncData}
    (F : Fun K x x st f fd) (S : FnScope N ps (defScope st)) (len : ∀ vs H Q E, sp vs H Q E → vs.length = ps.length)
    (hbody : ∀ (cdv : Value) (A : Around) (outer : List Env) (s : Shared) (H : Hp) (vs : List V) (Q : VK) (E : XK), Room k (A.deeper (envOfC x (defScope st) s.heap.objs.size f cdv)) → sp vs H Q E →
      ∃ t, PSs (cxOf CX P w K mg base N x (defScope st) f cdv A outer s H E).nox (defBody st) t ∧ t { nx := fun _ H' => Q .non H', rt := Q } (start N vs) H) : FnOk P w K mg base CX (k + 1) f fd ps sp := by
  obtain ⟨oc, od, kV, doc, pm, an, cdv, ct, osl, rfl, lk, hcd⟩ := F.ex
  refine fn_of lk hcd S len fun A outer s H vs Q E hr hsp => ?_
  obtain ⟨t, h, q⟩ := hbody cdv A outer s H vs Q E hr hsp
  exact ⟨t, h.nox, q⟩
structure ExcF (B newId initId : String) (bm : List Value) : Prop where
  call : ExcCallFacts B newId initId
  split : splitId newId = some (B, "__new__")
  kind : builtinKind newId = some .builtinFn
  row : Manifest.signature? newId = some ⟨.any, B, B, .cls, [⟨"args", .varPos, false⟩, ⟨"kwargs", .varKw, false⟩]⟩
  hasB : bm.contains (.type B) = true
  hasE : bm.contains (.type "BaseException") = true
  noA : bm.contains (.type "AttributeError") = false
  noN : bm.contains (.type "NameError") = false
  canon : Manifest.canonical newId = Manifest.canonical "BaseException.__new__"
theorem ExcF.under {B newId initId : String} {bm : List Value} (F : ExcF B newId initId bm) (R : Addr) : ExcF B newId initId (.ref R :: bm) :=
  ⟨F.call, F.split, F.kind, F.row, by rw [List.contains_cons, F.hasB, Bool.or_true], by rw [List.contains_cons, F.hasE, Bool.or_true], by rw [List.contains_cons, F.noA]; rfl, by rw [List.contains_cons, F.noN]; rfl, F.canon⟩
section
variable {prog : Program} {w : World} {M : Model} {A : Around} {E : Value → Shared → Prop} {R : Result → Shared → Prop} {h : Heap} {g : Array GenState} {d : Drawn} {t : Nat} {os : OsState}
variable {nm q : Str} {C N : Addr} {bs bm : List Value} {hdct : Bool} {sn : List Str} {sub : List Value} {ab : Bool} {col : Option Bool} {dd : Option Addr} {k0 k1 k2 k3 k5 : Option Value} {B newId initId : String}
theorem ExcF.has (F : ExcF B newId initId bm) : (Value.ref C :: bm).contains (.type B) = true := by rw [List.contains_cons, F.hasB, Bool.or_true]
end
def excO (e C : Addr) (dx : Option Addr) : HO := .ext fun h => ∃ t sl, h.get? e = some { cls := .ref C, dict := dx, data := .fields #[.ref t, .none, .none, .none, .bool false, .none], slots := sl }
def dctO (dx : Addr) (fs : List (Str × V)) : HO := .ext fun h => ∃ mA, h.Ns1 dx mA ∧ (∀ f, RelO (fs.lookup f) (mA f)) ∧ PySem.Within mA (fs.map (·.1)) ∧ fs.length ≤ 100
section
variable {X : Cx} {CX : CXT} {k m : Nat} {f C : Addr} {fd : FuncData} {ps : List Str} {sp : Sp} {E : XK} {x : Str} {p pos : Pos} {e : Expr} {es : List Expr} {t : TA} {bm : List Value}
structure ExcG (K : PySem.W.Frag) (C : Addr) : Prop where
  ga : PySem.W.findIn K (.ref C) "__getattribute__" = some (some (.builtin "BaseException.__getattribute__"))
  gb : PySem.W.findIn K (.ref C) "__getattr__" = some none
  mb : PySem.W.mroIn K C (.type "BaseException") = some true
  hd : PySem.W.hasDictIn K C = true
end
mutual
def pyD : Dt → PyData
  | .non => .none
  | .bl b => .bool b
  | .int i => .int i
  | .str x => .str x
  | .lst xs => .list (pyDs xs)
  | .tup xs => .tuple (pyDs xs)
def pyDs : List Dt → List PyData
  | [] => []
  | x :: xs => pyD x :: pyDs xs
end
structure ExcI (K : PySem.W.Frag) (C R : Addr) : Prop where
  g : ExcG K C
  mro : (PySem.W.clsIn K C).map (·.mro) = some [.ref C, .ref R, .type "ValueError", .type "Exception", .type "BaseException", .type "object"]
  ty : PySem.W.typeIn K (.ref C) = some (.type "type")
  ha : PySem.W.findIn K (.ref C) "__class__" = some (some (.builtin "object.__class__"))
  hn : PySem.W.specialIn K (.builtin "object.__class__") "__get__" = some (some (.builtin "getset_descriptor.__get__"))
  tk : PySem.W.takesIn K (.builtin "object.__class__") = some true
section
variable {prog : Program} {w : World} {A : Around} {E : Value → Shared → Prop} {s : Shared} {K : PySem.W.Frag} {e C R D : Addr} {oe : Obj} {odo : Option Obj}
theorem ExcI.in (G : ExcI K C R) (b : Value) : PySem.W.mroIn K C b = some ([Value.ref C, .ref R, .type "ValueError", .type "Exception", .type "BaseException", .type "object"].contains b) := by
  obtain ⟨cd, hc, hm⟩ := Option.map_eq_some_iff.mp G.mro
  unfold PySem.W.mroIn
  rw [hc, Option.bind_some, hm]
  rfl
end
def ExcAt (H : Hp) (x C : Addr) (fs : List (Str × V)) : Prop := (fs = [] ∧ H x = some (excO x C none)) ∨ ∃ dx, H x = some (excO x C (some dx)) ∧ H dx = some (dctO dx fs) ∧ dx ≠ x
theorem ExcAt.same {H H' : Hp} {x C : Addr} {fs : List (Str × V)} (e : Same H H') (h : ExcAt H x C fs) : ExcAt H' x C fs := by
  rcases h with ⟨a, b⟩ | ⟨dx, a, b, c⟩
  · exact .inl ⟨a, e _ _ b⟩
  · exact .inr ⟨dx, e _ _ a, e _ _ b, c⟩
section
variable {X : Cx}
theorem op_mul_str : OpR X (binaryOp .Mult) (fun x y H Q => ∃ z n, x = .str z ∧ y = .int n ∧ MulOk z n ∧ Q (.str (Txt.mul z n)) H) := by
  intro pins s σ H x y v u Q I rx ry h
  obtain ⟨z, n, rfl, rfl, ok, q⟩ := h
  obtain ⟨t, rfl⟩ := rx
  obtain ⟨t', rfl⟩ := ry
  exact SB.mul ok fun t'' k => ⟨.str _, H, I.tok _, ⟨_, rfl⟩, q⟩
end
structure Shm (m d : Nat) (x : PyData) : Prop where
  sh : x.showable = true
  ln : x.shown.length ≤ m
  dp : x.depth ≤ d
structure New (H H' : Hp) (p : Addr) (o : HO) : Prop where
  s : Same H H'
  e : H' p = some o
  n : ∀ a u, H a = some u → a ≠ p
theorem New.mk' {H : Hp} {p : Addr} {o : HO} (h : H p = none) : New H (upd H p o) p o := ⟨Same.new h, upd_same, fun a u q => ne_of_none q h⟩
section
variable {X : Cx} {es : List Expr} {t : TA} {pos : Pos}
def tTupA (t : TA) : TE := fun σ H Q => t σ H fun xs H1 => xs.length ≤ sizeLine ∧ ∀ p H', New H1 H' p (.tup xs) → Q (.ref p) H'
def tLstA (t : TA) : TE := fun σ H Q => t σ H fun xs H1 => xs.length ≤ sizeLine ∧ ∀ p H', New H1 H' p (.lst xs) → Q (.ref p) H'
theorem pe_tupA {x1} (h : PA X es t) : PE X (.Tuple es x1 pos) (tTupA t) := by
  intro pins s σ H Q I hq
  refine wpAny_Tuple_spliced (thn (h pos pins s σ H _ I hq) fun us s1 ⟨xs, H1, I1, r, z, q⟩ => ⟨by rw [← r.length]; exact z, ?_⟩)
  have hf : H1 s1.heap.objs.size = none := I1.hok.fresh (Nat.le_refl _)
  refine ⟨.ref s1.heap.objs.size, upd H1 s1.heap.objs.size (.tup xs), I1.laid (t' := s1.toks) (fun b u e => Heap.get?_push_of_some _ e) (Nat.le_refl _) ?_, rfl, q _ _ (.mk' hf)⟩
  exact ⟨z, us, r, ⟨_, Heap.get?_push_size _ rfl, rfl, _, rfl⟩⟩
theorem pe_lstA (h : PA X es t) : PE X (.List es pos) (tLstA t) := by
  intro pins s σ H Q I hq
  refine wpAny_List_spliced (thn (h pos pins s σ H _ I hq) fun us s1 ⟨xs, H1, I1, r, z, q⟩ => ⟨by rw [← r.length]; exact z, ?_⟩)
  have hf : H1 s1.heap.objs.size = none := I1.hok.fresh (Nat.le_refl _)
  refine ⟨.ref s1.heap.objs.size, upd H1 s1.heap.objs.size (.lst xs), I1.laid (t' := s1.toks) (fun b u e => Heap.get?_push_of_some _ e) (Nat.le_refl _) ?_, rfl, q _ _ (.mk' hf)⟩
  exact ⟨z, us, 0, r, Heap.get?_push_size _ rfl⟩
def rCatA : R2 := fun x y H Q => ∃ l b xs zs, x = .ref l ∧ y = .ref b ∧ H l = some (.lst xs) ∧ H b = some (.lst zs) ∧ xs.length + zs.length ≤ sizeLine ∧ ∀ p H', New H H' p (.lst (xs ++ zs)) → Q (.ref p) H'
theorem op_catA : OpR X (binaryOp .Add) rCatA := by
  intro pins s σ H x y v u Q I rx ry h
  obtain ⟨l, b, xs, zs, e1, e2, hH, hB, hz, q⟩ := h
  exact op_cat pins s σ H x y v u Q I rx ry ⟨l, b, xs, zs, e1, e2, hH, hB, hz, fun p hp => q p _ (.mk' hp)⟩
def rRepA : R2 := fun x y H Q => ∃ l k xs, x = .ref l ∧ y = .int k ∧ H l = some (.lst xs) ∧ -(2 ^ 63) ≤ k ∧ k < 2 ^ 63 ∧ xs.length * k.toNat ≤ sizeLine ∧ ∀ p H', New H H' p (.lst (List.replicate k.toNat xs).flatten) → Q (.ref p) H'
theorem op_repA : OpR X (binaryOp .Mult) rRepA := by
  intro pins s σ H x y v u Q I rx ry h
  obtain ⟨l, k, xs, e1, e2, hH, h1, h2, hz, q⟩ := h
  exact op_rep pins s σ H x y v u Q I rx ry ⟨l, k, xs, e1, e2, hH, h1, h2, hz, fun p hp => q p _ (.mk' hp)⟩
def rAppA : V → List V → Hp → VK → Prop := fun x vs H Q => ∃ l xs y, x = .ref l ∧ vs = [y] ∧ H l = some (.lst xs) ∧ xs.length < sizeLine ∧ ∀ H', Off l H H' → H' l = some (.lst (xs ++ [y])) → Q .non H'
theorem mt_appendA : MtM X "list.append" rAppA := by
  intro pins s σ H x vs v us Q I rx rv h
  obtain ⟨l, xs, y, e1, e2, hH, hz, q⟩ := h
  exact mt_append pins s σ H x vs v us Q I rx rv ⟨l, xs, y, e1, e2, hH, hz, q _ Off.upd upd_same⟩
theorem pe_appendA {o e : Expr} {to te : TE} {apos cpos : Pos} (ho : PE X o to) (he : PE X e te) (hbase : attributeBase o "append" X.env (eval o X.env) = eval o X.env := by rfl)
    (hfew : ((backTo cpos (starEach [e] X.env)).all (fun x => !x.1) && (backToKw cpos (keywordEach [] X.env)).all (fun x => x.1.isSome)
      && decide (([e] : List Expr).length + ([] : List Keyword).length + (if ([] : List Keyword).isEmpty then 0 else 1) < 30)) = true := by rfl)
    (hline : (apos.endLine == cpos.line) = true := by rfl) (hs : starEach [e] X.env = (false, eval e X.env) :: starEach [] X.env := by rfl) :
    PE X (.Call (.Attribute o "append" apos) [e] [] cpos) (tBM X.K "list" rAppA to (tCons te tNil)) :=
  pe_bm PySem.F.plainAttrs_list PySem.F.slot_list_append PySem.F.type_list_append mt_appendA ho (pa_cons he pa_nil hs) hbase hfew hline hs (by rfl)
end
def Tel (t : TE) (σ : St) (H : Hp) (v : V) : Prop := ∀ Q : VK, Q v H → t σ H Q
def TelA (t : TA) (σ : St) (H : Hp) (vs : List V) : Prop := ∀ Q : List V → Hp → Prop, Q vs H → t σ H Q
section
variable {σ σ' : St} {H : Hp} {v x y : V} {vs : List V} {t ta tb : TE} {tr : TA} {i j : Nat} {a C : Addr} {f g : Str} {fs : List (Str × V)} {Q : VK} {D : Ends} {s u : TS} {K : PySem.W.Frag} {tg : TG} {c : TT}
theorem rd_var (h : σ[i]? = some (some v)) : Tel (tVar i) σ H v := fun Q q => ⟨v, h, q⟩
theorem rd_c : Tel (tC v) σ H v := fun Q q => q
theorem rda_nil : TelA tNil σ H [] := fun Q q => q
theorem rda_cons (h : Tel t σ H v) (k : TelA tr σ H vs) : TelA (tCons t tr) σ H (v :: vs) := fun Q q => h _ (k _ q)
theorem go_cons {Q : List V → Hp → Prop} (h : t σ H fun x H1 => tr σ H1 fun xs H2 => Q (x :: xs) H2) : tCons t tr σ H Q := h
theorem go_nil {Q : List V → Hp → Prop} (h : Q [] H) : tNil σ H Q := h
theorem go_seq (h : s { D with nx := u D } σ H) : tSeq s u D σ H := h
theorem go_nx {nx bk ct : St → Hp → Prop} {rt : VK} (h : nx σ H) : (Ends.mk nx rt bk ct).nx σ H := h
theorem go_next (h : D.nx σ H) : tNext D σ H := h
theorem go_asg (h : t σ H fun x H1 => tg x σ H1 D.nx) : tAsg t tg D σ H := h
theorem go_tupA (h : tr σ H fun xs H1 => xs.length ≤ sizeLine ∧ ∀ p H', New H1 H' p (.tup xs) → Q (.ref p) H') : tTupA tr σ H Q := h
theorem go_lstA (h : tr σ H fun xs H1 => xs.length ≤ sizeLine ∧ ∀ p H', New H1 H' p (.lst xs) → Q (.ref p) H') : tLstA tr σ H Q := h
theorem go_op {r : R2} (h : ta σ H fun x H1 => tb σ H1 fun y H2 => r x y H2 Q) : tOp r ta tb σ H Q := h
theorem go_ret (h : t σ H D.rt) : tRet t D σ H := h
theorem go_drop (h : t σ H fun _ H1 => D.nx σ H1) : tDrop t D σ H := h
theorem go_if (h : c σ H fun b H1 => if b = true then s D σ H1 else u D σ H1) : tIfS c s u D σ H := h
theorem go_test {Q : Bool → Hp → Prop} (h : t σ H fun x H' => ∃ k, x = .bl k ∧ Q k H') : tTest t σ H Q := h
theorem go_b {Q : Bool → Hp → Prop} (h : t σ H fun x H' => ∃ k, x = .bl k ∧ Q k H') : tB t σ H Q := h
theorem go_cb {r : List V → Hp → VK → Prop} (h : tr σ H fun vs H1 => r vs H1 Q) : tCB r tr σ H Q := h
end
section
variable {σ : St} {H : Hp} {te : TE} {tr : TA} {Q : VK} {c : TT} {fr : List Nat} {fvs : St} {n : Nat}
theorem rangeV_get {i : Nat} {x : V} (h : (rangeV 0 n)[i]? = some x) (hi : i < n) : x = .int i := by
  have : (rangeV 0 n)[i]? = some (V.int (0 + (i : Int))) := by simp [rangeV, hi]
  rw [this] at h
  have := Option.some.inj h
  rw [← this, Int.zero_add]
theorem go_map_range {F : Nat → V} (hr : TelA tr σ H [.int (n : Int)]) (hn : n < 2 ^ 62) (hz : n ≤ 1000000) (hf : (fr.map fun i => (σ[i]?).getD none) = fvs)
    (turn : ∀ i H', i < n → Same H H' → Tel te (some (.int i) :: fvs) H' (F i)) (k : ∀ p H', New H H' p (.lst ((List.range n).map F)) → Q (.ref p) H') : tComp (iRng1 tr) 1 fr (gName 0) tTrue te σ H Q := by
  refine hr _ ⟨n, rfl, by omega, by omega, fun acc hacc => ?_⟩
  subst hf
  rw [Int.toNat_natCast]
  refine comp_by items_range (fun i ys H' => H' = upd H acc (.lst ys) ∧ ys = (List.range i).map F) ⟨rfl, rfl⟩ (fun i ys H' _ h => ⟨trivial, by rw [h.1]; exact upd_same⟩) ?_ ?_
  · rintro i x tv ys H' hx hi ⟨rfl, rfl⟩ htv
    obtain ⟨tv0, rfl⟩ : ∃ a, tv = [a] := List.length_eq_one_iff.mp htv
    have hi' : i < n := by simpa [rangeV] using hi
    obtain rfl := rangeV_get hx hi'
    unfold gName tTrue
    dsimp only
    rw [if_pos rfl]
    refine turn i _ hi' (Same.new hacc) _ ⟨?_, upd_same, ?_⟩
    · rw [List.length_map, List.length_range]
      exact Nat.lt_of_lt_of_le hi' (small_line hz)
    · exact CompW.next (tv := [some (V.int i)]) hi ⟨upd_upd, by rw [List.range_succ, List.map_append]; rfl⟩ rfl
  · rintro ys H' ⟨rfl, rfl⟩
    rw [show (rangeV 0 n).length = n by simp [rangeV]]
    exact k acc _ (.mk' hacc)
end
def excT (a C : Addr) (dx : Option Addr) : HO := .ext fun h => ∃ oe vs, h.get? a = some oe ∧ oe.cls = .ref C ∧ oe.dict = dx ∧ oe.data = .fields vs
def ExcT (H : Hp) (x C : Addr) (fs : List (Str × V)) : Prop := (fs = [] ∧ H x = some (excT x C none)) ∨ ∃ dx, H x = some (excT x C (some dx)) ∧ H dx = some (dctO dx fs) ∧ dx ≠ x
theorem ExcT.same {H H' : Hp} {x C : Addr} {fs : List (Str × V)} (e : Same H H') (h : ExcT H x C fs) : ExcT H' x C fs := by
  rcases h with ⟨a, b⟩ | ⟨dx, a, b, c⟩
  · exact .inl ⟨a, e _ _ b⟩
  · exact .inr ⟨dx, e _ _ a, e _ _ b, c⟩
structure Caught (X : Cx) (pins : List (Addr × Obj)) (σ : St) (H : Hp) (s : Shared) (a C : Addr) (dx : Option Addr) : Prop where
  I : Inv X pins σ H s
  ha : H a = some (excT a C dx)
  tb : ∃ T oe vs oT ts, s.heap.get? a = some oe ∧ oe.data = .fields vs ∧ vs[1]? = some (.ref T) ∧ s.heap.get? T = some oT ∧ oT.data = .fields ts ∧ 3 < ts.size ∧ H T = none ∧ T ≠ X.env.locals ∧ (T ∈ X.ex ∨ X.s₀.heap.objs.size ≤ T) ∧ (∀ x c, X.env.cells.lookup x = some c → c ≠ T) ∧ ∀ p ∈ X.pn ++ pins, p.1 ≠ T
section
variable {X : Cx} {x n : Str} {d : Addr} {i : Nat} {b₀ : Stmt} {suite : List Stmt} {rest : List ExceptHandler} {th : Addr → TS} {tr : THd} {p pos : Pos}
theorem Caught.type {pins : List (Addr × Obj)} {σ : St} {H : Hp} {s : Shared} {a C : Addr} {dx : Option Addr} (c : Caught X pins σ H s a C dx) : PySem.W.Looks (model X.prog X.w) s.heap (typeOf (.ref a)) (.ref C) := by
  obtain ⟨⟨oe, vs, ge, gc, gd, gf⟩, _, _⟩ : ObjOk X.prog X.w H s.heap a (excT a C dx) := c.I.hok a _ c.ha
  exact gc ▸ (PySem.W.Looks.ld ge).andThen .now
end
def rIsT (K : PySem.W.Frag) : List V → Hp → VK → Prop := fun xs H Q => ∃ x d t b, xs = [x, d] ∧ TyOf K H x t ∧ clsIs K t d = some b ∧ Q (.bl b) H
theorem call_isT {X : Cx} : CallR X (.builtin "isinstance") (rIsT X.K) := call_isinstance
theorem vals_by : ∀ {xs : List V} {us : List Value}, xs.length = us.length → (∀ (j : Nat) (x : V) (u : Value), xs[j]? = some x → us[j]? = some u → RelV x u) → Vals xs us
  | [], [], _, _ => .nil
  | [], _ :: _, h, _ => nomatch h
  | _ :: _, [], h, _ => nomatch h
  | x :: xs, u :: us, h, f => .cons (f 0 x u rfl rfl) (vals_by (Nat.succ.inj h) fun j y z e1 e2 => f (j + 1) y z (by simpa using e1) (by simpa using e2))
section
variable {X : Cx} {pins : List (Addr × Obj)} {σ : St} {H : Hp} {s : Shared} {h' : Heap} {t' : Nat} {ch : List Addr}
theorem Inv.turnedN (I : Inv X pins σ H s) (hf : ∀ b ∈ ch, FpOk X pins H b) (k : ∀ b o, b ∉ ch → s.heap.get? b = some o → h'.get? b = some o) : Inv X pins σ H { s with heap := h', toks := t' } := by
  have off : ∀ b u, H b = some u → b ∉ ch := fun b u e z => by
    rw [(hf b z).1] at e
    cases e
  refine I.step (g' := s.gens) (d' := s.drawn) (ch := ch) (fun b hb => ?_) (fun b o _ _ hc e _ => k b o hc e) (fun b o _ _ hc e _ => ⟨o.slots, k b o hc e⟩) (fun _ _ _ _ n => n)
    (fun b o hc e => ⟨o, k b o hc e⟩) (fun _ _ e => e) (fun _ _ _ e => e) (fun b ps e => ⟨#[], by rw [e]; simp⟩) (fun m hm => ?_) (fun b u e => ?_) I.bare
  · obtain ⟨_, f1, _, f3, f4, f5⟩ := hf b hb
    exact ⟨f3, f1, f4, f5⟩
  · obtain ⟨o, es, ep, ho, r⟩ := hm
    exact ⟨o, es, ep, k _ o (fun z => (hf _ z).2.1 rfl) ho, r⟩
  · refine (I.hok b u e).stay (fun c v hc q => k c v ?_ q) (fun _ q => q) fun _ _ q => q
    rcases hc with z | z
    · rw [z]; exact off b u e
    · exact off c _ z
theorem Inv.turnedLaid {a : Addr} {o : HO} (I : Inv X pins σ H s) (hf : ∀ b ∈ ch, FpOk X pins H b) (k : ∀ b o, b ∉ ch → s.heap.get? b = some o → h'.get? b = some o) (ha : s.heap.objs.size ≤ a)
    (new : ObjOk X.prog X.w (upd H a o) h' a o) : Inv X pins σ (upd H a o) { s with heap := h', toks := t' } := by
  have I1 : Inv X pins σ H { s with heap := h', toks := t' } := I.turnedN hf k
  have hn : H a = none := I.hok.fresh ha
  refine I.step (g' := s.gens) (d' := s.drawn) (ch := ch) (fun b hb => ?_) (fun b u _ _ hc e _ => k b u hc e) (fun b u _ _ hc e _ => ⟨u.slots, k b u hc e⟩)
    (fun b u _ e n => by rw [upd_ne (Nat.ne_of_lt (Nat.lt_of_lt_of_le (Heap.lt_size e) ha))]; exact n)
    (fun b u hc e => ⟨u, k b u hc e⟩) (fun b xs e => by rw [upd_ne (ne_of_none e hn)]; exact e) (fun b u x e => by rw [upd_ne (ne_of_none e hn)]; exact e)
    (fun b ps e => ⟨#[], by rw [upd_ne (ne_of_none e hn), e]; simp⟩) (fun m hm => ?_) (fun b u e => ?_) I.bare
  · obtain ⟨_, f1, _, f3, f4, f5⟩ := hf b hb
    exact ⟨f3, f1, f4, f5⟩
  · obtain ⟨u, es, ep, ho, r⟩ := hm
    exact ⟨u, es, ep, k _ u (fun z => (hf _ z).2.1 rfl) ho, r⟩
  · by_cases hb : b = a
    · subst hb
      rw [upd_same] at e
      cases e
      exact new
    · rw [upd_ne hb] at e
      exact (I1.hok b u e).stay (fun _ _ _ q => q) (fun c q => by rw [upd_ne (ne_of_none q hn)]; exact q) fun c xs q => by rw [upd_ne (ne_of_none q hn)]; exact q
end
def Ite (K : PySem.W.Frag) (a : Addr) (xs : List V) : It :=
  ⟨fun i H => SqL K H a xs ∧ i < xs.length, fun i H x H' => ∃ T v, x = .ref T ∧ xs[i]? = some v ∧ New H H' T (.tup [.int i, v]), fun i H => SqL K H a xs ∧ xs.length ≤ i⟩
theorem turn_enum {P : Program} {w : World} {K : PySem.W.Frag} {elts : List Expr} {x1} {pos : Pos} (a e it : Addr) (xs : List V) (hei : e ≠ it) :
    Turn P w K (.Tuple elts x1 pos) (Ite K a xs) [e, it] e (fun i h => (∃ old, IsEnum h e it i old) ∧ h.IsListIter it a i) where
  mem := by simp
  obj := fun i h st b hb => by
    obtain ⟨⟨old, he⟩, o, hi, hc, hd⟩ := st
    rcases List.mem_cons.mp hb with rfl | hb
    · exact ⟨_, he, fun v z => by
        have z' : Data.fields _ = Data.cell v := z
        cases z'⟩
    · rw [List.mem_singleton.mp hb]
      exact ⟨o, hi, fun v z => by rw [hd] at z; cases z⟩
  keep := fun i h h' st k => by
    obtain ⟨⟨old, he⟩, hi⟩ := st
    exact ⟨⟨old, k e (by simp) _ he⟩, hi.at fun o q => k it (by simp) o q⟩
  item := by
    intro X hP hw hK hc i pins s σ H E I hf st hg
    subst hP hw hK
    obtain ⟨⟨old, he⟩, hi⟩ := st
    obtain ⟨hq, hlt⟩ := hg
    obtain ⟨its, rv, p, hz⟩ := I.list hq
    have hx : xs[i]? = some xs[i] := by simp [hlt]
    generalize xs[i] = x at hx
    obtain ⟨u, hu, ru⟩ := rv.get hx
    refine wpAny_pyNext_enum_item he hi p.isList (x := u) (by simpa using hu) hei fun h1 ho hi1 hT hsz hk => ?_
    refine ⟨_, rfl, wpAny_letOwnedTupleGo_enum ho fun h2 he2 hs2 => ?_⟩
    have neT : s.heap.objs.size ≠ e := Nat.ne_of_gt (Heap.lt_size he)
    have hT2 := (hs2.2 _ neT).trans hT
    have k2 : ∀ b o, b ∉ [e, it] → s.heap.get? b = some o → h2.get? b = some o := fun b o hb q => by
      simp only [List.mem_cons, List.not_mem_nil, or_false, not_or] at hb
      exact (hs2.2 b hb.1).trans (hk b o hb.1 hb.2 q)
    have new : ObjOk X.prog X.w (upd H s.heap.objs.size (.tup [.int i, x])) h2 s.heap.objs.size (.tup [.int i, x]) :=
      ⟨by show 2 ≤ sizeLine; decide, [.int i s.toks, u], .cons ⟨_, rfl⟩ (.cons ru .nil), ⟨_, hT2, rfl, _, rfl⟩⟩
    refine ⟨.ref s.heap.objs.size, _, I.turnedLaid (t' := s.toks + 1) hf k2 (Nat.le_refl _) new, rfl, ⟨_, x, rfl, hx, .mk' (I.hok.fresh (Nat.le_refl _))⟩, ⟨⟨u, by simpa using he2⟩, hi1.at fun o q => (hs2.2 it hei.symm).trans q⟩, fun b hb => ?_⟩
    have hbn := (hf b hb).1
    have hb' : b < s.heap.objs.size := by
      rcases List.mem_cons.mp hb with rfl | hb
      · exact Heap.lt_size he
      · rw [List.mem_singleton.mp hb]
        obtain ⟨o, q, _⟩ := hi
        exact Heap.lt_size q
    rw [upd_ne (Nat.ne_of_lt hb')]
    exact hbn
  done := by
    intro X hP hw hK hc i pins s σ H E I hf st hg
    subst hP hw hK
    obtain ⟨⟨old, he⟩, hi⟩ := st
    obtain ⟨hq, hle⟩ := hg
    obtain ⟨its, rv, p, hz⟩ := I.list hq
    have hl := rv.length
    refine wpAny_pyNext_enum_end (I.ok.hd hc) he hi p.isList (by simp; omega) fun h' eb => ⟨rfl, I.turnedN (t' := s.toks) (ch := [e, it]) hf fun b o hb q => eb b o (fun z => hb (by simp [z])) q⟩
  self := fun _ _ _ _ _ st h => by
    obtain ⟨⟨old, he⟩, _⟩ := st
    exact wpAny_pyIter_enum he h
theorem boot_enum : bootBuiltins "enumerate" = some (.type "enumerate") := by decide +kernel
def iEnum (K : PySem.W.Frag) (ta : TA) : TI := fun σ H R => ta σ H fun vs H1 => ∃ a xs, vs = [.ref a] ∧ SqL K H1 a xs ∧ R (Ite K a xs) H1
theorem pi_enum {X : Cx} {elts : List Expr} {x1} {tpos : Pos} {a : Expr} {ta : TA} {p pos : Pos} (hg : Gl X "enumerate") (hm : X.mg "enumerate" = none) (ha : PA X [a] ta) (hs : starEach [a] X.env = [(false, eval a X.env)] := by rfl) :
    PI X (.Tuple elts x1 tpos) (.Call (.Name "enumerate" p) [a] [] pos) (iEnum X.K ta) := by
  intro pins s σ H R I h
  refine Call_ (ld_blt I hg hm boot_enum (PyProof.Rows.callWith_type1 (thn (ha pos pins s σ H _ I h) fun us s1 ⟨vs, H1, I1, r1, q1⟩ => ?_) hs rfl))
  obtain ⟨l, xs, e, hq, q⟩ := q1
  subst e
  obtain ⟨u, rfl, r⟩ := vals1 r1
  cases r
  obtain ⟨its, rv, pl, hz⟩ := I1.list hq
  refine call_enumerate_list pl.isList fun h' he hi hsz hk => ?_
  have I2 : Inv X pins σ H1 { s1 with heap := h' } := I1.kept (t' := s1.toks) hk
  refine wpAny_pyIter_enum he ?_
  refine ⟨s1.heap.objs.size + 1, [s1.heap.objs.size + 1, s1.heap.objs.size], _, Ite X.K l xs, H1, rfl, I2, turn_enum l _ _ xs (Nat.succ_ne_self _), ⟨⟨.none, he⟩, hi⟩, fun b hb => ?_, q⟩
  have hb' : s1.heap.objs.size ≤ b := by
    rcases List.mem_cons.mp hb with rfl | hb
    · exact Nat.le_succ _
    · rw [List.mem_singleton.mp hb]
      exact Nat.le_refl _
  exact I1.fpOk hb' (I1.hok.fresh hb')
theorem for_enum {K : PySem.W.Frag} {a : Addr} {xs : List V} {g : TG} {tb : TS} {D : Ends} {σ : St} {H : Hp} (Pv : Nat → St → Hp → Prop) (h0 : Pv 0 σ H) (hl : ∀ i σ H, i ≤ xs.length → Pv i σ H → SqL K H a xs)
    (hs : ∀ i x T σ H H', xs[i]? = some x → Pv i σ H → New H H' T (.tup [.int i, x]) → g (.ref T) σ H' fun σ2 H2 => tb { D with nx := Pv (i + 1), ct := Pv (i + 1), bk := D.nx } σ2 H2) (hd : ∀ σ H, Pv xs.length σ H → D.nx σ H) :
    ∃ W : Nat → Nat → St → Hp → Prop, (∃ m, W 0 m σ H) ∧ ∀ i m σ H, W i m σ H →
      ((Ite K a xs).stop i H ∧ D.nx σ H) ∨ ((Ite K a xs).go i H ∧ ∃ N : St → Hp → Prop, (∀ σ' H', N σ' H' → ∃ m', m' < m ∧ W (i + 1) m' σ' H') ∧ ∀ x H', (Ite K a xs).yld i H x H' → g x σ H' fun σ2 H2 => tb { D with nx := N, ct := N, bk := D.nx } σ2 H2) := by
  refine ⟨fun i m σ H => m = xs.length - i ∧ i ≤ xs.length ∧ Pv i σ H, ⟨xs.length, by simp, Nat.zero_le _, h0⟩, ?_⟩
  rintro i m σ H ⟨rfl, hi, p⟩
  have q := hl i σ H hi p
  by_cases hlt : i < xs.length
  · refine .inr ⟨⟨q, hlt⟩, Pv (i + 1), fun σ' H' p' => ⟨xs.length - (i + 1), by omega, rfl, hlt, p'⟩, fun x H' y => ?_⟩
    obtain ⟨T, v, rfl, hv, n⟩ := y
    exact hs i v T σ H H' hv p n
  · have e : i = xs.length := by omega
    subst e
    exact .inl ⟨⟨q, Nat.le_refl _⟩, hd σ H p⟩
theorem boot_reversed : bootBuiltins "reversed" = some (.type "reversed") := by decide +kernel
theorem lri_no_len : typeLookup (.type "list_reverseiterator") (Str.ofString "__len__") = pure none := by rw [typeLookup_type, builtinLookup_eq_fast]; kernel_rfl
theorem lri_hint : typeLookup (.type "list_reverseiterator") (Str.ofString "__length_hint__") = pure (some (.builtin "list_reverseiterator.__length_hint__")) := by rw [typeLookup_type, builtinLookup_eq_fast]; kernel_rfl
theorem hint_rev {prog : Program} {w : World} {A : Around} {E : Value → Shared → Prop} {s : Shared} {r : Addr} {Q : Bool → Shared → Prop} (hT : s.TypeIs (.ref r) "list_reverseiterator") (h : Q false s) :
    wpAny (model prog w) A (Builtin.List.listLengthHint (.ref r)) Q E s := by
  unfold Builtin.List.listLengthHint
  refine wpAny_bind (wpAny_specialOf hT lri_no_len ?_)
  show wpAny _ _ (specialOf (Value.ref r) (Str.ofString "__length_hint__") >>= _) _ _ _
  refine wpAny_bind (wpAny_specialOf hT lri_hint ?_)
  generalize hid : ("list_reverseiterator.__length_hint__" : String) = id0
  wp_delta
  rw [show splitId id0 = some ("list_reverseiterator", "__length_hint__") from by subst hid; decide +kernel]
  subst hid
  refine wpAny_bind (wpAny_isInstance (T := "list_reverseiterator") (b := true) hT (by rw [isSubtype_type]; kernel_rfl) ?_)
  refine wpAny_ite_split (fun hab => absurd hab (by decide)) (fun _ => ?_)
  refine wpAny_ite_split (fun _ => ?_) (fun hab => absurd (by decide +kernel) hab)
  refine wpAny_ite_split (fun hab => absurd hab (by decide +kernel)) (fun _ => ?_)
  exact wpAny_pure h
section
variable {prog : Program} {w : World} {A : Around} {E : Value → Shared → Prop} {s : Shared} {I l S : Addr} {items : Array Value}
theorem extend_rev {R : Result → Shared → Prop} {c₀ : Nat} {res : Value} (hh : A.handled = none) (hI : s.heap.IsRevIter I l ((items.size : Int) - 1)) (hl : s.heap.IsList l items) (hne : l ≠ I) (hSI : S ≠ I) (hSl : S ≠ l)
    (hS : s.heap.get? S = some { cls := .type "list", data := .seq #[] c₀ }) (hn : items.size ≤ sizeLine)
    (hR : ∀ h' tk acc' c', (∀ b o, b ≠ S → b ≠ I → s.heap.get? b = some o → h'.get? b = some o) → h'.get? S = some { cls := .type "list", dict := none, data := .seq acc' c', slots := #[] } → PySem.ItemsOf (fun i v => items[items.size - 1 - i]? = some v) acc' items.size →
      R (.ok (.ret res)) { s with heap := h', toks := tk }) :
    wpAny (model prog w) A.in1 (Builtin.List.listExtendWith (.ref S) (.ref I) res)
      (fun fin s' => match fin with | .done f => R (.ok f) s' | .again c' => c'.quiet = true ∧ codeAny (model prog w) A c' R s') (fun e s' => R (.error e) s') s := by
  have W := Walks.listRev (prog := prog) (w := w) (A := A.in1) hh I l hne items
  have hSf : S ∉ [I, l] := by simp [hSI, hSl]
  have st : (0 : Nat) ≤ items.size ∧ s.heap.IsRevIter I l ((items.size : Int) - 1 - ((0 : Nat) : Int)) ∧ s.heap.IsList l items := ⟨Nat.zero_le _, by simpa using hI, hl⟩
  have fin : codeAny (model prog w) A (.builtin "list.extend.loop" ⟨[.ref S, .ref I, res], []⟩) R s := by
    refine codeAny_extend_loopS W.toS hn S hSf res items.size 0 _ #[] c₀ rfl (Nat.zero_le _) st hS (PySem.ItemsOf.nil _) fun s' acc' c' hm hS' hacc => ?_
    rw [Moved.eq_with hm]
    exact hR s'.heap s'.toks acc' c' (fun b o h1 h2 q => hm.heap b o (by simp [h1, h2]) q) hS' hacc
  unfold Builtin.List.listExtendWith
  refine wpAny_bind (wpAny_typeOf (T := "list_reverseiterator") hI.typeIs ?_)
  have h1 : Builtin.List.listSameRef (.ref S) (.ref I) = false := by simp [Builtin.List.listSameRef, hSI]
  have h2 : (Value.type "list_reverseiterator" == Value.type "list") = false := by decide
  have h3 : (Value.type "list_reverseiterator" == Value.type "tuple") = false := by decide
  simp only [h1, h2, h3, Bool.or_false, Bool.false_eq_true, if_false]
  refine wpAny_bind (wpAny_pyIter_revIter hI ?_)
  refine wpAny_bind (wpAny_holding (hint_rev hI.typeIs ?_))
  refine wpAny_ite_split (fun hab => absurd hab (by first | decide | decide +kernel)) (fun _ => ?_)
  exact wpAny_pure ⟨plainId_quiet PySem.F.plain_extend_loop _, fin⟩
theorem init_rev {R : Result → Shared → Prop} (hh : A.handled = none) (hI : s.heap.IsRevIter I l ((items.size : Int) - 1)) (hl : s.heap.IsList l items) (hne : l ≠ I) (hSI : S ≠ I) (hSl : S ≠ l)
    (hS : s.heap.get? S = some { cls := .type "list", data := .seq #[] }) (hn : items.size ≤ sizeLine)
    (hR : ∀ h' tk acc' c', (∀ b o, b ≠ S → b ≠ I → s.heap.get? b = some o → h'.get? b = some o) → h'.get? S = some { cls := .type "list", dict := none, data := .seq acc' c', slots := #[] } → PySem.ItemsOf (fun i v => items[items.size - 1 - i]? = some v) acc' items.size →
      R (.ok (.ret .none)) { s with heap := h', toks := tk }) :
    wpAny (model prog w) A.in1 (Builtin.«list.__init__» ⟨[.ref S, .ref I], []⟩)
      (fun fin s' => match fin with | .done f => R (.ok f) s' | .again c' => c'.quiet = true ∧ codeAny (model prog w) A c' R s') (fun e s' => R (.error e) s') s := by
  show wpAny _ _ (Builtin.List.listItems (.ref S) >>= fun old => Builtin.List.listUpdate (.ref S) (fun _ => #[]) >>= fun _ => letGo old.toList.reverse >>= fun _ => Builtin.List.listExtendWith (.ref S) (.ref I) .none) _ _ s
  refine wpAny_bind ?_
  unfold Builtin.List.listItems
  refine wpAny_bind (wpAny_seqItems hS rfl (wpAny_pure (wpAny_bind ?_)))
  show wpAny _ _ (updateSeq S (fun _ => #[])) _ _ _
  refine wpAny_updateSeq hS rfl (wpAny_bind (wpAny_letGo ?_))
  have hS2 := Heap.get?_update_self (Obj.mapSeq (fun _ => (#[] : Array Value))) hS rfl
  have oth : ∀ b o, b ≠ S → s.heap.get? b = some o → (s.heap.update S (Obj.mapSeq (fun _ => (#[] : Array Value)))).get? b = some o := fun b o hb q => by
    rw [Heap.get?_update_other _ _ (Ne.symm hb)]
    exact q
  exact extend_rev (c₀ := _) hh (hI.at fun o q => oth I o (Ne.symm hSI) q) (hl.at fun o q => oth l o (Ne.symm hSl) q) hne hSI hSl hS2 hn fun h' tk acc' c' hk hS' hacc => hR h' tk acc' c' (fun b o h1 h2 q => hk b o h1 h2 (oth b o h1 q)) hS' hacc
theorem list_rev {Q : Value → Shared → Prop} (hh : A.handled = none) (hI : s.heap.IsRevIter I l ((items.size : Int) - 1)) (hl : s.heap.IsList l items) (hne : l ≠ I) (hn : items.size ≤ sizeLine)
    (hQ : ∀ h' tk acc' c', (∀ b o, b ≠ I → s.heap.get? b = some o → h'.get? b = some o) → h'.get? s.heap.objs.size = some { cls := .type "list", dict := none, data := .seq acc' c', slots := #[] } →
      PySem.ItemsOf (fun i v => items[items.size - 1 - i]? = some v) acc' items.size → Q (.ref s.heap.objs.size) { s with heap := h', toks := tk }) :
    wpAny (model prog w) A (call (.type "list") [.ref I]) Q E s := by
  have hS : (s.heap.push { cls := .type "list", data := .seq #[] }).get? s.heap.objs.size = some { cls := .type "list", data := .seq #[] } := Heap.get?_push_size _ rfl
  have up : ∀ b o, s.heap.get? b = some o → (s.heap.push { cls := .type "list", data := .seq #[] }).get? b = some o := fun b o q => Heap.get?_push_of_some _ q
  have hIlt : I < s.heap.objs.size := by
    obtain ⟨o, q, _⟩ := hI
    exact Heap.lt_size q
  have hllt : l < s.heap.objs.size := by
    obtain ⟨o, q, _⟩ := hl
    exact Heap.lt_size q
  refine callType_codes PySem.F.called_list (PySem.F.typeCall_list_1 _) PySem.F.entry_list_init
    (Q₁ := fun v z => v = .ref s.heap.objs.size ∧ z = { s with heap := s.heap.push { cls := .type "list", data := .seq #[] } }) (code_list_new _ ⟨rfl, rfl⟩) ?_
  rintro _ _ ⟨rfl, rfl⟩
  refine ⟨⟨_, hS, rfl⟩, PySem.F.args_list_init_2 _ _, ?_⟩
  refine init_rev (A := A.in1) (s := { s with heap := s.heap.push { cls := .type "list", data := .seq #[] } }) hh (hI.at fun o q => up I o q) (hl.at fun o q => up l o q) hne (Nat.ne_of_gt hIlt) (Nat.ne_of_gt hllt) hS hn fun h' tk acc' c' hk hS' hacc => ?_
  exact ⟨rfl, hQ h' tk acc' c' (fun b o hb q => hk b o (Nat.ne_of_lt (Heap.lt_size q)) hb (up b o q)) hS' hacc⟩
end
def tLRev (K : PySem.W.Frag) (ta : TA) : TE := fun σ H Q => ta σ H fun vs H1 => ∃ a xs, vs = [.ref a] ∧ SqL K H1 a xs ∧ ∀ l H', New H1 H' l (.lst xs.reverse) → Q (.ref l) H'
theorem pe_listRev {X : Cx} {e : Expr} {ta : TA} {p1 p2 pos1 pos2 : Pos} (hc : X.calm = true) (gl : Gl X "list") (ml : X.mg "list" = none) (gr : Gl X "reversed") (mr : X.mg "reversed" = none) (ha : PA X [e] ta)
    (h1 : starEach [.Call (.Name "reversed" p2) [e] [] pos2] X.env = [(false, eval (.Call (.Name "reversed" p2) [e] [] pos2) X.env)] := by rfl) (h2 : starEach [e] X.env = [(false, eval e X.env)] := by rfl) :
    PE X (.Call (.Name "list" p1) [.Call (.Name "reversed" p2) [e] [] pos2] [] pos1) (tLRev X.K ta) := by
  intro pins s σ H Q I h
  refine wpAny_Call_Name_kw (ld_blt I gl ml boot_list (PyProof.Rows.callWith_type1 ?_ h1 rfl))
  rw [h1]
  refine Calls.spliced_cons ?_
  refine Call_ (ld_blt I gr mr boot_reversed (PyProof.Rows.callWith_type1 (thn (ha pos2 pins s σ H _ I h) fun us s1 ⟨vs, H1, I1, r1, q1⟩ => ?_) h2 rfl))
  obtain ⟨a, xs, rfl, hq, q⟩ := q1
  obtain ⟨u, rfl, rx⟩ := vals1 r1
  cases rx
  obtain ⟨its, rv, pl, hz⟩ := I1.list hq
  have hlen := rv.length
  refine call_reversed_list pl.isList (Calls.spliced_nil ?_)
  have hlt : a < s1.heap.objs.size := by
    obtain ⟨o, q, _⟩ := pl.isList
    exact Heap.lt_size q
  have hrev : (s1.heap.push (revObj a ((its.toArray.size : Int) - 1))).IsRevIter s1.heap.objs.size a ((its.toArray.size : Int) - 1) := ⟨_, Heap.get?_push_size _ rfl, rfl, rfl⟩
  refine list_rev (s := { s1 with heap := s1.heap.push (revObj a ((its.toArray.size : Int) - 1)) }) (I1.ok.hd hc) hrev (pl.isList.at fun o z => Heap.get?_push_of_some _ z) (Nat.ne_of_lt hlt) (by rw [List.size_toArray, ← hlen]; exact hz) fun h' tk acc c hk hD hI => ?_
  have hk' : ∀ b o, s1.heap.get? b = some o → h'.get? b = some o := fun b o z => hk b o (Nat.ne_of_lt (Heap.lt_size z)) (Heap.get?_push_of_some _ z)
  have hsz : (s1.heap.push (revObj a ((its.toArray.size : Int) - 1))).objs.size = s1.heap.objs.size + 1 := Heap.size_push ..
  have hge : s1.heap.objs.size ≤ (s1.heap.push (revObj a ((its.toArray.size : Int) - 1))).objs.size := by rw [hsz]; exact Nat.le_succ _
  refine ⟨.ref (s1.heap.push (revObj a ((its.toArray.size : Int) - 1))).objs.size, _, I1.laid (t' := tk) (o := .lst xs.reverse) hk' hge ?_, rfl, q _ _ (.mk' (I1.hok.fresh hge))⟩
  refine ⟨by rw [List.length_reverse]; exact hz, acc.toList, c, vals_by (by
    have e := hI.1
    have e2 : acc.toList.length = acc.size := Array.length_toList
    have e3 : its.toArray.size = its.length := List.size_toArray ..
    have e4 : xs.reverse.length = xs.length := List.length_reverse
    omega) fun j x u e1 e2 => ?_, by simpa using hD⟩
  have e3 := hI.2 j u (by rw [← Array.getElem?_toList]; exact e2)
  have hj : j < xs.length := by
    have := (List.getElem?_eq_some_iff.mp e1).1
    rwa [List.length_reverse] at this
  rw [List.getElem?_reverse hj] at e1
  obtain ⟨u', e4, r4⟩ := rv.get e1
  have e5 : its[xs.length - 1 - j]? = some u := by
    rw [List.size_toArray, ← hlen] at e3
    simpa using e3
  rw [e5] at e4
  cases e4
  exact r4
section
variable {X : Cx}
def rSetA : V → V → V → Hp → (Hp → Prop) → Prop := fun o i v H Q => ∃ p xs k j, o = .ref p ∧ i = .int k ∧ H p = some (.lst xs) ∧ ixN xs.length k = some j ∧ ∀ H', Off p H H' → H' p = some (.lst (xs.set j v)) → Q H'
theorem set_listA : PSet X rSetA := by
  intro pins s σ H o i v ov iv u Q I ro ri rv h
  obtain ⟨p, xs, k, j, e1, e2, hp, hj, q⟩ := h
  exact set_list pins s σ H o i v ov iv u Q I ro ri rv ⟨p, xs, k, j, e1, e2, hp, hj, q _ Off.upd upd_same⟩
def rSlA (K : PySem.W.Frag) : V → Option Int → Option Int → Hp → VK → Prop := fun x lo hi H Q => ∃ a xs, x = .ref a ∧ SqL K H a xs ∧ ∀ p H', New H H' p (.lst (cutV xs lo hi)) → Q (.ref p) H'
theorem sl_listA : SlR X (rSlA X.K) := by
  intro pins s σ H x v vl vu lo hi sl Q I rx hs pl pu h
  obtain ⟨a, xs, e, hx, q⟩ := h
  exact sl_list pins s σ H x v vl vu lo hi sl Q I rx hs pl pu ⟨a, xs, e, hx, fun p hp => q p _ (.mk' hp)⟩
def rClearA : V → List V → Hp → VK → Prop := fun x vs H Q => ∃ l xs, x = .ref l ∧ vs = [] ∧ H l = some (.lst xs) ∧ ∀ H', Off l H H' → H' l = some (.lst []) → Q .non H'
theorem mt_clearA : MtM X "list.clear" rClearA := by
  intro pins s σ H x vs v us Q I rx rv h
  obtain ⟨l, xs, e1, e2, hH, q⟩ := h
  exact mt_clear pins s σ H x vs v us Q I rx rv ⟨l, xs, e1, e2, hH, q _ Off.upd upd_same⟩
theorem pe_clearA {o : Expr} {to : TE} {apos cpos : Pos} (ho : PE X o to) (hbase : attributeBase o "clear" X.env (eval o X.env) = eval o X.env := by rfl) (hline : (apos.endLine == cpos.line) = true := by rfl) :
    PE X (.Call (.Attribute o "clear" apos) [] [] cpos) (tBM0 X.K "list" rClearA to) :=
  pe_bm0 PySem.F.plainAttrs_list PySem.F.slot_list_clear PySem.F.type_list_clear mt_clearA ho hbase hline
def rLOfA (K : PySem.W.Frag) : List V → Hp → VK → Prop := fun xs H Q => ∃ p ys, xs = [.ref p] ∧ (SqL K H p ys ∨ SqT K H p ys) ∧ ∀ l H', New H H' l (.lst ys) → Q (.ref l) H'
theorem call_list_ofA : CallR X (.type "list") (rLOfA X.K) := by
  intro pins s σ H xs us Q I r h
  obtain ⟨p, ys, e, hq, q⟩ := h
  exact call_list_of pins s σ H xs us Q I r ⟨p, ys, e, hq, fun l hl => q l _ (.mk' hl)⟩
end
section
variable {σ : St} {H : Hp} {Q : VK} {v x y : V} {i j : Int} {K : PySem.W.Frag} {t ta tb tc : TE} {tr : TA} {s u : TS} {D : Ends} {c d : TT}
theorem wv0 {r : St} (h : Q v H) : tVar 0 (some v :: r) H Q := ⟨v, rfl, h⟩
theorem wv1 {o0 : Option V} {r : St} (h : Q v H) : tVar 1 (o0 :: some v :: r) H Q := ⟨v, rfl, h⟩
theorem wn1 {o0 : Option V} {o : Option V} {r : St} {R : St → Hp → Prop} (h : R (o0 :: some v :: r) H) : gName 1 v (o0 :: o :: r) H R := h
theorem wv2 {o0 o1 : Option V} {r : St} (h : Q v H) : tVar 2 (o0 :: o1 :: some v :: r) H Q := ⟨v, rfl, h⟩
theorem wn2 {o0 o1 : Option V} {o : Option V} {r : St} {R : St → Hp → Prop} (h : R (o0 :: o1 :: some v :: r) H) : gName 2 v (o0 :: o1 :: o :: r) H R := h
theorem wv3 {o0 o1 o2 : Option V} {r : St} (h : Q v H) : tVar 3 (o0 :: o1 :: o2 :: some v :: r) H Q := ⟨v, rfl, h⟩
theorem wn3 {o0 o1 o2 : Option V} {o : Option V} {r : St} {R : St → Hp → Prop} (h : R (o0 :: o1 :: o2 :: some v :: r) H) : gName 3 v (o0 :: o1 :: o2 :: o :: r) H R := h
theorem wv4 {o0 o1 o2 o3 : Option V} {r : St} (h : Q v H) : tVar 4 (o0 :: o1 :: o2 :: o3 :: some v :: r) H Q := ⟨v, rfl, h⟩
theorem wn4 {o0 o1 o2 o3 : Option V} {o : Option V} {r : St} {R : St → Hp → Prop} (h : R (o0 :: o1 :: o2 :: o3 :: some v :: r) H) : gName 4 v (o0 :: o1 :: o2 :: o3 :: o :: r) H R := h
theorem wv5 {o0 o1 o2 o3 o4 : Option V} {r : St} (h : Q v H) : tVar 5 (o0 :: o1 :: o2 :: o3 :: o4 :: some v :: r) H Q := ⟨v, rfl, h⟩
theorem wn5 {o0 o1 o2 o3 o4 : Option V} {o : Option V} {r : St} {R : St → Hp → Prop} (h : R (o0 :: o1 :: o2 :: o3 :: o4 :: some v :: r) H) : gName 5 v (o0 :: o1 :: o2 :: o3 :: o4 :: o :: r) H R := h
theorem wv6 {o0 o1 o2 o3 o4 o5 : Option V} {r : St} (h : Q v H) : tVar 6 (o0 :: o1 :: o2 :: o3 :: o4 :: o5 :: some v :: r) H Q := ⟨v, rfl, h⟩
theorem wn6 {o0 o1 o2 o3 o4 o5 : Option V} {o : Option V} {r : St} {R : St → Hp → Prop} (h : R (o0 :: o1 :: o2 :: o3 :: o4 :: o5 :: some v :: r) H) : gName 6 v (o0 :: o1 :: o2 :: o3 :: o4 :: o5 :: o :: r) H R := h
theorem wv7 {o0 o1 o2 o3 o4 o5 o6 : Option V} {r : St} (h : Q v H) : tVar 7 (o0 :: o1 :: o2 :: o3 :: o4 :: o5 :: o6 :: some v :: r) H Q := ⟨v, rfl, h⟩
theorem wn7 {o0 o1 o2 o3 o4 o5 o6 : Option V} {o : Option V} {r : St} {R : St → Hp → Prop} (h : R (o0 :: o1 :: o2 :: o3 :: o4 :: o5 :: o6 :: some v :: r) H) : gName 7 v (o0 :: o1 :: o2 :: o3 :: o4 :: o5 :: o6 :: o :: r) H R := h
theorem wv8 {o0 o1 o2 o3 o4 o5 o6 o7 : Option V} {r : St} (h : Q v H) : tVar 8 (o0 :: o1 :: o2 :: o3 :: o4 :: o5 :: o6 :: o7 :: some v :: r) H Q := ⟨v, rfl, h⟩
theorem wn8 {o0 o1 o2 o3 o4 o5 o6 o7 : Option V} {o : Option V} {r : St} {R : St → Hp → Prop} (h : R (o0 :: o1 :: o2 :: o3 :: o4 :: o5 :: o6 :: o7 :: some v :: r) H) : gName 8 v (o0 :: o1 :: o2 :: o3 :: o4 :: o5 :: o6 :: o7 :: o :: r) H R := h
theorem wv9 {o0 o1 o2 o3 o4 o5 o6 o7 o8 : Option V} {r : St} (h : Q v H) : tVar 9 (o0 :: o1 :: o2 :: o3 :: o4 :: o5 :: o6 :: o7 :: o8 :: some v :: r) H Q := ⟨v, rfl, h⟩
theorem wn9 {o0 o1 o2 o3 o4 o5 o6 o7 o8 : Option V} {o : Option V} {r : St} {R : St → Hp → Prop} (h : R (o0 :: o1 :: o2 :: o3 :: o4 :: o5 :: o6 :: o7 :: o8 :: some v :: r) H) : gName 9 v (o0 :: o1 :: o2 :: o3 :: o4 :: o5 :: o6 :: o7 :: o8 :: o :: r) H R := h
theorem wv10 {o0 o1 o2 o3 o4 o5 o6 o7 o8 o9 : Option V} {r : St} (h : Q v H) : tVar 10 (o0 :: o1 :: o2 :: o3 :: o4 :: o5 :: o6 :: o7 :: o8 :: o9 :: some v :: r) H Q := ⟨v, rfl, h⟩
theorem wn10 {o0 o1 o2 o3 o4 o5 o6 o7 o8 o9 : Option V} {o : Option V} {r : St} {R : St → Hp → Prop} (h : R (o0 :: o1 :: o2 :: o3 :: o4 :: o5 :: o6 :: o7 :: o8 :: o9 :: some v :: r) H) : gName 10 v (o0 :: o1 :: o2 :: o3 :: o4 :: o5 :: o6 :: o7 :: o8 :: o9 :: o :: r) H R := h
theorem wv11 {o0 o1 o2 o3 o4 o5 o6 o7 o8 o9 o10 : Option V} {r : St} (h : Q v H) : tVar 11 (o0 :: o1 :: o2 :: o3 :: o4 :: o5 :: o6 :: o7 :: o8 :: o9 :: o10 :: some v :: r) H Q := ⟨v, rfl, h⟩
theorem wn11 {o0 o1 o2 o3 o4 o5 o6 o7 o8 o9 o10 : Option V} {o : Option V} {r : St} {R : St → Hp → Prop} (h : R (o0 :: o1 :: o2 :: o3 :: o4 :: o5 :: o6 :: o7 :: o8 :: o9 :: o10 :: some v :: r) H) : gName 11 v (o0 :: o1 :: o2 :: o3 :: o4 :: o5 :: o6 :: o7 :: o8 :: o9 :: o10 :: o :: r) H R := h
theorem wv12 {o0 o1 o2 o3 o4 o5 o6 o7 o8 o9 o10 o11 : Option V} {r : St} (h : Q v H) : tVar 12 (o0 :: o1 :: o2 :: o3 :: o4 :: o5 :: o6 :: o7 :: o8 :: o9 :: o10 :: o11 :: some v :: r) H Q := ⟨v, rfl, h⟩
theorem wn12 {o0 o1 o2 o3 o4 o5 o6 o7 o8 o9 o10 o11 : Option V} {o : Option V} {r : St} {R : St → Hp → Prop} (h : R (o0 :: o1 :: o2 :: o3 :: o4 :: o5 :: o6 :: o7 :: o8 :: o9 :: o10 :: o11 :: some v :: r) H) : gName 12 v (o0 :: o1 :: o2 :: o3 :: o4 :: o5 :: o6 :: o7 :: o8 :: o9 :: o10 :: o11 :: o :: r) H R := h
theorem wv13 {o0 o1 o2 o3 o4 o5 o6 o7 o8 o9 o10 o11 o12 : Option V} {r : St} (h : Q v H) : tVar 13 (o0 :: o1 :: o2 :: o3 :: o4 :: o5 :: o6 :: o7 :: o8 :: o9 :: o10 :: o11 :: o12 :: some v :: r) H Q := ⟨v, rfl, h⟩
theorem wn13 {o0 o1 o2 o3 o4 o5 o6 o7 o8 o9 o10 o11 o12 : Option V} {o : Option V} {r : St} {R : St → Hp → Prop} (h : R (o0 :: o1 :: o2 :: o3 :: o4 :: o5 :: o6 :: o7 :: o8 :: o9 :: o10 :: o11 :: o12 :: some v :: r) H) : gName 13 v (o0 :: o1 :: o2 :: o3 :: o4 :: o5 :: o6 :: o7 :: o8 :: o9 :: o10 :: o11 :: o12 :: o :: r) H R := h
theorem w_c (h : Q v H) : tC v σ H Q := h
theorem w_i0 {f : Int → Int → V} (h : Q (f i j) H) : rI0 f (.int i) (.int j) H Q := ⟨i, j, rfl, rfl, h⟩
theorem w_mod {f : Int → Int → V} (hj : 0 < j) (h : Q (f i j) H) : rI (fun _ j => 0 < j) f (.int i) (.int j) H Q := ⟨i, j, rfl, rfl, hj, h⟩
theorem w_div {f : Int → Int → V} (h0 : 0 < j) (h1 : j < 1073741824) (h : Q (f i j) H) : rI CDiv f (.int i) (.int j) H Q := ⟨i, j, rfl, rfl, ⟨h0, h1⟩, h⟩
theorem w_pow {f : Int → Int → V} (h0 : 0 ≤ j) (h1 : j ≤ 1000000) (h2 : i.natAbs < 2 ^ 64) (h : Q (f i j) H) : rI CPow f (.int i) (.int j) H Q := ⟨i, j, rfl, rfl, ⟨h0, h1, h2⟩, h⟩
theorem w_mulL {f : Int → Int → V} (h0 : -(2 ^ 64) < i) (h1 : i < 2 ^ 64) (h : Q (f i j) H) : rI CMul f (.int i) (.int j) H Q := ⟨i, j, rfl, rfl, .inl ⟨h0, h1⟩, h⟩
theorem w_mulR {f : Int → Int → V} (h0 : -(2 ^ 64) < j) (h1 : j < 2 ^ 64) (h : Q (f i j) H) : rI CMul f (.int i) (.int j) H Q := ⟨i, j, rfl, rfl, .inr ⟨h0, h1⟩, h⟩
theorem w_u {g : Int → V} (h : Q (g i) H) : rU g (.int i) H Q := ⟨i, rfl, h⟩
theorem w_un {r : V → Hp → VK → Prop} (h : ta σ H fun x H1 => r x H1 Q) : tUn r ta σ H Q := h
theorem w_eqi (h : Q (.bl (decide (i = j))) H) : rEq (.int i) (.int j) H Q := ⟨rfl, by rw [show decide (V.int i = V.int j) = decide (i = j) from decide_eq_decide.mpr ⟨fun e => by cases e; rfl, fun e => by rw [e]⟩]; exact h⟩
theorem w_nei (h : Q (.bl (!decide (i = j))) H) : rNe (.int i) (.int j) H Q := ⟨rfl, by rw [show decide (V.int i = V.int j) = decide (i = j) from decide_eq_decide.mpr ⟨fun e => by cases e; rfl, fun e => by rw [e]⟩]; exact h⟩
theorem w_eqs {a b : Str} (h : Q (.bl (decide (a = b))) H) : rEq (.str a) (.str b) H Q := ⟨rfl, by rw [show decide (V.str a = V.str b) = decide (a = b) from decide_eq_decide.mpr ⟨fun e => by cases e; rfl, fun e => by rw [e]⟩]; exact h⟩
theorem w_bl {k : Bool} {R : Bool → Prop} (h : R k) : ∃ c, V.bl k = .bl c ∧ R c := ⟨k, rfl, h⟩
theorem w_not {R : Bool → Hp → Prop} (h : c σ H fun b H1 => R (!b) H1) : tNot c σ H R := h
theorem w_and {R : Bool → Hp → Prop} (h : c σ H fun b H1 => if b = true then d σ H1 R else R false H1) : tAnd c d σ H R := h
theorem w_or {R : Bool → Hp → Prop} (h : c σ H fun b H1 => if b = true then R true H1 else d σ H1 R) : tOr c d σ H R := h
theorem w_notV (h : ta σ H fun x H1 => ∃ c, x = .bl c ∧ Q (.bl (!c)) H1) : tNotV ta σ H Q := h
theorem w_andV (h : ta σ H fun x H1 => ∃ c, x = .bl c ∧ if c = true then tb σ H1 Q else Q (.bl false) H1) : tAndV ta tb σ H Q := h
theorem w_chain {r r' : R2} (h : ta σ H fun x H1 => tb σ H1 fun y H2 => r x y H2 fun z H3 => ∃ k, z = .bl k ∧ if k = true then tc σ H3 fun w H4 => r' y w H4 Q else Q (.bl false) H3) : tChain r r' ta tb tc σ H Q := h
theorem w_rt {nx bk ct : St → Hp → Prop} {rt : VK} (h : rt v H) : (Ends.mk nx rt bk ct).rt v H := h
theorem w_call {sp : Sp} {E : XK} (h : tr σ H fun vs H1 => sp vs H1 Q E) : tCall sp [] E tr σ H Q := by
  have e : (fun vs H1 => sp (vs ++ []) H1 Q E) = fun vs H1 => sp vs H1 Q E := by
    funext vs H1
    rw [List.append_nil]
  show tr σ H fun vs H1 => sp (vs ++ []) H1 Q E
  rw [e]
  exact h
theorem w_bm {T : String} {r : V → List V → Hp → VK → Prop} {to : TE} (h : to σ H fun x H1 => tyV K T x H1 ∧ tr σ H1 fun xs H2 => r x xs H2 Q) : tBM K T r to tr σ H Q := h
theorem w_bm0 {T : String} {r : V → List V → Hp → VK → Prop} {to : TE} (h : to σ H fun x H1 => tyV K T x H1 ∧ r x [] H1 Q) : tBM0 K T r to σ H Q := h
theorem w_sub {to ti : TE} {ts : TSet} {R : St → Hp → Prop} (h : to σ H fun o H1 => ti σ H1 fun i H2 => ts o i v H2 fun H3 => R σ H3) : gSub to ti ts v σ H R := h
theorem w_slice {r : V → Option Int → Option Int → Hp → VK → Prop} {tl th : TO} (h : t σ H fun x H1 => tl σ H1 fun l H2 => th σ H2 fun u H3 => r x l u H3 Q) : tSl r t tl th σ H Q := h
theorem w_noPart {R : Option Int → Hp → Prop} (h : R none H) : tNoPart σ H R := h
theorem w_part {R : Option Int → Hp → Prop} (h : t σ H fun x H1 => ∃ i, x = .int i ∧ R (some i) H1) : tPart t σ H R := h
theorem w_int {R : Int → Prop} (h : R i) : ∃ k, V.int i = .int k ∧ R k := ⟨i, rfl, h⟩
theorem w_ixL {p : Addr} {xs : List V} (h : SqL K H p xs) (e : atI xs i = some v) (k : Q v H) : rIxL K (.ref p) (.int i) H Q := ⟨p, xs, i, v, rfl, rfl, h, e, k⟩
theorem w_ixT {p : Addr} {xs : List V} (h : SqT K H p xs) (e : atI xs i = some v) (k : Q v H) : rIxT K (.ref p) (.int i) H Q := ⟨p, xs, i, v, rfl, rfl, h, e, k⟩
def rLen (K : PySem.W.Frag) : List V → Hp → VK → Prop := fun xs H Q => ∃ x n, xs = [x] ∧ LenV K x H n ∧ Q (.int n) H
theorem w_lenL {p : Addr} {xs : List V} (h : SqL K H p xs) (k : Q (.int xs.length) H) : rLen K [.ref p] H Q := ⟨_, xs.length, rfl, .inl ⟨xs, h, rfl⟩, k⟩
theorem w_lenT {p : Addr} {xs : List V} (h : SqT K H p xs) (k : Q (.int xs.length) H) : rLen K [.ref p] H Q := ⟨_, xs.length, rfl, .inr ⟨xs, h, rfl⟩, k⟩
theorem w_lenS {z : Str} (h : z.length ≤ sizeLine) (k : Q (.int z.length) H) : rLen K [.str z] H Q := ⟨_, z.length, rfl, ⟨h, rfl⟩, k⟩
def rMax2 : List V → Hp → VK → Prop := fun xs H Q => ∃ i j, xs = [.int i, .int j] ∧ Q (.int (if j > i then j else i)) H
def rMin2 : List V → Hp → VK → Prop := fun xs H Q => ∃ i j, xs = [.int i, .int j] ∧ Q (.int (if j < i then j else i)) H
theorem w_max (h : Q (.int (max i j)) H) : rMax2 [.int i, .int j] H Q := ⟨i, j, rfl, by
  rw [show (if j > i then j else i) = max i j by rw [Int.max_def]; split <;> split <;> omega]
  exact h⟩
theorem w_min (h : Q (.int (min i j)) H) : rMin2 [.int i, .int j] H Q := ⟨i, j, rfl, by
  rw [show (if j < i then j else i) = min i j by rw [Int.min_def]; split <;> split <;> omega]
  exact h⟩
def rInt1 : List V → Hp → VK → Prop := fun xs H Q => (∃ i, xs = [.int i] ∧ Q (.int i) H) ∨ ∃ k, xs = [.bl k] ∧ Q (.int (if k then 1 else 0)) H
theorem w_intB {k : Bool} (h : Q (.int (if k then 1 else 0)) H) : rInt1 [.bl k] H Q := .inr ⟨k, rfl, h⟩
theorem w_is {x d : V} {tv : Value} {b : Bool} (ty : TyOf K H x tv) (e : clsIs K tv d = some b) (h : Q (.bl b) H) : rIsT K [x, d] H Q := ⟨x, d, tv, b, rfl, ty, e, h⟩
def rNotN : R2 := fun x y H Q => y = .non ∧ Q (.bl (!decide (x = .non))) H
end
section
variable {X : Cx}
theorem call_lenN : CallR X (.builtin "len") (rLen X.K) := call_len
theorem call_maxN (hc : X.calm = true) : CallR X (.builtin "max") rMax2 := call_max2 hc
theorem call_minN (hc : X.calm = true) : CallR X (.builtin "min") rMin2 := call_min2 hc
theorem call_intN : CallR X (.type "int") rInt1 := call_int1
theorem op_notNN : OpR X (compareOp .IsNot) rNotN := op_notN
end
section
variable {A B p : Prop} [Decidable p] {b : Bool}
theorem i_dec (h1 : p → A) (h2 : ¬ p → B) : if decide p = true then A else B := by
  by_cases h : p
  · rw [if_pos (decide_eq_true h)]; exact h1 h
  · rw [if_neg (by simpa using h)]; exact h2 h
theorem i_b (h1 : b = true → A) (h2 : b = false → B) : if b = true then A else B := by
  cases b with
  | true => exact iteT (h1 rfl)
  | false => exact iteF (h2 rfl)
theorem i_T (h : b = true) (k : A) : if b = true then A else B := by rw [if_pos h]; exact k
theorem i_F (h : b = false) (k : B) : if b = true then A else B := by rw [if_neg (by rw [h]; exact Bool.false_ne_true)]; exact k
theorem i_pos (h : p) (k : A) : if decide p = true then A else B := by rw [if_pos (decide_eq_true h)]; exact k
theorem i_neg (h : ¬ p) (k : B) : if decide p = true then A else B := by rw [if_neg (by simpa using h)]; exact k
theorem i_npos (h : p) (k : B) : if (!decide p) = true then A else B := by rw [if_neg (by simpa using h)]; exact k
theorem i_nneg (h : ¬ p) (k : A) : if (!decide p) = true then A else B := by rw [if_pos (by simpa using h)]; exact k
end
section
variable {H H0 H1 H2 H' : Hp} {p q a : Addr} {o u : HO} {xs ys : List V}
theorem New.trans (n1 : New H H1 p o) (n2 : New H1 H2 q u) : New H H2 q u := ⟨n1.s.trans n2.s, n2.e, fun a v e => n2.n a v (n1.s a v e)⟩
def TupsAt (H : Hp) (ys : List V) (rows : List (List V)) : Prop := ys.length = rows.length ∧ ∀ (j : Nat) (r : List V), rows[j]? = some r → ∃ q, ys[j]? = some (.ref q) ∧ H q = some (.tup r)
theorem TupsAt.same {rows : List (List V)} (s : Same H H') (h : TupsAt H ys rows) : TupsAt H' ys rows := ⟨h.1, fun j r e => let ⟨q, a, b⟩ := h.2 j r e; ⟨q, a, s _ _ b⟩⟩
theorem TupsAt.nil : TupsAt H [] [] := ⟨rfl, fun j r e => by simp at e⟩
theorem TupsAt.reverse {rows : List (List V)} (h : TupsAt H ys rows) : TupsAt H ys.reverse rows.reverse := by
  refine ⟨by rw [List.length_reverse, List.length_reverse, h.1], fun j r e => ?_⟩
  have hj : j < rows.length := by
    have := (List.getElem?_eq_some_iff.mp e).1
    rwa [List.length_reverse] at this
  rw [List.getElem?_reverse hj] at e
  obtain ⟨q, a, b⟩ := h.2 _ r e
  exact ⟨q, by rw [List.getElem?_reverse (by rw [h.1]; exact hj), h.1]; exact a, b⟩
end
section
variable {σ : St} {H : Hp} {Q : VK} {K : PySem.W.Frag} {tr : TA} {D : Ends} {i j : Int} {g : TG} {tb : TS} {a b : V} {p : Addr}
theorem w_tup2 {i0 i1 : Nat} {R : St → Hp → Prop} (hp : SqT K H p [a, b]) (h : gName i0 a σ H fun σ1 H1 => gName i1 b σ1 H1 R) : gTup K 2 (gCons (gName i0) (gCons (gName i1) gNil)) (.ref p) σ H R :=
  ⟨p, _, rfl, hp, rfl, _, _, rfl, _, _, rfl, rfl, h⟩
end
def rEqD (K : PySem.W.Frag) : R2 := fun x y H Q => ∃ d d', Rep K H d x ∧ Rep K H d' y ∧ depD d ≤ 100 ∧ Q (.bl (eqDt d d')) H
def rNeD (K : PySem.W.Frag) : R2 := fun x y H Q => ∃ d d', Rep K H d x ∧ Rep K H d' y ∧ depD d ≤ 100 ∧ Q (.bl (!eqDt d d')) H
theorem op_eq_dN {X : Cx} {k : Nat} (hr : Room k X.A) : OpR X (compareOp .Eq) (rEqD X.K) := op_eq_d hr
theorem op_ne_dN {X : Cx} {k : Nat} (hr : Room k X.A) : OpR X (compareOp .NotEq) (rNeD X.K) := op_ne_d hr
theorem map_set {α : Type} {N j : Nat} {F : Nat → α} {v : α} (hj : j < N) : ((List.range N).map F).set j v = (List.range N).map (fun k => if k = j then v else F k) := by
  apply List.ext_getElem?
  intro k
  rw [List.getElem?_set]
  by_cases hk : k < N
  · by_cases e : j = k
    · subst e
      simp [hj]
    · have e' : ¬ k = j := fun z => e z.symm
      simp [hk, e, e']
  · have e : ¬ j = k := by omega
    have h1 : ((List.range N).map F)[k]? = none := by simp; omega
    have h2 : ((List.range N).map (fun k => if k = j then v else F k))[k]? = none := by simp; omega
    rw [if_neg e, h1, h2]
end L2
namespace L2
open PySem PySem.Spec PyProof.Rows PySem.SeqAt
section
variable {X : Cx} {a : Expr} {ta : TE} {pos : Pos}
def rIsNB : R2 := fun x y H Q => ∃ a b, x = .bl a ∧ y = .bl b ∧ Q (.bl (!decide (a = b))) H
theorem op_isNB : OpR X (compareOp .IsNot) rIsNB := by
  intro pins s σ H x y v u Q I rx ry h
  obtain ⟨a, b, rfl, rfl, q⟩ := h
  cases rx
  cases ry
  exact wpAny_isNot_plain rfl (fin_bl I q (by cases a <;> cases b <;> rfl))
theorem w_isNB {H : Hp} {Q : VK} {a b : Bool} (h : Q (.bl (!decide (a = b))) H) : rIsNB (.bl a) (.bl b) H Q := ⟨a, b, rfl, rfl, h⟩
def idV : V → Bool
  | .non => true
  | .bl _ => true
  | .int _ => true
  | .str _ => true
  | .ref _ => true
  | _ => false
theorem same_eqAt {A : Around} {s : Shared} {x : V} {u v : Value} (f : idV x = true) (ru : RelV x u) (rv : RelV x v) : EqAt A s u v true := by
  cases x with
  | non => cases ru; cases rv; exact EqAt.same _
  | bl b => cases ru; cases rv; exact EqAt.same _
  | ref b => cases ru; cases rv; exact EqAt.same _
  | int i =>
    obtain ⟨t, rfl⟩ := ru
    obtain ⟨t', rfl⟩ := rv
    have := EqAt.int_int (A := A) (s := s) i t i t'
    rwa [beq_self_eq_true] at this
  | str z =>
    obtain ⟨t, rfl⟩ := ru
    obtain ⟨t', rfl⟩ := rv
    have := EqAt.str_str (A := A) (s := s) z t z t'
    rwa [beq_self_eq_true] at this
  | _ => exact absurd (show false = true from f) Bool.false_ne_true
end
def tRevSl (K : PySem.W.Frag) (te ts : TE) : TE := fun σ H Q => te σ H fun x H1 => ts σ H1 fun y H2 => ∃ a xs, x = .ref a ∧ y = .int (-1) ∧ SqL K H2 a xs ∧ ∀ p H', New H2 H' p (.lst xs.reverse) → Q (.ref p) H'
theorem pe_revSl {X : Cx} {e st : Expr} {te ts : TE} {pos p2 : Pos} (he : PE X e te) (hst : PE X st ts) : PE X (.Subscript e (.Slice none none (some st) p2) pos) (tRevSl X.K te ts) := by
  intro pins s σ H Q I h
  refine Subscript_ (thn (he pins s σ H _ I h) fun v s1 ⟨x, H1, I1, r1, q1⟩ => ?_)
  refine wpAny_Slice (wpAny_evalPart_none (wpAny_evalPart_none (wpAny_evalPart_some (thn (hst pins s1 σ H1 _ I1 q1) fun z s2 ⟨y, H2, I2, r2, q2⟩ => ?_))))
  obtain ⟨a, xs, rfl, rfl, hx, q⟩ := q2
  cases r1
  obtain ⟨t, rfl⟩ := r2
  have I3 : Inv X pins σ H2 { s2 with heap := s2.heap.push { cls := .type "slice", data := .fields #[.none, .none, .int (-1) t] } } := I2.kept (t' := s2.toks) fun b ob z => Heap.get?_push_of_some _ z
  obtain ⟨its, r, ht, hz⟩ := I3.list hx
  have hlen := r.length
  show wpAny (model X.prog X.w) X.A (subscriptTail e (.Slice none none (some st) p2) (.ref a) (.ref s2.heap.objs.size)) (EP X pins σ Q) X.xe { s2 with heap := s2.heap.push { cls := .type "slice", data := .fields #[.none, .none, .int (-1) t] } }
  refine tail_any (ops := [.ref a, .ref s2.heap.objs.size]) ht.isList.typeIs slot_list_getitem.lookup ?_ (by with_unfolding_all rfl)
  refine wpAny_getItem_list_slice (lo := none) (hi := none) (st := some (-1)) ht.isList (Heap.IsSliceOf.new ..) .none .none (.int (-1) t) (by decide) ?_ (by rw [List.size_toArray] <;> omega)
  rw [PySem.W.krv_pick]
  refine ⟨.ref (s2.heap.push { cls := .type "slice", data := .fields #[.none, .none, .int (-1) t] }).objs.size, _, I3.laid (t' := s2.toks) (o := .lst xs.reverse) (fun b ob z => Heap.get?_push_of_some _ z) (Nat.le_refl _) ?_, rfl, q _ _ (.mk' (I3.hok.fresh (Nat.le_refl _)))⟩
  exact ⟨by rw [List.length_reverse]; exact hz, its.reverse, 0, r.reverse, Heap.get?_push_size _ rfl⟩
theorem w_revSl {σ : St} {H : Hp} {Q : VK} {K : PySem.W.Frag} {te ts : TE} (h : te σ H fun x H1 => ts σ H1 fun y H2 => ∃ a xs, x = .ref a ∧ y = .int (-1) ∧ SqL K H2 a xs ∧ ∀ p H', New H2 H' p (.lst xs.reverse) → Q (.ref p) H') : tRevSl K te ts σ H Q := h
def Kp (b : Addr) (H H' : Hp) : Prop := ∀ x u, x ≠ b → H x = some u → H' x = some u
section
variable {b p : Addr} {H H1 H2 : Hp} {o : HO}
theorem Kp.trans (a : Kp b H H1) (c : Kp b H1 H2) : Kp b H H2 := fun x u n h => c x u n (a x u n h)
theorem Off.kp (f : Off b H H1) : Kp b H H1 := fun x u n h => by rw [f x n]; exact h
theorem Kp.same {H0 : Hp} (s : Same H0 H) (k : Kp b H H1) (n : ∀ x u, H0 x = some u → x ≠ b) : Same H0 H1 := fun x u e => k x u (n x u e) (s x u e)
end
section
variable {X : Cx} {K : PySem.W.Frag}
theorem sl_listAK (h : X.K = K) : SlR X (rSlA K) := h ▸ sl_listA
end
def ForL (K : PySem.W.Frag) (a : Addr) (g : TG) (tb : TS) (D : Ends) (σ : St) (H : Hp) : Prop := ∃ W : Nat → Nat → St → Hp → Prop, (∃ m, W 0 m σ H) ∧ ∀ i m σ H, W i m σ H →
  ((Itl K a).stop i H ∧ D.nx σ H) ∨ ((Itl K a).go i H ∧ ∃ N : St → Hp → Prop, (∀ σ' H', N σ' H' → ∃ m', m' < m ∧ W (i + 1) m' σ' H') ∧ ∀ x H', (Itl K a).yld i H x H' → g x σ H' fun σ2 H2 => tb { D with nx := N, ct := N, bk := D.nx } σ2 H2)
theorem w_forL {K : PySem.W.Frag} {te : TE} {g : TG} {tb : TS} {D : Ends} {σ : St} {H : Hp} (h : te σ H fun x H1 => ∃ a, x = .ref a ∧ (∃ xs, SqL K H1 a xs) ∧ ForL K a g tb D σ H1) : tFor (iList K te) g tb D σ H := h
theorem forL_by {K : PySem.W.Frag} {a : Addr} {xs : List V} {g : TG} {tb : TS} {D : Ends} {σ : St} {H : Hp} (Pv : Nat → St → Hp → Prop) (h0 : Pv 0 σ H) (hl : ∀ i σ H, i ≤ xs.length → Pv i σ H → SqL K H a xs)
    (hs : ∀ i x σ H, xs[i]? = some x → Pv i σ H → g x σ H fun σ2 H2 => tb { D with nx := Pv (i + 1), ct := Pv (i + 1), bk := D.nx } σ2 H2) (hd : ∀ σ H, Pv xs.length σ H → D.nx σ H) : ForL K a g tb D σ H := for_list Pv h0 hl hs hd
def CompAll (J : It) (nt : Nat) (fr : List Nat) (g : TG) (c : TT) (te : TE) (σ : St) (H1 : Hp) (Q : VK) : Prop := ∀ acc, H1 acc = none → CompGoal J nt fr g c te σ H1 Q acc
theorem w_compL {K : PySem.W.Frag} {t0 te : TE} {nt : Nat} {fr : List Nat} {g : TG} {c : TT} {σ : St} {H : Hp} {Q : VK} (h : t0 σ H fun x H1 => ∃ a, x = .ref a ∧ (∃ xs, SqL K H1 a xs) ∧ CompAll (Itl K a) nt fr g c te σ H1 Q) : tComp (iList K t0) nt fr g c te σ H Q := h
theorem comp_map {J : It} {xs : List V} {Lk : Hp → Prop} {te : TE} {σ : St} {H : Hp} {Q : VK} {fr : List Nat} {fvs : St} {P : Nat → V → Prop} (it : L2.ItemsOf J xs Lk) (hz : xs.length ≤ 1000000) (hf : (fr.map fun i => (σ[i]?).getD none) = fvs) (hL : ∀ H', Same H H' → Lk H')
    (turn : ∀ (i : Nat) (v : V) (H' : Hp) (R : VK), xs[i]? = some v → Same H H' → (∀ y H2, Same H' H2 → P i y → R y H2) → te (some v :: fvs) H' R)
    (k : ∀ l H' ys, New H H' l (.lst ys) → ys.length = xs.length → (∀ (i : Nat) (y : V), ys[i]? = some y → P i y) → Q (.ref l) H') : CompAll J 1 fr (gName 0) tTrue te σ H Q := by
  intro acc hacc
  subst hf
  have nacc : ∀ b u, H b = some u → b ≠ acc := fun b u e => ne_of_none e hacc
  refine comp_by it (fun i ys H' => H' acc = some (.lst ys) ∧ Same H H' ∧ ys.length = i ∧ ∀ (j : Nat) (y : V), ys[j]? = some y → P j y) ⟨upd_same, Same.new hacc, rfl, fun j y e => by simp at e⟩ (fun i ys H' _ h => ⟨hL H' h.2.1, h.1⟩) ?_ ?_
  · rintro i x tv ys H' hx hi ⟨ha, hs, hl, hp⟩ htv
    obtain ⟨tv0, rfl⟩ : ∃ a, tv = [a] := List.length_eq_one_iff.mp htv
    unfold gName tTrue
    dsimp only
    rw [if_pos rfl]
    refine turn i x H' _ hx hs fun y H2 s2 py => ⟨?_, s2 _ _ ha, CompW.next (tv := [some x]) hi ⟨upd_same, fun b u e => ?_, by rw [List.length_append, hl]; rfl, fun j z e => ?_⟩ rfl⟩
    · rw [hl]
      exact Nat.lt_of_lt_of_le hi (small_line hz)
    · rw [upd_ne (nacc b u e)]
      exact s2 _ _ (hs _ _ e)
    · by_cases hj : j < ys.length
      · rw [List.getElem?_append_left hj] at e
        exact hp j z e
      · rw [List.getElem?_append_right (by omega)] at e
        have hj2 : j - ys.length = 0 := by
          by_cases h0 : j - ys.length = 0
          · exact h0
          · rw [List.getElem?_eq_none (by simp; omega)] at e
            cases e
        rw [hj2] at e
        cases e
        have : j = i := by omega
        rw [this]
        exact py
  · rintro ys H' ⟨ha, hs, hl, hp⟩
    exact k acc H' ys ⟨hs, ha, nacc⟩ hl hp
section
variable {P : Program} {w : World} {K : PySem.W.Frag} {mg : Str → Option Value} {base : Heap} {CX : CXT} {k : Nat} {x nm qual : Str} {ps : List Str} {sp : Sp} {C : Addr}
structure Met (P : Program) (w : World) (K : PySem.W.Frag) (mg : Str → Option Value) (base : Heap) (CX : CXT) (k : Nat) (C : Addr) (nm : Str) (ps : List Str) (sp : Sp) : Prop where
  ex : ∃ (f : Addr) (fd : FuncData), FnOk P w K mg base CX k f fd ps sp ∧ Meth K C nm f ∧ Binds K fd ps []
structure Mak (P : Program) (w : World) (K : PySem.W.Frag) (mg : Str → Option Value) (base : Heap) (CX : CXT) (k : Nat) (x : Str) (C : Addr) (ps : List Str) (sp : Sp) : Prop where
  ex : ∃ (f : Addr) (fd : FuncData), FnOk P w K mg base CX k f fd ps sp ∧ Mk K C f ∧ mg x = some (.ref C) ∧ Binds K fd ps []
def FnAt (K : PySem.W.Frag) (nm qual : Str) (st : Stmt) (f : Addr) : Prop := ∃ fd : FuncData, Fun K nm qual st f fd
structure FnTells (P : Program) (w : World) (K : PySem.W.Frag) (mg : Str → Option Value) (base : Heap) (CX : CXT) (k : Nat) (f : Addr) (ps : List Str) (sp : Sp) : Prop where
  ex : ∃ fd : FuncData, FnOk P w K mg base CX k f fd ps sp ∧ Binds K fd ps []
theorem FnTells.met {f : Addr} (t : FnTells P w K mg base CX k f ps sp) (m : Meth K C nm f) : Met P w K mg base CX k C nm ps sp := let ⟨fd, F, b⟩ := t.ex; ⟨f, fd, F, m, b⟩
theorem FnTells.mak {f : Addr} (t : FnTells P w K mg base CX k f ps sp) (m : Mk K C f) (g : mg x = some (.ref C)) : Mak P w K mg base CX k x C ps sp := let ⟨fd, F, b⟩ := t.ex; ⟨f, fd, F, m, g, b⟩
variable {st : Stmt} {N : List Str} {f : Addr}
theorem fn_tells (h : FnAt K nm qual st f) (S : FnScope N ps (defScope st)) (len : ∀ vs H Q E, sp vs H Q E → vs.length = ps.length)
    (hb : ∀ (kV doc pm : Value) (an : Option Addr) (cdv ct : Value) (us : List Value), us.length = ps.length → bindArgs (PySem.W.fnOf nm qual (defArgs st) (defBody st) (defScope st) .none kV doc pm an cdv ct) ⟨us, []⟩ = pure (ps.zip us))
    (hbody : ∀ (f : Addr) (cdv : Value) (A : Around) (outer : List Env) (s : Shared) (H : Hp) (vs : List V) (Q : VK) (E : XK), Room k (A.deeper (envOfC qual (defScope st) s.heap.objs.size f cdv)) → sp vs H Q E →
      ∃ t, PSs (cxOf CX P w K mg base N qual (defScope st) f cdv A outer s H E).nox (defBody st) t ∧ t { nx := fun _ H' => Q .non H', rt := Q } (start N vs) H) : FnTells P w K mg base CX (k + 1) f ps sp := by
  obtain ⟨fd, F⟩ := h
  refine ⟨fd, ?_, F.binds hb⟩
  obtain ⟨oc, od, kV, doc, pm, an, cdv, ct, osl, rfl, lk, hcd⟩ := F.ex
  refine fn_of lk hcd S len fun A outer s H vs Q E hr hsp => ?_
  obtain ⟨t, h, q⟩ := hbody f cdv A outer s H vs Q E hr hsp
  exact ⟨t, h.nox, q⟩
end
section
variable {X : Cx} {CX : CXT} {k m : Nat} {x nm : Str} {ps : List Str} {sp : Sp} {E : XK} {p pos apos : Pos} {e o : Expr} {es : List Expr} {t : TA} {ta : TE} {C : Addr} {pins : List (Addr × Obj)} {EX : St → XK}
theorem pe_met0 {pl : Sem Bool} (he : PE X o ta) (c : Cls X.K C) (D : Met X.prog X.w X.K X.mg X.base CX k C nm ps sp) (hr : Room m X.A) (hk : k ≤ m := by decide) (hx : Passes CX X E := by exact pass0)
    (ht : eval (.Call (.Attribute o nm apos) [] [] pos) X.env = (do
      let ov ← eval o X.env
      standAt apos.atName
      let (f, first) ← holding [ov] (getMethod ov nm pl)
      callWith pos f first (backTo pos (starEach [] X.env)) (backToKw pos (keywordEach [] X.env))) := by rfl) :
    PE X (.Call (.Attribute o nm apos) [] [] pos) (tMeth C nm sp [] E ta tNil) := by
  obtain ⟨f, fd, F, mt, b⟩ := D.ex
  exact pe_meth0 (pl := pl) he c mt F (hr.mono hk) b .nil hx ht
end
end L2
namespace L2
open PySem PySem.Spec PyProof.Rows
def Bd (k : Nat) (x : Int) : Prop := 0 ≤ x ∧ x < 2 ^ k
theorem p2_pos (k : Nat) : (0 : Int) < 2 ^ k := by
  have : (0 : Nat) < 2 ^ k := Nat.pow_pos (by decide)
  exact_mod_cast this
theorem Bd.mul {a b : Nat} {x y : Int} (hx : Bd a x) (hy : Bd b y) : Bd (a + b) (x * y) := by
  refine ⟨Int.mul_nonneg hx.1 hy.1, ?_⟩
  rw [Int.pow_add]
  exact Int.lt_of_le_of_lt (Int.mul_le_mul_of_nonneg_left (Int.le_of_lt hy.2) hx.1) (Int.mul_lt_mul_of_pos_right hx.2 (p2_pos b))
theorem go_compR {σ : St} {H : Hp} {te : TE} {tr : TA} {Q : VK} {fr : List Nat} {fvs : St} {n : Nat} (Iv : Addr → Nat → List V → Hp → Prop) (hr : TelA tr σ H [.int (n : Int)]) (hz : n ≤ 1000000) (hf : (fr.map fun i => (σ[i]?).getD none) = fvs)
    (h0 : ∀ acc H', New H H' acc (.lst []) → Iv acc 0 [] H') (ha : ∀ acc i ys H', Iv acc i ys H' → H' acc = some (.lst ys) ∧ ys.length = i)
    (turn : ∀ acc i ys H' (R : VK), i < n → Iv acc i ys H' → (∀ y H2, H2 acc = some (.lst ys) → (∀ H3, Off acc H2 H3 → H3 acc = some (.lst (ys ++ [y])) → Iv acc (i + 1) (ys ++ [y]) H3) → R y H2) → te (some (.int i) :: fvs) H' R)
    (k : ∀ acc ys H', Iv acc n ys H' → Q (.ref acc) H') : tComp (iRng1 tr) 1 fr (gName 0) tTrue te σ H Q := by
  refine hr _ ⟨n, rfl, by omega, by omega, fun acc hacc => ?_⟩
  subst hf
  rw [Int.toNat_natCast]
  refine comp_by items_range (fun i ys H' => Iv acc i ys H') (h0 acc _ (.mk' hacc)) (fun i ys H' _ h => ⟨trivial, (ha acc i ys H' h).1⟩) ?_ ?_
  · rintro i x tv ys H' hx hi h htv
    obtain ⟨tv0, rfl⟩ : ∃ a, tv = [a] := List.length_eq_one_iff.mp htv
    have hi' : i < n := by simpa [rangeV] using hi
    obtain rfl := rangeV_get hx hi'
    unfold gName tTrue
    dsimp only
    rw [if_pos rfl]
    refine turn acc i ys H' _ hi' h fun y H2 h1 h2 => ⟨?_, h1, CompW.next (tv := [some (V.int i)]) hi (h2 _ Off.upd upd_same) rfl⟩
    rw [(ha acc i ys H' h).2]
    exact Nat.lt_of_lt_of_le hi' (small_line hz)
  · rintro ys H' h
    rw [show (rangeV 0 n).length = n by simp [rangeV]] at h
    exact k acc ys H' h
def rAddS : R2 := fun x y H Q => ∃ i j, x = .str i ∧ y = .str j ∧ i.length + j.length ≤ sizeLine ∧ Q (.str (i ++ j)) H
def rJoin (K : PySem.W.Frag) : V → List V → Hp → VK → Prop := fun x xs H Q => ∃ sep p ts, x = .str sep ∧ xs = [.ref p] ∧ SqL K H p (ts.map V.str) ∧ sep.length ≤ 16 ∧ (ts.map (fun t => t.length)).sum + ts.length ≤ 1048576 ∧ Q (.str (sep.join ts)) H
theorem strsAre_of : ∀ {ts : List Str} {us : List Value}, Vals (ts.map V.str) us → StrsAre us ts
  | [], _, .nil => .nil
  | t :: ts, _, .cons r h => by
    obtain ⟨k, rfl⟩ := r
    exact .cons t k (strsAre_of h)
section
variable {X : Cx} {pos : Pos}
theorem op_addS : OpR X (binaryOp .Add) rAddS := op_add_str
theorem mt_join : MtR X "str.join" (rJoin X.K) := by
  intro pins s σ H x xs v us Q I rx rs h
  obtain ⟨sep, p, ts, rfl, rfl, hq, h1, h2, q⟩ := h
  obtain ⟨t, rfl⟩ := rx
  obtain ⟨u, rfl, r1⟩ := vals1 rs
  cases r1
  obtain ⟨its, r, pl, hz⟩ := I.list hq
  refine join_listW (items := its.toArray) (ys := ts) pl.isList (strsAre_of r) h1 h2 fun t' k => ⟨.str (sep.join ts), H, I.tok _, ⟨t', ?_⟩, q⟩
  show Value.str (Builtin.Str.glued sep ts) t' = _
  rw [StrLaws.glued_eq_join]
theorem pe_join {o e : Expr} {to te : TE} {apos cpos : Pos} (ho : PE X o to) (he : PE X e te) (hbase : attributeBase o "join" X.env (eval o X.env) = eval o X.env := by rfl)
    (hfew : ((backTo cpos (starEach [e] X.env)).all (fun x => !x.1) && (backToKw cpos (keywordEach [] X.env)).all (fun x => x.1.isSome)
      && decide (([e] : List Expr).length + ([] : List Keyword).length + (if ([] : List Keyword).isEmpty then 0 else 1) < 30)) = true := by rfl)
    (hline : (apos.endLine == cpos.line) = true := by rfl) (hs : starEach [e] X.env = (false, eval e X.env) :: starEach [] X.env := by rfl) :
    PE X (.Call (.Attribute o "join" apos) [e] [] cpos) (tBM X.K "str" (rJoin X.K) to (tCons te tNil)) :=
  pe_bm PySem.F.plainAttrs_str PySem.F.slot_str_join PySem.F.type_str_join mt_join ho (pa_cons he pa_nil hs) hbase hfew hline hs (by rfl)
end
def flatDt : V → Dt
  | .int i => .int i
  | .str x => .str x
  | .bl b => .bl b
  | _ => .non
def isFlat : V → Bool
  | .int _ => true
  | .str _ => true
  | .bl _ => true
  | .non => true
  | _ => false
section
variable {K : PySem.W.Frag} {H : Hp}
theorem rep_flat {v : V} (h : isFlat v = true) : Rep K H (flatDt v) v := by
  cases v <;> simp_all [isFlat, flatDt, Rep]
theorem reps_flat : ∀ {vs : List V}, (∀ v ∈ vs, isFlat v = true) → Reps K H (vs.map flatDt) vs
  | [], _ => by simp [Reps]
  | v :: vs, h => by
    simp only [List.map_cons, Reps]
    exact ⟨_, _, rfl, rep_flat (h v (List.mem_cons_self ..)), reps_flat fun x hx => h x (List.mem_cons_of_mem _ hx)⟩
theorem dep_flat : ∀ vs : List V, depDs (vs.map flatDt) = 0
  | [] => rfl
  | v :: vs => by
    have : depD (flatDt v) = 0 := by cases v <;> rfl
    simp [depDs, this, dep_flat vs]
abbrev rowDt (r : List V) : Dt := .tup (r.map flatDt)
theorem reps_rows : ∀ {rows : List (List V)} {ys : List V}, TupsAt H ys rows → (∀ r ∈ rows, ∀ v ∈ r, isFlat v = true) → Reps K H (rows.map rowDt) ys
  | [], ys, h, _ => by
    have : ys = [] := List.eq_nil_of_length_eq_zero h.1
    subst this
    simp [Reps]
  | r :: rows, [], h, _ => by simp [TupsAt] at h
  | r :: rows, y :: ys, h, hf => by
    obtain ⟨q, e, hq⟩ := h.2 0 r rfl
    cases e
    simp only [List.map_cons, Reps]
    refine ⟨_, _, rfl, ?_, reps_rows (rows := rows) (ys := ys) ⟨by simpa using h.1, fun j r' e => h.2 (j + 1) r' e⟩ fun x hx => hf x (List.mem_cons_of_mem _ hx)⟩
    simp only [Rep]
    exact ⟨q, r, rfl, SqT.of hq, reps_flat (hf r (List.mem_cons_self ..))⟩
theorem dep_rows : ∀ rows : List (List V), depDs (rows.map rowDt) ≤ 1
  | [] => by decide
  | r :: rows => by
    have h1 : depD (rowDt r) = 1 := by simp only [depD, dep_flat]
    have h2 := dep_rows rows
    simp only [List.map_cons, depDs, h1]
    omega
theorem rep_rows {p : Addr} {rows : List (List V)} {ys : List V} (hp : SqL K H p ys) (h : TupsAt H ys rows) (hf : ∀ r ∈ rows, ∀ v ∈ r, isFlat v = true) : Rep K H (.lst (rows.map rowDt)) (.ref p) := by
  simp only [Rep]
  exact ⟨p, ys, rfl, hp, reps_rows h hf⟩
theorem dep_rowsL (rows : List (List V)) : depD (.lst (rows.map rowDt)) ≤ 2 := by
  have := dep_rows rows
  simp only [depD]
  omega
theorem rep_nil {p : Addr} (h : SqL K H p []) : Rep K H (.lst []) (.ref p) := by
  simp only [Rep]
  exact ⟨p, _, rfl, h, by simp [Reps]⟩
end
section
variable {K : PySem.W.Frag} {σ : St} {H : Hp} {Q : VK} {ta tv : TE} {t : TA} {f m : Str} {C : Addr} {sp : Sp} {dvs : List V} {E : XK} {D : Ends}
theorem go_fld (h : ta σ H fun x H1 => ∃ a C dx fs v, x = .ref a ∧ H1 a = some (.ins C dx fs) ∧ Cls K C ∧ NoAttr K C f ∧ fs.lookup f = some v ∧ Q v H1) : tFld K ta f σ H Q := h
theorem w_fld {a dx : Addr} {fs : List (Str × V)} {v : V} {R : V → Prop} (ho : H a = some (.ins C dx fs)) (c : Cls K C) (n : NoAttr K C f) (l : fs.lookup f = some v) (k : R v) :
    ∃ a' C' dx' fs' v', V.ref a = .ref a' ∧ H a' = some (.ins C' dx' fs') ∧ Cls K C' ∧ NoAttr K C' f ∧ fs'.lookup f = some v' ∧ R v' := ⟨a, C, dx, fs, v, rfl, ho, c, n, l, k⟩
end
theorem made_same {H : Hp} {x dx C : Addr} (hx : H x = none) (hd : H dx = none) : Same H (upd (upd H dx (.own x)) x (.ins C dx [])) := fun b u e => by
  rw [upd_ne (ne_of_none e hx), upd_ne (ne_of_none e hd)]
  exact e
end L2
namespace L2
open PySem PySem.Spec PyProof.Rows PySem.SeqAt
section
variable {H H' : Hp} {p a l : Addr} {o u : HO}
theorem New.at (n : New H H' p o) (h : H a = some u) : H' a = some u := n.s a u h
theorem Same.at (s : Same H H') (h : H a = some u) : H' a = some u := s a u h
theorem Off.at (f : Off l H H') (ne : a ≠ l) (h : H a = some u) : H' a = some u := by rw [f a ne]; exact h
theorem Kp.at (k : Kp l H H') (ne : a ≠ l) (h : H a = some u) : H' a = some u := k a u ne h
def RowsAt (H : Hp) (p : Addr) (rows : List (List V)) : Prop := ∃ ys, H p = some (.lst ys) ∧ TupsAt H ys rows
theorem RowsAt.same {rows : List (List V)} (s : Same H H') (h : RowsAt H p rows) : RowsAt H' p rows := let ⟨ys, a, b⟩ := h; ⟨ys, s _ _ a, b.same s⟩
end
section
variable {X : Cx} {id : String} {x nm : Str} {e v : Expr} {es : List Expr} {t : TA} {tv : TE} {p kp pos : Pos}
def CallK (X : Cx) (id : String) (nm : Str) (r : List V → V → Hp → VK → Prop) : Prop := ∀ (pins : List (Addr × Obj)) (s : Shared) (σ : St) (H : Hp) (xs : List V) (us : List Value) (y : V) (u : Value) (Q : VK), Inv X pins σ H s → Vals xs us → RelV y u → r xs y H Q →
  wpAny (model X.prog X.w) X.A (call (.builtin id) us [(nm, u)]) (EP X pins σ Q) X.xe s
def tCK (r : List V → V → Hp → VK → Prop) (t : TA) (tv : TE) : TE := fun σ H Q => t σ H fun xs H1 => tv σ H1 fun y H2 => r xs y H2 Q
theorem go_ck {r : List V → V → Hp → VK → Prop} {σ : St} {H : Hp} {Q : VK} (h : t σ H fun xs H1 => tv σ H1 fun y H2 => r xs y H2 Q) : tCK r t tv σ H Q := h
theorem pe_ckw {r : List V → V → Hp → VK → Prop} (hc : CallK X id nm r) (hg : Gl X x) (hm : X.mg x = none) (hv : bootBuiltins x = some (.builtin id)) (ha : PA X (e :: es) t) (hw : PE X v tv) (hn : x ≠ "__name__" := by decide) (hdb : (x == ("__debug__" : Str)) = false := by decide)
    (he : backTo pos (starEach (e :: es) X.env) = (false, eval e X.env) :: backTo pos (starEach es X.env) := by rfl) (hpl : (backTo pos (starEach (e :: es) X.env)).any (·.1) = false := by rfl) : PE X (.Call (.Name x p) (e :: es) [⟨some nm, v, kp⟩] pos) (tCK r t tv) := by
  intro pins s σ H Q I h
  refine wpAny_Call_Name_kw (ld_blt I hg hm hv ?_ hn hdb)
  refine callWith_kw (thn (ha pos pins s σ H _ I h) fun us s1 ⟨vs, H1, I1, r1, q1⟩ => ?_) he hpl
  refine kws_cons (thn (hw pins s1 σ H1 _ I1 q1) fun z s2 ⟨y, H2, I2, r2, q2⟩ => kws_nil ?_)
  have hv2 : Vals vs us := r1
  exact hc pins s2 σ H2 vs us y z Q I2 hv2 r2 q2
end
theorem cx_K {CX : CXT} {P : Program} {w : World} {K : PySem.W.Frag} {mg : Str → Option Value} {base : Heap} {N : List Str} {q : Str} {sc : Scope} {f : Addr} {cdv : Value} {A : Around} {outer : List Env} {s : Shared} {H : Hp} {E : XK} : (cxOf CX P w K mg base N q sc f cdv A outer s H E).nox.K = K := rfl
theorem cx_K2 {CX : CXT} {P : Program} {w : World} {K : PySem.W.Frag} {mg : Str → Option Value} {base : Heap} {N : List Str} {q : Str} {sc : Scope} {f : Addr} {cdv : Value} {A : Around} {outer : List Env} {s : Shared} {H : Hp} {E : XK} : (cxOf CX P w K mg base N q sc f cdv A outer s H E).K = K := rfl
def Hs (H : Hp) (a : Addr) : Prop := ∃ u, H a = some u
section
variable {H H' : Hp} {a p l : Addr} {o u : HO}
theorem Hs.of (h : H a = some u) : Hs H a := ⟨u, h⟩
theorem New.hs (n : New H H' p o) : Hs H' p := ⟨o, n.e⟩
end
section
variable {H : Hp} {Q : VK} {K : PySem.W.Frag} {l b : Addr} {xs ys : List V} {y : V} {σ : St} {D : Ends}
theorem w_tyL {R : Prop} (h : SqL K H l xs) (k : R) : tyV K "list" (.ref l) H ∧ R := ⟨.inl ⟨rfl, _, h⟩, k⟩
theorem w_app (h : H l = some (.lst xs)) (z : xs.length < sizeLine) (k : ∀ H', Off l H H' → H' l = some (.lst (xs ++ [y])) → Q .non H') : rAppA (.ref l) [y] H Q := ⟨l, xs, y, rfl, rfl, h, z, k⟩
theorem w_clr (h : H l = some (.lst xs)) (k : ∀ H', Off l H H' → H' l = some (.lst []) → Q .non H') : rClearA (.ref l) [] H Q := ⟨l, xs, rfl, rfl, h, k⟩
theorem w_setA {i : Int} {j : Nat} {v : V} {R : Hp → Prop} (h : H l = some (.lst xs)) (e : ixN xs.length i = some j) (k : ∀ H', Off l H H' → H' l = some (.lst (xs.set j v)) → R H') : rSetA (.ref l) (.int i) v H R := ⟨l, xs, i, j, rfl, rfl, h, e, k⟩
theorem w_slA {lo hi : Option Int} (h : SqL K H l xs) (k : ∀ p H', New H H' p (.lst (cutV xs lo hi)) → Q (.ref p) H') : rSlA K (.ref l) lo hi H Q := ⟨l, xs, rfl, h, k⟩
theorem w_catA (h : H l = some (.lst xs)) (e : H b = some (.lst ys)) (z : xs.length + ys.length ≤ sizeLine) (k : ∀ p H', New H H' p (.lst (xs ++ ys)) → Q (.ref p) H') : rCatA (.ref l) (.ref b) H Q := ⟨l, b, xs, ys, rfl, rfl, h, e, z, k⟩
theorem w_rep1 {n : Nat} (h : H l = some (.lst [y])) (z : n ≤ 1000000) (k : ∀ p H', New H H' p (.lst (List.replicate n y)) → Q (.ref p) H') : rRepA (.ref l) (.int (n : Int)) H Q :=
  ⟨l, n, [y], rfl, rfl, h, by omega, by omega, by simp only [List.length_singleton, Int.toNat_natCast, Nat.one_mul]; exact small_line z, fun p H' q => k p H' (by
    have e : (List.replicate ((n : Int).toNat) [y]).flatten = List.replicate n y := by
      rw [Int.toNat_natCast]
      clear z q k h
      induction n with
      | zero => rfl
      | succ n ih => rw [List.replicate_succ, List.flatten_cons, ih]; rfl
    rw [← e]; exact q)⟩
theorem w_lofL (h : SqL K H l xs) (k : ∀ p H', New H H' p (.lst xs) → Q (.ref p) H') : rLOfA K [.ref l] H Q := ⟨l, xs, rfl, .inl h, k⟩
theorem w_meth {C dx : Addr} {fs : List (Str × V)} {m : Str} {R : Prop} (h : H l = some (.ins C dx fs)) (e : fs.lookup m = none) (k : R) : ∃ a' dx' fs', V.ref l = .ref a' ∧ H a' = some (.ins C dx' fs') ∧ fs'.lookup m = none ∧ R := ⟨l, dx, fs, rfl, h, e, k⟩
theorem i_idx {n : Nat} {i : Int} (h0 : 0 ≤ i) (h1 : i < n) : ixN n i = some i.toNat := by unfold ixN; rw [if_pos h0, if_pos h1]
theorem atL1 {x y : V} {r : List V} : atI (x :: y :: r) 1 = some y := atI_nat (j := 1) rfl
theorem atL2 {x y z : V} {r : List V} : atI (x :: y :: z :: r) 2 = some z := atI_nat (j := 2) rfl
theorem atL3 {x y z w : V} {r : List V} : atI (x :: y :: z :: w :: r) 3 = some w := atI_nat (j := 3) rfl
theorem i_tt {A B : Prop} (k : A) : if (true : Bool) = true then A else B := by rw [if_pos rfl]; exact k
theorem i_ff {A B : Prop} (k : B) : if (false : Bool) = true then A else B := by rw [if_neg (by decide)]; exact k
theorem i_ntt {A B : Prop} (k : B) : if (!true : Bool) = true then A else B := by rw [if_neg (by decide)]; exact k
theorem w_isTT (h : H l = some (.tup xs)) (k : Q (.bl true) H) : rIsT K [.ref l, .ty "tuple"] H Q := w_is (.tup h) (bt_tuple (.tup h)) k
theorem w_isLL (h : H l = some (.lst xs)) (k : Q (.bl true) H) : rIsT K [.ref l, .ty "list"] H Q := w_is (.lst h) (bt_list (.lst h)) k
theorem w_isIB {i : Int} (k : Q (.bl false) H) : rIsT K [.int i, .ty "bool"] H Q := w_is (TyOf.int (K := K) (H := H) i) (bt_bool (TyOf.int (K := K) (H := H) i)) k
theorem small_lt {n : Nat} (h : n < 1000000) : n < sizeLine := Nat.lt_of_lt_of_le h (small_line (Nat.le_refl _))
theorem w_tupB {n i0 i1 : Nat} {a b : V} {R : St → Hp → Prop} (hn : n = 2) (hp : SqT K H l [a, b]) (h : gName i0 a σ H fun σ1 H1 => gName i1 b σ1 H1 R) : gTup K n (gCons (gName i0) (gCons (gName i1) gNil)) (.ref l) σ H R := by
  subst hn
  exact w_tup2 hp h
theorem w_ixM {i : Int} (h : SqL K H l xs) (h0 : 0 ≤ i) (h1 : i < xs.length) (k : ∀ v ∈ xs, Q v H) : rIxL K (.ref l) (.int i) H Q := let ⟨v, e, m⟩ := atI_lt h0 h1; w_ixL h e (k v m)
theorem tups_at {rows : List (List V)} {i : Nat} {v : V} (h : TupsAt H xs rows) (e : xs[i]? = some v) : ∃ r q, rows[i]? = some r ∧ v = .ref q ∧ H q = some (.tup r) := by
  have hi : i < rows.length := by rw [← h.1]; exact (List.getElem?_eq_some_iff.mp e).1
  obtain ⟨q, e1, e2⟩ := h.2 i rows[i] (by simp)
  rw [e] at e1
  exact ⟨rows[i], q, by simp, Option.some.inj e1, e2⟩
end
section
variable {K : PySem.W.Frag} {g : TG} {tb : TS} {D : Ends} {σ : St} {H : Hp} {tr : TA}
def ForR (lo : Int) (n : Nat) (g : TG) (tb : TS) (D : Ends) (σ : St) (H : Hp) : Prop := ∃ W : Nat → Nat → St → Hp → Prop, (∃ m, W 0 m σ H) ∧ ∀ i m σ H, W i m σ H →
  ((Itr lo n).stop i H ∧ D.nx σ H) ∨ ((Itr lo n).go i H ∧ ∃ N : St → Hp → Prop, (∀ σ' H', N σ' H' → ∃ m', m' < m ∧ W (i + 1) m' σ' H') ∧ ∀ x H', (Itr lo n).yld i H x H' → g x σ H' fun σ2 H2 => tb { D with nx := N, ct := N, bk := D.nx } σ2 H2)
theorem forR_by {lo : Int} {n : Nat} (Pv : Nat → St → Hp → Prop) (h0 : Pv 0 σ H) (hs : ∀ i σ H, i < n → Pv i σ H → g (.int (lo + i)) σ H fun σ2 H2 => tb { D with nx := Pv (i + 1), ct := Pv (i + 1), bk := D.nx } σ2 H2) (hd : ∀ σ H, Pv n σ H → D.nx σ H) : ForR lo n g tb D σ H := for_range Pv h0 hs hd
theorem w_forR1 (h : tr σ H fun vs H1 => ∃ j : Int, vs = [.int j] ∧ -(2 ^ 62) ≤ j ∧ j < 2 ^ 62 ∧ ForR 0 j.toNat g tb D σ H1) : tFor (iRng1 tr) g tb D σ H := h
theorem w_forR2 (h : tr σ H fun vs H1 => ∃ i j : Int, vs = [.int i, .int j] ∧ (-(2 ^ 62) ≤ i ∧ i < 2 ^ 62 ∧ -(2 ^ 62) ≤ j ∧ j < 2 ^ 62) ∧ ForR i (j - i).toNat g tb D σ H1) : tFor (iRng2 tr) g tb D σ H := h
def ForE (K : PySem.W.Frag) (a : Addr) (xs : List V) (g : TG) (tb : TS) (D : Ends) (σ : St) (H : Hp) : Prop := ∃ W : Nat → Nat → St → Hp → Prop, (∃ m, W 0 m σ H) ∧ ∀ i m σ H, W i m σ H →
      ((Ite K a xs).stop i H ∧ D.nx σ H) ∨ ((Ite K a xs).go i H ∧ ∃ N : St → Hp → Prop, (∀ σ' H', N σ' H' → ∃ m', m' < m ∧ W (i + 1) m' σ' H') ∧ ∀ x H', (Ite K a xs).yld i H x H' → g x σ H' fun σ2 H2 => tb { D with nx := N, ct := N, bk := D.nx } σ2 H2)
theorem w_forE (h : tr σ H fun vs H1 => ∃ a xs, vs = [.ref a] ∧ SqL K H1 a xs ∧ ForE K a xs g tb D σ H1) : tFor (iEnum K tr) g tb D σ H := h
theorem e_by {a : Addr} {xs : List V} (h : SqL K H a xs) (k : ForE K a xs g tb D σ H) : ∃ a' xs', [V.ref a] = [.ref a'] ∧ SqL K H a' xs' ∧ ForE K a' xs' g tb D σ H := ⟨a, xs, rfl, h, k⟩
theorem forE_by {a : Addr} {xs : List V} (Pv : Nat → St → Hp → Prop) (h0 : Pv 0 σ H) (hl : ∀ i σ H, i ≤ xs.length → Pv i σ H → SqL K H a xs)
    (hs : ∀ i x T σ H H', xs[i]? = some x → Pv i σ H → New H H' T (.tup [.int i, x]) → g (.ref T) σ H' fun σ2 H2 => tb { D with nx := Pv (i + 1), ct := Pv (i + 1), bk := D.nx } σ2 H2) (hd : ∀ σ H, Pv xs.length σ H → D.nx σ H) : ForE K a xs g tb D σ H := for_enum Pv h0 hl hs hd
theorem l_by {a : Addr} {xs : List V} (h : SqL K H a xs) (k : ForL K a g tb D σ H) : ∃ a', V.ref a = .ref a' ∧ (∃ xs, SqL K H a' xs) ∧ ForL K a' g tb D σ H := ⟨a, rfl, ⟨xs, h⟩, k⟩
theorem c_by {a : Addr} {xs : List V} {nt : Nat} {fr : List Nat} {c : TT} {te : TE} {Q : VK} (h : SqL K H a xs) (k : CompAll (Itl K a) nt fr g c te σ H Q) : ∃ a', V.ref a = .ref a' ∧ (∃ xs, SqL K H a' xs) ∧ CompAll (Itl K a') nt fr g c te σ H Q := ⟨a, rfl, ⟨xs, h⟩, k⟩
end
section
variable {K : PySem.W.Frag} {σ : St} {H : Hp} {Q : VK} {ta tv : TE} {t : TA} {f m : Str} {C : Addr} {sp : Sp} {E : XK} {D : Ends}
def SetF (K : PySem.W.Frag) (f : Str) (y x : V) (H : Hp) (R : Hp → Prop) : Prop := ∃ a C dx fs, x = .ref a ∧ H a = some (.ins C dx fs) ∧ Cls K C ∧ NoAttr K C f ∧ fs.length < 1000 ∧ R (upd H a (.ins C dx (putF f y fs)))
theorem go_sfldB (h : tv σ H fun y H1 => ta σ H1 fun x H2 => SetF K f y x H2 fun H3 => D.nx σ H3) : sFld K ta tv f D σ H := h
theorem w_setF {l dx : Addr} {fs : List (Str × V)} {y : V} {R : Hp → Prop} (ho : H l = some (.ins C dx fs)) (c : Cls K C) (n : NoAttr K C f) (z : fs.length < 1000) (k : ∀ H', Off l H H' → H' l = some (.ins C dx (putF f y fs)) → R H') : SetF K f y (.ref l) H R :=
  ⟨l, C, dx, fs, rfl, ho, c, n, z, k _ Off.upd upd_same⟩
def tMakeB (C : Addr) (sp : Sp) (E : XK) (t : TA) : TE := fun σ H Q => t σ H fun vs H1 => ∀ x dx H2, New H1 H2 x (.ins C dx []) → sp (.ref x :: vs) H2 (fun v H3 => v = .non ∧ Q (.ref x) H3) E
theorem go_makeB (h : t σ H fun vs H1 => ∀ x dx H2, New H1 H2 x (.ins C dx []) → sp (.ref x :: vs) H2 (fun v H3 => v = .non ∧ Q (.ref x) H3) E) : tMakeB C sp E t σ H Q := h
theorem go_methB (h : ta σ H fun x H1 => ∃ a dx fs, x = .ref a ∧ H1 a = some (.ins C dx fs) ∧ fs.lookup m = none ∧ t σ H1 fun vs H2 => sp (x :: vs) H2 Q E) : tMeth C m sp [] E ta t σ H Q := by
  have e : (fun (x : V) (H1 : Hp) => ∃ a dx fs, x = .ref a ∧ H1 a = some (.ins C dx fs) ∧ fs.lookup m = none ∧ t σ H1 fun vs H2 => sp (x :: (vs ++ [])) H2 Q E) = fun x H1 => ∃ a dx fs, x = .ref a ∧ H1 a = some (.ins C dx fs) ∧ fs.lookup m = none ∧ t σ H1 fun vs H2 => sp (x :: vs) H2 Q E := by
    simp only [List.append_nil]
  show ta σ H fun x H1 => ∃ a dx fs, x = .ref a ∧ H1 a = some (.ins C dx fs) ∧ fs.lookup m = none ∧ t σ H1 fun vs H2 => sp (x :: (vs ++ [])) H2 Q E
  rw [e]
  exact h
end
section
variable {X : Cx} {CX : CXT} {k m : Nat} {x : Str} {ps : List Str} {sp : Sp} {E : XK} {p pos : Pos} {e : Expr} {es : List Expr} {t : TA} {C : Addr}
theorem pe_makB (D : Mak X.prog X.w X.K X.mg X.base CX k x C ps sp) (hr : Room m X.A) (ha : PA X (e :: es) t) (hk : k + 1 ≤ m := by decide) (hx : Passes CX X E := by exact pass0) (hg : Gl X x := by rfl)
    (hdb : (x == ("__debug__" : Str)) = false := by decide) (he : starEach (e :: es) X.env = (false, eval e X.env) :: starEach es X.env := by rfl) (hpl : (backTo pos (starEach es X.env)).any (·.1) = false := by rfl) :
    PE X (.Call (.Name x p) (e :: es) [] pos) (tMakeB C sp E t) := by
  obtain ⟨f, fd, F, M, g, b⟩ := D.ex
  intro pins s σ H Q I h
  refine wpAny_Call_Name_kw (ld_glob I hg g ?_ hdb)
  refine PySem.W.callWith_K (h₀ := X.base) I.ok.mod.kin M.kp (thn (ha pos pins s σ H _ I h) fun us s1 ⟨vs, H1, I1, r, q⟩ => ⟨I1.kIn, ?_⟩) he hpl
  refine run_make M F (hr.mono hk) b .nil hx I1 r fun y dy h1 h2 h3 => ?_
  rw [List.append_nil]
  exact q y dy _ ⟨made_same h1 h2, upd_same, fun a u z => ne_of_none z h1⟩
end
def isFr : V → Int → Bool
  | .int i, lo => decide (lo ≤ i)
  | _, _ => false
def inB : V → Int → Int → Bool
  | .int i, lo, hi => decide (lo ≤ i) && decide (i ≤ hi)
  | _, _, _ => false
section
variable {K : PySem.W.Frag} {H : Hp} {Q : VK} {E : XK} {x : V} {n : String} {p q : Addr} {a b c lo hi : Int}
def sp_whole (K : PySem.W.Frag) : Sp := fun vs H Q _ => ∃ x n, vs = [x] ∧ TyOf K H x (.type n) ∧ Q (.bl (isW x)) H
theorem u_whole (ty : TyOf K H x (.type n)) (k : Q (.bl (isW x)) H) : sp_whole K [x] H Q E := ⟨x, n, rfl, ty, k⟩
def sp_is_from (K : PySem.W.Frag) : Sp := fun vs H Q _ => ∃ x n lo, vs = [x, .int lo] ∧ TyOf K H x (.type n) ∧ Q (.bl (isFr x lo)) H
theorem u_fromI (k : Q (.bl (decide (lo ≤ a))) H) : sp_is_from K [.int a, .int lo] H Q E := ⟨_, _, lo, rfl, .int _, k⟩
def sp_is_within (K : PySem.W.Frag) : Sp := fun vs H Q _ => ∃ x n lo hi, vs = [x, .int lo, .int hi] ∧ TyOf K H x (.type n) ∧ Q (.bl (inB x lo hi)) H
theorem u_within (ty : TyOf K H x (.type n)) (k : Q (.bl (inB x lo hi)) H) : sp_is_within K [x, .int lo, .int hi] H Q E := ⟨x, n, lo, hi, rfl, ty, k⟩
def sp_is_many (K : PySem.W.Frag) : Sp := fun vs H Q _ => ∃ x n, vs = [x] ∧ TyOf K H x (.type n) ∧ Q (.bl (inB x 16 240)) H
def sp_end_of : Sp := fun vs H Q _ => ∃ (q : Addr) (a b : Int), vs = [.ref q] ∧ H q = some (.tup [.int a, .int b]) ∧ Q (.int (a + b)) H
theorem u_end (h : H q = some (.tup [.int a, .int b])) (k : Q (.int (a + b)) H) : sp_end_of [.ref q] H Q E := ⟨q, a, b, rfl, h, k⟩
def rowsN (ws : List (Nat × Nat)) : List (List V) := ws.map fun w => [V.int (w.1 : Nat), V.int (w.2 : Nat)]
theorem rowsN_len (ws : List (Nat × Nat)) : (rowsN ws).length = ws.length := List.length_map ..
def sp_cellA (K : PySem.W.Frag) : Sp := fun vs H Q _ => ∃ (a : Addr) (ns : List Int) (k : Int), vs = [.ref a, .int k] ∧ SqL K H a (ns.map V.int) ∧ 0 ≤ k ∧ ∀ c : Int, Q (.int c) H
theorem u_cellA {ns : List Int} {m : Int} (h : SqL K H p (ns.map V.int)) (h0 : 0 ≤ m) (k : ∀ c : Int, Q (.int c) H) : sp_cellA K [.ref p, .int m] H Q E := ⟨p, ns, m, rfl, h, h0, k⟩
def sp_boxA : Sp := fun vs H Q _ => ∃ c : Int, vs = [.int c] ∧ ∀ (p : Addr) (a b : Int) (H' : Hp), New H H' p (.lst [.int a, .int b, .int 0]) → Q (.ref p) H'
theorem u_boxA (k : ∀ (p : Addr) (x y : Int) (H' : Hp), New H H' p (.lst [.int x, .int y, .int 0]) → Q (.ref p) H') : sp_boxA [.int a] H Q E := ⟨a, rfl, k⟩
end
section
variable {K : PySem.W.Frag} {g : TG} {tb : TS} {D : Ends} {σ : St} {H H' : Hp} {Q : VK} {l p q : Addr} {xs ys : List V} {rows : List (List V)}
theorem forR0_by {n : Nat} (Pv : Nat → St → Hp → Prop) (h0 : Pv 0 σ H) (hs : ∀ i σ H, i < n → Pv i σ H → g (.int i) σ H fun σ2 H2 => tb { D with nx := Pv (i + 1), ct := Pv (i + 1), bk := D.nx } σ2 H2) (hd : ∀ σ H, Pv n σ H → D.nx σ H) : ForR 0 n g tb D σ H :=
  for_range Pv h0 (fun i σ H hi h => by rw [Int.zero_add]; exact hs i σ H hi h) hd
theorem comp_V {te : TE} {fr : List Nat} {fvs : St} {F : V → V} (hq : SqL K H l xs) (hz : xs.length ≤ 1000000) (hf : (fr.map fun i => (σ[i]?).getD none) = fvs)
    (turn : ∀ (v : V) (H' : Hp) (R : VK), v ∈ xs → Same H H' → (∀ H2, Same H' H2 → R (F v) H2) → te (some v :: fvs) H' R)
    (k : ∀ p H', New H H' p (.lst (xs.map F)) → Q (.ref p) H') : CompAll (Itl K l) 1 fr (gName 0) tTrue te σ H Q := by
  refine comp_map (P := fun i y => ∃ v, xs[i]? = some v ∧ y = F v) (items_list (xs := xs)) hz hf (fun H' s => s.seq hq) (fun i v H' R hv s kk => ?_) fun p H' ys n hl hP => k p H' ?_
  · exact turn v H' R (List.mem_of_getElem? hv) s fun H2 s2 => kk _ _ s2 ⟨v, hv, rfl⟩
  · have e : ys = xs.map F := by
      apply List.ext_getElem?
      intro i
      rw [List.getElem?_map]
      by_cases hi : i < ys.length
      · obtain ⟨v, e1, e2⟩ := hP i ys[i] (by simp)
        rw [e1, List.getElem?_eq_getElem hi, e2]
        rfl
      · rw [List.getElem?_eq_none (by omega), List.getElem?_eq_none (by omega)]
        rfl
    rw [e] at n
    exact n
theorem TupsAt.snoc {r : List V} (h : TupsAt H ys rows) (hq : H q = some (.tup r)) : TupsAt H (ys ++ [.ref q]) (rows ++ [r]) := by
  refine ⟨by rw [List.length_append, List.length_append, h.1]; rfl, fun j s z => ?_⟩
  by_cases hj : j < rows.length
  · rw [List.getElem?_append_left hj] at z
    obtain ⟨x, e1, e2⟩ := h.2 j s z
    exact ⟨x, by rw [List.getElem?_append_left (by rw [h.1]; exact hj)]; exact e1, e2⟩
  · have hj2 : j = rows.length := by
      have := (List.getElem?_eq_some_iff.mp z).1
      rw [List.length_append, List.length_singleton] at this
      omega
    subst hj2
    rw [List.getElem?_append_right (Nat.le_refl _), Nat.sub_self] at z
    cases z
    exact ⟨q, by rw [← h.1, List.getElem?_append_right (Nat.le_refl _), Nat.sub_self]; rfl, hq⟩
theorem w_neRNil {zs : List V} (hp : H p = some (.lst ys)) (tp : TupsAt H ys rows) (hf : ∀ r ∈ rows, ∀ v ∈ r, isFlat v = true) (hq : H q = some (.lst [])) (k : Q (.bl (!decide (rows = []))) H) : rNeD K (.ref p) (.ref q) H Q :=
  ⟨_, _, rep_rows (SqL.of hp) tp hf, rep_nil (SqL.of hq), Nat.le_trans (dep_rowsL _) (by decide), by
    cases rows with
    | nil => simpa [eqDt, eqDts] using k
    | cons a t => simpa [eqDt, eqDts] using k⟩
def IsPair (H : Hp) (v : V) : Option (Nat × Nat) → Prop
  | none => v = .non
  | some w => ∃ q, v = .ref q ∧ H q = some (.tup [.int (w.1 : Nat), .int (w.2 : Nat)])
theorem IsPair.same {v : V} {o : Option (Nat × Nat)} (s : Same H H') (h : IsPair H v o) : IsPair H' v o := by
  cases o with
  | none => exact h
  | some w => obtain ⟨q, e1, e2⟩ := h; exact ⟨q, e1, s _ _ e2⟩
end
def isTup : HO → Bool
  | .tup _ => true
  | .frz _ _ => true
  | _ => false
def Tst (H H' : Hp) : Prop := ∀ q u, isTup u = true → H q = some u → H' q = some u
inductive Im where
  | tup (q : Addr) (r : List V)
  | tps (ys : List V) (rs : List (List V))
  | fct (φ : Hp → Prop) (st : ∀ H H', Tst H H' → φ H → φ H')
def Im.holds (H : Hp) : Im → Prop
  | .tup q r => H q = some (.tup r)
  | .tps ys rs => TupsAt H ys rs
  | .fct φ _ => φ H
theorem Im.stay {H H' : Hp} (t : Tst H H') : ∀ {f : Im}, f.holds H → f.holds H'
  | .tup q r, h => t q _ rfl h
  | .tps ys rs, h => ⟨h.1, fun j r e => let ⟨q, a, b⟩ := h.2 j r e; ⟨q, a, t q _ rfl b⟩⟩
  | .fct φ st, h => st H H' t h
class SH (H0 : outParam Hp) (M : outParam (List Addr)) (H : Hp) (L : outParam (List (Addr × HO))) (I : outParam (List Im)) : Prop where
  fr : ∀ b u, b ∉ M → H0 b = some u → H b = some u
  im : ∀ f ∈ I, f.holds H
  at' : ∀ c ∈ L, H c.1 = some c.2
  nd : (L.map (·.1)).Nodup
  mu : ∀ c ∈ L, isTup c.2 = false
  ch : ∀ c ∈ L, c.1 ∈ M ∨ ∀ b u, H0 b = some u → b ≠ c.1
inductive Up (l : Addr) (o' : HO) : List (Addr × HO) → List (Addr × HO) → Prop
  | head {o : HO} {L : List (Addr × HO)} : Up l o' ((l, o) :: L) ((l, o') :: L)
  | tail {c : Addr × HO} {L L' : List (Addr × HO)} (h : Up l o' L L') : Up l o' (c :: L) (c :: L')
theorem Up.keys {l : Addr} {o' : HO} {L L' : List (Addr × HO)} (h : Up l o' L L') : L'.map (·.1) = L.map (·.1) := by
  induction h with
  | head => rfl
  | tail h ih => rw [List.map_cons, List.map_cons, ih]
theorem Up.mem {l : Addr} {o' : HO} {L L' : List (Addr × HO)} (h : Up l o' L L') : l ∈ L.map (·.1) := by
  induction h with
  | head => exact List.mem_cons_self
  | tail h ih => exact List.mem_cons_of_mem _ ih
theorem Up.each {l : Addr} {o' : HO} {L L' : List (Addr × HO)} (h : Up l o' L L') (nd : (L.map (·.1)).Nodup) : ∀ c ∈ L', c = (l, o') ∨ (c ∈ L ∧ c.1 ≠ l) := by
  induction h with
  | @head o L =>
    intro c hc
    rcases List.mem_cons.mp hc with rfl | hc
    · exact .inl rfl
    · refine .inr ⟨List.mem_cons_of_mem _ hc, fun z => ?_⟩
      rw [List.map_cons] at nd
      exact (List.nodup_cons.mp nd).1 (by show l ∈ _; rw [← z]; exact List.mem_map_of_mem (f := (·.1)) hc)
  | @tail d L L' h ih =>
    intro c hc
    rw [List.map_cons] at nd
    have nd' := List.nodup_cons.mp nd
    rcases List.mem_cons.mp hc with rfl | hc
    · exact .inr ⟨List.mem_cons_self, fun z => nd'.1 (z ▸ h.mem)⟩
    · rcases ih nd'.2 c hc with e | ⟨e1, e2⟩
      · exact .inl e
      · exact .inr ⟨List.mem_cons_of_mem _ e1, e2⟩
theorem Up.src {l : Addr} {o' : HO} {L L' : List (Addr × HO)} (h : Up l o' L L') : ∃ o, (l, o) ∈ L := by
  induction h with
  | head => exact ⟨_, List.mem_cons_self⟩
  | tail h ih => obtain ⟨o, ho⟩ := ih; exact ⟨o, List.mem_cons_of_mem _ ho⟩
inductive Pk (c : Addr × HO) : List (Addr × HO) → List (Addr × HO) → Prop
  | head {L : List (Addr × HO)} : Pk c (c :: L) L
  | tail {d : Addr × HO} {L R : List (Addr × HO)} (h : Pk c L R) : Pk c (d :: L) (d :: R)
inductive Sb : List (Addr × HO) → List (Addr × HO) → Prop
  | nil {L : List (Addr × HO)} : Sb [] L
  | cons {c : Addr × HO} {L' L R : List (Addr × HO)} (h : Pk c L R) (t : Sb L' R) : Sb (c :: L') L
theorem Pk.mem {c : Addr × HO} {L R : List (Addr × HO)} (h : Pk c L R) : c ∈ L ∧ ∀ d ∈ R, d ∈ L := by
  induction h with
  | head => exact ⟨List.mem_cons_self, fun d hd => List.mem_cons_of_mem _ hd⟩
  | tail h ih =>
    refine ⟨List.mem_cons_of_mem _ ih.1, fun d hd => ?_⟩
    rcases List.mem_cons.mp hd with rfl | hd
    · exact List.mem_cons_self
    · exact List.mem_cons_of_mem _ (ih.2 d hd)
theorem Pk.nd {c : Addr × HO} {L R : List (Addr × HO)} (h : Pk c L R) (nd : (L.map (·.1)).Nodup) : (R.map (·.1)).Nodup ∧ ∀ d ∈ R, d.1 ≠ c.1 := by
  induction h with
  | head =>
    rw [List.map_cons] at nd
    have := List.nodup_cons.mp nd
    exact ⟨this.2, fun d hd z => this.1 (z ▸ List.mem_map_of_mem hd)⟩
  | @tail d L R h ih =>
    rw [List.map_cons] at nd
    have nd' := List.nodup_cons.mp nd
    obtain ⟨i1, i2⟩ := ih nd'.2
    refine ⟨by
      rw [List.map_cons, List.nodup_cons]
      refine ⟨fun z => ?_, i1⟩
      obtain ⟨x, hx, ex⟩ := List.mem_map.mp z
      exact nd'.1 (ex ▸ List.mem_map_of_mem (h.mem.2 x hx)), fun x hx => ?_⟩
    rcases List.mem_cons.mp hx with rfl | hx
    · exact fun z => nd'.1 (z ▸ List.mem_map_of_mem h.mem.1)
    · exact i2 x hx
theorem Sb.mem {L' L : List (Addr × HO)} (h : Sb L' L) : ∀ c ∈ L', c ∈ L := by
  induction h with
  | nil => intro c hc; cases hc
  | cons h t ih =>
    intro c hc
    rcases List.mem_cons.mp hc with rfl | hc
    · exact h.mem.1
    · exact h.mem.2 c (ih c hc)
theorem Sb.nd {L' L : List (Addr × HO)} (h : Sb L' L) : (L.map (·.1)).Nodup → (L'.map (·.1)).Nodup := by
  induction h with
  | nil => intro _; exact List.nodup_nil
  | cons h t ih =>
    intro nd
    obtain ⟨n1, n2⟩ := h.nd nd
    rw [List.map_cons, List.nodup_cons]
    refine ⟨fun z => ?_, ih n1⟩
    obtain ⟨x, hx, ex⟩ := List.mem_map.mp z
    exact n2 x (t.mem x hx) ex
section
variable {H0 H H' : Hp} {M : List Addr} {L L' : List (Addr × HO)} {I I' : List Im} {p q l a : Addr} {o o' u : HO} {xs ys r : List V} {rs : List (List V)} {K : PySem.W.Frag}
theorem SH.nil : SH H M H [] [] := ⟨fun _ _ _ h => h, (fun _ h => by cases h), (fun _ h => by cases h), List.nodup_nil, (fun _ h => by cases h), (fun _ h => by cases h)⟩
theorem SH.addM (F : SH H0 M H0 L I) (hm : p ∈ M) (h : H0 p = some o) (ht : isTup o = false) (ne : ∀ c ∈ L, c.1 ≠ p) : SH H0 M H0 ((p, o) :: L) I := by
  refine ⟨F.fr, F.im, ?_, ?_, ?_, ?_⟩
  · intro c hc
    rcases List.mem_cons.mp hc with rfl | hc
    · exact h
    · exact F.at' c hc
  · rw [List.map_cons, List.nodup_cons]
    refine ⟨fun z => ?_, F.nd⟩
    obtain ⟨x, hx, ex⟩ := List.mem_map.mp z
    exact ne x hx ex
  · intro c hc
    rcases List.mem_cons.mp hc with rfl | hc
    · exact ht
    · exact F.mu c hc
  · intro c hc
    rcases List.mem_cons.mp hc with rfl | hc
    · exact .inl hm
    · exact F.ch c hc
theorem SH.addT (F : SH H0 M H L I) (h : H q = some (.tup r)) : SH H0 M H L (.tup q r :: I) := ⟨F.fr, fun f hf => by
  rcases List.mem_cons.mp hf with rfl | hf
  · exact h
  · exact F.im f hf, F.at', F.nd, F.mu, F.ch⟩
theorem SH.addP (F : SH H0 M H L I) (h : TupsAt H ys rs) : SH H0 M H L (.tps ys rs :: I) := ⟨F.fr, fun f hf => by
  rcases List.mem_cons.mp hf with rfl | hf
  · exact h
  · exact F.im f hf, F.at', F.nd, F.mu, F.ch⟩
theorem SH.addF {φ : Hp → Prop} {st : ∀ H H', Tst H H' → φ H → φ H'} (F : SH H0 M H L I) (h : φ H) : SH H0 M H L (.fct φ st :: I) := ⟨F.fr, fun f hf => by
  rcases List.mem_cons.mp hf with rfl | hf
  · exact h
  · exact F.im f hf, F.at', F.nd, F.mu, F.ch⟩
theorem SH.same (F : SH H0 M H L I) (s : Same H H') : SH H0 M H' L I := ⟨fun b u n e => s b u (F.fr b u n e), fun f hf => Im.stay (fun q u _ e => s q u e) (F.im f hf), fun c hc => s _ _ (F.at' c hc), F.nd, F.mu, F.ch⟩
theorem SH.newT (F : SH H0 M H L I) (n : New H H' q (.tup r)) : SH H0 M H' L (.tup q r :: I) := (F.same n.s).addT n.e
theorem SH.newO (F : SH H0 M H L I) (n : New H H' p o) (ht : isTup o = false) : SH H0 M H' ((p, o) :: L) I := by
  have F' := F.same n.s
  refine ⟨F'.fr, F'.im, ?_, ?_, ?_, ?_⟩
  · intro c hc
    rcases List.mem_cons.mp hc with rfl | hc
    · exact n.e
    · exact F'.at' c hc
  · rw [List.map_cons, List.nodup_cons]
    refine ⟨fun z => ?_, F.nd⟩
    obtain ⟨x, hx, ex⟩ := List.mem_map.mp z
    exact n.n _ _ (F.at' x hx) ex
  · intro c hc
    rcases List.mem_cons.mp hc with rfl | hc
    · exact ht
    · exact F.mu c hc
  · intro c hc
    rcases List.mem_cons.mp hc with rfl | hc
    · by_cases hm : p ∈ M
      · exact .inl hm
      · exact .inr fun b u e z => by
          by_cases hb : b ∈ M
          · exact hm (by have z' : b = p := z; rw [← z']; exact hb)
          · exact n.n b u (F.fr b u hb e) z
    · exact F.ch c hc
theorem SH.newL (F : SH H0 M H L I) (n : New H H' p (.lst xs)) : SH H0 M H' ((p, .lst xs) :: L) I := F.newO n rfl
theorem SH.newI {C dx : Addr} {fs : List (Str × V)} (F : SH H0 M H L I) (n : New H H' p (.ins C dx fs)) : SH H0 M H' ((p, .ins C dx fs) :: L) I := F.newO n rfl
theorem SH.newR (F : SH H0 M H L I) (n : New H H' p (.lst ys)) (t : TupsAt H' ys rs) : SH H0 M H' ((p, .lst ys) :: L) (.tps ys rs :: I) := (F.newL n).addP t
theorem SH.kp (F : SH H0 M H L I) (k : Kp l H H') (e : H' l = some o') (u : Up l o' L L') (ht : isTup o' = false := by rfl) : SH H0 M H' L' I := by
  obtain ⟨o, ho⟩ := u.src
  have hl := F.at' _ ho
  have hu := F.mu _ ho
  refine ⟨fun b w nb e0 => k b w (fun z => ?_) (F.fr b w nb e0), fun f hf => Im.stay (fun q v hv e1 => k q _ (fun z => ?_) e1) (F.im f hf), fun c hc => ?_, by rw [u.keys]; exact F.nd, fun c hc => ?_, fun c hc => ?_⟩
  · rcases F.ch _ ho with h | h
    · exact nb (by rw [z]; exact h)
    · exact h b w e0 z
  · rw [z, hl] at e1
    cases e1
    rw [hu] at hv
    cases hv
  · rcases u.each F.nd c hc with rfl | ⟨h1, h2⟩
    · exact e
    · exact k _ _ h2 (F.at' c h1)
  · rcases u.each F.nd c hc with rfl | ⟨h1, h2⟩
    · exact ht
    · exact F.mu c h1
  · rcases u.each F.nd c hc with rfl | ⟨h1, h2⟩
    · exact F.ch (l, o) ho
    · exact F.ch c h1
theorem SH.offL (F : SH H0 M H L I) (f : Off l H H') (e : H' l = some (.lst xs)) (u : Up l (.lst xs) L L') : SH H0 M H' L' I := F.kp f.kp e u rfl
theorem SH.kpL (F : SH H0 M H L I) (f : Kp l H H') (e : H' l = some (.lst xs)) (u : Up l (.lst xs) L L') : SH H0 M H' L' I := F.kp f e u rfl
theorem SH.offI {C dx : Addr} {fs : List (Str × V)} (F : SH H0 M H L I) (f : Off l H H') (e : H' l = some (.ins C dx fs)) (u : Up l (.ins C dx fs) L L') : SH H0 M H' L' I := F.kp f.kp e u rfl
theorem SH.raw (F : SH H0 M H L I) (m : (a, o) ∈ L) : H a = some o := F.at' _ m
theorem SH.tup (F : SH H0 M H L I) (m : .tup q r ∈ I) : H q = some (.tup r) := F.im _ m
theorem SH.tps (F : SH H0 M H L I) (m : .tps ys rs ∈ I) : TupsAt H ys rs := F.im _ m
theorem SH.old (F : SH H0 M H L I) (h : H0 a = some u) (n : a ∉ M) : H a = some u := F.fr a u n h
theorem SH.sq (F : SH H0 M H L I) (h : SqL K H0 a xs) (n : a ∉ M) : SqL K H a xs := by
  rcases h with (h | ⟨o, h⟩) | h
  · exact .inl (.inl (F.fr a _ n h))
  · exact .inl (.inr ⟨o, F.fr a _ n h⟩)
  · exact .inr h
theorem SH.sub (F : SH H0 M H L I) (s : Sb L' L) (t : ∀ f ∈ I', f ∈ I) : SH H0 M H L' I' := ⟨F.fr, fun f hf => F.im f (t f hf), fun c hc => F.at' c (s.mem c hc), s.nd F.nd, fun c hc => F.mu c (s.mem c hc), fun c hc => F.ch c (s.mem c hc)⟩
theorem SH.sm (F : SH H0 [] H L I) : Same H0 H := fun b u e => F.fr b u List.not_mem_nil e
theorem SH.kpo (F : SH H0 [p] H L I) : Kp p H0 H := fun b u n e => F.fr b u (fun z => n (List.mem_singleton.mp z)) e
theorem SH.nw (F : SH H0 [] H L I) (m : (q, o) ∈ L) : New H0 H q o := ⟨F.sm, F.at' _ m, fun b u e => by
  rcases F.ch _ m with h | h
  · exact absurd h List.not_mem_nil
  · exact h b u e⟩
theorem SH.fresh (F : SH H0 M H L I) (m : (q, o) ∈ L) (n : q ∉ M) : ∀ b u, H0 b = some u → b ≠ q := fun b u e => by
  rcases F.ch _ m with h | h
  · exact absurd h n
  · exact h b u e
theorem SH.ne2 (F : SH H0 M H L I) (k : Pk (p, o) L L') (k' : (q, o') ∈ L') : q ≠ p := (k.nd F.nd).2 _ k'
theorem nm0 : a ∉ ([] : List Addr) := List.not_mem_nil
theorem nm1 (h : a ≠ p) : a ∉ [p] := fun z => h (List.mem_singleton.mp z)
theorem SH.app (F : SH H0 M H L I) (m : .tps ys rs ∈ I) (m' : .tup q r ∈ I) : SH H0 M H L (.tps (ys ++ [.ref q]) (rs ++ [r]) :: I) := F.addP ((F.tps m).snoc (F.tup m'))
end
class Go (G : Prop) (G' : outParam Prop) : Prop where
  go : G' → G
theorem go1 {G G' : Prop} [h : Go G G'] (k : G') : G := h.go k
class LkL (L : List (Addr × HO)) (a : Addr) (o : outParam HO) : Prop where
  m : (a, o) ∈ L
class LkI (I : List Im) (a : Addr) (r : outParam (List V)) : Prop where
  m : .tup a r ∈ I
class LkP (I : List Im) (ys : List V) (rs : outParam (List (List V))) : Prop where
  m : .tps ys rs ∈ I
class LkU (L : List (Addr × HO)) (l : Addr) (o : HO) (L' : outParam (List (Addr × HO))) : Prop where
  u : Up l o L L'
class Old (H0 : Hp) (M : List Addr) (a : Addr) (o : outParam HO) : Prop where
  e : H0 a = some o
  n : a ∉ M
class OldQ (K : PySem.W.Frag) (H0 : Hp) (M : List Addr) (a : Addr) (xs : outParam (List V)) : Prop where
  e : SqL K H0 a xs
  n : a ∉ M
class OldP (H0 : Hp) (ys : List V) (rs : outParam (List (List V))) : Prop where
  e : TupsAt H0 ys rs
class Hat (H : Hp) (a : Addr) (o : outParam HO) : Prop where
  e : H a = some o
class SqA (K : PySem.W.Frag) (H : Hp) (a : Addr) (xs : outParam (List V)) : Prop where
  e : SqL K H a xs
class SqB (K : PySem.W.Frag) (H : Hp) (a : Addr) (xs : outParam (List V)) : Prop where
  e : SqT K H a xs
class TpA (H : Hp) (ys : List V) (rs : outParam (List (List V))) : Prop where
  e : TupsAt H ys rs
class AtI (xs : List V) (i : Int) (v : outParam V) : Prop where
  e : atI xs i = some v
section
variable {H0 H H' : Hp} {M : List Addr} {L L' : List (Addr × HO)} {I : List Im} {a p l : Addr} {o o' : HO} {c : Addr × HO} {f : Im} {r xs ys : List V} {rs : List (List V)} {K : PySem.W.Frag} {v v0 v1 v2 v3 : V}
instance lkL1 [h : LkL L a o] : LkL (c :: L) a o := ⟨List.mem_cons_of_mem _ h.m⟩
instance lkL0 : LkL ((a, o) :: L) a o := ⟨List.mem_cons_self⟩
instance lkI1 [h : LkI I a r] : LkI (f :: I) a r := ⟨List.mem_cons_of_mem _ h.m⟩
instance lkI0 : LkI (.tup a r :: I) a r := ⟨List.mem_cons_self⟩
instance lkP1 [h : LkP I ys rs] : LkP (f :: I) ys rs := ⟨List.mem_cons_of_mem _ h.m⟩
instance lkP0 : LkP (.tps ys rs :: I) ys rs := ⟨List.mem_cons_self⟩
instance lkU1 [h : LkU L l o L'] : LkU (c :: L) l o (c :: L') := ⟨.tail h.u⟩
instance lkU0 : LkU ((l, o') :: L) l o ((l, o) :: L) := ⟨.head⟩
instance hat_old [F : SH H0 M H L I] [h : Old H0 M a o] : Hat H a o := ⟨F.fr a o h.n h.e⟩
instance hat_tup [F : SH H0 M H L I] [h : LkI I a r] : Hat H a (.tup r) := ⟨F.tup h.m⟩
instance hat_lst [F : SH H0 M H L I] [h : LkL L a o] : Hat H a o := ⟨F.raw h.m⟩
instance sqA_old [F : SH H0 M H L I] [h : OldQ K H0 M a xs] : SqA K H a xs := ⟨F.sq h.e h.n⟩
instance sqA_hat [h : Hat H a (.lst xs)] : SqA K H a xs := ⟨.of h.e⟩
instance sqB_hat [h : Hat H a (.tup xs)] : SqB K H a xs := ⟨.of h.e⟩
instance tpA_old {H0 : Hp} {L : List (Addr × HO)} {I : List Im} [F : SH H0 [] H L I] [h : OldP H0 ys rs] : TpA H ys rs := ⟨h.e.same F.sm⟩
instance tpA_tps [F : SH H0 M H L I] [h : LkP I ys rs] : TpA H ys rs := ⟨F.tps h.m⟩
instance at0 : AtI (v :: r) 0 v := ⟨atI_0⟩
instance at1 : AtI (v0 :: v :: r) 1 v := ⟨atL1⟩
instance at2 : AtI (v0 :: v1 :: v :: r) 2 v := ⟨atL2⟩
instance at3 : AtI (v0 :: v1 :: v2 :: v :: r) 3 v := ⟨atL3⟩
variable {Z : Addr → Hp → Prop} {R : Hp → Prop} {C dx : Addr} {fs : List (Str × V)}
instance nx_tup [F : SH H0 M H L I] : Go (∀ p H', New H H' p (.tup xs) → Z p H') (∀ H' p, SH H0 M H' L (.tup p xs :: I) → Z p H') := ⟨fun k p H' n => k H' p (F.newT n)⟩
instance nx_lst [F : SH H0 M H L I] : Go (∀ p H', New H H' p (.lst xs) → Z p H') (∀ H' p, SH H0 M H' ((p, .lst xs) :: L) I → Z p H') := ⟨fun k p H' n => k H' p (F.newL n)⟩
instance nx_off [F : SH H0 M H L I] [u : LkU L l (.lst xs) L'] : Go (∀ H', Off l H H' → H' l = some (.lst xs) → R H') (∀ H', SH H0 M H' L' I → R H') := ⟨fun k H' f e => k H' (F.offL f e u.u)⟩
instance nx_offI [F : SH H0 M H L I] [u : LkU L l (.ins C dx fs) L'] : Go (∀ H', Off l H H' → H' l = some (.ins C dx fs) → R H') (∀ H', SH H0 M H' L' I → R H') := ⟨fun k H' f e => k H' (F.offI f e u.u)⟩
instance nx_kp [F : SH H0 M H L I] [u : LkU L l (.lst xs) L'] : Go (∀ H', Kp l H H' → H' l = some (.lst xs) → R H') (∀ H', SH H0 M H' L' I → R H') := ⟨fun k H' f e => k H' (F.kpL f e u.u)⟩
instance nx_same [F : SH H0 M H L I] : Go (∀ H', Same H H' → R H') (∀ H', SH H0 M H' L I → R H') := ⟨fun k H' s => k H' (F.same s)⟩
def Sd (A B : Prop) : Prop := A ∧ B
theorem sd {A B : Prop} (a : A) (b : B) : Sd A B := ⟨a, b⟩
class FldOk (K : PySem.W.Frag) (C : Addr) (f : Str) : Prop where
  c : Cls K C
  n : NoAttr K C f
class FLk (fs : List (Str × V)) (f : Str) (v : outParam V) : Prop where
  e : fs.lookup f = some v
class FNo (fs : List (Str × V)) (f : Str) : Prop where
  e : fs.lookup f = none
theorem SH.nwC {H0 : Hp} {L : List (Addr × HO)} {I : List Im} [F : SH H0 [] H L I] [h : LkL L p o] : New H0 H p o := F.nw h.m
theorem hatC [h : Hat H a o] : H a = some o := h.e
variable {Q : VK} {E : XK} {R' : Prop} {σ : St} {i j : Int} {f m : Str} {y : V} {b : Addr} {lo hi : Option Int}
instance nx_ins [F : SH H0 M H L I] {Z : Addr → Addr → Hp → Prop} : Go (∀ x dx H', New H H' x (.ins C dx []) → Z x dx H') (∀ H' x dx, SH H0 M H' ((x, .ins C dx []) :: L) I → Z x dx H') := ⟨fun k p dx H' n => k H' p dx (F.newI n)⟩
instance go_made {n : Nat} : Go (n ≤ sizeLine ∧ ∀ p H', New H H' p o → Z p H') (Sd (n ≤ sizeLine) (∀ p H', New H H' p o → Z p H')) := ⟨id⟩
instance go_isTT [h : Hat H l (.tup xs)] : Go (rIsT K [.ref l, .ty "tuple"] H Q) (Q (.bl true) H) := ⟨w_isTT h.e⟩
instance go_isLL [h : Hat H l (.lst xs)] : Go (rIsT K [.ref l, .ty "list"] H Q) (Q (.bl true) H) := ⟨w_isLL h.e⟩
instance go_lenT [h : SqB K H l xs] : Go (rLen K [.ref l] H Q) (Q (.int xs.length) H) := ⟨w_lenT h.e⟩
instance go_lenL [h : SqA K H l xs] : Go (rLen K [.ref l] H Q) (Q (.int xs.length) H) := ⟨w_lenL h.e⟩
instance go_ixL [h : SqA K H l xs] [e : AtI xs i v] : Go (rIxL K (.ref l) (.int i) H Q) (Q v H) := ⟨w_ixL h.e e.e⟩
instance go_ixT [h : SqB K H l xs] [e : AtI xs i v] : Go (rIxT K (.ref l) (.int i) H Q) (Q v H) := ⟨w_ixT h.e e.e⟩
instance go_tyL [h : SqA K H l xs] : Go (tyV K "list" (.ref l) H ∧ R') R' := ⟨w_tyL h.e⟩
instance go_clr [h : Hat H l (.lst xs)] : Go (rClearA (.ref l) [] H Q) (∀ H', Off l H H' → H' l = some (.lst []) → Q .non H') := ⟨w_clr h.e⟩
instance go_app [h : Hat H l (.lst xs)] : Go (rAppA (.ref l) [y] H Q) (Sd (xs.length < sizeLine) (∀ H', Off l H H' → H' l = some (.lst (xs ++ [y])) → Q .non H')) := ⟨fun s => w_app h.e s.1 s.2⟩
instance go_slA [h : SqA K H l xs] : Go (rSlA K (.ref l) lo hi H Q) (∀ p H', New H H' p (.lst (cutV xs lo hi)) → Q (.ref p) H') := ⟨w_slA h.e⟩
instance go_catA [h : Hat H l (.lst xs)] [h2 : Hat H b (.lst ys)] : Go (rCatA (.ref l) (.ref b) H Q) (Sd (xs.length + ys.length ≤ sizeLine) (∀ p H', New H H' p (.lst (xs ++ ys)) → Q (.ref p) H')) := ⟨fun s => w_catA h.e h2.e s.1 s.2⟩
instance go_lofL [h : SqA K H l xs] : Go (rLOfA K [.ref l] H Q) (∀ p H', New H H' p (.lst xs) → Q (.ref p) H') := ⟨w_lofL h.e⟩
instance go_rep1 {n : Nat} [h : Hat H l (.lst [y])] : Go (rRepA (.ref l) (.int (n : Int)) H Q) (Sd (n ≤ 1000000) (∀ p H', New H H' p (.lst (List.replicate n y)) → Q (.ref p) H')) := ⟨fun s => w_rep1 h.e s.1 s.2⟩
instance go_tup2 {n i0 i1 : Nat} {a b : V} {R : St → Hp → Prop} [h : SqB K H l [a, b]] : Go (gTup K n (gCons (gName i0) (gCons (gName i1) gNil)) (.ref l) σ H R) (Sd (n = 2) (gName i0 a σ H fun σ1 H1 => gName i1 b σ1 H1 R)) := ⟨fun s => w_tupB s.1 h.e s.2⟩
instance go_mod {f : Int → Int → V} : Go (rI (fun _ j => 0 < j) f (.int i) (.int j) H Q) (Sd (0 < j) (Q (f i j) H)) := ⟨fun s => w_mod s.1 s.2⟩
instance go_div {f : Int → Int → V} : Go (rI CDiv f (.int i) (.int j) H Q) (Sd (0 < j ∧ j < 1073741824) (Q (f i j) H)) := ⟨fun s => w_div s.1.1 s.1.2 s.2⟩
instance go_pow {f : Int → Int → V} : Go (rI CPow f (.int i) (.int j) H Q) (Sd (0 ≤ j ∧ j ≤ 1000000 ∧ i.natAbs < 2 ^ 64) (Q (f i j) H)) := ⟨fun s => w_pow s.1.1 s.1.2.1 s.1.2.2 s.2⟩
instance go_mul {f : Int → Int → V} : Go (rI CMul f (.int i) (.int j) H Q) (Sd ((-(2 ^ 64) < i ∧ i < 2 ^ 64) ∨ (-(2 ^ 64) < j ∧ j < 2 ^ 64)) (Q (f i j) H)) := ⟨fun s => s.1.elim (fun h => w_mulL h.1 h.2 s.2) (fun h => w_mulR h.1 h.2 s.2)⟩
instance go_w_fld [h : Hat H a (.ins C dx fs)] [k : FldOk K C f] [e : FLk fs f v] {R : V → Prop} : Go (∃ a' C' dx' fs' v', V.ref a = .ref a' ∧ H a' = some (.ins C' dx' fs') ∧ Cls K C' ∧ NoAttr K C' f ∧ fs'.lookup f = some v' ∧ R v') (R v) := ⟨w_fld h.e k.c k.n e.e⟩
instance go_w_meth [h : Hat H l (.ins C dx fs)] [e : FNo fs m] : Go (∃ a' dx' fs', V.ref l = .ref a' ∧ H a' = some (.ins C dx' fs') ∧ fs'.lookup m = none ∧ R') R' := ⟨w_meth h.e e.e⟩
instance go_setF [h : Hat H l (.ins C dx fs)] [k : FldOk K C f] : Go (SetF K f y (.ref l) H R) (Sd (fs.length < 1000) (∀ H', Off l H H' → H' l = some (.ins C dx (putF f y fs)) → R H')) := ⟨fun s => w_setF h.e k.c k.n s.1 s.2⟩
end
instance go_go_seq {σ : L2.St} {H : Hp} {D : Ends} {s u : TS} : Go (tSeq s u D σ H) (s (Ends.mk (u D) (Ends.rt D) (Ends.bk D) (Ends.ct D)) σ H) := ⟨go_seq⟩
instance go_go_asg {σ : L2.St} {H : Hp} {t : TE} {D : Ends} {tg : TG} : Go (tAsg t tg D σ H) ((t σ H fun (x : V) (H1 : Hp) ↦ tg x σ H1 (Ends.nx D))) := ⟨go_asg⟩
instance go_go_ret {σ : L2.St} {H : Hp} {t : TE} {D : Ends} : Go (tRet t D σ H) (t σ H (Ends.rt D)) := ⟨go_ret⟩
instance go_go_if {σ : L2.St} {H : Hp} {D : Ends} {s u : TS} {c : TT} : Go (tIfS c s u D σ H) ((c σ H fun (b : Bool) (H1 : Hp) ↦ if b = true then s D σ H1 else u D σ H1)) := ⟨go_if⟩
instance go_go_drop {σ : L2.St} {H : Hp} {t : TE} {D : Ends} : Go (tDrop t D σ H) ((t σ H fun (x : V) (H1 : Hp) ↦ Ends.nx D σ H1)) := ⟨go_drop⟩
instance go_go_next {σ : L2.St} {H : Hp} {D : Ends} : Go (tNext D σ H) (Ends.nx D σ H) := ⟨go_next⟩
instance go_go_nx {σ : L2.St} {H : Hp} {nx bk ct : L2.St → Hp → Prop} {rt : VK} : Go (Ends.nx (Ends.mk nx rt bk ct) σ H) (nx σ H) := ⟨go_nx⟩
instance go_w_rt {H : Hp} {v : V} {nx bk ct : L2.St → Hp → Prop} {rt : VK} : Go (Ends.rt (Ends.mk nx rt bk ct) v H) (rt v H) := ⟨w_rt⟩
instance go_go_test {σ : L2.St} {H : Hp} {t : TE} {Q : Bool → Hp → Prop} : Go (tTest t σ H Q) ((t σ H fun (x : V) (H' : Hp) ↦ ∃ (k : Bool), x = V.bl k ∧ Q k H')) := ⟨go_test⟩
instance go_go_b {σ : L2.St} {H : Hp} {t : TE} {Q : Bool → Hp → Prop} : Go (tB t σ H Q) ((t σ H fun (x : V) (H' : Hp) ↦ ∃ (k : Bool), x = V.bl k ∧ Q k H')) := ⟨go_b⟩
instance go_go_op {σ : L2.St} {H : Hp} {ta tb : TE} {Q : VK} {r : R2} : Go (tOp r ta tb σ H Q) ((ta σ H fun (x : V) (H1 : Hp) ↦ tb σ H1 fun (y : V) (H2 : Hp) ↦ r x y H2 Q)) := ⟨go_op⟩
instance go_go_cb {σ : L2.St} {H : Hp} {tr : TA} {Q : VK} {r : List V → Hp → VK → Prop} : Go (tCB r tr σ H Q) ((tr σ H fun (vs : List V) (H1 : Hp) ↦ r vs H1 Q)) := ⟨go_cb⟩
instance go_go_cons {σ : L2.St} {H : Hp} {t : TE} {tr : TA} {Q : List V → Hp → Prop} : Go (tCons t tr σ H Q) ((t σ H fun (x : V) (H1 : Hp) ↦ tr σ H1 fun (xs : List V) (H2 : Hp) ↦ Q (x :: xs) H2)) := ⟨go_cons⟩
instance go_go_nil {σ : L2.St} {H : Hp} {Q : List V → Hp → Prop} : Go (tNil σ H Q) (Q [] H) := ⟨go_nil⟩
instance go_w_call {σ : L2.St} {H : Hp} {Q : VK} {tr : TA} {sp : Sp} {E : XK} : Go (tCall sp [] E tr σ H Q) ((tr σ H fun (vs : List V) (H1 : Hp) ↦ sp vs H1 Q E)) := ⟨w_call⟩
instance go_w_c {σ : L2.St} {H : Hp} {Q : VK} {v : V} : Go (tC v σ H Q) (Q v H) := ⟨w_c⟩
instance go_wv0 {H : Hp} {Q : VK} {v : V} {r : L2.St} : Go (tVar 0 (some v :: r) H Q) (Q v H) := ⟨wv0⟩
instance go_wv1 {H : Hp} {Q : VK} {v : V} {o0 : Option V} {r : L2.St} : Go (tVar 1 (o0 :: some v :: r) H Q) (Q v H) := ⟨wv1⟩
instance go_wv2 {H : Hp} {Q : VK} {v : V} {o0 o1 : Option V} {r : L2.St} : Go (tVar 2 (o0 :: o1 :: some v :: r) H Q) (Q v H) := ⟨wv2⟩
instance go_wv3 {H : Hp} {Q : VK} {v : V} {o0 o1 o2 : Option V} {r : L2.St} : Go (tVar 3 (o0 :: o1 :: o2 :: some v :: r) H Q) (Q v H) := ⟨wv3⟩
instance go_wv4 {H : Hp} {Q : VK} {v : V} {o0 o1 o2 o3 : Option V} {r : L2.St} : Go (tVar 4 (o0 :: o1 :: o2 :: o3 :: some v :: r) H Q) (Q v H) := ⟨wv4⟩
instance go_wv5 {H : Hp} {Q : VK} {v : V} {o0 o1 o2 o3 o4 : Option V} {r : L2.St} : Go (tVar 5 (o0 :: o1 :: o2 :: o3 :: o4 :: some v :: r) H Q) (Q v H) := ⟨wv5⟩
instance go_wv6 {H : Hp} {Q : VK} {v : V} {o0 o1 o2 o3 o4 o5 : Option V} {r : L2.St} : Go (tVar 6 (o0 :: o1 :: o2 :: o3 :: o4 :: o5 :: some v :: r) H Q) (Q v H) := ⟨wv6⟩
instance go_wv7 {H : Hp} {Q : VK} {v : V} {o0 o1 o2 o3 o4 o5 o6 : Option V} {r : L2.St} : Go (tVar 7 (o0 :: o1 :: o2 :: o3 :: o4 :: o5 :: o6 :: some v :: r) H Q) (Q v H) := ⟨wv7⟩
instance go_wv8 {H : Hp} {Q : VK} {v : V} {o0 o1 o2 o3 o4 o5 o6 o7 : Option V} {r : L2.St} : Go (tVar 8 (o0 :: o1 :: o2 :: o3 :: o4 :: o5 :: o6 :: o7 :: some v :: r) H Q) (Q v H) := ⟨wv8⟩
instance go_wv9 {H : Hp} {Q : VK} {v : V} {o0 o1 o2 o3 o4 o5 o6 o7 o8 : Option V} {r : L2.St} : Go (tVar 9 (o0 :: o1 :: o2 :: o3 :: o4 :: o5 :: o6 :: o7 :: o8 :: some v :: r) H Q) (Q v H) := ⟨wv9⟩
instance go_wv10 {H : Hp} {Q : VK} {v : V} {o0 o1 o2 o3 o4 o5 o6 o7 o8 o9 : Option V} {r : L2.St} : Go (tVar 10 (o0 :: o1 :: o2 :: o3 :: o4 :: o5 :: o6 :: o7 :: o8 :: o9 :: some v :: r) H Q) (Q v H) := ⟨wv10⟩
instance go_wv11 {H : Hp} {Q : VK} {v : V} {o0 o1 o2 o3 o4 o5 o6 o7 o8 o9 o10 : Option V} {r : L2.St} : Go (tVar 11 (o0 :: o1 :: o2 :: o3 :: o4 :: o5 :: o6 :: o7 :: o8 :: o9 :: o10 :: some v :: r) H Q) (Q v H) := ⟨wv11⟩
instance go_wv12 {H : Hp} {Q : VK} {v : V} {o0 o1 o2 o3 o4 o5 o6 o7 o8 o9 o10 o11 : Option V} {r : L2.St} : Go (tVar 12 (o0 :: o1 :: o2 :: o3 :: o4 :: o5 :: o6 :: o7 :: o8 :: o9 :: o10 :: o11 :: some v :: r) H Q) (Q v H) := ⟨wv12⟩
instance go_wv13 {H : Hp} {Q : VK} {v : V} {o0 o1 o2 o3 o4 o5 o6 o7 o8 o9 o10 o11 o12 : Option V} {r : L2.St} : Go (tVar 13 (o0 :: o1 :: o2 :: o3 :: o4 :: o5 :: o6 :: o7 :: o8 :: o9 :: o10 :: o11 :: o12 :: some v :: r) H Q) (Q v H) := ⟨wv13⟩
instance go_wn1 {H : Hp} {v : V} {o0 o : Option V} {r : L2.St} {R : L2.St → Hp → Prop} : Go (gName 1 v (o0 :: o :: r) H R) (R (o0 :: some v :: r) H) := ⟨wn1⟩
instance go_wn2 {H : Hp} {v : V} {o0 o1 o : Option V} {r : L2.St} {R : L2.St → Hp → Prop} : Go (gName 2 v (o0 :: o1 :: o :: r) H R) (R (o0 :: o1 :: some v :: r) H) := ⟨wn2⟩
instance go_wn3 {H : Hp} {v : V} {o0 o1 o2 o : Option V} {r : L2.St} {R : L2.St → Hp → Prop} : Go (gName 3 v (o0 :: o1 :: o2 :: o :: r) H R) (R (o0 :: o1 :: o2 :: some v :: r) H) := ⟨wn3⟩
instance go_wn4 {H : Hp} {v : V} {o0 o1 o2 o3 o : Option V} {r : L2.St} {R : L2.St → Hp → Prop} : Go (gName 4 v (o0 :: o1 :: o2 :: o3 :: o :: r) H R) (R (o0 :: o1 :: o2 :: o3 :: some v :: r) H) := ⟨wn4⟩
instance go_wn5 {H : Hp} {v : V} {o0 o1 o2 o3 o4 o : Option V} {r : L2.St} {R : L2.St → Hp → Prop} : Go (gName 5 v (o0 :: o1 :: o2 :: o3 :: o4 :: o :: r) H R) (R (o0 :: o1 :: o2 :: o3 :: o4 :: some v :: r) H) := ⟨wn5⟩
instance go_wn6 {H : Hp} {v : V} {o0 o1 o2 o3 o4 o5 o : Option V} {r : L2.St} {R : L2.St → Hp → Prop} : Go (gName 6 v (o0 :: o1 :: o2 :: o3 :: o4 :: o5 :: o :: r) H R) (R (o0 :: o1 :: o2 :: o3 :: o4 :: o5 :: some v :: r) H) := ⟨wn6⟩
instance go_wn7 {H : Hp} {v : V} {o0 o1 o2 o3 o4 o5 o6 o : Option V} {r : L2.St} {R : L2.St → Hp → Prop} : Go (gName 7 v (o0 :: o1 :: o2 :: o3 :: o4 :: o5 :: o6 :: o :: r) H R) (R (o0 :: o1 :: o2 :: o3 :: o4 :: o5 :: o6 :: some v :: r) H) := ⟨wn7⟩
instance go_wn8 {H : Hp} {v : V} {o0 o1 o2 o3 o4 o5 o6 o7 o : Option V} {r : L2.St} {R : L2.St → Hp → Prop} : Go (gName 8 v (o0 :: o1 :: o2 :: o3 :: o4 :: o5 :: o6 :: o7 :: o :: r) H R) (R (o0 :: o1 :: o2 :: o3 :: o4 :: o5 :: o6 :: o7 :: some v :: r) H) := ⟨wn8⟩
instance go_wn9 {H : Hp} {v : V} {o0 o1 o2 o3 o4 o5 o6 o7 o8 o : Option V} {r : L2.St} {R : L2.St → Hp → Prop} : Go (gName 9 v (o0 :: o1 :: o2 :: o3 :: o4 :: o5 :: o6 :: o7 :: o8 :: o :: r) H R) (R (o0 :: o1 :: o2 :: o3 :: o4 :: o5 :: o6 :: o7 :: o8 :: some v :: r) H) := ⟨wn9⟩
instance go_wn10 {H : Hp} {v : V} {o0 o1 o2 o3 o4 o5 o6 o7 o8 o9 o : Option V} {r : L2.St} {R : L2.St → Hp → Prop} : Go (gName 10 v (o0 :: o1 :: o2 :: o3 :: o4 :: o5 :: o6 :: o7 :: o8 :: o9 :: o :: r) H R) (R (o0 :: o1 :: o2 :: o3 :: o4 :: o5 :: o6 :: o7 :: o8 :: o9 :: some v :: r) H) := ⟨wn10⟩
instance go_wn11 {H : Hp} {v : V} {o0 o1 o2 o3 o4 o5 o6 o7 o8 o9 o10 o : Option V} {r : L2.St} {R : L2.St → Hp → Prop} : Go (gName 11 v (o0 :: o1 :: o2 :: o3 :: o4 :: o5 :: o6 :: o7 :: o8 :: o9 :: o10 :: o :: r) H R) (R (o0 :: o1 :: o2 :: o3 :: o4 :: o5 :: o6 :: o7 :: o8 :: o9 :: o10 :: some v :: r) H) := ⟨wn11⟩
instance go_wn12 {H : Hp} {v : V} {o0 o1 o2 o3 o4 o5 o6 o7 o8 o9 o10 o11 o : Option V} {r : L2.St} {R : L2.St → Hp → Prop} : Go (gName 12 v (o0 :: o1 :: o2 :: o3 :: o4 :: o5 :: o6 :: o7 :: o8 :: o9 :: o10 :: o11 :: o :: r) H R) (R (o0 :: o1 :: o2 :: o3 :: o4 :: o5 :: o6 :: o7 :: o8 :: o9 :: o10 :: o11 :: some v :: r) H) := ⟨wn12⟩
instance go_wn13 {H : Hp} {v : V} {o0 o1 o2 o3 o4 o5 o6 o7 o8 o9 o10 o11 o12 o : Option V} {r : L2.St} {R : L2.St → Hp → Prop} : Go (gName 13 v (o0 :: o1 :: o2 :: o3 :: o4 :: o5 :: o6 :: o7 :: o8 :: o9 :: o10 :: o11 :: o12 :: o :: r) H R) (R (o0 :: o1 :: o2 :: o3 :: o4 :: o5 :: o6 :: o7 :: o8 :: o9 :: o10 :: o11 :: o12 :: some v :: r) H) := ⟨wn13⟩
instance go_w_i0 {H : Hp} {Q : VK} {i j : Int} {f : Int → Int → V} : Go (rI0 f (V.int i) (V.int j) H Q) (Q (f i j) H) := ⟨w_i0⟩
instance go_w_u {H : Hp} {Q : VK} {i : Int} {g : Int → V} : Go (rU g (V.int i) H Q) (Q (g i) H) := ⟨w_u⟩
instance go_w_un {σ : L2.St} {H : Hp} {Q : VK} {ta : TE} {r : V → Hp → VK → Prop} : Go (tUn r ta σ H Q) ((ta σ H fun (x : V) (H1 : Hp) ↦ r x H1 Q)) := ⟨w_un⟩
instance go_w_eqi {H : Hp} {Q : VK} {i j : Int} : Go (rEq (V.int i) (V.int j) H Q) (Q (V.bl (decide (i = j))) H) := ⟨w_eqi⟩
instance go_w_nei {H : Hp} {Q : VK} {i j : Int} : Go (rNe (V.int i) (V.int j) H Q) (Q (V.bl !decide (i = j)) H) := ⟨w_nei⟩
instance go_w_eqs {H : Hp} {Q : VK} {a b : Str} : Go (rEq (V.str a) (V.str b) H Q) (Q (V.bl (decide (a = b))) H) := ⟨w_eqs⟩
instance go_w_bl {k : Bool} {R : Bool → Prop} : Go (∃ (c : Bool), V.bl k = V.bl c ∧ R c) (R k) := ⟨w_bl⟩
instance go_w_not {σ : L2.St} {H : Hp} {c : TT} {R : Bool → Hp → Prop} : Go (tNot c σ H R) ((c σ H fun (b : Bool) (H1 : Hp) ↦ R (!b) H1)) := ⟨w_not⟩
instance go_w_and {σ : L2.St} {H : Hp} {c d : TT} {R : Bool → Hp → Prop} : Go (tAnd c d σ H R) ((c σ H fun (b : Bool) (H1 : Hp) ↦ if b = true then d σ H1 R else R false H1)) := ⟨w_and⟩
instance go_w_or {σ : L2.St} {H : Hp} {c d : TT} {R : Bool → Hp → Prop} : Go (tOr c d σ H R) ((c σ H fun (b : Bool) (H1 : Hp) ↦ if b = true then R true H1 else d σ H1 R)) := ⟨w_or⟩
instance go_w_notV {σ : L2.St} {H : Hp} {Q : VK} {ta : TE} : Go (tNotV ta σ H Q) ((ta σ H fun (x : V) (H1 : Hp) ↦ ∃ (c : Bool), x = V.bl c ∧ Q (V.bl !c) H1)) := ⟨w_notV⟩
instance go_w_andV {σ : L2.St} {H : Hp} {Q : VK} {ta tb : TE} : Go (tAndV ta tb σ H Q) ((ta σ H fun (x : V) (H1 : Hp) ↦ ∃ (c : Bool), x = V.bl c ∧ if c = true then tb σ H1 Q else Q (V.bl false) H1)) := ⟨w_andV⟩
instance go_w_chain {σ : L2.St} {H : Hp} {Q : VK} {ta tb tc : TE} {r r' : R2} : Go (tChain r r' ta tb tc σ H Q) ((ta σ H fun (x : V) (H1 : Hp) ↦ tb σ H1 fun (y : V) (H2 : Hp) ↦ r x y H2 fun (z : V) (H3 : Hp) ↦ ∃ (k : Bool), z = V.bl k ∧ if k = true then tc σ H3 fun (w : V) (H4 : Hp) ↦ r' y w H4 Q else Q (V.bl false) H3)) := ⟨w_chain⟩
instance go_w_bm {σ : L2.St} {H : Hp} {Q : VK} {K : W.Frag} {tr : TA} {T : String} {r : V → List V → Hp → VK → Prop} {to : TE} : Go (tBM K T r to tr σ H Q) ((to σ H fun (x : V) (H1 : Hp) ↦ tyV K T x H1 ∧ tr σ H1 fun (xs : List V) (H2 : Hp) ↦ r x xs H2 Q)) := ⟨w_bm⟩
instance go_w_bm0 {σ : L2.St} {H : Hp} {Q : VK} {K : W.Frag} {T : String} {r : V → List V → Hp → VK → Prop} {to : TE} : Go (tBM0 K T r to σ H Q) ((to σ H fun (x : V) (H1 : Hp) ↦ tyV K T x H1 ∧ r x [] H1 Q)) := ⟨w_bm0⟩
instance go_w_sub {σ : L2.St} {H : Hp} {v : V} {to ti : TE} {ts : TSet} {R : L2.St → Hp → Prop} : Go (gSub to ti ts v σ H R) ((to σ H fun (o : V) (H1 : Hp) ↦ ti σ H1 fun (i : V) (H2 : Hp) ↦ ts o i v H2 fun (H3 : Hp) ↦ R σ H3)) := ⟨w_sub⟩
instance go_w_slice {σ : L2.St} {H : Hp} {Q : VK} {t : TE} {r : V → Option Int → Option Int → Hp → VK → Prop} {tl th : TO} : Go (tSl r t tl th σ H Q) ((t σ H fun (x : V) (H1 : Hp) ↦ tl σ H1 fun (l : Option Int) (H2 : Hp) ↦ th σ H2 fun (u : Option Int) (H3 : Hp) ↦ r x l u H3 Q)) := ⟨w_slice⟩
instance go_w_noPart {σ : L2.St} {H : Hp} {R : Option Int → Hp → Prop} : Go (tNoPart σ H R) (R none H) := ⟨w_noPart⟩
instance go_w_part {σ : L2.St} {H : Hp} {t : TE} {R : Option Int → Hp → Prop} : Go (tPart t σ H R) ((t σ H fun (x : V) (H1 : Hp) ↦ ∃ (i : Int), x = V.int i ∧ R (some i) H1)) := ⟨w_part⟩
instance go_w_int {i : Int} {R : Int → Prop} : Go (∃ (k : Int), V.int i = V.int k ∧ R k) (R i) := ⟨w_int⟩
instance go_w_max {H : Hp} {Q : VK} {i j : Int} : Go (rMax2 [V.int i, V.int j] H Q) (Q (V.int (max i j)) H) := ⟨w_max⟩
instance go_w_min {H : Hp} {Q : VK} {i j : Int} : Go (rMin2 [V.int i, V.int j] H Q) (Q (V.int (min i j)) H) := ⟨w_min⟩
instance go_w_intB {H : Hp} {Q : VK} {k : Bool} : Go (rInt1 [V.bl k] H Q) (Q (V.int (if k = true then 1 else 0)) H) := ⟨w_intB⟩
instance go_go_tupA {σ : L2.St} {H : Hp} {tr : TA} {Q : VK} : Go (tTupA tr σ H Q) ((tr σ H fun (xs : List V) (H1 : Hp) ↦ List.length xs ≤ sizeLine ∧ ∀ (p : Addr) (H' : Hp), New H1 H' p (HO.tup xs) → Q (V.ref p) H')) := ⟨go_tupA⟩
instance go_go_lstA {σ : L2.St} {H : Hp} {tr : TA} {Q : VK} : Go (tLstA tr σ H Q) ((tr σ H fun (xs : List V) (H1 : Hp) ↦ List.length xs ≤ sizeLine ∧ ∀ (p : Addr) (H' : Hp), New H1 H' p (HO.lst xs) → Q (V.ref p) H')) := ⟨go_lstA⟩
instance go_w_isNB {H : Hp} {Q : VK} {a b : Bool} : Go (rIsNB (V.bl a) (V.bl b) H Q) (Q (V.bl !decide (a = b)) H) := ⟨w_isNB⟩
instance go_w_revSl {σ : L2.St} {H : Hp} {Q : VK} {K : W.Frag} {te ts : TE} : Go (tRevSl K te ts σ H Q) ((te σ H fun (x : V) (H1 : Hp) ↦ ts σ H1 fun (y : V) (H2 : Hp) ↦ ∃ (a : Addr), ∃ (xs : List V), x = V.ref a ∧ y = V.int (-1) ∧ SqL K H2 a xs ∧ ∀ (p : Addr) (H' : Hp), New H2 H' p (HO.lst (List.reverse xs)) → Q (V.ref p) H')) := ⟨w_revSl⟩
instance go_go_fld {K : W.Frag} {σ : L2.St} {H : Hp} {Q : VK} {ta : TE} {f : Str} : Go (tFld K ta f σ H Q) ((ta σ H fun (x : V) (H1 : Hp) ↦ ∃ (a : Addr), ∃ (C : Addr), ∃ (dx : Addr), ∃ (fs : List (Str × V)), ∃ (v : V), x = V.ref a ∧ H1 a = some (HO.ins C dx fs) ∧ Cls K C ∧ NoAttr K C f ∧ List.lookup f fs = some v ∧ Q v H1)) := ⟨go_fld⟩
instance go_go_methB {σ : L2.St} {H : Hp} {Q : VK} {ta : TE} {t : TA} {m : Str} {C : Addr} {sp : Sp} {E : XK} : Go (tMeth C m sp [] E ta t σ H Q) ((ta σ H fun (x : V) (H1 : Hp) ↦ ∃ (a : Addr), ∃ (dx : Addr), ∃ (fs : List (Str × V)), x = V.ref a ∧ H1 a = some (HO.ins C dx fs) ∧ List.lookup m fs = none ∧ t σ H1 fun (vs : List V) (H2 : Hp) ↦ sp (x :: vs) H2 Q E)) := ⟨go_methB⟩
instance go_go_makeB {σ : L2.St} {H : Hp} {Q : VK} {t : TA} {C : Addr} {sp : Sp} {E : XK} : Go (tMakeB C sp E t σ H Q) ((t σ H fun (vs : List V) (H1 : Hp) ↦ ∀ (x dx : Addr) (H2 : Hp), New H1 H2 x (HO.ins C dx []) → sp (V.ref x :: vs) H2 (fun (v : V) (H3 : Hp) ↦ v = V.non ∧ Q (V.ref x) H3) E)) := ⟨go_makeB⟩
instance go_go_sfldB {K : W.Frag} {σ : L2.St} {H : Hp} {ta tv : TE} {f : Str} {D : Ends} : Go (sFld K ta tv f D σ H) ((tv σ H fun (y : V) (H1 : Hp) ↦ ta σ H1 fun (x : V) (H2 : Hp) ↦ SetF K f y x H2 fun (H3 : Hp) ↦ Ends.nx D σ H3)) := ⟨go_sfldB⟩
instance go_w_isIB {H : Hp} {Q : VK} {K : W.Frag} {i : Int} : Go (rIsT K [V.int i, V.ty "bool"] H Q) (Q (V.bl false) H) := ⟨w_isIB⟩
instance go_i_tt {A B : Prop} : Go (if true = true then A else B) (A) := ⟨i_tt⟩
instance go_i_ff {A B : Prop} : Go (if false = true then A else B) (B) := ⟨i_ff⟩
instance go_i_ntt {A B : Prop} : Go (if (!true) = true then A else B) (B) := ⟨i_ntt⟩
instance go_go_ck {t : TA} {tv : TE} {r : List V → V → Hp → VK → Prop} {σ : L2.St} {H : Hp} {Q : VK} : Go (tCK r t tv σ H Q) ((t σ H fun (xs : List V) (H1 : Hp) ↦ tv σ H1 fun (y : V) (H2 : Hp) ↦ r xs y H2 Q)) := ⟨go_ck⟩
instance go_w_forE {K : W.Frag} {g : TG} {tb : TS} {D : Ends} {σ : L2.St} {H : Hp} {tr : TA} : Go (tFor (iEnum K tr) g tb D σ H) ((tr σ H fun (vs : List V) (H1 : Hp) ↦ ∃ (a : Addr), ∃ (xs : List V), vs = [V.ref a] ∧ SqL K H1 a xs ∧ ForE K a xs g tb D σ H1)) := ⟨w_forE⟩
instance go_w_forR1 {g : TG} {tb : TS} {D : Ends} {σ : L2.St} {H : Hp} {tr : TA} : Go (tFor (iRng1 tr) g tb D σ H) ((tr σ H fun (vs : List V) (H1 : Hp) ↦ ∃ (j : Int), vs = [V.int j] ∧ -2 ^ 62 ≤ j ∧ j < 2 ^ 62 ∧ ForR 0 (Int.toNat j) g tb D σ H1)) := ⟨w_forR1⟩
instance go_w_forR2 {g : TG} {tb : TS} {D : Ends} {σ : L2.St} {H : Hp} {tr : TA} : Go (tFor (iRng2 tr) g tb D σ H) ((tr σ H fun (vs : List V) (H1 : Hp) ↦ ∃ (i : Int), ∃ (j : Int), vs = [V.int i, V.int j] ∧ (-2 ^ 62 ≤ i ∧ i < 2 ^ 62 ∧ -2 ^ 62 ≤ j ∧ j < 2 ^ 62) ∧ ForR i (Int.toNat (j - i)) g tb D σ H1)) := ⟨w_forR2⟩
instance go_w_forL {K : W.Frag} {te : TE} {g : TG} {tb : TS} {D : Ends} {σ : L2.St} {H : Hp} : Go (tFor (iList K te) g tb D σ H) ((te σ H fun (x : V) (H1 : Hp) ↦ ∃ (a : Addr), x = V.ref a ∧ (∃ (xs : List V), SqL K H1 a xs) ∧ ForL K a g tb D σ H1)) := ⟨w_forL⟩
instance go_w_compL {K : W.Frag} {t0 te : TE} {nt : Nat} {fr : List Nat} {g : TG} {c : TT} {σ : L2.St} {H : Hp} {Q : VK} : Go (tComp (iList K t0) nt fr g c te σ H Q) ((t0 σ H fun (x : V) (H1 : Hp) ↦ ∃ (a : Addr), x = V.ref a ∧ (∃ (xs : List V), SqL K H1 a xs) ∧ CompAll (Itl K a) nt fr g c te σ H1 Q)) := ⟨w_compL⟩
section
variable {K : PySem.W.Frag} {H : Hp} {Q : VK} {E : XK} {x : V} {n : String} {p q : Addr} {a b c lo hi : Int} {ns : List Int} {m : Int}
instance go_fromI : Go (sp_is_from K [.int a, .int lo] H Q E) (Q (.bl (decide (lo ≤ a))) H) := ⟨u_fromI⟩
instance go_withinT : Go (sp_is_within K [.int a, .int lo, .int hi] H Q E) (Q (.bl (decide (lo ≤ a) && decide (a ≤ hi))) H) := ⟨fun k => ⟨_, _, lo, hi, rfl, .int _, k⟩⟩
instance go_manyI : Go (sp_is_many K [.int a] H Q E) (Q (.bl (decide (16 ≤ a) && decide (a ≤ 240))) H) := ⟨fun k => ⟨_, _, rfl, .int _, k⟩⟩
instance go_endof [h : Hat H q (.tup [.int a, .int b])] : Go (sp_end_of [.ref q] H Q E) (Q (.int (a + b)) H) := ⟨u_end h.e⟩
instance go_cellA [h : SqA K H p (ns.map V.int)] : Go (sp_cellA K [.ref p, .int m] H Q E) (Sd (0 ≤ m) (∀ c : Int, Q (.int c) H)) := ⟨fun s => u_cellA h.e s.1 s.2⟩
instance go_boxA : Go (sp_boxA [.int a] H Q E) (∀ x y : Int, ∀ (p : Addr) (H' : Hp), New H H' p (.lst [.int x, .int y, .int 0]) → Q (.ref p) H') := ⟨fun k => u_boxA fun p x y H' n => k x y p H' n⟩
end
end L2
namespace L2
open PySem PySem.Spec PyProof.Rows
def Itq (lo st : Int) (n : Nat) : It := { go := fun i _ => i < n, yld := fun i H x H' => H' = H ∧ x = .int (lo + i * st), stop := fun i _ => n ≤ i }
theorem turn_steps {P : Program} {w : World} {K : PySem.W.Frag} {tg : Expr} (z : Addr) (lo st : Int) (n : Nat) : Turn P w K tg (Itq lo st n) [z] z (fun i h => IsRangeIter h z (lo + (i : Nat) * st) ((n : Int) - (i : Nat)) st) := by
  refine ⟨List.mem_singleton.mpr rfl, ?_, ?_, ?_, ?_, fun _ _ _ _ _ g h => wpAny_pyIter_rangeiter g h⟩
  · intro i h g b hb
    rw [List.mem_singleton.mp hb]
    refine ⟨_, g, fun v y => ?_⟩
    have y : Data.fields _ = Data.cell v := y
    cases y
  · exact fun i h h' g k => k z (List.mem_singleton.mpr rfl) _ g
  · intro X e1 e2 e3 hc i pins s σ H E I hf g hg
    subst e1
    subst e2
    subst e3
    have fp := hf z (List.mem_singleton.mpr rfl)
    refine (Walks.range (prog := X.prog) (w := X.w) (I.ok.hd hc) z lo st n).item i s _ _ hg g ?_
    rintro v h' tk ⟨t, rfl⟩ g2 kk
    have I1 : Inv X pins σ H { s with heap := h', toks := tk } := by
      refine I.turned (it := z) (fun b o hb e => kk b o (fun y => hb (List.mem_singleton.mp y)) e) ?_ ?_ ?_ ?_ ?_
      · exact fp.1
      · exact fp.2.1
      · exact fp.2.2.2.1
      · exact fp.2.2.2.2.1
      · exact fp.2.2.2.2.2
    exact ⟨_, rfl, go_of (s := { s with heap := h', toks := tk }) (n := "range_iterator") g2 rfl rfl (by decide) ⟨.int (lo + i * st), H, I1, ⟨t, rfl⟩, ⟨rfl, rfl⟩, g2, fun b hb => (hf b hb).1⟩⟩
  · intro X e1 e2 e3 hc i pins s σ H E I hf g hg
    subst e1
    subst e2
    subst e3
    have fp := hf z (List.mem_singleton.mpr rfl)
    have hg : n ≤ i := hg
    refine wpAny_pyNext_range_end (I.ok.hd hc) g (by omega) fun h' eb => ⟨rfl, ?_⟩
    refine I.turned (it := z) (t' := s.toks) (fun b o hb e => eb b o hb e) ?_ ?_ ?_ ?_ ?_
    · exact fp.1
    · exact fp.2.1
    · exact fp.2.2.2.1
    · exact fp.2.2.2.2.1
    · exact fp.2.2.2.2.2
section
variable {tr : TA} {g : TG} {tb : TS} {D : Ends} {σ : St} {H : Hp}
def ForS (lo st : Int) (n : Nat) (g : TG) (tb : TS) (D : Ends) (σ : St) (H : Hp) : Prop := ∃ W : Nat → Nat → St → Hp → Prop, (∃ m, W 0 m σ H) ∧ ∀ i m σ H, W i m σ H →
      ((Itq lo st n).stop i H ∧ D.nx σ H) ∨ ((Itq lo st n).go i H ∧ ∃ N : St → Hp → Prop, (∀ σ' H', N σ' H' → ∃ m', m' < m ∧ W (i + 1) m' σ' H') ∧ ∀ x H', (Itq lo st n).yld i H x H' → g x σ H' fun σ2 H2 => tb { D with nx := N, ct := N, bk := D.nx } σ2 H2)
theorem forS_by {lo st : Int} {n : Nat} (Pv : Nat → St → Hp → Prop) (h0 : Pv 0 σ H) (hs : ∀ i σ H, i < n → Pv i σ H → g (.int (lo + i * st)) σ H fun σ2 H2 => tb { D with nx := Pv (i + 1), ct := Pv (i + 1), bk := D.nx } σ2 H2) (hd : ∀ σ H, Pv n σ H → D.nx σ H) : ForS lo st n g tb D σ H := by
  refine ⟨fun i m σ H => m = n - i ∧ i ≤ n ∧ Pv i σ H, ⟨n, by simp, Nat.zero_le _, h0⟩, ?_⟩
  rintro i m σ H ⟨rfl, hi, p⟩
  by_cases hl : i < n
  · refine .inr ⟨hl, Pv (i + 1), fun σ' H' p' => ⟨n - (i + 1), by omega, rfl, hl, p'⟩, ?_⟩
    rintro x H' ⟨rfl, rfl⟩
    exact hs i σ H' hl p
  · have e : i = n := by omega
    subst e
    exact .inl ⟨Nat.le_refl _, hd σ H p⟩
variable {K : PySem.W.Frag} {a : Addr} {xs : List V} {nt : Nat} {fr : List Nat} {c : TT} {te : TE} {Q : VK} {n m : Int}
instance go_cby [h : SqA K H a xs] : Go (∃ a', V.ref a = .ref a' ∧ (∃ xs, SqL K H a' xs) ∧ CompAll (Itl K a') nt fr g c te σ H Q) (CompAll (Itl K a) nt fr g c te σ H Q) := ⟨c_by h.e⟩
instance go_lby [h : SqA K H a xs] : Go (∃ a', V.ref a = .ref a' ∧ (∃ xs, SqL K H a' xs) ∧ ForL K a' g tb D σ H) (ForL K a g tb D σ H) := ⟨l_by h.e⟩
instance go_eby [h : SqA K H a xs] : Go (∃ a' xs', [V.ref a] = [.ref a'] ∧ SqL K H a' xs' ∧ ForE K a' xs' g tb D σ H) (ForE K a xs g tb D σ H) := ⟨e_by h.e⟩
end
class LkNe (L : List (Addr × HO)) (a b : Addr) : Prop where
  ne : (L.map (·.1)).Nodup → a ≠ b
section
variable {L R L' : List (Addr × HO)} {a b : Addr} {o : HO} {c : Addr × HO} {H0 H : Hp} {M : List Addr} {I : List Im}
instance lkNe2 [h : LkNe L a b] : LkNe (c :: L) a b := ⟨fun nd => h.ne (by rw [List.map_cons] at nd; exact (List.nodup_cons.mp nd).2)⟩
instance lkNe1 {o' : HO} [h : LkL L a o] : LkNe ((b, o') :: L) a b := ⟨fun nd z => by
  rw [List.map_cons] at nd
  exact (List.nodup_cons.mp nd).1 (by show b ∈ _; rw [← z]; exact List.mem_map_of_mem (f := (·.1)) h.m)⟩
instance lkNe0 {o' : HO} [h : LkL L b o] : LkNe ((a, o') :: L) a b := ⟨fun nd z => by
  rw [List.map_cons] at nd
  exact (List.nodup_cons.mp nd).1 (by show a ∈ _; rw [z]; exact List.mem_map_of_mem (f := (·.1)) h.m)⟩
theorem SH.neC [F : SH H0 M H L I] [h : LkNe L a b] : a ≠ b := h.ne F.nd
class PkC (c : Addr × HO) (L : List (Addr × HO)) (R : outParam (List (Addr × HO))) : Prop where
  p : Pk c L R
class SbC (L' L : List (Addr × HO)) : Prop where
  s : Sb L' L
instance pkC1 {d : Addr × HO} [h : PkC c L R] : PkC c (d :: L) (d :: R) := ⟨.tail h.p⟩
instance pkC0 : PkC c (c :: L) L := ⟨.head⟩
instance sbC0 : SbC [] L := ⟨.nil⟩
instance sbC1 [h : PkC c L R] [t : SbC L' R] : SbC (c :: L') L := ⟨.cons h.p t.s⟩
theorem SH.subC (F : SH H0 M H L I) [h : SbC L' L] : SH H0 M H L' [] := F.sub h.s (fun _ h => by cases h)
end
instance go_wv14 {H : Hp} {Q : VK} {v : V} {o0 o1 o2 o3 o4 o5 o6 o7 o8 o9 o10 o11 o12 o13 : Option V} {r : St} : Go (tVar 14 (o0 :: o1 :: o2 :: o3 :: o4 :: o5 :: o6 :: o7 :: o8 :: o9 :: o10 :: o11 :: o12 :: o13 :: some v :: r) H Q) (Q v H) := ⟨fun h => ⟨v, rfl, h⟩⟩
instance go_wn14 {H : Hp} {v : V} {o0 o1 o2 o3 o4 o5 o6 o7 o8 o9 o10 o11 o12 o13 o : Option V} {r : St} {R : St → Hp → Prop} : Go (gName 14 v (o0 :: o1 :: o2 :: o3 :: o4 :: o5 :: o6 :: o7 :: o8 :: o9 :: o10 :: o11 :: o12 :: o13 :: o :: r) H R) (R (o0 :: o1 :: o2 :: o3 :: o4 :: o5 :: o6 :: o7 :: o8 :: o9 :: o10 :: o11 :: o12 :: o13 :: some v :: r) H) := ⟨fun h => h⟩
end L2
namespace L2
open PySem PySem.Spec PyProof.Rows PySem.SeqAt
section
variable {K : PySem.W.Frag} {H0 H : Hp} {M : List Addr} {L L' : List (Addr × HO)} {I : List Im} {l b a p : Addr} {xs ys r : List V} {v v0 v1 y : V} {Q : VK} {R : Hp → Prop} {R' : Prop} {te : TE} {fvs σ : St} {fr : List Nat} {i j : Int} {Z : Addr → Hp → Prop}
instance go_nonAnd : Go (V.non = V.non ∧ R') R' := ⟨fun k => ⟨rfl, k⟩⟩
instance go_setA [h : Hat H l (.lst xs)] : Go (rSetA (.ref l) (.int i) v H R) (Sd (0 ≤ i ∧ i < xs.length) (∀ H', Off l H H' → H' l = some (.lst (xs.set i.toNat v)) → R H')) := ⟨fun s => w_setA h.e (i_idx s.1.1 s.1.2) s.2⟩
instance go_forR1 {g : TG} {tb : TS} {D : Ends} : Go (∃ j : Int, [V.int i] = [.int j] ∧ -(2 ^ 62) ≤ j ∧ j < 2 ^ 62 ∧ ForR 0 j.toNat g tb D σ H) (Sd (-(2 ^ 62) ≤ i ∧ i < 2 ^ 62) (ForR 0 i.toNat g tb D σ H)) := ⟨fun s => ⟨i, rfl, s.1.1, s.1.2, s.2⟩⟩
instance go_forR2 {g : TG} {tb : TS} {D : Ends} : Go (∃ i' j' : Int, [V.int i, V.int j] = [.int i', .int j'] ∧ (-(2 ^ 62) ≤ i' ∧ i' < 2 ^ 62 ∧ -(2 ^ 62) ≤ j' ∧ j' < 2 ^ 62) ∧ ForR i' (j' - i').toNat g tb D σ H) (Sd (-(2 ^ 62) ≤ i ∧ i < 2 ^ 62 ∧ -(2 ^ 62) ≤ j ∧ j < 2 ^ 62) (ForR i (j - i).toNat g tb D σ H)) := ⟨fun s => ⟨i, j, rfl, s.1, s.2⟩⟩
end
end L2
namespace L2
open PySem PySem.Spec PyProof.Rows
abbrev ixBody (x : Str) (p1 p2 p3 : Pos) (j : Nat) : Expr := .Subscript (.Name x p1) (.Constant (.int 1) j p2) p3
structure LamScope (x : Str) (scope : Scope) : Prop where
  kind : scope.kind = .function
  co : scope.isCoroutine = false
  gen : scope.isGenerator = false
  loc : scope.names.lookup x = some .local
  nocell : ∀ y ∈ scope.names, y.2 ≠ .cell
  nodeb : (x == ("__debug__" : Str)) = false
theorem lam_ix {prog : Program} {w : World} {A : Around} {s : Shared} {f q c' : Addr} {x qual : Str} {params : Arguments} {scope : Scope} {pm ctv u : Value} {p1 p2 p3 : Pos} {j : Nat} {its : List Value} {Q : Value → Shared → Prop} {E : Value → Shared → Prop}
    (hroom : A.depth < recursionLimit) (ho : s.heap.get? f = some (PySem.W.kla_obj "<lambda>" qual params (ixBody x p1 p2 p3 j) scope [] pm c' ctv)) (hcd : s.heap.CodeRec (.ref c') qual) (hlim : s.heap.NoLimit) (S : LamScope x scope)
    (hbind : bindArgs (PySem.W.kla_fn "<lambda>" qual params (ixBody x p1 p2 p3 j) scope [] pm (.ref c') ctv) ⟨[.ref q], []⟩ = pure [(x, .ref q)])
    (ht : IsTup s.heap q its.toArray) (hi : its[1]? = some u) (h : ∀ h' tk, (∀ b o, s.heap.get? b = some o → h'.get? b = some o) → Q u { s with heap := h', toks := tk }) : wpAny (model prog w) A (call (.ref f) [.ref q]) Q E s := by
  refine wpAny_call ?_
  refine PySem.W.kla_callFunE hroom ho rfl S.co S.gen rfl hcd ?_
  rw [hbind]
  refine wpAny_pure ?_
  refine wpAny_newFunctionEnv S.nocell (fun y hy => ?_) (fun h1 hns hsb => ?_) S.kind
  · rw [List.mem_singleton.mp hy]
    exact S.loc
  · have hk1 : ∀ b o, s.heap.get? b = some o → h1.get? b = some o := fun b o e => hsb.extBut b o (Nat.ne_of_lt (Heap.lt_size e)) (Heap.get?_push_of_some _ e)
    refine ⟨hlim.keeps hk1, PySem.W.kla_codeExpr ?_⟩
    refine Subscript_ (wpAny_Name (wpAny_loadName_local S.kind S.loc hns (v := .ref q) (by simp) ?_) S.nodeb)
    refine wpAny_Constant_int ?_
    have ht1 : IsTup h1 q its.toArray := by
      obtain ⟨o, e, r⟩ := ht
      exact ⟨o, hk1 _ _ e, r⟩
    have hlen : 1 < its.length := (List.getElem?_eq_some_iff.mp hi).1
    refine subscriptTail_builtinR (x := u) (IsTup.typeIs ht1) slot_tuple_getitem.lookup (getItem_tuple (j := 1) ht1 (by decide) (by decide) ?_ (by simpa using hi) ⟨rfl, ?_⟩) ?_
    · rw [List.size_toArray]
      unfold seqIndex?
      simp
      omega
    · exact h h1 _ hk1
    · rfl
theorem ObjOk.is {P : Program} {w : World} {H : Hp} {h : Heap} {a : Addr} {o : HO} (x : ObjOk P w H h a o) : ∃ ob, h.get? a = some ob := by
  cases o with
  | lst xs => obtain ⟨_, _, _, _, e⟩ := x; exact ⟨_, e⟩
  | tup xs => obtain ⟨_, _, _, ob, e, _⟩ := x; exact ⟨_, e⟩
  | dK kvs => obtain ⟨_, _, _, _, ob, _, _, e, _⟩ := x; exact ⟨_, e⟩
  | dT kvs => obtain ⟨_, _, _, _, ob, _, _, e, _⟩ := x; exact ⟨_, e⟩
  | set S n => obtain ⟨ob, _, _, _, e, _⟩ := x; exact ⟨_, e⟩
  | ins C dx fs => obtain ⟨_, _, _, e, _⟩ := x; exact ⟨_, e⟩
  | own y => exact x
  | xd fs => obtain ⟨_, ⟨ob, _, _, e, _⟩, _⟩ := x; exact ⟨_, e⟩
  | rng lo hi => obtain ⟨_, _, _, e⟩ := x; exact ⟨_, e⟩
  | frz ob u => exact ⟨_, x.1⟩
  | tbl ps => exact ⟨_, x⟩
  | met f y => exact ⟨_, x⟩
  | ext φ => exact x.2.1
def allBut (h : Heap) (L : Addr) : List (Addr × Obj) := (List.range h.objs.size).filterMap fun b => if b = L then none else (h.get? b).map fun o => (b, o)
theorem allBut_mem {h : Heap} {L b : Addr} {o : Obj} (e : h.get? b = some o) (n : b ≠ L) : (b, o) ∈ allBut h L := by
  unfold allBut
  refine List.mem_filterMap.mpr ⟨b, List.mem_range.mpr (Heap.lt_size e), ?_⟩
  rw [if_neg n, e]
  rfl
theorem of_allBut {h : Heap} {L : Addr} {p : Addr × Obj} (m : p ∈ allBut h L) : h.get? p.1 = some p.2 ∧ p.1 ≠ L := by
  unfold allBut at m
  obtain ⟨b, _, e⟩ := List.mem_filterMap.mp m
  split at e
  · cases e
  · rename_i n
    cases q : h.get? b with
    | none => rw [q] at e; cases e
    | some o =>
      rw [q] at e
      cases e
      exact ⟨q, n⟩
theorem ns_one {h : Heap} {a : Addr} {m m' : Str → Option Value} (x : h.Ns a m) (y : h.Ns a m') : m = m' := by
  obtain ⟨o, es, ep, e, d, _, f⟩ := x
  obtain ⟨o', es', ep', e', d', _, f'⟩ := y
  rw [e] at e'
  cases e'
  rw [d] at d'
  cases d'
  funext k
  rw [← f k, ← f' k]
theorem Inv.newIn {X : Cx} {pins : List (Addr × Obj)} {σ : St} {H : Hp} {s : Shared} {h' : Heap} {t' : Nat} {D : Addr} {o : HO} {m : Str → Option Value} (I : Inv X pins σ H s) (k : ∀ b u, b ≠ X.env.locals → s.heap.get? b = some u → h'.get? b = some u)
    (hm : s.heap.Ns X.env.locals m) (hm' : h'.Ns X.env.locals m) (hn : s.heap.get? D = none) (new : ObjOk X.prog X.w (upd H D o) h' D o) : Inv X pins σ (upd H D o) { s with heap := h', toks := t' } := by
  have hD : H D = none := by
    cases q : H D with
    | none => rfl
    | some u =>
      obtain ⟨ob, e⟩ := (I.hok D u q).is
      rw [hn] at e
      cases e
  have nL : ∀ b u, H b = some u → b ≠ X.env.locals := fun b u e z => by rw [z, I.free] at e; cases e
  have nD : ∀ {b : Addr} {u : HO}, H b = some u → upd H D o b = some u := fun {b u} e => by rw [upd_ne (fun z => by rw [z, hD] at e; cases e)]; exact e
  refine I.step (g' := s.gens) (d' := s.drawn) (ch := []) (fun _ z => nomatch z) (fun b u n _ _ e _ => k b u n e) (fun b u n _ _ e _ => ⟨u.slots, k b u n e⟩) (fun b u _ e q => ?_) (fun b u _ e => ?_) (fun b xs e => nD e) (fun b u v e => nD e) (fun b ps e => ⟨#[], by rw [nD e]; simp⟩) (fun m2 hm2 => ?_) (fun b u e => ?_) I.bare
  · rw [upd_ne (fun z => by rw [z, hn] at e; cases e)]
    exact q
  · by_cases n : b = X.env.locals
    · obtain ⟨ob, _, _, e2, _⟩ := hm'
      exact ⟨ob, by rw [n]; exact e2⟩
    · exact ⟨u, k b u n e⟩
  · rw [ns_one hm2 hm]
    exact hm'
  · by_cases hb : b = D
    · rw [hb, upd_same] at e
      cases e
      rw [hb]
      exact new
    · rw [upd_ne hb] at e
      refine (I.hok b u e).stay (fun c v hc q => k c v ?_ q) (fun c q => nD q) fun c xs q => nD q
      rcases hc with z | z
      · rw [z]
        exact nL b u e
      · exact nL c _ z
def IsLam (H : Hp) (f : Addr) : Prop := ∃ (qual x : Str) (params : Arguments) (p1 p2 p3 : Pos) (j : Nat) (scope : Scope) (pm ctv : Value) (c' : Addr) (oc : Obj) (vs : Array Value) (t : Tok),
  H f = some (.frz (PySem.W.kla_obj "<lambda>" qual params (ixBody x p1 p2 p3 j) scope [] pm c' ctv) (.own f)) ∧ H c' = some (.frz oc (.own c')) ∧ oc.data = .fields vs ∧ vs[1]? = some (.str qual t) ∧ LamScope x scope ∧
  ∀ q : Addr, bindArgs (PySem.W.kla_fn "<lambda>" qual params (ixBody x p1 p2 p3 j) scope [] pm (.ref c') ctv) ⟨[.ref q], []⟩ = pure [(x, .ref q)]
def SortedBy (ks : List Int) (xs ys : List V) : Prop := ∃ ps : List (Int × V), ps.Perm (ks.zip xs) ∧ ys = ps.map Prod.snd ∧ ps.Pairwise fun a b => a.1 ≤ b.1
def rSortK (K : PySem.W.Frag) : List V → V → Hp → VK → Prop := fun vs y H Q => ∃ (l f : Addr) (xs : List V) (ks : List Int), vs = [.ref l] ∧ y = .ref f ∧ IsLam H f ∧ SqL K H l xs ∧ ks.length = xs.length ∧ xs.length < 64 ∧
  (∀ (i : Nat) v k, xs[i]? = some v → ks[i]? = some k → ∃ q r, v = .ref q ∧ H q = some (.tup r) ∧ r[1]? = some (.int k)) ∧ ∀ D ys H', New H H' D (.lst ys) → SortedBy ks xs ys → Q (.ref D) H'
def backV : Value → V
  | .ref a => .ref a
  | _ => .non
theorem vals_refs : ∀ {xs : List V} {us : List Value}, Vals xs us → (∀ v ∈ xs, ∃ q, v = .ref q) → xs = us.map backV ∧ ∀ u ∈ us, ∃ q, u = .ref q
  | _, _, .nil, _ => ⟨rfl, fun _ h => by cases h⟩
  | _, _, .cons r t, h => by
    obtain ⟨e1, e2⟩ := vals_refs t fun v hv => h v (List.mem_cons_of_mem _ hv)
    obtain ⟨q, rfl⟩ := h _ List.mem_cons_self
    cases r
    refine ⟨by rw [List.map_cons, ← e1]; rfl, fun u hu => ?_⟩
    rcases List.mem_cons.mp hu with rfl | hu
    · exact ⟨q, rfl⟩
    · exact e2 u hu
theorem vals_back : ∀ {us : List Value}, (∀ u ∈ us, ∃ q, u = .ref q) → Vals (us.map backV) us
  | [], _ => .nil
  | u :: us, h => by
    obtain ⟨q, rfl⟩ := h u List.mem_cons_self
    exact .cons rfl (vals_back fun v hv => h v (List.mem_cons_of_mem _ hv))
theorem call_sortK {X : Cx} {K : PySem.W.Frag} {k : Nat} (hK : X.K = K) (hr : Room k X.A) : CallK X "sorted" "key" (rSortK K) := by
  intro pins s σ H vs us y u Q I rv ry h
  subst hK
  obtain ⟨l, f, xs, ks, rfl, rfl, lam, hq, hl, h64, hk, q⟩ := h
  cases ry
  rcases rv with _ | ⟨r, _ | _⟩
  cases r
  obtain ⟨its, rv, p, hz⟩ := I.list hq
  obtain ⟨m, hm, _⟩ := id I.loc
  obtain ⟨qual, x, params, p1, p2, p3, j, scope, pm, ctv, c', oc, cv, t, ef, ec, ed, e1, S, hb⟩ := lam
  have hlen : its.length = xs.length := rv.length.symm
  have nL : ∀ {b : Addr} {u : HO}, H b = some u → b ≠ X.env.locals := fun {b u} e z => by rw [z, I.free] at e; cases e
  have refs : ∀ v ∈ xs, ∃ q, v = V.ref q := fun v hv => by
    obtain ⟨i, hi, e⟩ := List.getElem_of_mem hv
    obtain ⟨q, r, e2, _⟩ := hk i v (ks[i]'(by omega)) (by rw [← e]; simp) (by simp)
    exact ⟨q, e2⟩
  obtain ⟨xb, ub⟩ := vals_refs rv refs
  have keep : ∀ {h : Heap} {own : List (Addr × Obj)}, News { objs := #[] } X.env.locals h (allBut s.heap X.env.locals ++ own) → ∀ b o, b ≠ X.env.locals → s.heap.get? b = some o → h.get? b = some o := fun N b o n e => (N (b, o) (List.mem_append_left _ (allBut_mem e n))).1
  refine ksk_sorted (h₀ := { objs := #[] }) (L := X.env.locals) (m := m) (news := allBut s.heap X.env.locals) (b := false) (vs := its) (kz := ks) (f := .ref f) ⟨hm, fun b o e => ?_, Nat.zero_le _⟩ (fun p hp => ⟨(of_allBut hp).1, (of_allBut hp).2, rfl⟩) p.isList (by omega) (by omega) (ksk_s1 _ _) (fun x => ksk_l1 _ _) (fun x => ksk_t1 f x) ?_ ?_
  · have e : Heap.get? { objs := #[] } b = some o := e
    simp [Heap.get?] at e
  · intro i v k hv hki h tk own F N
    have kp := keep N
    have hx : xs[i]? = some (backV v) := by rw [xb, List.getElem?_map, hv]; rfl
    obtain ⟨q, r, e2, e3, e4⟩ := hk i _ k hx hki
    obtain ⟨q', rfl⟩ := ub v (List.mem_of_getElem? hv)
    cases e2
    obtain ⟨_, its2, rv2, ob, et, ec2⟩ := I.hok q _ e3
    obtain ⟨u2, eu, ru⟩ := rv2.get e4
    obtain ⟨t2, rfl⟩ := ru
    have lim : h.NoLimit := I.ok.mod.nolimit.keeps fun b o e => kp b o (Nat.ne_of_lt (Nat.lt_of_lt_of_le (Heap.lt_size e) (Nat.le_trans I.ok.bsz I.ok.above))) (I.bk b o e)
    refine lam_ix (A := X.A.in1.in1) (s := { s with heap := h, toks := tk }) (show X.A.depth < _ from hr.depth) (kp _ _ (nL ef) (I.hok f _ ef).1) ⟨c', oc, cv, t, rfl, kp _ _ (nL ec) (I.hok c' _ ec).1, ed, e1⟩ lim S (hb q) (its := its2) ⟨ob, kp _ _ (nL e3) et, ec2⟩ eu fun h' tk' k2 => ?_
    exact KskEnd.intro (s₁ := { s with heap := h, toks := tk }) (news' := allBut s.heap X.env.locals ++ own) ⟨F.ns.keeps k2, fun b o e => k2 b o (F.keep b o e), F.above⟩ (fun p hp => ⟨k2 _ _ (N p hp).1, (N p hp).2⟩) fun p hp => hp
  · intro D h' tk out c F N hD out'
    obtain ⟨ps, pp, eo, pw⟩ := out'
    have hn : s.heap.get? D = none := by
      cases e : s.heap.get? D with
      | none => rfl
      | some o =>
        have := hD (D, o) (allBut_mem e (N (D, seqObj "list" out c) List.mem_cons_self).2.1)
        exact absurd this (Nat.lt_irrefl _)
    have hin : ∀ u ∈ out.toList, ∃ q, u = Value.ref q := fun u hu => by
      rw [eo] at hu
      obtain ⟨pr, h1, rfl⟩ := List.mem_map.mp hu
      have := pp.mem_iff.mp h1
      exact ub _ (List.of_mem_zip (show (pr.1, pr.2) ∈ ks.zip its from this)).2
    have lo : out.toList.length = xs.length := by
      rw [eo, List.length_map, pp.length_eq, List.length_zip]
      omega
    refine ⟨.ref D, upd H D (.lst (out.toList.map backV)), I.newIn (t' := tk) (fun b u n e => (N (b, u) (List.mem_cons_of_mem _ (allBut_mem e n))).1) hm F.ns hn ?_, rfl, q D _ _ (New.mk' ?_) ⟨ps.map fun pr => (pr.1, backV pr.2), ?_, ?_, ?_⟩⟩
    · refine ⟨by rw [List.length_map, lo]; exact hz, out.toList, c, vals_back hin, ?_⟩
      exact (N (D, seqObj "list" out c) List.mem_cons_self).1
    · cases e : H D with
      | none => rfl
      | some u =>
        obtain ⟨ob, e2⟩ := (I.hok D u e).is
        rw [hn] at e2
        cases e2
    · have := pp.map fun pr : Int × Value => (pr.1, backV pr.2)
      rw [xb]
      have e3 : (ks.zip its).map (fun pr : Int × Value => (pr.1, backV pr.2)) = ks.zip (its.map backV) := by
        rw [List.zip_map_right]
        rfl
      rw [← e3]
      exact this
    · rw [eo, List.map_map, List.map_map]
      rfl
    · exact List.pairwise_map.mpr (pw.imp fun h => by simpa using h)
theorem Inv.grow {X : Cx} {pins : List (Addr × Obj)} {σ : St} {H H' : Hp} {s : Shared} {h' : Heap} {t' : Nat} (I : Inv X pins σ H s) (k : ∀ b u, H b = none → s.heap.get? b = some u → h'.get? b = some u ∧ H' b = none)
    (kt : ∀ b u, H b = some u → (H' b = some u ∧ ∀ o, s.heap.get? b = some o → h'.get? b = some o) ∨ ∃ ps more, u = .tbl ps ∧ H' b = some (.tbl (ps ++ more)) ∧ h'.get? b = some { cls := .none, data := .fields (ps ++ more) })
    (new : ∀ b u, H b = none → H' b = some u → ObjOk X.prog X.w H' h' b u) : Inv X pins σ H' { s with heap := h', toks := t' } := by
  have same : ∀ {b : Addr} {u : HO}, H b = some u → (∀ ps, u ≠ .tbl ps) → H' b = some u ∧ ∀ o, s.heap.get? b = some o → h'.get? b = some o := fun {b u} e n => by
    rcases kt b u e with z | ⟨ps, _, z, _⟩
    · exact z
    · exact absurd z (n ps)
  obtain ⟨m0, ⟨oL, esL, epL, eL, rL⟩, _⟩ := id I.loc
  have kL := (k _ _ I.free eL).1
  refine I.step (g' := s.gens) (d' := s.drawn) (ch := []) (fun _ z => nomatch z) (fun b u n _ _ e q => (k b u q e).1) (fun b u n _ _ e q => ⟨u.slots, (k b u q e).1⟩) (fun b u _ e q => (k b u q e).2) (fun b u _ e => ?_) (fun b xs e => (same e (by intro _ z; cases z)).1) (fun b u v e => (same e (by intro _ z; cases z)).1) (fun b ps e => ?_) (fun m2 hm2 => ?_) (fun b u e => ?_) I.bare
  · cases q : H b with
    | none => exact ⟨u, (k b u q e).1⟩
    | some v =>
      rcases kt b v q with z | ⟨ps, more, _, _, z⟩
      · exact ⟨u, z.2 u e⟩
      · exact ⟨_, z⟩
  · rcases kt b _ e with z | ⟨ps', more, z, z2, _⟩
    · exact ⟨#[], by rw [z.1]; simp⟩
    · cases z
      exact ⟨more, z2⟩
  · obtain ⟨o, es, ep, e, r⟩ := hm2
    rw [eL] at e
    cases e
    exact ⟨_, es, ep, kL, r⟩
  · cases q : H b with
    | none => exact new b u q e
    | some v =>
      rcases kt b v q with z | ⟨ps, more, rfl, z2, z3⟩
      · rw [z.1] at e
        cases e
        refine (I.hok b _ q).stay (fun c o hc e2 => ?_) (fun c e2 => (same e2 (by intro _ z; cases z)).1) fun c xs e2 => (same e2 (by intro _ z; cases z)).1
        rcases hc with rfl | hc
        · exact z.2 o e2
        · exact (same hc (by intro _ z; cases z)).2 o e2
      · rw [z2] at e
        cases e
        exact z3
def TabOk (pos : Pos) (qual : Str) (ps : Array Value) (H : Hp) : Prop := ps = #[] ∨ ∃ (c' : Addr) (oc : Obj) (vs : Array Value) (t : Tok), ps = #[rawInt pos.line, rawInt pos.col, .ref c'] ∧ H c' = some (.frz oc (.own c')) ∧ oc.data = .fields vs ∧ vs[1]? = some (.str qual t)
def Bm (mg : Str → Option Value) (base : Heap) : Prop := ∃ bm ob, mg "__builtins__" = some (.ref bm) ∧ bm ≠ builtinsNs ∧ base.get? bm = some ob ∧ ob.cls = .type "module" ∧ ob.dict = some builtinsNs ∧ ob.data = .plain
def tLam (P : Addr) (pos : Pos) (qual : Str) : TE := fun _ H Q => ∃ ps, H P = some (.tbl ps) ∧ TabOk pos qual ps H ∧ ∀ f ps' H', Kp P H H' → H' P = some (.tbl ps') → TabOk pos qual ps' H' → IsLam H' f → Q (.ref f) H'
theorem pe_lam {X : Cx} {c P : Addr} {qual x : Str} {params : Arguments} {scope : Scope} {p1 p2 p3 pos : Pos} {j : Nat} (B : Bm X.mg X.base) (hc : X.env.code = .ref c) (hK : PySem.W.codeHdIn X.K c P = true) (hq : X.env.qual ++ ("<lambda>" : Str) = qual) (S : LamScope x scope)
    (hdef : defaultsOf params X.env = ([], []) := by rfl) (hcl : closureFor scope X.env = pure [] := by rfl)
    (hb : ∀ (pm ctv : Value) (c' q : Addr), bindArgs (PySem.W.kla_fn "<lambda>" qual params (ixBody x p1 p2 p3 j) scope [] pm (.ref c') ctv) ⟨[.ref q], []⟩ = pure [(x, .ref q)] := by intros; rfl) :
    PE X (.Lambda params (ixBody x p1 p2 p3 j) scope pos) (tLam P pos qual) := by
  intro pins s σ H Q I h
  obtain ⟨ps, eP, tk, q⟩ := h
  have hP : s.heap.get? P = some (PySem.W.tabObj ps) := I.hok P _ eP
  obtain ⟨bm, ob, b1, b2, b3, b4, b5, b6⟩ := B
  have hg : s.heap.Ns mainGlobals X.mg := I.ok.mod.glob.keeps I.bk
  have nob : ∀ {b : Addr} {o : Obj}, X.base.get? b = some o → b ≠ P := fun {b o} e z => by
    have := (I.bs b o e).2
    rw [z, eP] at this
    cases this
  have nG : mainGlobals ≠ P := by
    obtain ⟨o, _, _, e, _⟩ := I.ok.mod.glob
    exact nob e
  have nbG : bm ≠ mainGlobals := fun z => by
    obtain ⟨o, es, ep, e, hd, _⟩ := I.ok.mod.glob
    rw [z, e] at b3
    cases b3
    rw [hd] at b6
    cases b6
  have BA : s.heap.BuiltinsAt X.mg P := ⟨bm, ob, b1, b2, nbG, nob b3, I.bk _ _ b3, b4, b5, b6⟩
  have CH := PySem.W.codeHd_of_K I.kIn hK
  refine PySem.W.kla_eval hdef ?_
  rw [hq]
  have nP : ∀ {b : Addr}, H b = none → b ≠ P := fun {b} e z => by rw [z, eP] at e; cases e
  rcases tk with rfl | ⟨c', oc, vs, t, rfl, e1, e2, e3⟩
  · refine PySem.W.kla_makeFunction hcl I.ok.glob hg hc CH hP trivial rfl nG BA fun c' ctv h' tk' hx hge hlt hrec hP' => ?_
    obtain ⟨c2, oc, vs, t, z, hoc, hd, hv⟩ := hrec
    cases z
    have fc : H c' = none := I.hok.fresh hge
    have hsz : s.heap.objs.size ≤ h'.objs.size := Nat.le_trans hge (Nat.le_of_lt hlt)
    have ff : H h'.objs.size = none := I.hok.fresh hsz
    have ncf : c' ≠ h'.objs.size := Nat.ne_of_lt hlt
    have ncP : c' ≠ P := nP fc
    have nfP : h'.objs.size ≠ P := nP ff
    generalize hf : h'.objs.size = f at *
    generalize hob : PySem.W.kla_obj "<lambda>" qual params (ixBody x p1 p2 p3 j) scope [] ((X.mg "__name__").getD .none) c' ctv = fo
    let H' : Hp := upd (upd (upd H P (.tbl (#[] ++ #[rawInt pos.line, rawInt pos.col, .ref c']))) c' (.frz oc (.own c'))) f (.frz fo (.own f))
    have hP2 : H' P = some (.tbl #[rawInt pos.line, rawInt pos.col, .ref c']) := by
      show upd _ _ _ _ = _
      rw [upd_ne (Ne.symm nfP), upd_ne (Ne.symm ncP), upd_same]
      simp
    have hc2 : H' c' = some (.frz oc (.own c')) := by
      show upd _ _ _ _ = _
      rw [upd_ne ncf, upd_same]
    have hf2 : H' f = some (.frz fo (.own f)) := upd_same
    have old : ∀ {b : Addr}, b ≠ P → b ≠ c' → b ≠ f → H' b = H b := fun {b} n1 n2 n3 => by
      show upd _ _ _ _ = _
      rw [upd_ne n3, upd_ne n2, upd_ne n1]
    have push : ∀ {b : Addr} {o : Obj}, h'.get? b = some o → (h'.push fo).get? b = some o := fun e => Heap.get?_push_of_some _ e
    have I' : Inv X pins σ H' { s with heap := h'.push fo, toks := tk' } := by
      refine I.grow (fun b u n e => ?_) (fun b u e => ?_) fun b u n e => ?_
      · have lt := Heap.lt_size e
        have n2 : b ≠ c' := Nat.ne_of_lt (Nat.lt_of_lt_of_le lt hge)
        have n3 : b ≠ f := Nat.ne_of_lt (Nat.lt_of_lt_of_le lt hsz)
        exact ⟨push (hx b u (nP n) e), by rw [old (nP n) n2 n3]; exact n⟩
      · by_cases hbP : b = P
        · right
          rw [hbP, eP] at e
          cases e
          exact ⟨#[], #[rawInt pos.line, rawInt pos.col, .ref c'], rfl, by rw [hbP, hP2]; simp, by rw [hbP]; exact push hP'⟩
        · left
          have n2 : b ≠ c' := fun z => by rw [z, fc] at e; cases e
          have n3 : b ≠ f := fun z => by rw [z, ff] at e; cases e
          exact ⟨by rw [old hbP n2 n3]; exact e, fun o e4 => push (hx b o hbP e4)⟩
      · by_cases hbf : b = f
        · rw [hbf, hf2] at e
          cases e
          have e5 : (h'.push fo).get? f = some fo := by
            rw [← hf]
            exact Heap.get?_push_size _ (by rw [← hob]; rfl)
          rw [hbf]
          exact ⟨e5, _, e5⟩
        · by_cases hbc : b = c'
          · rw [hbc, hc2] at e
            cases e
            rw [hbc]
            exact ⟨push hoc, _, push hoc⟩
          · have hbP : b ≠ P := nP n
            rw [old hbP hbc hbf, n] at e
            cases e
    refine ⟨.ref f, H', I', rfl, q f _ H' (fun b u n e => ?_) hP2 (.inr ⟨c', oc, vs, t, rfl, hc2, hd, hv⟩) ⟨qual, x, params, p1, p2, p3, j, scope, _, ctv, c', oc, vs, t, by rw [hf2, ← hob], hc2, hd, hv, S, hb _ _ _⟩⟩
    have n2 : b ≠ c' := fun z => by rw [z, fc] at e; cases e
    have n3 : b ≠ f := fun z => by rw [z, ff] at e; cases e
    rw [old n n2 n3]
    exact e
  · have hcode : codeAmong pos (#[rawInt pos.line, rawInt pos.col, Value.ref c']).toList = some (.ref c') := by
      show (if ((pos.line : Int) == (pos.line : Int) && (pos.col : Int) == (pos.col : Int)) = true then some (Value.ref c') else _) = _
      simp
    refine PySem.W.kla_makeFunctionHit hcl I.ok.glob hg hc CH hP trivial hcode BA fun ctv h' tk' hx hsz => ?_
    have ff : H h'.objs.size = none := I.hok.fresh hsz
    generalize hob : ({ cls := Value.type "function", data := Data.func (PySem.W.kla_fn "<lambda>" qual params (ixBody x p1 p2 p3 j) scope [] ((X.mg "__name__").getD .none) (.ref c') ctv) } : Obj) = fo
    have e5 : (h'.push fo).get? h'.objs.size = some fo := Heap.get?_push_size _ (by rw [← hob]; rfl)
    have k2 : ∀ {b : Addr} {u : HO}, H b = some u → upd H h'.objs.size (.frz fo (.own h'.objs.size)) b = some u := fun {b u} e => by
      rw [upd_ne (fun z => by rw [z, ff] at e; cases e)]
      exact e
    refine ⟨.ref h'.objs.size, upd H h'.objs.size (.frz fo (.own h'.objs.size)), I.laid (t' := tk') (fun b u e => Heap.get?_push_of_some _ (hx b u e)) hsz ⟨e5, _, e5⟩, rfl, q _ _ _ (fun b u n e => k2 e) (k2 eP) (.inr ⟨c', oc, vs, t, rfl, k2 e1, e2, e3⟩) ⟨qual, x, params, p1, p2, p3, j, scope, _, ctv, c', oc, vs, t, by rw [upd_same, ← hob], k2 e1, e2, e3, S, hb _ _ _⟩⟩
section
variable {P : Program} {w : World} {K : PySem.W.Frag} {mg : Str → Option Value} {base : Heap} {CX : CXT} {k : Nat} {nm qual : Str} {st : Stmt} {f c : Addr} {N ps : List Str} {sp : Sp}
theorem fn_tellsC (h : ∃ fd, Fun K nm qual st f fd ∧ fd.code = .ref c) (S : FnScope N ps (defScope st)) (len : ∀ vs H Q E, sp vs H Q E → vs.length = ps.length)
    (hb : ∀ (kV doc pm : Value) (an : Option Addr) (cdv ct : Value) (us : List Value), us.length = ps.length → bindArgs (PySem.W.fnOf nm qual (defArgs st) (defBody st) (defScope st) .none kV doc pm an cdv ct) ⟨us, []⟩ = pure (ps.zip us))
    (hbody : ∀ (f : Addr) (A : Around) (outer : List Env) (s : Shared) (H : Hp) (vs : List V) (Q : VK) (E : XK), Room k (A.deeper (envOfC qual (defScope st) s.heap.objs.size f (.ref c))) → sp vs H Q E →
      ∃ t, PSs (cxOf CX P w K mg base N qual (defScope st) f (.ref c) A outer s H E).nox (defBody st) t ∧ t { nx := fun _ H' => Q .non H', rt := Q } (start N vs) H) : FnTells P w K mg base CX (k + 1) f ps sp := by
  obtain ⟨fd, F, hc⟩ := h
  refine ⟨fd, ?_, F.binds hb⟩
  obtain ⟨oc, od, kV, doc, pm, an, cdv, ct, osl, rfl, lk, hcd⟩ := F.ex
  obtain rfl : cdv = .ref c := hc
  refine fn_of lk hcd S len fun A outer s H vs Q E hr hsp => ?_
  obtain ⟨t, h, q⟩ := hbody f A outer s H vs Q E hr hsp
  exact ⟨t, h.nox, q⟩
end
def OnlyT (ts : List Addr) (H : Hp) : Prop := (∀ p ∈ ts, H p = some (.tbl #[])) ∧ ∀ b, b ∉ ts → H b = none ∨ ∃ o xs, H b = some (.frz o (.lst xs))
theorem law_callT {P : Program} {w : World} {K : PySem.W.Frag} {mg mb : Str → Option Value} {CX : CXT} {k : Nat} {fa a : Addr} {fd : FuncData} {x : Str} {sp : Sp} {s₁ : Shared} {vs : List Value} {ns : List Int} {ts : List Addr}
    (KX : K.In s₁.heap) (hns : s₁.heap.Ns mainGlobals mg) (hb : s₁.heap.Ns builtinsNs mb) (hbb : ∀ x : Str, x ≠ "__name__" → mb x = bootBuiltins x) (hlim : s₁.heap.NoLimit) (hg : s₁.gens = #[]) (hB : Bm mg s₁.heap)
    (hts : ∀ p ∈ ts, s₁.heap.get? p = some (PySem.W.tabObj #[])) (hct : ∀ p ∈ ts, isCodeTable s₁.heap p) (hKt : ∀ p ∈ ts, K.lookup p = none)
    (ha : s₁.heap.get? a = some { cls := .type "list", data := .seq vs.toArray }) (hi : IntsAre vs ns) (hl : ns.length ≤ sizeLine) (hr : Room k callerA)
    (F : ∀ base : Heap, K.In base → base.Ns mainGlobals mg → Bm mg base → FnOk P w K mg base CX k fa fd [x] sp) (hbind : ∀ (s : Shared) (u : Value), BindsTo s fd ⟨[u], []⟩ [(x, u)])
    (hsp : ∀ H : Hp, OnlyT ts H → a ∉ ts → SqL K H a (ns.map V.int) → sp [.ref a] H (fun v _ => v = .bl true) fun _ _ _ => False)
    (hCX : ∀ H e s', CX [] H s₁ (fun _ _ _ => False) e s' → False) :
    codeAny (model P w) callerA (.call (.ref fa) ⟨[.ref a], []⟩) (fun r s' => r = .ok (.ret (.bool true)) ∧ OldK s₁.heap s'.heap ∧ s'.os = s₁.os ∧ AllBare s'.gens) s₁ := by
  have rv := vals_ints hi
  have lenV := hi.length
  have nat : a ∉ ts := fun z => by
    have := hts a z
    rw [ha] at this
    cases this
  have core : ∀ H : Hp, OnlyT ts H → SqL K H a (ns.map V.int) → HOk P w H s₁.heap → (∀ b, b ∉ ts → H b ≠ none → b = a) → (H a ≠ none → K.lookup a = none) →
      codeAny (model P w) callerA (.call (.ref fa) ⟨[.ref a], []⟩) (fun r s' => r = .ok (.ret (.bool true)) ∧ OldK s₁.heap s'.heap ∧ s'.os = s₁.os ∧ AllBare s'.gens) s₁ := by
    intro H hO hS hok hA hK
    have kindOf : ∀ {b : Addr} {o : Obj}, s₁.heap.get? b = some o → H b ≠ none → o = PySem.W.tabObj #[] ∨ o = { cls := .type "list", data := .seq vs.toArray } := fun {b o} e n => by
      by_cases hb : b ∈ ts
      · left
        have := hts b hb
        rw [e] at this
        exact Option.some.inj this
      · right
        have := hA b hb n
        rw [this, ha] at e
        exact (Option.some.inj e).symm
    have keep : ∀ {b : Addr} {o : Obj}, s₁.heap.get? b = some o → o ≠ PySem.W.tabObj #[] → o ≠ { cls := .type "list", data := .seq vs.toArray } → (hidT s₁.heap H).get? b = some o := fun {b o} e n1 n2 => hidT_get e (by
      cases q : H b with
      | none => rfl
      | some u =>
        rcases kindOf e (by rw [q]; simp) with z | z
        · exact absurd z n1
        · exact absurd z n2)
    have nsK : ∀ {b : Addr} {m : Str → Option Value}, s₁.heap.Ns b m → (hidT s₁.heap H).Ns b m := fun {b m} ⟨o, es, ep, e, d, r⟩ => ⟨o, es, ep, keep e (fun z => by rw [z] at d; cases d) (fun z => by rw [z] at d; cases d), d, r⟩
    have hKb : K.In (hidT s₁.heap H) := fun b o e => hidT_get (KX b o e) (by
      cases q : H b with
      | none => rfl
      | some u =>
        by_cases hb : b ∈ ts
        · rw [hKt b hb] at e
          cases e
        · have z := hA b hb (by rw [q]; simp)
          rw [z] at e q
          rw [hK (by rw [q]; simp)] at e
          cases e)
    have hBb : Bm mg (hidT s₁.heap H) := by
      obtain ⟨bm, ob, b1, b2, b3, b4, b5, b6⟩ := hB
      exact ⟨bm, ob, b1, b2, keep b3 (fun z => by rw [z] at b4; cases b4) (fun z => by rw [z] at b6; cases b6), b4, b5, b6⟩
    have hM : Mod K mg (hidT s₁.heap H) := ⟨hKb, nsK hns, ⟨mb, nsK hb, hbb⟩, let ⟨mc, h1, h2⟩ := hlim; ⟨mc, nsK h1, h2⟩⟩
    have e0 : Env0 P w K mg (hidT s₁.heap H) callerA [] s₁ H := ⟨rfl, hM, fun b o e => of_hidT e, Nat.le_of_eq (hidT_size _ _), trivial, fun b hb => absurd (show b ∈ ([] : List Addr) from hb) (by simp), hok, .of_eq hg⟩
    refine codeAny_mono ((F _ hKb (nsK hns) hBb).run callerA [] s₁ H ⟨[.ref a], []⟩ [.ref a] [.ref a] _ _ hr e0 (hbind s₁ (.ref a)) (.cons rfl .nil) (hsp H hO nat hS)) fun r s' h => ?_
    rcases r with e | fl
    · exact (hCX H e s' h).elim
    · rcases fl with _ | _ | _ | u
      · exact False.elim h
      · exact False.elim h
      · exact False.elim h
      · obtain ⟨v, H', os, bare, un, hok', r', q⟩ := h
        obtain rfl : v = .bl true := q
        obtain rfl : u = Value.bool true := r'
        refine ⟨rfl, ?_, os, bare⟩
        have each : ∀ b o, s₁.heap.get? b = some o → s'.heap.get? b = some o ∨ (b ∈ ts ∧ o = PySem.W.tabObj #[] ∧ ∃ more, s'.heap.get? b = some (PySem.W.tabObj (#[] ++ more))) := fun b o e => by
          cases q : H b with
          | none => exact .inl (un.keep b o e q (fun z => absurd (show b ∈ ([] : List Addr) from z) (by simp)) (by simp))
          | some u =>
            by_cases hb : b ∈ ts
            · right
              have e1 := hts b hb
              rw [e] at e1
              obtain ⟨more, e2⟩ := un.tbls b #[] (hO.1 b hb)
              exact ⟨hb, Option.some.inj e1, more, hok' b _ e2⟩
            · left
              rcases hO.2 b hb with z | ⟨ob, xs, z⟩
              · rw [q] at z
                cases z
              · have e1 := (hok b _ z).1
                rw [e] at e1
                cases e1
                exact (hok' b _ (un.frzs b _ _ z)).1
        refine ⟨fun b o e => ?_, fun b o e => ?_⟩
        · rcases each b o e with z | ⟨hb, rfl, more, z⟩
          · exact .inl z
          · exact .inr (.inl ⟨hct b hb, rfl, #[], more, rfl, z⟩)
        · rcases each b o e with z | ⟨_, _, more, z⟩
          · exact ⟨_, z⟩
          · exact ⟨_, z⟩
  cases hk : K.lookup a with
  | some o =>
    have e := KX a o hk
    rw [ha] at e
    cases e
    refine core (fun b => if b ∈ ts then some (.tbl #[]) else none) ⟨fun p hp => if_pos hp, fun b hb => .inl (if_neg hb)⟩ (.inr ⟨_, vs.toArray, _, hk, rfl, rfl, rfl, by rw [List.size_toArray, lenV]; exact hl, by simpa using rv⟩) (fun b u z => ?_) (fun b hb z => absurd (if_neg hb) z) fun z => absurd (if_neg nat) z
    by_cases hb : b ∈ ts
    · have z' := (if_pos hb).symm.trans z
      cases z'
      exact hts b hb
    · have z' := (if_neg hb).symm.trans z
      cases z'
  | none =>
    refine core (fun b => if b ∈ ts then some (.tbl #[]) else if b = a then some (.frz { cls := .type "list", data := .seq vs.toArray } (.lst (ns.map V.int))) else none) ⟨fun p hp => if_pos hp, fun b hb => ?_⟩ (.inl (.inr ⟨{ cls := .type "list", data := .seq vs.toArray }, ?_⟩)) (fun b u z => ?_) (fun b hb z => ?_) fun _ => hk
    · by_cases h : b = a
      · exact .inr ⟨_, _, (if_neg hb).trans (if_pos h)⟩
      · exact .inl ((if_neg hb).trans (if_neg h))
    · exact (if_neg nat).trans (if_pos rfl)
    · by_cases hb : b ∈ ts
      · have z' := (if_pos hb).symm.trans z
        cases z'
        exact hts b hb
      · by_cases h : b = a
        · have z' := ((if_neg hb).trans (if_pos h)).symm.trans z
          cases z'
          rw [h]
          exact ⟨ha, by rw [List.length_map]; exact hl, vs, _, rv, ha⟩
        · have z' := ((if_neg hb).trans (if_neg h)).symm.trans z
          cases z'
    · by_cases h : b = a
      · exact h
      · exact absurd ((if_neg hb).trans (if_neg h)) z
theorem walk_ofT {l : PySem.W.OpenLaw} {n k : Nat} {q : Program} {loose : List Str} {XP : (Str → Option Value) → Heap → Prop} {YP : World → Heap → Prop} {d : DefRec} {K : Params → PySem.W.Frag} {CX : World → CXT} {sp : World → Sp} {x : Str} {ts : List Addr}
    (hn : l.most = some n) (hn2 : n ≤ sizeLine) (hdf : d.params.defaults = []) (hr : Room k callerA)
    (hY : ∀ (w : World) (h : Heap), YP w h → (K w.params).In h ∧ ∀ p ∈ ts, h.get? p = some (PySem.W.tabObj #[]))
    (F : ∀ (w : World) (mg : Str → Option Value) (fa : Addr) (h : Heap), (K w.params).In h → h.Ns mainGlobals mg → mg d.name = some (.ref fa) → (∀ p ∈ ts, (K w.params).lookup p = none ∧ ∃ c, PySem.W.codeHdIn (K w.params) c p = true) ∧
      ∃ fd : FuncData, (∀ (s : Shared) (u : Value), BindsTo s fd ⟨[u], []⟩ [(x, u)]) ∧
        ∀ base : Heap, (K w.params).In base → base.Ns mainGlobals mg → Bm mg base → FnOk l.prog w (K w.params) mg base (CX w) k fa fd [x] (sp w))
    (hsp : ∀ (w : World) (H : Hp) (a : Addr) (ns : List Int), ns.length ≤ n → OnlyT ts H → a ∉ ts → SqL (K w.params) H a (ns.map V.int) → sp w [.ref a] H (fun v _ => v = .bl true) fun _ _ _ => False)
    (hCX : ∀ (w : World) (H : Hp) (s : Shared) (e : Value) (s' : Shared), CX w [] H s (fun _ _ _ => False) e s' → False) :
    PySem.W.WalkO q loose XP YP l.row.toRowW d [] (fun f vs => PySem.call f vs) := by
  refine Att.attach_call hn hdf fun w s₀ s₁ mg mb fa o pm cd doc a vs ns G Y ho hd hcd hmg hobj hints hlen hg => ?_
  obtain ⟨KX, hts⟩ := hY w _ Y
  obtain ⟨hT, fd, hb, hF⟩ := F w mg fa _ KX G.T.g hmg
  refine law_callT KX G.T.g G.T.b G.T.builtins G.T.nolimit hg G.T.bmain hts (fun p hp => ?_) (fun p hp => (hT p hp).1) hobj hints (Nat.le_trans hlen hn2) hr hF hb (fun H hO hn hS => hsp w H a ns hlen hO hn hS) fun H e s' => hCX w H s₁ e s'
  obtain ⟨c, hc⟩ := (hT p hp).2
  obtain ⟨o, vs, _, _, _, _, _, _, _, e1, e2, e3, e4, _⟩ := PySem.W.codeHd_of_K KX hc
  exact ⟨c, o, vs, e1, e2, e3, e4⟩
end L2
namespace L2
open PySem PySem.Spec PyProof.Rows PySem.SeqAt
def tx (cs : List Nat) : Str := ⟨cs.toArray⟩
theorem tx_len (cs : List Nat) : (tx cs).length = cs.length := by simp [tx, Str.length]
theorem tx_cps (cs : List Nat) : (tx cs).cps.toList = cs := by simp [tx]
theorem tx_inj {a b : List Nat} (h : tx a = tx b) : a = b := by
  have := congrArg (fun z : Str => z.cps.toList) h
  simpa [tx] using this
def rSlS : R2 := fun x y H Q => ∃ z j, x = .str z ∧ y = .int j ∧ z.length ≤ sizeLine ∧ Q (.str (Txt.slice z none (some j))) H
def tSlS (te th : TE) : TE := fun σ H Q => te σ H fun x H1 => th σ H1 fun y H2 => rSlS x y H2 Q
section
variable {X : Cx} {e hi : Expr} {te th : TE} {p2 pos : Pos}
theorem pe_slS (he : PE X e te) (hu : PE X hi th) : PE X (.Subscript e (.Slice none (some hi) none p2) pos) (tSlS te th) := by
  intro pins s σ H Q I h
  refine Subscript_ (thn (he pins s σ H _ I h) fun v s1 ⟨x, H1, I1, r1, q1⟩ => ?_)
  refine wpAny_Slice (wpAny_evalPart_none (wpAny_evalPart_some (thn (hu pins s1 σ H1 _ I1 q1) fun vu s3 ⟨y, H3, I3, pu, z, j, e1, e2, hz, q3⟩ => wpAny_evalPart_none ?_)))
  subst e1
  subst e2
  obtain ⟨t, rfl⟩ := r1
  obtain ⟨t2, rfl⟩ := pu
  obtain ⟨Tn, id, h1, h2, h3⟩ := SBH.sliceItem_ns (prog := X.prog) (w := X.w) (A := X.A) (E := X.xe) (s := s3) (P := fun h => ∀ b o, s3.heap.get? b = some o → h.get? b = some o) (Q := EP X pins σ Q) (x := z) (t := t) (j := j) (uj := t2) (fun h ob k b o e4 => Heap.get?_push_of_some _ (k b o e4)) (fun _ _ e4 => e4) (fun h' t' k kp => ⟨.str _, H3, I3.kept kp, ⟨t', rfl⟩, q3⟩) hz
  exact tail_any (ops := [.ref s3.heap.objs.size, .str z t]) h2 h1 h3 (by with_unfolding_all rfl)
def rMulS : R2 := fun x y H Q => ∃ z n, x = .str z ∧ y = .int n ∧ MulOk z n ∧ Q (.str (Txt.mul z n)) H
theorem op_mulS : OpR X (binaryOp .Mult) rMulS := op_mul_str
def rPopA : V → List V → Hp → VK → Prop := fun x vs H Q => ∃ l xs i y, x = .ref l ∧ vs = [.int i] ∧ H l = some (.lst xs) ∧ 0 ≤ i ∧ i < xs.length ∧ xs.length ≤ 1000000 ∧ xs[i.toNat]? = some y ∧ ∀ H', Off l H H' → H' l = some (.lst (xs.eraseIdx i.toNat)) → Q y H'
theorem mt_popA : MtM X "list.pop" rPopA := by
  intro pins s σ H x vs v us Q I rx rv h
  obtain ⟨l, xs, i, y, e1, e2, hH, h0, h1, hz, hy, q⟩ := h
  refine mt_popAt pins s σ H x vs v us Q I rx rv ⟨l, xs, i, i.toNat, y, e1, e2, hH, by omega, by omega, ?_, hy, q _ Off.upd upd_same⟩
  unfold seqIndex?
  simp only [show ¬ i < 0 from by omega, if_false, h0, h1, decide_true, Bool.and_self, if_true]
theorem pe_popA {o e : Expr} {to te : TE} {apos cpos : Pos} (ho : PE X o to) (he : PE X e te) (hbase : attributeBase o "pop" X.env (eval o X.env) = eval o X.env := by rfl)
    (hfew : ((backTo cpos (starEach [e] X.env)).all (fun x => !x.1) && (backToKw cpos (keywordEach [] X.env)).all (fun x => x.1.isSome)
      && decide (([e] : List Expr).length + ([] : List Keyword).length + (if ([] : List Keyword).isEmpty then 0 else 1) < 30)) = true := by rfl)
    (hline : (apos.endLine == cpos.line) = true := by rfl) (hs : starEach [e] X.env = (false, eval e X.env) :: starEach [] X.env := by rfl) :
    PE X (.Call (.Attribute o "pop" apos) [e] [] cpos) (tBM X.K "list" rPopA to (tCons te tNil)) :=
  pe_bm PySem.F.plainAttrs_list PySem.F.slot_list_pop PySem.F.type_list_pop mt_popA ho (pa_cons he pa_nil hs) hbase hfew hline hs (by rfl)
end
theorem slice_tx (cs : List Nat) (j : Nat) : Txt.slice (tx cs) none (some (j : Int)) = tx (cs.take j) := by
  have hn : ¬ ((j : Int) < 0) := by omega
  have hix : Builtin.Str.strSliceIndices none (some (j : Int)) 1 (tx cs).length = List.range (min j cs.length) := by
    unfold Builtin.Str.strSliceIndices sliceRange
    dsimp only
    rw [tx_len]
    simp only [show (1 : Int) > 0 from by decide, if_true, hn, if_false]
    have e1 : max (0 : Int) (min (j : Int) (cs.length : Int)) = ((min j cs.length : Nat) : Int) := by omega
    rw [e1]
    by_cases h : (0 : Int) < ((min j cs.length : Nat) : Int)
    · rw [if_pos h]
      have e2 : ((((min j cs.length : Nat) : Int) - 0 + 1 - 1) / 1).toNat = min j cs.length := by
        rw [Int.ediv_one]
        omega
      rw [e2]
      have e3 : (fun k : Nat => ((0 : Int) + 1 * (k : Int)).toNat) = id := by
        funext k
        show ((0 : Int) + 1 * (k : Int)).toNat = k
        omega
      rw [e3, List.map_id]
    · rw [if_neg h]
      have : min j cs.length = 0 := by omega
      rw [this]
      rfl
  unfold Txt.slice
  rw [hix, List.length_range, tx_len]
  by_cases h : min j cs.length = cs.length
  · rw [if_pos (by rw [h]; simp)]
    rw [List.take_of_length_le (by omega)]
  · rw [if_neg (by simp [h])]
    unfold tx
    congr 2
    have hfm : ∀ (n : Nat), n ≤ cs.length → (List.range n).filterMap (fun i => cs.toArray[i]?) = cs.take n := by
      intro n
      induction n with
      | zero => intro _; rfl
      | succ n ih =>
        intro hn
        rw [List.range_succ, List.filterMap_append, ih (by omega), List.take_succ, List.filterMap_cons, List.filterMap_nil]
        have : cs.toArray[n]? = cs[n]? := by simp
        rw [this]
        cases cs[n]? <;> rfl
    have := hfm (min j cs.length) (by omega)
    rw [this]
    by_cases hj : j ≤ cs.length
    · rw [show min j cs.length = j by omega]
    · exact absurd (by omega) h
theorem mul_tx (c : Nat) (n : Int) : Txt.mul (tx [c]) n = tx (List.replicate n.toNat c) := by
  have h := mul_one_list c n
  have e : (tx [c]) = ⟨#[c]⟩ := rfl
  rw [e]
  have : ∀ z : Str, z = tx z.cps.toList := fun z => by cases z; simp [tx]
  rw [this (Txt.mul ⟨#[c]⟩ n), h]
theorem append_tx (a b : List Nat) : tx a ++ tx b = tx (a ++ b) := by
  show Str.append _ _ = _
  unfold Str.append tx
  simp
section
variable {K : PySem.W.Frag} {H0 H : Hp} {M : List Addr} {L L' : List (Addr × HO)} {I : List Im} {l P f : Addr} {xs ys : List V} {v y : V} {Q : VK} {R : Hp → Prop} {te th : TE} {σ : St} {i : Int} {cs ds : List Nat} {j c : Nat} {pos : Pos} {qual : Str} {ps : Array Value}
instance go_slS : Go (tSlS te th σ H Q) (te σ H fun x H1 => th σ H1 fun y H2 => rSlS x y H2 Q) := ⟨id⟩
instance go_rslS : Go (rSlS (.str (tx cs)) (.int i) H Q) (Sd (0 ≤ i ∧ cs.length ≤ 1000) (Q (.str (tx (cs.take i.toNat))) H)) := ⟨fun s => ⟨_, i, rfl, rfl, by rw [tx_len]; exact small_line (by have := s.1.2; omega), by
  have := slice_tx cs i.toNat
  rw [show ((i.toNat : Nat) : Int) = i by have := s.1.1; omega] at this
  rw [this]
  exact s.2⟩⟩
instance go_rixS : Go (rIxS (.str (tx cs)) (.int i) H Q) (Sd (0 ≤ i ∧ i < cs.length ∧ cs.length ≤ 1000) (∀ c : Nat, cs[i.toNat]? = some c → Q (.str (tx [c])) H)) := ⟨fun s => by
  obtain ⟨⟨h0, h1, h2⟩, k⟩ := s
  have hl : i.toNat < cs.length := by omega
  refine ⟨tx cs, i, cs[i.toNat], rfl, rfl, by rw [tx_len]; exact small_line (by omega), ?_, k _ (by simp)⟩
  rw [tx_cps]
  obtain ⟨n, rfl⟩ : ∃ n : Nat, i = (n : Int) := ⟨i.toNat, by omega⟩
  exact atI_nat (by simp)⟩
instance go_raddS : Go (rAddS (.str (tx cs)) (.str (tx ds)) H Q) (Sd (cs.length + ds.length ≤ 1000) (Q (.str (tx (cs ++ ds))) H)) := ⟨fun s => ⟨_, _, rfl, rfl, by rw [tx_len, tx_len]; exact small_line (by have := s.1; omega), by rw [append_tx]; exact s.2⟩⟩
instance go_rmulS : Go (rMulS (.str (tx [c])) (.int i) H Q) (Sd (0 ≤ i ∧ i ≤ 1000) (Q (.str (tx (List.replicate i.toNat c))) H)) := ⟨fun s => by
  obtain ⟨⟨h0, h1⟩, k⟩ := s
  refine ⟨_, i, rfl, rfl, ⟨?_, fun a b => ?_, fun a b => ?_⟩, by rw [mul_tx]; exact k⟩
  · rw [decide_eq_false (by omega), decide_eq_false (by omega)]
    rfl
  · rw [tx_len]
    have : (1 : Int) ≤ (2 ^ 63 - 1) / i := by
      rw [Int.le_ediv_iff_mul_le (by omega)]
      omega
    simp only [List.length_cons, List.length_nil]
    omega
  · unfold Builtin.Str.tooLong
    rw [tx_len]
    refine decide_eq_false ?_
    have := small_line (n := 1 * i.toNat) (by omega)
    simp only [List.length_cons, List.length_nil]
    omega⟩
instance go_pop [h : Hat H l (.lst xs)] : Go (rPopA (.ref l) [.int i] H Q) (Sd (0 ≤ i ∧ i < xs.length ∧ xs.length ≤ 1000000) (∀ y : V, xs[i.toNat]? = some y → ∀ H', Off l H H' → H' l = some (.lst (xs.eraseIdx i.toNat)) → Q y H')) := ⟨fun s => by
  obtain ⟨⟨h0, h1, h2⟩, k⟩ := s
  have hl : i.toNat < xs.length := by omega
  exact ⟨l, xs, i, xs[i.toNat], rfl, rfl, h.e, h0, h1, h2, by simp, k _ (by simp)⟩⟩
theorem w_tupD {n i0 i1 i2 i3 : Nat} {a b c d : V} {R : St → Hp → Prop} (hn : n = 4) (hp : SqT K H l [a, b, c, d]) (h : gName i0 a σ H fun σ1 H1 => gName i1 b σ1 H1 fun σ2 H2 => gName i2 c σ2 H2 fun σ3 H3 => gName i3 d σ3 H3 R) : gTup K n (gCons (gName i0) (gCons (gName i1) (gCons (gName i2) (gCons (gName i3) gNil)))) (.ref l) σ H R := by
  subst hn
  exact ⟨l, _, rfl, hp, rfl, _, _, rfl, _, _, rfl, _, _, rfl, _, _, rfl, rfl, h⟩
instance go_tup4 {n i0 i1 i2 i3 : Nat} {a b c d : V} {R : St → Hp → Prop} [h : SqB K H l [a, b, c, d]] : Go (gTup K n (gCons (gName i0) (gCons (gName i1) (gCons (gName i2) (gCons (gName i3) gNil)))) (.ref l) σ H R) (Sd (n = 4) (gName i0 a σ H fun σ1 H1 => gName i1 b σ1 H1 fun σ2 H2 => gName i2 c σ2 H2 fun σ3 H3 => gName i3 d σ3 H3 R)) := ⟨fun s => w_tupD s.1 h.e s.2⟩
theorem TabOk.st : ∀ H H', Tst H H' → TabOk pos qual ps H → TabOk pos qual ps H' := fun H H' t h => by
  rcases h with h | ⟨c', oc, vs, t', e, e1, e2⟩
  · exact .inl h
  · exact .inr ⟨c', oc, vs, t', e, t _ _ rfl e1, e2⟩
theorem IsLam.st : ∀ H H', Tst H H' → IsLam H f → IsLam H' f := fun H H' t h => by
  obtain ⟨a1, a2, a3, a4, a5, a6, a7, a8, a9, a10, a11, a12, a13, a14, e1, e2, r⟩ := h
  exact ⟨a1, a2, a3, a4, a5, a6, a7, a8, a9, a10, a11, a12, a13, a14, t _ _ rfl e1, t _ _ rfl e2, r⟩
abbrev TabI (pos : Pos) (qual : Str) (ps : Array Value) : Im := .fct (TabOk pos qual ps) TabOk.st
abbrev LamI (f : Addr) : Im := .fct (fun H => IsLam H f) IsLam.st
class TabA (I : List Im) (pos : Pos) (qual : Str) (ps : Array Value) : Prop where
  m : TabI pos qual ps ∈ I
class LamA (I : List Im) (f : Addr) : Prop where
  m : LamI f ∈ I
instance tabA1 {g : Im} [h : TabA I pos qual ps] : TabA (g :: I) pos qual ps := ⟨List.mem_cons_of_mem _ h.m⟩
instance tabA0 : TabA (TabI pos qual ps :: I) pos qual ps := ⟨List.mem_cons_self⟩
instance lamA0 : LamA (LamI f :: I) f := ⟨List.mem_cons_self⟩
theorem SH.tab [F : SH H0 M H L I] [h : TabA I pos qual ps] : TabOk pos qual ps H := F.im _ h.m
instance go_lam [F : SH H0 M H L I] [e : LkL L P (.tbl ps)] [t : TabA I pos qual ps] : Go (tLam P pos qual σ H Q) (∀ (f : Addr) (ps' : Array Value) (H' : Hp), Kp P H H' → H' P = some (.tbl ps') → TabOk pos qual ps' H' → IsLam H' f → Q (.ref f) H') := ⟨fun k => ⟨ps, F.raw e.m, F.im _ t.m, k⟩⟩
instance nx_tab [F : SH H0 M H L I] [u : LkU L P (.tbl ps) L'] : Go (∀ H', Kp P H H' → H' P = some (.tbl ps) → TabOk pos qual ps H' → R H') (∀ H', SH H0 M H' L' (TabI pos qual ps :: I) → R H') := ⟨fun k H' f e t => k H' ((F.kp f e u.u rfl).addF t)⟩
instance nx_lam [F : SH H0 M H L I] [u : LkU L P (.tbl ps) L'] : Go (∀ H', Kp P H H' → H' P = some (.tbl ps) → TabOk pos qual ps H' → IsLam H' f → R H') (∀ H', SH H0 M H' L' (LamI f :: TabI pos qual ps :: I) → R H') := ⟨fun k H' f e t g => k H' (((F.kp f e u.u rfl).addF t).addF g)⟩
end
def isLow (c : Nat) : Bool := decide (97 ≤ c) && decide (c ≤ 122)
def isFig (c : Nat) : Bool := decide (48 ≤ c) && decide (c ≤ 57)
def LET : Str := "abcdefghijklmnopqrstuvwxyz"
def SGN : Str := "abcdefghijklmnopqrstuvwxyz0123456789"
theorem let_low (c : Nat) : decide (c ∈ LET.cps.toList) = isLow c := by
  rw [show LET.cps.toList = List.range' 97 26 by decide +kernel]
  unfold isLow
  rw [Bool.eq_iff_iff]
  simp only [decide_eq_true_eq, List.mem_range'_1, Bool.and_eq_true]
  omega
theorem sgn_low (c : Nat) : decide (c ∈ SGN.cps.toList) = (isLow c || isFig c) := by
  rw [show SGN.cps.toList = List.range' 97 26 ++ List.range' 48 10 by decide +kernel]
  unfold isLow isFig
  rw [Bool.eq_iff_iff]
  simp only [decide_eq_true_eq, List.mem_append, List.mem_range'_1, Bool.and_eq_true, Bool.or_eq_true]
  omega
structure NameOk (cs : List Nat) : Prop where
  lo : 1 ≤ cs.length
  hi : cs.length ≤ 8
  hd : ∀ c, cs[0]? = some c → isLow c = true
  all : ∀ c ∈ cs, (isLow c || isFig c) = true
structure Rw where
  nm : List Nat
  st : Nat
  sz : Nat
  pn : Nat
abbrev rowV (r : Rw) : List V := [.str (tx r.nm), .int (r.st : Nat), .int (r.sz : Nat), .int (r.pn : Nat)]
def rowsV (rs : List Rw) : List (List V) := rs.map rowV
theorem rowsV_len (rs : List Rw) : (rowsV rs).length = rs.length := List.length_map ..
structure GoodR (n : Nat) (r : Rw) : Prop where
  nm : NameOk r.nm
  sz : 1 ≤ r.sz
  le : r.st + r.sz ≤ n
def Apart (r s : Rw) : Prop := r.nm ≠ s.nm ∧ (r.st + r.sz ≤ s.st ∨ s.st + s.sz ≤ r.st)
theorem Apart.symm {r s : Rw} (h : Apart r s) : Apart s r := ⟨fun z => h.1 z.symm, h.2.elim .inr .inl⟩
structure Lay (n : Nat) (rs : List Rw) : Prop where
  good : ∀ r ∈ rs, GoodR n r
  ap : rs.Pairwise Apart
  few : rs.length ≤ 40
def Asc (rs : List Rw) : Prop := rs.Pairwise fun r s => r.st + r.sz ≤ s.st
theorem Lay.perm {n : Nat} {rs qs : List Rw} (h : Lay n rs) (p : rs.Perm qs) : Lay n qs := ⟨fun r hr => h.good r (p.mem_iff.mpr hr), (p.pairwise_iff (fun {a b} => Apart.symm)).mp h.ap, by rw [← p.length_eq]; exact h.few⟩
theorem rowsV_at {H : Hp} {rs : List Rw} {ys : List V} {i : Nat} {v : V} (h : TupsAt H ys (rowsV rs)) (e : ys[i]? = some v) : ∃ r q, rs[i]? = some r ∧ v = .ref q ∧ H q = some (.tup (rowV r)) := by
  obtain ⟨r, q, e1, e2, e3⟩ := tups_at h e
  unfold rowsV at e1
  rw [List.getElem?_map] at e1
  cases e4 : rs[i]? with
  | none => rw [e4] at e1; cases e1
  | some w => rw [e4] at e1; cases e1; exact ⟨w, q, rfl, e2, e3⟩
theorem perm_of_map {α β : Type} {f : α → β} {l : List β} {m : List α} (p : l.Perm (m.map f)) : ∃ k : List α, k.Perm m ∧ l = k.map f := by
  generalize hm : m.map f = m' at p
  induction p generalizing m with
  | nil => exact ⟨[], by rw [List.map_eq_nil_iff.mp hm], rfl⟩
  | cons x p ih =>
    cases m with
    | nil => cases hm
    | cons a t =>
      rw [List.map_cons] at hm
      injection hm with h1 h2
      obtain ⟨k, pk, ek⟩ := ih h2
      exact ⟨a :: k, pk.cons a, by rw [List.map_cons, h1, ek]⟩
  | swap x y l =>
    cases m with
    | nil => cases hm
    | cons a t =>
      cases t with
      | nil => rw [List.map_cons] at hm; injection hm with h1 h2; cases h2
      | cons b u =>
        rw [List.map_cons, List.map_cons] at hm
        injection hm with h1 h2
        injection h2 with h2 h3
        exact ⟨b :: a :: u, List.Perm.swap a b u, by rw [List.map_cons, List.map_cons, h1, h2, h3]⟩
  | trans p1 p2 ih1 ih2 =>
    obtain ⟨k, pk, ek⟩ := ih2 hm
    obtain ⟨k2, pk2, ek2⟩ := ih1 ek.symm
    exact ⟨k2, pk2.trans pk, ek2⟩
theorem rise_one : ∀ {as bs : List Rw}, as.Perm bs → as.Pairwise (fun r s => r.st ≤ s.st) → bs.Pairwise (fun r s => r.st < s.st) → as = bs := by
  intro as
  induction as with
  | nil => intro bs p _ _; exact (List.nil_perm.mp p).symm
  | cons a t ih =>
    intro bs p ha hb
    cases bs with
    | nil => exact absurd p.length_eq (by simp)
    | cons b u =>
      have e : a = b := by
        rcases List.mem_cons.mp (p.mem_iff.mp List.mem_cons_self) with h | h
        · exact h
        · have h1 := (List.pairwise_cons.mp hb).1 a h
          rcases List.mem_cons.mp (p.mem_iff.mpr (List.mem_cons_self (a := b) (l := u))) with h2 | h2
          · exact h2.symm
          · have h3 := (List.pairwise_cons.mp ha).1 b h2
            omega
      subst e
      rw [ih (List.perm_cons a |>.mp p) (List.pairwise_cons.mp ha).2 (List.pairwise_cons.mp hb).2]
theorem zip_map1 {rs : List Rw} {ys : List V} : (rs.map fun r => ((r.st : Nat) : Int)).zip ys = (rs.zip ys).map fun p => (((p.1.st : Nat) : Int), p.2) := by
  rw [List.zip_map_left]
  rfl
theorem sort_rows {H : Hp} {rs as : List Rw} {ys zs : List V} (t : TupsAt H ys (rowsV rs)) (p : rs.Perm as) (ha : as.Pairwise fun r s => r.st < s.st) (s : SortedBy (rs.map fun r => ((r.st : Nat) : Int)) ys zs) : TupsAt H zs (rowsV as) := by
  obtain ⟨ps, pp, rfl, pw⟩ := s
  rw [zip_map1] at pp
  obtain ⟨qs, pq, rfl⟩ := perm_of_map pp
  have hl : ys.length = rs.length := by rw [t.1, rowsV_len]
  have e1 : (rs.zip ys).map Prod.fst = rs := List.map_fst_zip (by omega)
  have pf : (qs.map Prod.fst).Perm rs := by
    have := pq.map Prod.fst
    rw [e1] at this
    exact this
  have hq : qs.map Prod.fst = as := by
    refine rise_one (pf.trans p) ?_ ha
    rw [List.pairwise_map] at pw ⊢
    exact pw.imp fun h => by omega
  have each : ∀ x ∈ qs, ∃ q, x.2 = .ref q ∧ H q = some (.tup (rowV x.1)) := fun x hx => by
    have hx := pq.mem_iff.mp hx
    obtain ⟨i, hi, e⟩ := List.getElem_of_mem hx
    rw [List.length_zip] at hi
    rw [List.getElem_zip] at e
    obtain ⟨r, q, e2, e3, e4⟩ := rowsV_at t (v := ys[i]'(by omega)) (i := i) (by simp)
    rw [List.getElem?_eq_getElem (by omega)] at e2
    refine ⟨q, by rw [← e]; exact e3, ?_⟩
    rw [← e]
    show H q = some (.tup (rowV rs[i]))
    rw [Option.some.inj e2]
    exact e4
  refine ⟨by rw [rowsV_len, ← hq, List.length_map, List.length_map, List.length_map], fun j r e => ?_⟩
  unfold rowsV at e
  rw [← hq, List.map_map, List.getElem?_map] at e
  cases e5 : qs[j]? with
  | none => rw [e5] at e; cases e
  | some x =>
    rw [e5] at e
    cases e
    obtain ⟨q, e6, e7⟩ := each x (List.mem_of_getElem? e5)
    exact ⟨q, by rw [List.map_map, List.getElem?_map, e5]; show some x.2 = _; rw [e6], e7⟩
theorem Asc.lt {n : Nat} {rs : List Rw} (h : Asc rs) (g : ∀ r ∈ rs, GoodR n r) : rs.Pairwise fun r s => r.st < s.st := by
  refine List.Pairwise.imp_of_mem ?_ h
  intro a b ha hb hab
  have := (g a ha).sz
  omega
def rInS : R2 := fun x y H Q => ∃ c j, x = .str ⟨#[c]⟩ ∧ y = .str j ∧ Q (.bl (decide (c ∈ j.cps.toList))) H
section
variable {X : Cx} {K : PySem.W.Frag} {H : Hp} {Q : VK} {z : Str} {cs : List Nat} {c : Nat} {t0 te : TE} {nt : Nat} {fr : List Nat} {g : TG} {cc : TT} {σ fvs : St} {p f l : Addr} {bs : List Bool} {ys : List V} {rs : List Rw}
theorem op_inS : OpR X (compareOp .In) rInS := op_in_str1
instance go_inS : Go (rInS (.str (tx [c])) (.str z) H Q) (Q (.bl (decide (c ∈ z.cps.toList))) H) := ⟨fun k => ⟨c, z, rfl, rfl, k⟩⟩
instance go_isSS : Go (rIsT K [.str z, .ty "str"] H Q) (Q (.bl true) H) := ⟨fun k => w_is (TyOf.str (K := K) (H := H) z) (bt_str (TyOf.str (K := K) (H := H) z)) k⟩
instance go_lenS : Go (rLen K [.str (tx cs)] H Q) (Sd (cs.length ≤ 1000) (Q (.int cs.length) H)) := ⟨fun s => w_lenS (by rw [tx_len]; exact small_line (by have := s.1; omega)) (by rw [tx_len]; exact s.2)⟩
instance go_compS : Go (tComp (iStr t0) nt fr g cc te σ H Q) (t0 σ H fun x H1 => ∃ z, x = .str z ∧ CompAll (Its z) nt fr g cc te σ H1 Q) := ⟨id⟩
instance go_compS1 : Go (∃ z', V.str z = .str z' ∧ CompAll (Its z') nt fr g cc te σ H Q) (CompAll (Its z) nt fr g cc te σ H Q) := ⟨fun k => ⟨z, rfl, k⟩⟩
theorem comp_S {F : Nat → V} (hz : cs.length ≤ 1000) (hf : (fr.map fun i => (σ[i]?).getD none) = fvs) (turn : ∀ (c : Nat) (H' : Hp) (R : VK), c ∈ cs → Same H H' → (∀ H2, Same H' H2 → R (F c) H2) → te (some (.str (tx [c])) :: fvs) H' R)
    (k : ∀ p H', New H H' p (.lst (cs.map F)) → Q (.ref p) H') : CompAll (Its (tx cs)) 1 fr (gName 0) tTrue te σ H Q := by
  have e0 : signsV (tx cs) = cs.map fun c => V.str (tx [c]) := by
    unfold signsV
    rw [tx_cps]
    rfl
  refine comp_map (P := fun i y => ∃ c, cs[i]? = some c ∧ y = F c) (items_str (z := tx cs)) (by rw [e0, List.length_map]; omega) hf (fun _ _ => trivial) (fun i v H' R hv s kk => ?_) fun p H' ys n hl hP => k p H' ?_
  · rw [e0, List.getElem?_map] at hv
    cases e : cs[i]? with
    | none => rw [e] at hv; cases hv
    | some c =>
      rw [e] at hv
      cases hv
      exact turn c H' R (List.mem_of_getElem? e) s fun H2 s2 => kk _ _ s2 ⟨c, e, rfl⟩
  · have e : ys = cs.map F := by
      rw [e0, List.length_map] at hl
      apply List.ext_getElem?
      intro i
      rw [List.getElem?_map]
      by_cases hi : i < ys.length
      · obtain ⟨c, e1, e2⟩ := hP i ys[i] (by simp)
        rw [e1, List.getElem?_eq_getElem hi, e2]
        rfl
      · rw [List.getElem?_eq_none (by omega), List.getElem?_eq_none (by omega)]
        rfl
    rw [e] at n
    exact n
instance go_all [h : SqA K H p (bs.map V.bl)] : Go (∃ (p' : Addr) (bs' : List Bool), [V.ref p] = [.ref p'] ∧ SqL K H p' (bs'.map V.bl) ∧ Q (.bl (bs'.all id)) H) (Q (.bl (bs.all id)) H) := ⟨fun k => ⟨p, bs, rfl, h.e, k⟩⟩
instance go_sortK {H0 : Hp} {M : List Addr} {L : List (Addr × HO)} {I : List Im} [F : SH H0 M H L I] [h : SqA K H l ys] [t : TpA H ys (rowsV rs)] [m : LamA I f] : Go (rSortK K [.ref l] (.ref f) H Q) (Sd (rs.length < 64) (∀ D zs H', New H H' D (.lst zs) → SortedBy (rs.map fun r => ((r.st : Nat) : Int)) ys zs → Q (.ref D) H')) := ⟨fun s => by
  have hl : ys.length = rs.length := by rw [t.e.1, rowsV_len]
  refine ⟨l, f, ys, rs.map fun r => ((r.st : Nat) : Int), rfl, rfl, F.im _ m.m, h.e, by rw [List.length_map, hl], by rw [hl]; exact s.1, fun i v k hv hk => ?_, s.2⟩
  obtain ⟨r, q, e1, e2, e3⟩ := rowsV_at t.e hv
  rw [List.getElem?_map, e1] at hk
  cases hk
  exact ⟨q, _, e2, e3, rfl⟩⟩
instance nx_rowsV {H0 : Hp} {M : List Addr} {L : List (Addr × HO)} {I : List Im} {Z : Addr → Hp → Prop} [F : SH H0 M H L I] : Go (∀ p ys H', New H H' p (.lst ys) → TupsAt H' ys (rowsV rs) → Z p H') (∀ H' p ys, ys.length = rs.length → SH H0 M H' ((p, .lst ys) :: L) (.tps ys (rowsV rs) :: I) → Z p H') := ⟨fun k p ys H' n t => k H' p ys (by rw [t.1, rowsV_len]) (F.newR n t)⟩
end
end L2
namespace L2
open PySem PySem.Spec PyProof.Rows
end L2
namespace L2
open PySem PySem.W PySem.Spec PyProof.Rows
section
variable {n : Nat} {rk : Nat → Int} {α β : Type}
def Pp (n : Nat) (p : Array Nat) : Prop := p.Perm (List.range n).toArray
theorem Pp.size {p : Array Nat} (h : Pp n p) : p.size = n := by
  have := h.size_eq
  simpa using this
theorem Pp.ne {p : Array Nat} (h : Pp n p) {a b : Nat} (ha : a < n) (hb : b < n) (hab : a ≠ b) : p.getD a 0 ≠ p.getD b 0 := by
  have hs := h.size
  have e : ∀ k (hk : k < n), p.getD k 0 = p.toList[k]'(by simpa [hs] using hk) := fun k hk => by
    rw [Array.getD_eq_getD_getElem?, Array.getElem?_eq_getElem (by omega)]
    rfl
  have nd : p.toList.Nodup := (Array.perm_iff_toList_perm.mp h).nodup_iff.mpr (by simpa using List.nodup_range)
  rw [e a ha, e b hb]
  intro z
  exact hab ((List.getElem_inj nd).mp z)
end
end L2
namespace L2
open PySem PySem.W PySem.Calls PySem.Spec PyProof.Rows
section
variable {prog : Program} {w : World} {A : Around} {E : Value → Shared → Prop} {s : Shared} {h₀ : Heap} {L : Addr} {m : Str → Option Value} {news : List (Addr × Obj)} {vs : List Value}
inductive F2 {α β : Type} (R : α → β → Prop) : List α → List β → Prop
  | nil : F2 R [] []
  | cons {a b l m} : R a b → F2 R l m → F2 R (a :: l) (b :: m)
theorem F2.length_eq {α β : Type} {R : α → β → Prop} : ∀ {l : List α} {m : List β}, F2 R l m → l.length = m.length
  | _, _, .nil => rfl
  | _, _, .cons _ h => congrArg (· + 1) h.length_eq
end
end L2
namespace L2
open PySem PySem.Spec PyProof.Rows PySem.SeqAt
section
variable {K : PySem.W.Frag} {H : Hp} {Q : VK} {l p q : Addr} {x : V} {r xs ys zs : List V} {rs : List Rw}
variable {σ : St} {nt : Nat} {fr : List Nat} {g : TG} {c : TT} {te t0 : TE}
instance go_compT : Go (tComp (iTup K t0) nt fr g c te σ H Q) (t0 σ H fun x H1 => ∃ a, x = .ref a ∧ (∃ xs, SqT K H1 a xs) ∧ CompAll (Itt K a) nt fr g c te σ H1 Q) := ⟨id⟩
instance go_tby [h : Hat H l (.tup xs)] : Go (∃ a, V.ref l = .ref a ∧ (∃ xs, SqT K H a xs) ∧ CompAll (Itt K a) nt fr g c te σ H Q) (CompAll (Itt K l) nt fr g c te σ H Q) := ⟨fun k => ⟨l, rfl, ⟨_, SqT.of h.e⟩, k⟩⟩
theorem dep_row : depD (rowDt r) ≤ 100 := by
  simp only [depD, dep_flat]
  omega
variable {R : St → Hp → Prop}
end
end L2
namespace L2
open PySem PySem.W PySem.Spec PyProof.Rows
section
variable {CX : CXT} {P : Program} {w : World} {K : PySem.W.Frag} {mg : Str → Option Value} {base : Heap} {k m : Nat} {x : Str} {ps : List Str} {sp : Sp} {ds : List Value} {dvs : List V}
structure DefD (P : Program) (w : World) (K : PySem.W.Frag) (mg : Str → Option Value) (base : Heap) (CX : CXT) (k : Nat) (x : Str) (ps : List Str) (sp : Sp) (ds : List Value) : Prop where
  ex : ∃ (f : Addr) (fd : FuncData), FnOk P w K mg base CX k f fd ps sp ∧ mg x = some (.ref f) ∧ PySem.W.keepIn K (.ref f) = true ∧ Binds K fd ps [] ∧ Binds K fd ps ds
theorem DefD.all (D : DefD P w K mg base CX k x ps sp ds) : Def P w K mg base CX k x ps sp :=
  let ⟨f, fd, F, a, b, c, _⟩ := D.ex
  ⟨f, fd, F, a, b, c⟩
end
end L2
namespace L2
open PySem PySem.Spec PyProof.Rows PySem.SeqAt
section
variable {K : PySem.W.Frag} {H : Hp} {Q : VK} {σ : St} {t : TE} {ts : List TE} {a b cs : List Nat} {c n : Nat} {ps : List (List Nat)} {p l q : Addr} {xs ys r : List V} {lo hi : Option Int} {R : Str → Prop} {S : Int → Prop} {v v0 v1 v2 v3 v4 v5 : V} {i : Int} {z : Str} {bb : Bool}
instance go_notNi : Go (rNotN (.int i) .non H Q) (Q (.bl true) H) := ⟨fun k => ⟨rfl, k⟩⟩
instance go_notNn : Go (rNotN .non .non H Q) (Q (.bl false) H) := ⟨fun k => ⟨rfl, k⟩⟩
end
theorem cut_from {xs : List V} {i : Nat} : cutV xs (some (i : Int)) none = xs.drop i := by
  unfold cutV
  rw [HT.sIx_nat]
  show (xs.drop (min i xs.length)).take (xs.length - min i xs.length) = _
  by_cases h : i ≤ xs.length
  · rw [show min i xs.length = i by omega, List.take_of_length_le (by rw [List.length_drop]; omega)]
  · rw [List.drop_of_length_le (by omega), List.drop_of_length_le (by omega)]
    simp
end L2
namespace L2
open PySem PySem.W PySem.Calls PySem.Spec PyProof.Rows
end L2
namespace L2
open PySem PySem.Spec PyProof.Rows PySem.SeqAt
end L2
namespace L2
open PySem PySem.W PySem.Spec PyProof.Rows
end L2
namespace L2
open PySem PySem.Spec PyProof.Rows
theorem small_down {a : Int} (h0 : -1 ≤ a) (h1 : a ≤ 1000000) : Builtin.Range.small a (-1) (-1) = true ∧ Builtin.Range.rangeSize a (-1) (-1) = a + 1 := by
  have hs : Builtin.Range.rangeSize a (-1) (-1) = a + 1 := by
    unfold Builtin.Range.rangeSize
    rw [if_neg (by decide)]
    split
    · rw [show (-(-1) : Int) = 1 by decide, Int.ediv_one]
      omega
    · omega
  have fit : ∀ x : Int, -2000000 ≤ x → x ≤ 2000000 → Builtin.Range.rangeFitsLong x = true := fun x y1 y2 => by
    unfold Builtin.Range.rangeFitsLong
    rw [decide_eq_true (by omega), decide_eq_true (by omega)]
    rfl
  refine ⟨?_, hs⟩
  unfold Builtin.Range.small
  rw [hs, fit a (by omega) (by omega), fit (-1) (by decide) (by decide), fit _ (by omega) (by omega)]
  first
    | rfl
    | (rw [if_neg (by decide)]; rw [fit _ (by omega) (by omega)]; first | rfl | simp)
    | simp
theorem nopl1 {x : Int} : Builtin.divisionGoesByPylong x (-1) = false := by
  unfold Builtin.divisionGoesByPylong
  have e : (if ((-1 : Int) == 0) = true then 0 else (-1 : Int).natAbs.log2 / 30 + 1) = 1 := by decide
  simp only [Bool.and_eq_false_iff, decide_eq_false_iff_not]
  left
  rw [e]
  omega
section
variable {X : Cx} {tg : Expr}
def iRngD (ta : TA) : TI := fun σ H R => ta σ H fun vs H1 => ∃ i : Int, vs = [.int i, .int (-1), .int (-1)] ∧ (-1 ≤ i ∧ i ≤ 1000000) ∧ R (Itq i (-1) (i + 1).toNat) H1
theorem falls_it {pins : List (Addr × Obj)} {σ : St} {H : Hp} {s : Shared} {R : It → Hp → Prop} {E : Value → Shared → Prop} {lo : Int} {t u v : Tok} {tk : Nat} (I : Inv X pins σ H s) (h0 : -1 ≤ lo) (h1 : lo ≤ 1000000)
    (q : R (Itq lo (-1) (lo + 1).toNat) H) : wpAny (model X.prog X.w) X.A (pyIter (.ref s.heap.objs.size)) (PIE X pins σ tg R) E { s with heap := s.heap.push { cls := .type "range", data := .fields #[.int lo t, .int (-1) u, .int (-1) v] }, toks := tk } := by
  obtain ⟨sm, sz⟩ := small_down h0 h1
  refine wpAny_pyIter_range (IsRange.new ..) sm ?_
  generalize hh : s.heap.push { cls := .type "range", data := .fields #[.int lo t, .int (-1) u, .int (-1) v] } = hp
  have I1 : Inv X pins σ H { s with heap := hp, toks := tk } := by
    rw [← hh]
    exact I.kept fun b o e => Heap.get?_push_of_some _ e
  refine ⟨hp.objs.size, [hp.objs.size], _, _, H, rfl, I1.kept (t' := tk) fun b o e => Heap.get?_push_of_some _ e, turn_steps _ lo (-1) (lo + 1).toNat, ?_, fun b hb => ?_, q⟩
  · show IsRangeIter _ _ (lo + ((0 : Nat) : Int) * (-1)) (((((lo + 1).toNat : Nat) : Int)) - ((0 : Nat) : Int)) (-1)
    rw [show lo + ((0 : Nat) : Int) * (-1) = lo by simp, show (((lo + 1).toNat : Nat) : Int) - ((0 : Nat) : Int) = Builtin.Range.rangeSize lo (-1) (-1) by rw [sz]; omega]
    exact Heap.get?_push_size _ rfl
  · rw [List.mem_singleton.mp hb]
    exact I1.fpOk (Nat.le_refl _) (I1.hok.fresh (Nat.le_refl _))
theorem pi_rangeD {a b c : Expr} {ta : TA} {p pos : Pos} (hg : Gl X "range") (hm : X.mg "range" = none) (ha : PA X [a, b, c] ta) (h1 : starEach [a, b, c] X.env = (false, eval a X.env) :: starEach [b, c] X.env := by rfl) (h2 : ((backTo pos (starEach [b, c] X.env)).any fun x => x.fst) = false := by rfl) :
    PI X tg (.Call (.Name "range" p) [a, b, c] [] pos) (iRngD ta) := by
  intro pins s σ H R I h
  refine Call_ (ld_blt I hg hm boot_range (PyProof.Rows.callWith_type1 (thn (ha pos pins s σ H _ I h) fun us s1 ⟨vs, H1, I1, r1, i, e, ⟨q1, q2⟩, q⟩ => ?_) h1 h2))
  subst e
  rcases r1 with _ | ⟨⟨t, rfl⟩, _ | ⟨⟨t2, rfl⟩, _ | ⟨⟨t3, rfl⟩, _ | _⟩⟩⟩
  exact call_range_3 (by decide) (falls_it I1 q1 q2 q) (.inl nopl1)
end
section
variable {K : PySem.W.Frag} {H : Hp} {Q : VK} {σ : St} {tr : TA} {g : TG} {tb : TS} {D : Ends} {i : Int} {p q : Addr} {ns : List Int} {d : Int} {a b c : V} {R : St → Hp → Prop}
instance go_forD : Go (tFor (iRngD tr) g tb D σ H) (tr σ H fun vs H1 => ∃ i : Int, vs = [.int i, .int (-1), .int (-1)] ∧ (-1 ≤ i ∧ i ≤ 1000000) ∧ ForS i (-1) (i + 1).toNat g tb D σ H1) := ⟨id⟩
instance go_dby : Go (∃ i' : Int, [V.int i, V.int (-1), V.int (-1)] = [.int i', .int (-1), .int (-1)] ∧ (-1 ≤ i' ∧ i' ≤ 1000000) ∧ ForS i' (-1) (i' + 1).toNat g tb D σ H) (Sd (-1 ≤ i ∧ i ≤ 1000000) (ForS i (-1) (i + 1).toNat g tb D σ H)) := ⟨fun s => ⟨i, rfl, s.1, s.2⟩⟩
end
end L2
namespace L2
open PySem PySem.W PySem.Calls PySem.Spec PyProof.Rows
end L2
namespace L2
open PySem PySem.Spec PyProof.Rows PySem.SeqAt
class TyA (K : PySem.W.Frag) (H : Hp) (v : V) (n : outParam String) : Prop where
  e : TyOf K H v (.type n)
theorem TyOf.kept {K : PySem.W.Frag} {H H' : Hp} {v : V} {t : Value} (h : TyOf K H v t) (k : ∀ a u, v = .ref a → H a = some u → H' a = some u) : TyOf K H' v t := by
  cases h with
  | non => exact .non
  | bl b => exact .bl b
  | int i => exact .int i
  | str x => exact .str x
  | flt x => exact .flt x
  | lst e => exact .lst (k _ _ rfl e)
  | frz e => exact .frz (k _ _ rfl e)
  | tup e => exact .tup (k _ _ rfl e)
  | dK e => exact .dK (k _ _ rfl e)
  | dT e => exact .dT (k _ _ rfl e)
  | ins e a b c d f => exact .ins (k _ _ rfl e) a b c d f
section
variable {K : PySem.W.Frag} {H0 H : Hp} {M : List Addr} {L : List (Addr × HO)} {I : List Im} {v : V} {n : String} {a : Addr} {xs : List V} {b : Bool} {i lo hi : Int} {z : Str} {kvs : List (Key × V)} {Q : VK} {E : XK}
instance ty_non : TyA K H .non "NoneType" := ⟨.non⟩
instance ty_int : TyA K H (.int i) "int" := ⟨.int i⟩
instance (priority := low) go_isB [t : TyA K H v n] : Go (rIsT K [v, .ty "bool"] H Q) (Q (.bl (isB v)) H) := ⟨fun k => w_is t.e (bt_bool t.e) k⟩
instance (priority := low) go_wholeV [t : TyA K H v n] : Go (sp_whole K [v] H Q E) (Q (.bl (isW v)) H) := ⟨u_whole t.e⟩
end
def EqVV (x y : V) (b : Bool) : Prop := (x = y ∧ idV x = true ∧ b = true) ∨ ∃ s t, x = .str s ∧ y = .str t ∧ b = (s == t)
theorem EqVV.at {A : Around} {s : Shared} {x y : V} {u v : Value} {b : Bool} (h : EqVV x y b) (ru : RelV x u) (rv : RelV y v) : EqAt A s u v b := by
  rcases h with ⟨rfl, hi, rfl⟩ | ⟨p, q, rfl, rfl, rfl⟩
  · exact same_eqAt hi ru rv
  · obtain ⟨t, rfl⟩ := ru
    obtain ⟨t', rfl⟩ := rv
    exact EqAt.str_str (A := A) (s := s) p t q t'
end L2
namespace L2
open PySem PySem.W PySem.Spec PyProof.Rows PySem.SeqAt
theorem SH.over {H0 H H' : Hp} {M M2 : List Addr} {A R L2 : List (Addr × HO)} {I I2 : List Im} (F : SH H0 M H (A ++ R) I) (G : SH H M2 H' L2 I2) (e : A.map (·.1) = M2) : SH H0 M H' (L2 ++ R) (I2 ++ I) := by
  have nd := F.nd
  rw [List.map_append, e] at nd
  obtain ⟨nd1, nd2, nd3⟩ := List.nodup_append.mp nd
  have inA : ∀ {b}, b ∈ M2 → ∃ c ∈ A, c.1 = b := fun h => by rw [← e] at h; exact List.mem_map.mp h
  have st : Tst H H' := fun q u tu hq => by
    refine G.fr q u (fun hm => ?_) hq
    obtain ⟨c, hc, rfl⟩ := inA hm
    have h1 := F.at' c (List.mem_append_left _ hc)
    have h2 := F.mu c (List.mem_append_left _ hc)
    rw [hq] at h1
    cases h1
    rw [h2] at tu
    cases tu
  have rn : ∀ {c}, c ∈ R → c.1 ∉ M2 := fun hc hm => nd3 _ hm _ (List.mem_map.mpr ⟨_, hc, rfl⟩) rfl
  refine ⟨fun b u nb e0 => ?_, fun f hf => ?_, fun c hc => ?_, ?_, fun c hc => ?_, fun c hc => ?_⟩
  · refine G.fr b u (fun hm => ?_) (F.fr b u nb e0)
    obtain ⟨c, hc, rfl⟩ := inA hm
    rcases F.ch c (List.mem_append_left _ hc) with h | h
    · exact nb h
    · exact h _ u e0 rfl
  · rcases List.mem_append.mp hf with hf | hf
    · exact G.im f hf
    · exact Im.stay st (F.im f hf)
  · rcases List.mem_append.mp hc with hc | hc
    · exact G.at' c hc
    · exact G.fr _ _ (rn hc) (F.at' c (List.mem_append_right _ hc))
  · rw [List.map_append]
    refine List.nodup_append.mpr ⟨G.nd, nd2, fun a ha b hb => ?_⟩
    obtain ⟨c, hc, rfl⟩ := List.mem_map.mp ha
    obtain ⟨d, hd, rfl⟩ := List.mem_map.mp hb
    rcases G.ch c hc with h | h
    · exact fun z => rn hd (z ▸ h)
    · exact fun z => h d.1 _ (F.at' d (List.mem_append_right _ hd)) z.symm
  · rcases List.mem_append.mp hc with hc | hc
    · exact G.mu c hc
    · exact F.mu c (List.mem_append_right _ hc)
  · rcases List.mem_append.mp hc with hc | hc
    · rcases G.ch c hc with h | h
      · obtain ⟨d, hd, ed⟩ := inA h
        rw [← ed]
        exact F.ch d (List.mem_append_left _ hd)
      · by_cases hm : c.1 ∈ M
        · exact .inl hm
        · exact .inr fun b u e0 z => h b u (F.fr b u (by rw [z]; exact hm) e0) z
    · exact F.ch c (List.mem_append_right _ hc)
inductive AnyK (H : Hp) : V → Prop
  | flt {v : V} (h : v = .non ∨ (∃ b, v = .bl b) ∨ (∃ i, v = .int i) ∨ ∃ z, v = .str z) : AnyK H v
  | lst {q : Addr} {xs : List V} (e : H q = some (.lst xs)) : AnyK H (.ref q)
  | tup {q : Addr} {xs : List V} (e : H q = some (.tup xs)) : AnyK H (.ref q)
theorem AnyK.kept {H H' : Hp} {v : V} (h : AnyK H v) (k : ∀ a u, v = .ref a → H a = some u → H' a = some u) : AnyK H' v := by
  cases h with
  | flt h => exact .flt h
  | lst e => exact .lst (k _ _ rfl e)
  | tup e => exact .tup (k _ _ rfl e)
theorem AnyK.same {H H' : Hp} {v : V} (h : AnyK H v) (s : Same H H') : AnyK H' v := h.kept fun a u _ e => s a u e
theorem AnyK.ty {H : Hp} {v : V} (h : AnyK H v) (K : PySem.W.Frag) : ∃ n, TyOf K H v (.type n) := by
  cases h with
  | flt h =>
    rcases h with rfl | ⟨b, rfl⟩ | ⟨i, rfl⟩ | ⟨z, rfl⟩
    · exact ⟨_, .non⟩
    · exact ⟨_, .bl b⟩
    · exact ⟨_, .int i⟩
    · exact ⟨_, .str z⟩
  | lst e => exact ⟨_, .lst e⟩
  | tup e => exact ⟨_, .tup e⟩
theorem AnyK.id {H : Hp} {v : V} (h : AnyK H v) : idV v = true := by
  cases h with
  | flt h => rcases h with rfl | ⟨b, rfl⟩ | ⟨i, rfl⟩ | ⟨z, rfl⟩ <;> rfl
  | lst e => rfl
  | tup e => rfl
end L2
namespace L2
open PySem PySem.W PySem.Calls PySem.Spec PyProof.Rows
abbrev swBody (x : Str) (p1 p2 p3 p4 p5 p6 p7 : Pos) (j j2 j3 : Nat) : Expr := .Tuple [.Subscript (.Name x p1) (.Constant (.int 1) j p2) p3, .Subscript (.Name x p4) (.Constant (.int 0) j2 p5) p6] j3 p7
def IsLam2 (H : Hp) (f : Addr) : Prop := ∃ (qual x : Str) (params : Arguments) (p1 p2 p3 p4 p5 p6 p7 : Pos) (j j2 j3 : Nat) (scope : Scope) (pm ctv : Value) (c' : Addr) (oc : Obj) (vs : Array Value) (t : Tok),
  H f = some (.frz (PySem.W.kla_obj "<lambda>" qual params (swBody x p1 p2 p3 p4 p5 p6 p7 j j2 j3) scope [] pm c' ctv) (.own f)) ∧ H c' = some (.frz oc (.own c')) ∧ oc.data = .fields vs ∧ vs[1]? = some (.str qual t) ∧ LamScope x scope ∧
  ∀ q : Addr, bindArgs (PySem.W.kla_fn "<lambda>" qual params (swBody x p1 p2 p3 p4 p5 p6 p7 j j2 j3) scope [] pm (.ref c') ctv) ⟨[.ref q], []⟩ = pure [(x, .ref q)]
section
variable {K : PySem.W.Frag} {H0 H : Hp} {M : List Addr} {L L' : List (Addr × HO)} {I : List Im} {Q : VK} {l f P : Addr} {ys : List V} {ws : List (Nat × Nat)} {pos : Pos} {qual : Str} {ps : Array Value} {σ : St} {R : Hp → Prop}
theorem IsLam2.st : ∀ H H', Tst H H' → IsLam2 H f → IsLam2 H' f := fun H H' t h => by
  obtain ⟨a1, a2, a3, a4, a5, a6, a7, a8, a9, a10, a11, a12, a13, a14, a15, a16, a17, a18, a19, a20, e1, e2, r⟩ := h
  exact ⟨a1, a2, a3, a4, a5, a6, a7, a8, a9, a10, a11, a12, a13, a14, a15, a16, a17, a18, a19, a20, t _ _ rfl e1, t _ _ rfl e2, r⟩
end
end L2
namespace L2
open PySem PySem.W PySem.Spec PyProof.Rows
end L2
namespace L2
open PySem PySem.Spec PyProof.Rows PySem.SeqAt
abbrev flD (v : V) : PyData := pyD (flatDt v)
inductive ThD (H : Hp) : V → PyData → Prop
  | flat {v : V} (h : isFlat v = true) (z : Shm 500 1 (flD v)) : ThD H v (flD v)
  | lst {p : Addr} {vs : List V} (e : H p = some (.lst vs)) (h : ∀ v ∈ vs, isFlat v = true) (z : Shm 500 1 (.list (vs.map flD))) : ThD H (.ref p) (.list (vs.map flD))
  | tup {p : Addr} {vs : List V} (e : H p = some (.tup vs)) (h : ∀ v ∈ vs, isFlat v = true) (z : Shm 500 1 (.tuple (vs.map flD))) : ThD H (.ref p) (.tuple (vs.map flD))
  | dct {p : Addr} (e : H p = some (.dK [])) : ThD H (.ref p) (.dict [])
section
variable {H H' : Hp} {v : V} {d : PyData} {K : PySem.W.Frag}
theorem ThD.kept (h : ThD H v d) (k : ∀ a u, v = .ref a → H a = some u → H' a = some u) : ThD H' v d := by
  cases h with
  | flat h z => exact .flat h z
  | lst e h z => exact .lst (k _ _ rfl e) h z
  | tup e h z => exact .tup (k _ _ rfl e) h z
  | dct e => exact .dct (k _ _ rfl e)
theorem ThD.ty (h : ThD H v d) : ∃ n, TyOf K H v (.type n) := by
  cases h with
  | flat h z =>
    cases v with
    | non => exact ⟨_, .non⟩
    | bl b => exact ⟨_, .bl b⟩
    | int i => exact ⟨_, .int i⟩
    | str x => exact ⟨_, .str x⟩
    | _ => simp [isFlat] at h
  | lst e h z => exact ⟨_, .lst e⟩
  | tup e h z => exact ⟨_, .tup e⟩
  | dct e => exact ⟨_, .dK e⟩
end
structure Zp5 (z TI TO i1 i2 : Addr) : Prop where
  a : TI ≠ z ∧ TO ≠ z ∧ i1 ≠ z ∧ i2 ≠ z
  b : TI ≠ TO ∧ TI ≠ i1 ∧ TI ≠ i2
  c : TO ≠ i1 ∧ TO ≠ i2 ∧ i1 ≠ i2
def Itz (K : PySem.W.Frag) (a b : Addr) (xs ys : List V) : It :=
  ⟨fun i H => (SqL K H a xs ∧ SqL K H b ys) ∧ (i < xs.length ∧ i < ys.length), fun i H x H' => ∃ T u v, x = .ref T ∧ xs[i]? = some u ∧ ys[i]? = some v ∧ New H H' T (.tup [u, v]), fun i H => (SqL K H a xs ∧ SqL K H b ys) ∧ (xs.length ≤ i ∨ ys.length ≤ i)⟩
def ZpAt (z TI TO i1 i2 a b : Addr) (i : Nat) (h : Heap) : Prop := IsZip h z TI TO .none ∧ PySem.IsPair h TI (.ref i1) (.ref i2) ∧ (∃ u v, PySem.IsPair h TO u v) ∧ h.IsListIter i1 a i ∧ h.IsListIter i2 b i
section
variable {h : Heap} {z TI TO i1 i2 a b : Addr} {i : Nat}
theorem zp_apart (D : Zp5 z TI TO i1 i2) (st : ZpAt z TI TO i1 i2 a b i h) {xs ys : Array Value} (la : h.IsList a xs) (lb : h.IsList b ys) : ZipApart z TI TO i1 i2 a b := by
  obtain ⟨hz, _, ⟨u, v, hTO⟩, ⟨o1, g1, c1, _⟩, ⟨o2, g2, c2, _⟩⟩ := st
  have far : ∀ {l : Addr} {vs : Array Value} {c : Addr} {o : Obj} {n : String}, h.IsList l vs → h.get? c = some o → o.cls = .type n → n ≠ "list" → l ≠ c := fun {l vs c o n} hl hc ho hn e => by
    obtain ⟨ol, gl, cl, _⟩ := hl
    subst e
    rw [gl] at hc
    cases hc
    rw [cl] at ho
    exact hn (Value.type.inj ho).symm
  exact ⟨D.a.1, D.a.2.1, D.a.2.2.1, D.a.2.2.2, D.b.1, D.b.2.1, D.b.2.2, D.c.1, D.c.2.1, D.c.2.2,
    far la hz rfl (by decide), far la hTO rfl (by decide), far la g1 c1 (by decide), far la g2 c2 (by decide), far lb hz rfl (by decide), far lb hTO rfl (by decide), far lb g1 c1 (by decide), far lb g2 c2 (by decide)⟩
end
theorem zp_new (n : Nat) : Zp5 (n + 4) (n + 2) (n + 3) n (n + 1) := ⟨⟨fun e => absurd (show (n + 2 : Nat) = n + 4 from e) (by omega), fun e => absurd (show (n + 3 : Nat) = n + 4 from e) (by omega), fun e => absurd (show (n : Nat) = n + 4 from e) (by omega), fun e => absurd (show (n + 1 : Nat) = n + 4 from e) (by omega)⟩, ⟨fun e => absurd (show (n + 2 : Nat) = n + 3 from e) (by omega), fun e => absurd (show (n + 2 : Nat) = n from e) (by omega), fun e => absurd (show (n + 2 : Nat) = n + 1 from e) (by omega)⟩, fun e => absurd (show (n + 3 : Nat) = n from e) (by omega), fun e => absurd (show (n + 3 : Nat) = n + 1 from e) (by omega), fun e => absurd (show (n : Nat) = n + 1 from e) (by omega)⟩
theorem turn_zip {P : Program} {w : World} {K : PySem.W.Frag} {elts : List Expr} {x1} {pos : Pos} (a b z TI TO i1 i2 : Addr) (xs ys : List V) (D : Zp5 z TI TO i1 i2) :
    Turn P w K (.Tuple elts x1 pos) (Itz K a b xs ys) [z, TI, TO, i1, i2] z (ZpAt z TI TO i1 i2 a b) where
  mem := by simp
  obj := fun i h st c hc => by
    obtain ⟨hz, hI, ⟨u, v, hO⟩, ⟨o1, g1, _, d1⟩, ⟨o2, g2, _, d2⟩⟩ := st
    simp only [List.mem_cons, List.not_mem_nil, or_false] at hc
    rcases hc with rfl | rfl | rfl | rfl | rfl
    · exact ⟨_, hz, fun v e => by cases (show Data.fields _ = Data.cell v from e)⟩
    · exact ⟨_, hI, fun v e => by cases (show Data.seq _ _ = Data.cell v from e)⟩
    · exact ⟨_, hO, fun v e => by cases (show Data.seq _ _ = Data.cell v from e)⟩
    · exact ⟨o1, g1, fun v e => by rw [d1] at e; cases e⟩
    · exact ⟨o2, g2, fun v e => by rw [d2] at e; cases e⟩
  keep := fun i h h' st k => by
    obtain ⟨hz, hI, ⟨u, v, hO⟩, g1, g2⟩ := st
    exact ⟨k z (by simp) _ hz, k TI (by simp) _ hI, ⟨u, v, k TO (by simp) _ hO⟩, g1.at fun o q => k i1 (by simp) o q, g2.at fun o q => k i2 (by simp) o q⟩
  item := by
    intro X hP hw hK hc i pins s σ H E I hf st hg
    subst hP hw hK
    obtain ⟨⟨qa, qb⟩, ha, hb⟩ := hg
    obtain ⟨us, ru, pu, _⟩ := I.list qa
    obtain ⟨vs, rv, pv, _⟩ := I.list qb
    have DD := zp_apart D st pu.isList pv.isList
    obtain ⟨hz, hI, ⟨c1, c2, hO⟩, g1, g2⟩ := id st
    have hx : xs[i]? = some xs[i] := by simp [ha]
    have hy : ys[i]? = some ys[i] := by simp [hb]
    generalize xs[i] = x at hx
    generalize ys[i] = y at hy
    obtain ⟨u, hu, rx⟩ := ru.get hx
    obtain ⟨v, hv, ry⟩ := rv.get hy
    refine wpAny_pyNext_zip_item DD hz hI hO g1 g2 pu.isList pv.isList (x := u) (y := v) (by simpa using hu) (by simpa using hv) fun h1 a1 a2 a3 a4 a5 a6 hk => ?_
    refine ⟨_, rfl, wpAny_letOwnedTupleGo_zip a1 fun h2 he2 hs2 => ?_⟩
    have neT : s.heap.objs.size ≠ z := Nat.ne_of_gt (Heap.lt_size hz)
    have hT2 := (hs2.2 _ neT).trans a5
    have k2 : ∀ b o, b ∉ [z, TI, TO, i1, i2] → s.heap.get? b = some o → h2.get? b = some o := fun b o hb q => by
      simp only [List.mem_cons, List.not_mem_nil, or_false, not_or] at hb
      exact (hs2.2 b hb.1).trans (hk b o hb.1 hb.2.2.1 hb.2.2.2.1 hb.2.2.2.2 q)
    have new : ObjOk X.prog X.w (upd H s.heap.objs.size (.tup [x, y])) h2 s.heap.objs.size (.tup [x, y]) :=
      ⟨by show 2 ≤ sizeLine; decide, [u, v], .cons rx (.cons ry .nil), ⟨_, hT2, rfl, _, rfl⟩⟩
    refine ⟨.ref s.heap.objs.size, _, I.turnedLaid (t' := s.toks) hf k2 (Nat.le_refl _) new, rfl, ⟨_, x, y, rfl, hx, hy, .mk' (I.hok.fresh (Nat.le_refl _))⟩, ⟨he2, (hs2.2 TI DD.TIz).trans (hk TI _ DD.TIz DD.TITO DD.TIi1 DD.TIi2 hI), ⟨u, v, (hs2.2 TO DD.TOz).trans a2⟩, a3.at fun o q => (hs2.2 i1 DD.i1z).trans q, a4.at fun o q => (hs2.2 i2 DD.i2z).trans q⟩, fun b hb => ?_⟩
    have hbn := (hf b hb).1
    have hb' : b < s.heap.objs.size := by
      obtain ⟨o1, q1, _⟩ := g1
      obtain ⟨o2, q2, _⟩ := g2
      simp only [List.mem_cons, List.not_mem_nil, or_false] at hb
      rcases hb with rfl | rfl | rfl | rfl | rfl
      · exact Heap.lt_size hz
      · exact Heap.lt_size hI
      · exact Heap.lt_size hO
      · exact Heap.lt_size q1
      · exact Heap.lt_size q2
    rw [upd_ne (Nat.ne_of_lt hb')]
    exact hbn
  done := by
    intro X hP hw hK hc i pins s σ H E I hf st hg
    subst hP hw hK
    obtain ⟨⟨qa, qb⟩, hle⟩ := hg
    obtain ⟨us, ru, pu, _⟩ := I.list qa
    obtain ⟨vs, rv, pv, _⟩ := I.list qb
    have DD := zp_apart D st pu.isList pv.isList
    obtain ⟨hz, hI, ⟨c1, c2, hO⟩, g1, g2⟩ := id st
    have l1 := ru.length
    have l2 := rv.length
    refine wpAny_pyNext_zip_end (I.ok.hd hc) DD hz hI hO g1 g2 pu.isList pv.isList (by simp; omega) fun h' eb => ⟨rfl, I.turnedN (t' := s.toks) (ch := [z, TI, TO, i1, i2]) hf fun b o hb q => ?_⟩
    simp only [List.mem_cons, List.not_mem_nil, or_false, not_or] at hb
    exact eb b o hb.1 hb.2.2.1 hb.2.2.2.1 hb.2.2.2.2 q
  self := fun _ _ _ _ _ st h => wpAny_pyIter_zip st.1 h
theorem boot_zip : bootBuiltins "zip" = some (.type "zip") := by decide +kernel
def iZip (K : PySem.W.Frag) (ta : TA) : TI := fun σ H R => ta σ H fun vs H1 => ∃ a b xs ys, vs = [.ref a, .ref b] ∧ SqL K H1 a xs ∧ SqL K H1 b ys ∧ R (Itz K a b xs ys) H1
theorem pi_zip {X : Cx} {elts : List Expr} {x1} {tpos : Pos} {a b : Expr} {ta : TA} {p pos : Pos} (hg : Gl X "zip") (hm : X.mg "zip" = none) (ha : PA X [a, b] ta) (hs : starEach [a, b] X.env = [(false, eval a X.env), (false, eval b X.env)] := by rfl) (hs2 : starEach [b] X.env = [(false, eval b X.env)] := by rfl) :
    PI X (.Tuple elts x1 tpos) (.Call (.Name "zip" p) [a, b] [] pos) (iZip X.K ta) := by
  intro pins s σ H R I h
  refine Call_ (ld_blt I hg hm boot_zip (PyProof.Rows.callWith_type1 (thn (ha pos pins s σ H _ I h) fun us s1 ⟨vs, H1, I1, r1, q1⟩ => ?_) (by rw [hs, hs2]) (by rw [hs2]; rfl)))
  obtain ⟨l, m, xs, ys, e, hq, hq2, q⟩ := q1
  subst e
  obtain ⟨u, v, rfl, r, r2⟩ := vals2 r1
  cases r
  cases r2
  obtain ⟨its, rv, pl, hz⟩ := I1.list hq
  obtain ⟨its2, rv2, pl2, hz2⟩ := I1.list hq2
  refine call_zip_2 pl.isList pl2.isList fun h' b1 b2 b3 b4 b5 hsz hk => ?_
  have I2 : Inv X pins σ H1 { s1 with heap := h' } := I1.kept (t' := s1.toks) hk
  refine wpAny_pyIter_zip b1 ?_
  refine ⟨s1.heap.objs.size + 4, [s1.heap.objs.size + 4, s1.heap.objs.size + 2, s1.heap.objs.size + 3, s1.heap.objs.size, s1.heap.objs.size + 1], _, Itz X.K l m xs ys, H1, rfl, I2, turn_zip l m (s1.heap.objs.size + 4) (s1.heap.objs.size + 2) (s1.heap.objs.size + 3) s1.heap.objs.size (s1.heap.objs.size + 1) xs ys (zp_new _), ⟨b1, b2, ⟨_, _, b3⟩, b4, b5⟩, fun b hb => ?_, q⟩
  have hb' : s1.heap.objs.size ≤ b := by
    simp only [List.mem_cons, List.not_mem_nil, or_false] at hb
    rcases hb with rfl | rfl | rfl | rfl | rfl
    · exact Nat.le_add_right _ _
    · exact Nat.le_add_right _ _
    · exact Nat.le_add_right _ _
    · exact Nat.le_refl _
    · exact Nat.le_add_right _ _
  exact I1.fpOk hb' (I1.hok.fresh hb')
def ForZ (K : PySem.W.Frag) (a b : Addr) (xs ys : List V) (g : TG) (tb : TS) (D : Ends) (σ : St) (H : Hp) : Prop :=
    ∃ W : Nat → Nat → St → Hp → Prop, (∃ m, W 0 m σ H) ∧ ∀ i m σ H, W i m σ H →
      ((Itz K a b xs ys).stop i H ∧ D.nx σ H) ∨ ((Itz K a b xs ys).go i H ∧ ∃ N : St → Hp → Prop, (∀ σ' H', N σ' H' → ∃ m', m' < m ∧ W (i + 1) m' σ' H') ∧ ∀ x H', (Itz K a b xs ys).yld i H x H' → g x σ H' fun σ2 H2 => tb { D with nx := N, ct := N, bk := D.nx } σ2 H2)
theorem for_zip {K : PySem.W.Frag} {a b : Addr} {xs ys : List V} {g : TG} {tb : TS} {D : Ends} {σ : St} {H : Hp} (hlen : xs.length = ys.length) (Pv : Nat → St → Hp → Prop) (h0 : Pv 0 σ H) (hl : ∀ i σ H, i ≤ xs.length → Pv i σ H → SqL K H a xs ∧ SqL K H b ys)
    (hs : ∀ i x y T σ H H', xs[i]? = some x → ys[i]? = some y → Pv i σ H → New H H' T (.tup [x, y]) → g (.ref T) σ H' fun σ2 H2 => tb { D with nx := Pv (i + 1), ct := Pv (i + 1), bk := D.nx } σ2 H2) (hd : ∀ σ H, Pv xs.length σ H → D.nx σ H) :
    ForZ K a b xs ys g tb D σ H := by
  refine ⟨fun i m σ H => m = xs.length - i ∧ i ≤ xs.length ∧ Pv i σ H, ⟨xs.length, by simp, Nat.zero_le _, h0⟩, ?_⟩
  rintro i m σ H ⟨rfl, hi, p⟩
  have q := hl i σ H hi p
  by_cases hlt : i < xs.length
  · refine .inr ⟨⟨q, hlt, by omega⟩, Pv (i + 1), fun σ' H' p' => ⟨xs.length - (i + 1), by omega, rfl, hlt, p'⟩, fun x H' y => ?_⟩
    obtain ⟨T, u, v, rfl, hu, hv, n⟩ := y
    exact hs i u v T σ H H' hu hv p n
  · have e : i = xs.length := by omega
    subst e
    exact .inl ⟨⟨q, .inl (Nat.le_refl _)⟩, hd σ H p⟩
section
variable {K : PySem.W.Frag} {g : TG} {tb : TS} {D : Ends} {σ : St} {H : Hp} {tr : TA} {a b : Addr} {xs ys : List V}
instance go_forZ : Go (tFor (iZip K tr) g tb D σ H) (tr σ H fun vs H1 => ∃ a b xs ys, vs = [.ref a, .ref b] ∧ SqL K H1 a xs ∧ SqL K H1 b ys ∧ ForZ K a b xs ys g tb D σ H1) := ⟨fun h => h⟩
instance go_zby [h : SqA K H a xs] [h2 : SqA K H b ys] : Go (∃ a' b' xs' ys', [V.ref a, V.ref b] = [.ref a', .ref b'] ∧ SqL K H a' xs' ∧ SqL K H b' ys' ∧ ForZ K a' b' xs' ys' g tb D σ H) (ForZ K a b xs ys g tb D σ H) := ⟨fun k => ⟨a, b, xs, ys, rfl, h.e, h2.e, k⟩⟩
end
end L2
set_option maxHeartbeats 400000
namespace L2
open PySem PySem.Spec PyProof.Rows PySem.SeqAt
end L2
set_option maxHeartbeats 1000000
namespace L2
open PySem PySem.Spec PyProof.Rows PySem.SeqAt
theorem any_LT {K : PySem.W.Frag} {H : Hp} {x : V} {n : String} (t : TyOf K H x (.type n)) : PySem.W.kitAny K (.type n) [.type "list", .type "tuple"] = some (n == "list" || n == "tuple") := by
  have h1 : PySem.W.kitOne K (.type n) (.type "list") = some (n == "list") := bt_list t
  have h2 : PySem.W.kitOne K (.type n) (.type "tuple") = some (n == "tuple") := bt_tuple t
  unfold PySem.W.kitAny
  rw [h1]
  cases n == "list" with
  | true => rfl
  | false =>
    unfold PySem.W.kitAny
    rw [h2]
    cases n == "tuple" <;> rfl
def rIsLT : List V → Hp → VK → Prop := fun xs H Q => ∃ x p, xs = [x, .ref p] ∧ H p = some (.tup [.ty "list", .ty "tuple"]) ∧ ((isFlat x = true ∧ Q (.bl false) H) ∨ ∃ a ys, x = .ref a ∧ (H a = some (.lst ys) ∨ H a = some (.tup ys)) ∧ Q (.bl true) H)
theorem call_isLT {X : Cx} : CallR X (.builtin "isinstance") rIsLT := by
  intro pins s σ H xs us Q I r h
  obtain ⟨x, p, rfl, hp, h⟩ := h
  obtain ⟨u, v, rfl, rx, rv⟩ := vals2 r
  obtain rfl : v = Value.ref p := rv
  obtain ⟨_, its, rt, o, ho, hc, m, hd⟩ := (show ObjOk X.prog X.w H s.heap p (.tup [.ty "list", .ty "tuple"]) from I.hok p _ hp)
  obtain ⟨cls, dd, data, sl⟩ := o
  obtain rfl : cls = .type "tuple" := hc
  obtain rfl : data = .seq its.toArray m := hd
  have ei : its = [.type "list", .type "tuple"] := by
    cases rt with
    | cons r1 r2 =>
      cases r2 with
      | cons r3 r4 =>
        cases r4
        rw [show _ = Value.type "list" from r1, show _ = Value.type "tuple" from r3]
  subst ei
  rcases h with ⟨hf, q⟩ | ⟨a, ys, rfl, ha | ha, q⟩
  · cases x with
    | non => cases (show u = Value.none from rx); exact PySem.W.kia_tup PySem.W.kitx_none I.kIn True.intro ho (any_LT (K := X.K) (H := H) .non) (fun z => nomatch z) fun tk => ⟨.bl _, H, I.tok _, rfl, q⟩
    | bl y => cases (show u = Value.bool y from rx); exact PySem.W.kia_tup PySem.W.kitx_bool I.kIn True.intro ho (any_LT (K := X.K) (H := H) (.bl y)) (fun z => nomatch z) fun tk => ⟨.bl _, H, I.tok _, rfl, q⟩
    | int i => obtain ⟨t, z⟩ := (show ∃ t, u = Value.int i t from rx); cases z; exact PySem.W.kia_tup PySem.W.kitx_int I.kIn True.intro ho (any_LT (K := X.K) (H := H) (.int i)) (fun z => nomatch z) fun tk => ⟨.bl _, H, I.tok _, rfl, q⟩
    | str y => obtain ⟨t, z⟩ := (show ∃ t, u = Value.str y t from rx); cases z; exact PySem.W.kia_tup PySem.W.kitx_str I.kIn True.intro ho (any_LT (K := X.K) (H := H) (.str y)) (fun z => nomatch z) fun tk => ⟨.bl _, H, I.tok _, rfl, q⟩
    | _ => simp [isFlat] at hf
  · cases (show u = Value.ref a from rx)
    obtain ⟨_, _, m, _, h1⟩ := (show ObjOk X.prog X.w H s.heap a (.lst ys) from I.hok a _ ha)
    exact PySem.W.kia_tup PySem.W.kitx_list I.kIn ⟨_, h1, rfl⟩ ho (any_LT (K := X.K) (H := H) (.lst ha)) (fun z => nomatch z) fun tk => ⟨.bl _, H, I.tok _, rfl, q⟩
  · cases (show u = Value.ref a from rx)
    obtain ⟨_, _, _, o, h1, h2, _⟩ := (show ObjOk X.prog X.w H s.heap a (.tup ys) from I.hok a _ ha)
    exact PySem.W.kia_tup PySem.W.kitx_tuple I.kIn ⟨o, h1, h2⟩ ho (any_LT (K := X.K) (H := H) (.tup ha)) (fun z => nomatch z) fun tk => ⟨.bl _, H, I.tok _, rfl, q⟩
section
variable {H : Hp} {Q : VK} {a p : Addr} {ys : List V} {i : Int}
instance go_isLTl [h : Hat H p (.tup [.ty "list", .ty "tuple"])] [h2 : Hat H a (.lst ys)] : Go (rIsLT [.ref a, .ref p] H Q) (Q (.bl true) H) := ⟨fun k => ⟨_, p, rfl, h.e, .inr ⟨a, ys, rfl, .inl h2.e, k⟩⟩⟩
instance go_isLTt [h : Hat H p (.tup [.ty "list", .ty "tuple"])] [h2 : Hat H a (.tup ys)] : Go (rIsLT [.ref a, .ref p] H Q) (Q (.bl true) H) := ⟨fun k => ⟨_, p, rfl, h.e, .inr ⟨a, ys, rfl, .inr h2.e, k⟩⟩⟩
instance go_isLTi [h : Hat H p (.tup [.ty "list", .ty "tuple"])] : Go (rIsLT [.int i, .ref p] H Q) (Q (.bl false) H) := ⟨fun k => ⟨_, p, rfl, h.e, .inl ⟨rfl, k⟩⟩⟩
instance go_isLTn [h : Hat H p (.tup [.ty "list", .ty "tuple"])] : Go (rIsLT [.non, .ref p] H Q) (Q (.bl false) H) := ⟨fun k => ⟨_, p, rfl, h.e, .inl ⟨rfl, k⟩⟩⟩
end
theorem pe_revSlK {X : Cx} {K : PySem.W.Frag} {e st : Expr} {te ts : TE} {pos p2 : Pos} (hK : X.K = K) (he : PE X e te) (hst : PE X st ts) : PE X (.Subscript e (.Slice none none (some st) p2) pos) (tRevSl K te ts) := by
  subst hK
  exact pe_revSl he hst
end L2
set_option maxHeartbeats 4000000
namespace K72
open PySem L2 PyProof.Rows
def top (i : Nat) : Stmt := PySem.Challenge.pw_slideroom_k72_prices_walked.main.body.getD i (.Pass ⟨0, 0, 0, 0⟩)
abbrev s_is_whole : Stmt := top 17
theorem sc_is_whole : FnScope ["thing"] ["thing"] (defScope s_is_whole) := ⟨rfl, rfl, rfl, by decide +kernel, rfl, by decide +kernel, by decide +kernel⟩
abbrev s_is_from : Stmt := top 19
theorem sc_is_from : FnScope ["thing", "low"] ["thing", "low"] (defScope s_is_from) := ⟨rfl, rfl, rfl, by decide +kernel, rfl, by decide +kernel, by decide +kernel⟩
abbrev s_is_within : Stmt := top 20
theorem sc_is_within : FnScope ["thing", "low", "high"] ["thing", "low", "high"] (defScope s_is_within) := ⟨rfl, rfl, rfl, by decide +kernel, rfl, by decide +kernel, by decide +kernel⟩
abbrev s_is_many : Stmt := top 21
theorem sc_is_many : FnScope ["thing"] ["thing"] (defScope s_is_many) := ⟨rfl, rfl, rfl, by decide +kernel, rfl, by decide +kernel, by decide +kernel⟩
abbrev s_is_name : Stmt := top 22
theorem sc_is_name : FnScope ["thing"] ["thing"] (defScope s_is_name) := ⟨rfl, rfl, rfl, by decide +kernel, rfl, by decide +kernel, by decide +kernel⟩
abbrev s_end_of : Stmt := top 24
theorem sc_end_of : FnScope ["stretch"] ["stretch"] (defScope s_end_of) := ⟨rfl, rfl, rfl, by decide +kernel, rfl, by decide +kernel, by decide +kernel⟩
abbrev s_is_row : Stmt := top 28
theorem sc_is_row : FnScope ["thing"] ["thing"] (defScope s_is_row) := ⟨rfl, rfl, rfl, by decide +kernel, rfl, by decide +kernel, by decide +kernel⟩
abbrev s_cells_of : Stmt := top 29
theorem sc_cells_of : FnScope ["row"] ["row"] (defScope s_cells_of) := ⟨rfl, rfl, rfl, by decide +kernel, rfl, by decide +kernel, by decide +kernel⟩
abbrev s_need_row : Stmt := top 30
theorem sc_need_row : FnScope ["many", "row", "ahead", "other"] ["many", "row", "ahead"] (defScope s_need_row) := ⟨rfl, rfl, rfl, by decide +kernel, rfl, by decide +kernel, by decide +kernel⟩
abbrev s_need_rows : Stmt := top 31
theorem sc_need_rows : FnScope ["many", "rows", "at"] ["many", "rows"] (defScope s_need_rows) := ⟨rfl, rfl, rfl, by decide +kernel, rfl, by decide +kernel, by decide +kernel⟩
abbrev s_share : Stmt := top 25
theorem sc_share : FnScope ["one", "other"] ["one", "other"] (defScope s_share) := ⟨rfl, rfl, rfl, by decide +kernel, rfl, by decide +kernel, by decide +kernel⟩
abbrev s_cell_at : Stmt := top 42
theorem sc_cell_at : FnScope ["_law_script", "_law_k"] ["_law_script", "_law_k"] (defScope s_cell_at) := ⟨rfl, rfl, rfl, by decide +kernel, rfl, by decide +kernel, by decide +kernel⟩
abbrev s_box : Stmt := top 43
theorem sc_box : FnScope ["_law_cell"] ["_law_cell"] (defScope s_box) := ⟨rfl, rfl, rfl, by decide +kernel, rfl, by decide +kernel, by decide +kernel⟩
abbrev s_take : Stmt := top 44
theorem sc_take : FnScope ["_law_box_here", "_law_many_here", "_law_digit", "_law_number"] ["_law_box_here", "_law_many_here"] (defScope s_take) := ⟨rfl, rfl, rfl, by decide +kernel, rfl, by decide +kernel, by decide +kernel⟩
abbrev s_names : Stmt := top 45
theorem sc_names : FnScope ["_law_box_here", "_law_many_here", "_law_letters", "_law_tail", "_law_first", "_law_names_here", "_law_k", "_law_name"] ["_law_box_here", "_law_many_here"] (defScope s_names) := ⟨rfl, rfl, rfl, by decide +kernel, rfl, by decide +kernel, by decide +kernel⟩
abbrev s_many : Stmt := top 47
theorem sc_many : FnScope ["_law_box_here"] ["_law_box_here"] (defScope s_many) := ⟨rfl, rfl, rfl, by decide +kernel, rfl, by decide +kernel, by decide +kernel⟩
abbrev s_rows : Stmt := top 46
theorem sc_rows : FnScope ["_law_box_here", "_law_many_here", "_law_most", "_law_names_here", "_law_pinned", "_law_rows_here", "_law_at", "_law_k", "_law_left", "_law_near", "_law_far", "_law_gap", "_law_wide", "_law_size", "_law_pins"] ["_law_box_here", "_law_many_here"] (defScope s_rows) := ⟨rfl, rfl, rfl, by decide +kernel, rfl, by decide +kernel, by decide +kernel⟩
abbrev s_mixed : Stmt := top 48
theorem sc_mixed : FnScope ["_law_box_here", "_law_some", "_law_left", "_law_found"] ["_law_box_here", "_law_some"] (defScope s_mixed) := ⟨rfl, rfl, rfl, by decide +kernel, rfl, by decide +kernel, by decide +kernel⟩
abbrev s_gapsof : Stmt := top 34
theorem sc_gapsof : FnScope ["layout", "gaps", "behind", "block"] ["layout"] (defScope s_gapsof) := ⟨rfl, rfl, rfl, by decide +kernel, rfl, by decide +kernel, by decide +kernel⟩
abbrev s_truth : Stmt := top 18
theorem sc_truth : FnScope ["thing"] ["thing"] (defScope s_truth) := ⟨rfl, rfl, rfl, by decide +kernel, rfl, by decide +kernel, by decide +kernel⟩
abbrev s_atend : Stmt := top 35
theorem sc_atend : FnScope ["size"] ["size"] (defScope s_atend) := ⟨rfl, rfl, rfl, by decide +kernel, rfl, by decide +kernel, by decide +kernel⟩
abbrev s_beside : Stmt := top 36
theorem sc_beside : FnScope ["block", "beyond", "cells", "size", "row", "longer", "price"] ["block", "beyond", "cells", "size"] (defScope s_beside) := ⟨rfl, rfl, rfl, by decide +kernel, rfl, by decide +kernel, by decide +kernel⟩
abbrev s_left : Stmt := top 37
theorem sc_left : FnScope ["layout", "size", "gaps", "table", "at", "block"] ["layout", "size"] (defScope s_left) := ⟨rfl, rfl, rfl, by decide +kernel, rfl, by decide +kernel, by decide +kernel⟩
abbrev s_right : Stmt := top 38
theorem sc_right : FnScope ["layout", "size", "gaps", "blocks", "falling", "at"] ["layout", "size"] (defScope s_right) := ⟨rfl, rfl, rfl, by decide +kernel, rfl, by decide +kernel, by decide +kernel⟩
abbrev s_prices : Stmt := top 39
theorem sc_prices : FnScope ["layout", "size"] ["layout", "size"] (defScope s_prices) := ⟨rfl, rfl, rfl, by decide +kernel, rfl, by decide +kernel, by decide +kernel⟩
abbrev s_isprices : Stmt := top 40
theorem sc_isprices : FnScope ["layout", "size", "told"] ["layout", "size", "told"] (defScope s_isprices) := ⟨rfl, rfl, rfl, by decide +kernel, rfl, by decide +kernel, by decide +kernel⟩
abbrev s_lwhole : Stmt := top 49
theorem sc_lwhole : FnScope ["_law_thing"] ["_law_thing"] (defScope s_lwhole) := ⟨rfl, rfl, rfl, by decide +kernel, rfl, by decide +kernel, by decide +kernel⟩
abbrev s_lgaps : Stmt := top 50
theorem sc_lgaps : FnScope ["_law_many_here", "_law_rows_here", "_law_found", "_law_end", "_law_name", "_law_start", "_law_size", "_law_pins"] ["_law_many_here", "_law_rows_here"] (defScope s_lgaps) := ⟨rfl, rfl, rfl, by decide +kernel, rfl, by decide +kernel, by decide +kernel⟩
abbrev s_pushed : Stmt := top 51
theorem sc_pushed : FnScope ["_law_rows_here", "_law_gaps_here", "_law_much", "_law_cost", "_law_name", "_law_start", "_law_size", "_law_pins", "_law_gap"] ["_law_rows_here", "_law_gaps_here", "_law_much"] (defScope s_pushed) := ⟨rfl, rfl, rfl, by decide +kernel, rfl, by decide +kernel, by decide +kernel⟩
abbrev s_lprices : Stmt := top 52
theorem sc_lprices : FnScope ["_law_many_here", "_law_rows_here", "_law_size", "_law_gaps_here", "_law_left", "_law_right", "_law_g", "_law_back"] ["_law_many_here", "_law_rows_here", "_law_size"] (defScope s_lprices) := ⟨rfl, rfl, rfl, by decide +kernel, rfl, by decide +kernel, by decide +kernel⟩
abbrev s_side : Stmt := top 53
theorem sc_side : FnScope ["_law_told", "_law_many_here", "_law_size", "_law_row", "_law_price"] ["_law_told", "_law_many_here", "_law_size"] (defScope s_side) := ⟨rfl, rfl, rfl, by decide +kernel, rfl, by decide +kernel, by decide +kernel⟩
abbrev s_tright : Stmt := top 54
theorem sc_tright : FnScope ["_law_layout", "_law_size", "_law_due", "_law_told"] ["_law_layout", "_law_size", "_law_due"] (defScope s_tright) := ⟨rfl, rfl, rfl, by decide +kernel, rfl, by decide +kernel, by decide +kernel⟩
abbrev s_law : Stmt := top 55
theorem sc_law : FnScope ["_law_script", "_law_k", "_law_box_here", "_law_many_here", "_law_rows_here", "_law_size", "_law_layout", "_law_due", "_law_copied", "_law_other"] ["_law_script"] (defScope s_law) := ⟨rfl, rfl, rfl, by decide +kernel, rfl, by decide +kernel, by decide +kernel⟩
abbrev s_Linit : Stmt := inClass (top 32) 0
theorem sc_Linit : FnScope ["self", "many", "rows"] ["self", "many", "rows"] (defScope s_Linit) := ⟨rfl, rfl, rfl, by decide +kernel, rfl, by decide +kernel, by decide +kernel⟩
abbrev s_Lblocks : Stmt := inClass (top 32) 1
theorem sc_Lblocks : FnScope ["self"] ["self"] (defScope s_Lblocks) := ⟨rfl, rfl, rfl, by decide +kernel, rfl, by decide +kernel, by decide +kernel⟩
structure Txt (K : PySem.W.Frag) (mg : Str → Option Value) (c : Nat → Addr) (R CL ct_Linit pt_Linit : Addr) : Prop where
  d_is_whole : HasDef K mg "is_whole" s_is_whole
  d_is_from : HasDef K mg "is_from" s_is_from
  d_is_within : HasDef K mg "is_within" s_is_within
  d_is_many : HasDef K mg "is_many" s_is_many
  d_is_name : HasDef K mg "is_name" s_is_name
  d_end_of : HasDef K mg "end_of" s_end_of
  d_is_row : HasDef K mg "is_row" s_is_row
  d_cells_of : HasDef K mg "cells_of" s_cells_of
  d_need_row : HasDef K mg "need_row" s_need_row
  d_need_rows : HasDef K mg "need_rows" s_need_rows
  d_share : HasDef K mg "share_cells" s_share
  d_cell_at : HasDef K mg "_law_cell_at" s_cell_at
  d_box : HasDef K mg "_law_box" s_box
  d_take : HasDef K mg "_law_take" s_take
  d_names : HasDef K mg "_law_names" s_names
  d_many : HasDef K mg "_law_many" s_many
  d_rows : HasDef K mg "_law_rows" s_rows
  d_mixed : HasDef K mg "_law_mixed" s_mixed
  d_gapsof : HasDef K mg "gaps_of" s_gapsof
  d_truth : HasDef K mg "has_truth" s_truth
  d_atend : HasDef K mg "row_at_end" s_atend
  d_beside : HasDef K mg "row_beside" s_beside
  d_left : HasDef K mg "left_prices" s_left
  d_right : HasDef K mg "right_prices" s_right
  d_prices : HasDef K mg "prices" s_prices
  d_isprices : HasDef K mg "is_prices" s_isprices
  d_lwhole : HasDef K mg "_law_whole" s_lwhole
  d_lgaps : HasDef K mg "_law_gaps" s_lgaps
  d_pushed : HasDef K mg "_law_pushed" s_pushed
  d_lprices : HasDef K mg "_law_prices" s_lprices
  d_side : HasDef K mg "_law_is_side" s_side
  d_tright : HasDef K mg "_law_told_right" s_tright
  n_isinstance : mg "isinstance" = none
  n_int : mg "int" = none
  n_bool : mg "bool" = none
  n_str : mg "str" = none
  n_list : mg "list" = none
  n_tuple : mg "tuple" = none
  n_len : mg "len" = none
  n_all : mg "all" = none
  n_range : mg "range" = none
  n_sorted : mg "sorted" = none
  n_max : mg "max" = none
  n_min : mg "min" = none
  n_sum : mg "sum" = none
  n_enumerate : mg "enumerate" = none
  n_zip : mg "zip" = none
  n_reversed : mg "reversed" = none
  n_any : mg "any" = none
  g_LETTERS : GlobIs mg "LETTERS" (.str LET)
  g_NAME_SIGNS : GlobIs mg "NAME_SIGNS" (.str SGN)
  g_MOST_SIGNS : GlobIs mg "MOST_SIGNS" (.int 8)
  g_FEWEST_CELLS : GlobIs mg "FEWEST_CELLS" (.int 16)
  g_MOST_CELLS : GlobIs mg "MOST_CELLS" (.int 240)
  g_MOST_BLOCKS : GlobIs mg "MOST_BLOCKS" (.int 40)
  g_R : mg "RoomError" = some (.ref R)
  c_R : (PySem.W.clsIn K R).isSome = true
  t_R : PySem.W.typeIn K (.ref R) = some (.type "type")
  m_R : PySem.W.mroIn K R (.type "BaseException") = some true
  clL : Cls K CL
  gc_Layout : mg "Layout" = some (.ref CL)
  aL_many : NoAttr K CL "many"
  aL_rows : NoAttr K CL "rows"
  tab_Linit : PySem.W.codeHdIn K ct_Linit pt_Linit = true
  f_Linit : ∃ f, (∃ fd, Fun K "__init__" "Layout.__init__" s_Linit f fd ∧ fd.code = .ref ct_Linit) ∧ Mk K CL f
  f_Lblocks : ∃ f, FnAt K "blocks" "Layout.blocks" s_Lblocks f ∧ Meth K CL "blocks" f
local macro_rules | `(tactic| k_room) => `(tactic| first
  | with_reducible assumption
  | with_unfolding_all exact rfl
  | with_unfolding_all exact Nat.le_of_ble_eq_true rfl
  | omega
  | (with_reducible refine small_line ?_; first | omega | (simp only [List.length_cons, List.length_nil, List.length_map, List.length_append, List.length_replicate, rowsN_len, List.length_take, List.length_drop, List.length_set]; omega))
  | (with_reducible refine small_lt ?_; first | omega | (simp only [List.length_cons, List.length_nil, List.length_map, List.length_append, List.length_replicate, rowsN_len, List.length_take, List.length_drop, List.length_set]; omega))
  | (simp only [List.length_cons, List.length_nil, List.length_map, List.length_append, List.length_replicate, rowsN_len, List.length_take, List.length_drop, List.length_set]; omega)
  | decide)
local macro_rules | `(tactic| k_mem) => `(tactic| first
  | with_reducible assumption
  | decide
  | omega
  | (simp only [List.length_cons, List.length_nil, List.length_map, List.length_append, List.length_replicate, rowsN_len, List.length_take, List.length_drop, List.length_set]; omega))
set_option hygiene false in
local macro_rules | `(tactic| k_meth) => `(tactic| first
  | with_reducible refine go1 ?_
  | (intro H_ a_ dx_ (F_ : SH _ _ _ _ _) (ex_ : ExcT _ _ _ _); clear F; (have F := F_); clear F_; have exA_ := ExA.mk ex_)
  | (intro H_ (F_ : SH _ _ _ _ _); clear F; (have F := F_); clear F_)
  | (intro H_ p_ (F_ : SH _ _ _ _ _); clear F; (have F := F_); clear F_)
  | (intro H_ x_ dx_ (F_ : SH _ _ _ _ _); clear F; (have F := F_); clear F_)
  | (intro H_ p_ ys_ l_ (F_ : SH _ _ _ _ _); clear F; (have F := F_); clear F_)
  | with_reducible refine sd (by k_room) ?_
  | (intro (r_ : Int) (x_ : Int) (y_ : Int) (z_ : Int) lo_ hi_)
  | (intro (x_ : Int) (y_ : Int))
  | (intro (c_ : Int))
  | with_reducible refine i_pos (by k_mem) ?_
  | with_reducible refine i_neg (by k_mem) ?_
  | with_reducible refine i_npos (by k_mem) ?_
  | with_reducible refine i_nneg (by k_mem) ?_)
def sp_is_name : Sp := fun vs H Q _ => ∃ cs : List Nat, vs = [.str (tx cs)] ∧ NameOk cs ∧ ∀ H', Same H H' → Q (.bl true) H'
def sp_share : Sp := fun vs H Q _ => ∃ (p q : Addr) (a b c d : Int), vs = [.ref p, .ref q] ∧ H p = some (.tup [.int a, .int b]) ∧ H q = some (.tup [.int c, .int d]) ∧ Q (.bl (decide (a < c + d) && decide (c < a + b))) H
def sp_cells : Sp := fun vs H Q _ => ∃ (q : Addr) (r : Rw), vs = [.ref q] ∧ H q = some (.tup (rowV r)) ∧ ∀ p H', Same H H' → H' p = some (.tup [.int (r.st : Nat), .int (r.sz : Nat)]) → Q (.ref p) H'
def sp_is_row : Sp := fun vs H Q _ => ∃ (q : Addr) (r : Rw), vs = [.ref q] ∧ H q = some (.tup (rowV r)) ∧ NameOk r.nm ∧ 1 ≤ r.sz ∧ ∀ H', Same H H' → Q (.bl true) H'
def sp_need_row : Sp := fun vs H Q _ => ∃ (n : Nat) (q l : Addr) (r : Rw) (ys : List V) (rs : List Rw), vs = [.int (n : Nat), .ref q, .ref l] ∧ H q = some (.tup (rowV r)) ∧ H l = some (.lst ys) ∧ TupsAt H ys (rowsV rs) ∧ GoodR n r ∧ (∀ s ∈ rs, Apart s r) ∧ ∀ H', Same H H' → Q .non H'
def sp_need_rows : Sp := fun vs H Q _ => ∃ (n : Nat) (l : Addr) (ys : List V) (rs : List Rw), vs = [.int (n : Nat), .ref l] ∧ H l = some (.lst ys) ∧ TupsAt H ys (rowsV rs) ∧ Lay n rs ∧ ∀ H', Same H H' → Q .non H'
section
variable {H : Hp} {Q : VK} {E : XK} {cs : List Nat} {p q l : Addr} {a b c d : Int} {r : Rw} {n : Nat} {ys : List V} {rs : List Rw}
instance go_is_name : Go (sp_is_name [.str (tx cs)] H Q E) (Sd (NameOk cs) (∀ H', Same H H' → Q (.bl true) H')) := ⟨fun s => ⟨cs, rfl, s.1, s.2⟩⟩
instance go_share [h : Hat H p (.tup [.int a, .int b])] [h2 : Hat H q (.tup [.int c, .int d])] : Go (sp_share [.ref p, .ref q] H Q E) (Q (.bl (decide (a < c + d) && decide (c < a + b))) H) := ⟨fun k => ⟨p, q, a, b, c, d, rfl, h.e, h2.e, k⟩⟩
instance go_cells [h : Hat H q (.tup (rowV r))] : Go (sp_cells [.ref q] H Q E) (∀ p H', Same H H' → H' p = some (.tup [.int (r.st : Nat), .int (r.sz : Nat)]) → Q (.ref p) H') := ⟨fun k => ⟨q, r, rfl, h.e, k⟩⟩
instance go_is_row [h : Hat H q (.tup (rowV r))] : Go (sp_is_row [.ref q] H Q E) (Sd (NameOk r.nm ∧ 1 ≤ r.sz) (∀ H', Same H H' → Q (.bl true) H')) := ⟨fun s => ⟨q, r, rfl, h.e, s.1.1, s.1.2, s.2⟩⟩
instance go_need_row [h : Hat H q (.tup (rowV r))] [h2 : Hat H l (.lst ys)] [t : TpA H ys (rowsV rs)] : Go (sp_need_row [.int (n : Nat), .ref q, .ref l] H Q E) (Sd (GoodR n r ∧ ∀ s ∈ rs, Apart s r) (∀ H', Same H H' → Q .non H')) := ⟨fun s => ⟨n, q, l, r, ys, rs, rfl, h.e, h2.e, t.e, s.1.1, s.1.2, s.2⟩⟩
instance go_need_rows [h2 : Hat H l (.lst ys)] [t : TpA H ys (rowsV rs)] : Go (sp_need_rows [.int (n : Nat), .ref l] H Q E) (Sd (Lay n rs) (∀ H', Same H H' → Q .non H')) := ⟨fun s => ⟨n, l, ys, rs, rfl, h2.e, t.e, s.1, s.2⟩⟩
instance nx_sameT {H0 : Hp} {M : List Addr} {L : List (Addr × HO)} {I : List Im} {xs : List V} {Z : Addr → Hp → Prop} [F : SH H0 M H L I] : Go (∀ p H', Same H H' → H' p = some (.tup xs) → Z p H') (∀ H' p, SH H0 M H' L (.tup p xs :: I) → Z p H') := ⟨fun k p H' s e => k H' p ((F.same s).addT e)⟩
theorem rows_take {i : Nat} (t : TupsAt H ys (rowsV rs)) : TupsAt H (ys.take i) (rowsV (rs.take i)) := by
  refine ⟨?_, fun j r e => ?_⟩
  · rw [rowsV_len, List.length_take, List.length_take, t.1, rowsV_len]
  · unfold rowsV at e
    rw [List.map_take, List.getElem?_take] at e
    split at e
    · rename_i hj
      obtain ⟨q, e1, e2⟩ := t.2 j r e
      exact ⟨q, by rw [List.getElem?_take, if_pos hj]; exact e1, e2⟩
    · cases e
theorem cut_take {i : Nat} : cutV ys none (some (i : Int)) = ys.take i := by
  unfold cutV
  rw [HT.sIx_nat]
  show (ys.drop 0).take (min i ys.length - 0) = _
  rw [List.drop_zero, Nat.sub_zero]
  by_cases h : i ≤ ys.length
  · rw [show min i ys.length = i by omega]
  · rw [List.take_of_length_le (by omega), List.take_of_length_le (by omega)]
end
section
variable {H : Hp} {l : Addr} {x y z v : V} {r : List V} {R : Hp → Prop}
instance go_set0 [h : Hat H l (.lst (x :: r))] : Go (rSetA (.ref l) (.int 0) v H R) (∀ H', Off l H H' → H' l = some (.lst (v :: r)) → R H') := ⟨fun k => w_setA h.e (j := 0) (by unfold ixN; rw [if_pos (by decide), if_pos (by simp only [List.length_cons]; omega)]; rfl) k⟩
def sp_takeK : Sp := fun vs H Q _ => ∃ (p : Addr) (a b c m : Int), vs = [.ref p, .int m] ∧ H p = some (.lst [.int a, .int b, .int c]) ∧ 0 < m ∧ m < 1073741824 ∧ ∀ (r a' b' c' : Int) (H' : Hp), 0 ≤ r → r < m → Kp p H H' → H' p = some (.lst [.int a', .int b', .int c']) → Q (.int r) H'
instance go_takeK {Q : VK} {E : XK} {p : Addr} {a b c m : Int} [h : Hat H p (.lst [.int a, .int b, .int c])] : Go (sp_takeK [.ref p, .int m] H Q E) (Sd (0 < m ∧ m < 1073741824) (∀ r a' b' c' : Int, 0 ≤ r → r < m → ∀ H', Kp p H H' → H' p = some (.lst [.int a', .int b', .int c']) → Q (.int r) H')) := ⟨fun s => ⟨p, a, b, c, m, rfl, h.e, s.1.1, s.1.2, fun r a' b' c' H' h0 h1 f e => s.2 r a' b' c' h0 h1 H' f e⟩⟩
instance go_set2 [h : Hat H l (.lst (x :: y :: z :: r))] : Go (rSetA (.ref l) (.int 2) v H R) (∀ H', Off l H H' → H' l = some (.lst (x :: y :: v :: r)) → R H') := ⟨fun k => w_setA h.e (j := 2) (by unfold ixN; rw [if_pos (by decide), if_pos (by simp only [List.length_cons]; omega)]; rfl) k⟩
end
section
variable {P : Program} {w : World} {K : PySem.W.Frag} {mg : Str → Option Value} {base : Heap} {c : Nat → Addr} {ct_Linit pt_Linit R CL : Addr}
theorem D_is_whole (T : Txt K mg c R CL ct_Linit pt_Linit) : Def P w K mg base CX0 1 "is_whole" ["thing"] (sp_whole K) := by
  refine def_of T.d_is_whole sc_is_whole (fun vs H Q E h => ?_) (fun _ _ _ _ _ _ us hl => match us, hl with | [_], _ => rfl) (fun f cdv A outer s H vs Q E hr h => ?_)
  · obtain ⟨x, n, rfl, _⟩ := h
    rfl
  · obtain ⟨x, n, rfl, ty, k⟩ := h
    have nd := sc_is_whole.nd
    refine ⟨_, (pss_one (ps_ret (pe_and (pe_callB call_isT rfl T.n_isinstance boot_isinstance (pa_cons (pv 0) (pa_cons (pe_ty (T := "int") rfl T.n_int boot_int) pa_nil))) (pe_one (pe_not (pe_callB call_isT rfl T.n_isinstance boot_isinstance (pa_cons (pv 0) (pa_cons (pe_ty (T := "bool") rfl T.n_bool boot_bool) pa_nil)))))))), ?_⟩
    clear nd 
    rw [show start ["thing"] [x] = [some (x)] from rfl]
    try dsimp only [cx_K, cx_K2]
    rw [isW_eq] at k
    repeat k_meth
    refine w_is ty (bt_int ty) ?_
    repeat k_meth
    refine i_b (fun h => ?_) (fun h => ?_)
    · repeat k_meth
      refine w_is ty (bt_bool ty) ?_
      repeat k_meth
      rw [h] at k
      exact k
    · rw [h] at k
      exact k
theorem D_is_from (T : Txt K mg c R CL ct_Linit pt_Linit) : Def P w K mg base CX0 2 "is_from" ["thing", "low"] (sp_is_from K) := by
  have D_is_whole := D_is_whole (P := P) (w := w) (base := base) T
  refine def_of T.d_is_from sc_is_from (fun vs H Q E h => ?_) (fun _ _ _ _ _ _ us hl => match us, hl with | [_, _], _ => rfl) (fun f cdv A outer s H vs Q E hr h => ?_)
  · obtain ⟨x, n, lo, rfl, _⟩ := h
    rfl
  · obtain ⟨x, n, lo, rfl, ty, k⟩ := h
    have nd := sc_is_from.nd
    refine ⟨_, (pss_one (ps_ret (pe_and (pe_def D_is_whole hr (pa_cons (pv 0) pa_nil)) (pe_one (pe_cmpR op_le (pv 1) (pv 0) (nomark _)))))), ?_⟩
    clear nd D_is_whole
    rw [show start ["thing", "low"] [x, .int lo] = [some (x), some (.int lo)] from rfl]
    try dsimp only [cx_K, cx_K2]
    repeat k_meth
    refine u_whole ty ?_
    repeat k_meth
    cases x with
    | int i =>
      refine i_T rfl ?_
      repeat k_meth
      exact k
    | _ => exact i_F rfl k
theorem D_is_within (T : Txt K mg c R CL ct_Linit pt_Linit) : Def P w K mg base CX0 2 "is_within" ["thing", "low", "high"] (sp_is_within K) := by
  have D_is_whole := D_is_whole (P := P) (w := w) (base := base) T
  refine def_of T.d_is_within sc_is_within (fun vs H Q E h => ?_) (fun _ _ _ _ _ _ us hl => match us, hl with | [_, _, _], _ => rfl) (fun f cdv A outer s H vs Q E hr h => ?_)
  · obtain ⟨x, n, lo, hi, rfl, _⟩ := h
    rfl
  · obtain ⟨x, n, lo, hi, rfl, ty, k⟩ := h
    have nd := sc_is_within.nd
    refine ⟨_, (pss_one (ps_ret (pe_and (pe_def D_is_whole hr (pa_cons (pv 0) pa_nil)) (pe_one (pe_chain op_le op_le (pv 1) (pv 0) (pv 2)))))), ?_⟩
    clear nd D_is_whole
    rw [show start ["thing", "low", "high"] [x, .int lo, .int hi] = [some (x), some (.int lo), some (.int hi)] from rfl]
    try dsimp only [cx_K, cx_K2]
    repeat k_meth
    refine u_whole ty ?_
    repeat k_meth
    cases x with
    | int i =>
      refine i_T rfl ?_
      repeat k_meth
      have k : Q (.bl (decide (lo ≤ i) && decide (i ≤ hi))) H := k
      refine i_dec (fun h => ?_) (fun h => ?_)
      · repeat k_meth
        rw [decide_eq_true h, Bool.true_and] at k
        exact k
      · rw [decide_eq_false h, Bool.false_and] at k
        exact k
    | _ => exact i_F rfl k
theorem D_is_many (T : Txt K mg c R CL ct_Linit pt_Linit) : Def P w K mg base CX0 3 "is_many" ["thing"] (sp_is_many K) := by
  have D_is_within := D_is_within (P := P) (w := w) (base := base) T
  refine def_of T.d_is_many sc_is_many (fun vs H Q E h => ?_) (fun _ _ _ _ _ _ us hl => match us, hl with | [_], _ => rfl) (fun f cdv A outer s H vs Q E hr h => ?_)
  · obtain ⟨x, n, rfl, _⟩ := h
    rfl
  · obtain ⟨x, n, rfl, ty, k⟩ := h
    have nd := sc_is_many.nd
    refine ⟨_, (pss_one (ps_ret (pe_def D_is_within hr (pa_cons (pv 0) (pa_cons (pe_gl T.g_FEWEST_CELLS) (pa_cons (pe_gl T.g_MOST_CELLS) pa_nil)))))), ?_⟩
    clear nd D_is_within
    rw [show start ["thing"] [x] = [some (x)] from rfl]
    try dsimp only [cx_K, cx_K2]
    repeat k_meth
    exact u_within ty k
theorem D_end_of (T : Txt K mg c R CL ct_Linit pt_Linit) : Def P w K mg base CX0 1 "end_of" ["stretch"] sp_end_of := by
  refine def_of T.d_end_of sc_end_of (fun vs H Q E h => ?_) (fun _ _ _ _ _ _ us hl => match us, hl with | [_], _ => rfl) (fun f cdv A outer s H vs Q E hr h => ?_)
  · obtain ⟨q, a, b, rfl, _⟩ := h
    rfl
  · obtain ⟨q, a, b, rfl, h, k⟩ := h
    have nd := sc_end_of.nd
    refine ⟨_, (pss_one (ps_ret (pe_op op_add (pe_ix ix_tup (pv 0) pe_int (fun _ _ => rfl)) (pe_ix ix_tup (pv 0) pe_int (fun _ _ => rfl))))), ?_⟩
    clear nd 
    rw [show start ["stretch"] [.ref q] = [some (.ref q)] from rfl]
    try dsimp only [cx_K, cx_K2]
    have iL_many : FldOk K CL "many" := ⟨T.clL, T.aL_many⟩
    have iL_rows : FldOk K CL "rows" := ⟨T.clL, T.aL_rows⟩
    have o_h := Old.mk (M := []) h nm0
    have F : SH H [] H [] [] := SH.nil
    repeat k_meth
    exact k
theorem D_cell_at (T : Txt K mg c R CL ct_Linit pt_Linit) : Def P w K mg base CX0 1 "_law_cell_at" ["_law_script", "_law_k"] (sp_cellA K) := by
  refine def_of T.d_cell_at sc_cell_at (fun vs H Q E h => ?_) (fun _ _ _ _ _ _ us hl => match us, hl with | [_, _], _ => rfl) (fun f cdv A outer s H vs Q E hr h => ?_)
  · obtain ⟨a, ns, m, rfl, _⟩ := h
    rfl
  · obtain ⟨a, ns, m, rfl, hS, m0, k⟩ := h
    have nd := sc_cell_at.nd
    refine ⟨_, (pss_cons (ps_if (pt_cmpR op_lt (pv 1) (pe_callB call_lenN rfl T.n_len boot_len (pa_cons (pv 0) pa_nil)) (nomark _)) (pss_one (ps_ret (pe_ix ix_list (pv 0) (pv 1) (fun _ _ => rfl)))) pss_nil)
      (pss_one (ps_ret (pe_op op_add (pe_op op_mul pe_int (pv 1)) pe_int)))), ?_⟩
    clear nd 
    rw [show start ["_law_script", "_law_k"] [.ref a, .int m] = [some (.ref a), some (.int m)] from rfl]
    try dsimp only [cx_K, cx_K2]
    have iL_many : FldOk K CL "many" := ⟨T.clL, T.aL_many⟩
    have iL_rows : FldOk K CL "rows" := ⟨T.clL, T.aL_rows⟩
    have o_hS := OldQ.mk (M := []) hS nm0
    have F : SH H [] H [] [] := SH.nil
    repeat k_meth
    refine i_dec (fun h => ?_) (fun h => ?_)
    · repeat k_meth
      obtain ⟨v, e, mm⟩ := atI_lt (xs := ns.map V.int) m0 h
      obtain ⟨c, _, rfl⟩ := List.mem_map.mp mm
      exact w_ixL hS e (k c)
    · repeat k_meth
      exact k _
theorem D_box (T : Txt K mg c R CL ct_Linit pt_Linit) : Def P w K mg base CX0 1 "_law_box" ["_law_cell"] sp_boxA := by
  refine def_of T.d_box sc_box (fun vs H Q E h => ?_) (fun _ _ _ _ _ _ us hl => match us, hl with | [_], _ => rfl) (fun f cdv A outer s H vs Q E hr h => ?_)
  · obtain ⟨c, rfl, _⟩ := h
    rfl
  · obtain ⟨c, rfl, k⟩ := h
    have nd := sc_box.nd
    refine ⟨_, (pss_one (ps_ret (pe_lstA (pa_cons (pe_op op_mul (pe_callB (call_maxN rfl) rfl T.n_max boot_max (pa_cons pe_int (pa_cons (pv 0) pa_nil))) (pe_callTy call_intN rfl T.n_int boot_int (pa_cons (pe_cmpR op_ge (pv 0) (pe_op op_pow pe_int pe_int) (nomark _)) pa_nil))) (pa_cons (pe_op op_mod (pv 0) pe_int) (pa_cons pe_int pa_nil)))))), ?_⟩
    clear nd 
    rw [show start ["_law_cell"] [.int c] = [some (.int c)] from rfl]
    try dsimp only [cx_K, cx_K2]
    have iL_many : FldOk K CL "many" := ⟨T.clL, T.aL_many⟩
    have iL_rows : FldOk K CL "rows" := ⟨T.clL, T.aL_rows⟩
    have F : SH H [] H [] [] := SH.nil
    repeat k_meth
    exact k _ _ _ _ SH.nwC
theorem D_take (T : Txt K mg c R CL ct_Linit pt_Linit) : Def P w K mg base CX0 1 "_law_take" ["_law_box_here", "_law_many_here"] sp_takeK := by
  refine def_of T.d_take sc_take (fun vs H Q E h => ?_) (fun _ _ _ _ _ _ us hl => match us, hl with | [_, _], _ => rfl) (fun f cdv A outer s H vs Q E hr h => ?_)
  · obtain ⟨p, a, b, c, m, rfl, _⟩ := h
    rfl
  · obtain ⟨p, a, b, c, m, rfl, hp, m0, m1, k⟩ := h
    have nd := sc_take.nd
    refine ⟨_, (pss_cons (ps_if (pt_cmpR op_gt (pe_ix ix_list (pv 0) pe_int (fun _ _ => rfl)) pe_int (nomark _)) (pss_cons (ps_set (i := 2) nd rfl (Or.inl rfl) (pe_op op_mod (pe_ix ix_list (pv 0) pe_int (fun _ _ => rfl)) (pv 1)))
        (pss_cons (ps_asg (pe_op op_fdiv (pe_ix ix_list (pv 0) pe_int (fun _ _ => rfl)) (pv 1)) (pg_sub (pv 0) pe_int set_listA))
        (pss_one (ps_ret (pv 2))))) pss_nil)
      (pss_cons (ps_asg (pe_op op_add (pe_ix ix_list (pv 0) pe_int (fun _ _ => rfl)) pe_int) (pg_sub (pv 0) pe_int set_listA))
      (pss_cons (ps_set (i := 3) nd rfl (Or.inl rfl) (pe_op op_mod (pe_op op_mul (pe_op op_add (pe_ix ix_list (pv 0) pe_int (fun _ _ => rfl)) (pe_op op_mul pe_int (pe_ix ix_list (pv 0) pe_int (fun _ _ => rfl)))) pe_int) pe_int))
      (pss_cons (ps_set (i := 3) nd rfl (Or.inl rfl) (pe_op op_mod (pe_op op_mul (pv 3) (pv 3)) pe_int))
      (pss_one (ps_ret (pe_op op_mod (pe_op op_fdiv (pe_op op_mod (pe_op op_mul (pe_op op_add (pv 3) (pe_ix ix_list (pv 0) pe_int (fun _ _ => rfl))) (pe_op op_add (pv 3) pe_int)) pe_int) pe_int) (pv 1)))))))), ?_⟩
    clear nd 
    rw [show start ["_law_box_here", "_law_many_here", "_law_digit", "_law_number"] [.ref p, .int m] = [some (.ref p), some (.int m), none, none] from rfl]
    try dsimp only [cx_K, cx_K2]
    have iL_many : FldOk K CL "many" := ⟨T.clL, T.aL_many⟩
    have iL_rows : FldOk K CL "rows" := ⟨T.clL, T.aL_rows⟩
    have F : SH H [p] H [(p, .lst [.int a, .int b, .int c])] [] := SH.nil.addM List.mem_cons_self hp rfl (by simp)
    repeat k_meth
    refine i_dec (fun h => ?_) (fun h => ?_)
    · repeat k_meth
      exact k _ _ _ _ _ (Int.emod_nonneg _ (by omega)) (Int.emod_lt_of_pos _ m0) F.kpo hatC
    · repeat k_meth
      exact k _ _ _ _ _ (Int.emod_nonneg _ (by omega)) (Int.emod_lt_of_pos _ m0) F.kpo hatC
theorem D_is_name (T : Txt K mg c R CL ct_Linit pt_Linit) : Def P w K mg base CX0 1 "is_name" ["thing"] sp_is_name := by
  refine def_of T.d_is_name sc_is_name (fun vs H Q E h => ?_) (fun _ _ _ _ _ _ us hl => match us, hl with | [_], _ => rfl) (fun f cdv A outer s H vs Q E hr h => ?_)
  · obtain ⟨cs, rfl, _⟩ := h
    rfl
  · obtain ⟨cs, rfl, ok, k⟩ := h
    have nd := sc_is_name.nd
    refine ⟨_, (pss_cons (ps_if (PW.pt (pw_or (pt_not (pt_val (pe_callB call_isT rfl T.n_isinstance boot_isinstance (pa_cons (pv 0) (pa_cons (pe_ty (T := "str") rfl T.n_str boot_str) pa_nil))))) (pw_or1 (pt_not (pt_chain op_le op_le pe_int (pe_callB call_lenN rfl T.n_len boot_len (pa_cons (pv 0) pa_nil)) (pe_gl T.g_MOST_SIGNS)))))) (pss_one (ps_ret pe_bl)) pss_nil)
      (pss_one (ps_ret (pe_and (pe_cmpR op_inS (pe_ix ix_str (pv 0) pe_int (fun _ _ => rfl)) (pe_gl T.g_LETTERS) (by with_unfolding_all rfl)) (pe_one (pe_callB (call_all rfl) rfl T.n_all boot_all (pa_cons (pe_comp (N := ["sign"]) (nt := 1) (fr := []) (pi_str (pv 0)) (fun _ _ _ _ => (pg_name (i := 0) (show (["sign"] : List Str).Nodup from by decide +kernel) rfl (Or.inl rfl))) (fun _ _ _ _ => pif_nil) (fun _ _ _ _ => (pe_cmpR op_inS (pv 0) (pe_gl T.g_NAME_SIGNS) (by with_unfolding_all rfl)))) pa_nil))))))), ?_⟩
    clear nd 
    rw [show start ["thing"] [.str (tx cs)] = [some (.str (tx cs))] from rfl]
    try dsimp only [cx_K, cx_K2]
    have iL_many : FldOk K CL "many" := ⟨T.clL, T.aL_many⟩
    have iL_rows : FldOk K CL "rows" := ⟨T.clL, T.aL_rows⟩
    have F : SH H [] H [] [] := SH.nil
    have h1 := ok.lo
    have h2 := ok.hi
    repeat k_meth
    intro c hc
    repeat k_meth
    rw [let_low, ok.hd c hc]
    repeat k_meth
    refine comp_S (F := fun c => V.bl true) (by omega) rfl (fun c H' R hm s kk => ?_) ?_
    · clear F
      have F : SH H' [] H' [] [] := SH.nil
      repeat k_meth
      rw [sgn_low, ok.all c hm]
      exact kk _ (Same.refl _)
    · have e : (cs.map fun _ => V.bl true) = (List.replicate cs.length true).map V.bl := by
        rw [List.map_replicate, List.map_const']
      rw [e]
      repeat k_meth
      rw [show (List.replicate cs.length true).all id = true by simp]
      exact k _ F.sm
theorem D_share (T : Txt K mg c R CL ct_Linit pt_Linit) : Def P w K mg base CX0 2 "share_cells" ["one", "other"] sp_share := by
  have D_end_of := D_end_of (P := P) (w := w) (base := base) T
  refine def_of T.d_share sc_share (fun vs H Q E h => ?_) (fun _ _ _ _ _ _ us hl => match us, hl with | [_, _], _ => rfl) (fun f cdv A outer s H vs Q E hr h => ?_)
  · obtain ⟨p, q, a, b, c, d, rfl, _⟩ := h
    rfl
  · obtain ⟨p, q, a, b, c, d, rfl, hp, hq, k⟩ := h
    have nd := sc_share.nd
    refine ⟨_, (pss_one (ps_ret (pe_and (pe_cmpR op_lt (pe_ix ix_tup (pv 0) pe_int (fun _ _ => rfl)) (pe_def D_end_of hr (pa_cons (pv 1) pa_nil)) (nomark _)) (pe_one (pe_cmpR op_lt (pe_ix ix_tup (pv 1) pe_int (fun _ _ => rfl)) (pe_def D_end_of hr (pa_cons (pv 0) pa_nil)) (nomark _)))))), ?_⟩
    clear nd D_end_of
    rw [show start ["one", "other"] [.ref p, .ref q] = [some (.ref p), some (.ref q)] from rfl]
    try dsimp only [cx_K, cx_K2]
    have iL_many : FldOk K CL "many" := ⟨T.clL, T.aL_many⟩
    have iL_rows : FldOk K CL "rows" := ⟨T.clL, T.aL_rows⟩
    have o_hp := Old.mk (M := []) hp nm0
    have o_hq := Old.mk (M := []) hq nm0
    have F : SH H [] H [] [] := SH.nil
    repeat k_meth
    refine i_dec (fun h => ?_) (fun h => ?_)
    · repeat k_meth
      rw [decide_eq_true h, Bool.true_and] at k
      exact k
    · rw [decide_eq_false h, Bool.false_and] at k
      exact k
theorem D_cells_of (T : Txt K mg c R CL ct_Linit pt_Linit) : Def P w K mg base CX0 1 "cells_of" ["row"] sp_cells := by
  refine def_of T.d_cells_of sc_cells_of (fun vs H Q E h => ?_) (fun _ _ _ _ _ _ us hl => match us, hl with | [_], _ => rfl) (fun f cdv A outer s H vs Q E hr h => ?_)
  · obtain ⟨q, r, rfl, _⟩ := h
    rfl
  · obtain ⟨q, r, rfl, hq, k⟩ := h
    have nd := sc_cells_of.nd
    refine ⟨_, (pss_one (ps_ret (pe_tupA (pa_cons (pe_ix ix_tup (pv 0) pe_int (fun _ _ => rfl)) (pa_cons (pe_ix ix_tup (pv 0) pe_int (fun _ _ => rfl)) pa_nil))))), ?_⟩
    clear nd 
    rw [show start ["row"] [.ref q] = [some (.ref q)] from rfl]
    try dsimp only [cx_K, cx_K2]
    have iL_many : FldOk K CL "many" := ⟨T.clL, T.aL_many⟩
    have iL_rows : FldOk K CL "rows" := ⟨T.clL, T.aL_rows⟩
    have o_hq := Old.mk (M := []) hq nm0
    have F : SH H [] H [] [] := SH.nil
    repeat k_meth
    exact k _ _ F.sm hatC
theorem D_is_row (T : Txt K mg c R CL ct_Linit pt_Linit) : Def P w K mg base CX0 3 "is_row" ["thing"] sp_is_row := by
  have D_is_name := D_is_name (P := P) (w := w) (base := base) T
  have D_is_from := D_is_from (P := P) (w := w) (base := base) T
  refine def_of T.d_is_row sc_is_row (fun vs H Q E h => ?_) (fun _ _ _ _ _ _ us hl => match us, hl with | [_], _ => rfl) (fun f cdv A outer s H vs Q E hr h => ?_)
  · obtain ⟨q, r, rfl, _⟩ := h
    rfl
  · obtain ⟨q, r, rfl, hq, ok, hz, k⟩ := h
    have nd := sc_is_row.nd
    refine ⟨_, (pss_cons (ps_if (PW.pt (pw_or (pt_not (pt_val (pe_callB call_isT rfl T.n_isinstance boot_isinstance (pa_cons (pv 0) (pa_cons (pe_ty (T := "tuple") rfl T.n_tuple boot_tuple) pa_nil))))) (pw_or1 (pt_cmpR op_ne (pe_callB call_lenN rfl T.n_len boot_len (pa_cons (pv 0) pa_nil)) pe_int (nomark _))))) (pss_one (ps_ret pe_bl)) pss_nil)
      (pss_one (ps_ret (pe_and (pe_def D_is_name hr (pa_cons (pe_ix ix_tup (pv 0) pe_int (fun _ _ => rfl)) pa_nil)) (pe_and (pe_def D_is_from hr (pa_cons (pe_ix ix_tup (pv 0) pe_int (fun _ _ => rfl)) (pa_cons pe_int pa_nil))) (pe_and (pe_def D_is_from hr (pa_cons (pe_ix ix_tup (pv 0) pe_int (fun _ _ => rfl)) (pa_cons pe_int pa_nil))) (pe_one (pe_def D_is_from hr (pa_cons (pe_ix ix_tup (pv 0) pe_int (fun _ _ => rfl)) (pa_cons pe_int pa_nil)))))))))), ?_⟩
    clear nd D_is_name D_is_from
    rw [show start ["thing"] [.ref q] = [some (.ref q)] from rfl]
    try dsimp only [cx_K, cx_K2]
    have iL_many : FldOk K CL "many" := ⟨T.clL, T.aL_many⟩
    have iL_rows : FldOk K CL "rows" := ⟨T.clL, T.aL_rows⟩
    have o_hq := Old.mk (M := []) hq nm0
    have F : SH H [] H [] [] := SH.nil
    have e4 : (((rowV r).length : Nat) : Int) = 4 := rfl
    repeat k_meth
    exact k _ F.sm
theorem D_need_row (T : Txt K mg c R CL ct_Linit pt_Linit) : Def P w K mg base CX0 4 "need_row" ["many", "row", "ahead"] sp_need_row := by
  have D_is_row := D_is_row (P := P) (w := w) (base := base) T
  have D_end_of := D_end_of (P := P) (w := w) (base := base) T
  have D_share := D_share (P := P) (w := w) (base := base) T
  have D_cells_of := D_cells_of (P := P) (w := w) (base := base) T
  refine def_of T.d_need_row sc_need_row (fun vs H Q E h => ?_) (fun _ _ _ _ _ _ us hl => match us, hl with | [_, _, _], _ => rfl) (fun f cdv A outer s H vs Q E hr h => ?_)
  · obtain ⟨n, q, l, r, ys, rs, rfl, _⟩ := h
    rfl
  · obtain ⟨n, q, l, r, ys, rs, rfl, hq, hl, tp, gd, ap, k⟩ := h
    have nd := sc_need_row.nd
    refine ⟨_, (pss_cons (ps_if (pt_not (pt_val (pe_def D_is_row hr (pa_cons (pv 1) pa_nil)))) pss_never pss_nil)
      (pss_cons (ps_if (pt_cmpR op_gt (pe_def D_end_of hr (pa_cons (pe_def D_cells_of hr (pa_cons (pv 1) pa_nil)) pa_nil)) (pv 0) (nomark _)) pss_never pss_nil)
      (pss_cons (ps_for PassesOwn.never rfl (pi_list (pv 2)) (pg_name (i := 3) nd rfl (Or.inl rfl)) (pss_one (ps_if (pt_cmpR op_eq (pe_ix ix_tup (pv 3) pe_int (fun _ _ => rfl)) (pe_ix ix_tup (pv 1) pe_int (fun _ _ => rfl)) (nomark _)) pss_never pss_nil)))
      (pss_one (ps_for PassesOwn.never rfl (pi_list (pv 2)) (pg_name (i := 3) nd rfl (Or.inl rfl)) (pss_one (ps_if (pt_val (pe_def D_share hr (pa_cons (pe_def D_cells_of hr (pa_cons (pv 1) pa_nil)) (pa_cons (pe_def D_cells_of hr (pa_cons (pv 3) pa_nil)) pa_nil)))) pss_never pss_nil))))))), ?_⟩
    clear nd D_is_row D_end_of D_share D_cells_of
    rw [show start ["many", "row", "ahead", "other"] [.int (n : Nat), .ref q, .ref l] = [some (.int (n : Nat)), some (.ref q), some (.ref l), none] from rfl]
    try dsimp only [cx_K, cx_K2]
    have iL_many : FldOk K CL "many" := ⟨T.clL, T.aL_many⟩
    have iL_rows : FldOk K CL "rows" := ⟨T.clL, T.aL_rows⟩
    have o_hq := Old.mk (M := []) hq nm0
    have o_hl := Old.mk (M := []) hl nm0
    have o_tp := OldP.mk tp
    have F : SH H [] H [] [] := SH.nil
    have ok : NameOk r.nm ∧ 1 ≤ r.sz := ⟨gd.nm, gd.sz⟩
    have le := gd.le
    repeat k_meth
    refine forL_by (xs := ys) (fun i σ' H' => ∃ o3 : Option V, σ' = [some (.int (n : Nat)), some (.ref q), some (.ref l), o3] ∧ SH H [] H' [] []) ⟨_, rfl, F.subC⟩ ?_ ?_ ?_
    · clear F
      rintro i σ' H' _ ⟨_, rfl, F⟩
      exact SqA.e
    · clear F
      rintro i v σ' H' hv ⟨_, rfl, F⟩
      obtain ⟨s, q1, e1, rfl, e2⟩ := rowsV_at tp hv
      have o_e2 := Old.mk (M := []) e2 nm0
      have ne : ¬ tx s.nm = tx r.nm := fun z => (ap s (List.mem_of_getElem? e1)).1 (tx_inj z)
      repeat k_meth
      exact ⟨_, rfl, F⟩
    · clear F
      rintro σ' H' ⟨_, rfl, F⟩
      repeat k_meth
      refine forL_by (xs := ys) (fun i σ' H' => ∃ o3 : Option V, σ' = [some (.int (n : Nat)), some (.ref q), some (.ref l), o3] ∧ SH H [] H' [] []) ⟨_, rfl, F.subC⟩ ?_ ?_ ?_
      · clear F
        rintro i σ' H' _ ⟨_, rfl, F⟩
        exact SqA.e
      · clear F
        rintro i v σ' H' hv ⟨_, rfl, F⟩
        obtain ⟨s, q1, e1, rfl, e2⟩ := rowsV_at tp hv
        have o_e2 := Old.mk (M := []) e2 nm0
        have ne := (ap s (List.mem_of_getElem? e1)).2
        repeat k_meth
        have e5 : (decide (((r.st : Nat) : Int) < ((s.st : Nat) : Int) + ((s.sz : Nat) : Int)) && decide (((s.st : Nat) : Int) < ((r.st : Nat) : Int) + ((r.sz : Nat) : Int))) = false := by
          rcases ne with ne | ne
          · rw [decide_eq_false (by omega), Bool.false_and]
          · rw [decide_eq_false (show ¬ ((s.st : Nat) : Int) < ((r.st : Nat) : Int) + ((r.sz : Nat) : Int) by omega), Bool.and_false]
        rw [e5]
        repeat k_meth
        exact ⟨_, rfl, F.subC⟩
      · clear F
        rintro σ' H' ⟨_, rfl, F⟩
        repeat k_meth
        exact k _ F.sm
theorem D_need_rows (T : Txt K mg c R CL ct_Linit pt_Linit) : Def P w K mg base CX0 5 "need_rows" ["many", "rows"] sp_need_rows := by
  have D_need_row := D_need_row (P := P) (w := w) (base := base) T
  refine def_of T.d_need_rows sc_need_rows (fun vs H Q E h => ?_) (fun _ _ _ _ _ _ us hl => match us, hl with | [_, _], _ => rfl) (fun f cdv A outer s H vs Q E hr h => ?_)
  · obtain ⟨n, l, ys, rs, rfl, _⟩ := h
    rfl
  · obtain ⟨n, l, ys, rs, rfl, hl, tp, ly, k⟩ := h
    have nd := sc_need_rows.nd
    refine ⟨_, (pss_cons (ps_if (pt_not (pt_val (pe_callB call_isT rfl T.n_isinstance boot_isinstance (pa_cons (pv 1) (pa_cons (pe_ty (T := "list") rfl T.n_list boot_list) pa_nil))))) pss_never pss_nil)
      (pss_cons (ps_if (pt_cmpR op_gt (pe_callB call_lenN rfl T.n_len boot_len (pa_cons (pv 1) pa_nil)) (pe_gl T.g_MOST_BLOCKS) (nomark _)) pss_never pss_nil)
      (pss_one (ps_for PassesOwn.never rfl (pi_range1 rfl T.n_range (pa_cons (pe_callB call_lenN rfl T.n_len boot_len (pa_cons (pv 1) pa_nil)) pa_nil)) (pg_name (i := 2) nd rfl (Or.inl rfl)) (pss_one (ps_expr (pe_def D_need_row hr (pa_cons (pv 0) (pa_cons (pe_ix ix_list (pv 1) (pv 2) (fun _ _ => rfl)) (pa_cons (pe_slice sl_listA (pv 1) po_none (po_some (pv 2))) pa_nil)))))))))), ?_⟩
    clear nd D_need_row
    rw [show start ["many", "rows", "at"] [.int (n : Nat), .ref l] = [some (.int (n : Nat)), some (.ref l), none] from rfl]
    try dsimp only [cx_K, cx_K2]
    have iL_many : FldOk K CL "many" := ⟨T.clL, T.aL_many⟩
    have iL_rows : FldOk K CL "rows" := ⟨T.clL, T.aL_rows⟩
    have o_hl := Old.mk (M := []) hl nm0
    have o_tp := OldP.mk tp
    have F : SH H [] H [] [] := SH.nil
    have few := ly.few
    have yl : ys.length = rs.length := by rw [tp.1, rowsV_len]
    repeat k_meth
    rw [show ((ys.length : Nat) : Int).toNat = ys.length by omega]
    refine forR0_by (fun i σ' H' => ∃ o2 : Option V, σ' = [some (.int (n : Nat)), some (.ref l), o2] ∧ SH H [] H' [] []) ⟨_, rfl, F⟩ ?_ ?_
    · clear F
      rintro i σ' H' hi ⟨_, rfl, F⟩
      obtain ⟨s, q1, e1, e0, e2⟩ := rowsV_at tp (i := i) (v := ys[i]) (by simp)
      have o_e2 := Old.mk (M := []) e2 nm0
      have a1 : AtI ys (i : Int) (.ref q1) := ⟨atI_nat (by rw [← e0]; simp)⟩
      have gd := ly.good s (List.mem_of_getElem? e1)
      have ap : ∀ t ∈ rs.take i, Apart t s := fun t ht => by
        have h1 := ly.ap
        obtain ⟨hi2, rfl⟩ := List.getElem?_eq_some_iff.mp e1
        obtain ⟨j, hj, rfl⟩ := List.getElem_of_mem ht
        rw [List.length_take] at hj
        rw [List.getElem_take]
        exact List.pairwise_iff_getElem.mp h1 j i (by omega) hi2 (by omega)
      have side := And.intro gd ap
      repeat k_meth
      rw [cut_take] at F
      have tp2 : TpA H_ (ys.take i) (rowsV (rs.take i)) := ⟨(rows_take tp).same F.sm⟩
      repeat k_meth
      exact ⟨_, rfl, F.subC⟩
    · clear F
      rintro σ' H' ⟨_, rfl, F⟩
      repeat k_meth
      exact k _ F.sm
end
end K72
namespace K72
open PySem L2 PyProof.Rows
local macro_rules | `(tactic| k_room) => `(tactic| first
  | with_reducible assumption
  | with_unfolding_all exact rfl
  | with_unfolding_all exact Nat.le_of_ble_eq_true rfl
  | omega
  | (with_reducible refine small_line ?_; first | omega | (simp only [List.length_cons, List.length_nil, List.length_map, List.length_append, List.length_replicate, rowsN_len, List.length_take, List.length_drop, List.length_set]; omega))
  | (with_reducible refine small_lt ?_; first | omega | (simp only [List.length_cons, List.length_nil, List.length_map, List.length_append, List.length_replicate, rowsN_len, List.length_take, List.length_drop, List.length_set]; omega))
  | (simp only [List.length_cons, List.length_nil, List.length_map, List.length_append, List.length_replicate, rowsN_len, List.length_take, List.length_drop, List.length_set]; omega)
  | decide)
local macro_rules | `(tactic| k_mem) => `(tactic| first
  | with_reducible assumption
  | decide
  | omega
  | (simp only [List.length_cons, List.length_nil, List.length_map, List.length_append, List.length_replicate, rowsN_len, List.length_take, List.length_drop, List.length_set]; omega))
set_option hygiene false in
local macro_rules | `(tactic| k_meth) => `(tactic| first
  | with_reducible refine go1 ?_
  | (intro H_ a_ dx_ (F_ : SH _ _ _ _ _) (ex_ : ExcT _ _ _ _); clear F; (have F := F_); clear F_; have exA_ := ExA.mk ex_)
  | (intro H_ (F_ : SH _ _ _ _ _); clear F; (have F := F_); clear F_)
  | (intro H_ p_ (F_ : SH _ _ _ _ _); clear F; (have F := F_); clear F_)
  | (intro H_ x_ dx_ (F_ : SH _ _ _ _ _); clear F; (have F := F_); clear F_)
  | (intro H_ p_ ys_ l_ (F_ : SH _ _ _ _ _); clear F; (have F := F_); clear F_)
  | with_reducible refine sd (by k_room) ?_
  | (intro (r_ : Int) (x_ : Int) (y_ : Int) (z_ : Int) lo_ hi_)
  | (intro (x_ : Int) (y_ : Int))
  | (intro (c_ : Int))
  | with_reducible refine i_pos (by k_mem) ?_
  | with_reducible refine i_neg (by k_mem) ?_
  | with_reducible refine i_npos (by k_mem) ?_
  | with_reducible refine i_nneg (by k_mem) ?_)
def lF (n : Int) (p : Addr) : List (Str × V) := putF "rows" (.ref p) (putF "many" (.int n) [])
theorem lF_many {n : Int} {p : Addr} : (lF n p).lookup ("many" : Str) = some (.int n) := by unfold lF; rw [lookup_putF, if_neg (by decide), lookup_putF, if_pos rfl]
theorem lF_rows {n : Int} {p : Addr} : (lF n p).lookup ("rows" : Str) = some (.ref p) := by unfold lF; rw [lookup_putF, if_pos rfl]
theorem lF_none {n : Int} {p : Addr} {m : Str} (h1 : m ≠ "rows") (h2 : m ≠ "many") : (lF n p).lookup m = none := by unfold lF; rw [lookup_putF, if_neg h1, lookup_putF, if_neg h2]; rfl
class LayA (n : Nat) (rs : List Rw) (as : outParam (List Rw)) : Prop where
  p : rs.Perm as
  l : Lay n as
  a : Asc as
def sp_Linit (CL P : Addr) (pos : Pos) (qual : Str) : Sp := fun vs H Q _ => ∃ (x dx l : Addr) (n : Nat) (ys : List V) (rs as : List Rw) (ps : Array Value), vs = [.ref x, .int (n : Nat), .ref l] ∧ H x = some (.ins CL dx []) ∧ H l = some (.lst ys) ∧ TupsAt H ys (rowsV rs) ∧ LayA n rs as ∧ 16 ≤ n ∧ n ≤ 240 ∧ H P = some (.tbl ps) ∧ TabOk pos qual ps H ∧
  ∀ (p : Addr) (zs : List V) (ps' : Array Value) (H' : Hp), (∀ b u, b ≠ x → b ≠ P → H b = some u → H' b = some u) → H' x = some (.ins CL dx (lF n p)) → H' p = some (.lst zs) → TupsAt H' zs (rowsV as) → (∀ b u, H b = some u → b ≠ p) → H' P = some (.tbl ps') → TabOk pos qual ps' H' → Q .non H'
def sp_Lblocks (CL : Addr) : Sp := fun vs H Q _ => ∃ (x p dx : Addr) (n : Nat) (zs : List V), vs = [.ref x] ∧ H x = some (.ins CL dx (lF (n : Nat) p)) ∧ H p = some (.lst zs) ∧ ∀ q H', New H H' q (.lst zs) → Q (.ref q) H'
section
variable {CL P x dx l p : Addr} {pos : Pos} {qual : Str} {H H0 : Hp} {M : List Addr} {L : List (Addr × HO)} {I : List Im} {Q : VK} {E : XK} {n : Nat} {m : Int} {ys zs : List V} {rs as : List Rw} {ps : Array Value}
instance ll_many : FLk (lF m p) "many" (.int m) := ⟨lF_many⟩
instance ll_rows : FLk (lF m p) "rows" (.ref p) := ⟨lF_rows⟩
instance ln_blocks : FNo (lF m p) "blocks" := ⟨lF_none (by decide) (by decide)⟩
instance go_Lblocks [h : Hat H x (.ins CL dx (lF (n : Nat) p))] [h2 : Hat H p (.lst zs)] : Go (sp_Lblocks CL [.ref x] H Q E) (∀ q H', New H H' q (.lst zs) → Q (.ref q) H') := ⟨fun k => ⟨x, p, dx, n, zs, rfl, h.e, h2.e, k⟩⟩
instance go_Linit [h : Hat H x (.ins CL dx [])] [h2 : Hat H l (.lst ys)] [t : TpA H ys (rowsV rs)] [e : Hat H P (.tbl ps)] [F : SH H0 M H L I] [tb : TabA I pos qual ps] [la : LayA n rs as] : Go (sp_Linit CL P pos qual [.ref x, .int (n : Nat), .ref l] H Q E)
    (Sd (16 ≤ n ∧ n ≤ 240) (∀ (ps' : Array Value) (H1 : Hp), Kp P H H1 → H1 P = some (.tbl ps') → TabOk pos qual ps' H1 → ∀ (p : Addr) (zs : List V) (H2 : Hp), New H1 H2 p (.lst zs) → TupsAt H2 zs (rowsV as) → ∀ H3, Off x H2 H3 → H3 x = some (.ins CL dx (lF n p)) → Q .non H3)) := by
  refine ⟨fun s => ⟨x, dx, l, n, ys, rs, as, ps, rfl, h.e, h2.e, t.e, la, s.1.1, s.1.2, e.e, F.im _ tb.m, fun p zs ps' H' keep ex ep tz fr eP tk => ?_⟩⟩
  have hx := h.e
  have hP := e.e
  have nxp : x ≠ p := fr x _ hx
  have nPp : P ≠ p := fr P _ hP
  have nPx : P ≠ x := fun z => by rw [z, hx] at hP; cases hP
  let H2 : Hp := fun b => if b = x then H x else H' b
  let H1 : Hp := fun b => if b = p then none else H2 b
  have h2x : H2 x = H x := if_pos rfl
  have h2n : ∀ {b : Addr}, b ≠ x → H2 b = H' b := fun n => if_neg n
  have h1n : ∀ {b : Addr}, b ≠ p → H1 b = H2 b := fun n => if_neg n
  refine s.2 ps' H1 (fun b u nb eb => ?_) ?_ ?_ p zs H2 ⟨fun b u eb => ?_, ?_, fun b u eb z => ?_⟩ ?_ H' (fun b nb => (h2n nb).symm) ex
  · have n1 : b ≠ p := fr b u eb
    rw [h1n n1]
    by_cases hb : b = x
    · rw [hb, h2x, ← hb]
      exact eb
    · rw [h2n hb]
      exact keep b u hb nb eb
  · rw [h1n nPp, h2n nPx]
    exact eP
  · rcases tk with tk | ⟨c', oc, vs, t', e1, e2, e3⟩
    · exact .inl tk
    · refine .inr ⟨c', oc, vs, t', e1, ?_, e3⟩
      have n1 : c' ≠ p := fun z => by rw [z, ep] at e2; cases e2
      have n2 : c' ≠ x := fun z => by rw [z, ex] at e2; cases e2
      rw [h1n n1, h2n n2]
      exact e2
  · by_cases hb : b = p
    · have : H1 b = none := if_pos hb
      rw [this] at eb
      cases eb
    · rw [h1n hb] at eb
      exact eb
  · rw [h2n (Ne.symm nxp)]
    exact ep
  · have : H1 b = none := if_pos z
    rw [this] at eb
    cases eb
  · refine ⟨tz.1, fun j r ej => ?_⟩
    obtain ⟨q, e1, e2⟩ := tz.2 j r ej
    refine ⟨q, e1, ?_⟩
    rw [h2n (fun z => by rw [z, ex] at e2; cases e2)]
    exact e2
end
abbrev lamPos : Pos := ⟨100, 37, 100, 55⟩
abbrev lamQual : Str := "Layout.__init__.<locals>.<lambda>"
section
variable {P : Program} {w : World} {K : PySem.W.Frag} {mg : Str → Option Value} {base : Heap} {c : Nat → Addr} {ct_Linit pt_Linit R CL : Addr}
theorem MK_Linit (T : Txt K mg c R CL ct_Linit pt_Linit) (B : Bm mg base) : Mak P w K mg base CX0 6 "Layout" CL ["self", "many", "rows"] (sp_Linit CL pt_Linit lamPos lamQual) := by
  have D_need_rows := D_need_rows (P := P) (w := w) (base := base) T
  have D_is_many := D_is_many (P := P) (w := w) (base := base) T
  obtain ⟨f, hf, hm⟩ := T.f_Linit
  refine (fn_tellsC (k := 5) hf sc_Linit (fun vs H Q E h => ?_) (fun _ _ _ _ _ _ us hl => match us, hl with | [_, _, _], _ => rfl) (fun f A outer s H vs Q E hr h => ?_)).mak hm T.gc_Layout
  · obtain ⟨x, dx, l, n, ys, rs, as, ps, rfl, _⟩ := h
    rfl
  · obtain ⟨x, dx, l, n, ys, rs, as, ps, rfl, hx, hl, tp, la, h16, h240, hP, tk, k⟩ := h
    have nd := sc_Linit.nd
    refine ⟨_, (pss_cons (ps_if (pt_not (pt_val (pe_def D_is_many hr (pa_cons (pv 1) pa_nil)))) pss_never pss_nil)
      (pss_cons (ps_expr (pe_def D_need_rows hr (pa_cons (pv 1) (pa_cons (pv 2) pa_nil))))
      (pss_cons (ps_fld (pv 0) (pv 1) rfl)
      (pss_one (ps_fld (pv 0) (pe_ckw (call_sortK rfl hr) rfl T.n_sorted boot_sorted (pa_cons (pv 2) pa_nil) (pe_lam (qual := lamQual) B rfl T.tab_Linit (by with_unfolding_all rfl) ⟨rfl, rfl, rfl, by with_unfolding_all rfl, by decide +kernel, by decide⟩)) rfl))))), ?_⟩
    clear nd D_need_rows D_is_many
    rw [show start ["self", "many", "rows"] [.ref x, .int (n : Nat), .ref l] = [some (.ref x), some (.int (n : Nat)), some (.ref l)] from rfl]
    try dsimp only [cx_K, cx_K2]
    have iL_many : FldOk K CL "many" := ⟨T.clL, T.aL_many⟩
    have iL_rows : FldOk K CL "rows" := ⟨T.clL, T.aL_rows⟩
    have nxP : x ≠ pt_Linit := fun z => by rw [z, hP] at hx; cases hx
    have nlx : l ≠ x := fun z => by rw [z, hx] at hl; cases hl
    have nlP : l ≠ pt_Linit := fun z => by rw [z, hP] at hl; cases hl
    have nm2 : ∀ {b : Addr}, b ≠ x → b ≠ pt_Linit → b ∉ [x, pt_Linit] := fun a b z => by
      rcases List.mem_cons.mp z with z | z
      · exact a z
      · exact b (List.mem_singleton.mp z)
    have F : SH H [x, pt_Linit] H [(x, .ins CL dx []), (pt_Linit, .tbl ps)] [.tps ys (rowsV rs), TabI lamPos lamQual ps] := (((SH.nil.addM (List.mem_cons_of_mem _ List.mem_cons_self) hP rfl (by simp)).addM List.mem_cons_self hx rfl (by simp [Ne.symm nxP])).addF tk).addP tp
    have o_hl := Old.mk (M := [x, pt_Linit]) hl (nm2 nlx nlP)
    have ly := la.l.perm la.p.symm
    have few := ly.few
    have e1 : (decide (16 ≤ (n : Int)) && decide ((n : Int) ≤ 240)) = true := by rw [decide_eq_true (by omega), decide_eq_true (by omega)]; rfl
    repeat k_meth
    rw [e1]
    repeat k_meth
    intro f_ ps_
    repeat k_meth
    intro D zs H8 n8 so
    have t8 := sort_rows (H := H_) TpA.e la.p (la.a.lt la.l.good) so
    replace F := F.newR n8 (t8.same n8.s)
    repeat k_meth
    exact k D zs ps_ _ (fun b u n1 n2 e => F.fr b u (nm2 n1 n2) e) hatC hatC TpA.e (F.fresh (LkL.m (o := .lst zs)) (nm2 (SH.neC (F := F)) (SH.neC (F := F)))) hatC SH.tab
theorem MT_Lblocks (T : Txt K mg c R CL ct_Linit pt_Linit) : Met P w K mg base CX0 1 CL "blocks" ["self"] (sp_Lblocks CL) := by
  obtain ⟨f, hf, hm⟩ := T.f_Lblocks
  refine (fn_tells (k := 0) hf sc_Lblocks (fun vs H Q E h => ?_) (fun _ _ _ _ _ _ us hl => match us, hl with | [_], _ => rfl) (fun f cdv A outer s H vs Q E hr h => ?_)).met hm
  · obtain ⟨x, p, dx, n, zs, rfl, _⟩ := h
    rfl
  · obtain ⟨x, p, dx, n, zs, rfl, hx, hp, k⟩ := h
    have nd := sc_Lblocks.nd
    refine ⟨_, (pss_one (ps_ret (pe_callTy call_list_ofA rfl T.n_list boot_list (pa_cons (pe_fld (pv 0) rfl) pa_nil)))), ?_⟩
    clear nd 
    rw [show start ["self"] [.ref x] = [some (.ref x)] from rfl]
    try dsimp only [cx_K, cx_K2]
    have iL_many : FldOk K CL "many" := ⟨T.clL, T.aL_many⟩
    have iL_rows : FldOk K CL "rows" := ⟨T.clL, T.aL_rows⟩
    have o_hx := Old.mk (M := []) hx nm0
    have o_hp := Old.mk (M := []) hp nm0
    have F : SH H [] H [] [] := SH.nil
    repeat k_meth
    exact k _ _ SH.nwC
end
def sp_lmany : Sp := fun vs H Q _ => ∃ (bx : Addr) (x y z : Int), vs = [.ref bx] ∧ H bx = some (.lst [.int x, .int y, .int z]) ∧ ∀ (n : Nat) (x' y' z' : Int) (H' : Hp), 16 ≤ n → n ≤ 240 → Kp bx H H' → H' bx = some (.lst [.int x', .int y', .int z']) → Q (.int (n : Nat)) H'
def sp_names : Sp := fun vs H Q _ => ∃ (bx : Addr) (x y z : Int) (m : Nat), vs = [.ref bx, .int (m : Nat)] ∧ H bx = some (.lst [.int x, .int y, .int z]) ∧ m ≤ 40 ∧ ∀ (x' y' z' : Int) (nms : List (List Nat)) (p : Addr) (H' : Hp), nms.length = m → (∀ cs ∈ nms, NameOk cs) → nms.Nodup → Kp bx H H' → H' bx = some (.lst [.int x', .int y', .int z']) → H' p = some (.lst (nms.map fun cs => .str (tx cs))) → (∀ b u, H b = some u → b ≠ p) → Q (.ref p) H'
def sp_lrows : Sp := fun vs H Q _ => ∃ (bx : Addr) (x y z : Int) (n : Nat), vs = [.ref bx, .int (n : Nat)] ∧ H bx = some (.lst [.int x, .int y, .int z]) ∧ 16 ≤ n ∧ n ≤ 240 ∧ ∀ (x' y' z' : Int) (rs : List Rw) (p : Addr) (ys : List V) (H' : Hp), Lay n rs → Asc rs → Kp bx H H' → H' bx = some (.lst [.int x', .int y', .int z']) → H' p = some (.lst ys) → TupsAt H' ys (rowsV rs) → (∀ b u, H b = some u → b ≠ p) → Q (.ref p) H'
def sp_mixed : Sp := fun vs H Q _ => ∃ (bx l : Addr) (x y z : Int) (ys : List V) (rs : List Rw), vs = [.ref bx, .ref l] ∧ H bx = some (.lst [.int x, .int y, .int z]) ∧ H l = some (.lst ys) ∧ TupsAt H ys (rowsV rs) ∧ rs.length ≤ 1000 ∧ bx ≠ l ∧ ∀ (x' y' z' : Int) (qs : List Rw) (p : Addr) (zs : List V) (H' : Hp), qs.Perm rs → Kp bx H H' → H' bx = some (.lst [.int x', .int y', .int z']) → H' p = some (.lst zs) → TupsAt H' zs (rowsV qs) → (∀ b u, H b = some u → b ≠ p) → Q (.ref p) H'
theorem two_steps {H H' : Hp} {bx p : Addr} {b3 o : HO} {R : Hp → Prop} (hb : ∃ u, H bx = some u) (kp : Kp bx H H') (eb : H' bx = some b3) (ep : H' p = some o) (fr : ∀ b u, H b = some u → b ≠ p) (k : ∀ H1, Kp bx H H1 → H1 bx = some b3 → New H1 H' p o → R H') : R H' := by
  obtain ⟨u0, hb⟩ := hb
  have nb : bx ≠ p := fr bx _ hb
  have h1 : ∀ {b : Addr}, b ≠ p → (fun b => if b = p then none else H' b : Hp) b = H' b := fun n => if_neg n
  refine k (fun b => if b = p then none else H' b) (fun b u n e => ?_) ?_ ⟨fun b u e => ?_, ep, fun b u e z => ?_⟩
  · rw [h1 (fr b u e)]
    exact kp b u n e
  · exact (h1 nb).trans eb
  · have e : (if b = p then none else H' b) = some u := e
    split at e
    · cases e
    · exact e
  · have e : (if b = p then none else H' b) = some u := e
    rw [if_pos z] at e
    cases e
section
variable {bx l : Addr} {x y z : Int} {H : Hp} {Q : VK} {E : XK} {n m : Nat} {ys : List V} {rs : List Rw}
instance go_lmany [h : Hat H bx (.lst [.int x, .int y, .int z])] : Go (sp_lmany [.ref bx] H Q E) (∀ (x' y' z' : Int) (n : Nat), 16 ≤ n → n ≤ 240 → ∀ H', Kp bx H H' → H' bx = some (.lst [.int x', .int y', .int z']) → Q (.int (n : Nat)) H') := ⟨fun k => ⟨bx, x, y, z, rfl, h.e, fun n x' y' z' H' h1 h2 f e => k x' y' z' n h1 h2 H' f e⟩⟩
instance go_names [h : Hat H bx (.lst [.int x, .int y, .int z])] : Go (sp_names [.ref bx, .int (m : Nat)] H Q E) (Sd (m ≤ 40) (∀ (x' y' z' : Int) (nms : List (List Nat)), nms.length = m → (∀ cs ∈ nms, NameOk cs) → nms.Nodup → ∀ H1, Kp bx H H1 → H1 bx = some (.lst [.int x', .int y', .int z']) → ∀ p H2, New H1 H2 p (.lst (nms.map fun cs => .str (tx cs))) → Q (.ref p) H2)) :=
  ⟨fun s => ⟨bx, x, y, z, m, rfl, h.e, s.1, fun x' y' z' nms p H' h1 h2 h3 f e e2 fr => two_steps (R := fun H' => Q (.ref p) H') ⟨_, h.e⟩ f e e2 fr fun H1 f1 e1 n1 => s.2 x' y' z' nms h1 h2 h3 H1 f1 e1 p H' n1⟩⟩
instance go_lrows [h : Hat H bx (.lst [.int x, .int y, .int z])] : Go (sp_lrows [.ref bx, .int (n : Nat)] H Q E) (Sd (16 ≤ n ∧ n ≤ 240) (∀ (x' y' z' : Int) (rs : List Rw), Lay n rs → Asc rs → ∀ H1, Kp bx H H1 → H1 bx = some (.lst [.int x', .int y', .int z']) → ∀ p ys H2, New H1 H2 p (.lst ys) → TupsAt H2 ys (rowsV rs) → Q (.ref p) H2)) :=
  ⟨fun s => ⟨bx, x, y, z, n, rfl, h.e, s.1.1, s.1.2, fun x' y' z' rs p ys H' h1 h2 f e e2 t fr => two_steps (R := fun H' => Q (.ref p) H') ⟨_, h.e⟩ f e e2 fr fun H1 f1 e1 n1 => s.2 x' y' z' rs h1 h2 H1 f1 e1 p ys H' n1 t⟩⟩
instance go_mixed {H0 : Hp} {M : List Addr} {L : List (Addr × HO)} {I : List Im} [h : Hat H bx (.lst [.int x, .int y, .int z])] [h2 : Hat H l (.lst ys)] [t : TpA H ys (rowsV rs)] [F : SH H0 M H L I] [ne : LkNe L bx l] : Go (sp_mixed [.ref bx, .ref l] H Q E) (Sd (rs.length ≤ 1000) (∀ (x' y' z' : Int) (qs : List Rw), qs.Perm rs → ∀ H1, Kp bx H H1 → H1 bx = some (.lst [.int x', .int y', .int z']) → ∀ p zs H2, New H1 H2 p (.lst zs) → TupsAt H2 zs (rowsV qs) → Q (.ref p) H2)) :=
  ⟨fun s => ⟨bx, l, x, y, z, ys, rs, rfl, h.e, h2.e, t.e, s.1, ne.ne F.nd, fun x' y' z' qs p zs H' h1 f e e2 t fr => two_steps (R := fun H' => Q (.ref p) H') ⟨_, h.e⟩ f e e2 fr fun H1 f1 e1 n1 => s.2 x' y' z' qs h1 H1 f1 e1 p zs H' n1 t⟩⟩
end
def letter (s : Nat) : Nat := 97 + s % 26
theorem letter_at {s : Int} {c : Nat} (h0 : 0 ≤ s) (h : (List.range' 97 26)[(s % 26).toNat]? = some c) : c = letter s.toNat := by
  have h1 : (s % 26).toNat < 26 := by omega
  rw [List.getElem?_eq_getElem (by simpa using h1), List.getElem_range'] at h
  have := Option.some.inj h
  unfold letter
  omega
theorem letter_low (s : Nat) : isLow (letter s) = true := by
  unfold isLow letter
  rw [decide_eq_true (by omega), decide_eq_true (by omega)]
  rfl
def nameA (s : Nat) (tl : List Nat) (k : Nat) : List Nat := [letter (s + k / 8)] ++ tl.take (k % 8)
theorem nodup_of {nms : List (List Nat)} (h : ∀ (i j : Nat) a b, i < j → nms[i]? = some a → nms[j]? = some b → a ≠ b) : nms.Nodup := by
  rw [List.Nodup, List.pairwise_iff_getElem]
  intro i j hi hj hij
  exact h i j _ _ hij (by simp) (by simp)
theorem join_one : ∀ cs : List Nat, Str.join (Str.ofString "") (cs.map fun c => tx [c]) = tx cs := by
  have e0 : Str.ofString "" = tx [] := by decide +kernel
  rw [e0]
  intro cs
  induction cs with
  | nil => rfl
  | cons c t ih =>
    cases t with
    | nil => rfl
    | cons d u =>
      show tx [c] ++ tx [] ++ Str.join (tx []) ((d :: u).map fun c => tx [c]) = _
      rw [ih, append_tx, append_tx]
      rfl
instance go_join {K : PySem.W.Frag} {H : Hp} {Q : VK} {p : Addr} {cs : List Nat} [h : SqA K H p (cs.map fun c => V.str (tx [c]))] : Go (rJoin K (.str (Str.ofString "")) [.ref p] H Q) (Sd (cs.length ≤ 1000) (Q (.str (tx cs)) H)) := ⟨fun s => ⟨_, p, cs.map fun c => tx [c], rfl, rfl, by rw [List.map_map]; exact h.e, by decide, by
  rw [List.map_map, List.length_map]
  have : (cs.map ((fun t : Str => t.length) ∘ fun c => tx [c])) = cs.map fun _ => 1 := rfl
  rw [this, List.map_const']
  have hs : (List.replicate cs.length 1).sum = cs.length := by simp
  have := s.1
  omega, by rw [join_one]; exact s.2⟩⟩
instance go_tyS {K : PySem.W.Frag} {H : Hp} {z : Str} {R : Prop} : Go (tyV K "str" (.str z) H ∧ R) R := ⟨fun k => ⟨by first | exact .inr (.inr rfl) | exact .inr rfl | exact ⟨_, rfl⟩ | trivial, k⟩⟩
structure TailOk7 (tl : List Nat) : Prop where
  len : tl.length = 7
  hd : ∀ c, tl[0]? = some c → c ∈ [97, 98, 122]
  all : ∀ c ∈ tl, c ∈ [97, 98, 122, 48, 49, 57, 113]
theorem TailOk7.sgn {tl : List Nat} (h : TailOk7 tl) : ∀ c ∈ tl, (isLow c || isFig c) = true := fun c hc => by
  have := h.all c hc
  simp only [List.mem_cons, List.not_mem_nil, or_false] at this
  rcases this with rfl | rfl | rfl | rfl | rfl | rfl | rfl <;> rfl
def nameC (s : Nat) (tl : List Nat) (k r : Nat) : List Nat := ([letter (s + 5 * k)] ++ List.replicate (k / 26) 48) ++ tl.take r
theorem nameA_ok7 {s k : Nat} {tl : List Nat} (h : TailOk7 tl) : NameOk (nameA s tl k) := by
  refine ⟨?_, ?_, fun c hc => ?_, fun c hc => ?_⟩
  · simp [nameA]
  · simp only [nameA, List.length_append, List.length_singleton, List.length_take]
    omega
  · have : some (letter (s + k / 8)) = some c := hc
    cases this
    exact letter_low _
  · rcases List.mem_append.mp hc with hc | hc
    · rw [List.mem_singleton.mp hc, letter_low]
      rfl
    · exact h.sgn c (List.mem_of_mem_take hc)
theorem nameC_ok {s k r : Nat} {tl : List Nat} (h : TailOk7 tl) (hr : r < 7) (hk : k < 52) : NameOk (nameC s tl k r) := by
  refine ⟨?_, ?_, fun c hc => ?_, fun c hc => ?_⟩
  · simp [nameC]
  · simp only [nameC, List.length_append, List.length_singleton, List.length_take, List.length_replicate]
    omega
  · have : some (letter (s + 5 * k)) = some c := hc
    cases this
    exact letter_low _
  · rcases List.mem_append.mp hc with hc | hc
    · rcases List.mem_append.mp hc with hc | hc
      · rw [List.mem_singleton.mp hc, letter_low]
        rfl
      · rw [(List.mem_replicate.mp hc).2]
        rfl
    · exact h.sgn c (List.mem_of_mem_take hc)
theorem nameA_inj7 {s : Nat} {tl : List Nat} (h : tl.length = 7) {i j : Nat} (hi : i < 40) (hj : j < 40) (e : nameA s tl i = nameA s tl j) : i = j := by
  have e1 := congrArg List.length e
  simp only [nameA, List.length_append, List.length_singleton, List.length_take, h] at e1
  have e2 : letter (s + i / 8) = letter (s + j / 8) := by
    have := congrArg (fun l : List Nat => l[0]?) e
    exact Option.some.inj this
  unfold letter at e2
  omega
theorem nameC_inj {s : Nat} {tl : List Nat} (h : TailOk7 tl) {i j r t : Nat} (hi : i < 40) (hj : j < 40) (hij : i < j) (e : nameC s tl i r = nameC s tl j t) : False := by
  have e2 : letter (s + 5 * i) = letter (s + 5 * j) := by
    have := congrArg (fun l : List Nat => l[0]?) e
    exact Option.some.inj this
  unfold letter at e2
  have e3 : j = i + 26 := by omega
  have e4 : i / 26 = 0 := by omega
  have e5 : j / 26 = 1 := by omega
  have e6 : tl.take r = [48] ++ tl.take t := by
    unfold nameC at e
    rw [e4, e5] at e
    simp only [List.replicate, List.append_nil, List.cons_append, List.nil_append, List.cons.injEq] at e
    exact e.2
  cases tl with
  | nil => have := h.len; simp at this
  | cons c u =>
    cases r with
    | zero => simp at e6
    | succ r =>
      have e7 : c = 48 := by
        have := congrArg (fun l : List Nat => l[0]?) e6
        simpa using this
      have := h.hd c rfl
      rw [e7] at this
      simp at this
section
variable {P : Program} {w : World} {K : PySem.W.Frag} {mg : Str → Option Value} {base : Heap} {c : Nat → Addr} {ct_Linit pt_Linit R CL : Addr}
theorem D_many (T : Txt K mg c R CL ct_Linit pt_Linit) : Def P w K mg base CX0 2 "_law_many" ["_law_box_here"] sp_lmany := by
  have D_take := D_take (P := P) (w := w) (base := base) T
  refine def_of T.d_many sc_many (fun vs H Q E h => ?_) (fun _ _ _ _ _ _ us hl => match us, hl with | [_], _ => rfl) (fun f cdv A outer s H vs Q E hr h => ?_)
  · obtain ⟨bx, x, y, z, rfl, _⟩ := h
    rfl
  · obtain ⟨bx, x, y, z, rfl, hbx, k⟩ := h
    have nd := sc_many.nd
    refine ⟨_, (pss_one (ps_ret (pe_ix ix_list (pe_lstA (pa_cons pe_int (pa_cons (pe_op op_add pe_int (pe_def D_take hr (pa_cons (pv 0) (pa_cons pe_int pa_nil)))) (pa_cons (pe_op op_add pe_int (pe_def D_take hr (pa_cons (pv 0) (pa_cons pe_int pa_nil)))) (pa_cons pe_int pa_nil))))) (pe_callB (call_maxN rfl) rfl T.n_max boot_max (pa_cons pe_int (pa_cons (pe_op op_sub (pe_def D_take hr (pa_cons (pv 0) (pa_cons pe_int pa_nil))) pe_int) pa_nil))) (fun _ _ => rfl)))), ?_⟩
    clear nd D_take
    rw [show start ["_law_box_here"] [.ref bx] = [some (.ref bx)] from rfl]
    try dsimp only [cx_K, cx_K2]
    have iL_many : FldOk K CL "many" := ⟨T.clL, T.aL_many⟩
    have iL_rows : FldOk K CL "rows" := ⟨T.clL, T.aL_rows⟩
    have F : SH H [bx] H [(bx, .lst [.int x, .int y, .int z])] [] := SH.nil.addM List.mem_cons_self hbx rfl (by simp)
    repeat k_meth
    refine w_ixM SqA.e (by omega) (by show max 0 (r_ - 4) < (4 : Int); omega) fun v hv => ?_
    obtain ⟨g, hg, rfl⟩ : ∃ g : Nat, (16 ≤ g ∧ g ≤ 240) ∧ v = .int (g : Nat) := by
      simp only [List.mem_cons, List.not_mem_nil, or_false] at hv
      rcases hv with rfl | rfl | rfl | rfl
      · exact ⟨16, by omega, rfl⟩
      · rename_i r1 _ _ _ _ _ _ r2 _ _ _ _ _ _ _
        exact ⟨(16 + r1).toNat, by omega, by congr 1; omega⟩
      · rename_i r1 _ _ _ _ _ _ r2 _ _ _ _ _ _ _
        exact ⟨(16 + r2).toNat, by omega, by congr 1; omega⟩
      · exact ⟨240, by omega, rfl⟩
    repeat k_meth
    exact k g _ _ _ _ hg.1 hg.2 F.kpo hatC
theorem D_names (T : Txt K mg c R CL ct_Linit pt_Linit) : Def P w K mg base CX0 2 "_law_names" ["_law_box_here", "_law_many_here"] sp_names := by
  have D_take := D_take (P := P) (w := w) (base := base) T
  refine def_of T.d_names sc_names (fun vs H Q E h => ?_) (fun _ _ _ _ _ _ us hl => match us, hl with | [_, _], _ => rfl) (fun f cdv A outer s H vs Q E hr h => ?_)
  · obtain ⟨bx, x, y, z, m, rfl, _⟩ := h
    rfl
  · obtain ⟨bx, x, y, z, m, rfl, hbx, h40, k⟩ := h
    have nd := sc_names.nd
    refine ⟨_, (pss_cons (ps_set (i := 2) nd rfl (Or.inr rfl) pe_str)
      (pss_cons (ps_set (i := 3) nd rfl (Or.inr rfl) (pe_op op_addS (pe_ix ix_str pe_str (pe_def D_take hr (pa_cons (pv 0) (pa_cons pe_int pa_nil))) (fun _ _ => rfl)) (pe_join pe_str (pe_comp (N := ["_law_k", "_law_box_here"]) (nt := 1) (fr := [0]) (pi_range1 rfl T.n_range (pa_cons pe_int pa_nil)) (fun _ _ _ _ => (pg_name (i := 0) (show (["_law_k", "_law_box_here"] : List Str).Nodup from by decide +kernel) rfl (Or.inl rfl))) (fun _ _ _ _ => pif_nil) (fun _ _ _ _ => (pe_ix ix_str pe_str (pe_def D_take hr (pa_cons (pv 1) (pa_cons pe_int pa_nil))) (fun _ _ => rfl)))))))
      (pss_cons (ps_set (i := 4) nd rfl (Or.inr rfl) (pe_def D_take hr (pa_cons (pv 0) (pa_cons pe_int pa_nil))))
      (pss_cons (ps_if (pt_cmpR op_eq (pe_def D_take hr (pa_cons (pv 0) (pa_cons pe_int pa_nil))) pe_int (nomark _)) (pss_one (ps_ret (pe_comp (N := ["_law_k", "_law_letters", "_law_tail", "_law_first"]) (nt := 1) (fr := [2, 3, 4]) (pi_range1 rfl T.n_range (pa_cons (pv 1) pa_nil)) (fun _ _ _ _ => (pg_name (i := 0) (show (["_law_k", "_law_letters", "_law_tail", "_law_first"] : List Str).Nodup from by decide +kernel) rfl (Or.inl rfl))) (fun _ _ _ _ => pif_nil) (fun _ _ _ _ => (pe_op op_addS (pe_ix ix_str (pv 1) (pe_op op_mod (pe_op op_add (pv 3) (pe_op op_fdiv (pv 0) pe_int)) pe_int) (fun _ _ => rfl)) (pe_slS (pv 2) (pe_op op_mod (pv 0) pe_int))))))) pss_nil)
      (pss_cons (ps_set (i := 5) nd rfl (Or.inl rfl) (pe_lstA pa_nil))
      (pss_cons (ps_for PassesOwn.never rfl (pi_range1 rfl T.n_range (pa_cons (pv 1) pa_nil)) (pg_name (i := 6) nd rfl (Or.inl rfl)) (pss_cons (ps_set (i := 7) nd rfl (Or.inl rfl) (pe_op op_addS (pe_ix ix_str (pv 2) (pe_op op_mod (pe_op op_add (pv 4) (pe_op op_mul pe_int (pv 6))) pe_int) (fun _ _ => rfl)) (pe_op op_mulS pe_str (pe_op op_fdiv (pv 6) pe_int))))
        (pss_one (ps_expr (pe_appendA (pv 5) (pe_op op_addS (pv 7) (pe_slS (pv 3) (pe_def D_take hr (pa_cons (pv 0) (pa_cons pe_int pa_nil))))))))))
      (pss_one (ps_ret (pv 5))))))))), ?_⟩
    clear nd D_take
    rw [show start ["_law_box_here", "_law_many_here", "_law_letters", "_law_tail", "_law_first", "_law_names_here", "_law_k", "_law_name"] [.ref bx, .int (m : Nat)] = [some (.ref bx), some (.int (m : Nat)), none, none, none, none, none, none] from rfl]
    try dsimp only [cx_K, cx_K2]
    have iL_many : FldOk K CL "many" := ⟨T.clL, T.aL_many⟩
    have iL_rows : FldOk K CL "rows" := ⟨T.clL, T.aL_rows⟩
    have F : SH H [bx] H [(bx, .lst [.int x, .int y, .int z])] [] := SH.nil.addM List.mem_cons_self hbx rfl (by simp)
    rw [show Str.ofString "abcdefghijklmnopqrstuvwxyz" = tx (List.range' 97 26) by decide +kernel, show Str.ofString "abz" = tx [97, 98, 122] by decide +kernel, show Str.ofString "abz019q" = tx [97, 98, 122, 48, 49, 57, 113] by decide +kernel, show Str.ofString "0" = tx [48] by decide +kernel]
    repeat k_meth
    intro c0 hc0
    have hc0 := List.mem_of_getElem? hc0
    repeat k_meth
    have e26 : (List.range' 97 26).length = 26 := by simp
    refine go_compR (n := 6) (fvs := [some (.ref bx)]) (fun acc i ys H' => ∃ (cs : List Nat) (x y z : Int), cs.length = i ∧ (∀ c ∈ cs, c ∈ [97, 98, 122, 48, 49, 57, 113]) ∧ ys = cs.map (fun c => V.str (tx [c])) ∧ SH H [bx] H' [(acc, .lst ys), (bx, .lst [.int x, .int y, .int z])] []) (rda_cons rd_c rda_nil) (by decide) rfl (fun acc H' n => ⟨[], x_, y_, z_, rfl, by simp, rfl, F.newL n⟩) ?_ ?_ ?_
    · clear F
      rintro acc i ys H' ⟨cs, x, y, z, h1, _, rfl, F⟩
      exact ⟨hatC, by rw [List.length_map]; exact h1⟩
    · clear F
      rintro acc i ys H' R hi ⟨cs, x, y, z, h1, h2, rfl, F⟩ kk
      repeat k_meth
      intro c hc
      refine kk _ _ hatC ?_
      repeat k_meth
      refine ⟨cs ++ [c], _, _, _, by simp [h1], fun d hd => ?_, by simp, F⟩
      rcases List.mem_append.mp hd with hd | hd
      · exact h2 d hd
      · rw [List.mem_singleton.mp hd]
        exact List.mem_of_getElem? hc
    · clear F
      rintro acc ys H' ⟨tl0, x, y, z, h1, h2, rfl, F⟩
      repeat k_meth
      generalize htl : [c0] ++ tl0 = tl
      have tk : TailOk7 tl := by
        subst htl
        refine ⟨by simp [h1], fun c hc => ?_, fun c hc => ?_⟩
        · have : some c0 = some c := hc
          cases this
          exact hc0
        · rcases List.mem_append.mp hc with hc | hc
          · rw [List.mem_singleton.mp hc]
            simp only [List.mem_cons, List.not_mem_nil, or_false] at hc0 ⊢
            omega
          · exact h2 c hc
      have h7 := tk.len
      rename_i sh _ _ _ sh0 _ _
      refine i_dec (fun h => ?_) (fun h => ?_)
      · repeat k_meth
        refine go_map_range (n := m) (fvs := [some (.str (tx (List.range' 97 26))), some (.str (tx tl)), some (.int sh)]) (F := fun j => V.str (tx (nameA sh.toNat tl j))) (rda_cons (rd_var rfl) rda_nil) (by omega) (by omega) rfl (fun i H' hi s8 Q8 q8 => ?_) ?_
        · repeat k_meth
          intro c hc
          have e3 := letter_at (by omega) hc
          subst e3
          repeat k_meth
          have e4 : [letter (sh + (i : Int) / 8).toNat] ++ tl.take ((i : Int) % 8).toNat = nameA sh.toNat tl i := by
            unfold nameA
            rw [show (sh + (i : Int) / 8).toNat = sh.toNat + i / 8 by omega, show ((i : Int) % 8).toNat = i % 8 by omega]
          rw [e4]
          exact q8
        · repeat k_meth
          have e5 : (List.range m).map (fun j => V.str (tx (nameA sh.toNat tl j))) = ((List.range m).map (nameA sh.toNat tl)).map fun cs => V.str (tx cs) := by
            rw [List.map_map]
            rfl
          rw [e5] at F
          refine k _ _ _ _ _ _ (by simp) (fun cs hcs => ?_) (nodup_of fun i j a b hij ha hb z => ?_) F.kpo hatC hatC (F.fresh (LkL.m (o := .lst _)) (nm1 (SH.neC (F := F))))
          · obtain ⟨j, _, rfl⟩ := List.mem_map.mp hcs
            exact nameA_ok7 tk
          · have h3 := (List.getElem?_eq_some_iff.mp hb).1
            rw [List.length_map, List.length_range] at h3
            rw [List.getElem?_map, List.getElem?_range (by omega)] at ha hb
            cases ha
            cases hb
            have := nameA_inj7 h7 (by omega) (by omega) z
            omega
      · repeat k_meth
        rename Addr => nl
        rw [show ((m : Nat) : Int).toNat = m by omega]
        refine forR0_by (fun i σ' H' => ∃ (o6 o7 : Option V) (nms : List (List Nat)) (x y z : Int), σ' = [some (.ref bx), some (.int (m : Nat)), some (.str (tx (List.range' 97 26))), some (.str (tx tl)), some (.int sh), some (.ref nl), o6, o7] ∧ nms.length = i ∧ (∀ (j : Nat) cs, nms[j]? = some cs → ∃ r, r < 7 ∧ cs = nameC sh.toNat tl j r) ∧ SH H [bx] H' [(nl, .lst (nms.map fun cs => V.str (tx cs))), (bx, .lst [.int x, .int y, .int z])] []) ⟨_, _, [], _, _, _, rfl, rfl, fun j cs e => by simp at e, F.subC (L' := [(nl, .lst []), (bx, .lst [.int x_, .int y_, .int z_])])⟩ ?_ ?_
        · clear F
          rintro i σ' H' hi ⟨_, _, nms, x, y, z, rfl, hl, hn, F⟩
          repeat k_meth
          intro c hc
          have e3 := letter_at (by omega) hc
          subst e3
          repeat k_meth
          refine ⟨_, _, nms ++ [nameC sh.toNat tl i r_.toNat], x_, y_, z_, rfl, by simp [hl], fun j cs e => ?_, ?_⟩
          · by_cases hj : j < nms.length
            · rw [List.getElem?_append_left hj] at e
              exact hn j cs e
            · have hj2 := (List.getElem?_eq_some_iff.mp e).1
              rw [List.length_append, List.length_singleton] at hj2
              obtain rfl : j = i := by omega
              rw [List.getElem?_append_right (by omega), hl, Nat.sub_self] at e
              cases e
              exact ⟨r_.toNat, by omega, rfl⟩
          · have e4 : [letter (sh + 5 * (i : Int)).toNat] ++ List.replicate ((i : Int) / 26).toNat 48 ++ tl.take r_.toNat = nameC sh.toNat tl i r_.toNat := by
              unfold nameC
              rw [show (sh + 5 * (i : Int)).toNat = sh.toNat + 5 * i by omega, show ((i : Int) / 26).toNat = i / 26 by omega]
            rw [e4] at F
            rw [List.map_append]
            exact F
        · clear F
          rintro σ' H' ⟨_, _, nms, x, y, z, rfl, hl, hn, F⟩
          repeat k_meth
          refine k _ _ _ nms _ _ hl (fun cs hcs => ?_) (nodup_of fun i j a b hij ha hb z => ?_) F.kpo hatC hatC (F.fresh (LkL.m (o := .lst _)) (nm1 (SH.neC (F := F))))
          · obtain ⟨j, hj, e⟩ := List.getElem_of_mem hcs
            obtain ⟨r, hr, rfl⟩ := hn j cs (by rw [← e]; simp)
            exact nameC_ok tk hr (by omega)
          · have h3 := (List.getElem?_eq_some_iff.mp hb).1
            obtain ⟨r, hr, rfl⟩ := hn i a ha
            obtain ⟨t, ht, rfl⟩ := hn j b hb
            exact nameC_inj tk (by omega) (by omega) hij z
end
theorem pickL {v : V} {xs : List Int} {lo hi : Int} (hv : v ∈ xs.map V.int) (h : ∀ a ∈ xs, lo ≤ a ∧ a < hi) (h0 : 0 ≤ lo) : ∃ g : Nat, v = .int (g : Nat) ∧ lo ≤ (g : Int) ∧ (g : Int) < hi := by
  obtain ⟨a, ha, rfl⟩ := List.mem_map.mp hv
  have := h a ha
  exact ⟨a.toNat, by congr 1; omega, by omega, by omega⟩
theorem pickL4 {v : V} {a b c d lo hi : Int} (hv : v ∈ [V.int a, V.int b, V.int c, V.int d]) (h : 0 ≤ lo ∧ (lo ≤ a ∧ a < hi) ∧ (lo ≤ b ∧ b < hi) ∧ (lo ≤ c ∧ c < hi) ∧ (lo ≤ d ∧ d < hi)) : ∃ g : Nat, v = .int (g : Nat) ∧ lo ≤ (g : Int) ∧ (g : Int) < hi :=
  pickL (xs := [a, b, c, d]) hv (fun z hz => by
    simp only [List.mem_cons, List.not_mem_nil, or_false] at hz
    rcases hz with rfl | rfl | rfl | rfl
    · exact h.2.1
    · exact h.2.2.1
    · exact h.2.2.2.1
    · exact h.2.2.2.2) h.1
theorem lay_of {n at_ : Nat} {rs : List Rw} {nms : List (List Nat)} (h1 : at_ ≤ n) (as : Asc rs) (ok : ∀ r ∈ rs, NameOk r.nm ∧ 1 ≤ r.sz ∧ r.st + r.sz ≤ at_) (sb : (rs.map (·.nm)).Sublist nms) (nd : nms.Nodup) (h40 : nms.length ≤ 40) : Lay n rs := by
  refine ⟨fun r hr => ⟨(ok r hr).1, (ok r hr).2.1, by have := (ok r hr).2.2; omega⟩, ?_, ?_⟩
  · have h2 : rs.Pairwise fun r s => r.nm ≠ s.nm := List.pairwise_map.mp (nd.sublist sb)
    exact h2.imp₂ (fun a b h3 h4 => ⟨h3, .inl h4⟩) as
  · have := sb.length_le
    rw [List.length_map] at this
    omega
theorem asc_snoc {rs : List Rw} {r : Rw} {at_ : Nat} (h : Asc rs) (ok : ∀ s ∈ rs, s.st + s.sz ≤ at_) (hr : at_ ≤ r.st) : Asc (rs ++ [r]) := by
  unfold Asc
  rw [List.pairwise_append]
  refine ⟨h, List.pairwise_singleton _ _, fun a ha b hb => ?_⟩
  rw [List.mem_singleton.mp hb]
  have := ok a ha
  omega
theorem rowsV_snoc (rs : List Rw) (r : Rw) : rowsV (rs ++ [r]) = rowsV rs ++ [rowV r] := by unfold rowsV; rw [List.map_append]; rfl
theorem while_m {c : TT} {tb : TS} {D : Ends} {σ : L2.St} {H : Hp} (Pv : Nat → L2.St → Hp → Prop) (h0 : ∃ m, Pv m σ H)
    (hs : ∀ m σ H, Pv m σ H → c σ H fun b H1 => if b = true then ∃ N : L2.St → Hp → Prop, (∀ σ' H', N σ' H' → ∃ m', m' < m ∧ Pv m' σ' H') ∧ tb { D with nx := N, ct := N, bk := D.nx } σ H1 else D.nx σ H1) : tWhile c tb D σ H := ⟨Pv, h0, hs⟩
theorem flat_V (rs : List Rw) : ∀ r ∈ rowsV rs, ∀ v ∈ r, isFlat v = true := by
  intro r hr v hv
  obtain ⟨x, _, rfl⟩ := List.mem_map.mp hr
  simp only [List.mem_cons, List.not_mem_nil, or_false] at hv
  rcases hv with rfl | rfl | rfl | rfl <;> rfl
instance go_neNilV {K : PySem.W.Frag} {H : Hp} {Q : VK} {p b : Addr} {ys : List V} {rs : List Rw} [h : Hat H p (.lst ys)] [t : TpA H ys (rowsV rs)] [h2 : Hat H b (.lst [])] : Go (rNeD K (.ref p) (.ref b) H Q) (Q (.bl (!decide (rowsV rs = []))) H) := ⟨w_neRNil (zs := []) h.e t.e (flat_V _) h2.e⟩
theorem tups_erase {H : Hp} {ys : List V} {rs : List Rw} {i : Nat} (t : TupsAt H ys (rowsV rs)) : TupsAt H (ys.eraseIdx i) (rowsV (rs.eraseIdx i)) := by
  have hl : ys.length = rs.length := by rw [t.1, rowsV_len]
  refine ⟨by rw [rowsV_len, List.length_eraseIdx, List.length_eraseIdx, hl], fun j r e => ?_⟩
  unfold rowsV at e
  rw [List.getElem?_map, List.getElem?_eraseIdx] at e
  rw [List.getElem?_eraseIdx]
  split at e
  · rename_i hj
    have e2 : (rowsV rs)[j]? = some r := by unfold rowsV; rw [List.getElem?_map]; exact e
    rw [if_pos hj]
    exact t.2 j r e2
  · rename_i hj
    have e2 : (rowsV rs)[j + 1]? = some r := by unfold rowsV; rw [List.getElem?_map]; exact e
    rw [if_neg hj]
    exact t.2 (j + 1) r e2
theorem perm_erase {α : Type} {ls : List α} {i : Nat} {r : α} (h : ls[i]? = some r) : (ls.eraseIdx i ++ [r]).Perm ls := by
  induction ls generalizing i with
  | nil => simp at h
  | cons a t ih =>
    cases i with
    | zero =>
      simp at h
      subst h
      exact List.perm_append_comm
    | succ i => exact (ih (by simpa using h)).cons a
section
variable {P : Program} {w : World} {K : PySem.W.Frag} {mg : Str → Option Value} {base : Heap} {c : Nat → Addr} {ct_Linit pt_Linit R CL : Addr}
theorem D_rows (T : Txt K mg c R CL ct_Linit pt_Linit) : Def P w K mg base CX0 3 "_law_rows" ["_law_box_here", "_law_many_here"] sp_lrows := by
  have D_names := D_names (P := P) (w := w) (base := base) T
  have D_take := D_take (P := P) (w := w) (base := base) T
  refine def_of T.d_rows sc_rows (fun vs H Q E h => ?_) (fun _ _ _ _ _ _ us hl => match us, hl with | [_, _], _ => rfl) (fun f cdv A outer s H vs Q E hr h => ?_)
  · obtain ⟨bx, x, y, z, n, rfl, _⟩ := h
    rfl
  · obtain ⟨bx, x, y, z, n, rfl, hbx, h16, h240, k⟩ := h
    have nd := sc_rows.nd
    refine ⟨_, (pss_cons (ps_set (i := 2) nd rfl (Or.inl rfl) (pe_ix ix_list (pe_lstA (pa_cons (pe_def D_take hr (pa_cons (pv 0) (pa_cons pe_int pa_nil))) (pa_cons pe_int pa_nil))) (pe_callTy call_intN rfl T.n_int boot_int (pa_cons (pe_cmpR op_eq (pe_def D_take hr (pa_cons (pv 0) (pa_cons pe_int pa_nil))) pe_int (nomark _)) pa_nil)) (fun _ _ => rfl)))
      (pss_cons (ps_set (i := 3) nd rfl (Or.inl rfl) (pe_def D_names hr (pa_cons (pv 0) (pa_cons (pv 2) pa_nil))))
      (pss_cons (ps_set (i := 4) nd rfl (Or.inl rfl) (pe_def D_take hr (pa_cons (pv 0) (pa_cons pe_int pa_nil))))
      (pss_cons (ps_set (i := 5) nd rfl (Or.inl rfl) (pe_lstA pa_nil))
      (pss_cons (ps_set (i := 6) nd rfl (Or.inl rfl) pe_int)
      (pss_cons (ps_for PassesOwn.never rfl (pi_range1 rfl T.n_range (pa_cons (pv 2) pa_nil)) (pg_name (i := 7) nd rfl (Or.inl rfl)) (pss_cons (ps_set (i := 8) nd rfl (Or.inl rfl) (pe_op op_sub (pv 1) (pv 6)))
        (pss_one (ps_if (pt_cmpR op_gt (pv 8) pe_int (nomark _)) (pss_cons (ps_set (i := 9) nd rfl (Or.inl rfl) (pe_def D_take hr (pa_cons (pv 0) (pa_cons (pe_callB (call_minN rfl) rfl T.n_min boot_min (pa_cons (pv 8) (pa_cons pe_int pa_nil))) pa_nil))))
          (pss_cons (ps_set (i := 10) nd rfl (Or.inl rfl) (pe_def D_take hr (pa_cons (pv 0) (pa_cons (pv 8) pa_nil))))
          (pss_cons (ps_set (i := 11) nd rfl (Or.inl rfl) (pe_ix ix_list (pe_lstA (pa_cons pe_int (pa_cons pe_int (pa_cons (pv 9) (pa_cons (pv 10) pa_nil))))) (pe_def D_take hr (pa_cons (pv 0) (pa_cons pe_int pa_nil))) (fun _ _ => rfl)))
          (pss_cons (ps_set (i := 12) nd rfl (Or.inl rfl) (pe_ix ix_list (pe_lstA (pa_cons pe_int (pa_cons pe_int (pa_cons pe_int (pa_cons pe_int pa_nil))))) (pe_def D_take hr (pa_cons (pv 0) (pa_cons pe_int pa_nil))) (fun _ _ => rfl)))
          (pss_cons (ps_set (i := 13) nd rfl (Or.inl rfl) (pe_op op_add pe_int (pe_def D_take hr (pa_cons (pv 0) (pa_cons (pe_callB (call_minN rfl) rfl T.n_min boot_min (pa_cons (pe_op op_sub (pv 8) (pv 11)) (pa_cons (pv 12) pa_nil))) pa_nil)))))
          (pss_cons (ps_set (i := 14) nd rfl (Or.inl rfl) (pe_op op_mul (pe_op op_add pe_int (pe_def D_take hr (pa_cons (pv 0) (pa_cons pe_int pa_nil)))) (pe_callTy call_intN rfl T.n_int boot_int (pa_cons (pe_and (pe_cmpR op_eq (pe_def D_take hr (pa_cons (pv 0) (pa_cons pe_int pa_nil))) pe_int (nomark _)) (pe_one (pe_cmpR op_gt (pv 4) pe_int (nomark _)))) pa_nil))))
          (pss_cons (ps_expr (pe_appendA (pv 5) (pe_tupA (pa_cons (pe_ix ix_list (pv 3) (pv 7) (fun _ _ => rfl)) (pa_cons (pe_op op_add (pv 6) (pv 11)) (pa_cons (pv 13) (pa_cons (pv 14) pa_nil)))))))
          (pss_one (ps_set (i := 6) nd rfl (Or.inl rfl) (pe_op op_add (pe_op op_add (pv 6) (pv 11)) (pv 13))))))))))) pss_nil))))
      (pss_one (ps_ret (pv 5))))))))), ?_⟩
    clear nd D_names D_take
    rw [show start ["_law_box_here", "_law_many_here", "_law_most", "_law_names_here", "_law_pinned", "_law_rows_here", "_law_at", "_law_k", "_law_left", "_law_near", "_law_far", "_law_gap", "_law_wide", "_law_size", "_law_pins"] [.ref bx, .int (n : Nat)] = [some (.ref bx), some (.int (n : Nat)), none, none, none, none, none, none, none, none, none, none, none, none, none] from rfl]
    try dsimp only [cx_K, cx_K2]
    have iL_many : FldOk K CL "many" := ⟨T.clL, T.aL_many⟩
    have iL_rows : FldOk K CL "rows" := ⟨T.clL, T.aL_rows⟩
    have F : SH H [bx] H [(bx, .lst [.int x, .int y, .int z])] [] := SH.nil.addM List.mem_cons_self hbx rfl (by simp)
    repeat k_meth
    have hidx : 0 ≤ (if decide (r_ = 0) = true then (1 : Int) else 0) ∧ (if decide (r_ = 0) = true then (1 : Int) else 0) < 2 := by split <;> omega
    refine w_ixM SqA.e hidx.1 hidx.2 fun v hv => ?_
    obtain ⟨m, rfl, hm0, hm⟩ := pickL (lo := 0) (hi := 41) (xs := [_, 40]) hv (fun a ha => by
      simp only [List.mem_cons, List.not_mem_nil, or_false] at ha
      rcases ha with rfl | rfl <;> omega) (by omega)
    clear hv hidx
    repeat k_meth
    intro nms nl nk nn
    repeat k_meth
    rename Addr => rwA
    have ⟨pd, hpd⟩ : ∃ pd, pd = r_ := ⟨_, rfl⟩
    rw [← hpd]
    rw [show ((m : Nat) : Int).toNat = m by omega]
    refine forR0_by (fun i σ' H' => ∃ (o7 o8 o9 o10 o11 o12 o13 o14 : Option V) (at_ : Nat) (rs : List Rw) (ys : List V) (x y z : Int), σ' = [some (.ref bx), some (.int (n : Nat)), some (.int (m : Nat)), some (.ref p_), some (.int pd), some (.ref rwA), some (.int (at_ : Nat)), o7, o8, o9, o10, o11, o12, o13, o14] ∧ at_ ≤ n ∧ Asc rs ∧ (∀ r ∈ rs, NameOk r.nm ∧ 1 ≤ r.sz ∧ r.st + r.sz ≤ at_) ∧ (rs.map (·.nm)).Sublist (nms.take i) ∧ ys.length = rs.length ∧ SH H [bx] H' [(rwA, .lst ys), (p_, .lst (nms.map fun cs => V.str (tx cs))), (bx, .lst [.int x, .int y, .int z])] [.tps ys (rowsV rs)]) ⟨_, _, _, _, _, _, _, _, 0, [], [], x_, y_, z_, rfl, Nat.zero_le _, List.Pairwise.nil, by simp, List.nil_sublist _, rfl, (F.addP (ys := []) (rs := rowsV []) TupsAt.nil).sub SbC.s (by simp)⟩ ?_ ?_
    · clear F hpd lo_ hi_
      rintro i σ' H' hi ⟨_, _, _, _, _, _, _, _, at_, rs, ys, x, y, z, rfl, hat, as, ok, sb, yl, F⟩
      obtain ⟨nm0, hnm⟩ : ∃ nm0, nms[i]? = some nm0 := ⟨nms[i]'(by omega), by simp⟩
      have a1 : AtI (nms.map fun cs => V.str (tx cs)) (i : Int) (.str (tx nm0)) := ⟨atI_nat (by rw [List.getElem?_map, hnm]; rfl)⟩
      have tkn : nms.take (i + 1) = nms.take i ++ [nm0] := by rw [List.take_succ, hnm]; rfl
      have few : rs.length ≤ 40 := by
        have := sb.length_le
        rw [List.length_map, List.length_take] at this
        omega
      repeat k_meth
      refine i_dec (fun h => ?_) (fun h => ?_)
      · repeat k_meth
        refine w_ixM SqA.e lo_ hi_ fun v hv => ?_
        obtain ⟨g, rfl, hg0, hg⟩ := pickL4 (lo := 0) (hi := (n : Int) - (at_ : Int)) hv (by omega)
        clear hv
        repeat k_meth
        refine w_ixM SqA.e lo_ hi_ fun v hv => ?_
        obtain ⟨wd, rfl, hw0, hw⟩ := pickL4 (lo := 1) (hi := 241) hv (by omega)
        clear hv
        repeat k_meth
        rename_i zz _ _ _ zlo zhi _ r1 _ _ _ r1lo r1hi _
        obtain ⟨z1, rfl⟩ : ∃ z1 : Nat, zz = (z1 : Int) := ⟨zz.toNat, by omega⟩
        refine i_dec (fun h0 => ?_) (fun h0 => ?_)
        · repeat k_meth
          rename Addr => tq
          obtain ⟨pn, hpn⟩ : ∃ pn : Nat, (1 + r1) * (if decide (pd > 0) = true then (1 : Int) else 0) = (pn : Int) := ⟨((1 + r1) * (if decide (pd > 0) = true then (1 : Int) else 0)).toNat, by have : 0 ≤ (1 + r1) * (if decide (pd > 0) = true then (1 : Int) else 0) := Int.mul_nonneg (by omega) (by split <;> omega); omega⟩
          rw [hpn] at F ⊢
          rw [show [V.str (tx nm0), V.int ((at_ : Int) + (g : Int)), V.int (1 + (z1 : Int)), V.int (pn : Int)] = rowV ⟨nm0, at_ + g, 1 + z1, pn⟩ by simp [rowV]] at F
          have F2 := SH.app (ys := ys) (rs := rowsV rs) (q := tq) (r := rowV ⟨nm0, at_ + g, 1 + z1, pn⟩) F (LkP.m) (LkI.m)
          rw [← rowsV_snoc] at F2
          rw [show (at_ : Int) + (g : Int) + (1 + (z1 : Int)) = ((at_ + g + (1 + z1) : Nat) : Int) by omega]
          refine ⟨_, _, _, _, _, _, _, _, at_ + g + (1 + z1), rs ++ [⟨nm0, at_ + g, 1 + z1, pn⟩], ys ++ [.ref tq], x_, y_, z_, rfl, by omega, asc_snoc as (fun s hs => (ok s hs).2.2) (by show at_ ≤ at_ + g; omega), fun s hs => ?_, ?_, by simp [yl], F2.sub SbC.s (by simp)⟩
          · rcases List.mem_append.mp hs with hs | hs
            · have := ok s hs
              exact ⟨this.1, this.2.1, by omega⟩
            · rw [List.mem_singleton.mp hs]
              exact ⟨nk _ (List.mem_of_getElem? hnm), by show 1 ≤ 1 + z1; omega, by show at_ + g + (1 + z1) ≤ _; omega⟩
          · rw [List.map_append, tkn]
            exact List.Sublist.append sb (List.Sublist.refl _)
        · repeat k_meth
          rename Addr => tq
          obtain ⟨pn, hpn⟩ : ∃ pn : Nat, (1 + r1) * (if false = true then (1 : Int) else 0) = (pn : Int) := ⟨((1 + r1) * (if false = true then (1 : Int) else 0)).toNat, by have : 0 ≤ (1 + r1) * (if false = true then (1 : Int) else 0) := Int.mul_nonneg (by omega) (by split <;> omega); omega⟩
          rw [hpn] at F ⊢
          rw [show [V.str (tx nm0), V.int ((at_ : Int) + (g : Int)), V.int (1 + (z1 : Int)), V.int (pn : Int)] = rowV ⟨nm0, at_ + g, 1 + z1, pn⟩ by simp [rowV]] at F
          have F2 := SH.app (ys := ys) (rs := rowsV rs) (q := tq) (r := rowV ⟨nm0, at_ + g, 1 + z1, pn⟩) F (LkP.m) (LkI.m)
          rw [← rowsV_snoc] at F2
          rw [show (at_ : Int) + (g : Int) + (1 + (z1 : Int)) = ((at_ + g + (1 + z1) : Nat) : Int) by omega]
          refine ⟨_, _, _, _, _, _, _, _, at_ + g + (1 + z1), rs ++ [⟨nm0, at_ + g, 1 + z1, pn⟩], ys ++ [.ref tq], x_, y_, z_, rfl, by omega, asc_snoc as (fun s hs => (ok s hs).2.2) (by show at_ ≤ at_ + g; omega), fun s hs => ?_, ?_, by simp [yl], F2.sub SbC.s (by simp)⟩
          · rcases List.mem_append.mp hs with hs | hs
            · have := ok s hs
              exact ⟨this.1, this.2.1, by omega⟩
            · rw [List.mem_singleton.mp hs]
              exact ⟨nk _ (List.mem_of_getElem? hnm), by show 1 ≤ 1 + z1; omega, by show at_ + g + (1 + z1) ≤ _; omega⟩
          · rw [List.map_append, tkn]
            exact List.Sublist.append sb (List.Sublist.refl _)
      · repeat k_meth
        exact ⟨_, _, _, _, _, _, _, _, at_, rs, ys, x, y, z, rfl, hat, as, ok, sb.trans (by rw [tkn]; exact List.sublist_append_left _ _), yl, F⟩
    · clear F
      rintro σ' H' ⟨_, _, _, _, _, _, _, _, at_, rs, ys, x, y, z, rfl, hat, as, ok, sb, yl, F⟩
      repeat k_meth
      exact k _ _ _ rs _ ys _ (lay_of hat as ok sb (nn.sublist (List.take_sublist _ _)) (by rw [List.length_take]; omega)) as F.kpo hatC hatC TpA.e (F.fresh (LkL.m (o := .lst _)) (nm1 (SH.neC (F := F))))
theorem D_mixed (T : Txt K mg c R CL ct_Linit pt_Linit) : Def P w K mg base CX0 2 "_law_mixed" ["_law_box_here", "_law_some"] sp_mixed := by
  have D_take := D_take (P := P) (w := w) (base := base) T
  refine def_of T.d_mixed sc_mixed (fun vs H Q E h => ?_) (fun _ _ _ _ _ _ us hl => match us, hl with | [_, _], _ => rfl) (fun f cdv A outer s H vs Q E hr h => ?_)
  · obtain ⟨bx, l, x, y, z, ys, rs, rfl, _⟩ := h
    rfl
  · obtain ⟨bx, l, x, y, z, ys, rs, rfl, hbx, hl, tp, hz, nbl, k⟩ := h
    have nd := sc_mixed.nd
    refine ⟨_, (pss_cons (ps_set (i := 2) nd rfl (Or.inl rfl) (pe_callTy call_list_ofA rfl T.n_list boot_list (pa_cons (pv 1) pa_nil)))
      (pss_cons (ps_set (i := 3) nd rfl (Or.inl rfl) (pe_lstA pa_nil))
      (pss_cons (ps_while PassesOwn.never (pt_cmpR (op_ne_dN hr) (pv 2) (pe_lstA pa_nil) (nomark _)) (pss_one (ps_expr (pe_appendA (pv 3) (pe_popA (pv 2) (pe_def D_take hr (pa_cons (pv 0) (pa_cons (pe_callB call_lenN rfl T.n_len boot_len (pa_cons (pv 2) pa_nil)) pa_nil))))))))
      (pss_one (ps_ret (pv 3)))))), ?_⟩
    clear nd D_take
    rw [show start ["_law_box_here", "_law_some", "_law_left", "_law_found"] [.ref bx, .ref l] = [some (.ref bx), some (.ref l), none, none] from rfl]
    try dsimp only [cx_K, cx_K2]
    have iL_many : FldOk K CL "many" := ⟨T.clL, T.aL_many⟩
    have iL_rows : FldOk K CL "rows" := ⟨T.clL, T.aL_rows⟩
    have F : SH H [bx] H [(bx, .lst [.int x, .int y, .int z])] [] := SH.nil.addM List.mem_cons_self hbx rfl (by simp)
    have o_hl := Old.mk (M := [bx]) hl (nm1 (Ne.symm nbl))
    have yl : ys.length = rs.length := by rw [tp.1, rowsV_len]
    replace F := F.addP tp
    repeat k_meth
    rename Addr => fd
    refine while_m (fun m σ' H' => ∃ (ls fs : List Rw) (yl yf : List V) (x y z : Int), σ' = [some (.ref bx), some (.ref l), some (.ref p_), some (.ref fd)] ∧ m = ls.length ∧ (fs ++ ls).Perm rs ∧ yl.length = ls.length ∧ yf.length = fs.length ∧ SH H [bx] H' [(p_, .lst yl), (fd, .lst yf), (bx, .lst [.int x, .int y, .int z])] [.tps yl (rowsV ls), .tps yf (rowsV fs)]) ⟨rs.length, rs, [], ys, [], x, y, z, rfl, rfl, List.Perm.refl _, yl, rfl, (F.addP (ys := []) (rs := rowsV []) TupsAt.nil).sub SbC.s (by simp)⟩ ?_
    clear F
    rintro m σ' H' ⟨ls, fs, yl', yf, x, y, z, rfl, rfl, pm, h1, h2, F⟩
    have pl := pm.length_eq
    rw [List.length_append] at pl
    repeat k_meth
    by_cases hn : rowsV ls = []
    · repeat k_meth
      have e0 : ls = [] := List.map_eq_nil_iff.mp hn
      rw [e0, List.append_nil] at pm
      exact k _ _ _ fs _ yf _ pm F.kpo hatC hatC TpA.e (F.fresh (LkL.m (o := .lst _)) (nm1 (SH.neC (F := F))))
    · have hp : 0 < ls.length := by
        cases ls with
        | nil => exact absurd rfl hn
        | cons a t => simp
      repeat k_meth
      refine ⟨fun σ' H' => ∃ m', m' < ls.length ∧ _, fun σ' H' h => h, ?_⟩
      repeat k_meth
      intro v hv
      repeat k_meth
      obtain ⟨r, q, e1, rfl, e2⟩ := rowsV_at (H := H_) (rs := ls) TpA.e hv
      have t1 := tups_erase (H := H_) (ys := yl') (rs := ls) (i := r_.toNat) TpA.e
      have t2 : TupsAt H_ (yf ++ [.ref q]) (rowsV (fs ++ [r])) := by
        rw [rowsV_snoc]
        exact TupsAt.snoc (TpA.e (H := H_) (ys := yf) (rs := rowsV fs)) e2
      have hlt := (List.getElem?_eq_some_iff.mp e1).1
      refine ⟨ls.length - 1, by omega, ls.eraseIdx r_.toNat, fs ++ [r], yl'.eraseIdx r_.toNat, yf ++ [.ref q], x_, y_, z_, rfl, ?_, ?_, ?_, ?_, ((F.addP t2).addP t1).sub SbC.s (by simp)⟩
      · rw [List.length_eraseIdx, if_pos hlt]
      · refine List.Perm.trans ?_ pm
        rw [List.append_assoc]
        exact (List.perm_append_comm.trans (perm_erase e1)).append_left fs
      · rw [List.length_eraseIdx, List.length_eraseIdx, h1]
      · rw [List.length_append, List.length_append, h2]
        rfl
end
def gp (rs : List Rw) : List Int × Int := rs.foldl (fun g r => (g.1 ++ [(r.st : Int) - g.2], (r.st : Int) + (r.sz : Int))) ([], 0)
theorem gp_snoc (rs : List Rw) (r : Rw) : gp (rs ++ [r]) = ((gp rs).1 ++ [(r.st : Int) - (gp rs).2], (r.st : Int) + (r.sz : Int)) := by unfold gp; rw [List.foldl_append]; rfl
theorem gp_len (rs : List Rw) : (gp rs).1.length = rs.length := by
  have : ∀ (rs : List Rw) (g : List Int × Int), (rs.foldl (fun g r => (g.1 ++ [(r.st : Int) - g.2], (r.st : Int) + (r.sz : Int))) g).1.length = g.1.length + rs.length := by
    intro rs
    induction rs with
    | nil => intro g; rfl
    | cons r t ih => intro g; rw [List.foldl_cons, ih]; simp; omega
  have := this rs ([], 0)
  simpa [gp] using this
def gapsOf (n : Nat) (rs : List Rw) : List Int := (gp rs).1 ++ [(n : Int) - (gp rs).2]
theorem take_snocR {rs : List Rw} {i : Nat} {r : Rw} (h : rs[i]? = some r) : rs.take (i + 1) = rs.take i ++ [r] := by rw [List.take_succ, h]; rfl
def within (a b : Int) (r : Rw) : Bool := decide (a ≤ (r.st : Int)) && decide ((r.st : Int) < b)
def freeB (rs : List Rw) (a b : Int) : Int := b - a - ((rs.filter (within a b)).map fun r => (r.sz : Int)).sum
def sp_gapsof (CL : Addr) : Sp := fun vs H Q _ => ∃ (x p dx : Addr) (n : Nat) (zs : List V) (rs : List Rw), vs = [.ref x] ∧ H x = some (.ins CL dx (lF (n : Nat) p)) ∧ H p = some (.lst zs) ∧ TupsAt H zs (rowsV rs) ∧ rs.length ≤ 40 ∧ ∀ q H', New H H' q (.lst ((gapsOf n rs).map V.int)) → Q (.ref q) H'
def sp_lgaps : Sp := fun vs H Q _ => ∃ (l : Addr) (n : Nat) (zs : List V) (rs : List Rw), vs = [.int (n : Nat), .ref l] ∧ H l = some (.lst zs) ∧ TupsAt H zs (rowsV rs) ∧ rs.length ≤ 40 ∧ ∀ q H', New H H' q (.lst ((gapsOf n rs).map V.int)) → Q (.ref q) H'
section
variable {CL x p dx l : Addr} {H : Hp} {Q : VK} {E : XK} {n : Nat} {zs : List V} {rs : List Rw} {a b : Int}
instance go_gapsof [h : Hat H x (.ins CL dx (lF (n : Nat) p))] [h2 : Hat H p (.lst zs)] [t : TpA H zs (rowsV rs)] : Go (sp_gapsof CL [.ref x] H Q E) (Sd (rs.length ≤ 40) (∀ q H', New H H' q (.lst ((gapsOf n rs).map V.int)) → Q (.ref q) H')) := ⟨fun s => ⟨x, p, dx, n, zs, rs, rfl, h.e, h2.e, t.e, s.1, s.2⟩⟩
instance go_lgaps [h2 : Hat H l (.lst zs)] [t : TpA H zs (rowsV rs)] : Go (sp_lgaps [.int (n : Nat), .ref l] H Q E) (Sd (rs.length ≤ 40) (∀ q H', New H H' q (.lst ((gapsOf n rs).map V.int)) → Q (.ref q) H')) := ⟨fun s => ⟨l, n, zs, rs, rfl, h2.e, t.e, s.1, s.2⟩⟩
end
section
variable {P : Program} {w : World} {K : PySem.W.Frag} {mg : Str → Option Value} {base : Heap} {c : Nat → Addr} {ct_Linit pt_Linit R CL : Addr}
theorem D_gapsof (T : Txt K mg c R CL ct_Linit pt_Linit) : Def P w K mg base CX0 2 "gaps_of" ["layout"] (sp_gapsof CL) := by
  have MT_Lblocks := MT_Lblocks (P := P) (w := w) (base := base) T
  have D_end_of := D_end_of (P := P) (w := w) (base := base) T
  have D_cells_of := D_cells_of (P := P) (w := w) (base := base) T
  refine def_of T.d_gapsof sc_gapsof (fun vs H Q E h => ?_) (fun _ _ _ _ _ _ us hl => match us, hl with | [_], _ => rfl) (fun f cdv A outer s H vs Q E hr h => ?_)
  · obtain ⟨x, p, dx, n, zs, rs, rfl, _⟩ := h
    rfl
  · obtain ⟨x, p, dx, n, zs, rs, rfl, hx, hp, tp, few, k⟩ := h
    have nd := sc_gapsof.nd
    refine ⟨_, (pss_cons (ps_set (i := 1) nd rfl (Or.inl rfl) (pe_lstA pa_nil))
      (pss_cons (ps_set (i := 2) nd rfl (Or.inl rfl) pe_int)
      (pss_cons (ps_for PassesOwn.never rfl (pi_list (pe_met0 (pv 0) T.clL MT_Lblocks hr)) (pg_name (i := 3) nd rfl (Or.inl rfl)) (pss_cons (ps_expr (pe_appendA (pv 1) (pe_op op_sub (pe_ix ix_tup (pv 3) pe_int (fun _ _ => rfl)) (pv 2))))
        (pss_one (ps_set (i := 2) nd rfl (Or.inl rfl) (pe_def D_end_of hr (pa_cons (pe_def D_cells_of hr (pa_cons (pv 3) pa_nil)) pa_nil))))))
      (pss_one (ps_ret (pe_op op_catA (pv 1) (pe_lstA (pa_cons (pe_op op_sub (pe_fld (pv 0) rfl) (pv 2)) pa_nil)))))))), ?_⟩
    clear nd MT_Lblocks D_end_of D_cells_of
    rw [show start ["layout", "gaps", "behind", "block"] [.ref x] = [some (.ref x), none, none, none] from rfl]
    try dsimp only [cx_K, cx_K2]
    have iL_many : FldOk K CL "many" := ⟨T.clL, T.aL_many⟩
    have iL_rows : FldOk K CL "rows" := ⟨T.clL, T.aL_rows⟩
    have o_hx := Old.mk (M := []) hx nm0
    have o_hp := Old.mk (M := []) hp nm0
    have o_tp := OldP.mk tp
    have F : SH H [] H [] [] := SH.nil
    repeat k_meth
    rename_i _ gl
    rename Addr => bl
    refine forL_by (xs := zs) (fun i σ' H' => ∃ o3 : Option V, σ' = [some (.ref x), some (.ref gl), some (.int (gp (rs.take i)).2), o3] ∧ SH H [] H' [(gl, .lst ((gp (rs.take i)).1.map V.int)), (bl, .lst zs)] []) ⟨_, rfl, F.subC (L' := [(gl, .lst []), (bl, .lst zs)])⟩ ?_ ?_ ?_
    · clear F
      rintro i σ' H' _ ⟨_, rfl, F⟩
      exact SqA.e
    · clear F
      rintro i v σ' H' hv ⟨_, rfl, F⟩
      obtain ⟨r, q1, e1, rfl, e2⟩ := rowsV_at tp hv
      have o_e2 := Old.mk (M := []) e2 nm0
      have gl1 := gp_len (rs.take i)
      rw [List.length_take] at gl1
      repeat k_meth
      refine ⟨_, by rw [take_snocR e1, gp_snoc], ?_⟩
      rw [take_snocR e1, gp_snoc]
      simp only [List.map_append, List.map_cons, List.map_nil]
      exact F.subC
    · clear F
      rintro σ' H' ⟨_, rfl, F⟩
      have gl1 := gp_len rs
      rw [show zs.length = rs.length by rw [tp.1, rowsV_len], List.take_length] at F ⊢
      repeat k_meth
      rw [show (gp rs).1.map V.int ++ [V.int ((n : Int) - (gp rs).2)] = (gapsOf n rs).map V.int by unfold gapsOf; rw [List.map_append]; rfl] at F
      exact k _ _ SH.nwC
theorem D_lgaps (T : Txt K mg c R CL ct_Linit pt_Linit) : Def P w K mg base CX0 1 "_law_gaps" ["_law_many_here", "_law_rows_here"] sp_lgaps := by
  refine def_of T.d_lgaps sc_lgaps (fun vs H Q E h => ?_) (fun _ _ _ _ _ _ us hl => match us, hl with | [_, _], _ => rfl) (fun f cdv A outer s H vs Q E hr h => ?_)
  · obtain ⟨l, n, zs, rs, rfl, _⟩ := h
    rfl
  · obtain ⟨l, n, zs, rs, rfl, hl, tp, few, k⟩ := h
    have nd := sc_lgaps.nd
    refine ⟨_, (pss_cons (ps_set (i := 2) nd rfl (Or.inl rfl) (pe_lstA pa_nil))
      (pss_cons (ps_set (i := 3) nd rfl (Or.inl rfl) pe_int)
      (pss_cons (ps_for PassesOwn.never rfl (pi_list (pv 1)) (pg_tup rfl (pgs_cons (pg_name (i := 4) nd rfl (Or.inl rfl)) (pgs_cons (pg_name (i := 5) nd rfl (Or.inl rfl)) (pgs_cons (pg_name (i := 6) nd rfl (Or.inl rfl)) (pgs_cons (pg_name (i := 7) nd rfl (Or.inl rfl)) pgs_nil))))) (pss_cons (ps_expr (pe_appendA (pv 2) (pe_op op_sub (pv 5) (pv 3))))
        (pss_one (ps_set (i := 3) nd rfl (Or.inl rfl) (pe_op op_add (pv 5) (pv 6))))))
      (pss_one (ps_ret (pe_op op_catA (pv 2) (pe_lstA (pa_cons (pe_op op_sub (pv 0) (pv 3)) pa_nil)))))))), ?_⟩
    clear nd 
    rw [show start ["_law_many_here", "_law_rows_here", "_law_found", "_law_end", "_law_name", "_law_start", "_law_size", "_law_pins"] [.int (n : Nat), .ref l] = [some (.int (n : Nat)), some (.ref l), none, none, none, none, none, none] from rfl]
    try dsimp only [cx_K, cx_K2]
    have iL_many : FldOk K CL "many" := ⟨T.clL, T.aL_many⟩
    have iL_rows : FldOk K CL "rows" := ⟨T.clL, T.aL_rows⟩
    have o_hl := Old.mk (M := []) hl nm0
    have o_tp := OldP.mk tp
    have F : SH H [] H [] [] := SH.nil
    repeat k_meth
    rename Addr => gl
    refine forL_by (xs := zs) (fun i σ' H' => ∃ o4 o5 o6 o7 : Option V, σ' = [some (.int (n : Nat)), some (.ref l), some (.ref gl), some (.int (gp (rs.take i)).2), o4, o5, o6, o7] ∧ SH H [] H' [(gl, .lst ((gp (rs.take i)).1.map V.int))] []) ⟨_, _, _, _, rfl, F.subC (L' := [(gl, .lst [])])⟩ ?_ ?_ ?_
    · clear F
      rintro i σ' H' _ ⟨_, _, _, _, rfl, F⟩
      exact SqA.e
    · clear F
      rintro i v σ' H' hv ⟨_, _, _, _, rfl, F⟩
      obtain ⟨r, q1, e1, rfl, e2⟩ := rowsV_at tp hv
      have o_e2 := Old.mk (M := []) e2 nm0
      have gl1 := gp_len (rs.take i)
      rw [List.length_take] at gl1
      repeat k_meth
      refine ⟨_, _, _, _, by rw [take_snocR e1, gp_snoc], ?_⟩
      rw [take_snocR e1, gp_snoc]
      simp only [List.map_append, List.map_cons, List.map_nil]
      exact F.subC
    · clear F
      rintro σ' H' ⟨_, _, _, _, rfl, F⟩
      have gl1 := gp_len rs
      rw [show zs.length = rs.length by rw [tp.1, rowsV_len], List.take_length] at F ⊢
      repeat k_meth
      rw [show (gp rs).1.map V.int ++ [V.int ((n : Int) - (gp rs).2)] = (gapsOf n rs).map V.int by unfold gapsOf; rw [List.map_append]; rfl] at F
      exact k _ _ SH.nwC
end
abbrev PR := List (Option Int)
def pV : Option Int → V
  | none => .non
  | some i => .int i
def endR (s : Nat) : PR := some 0 :: List.replicate s none
def besV (r : Rw) (b : PR) (c : Int) (x : Nat) : Option Int := ((b[((x : Int) - c).toNat]?).getD none).map fun y => (r.sz : Int) + y
def besR (r : Rw) (b : PR) (c : Int) (s : Nat) : PR := if 0 < r.pn then endR s else some 0 :: (List.range s).map fun j => besV r b c (j + 1)
theorem endR_len (s : Nat) : (endR s).length = s + 1 := by simp [endR]
theorem besR_len (r : Rw) (b : PR) (c : Int) (s : Nat) : (besR r b c s).length = s + 1 := by unfold besR; split <;> simp [endR]
theorem endR_V (s : Nat) : (endR s).map pV = V.int 0 :: List.replicate s V.non := by simp [endR, pV]
def prf (r : Rw) (b : PR) (c : Int) (s i : Nat) : PR := some 0 :: ((List.range i).map (fun j => besV r b c (j + 1)) ++ List.replicate (s - i) none)
theorem prf_zero (r : Rw) (b : PR) (c : Int) (s : Nat) : prf r b c s 0 = endR s := by simp [prf, endR]
theorem prf_all {r : Rw} {b : PR} {c : Int} {s : Nat} (h : ¬ 0 < r.pn) : prf r b c s s = besR r b c s := by
  unfold prf besR
  rw [if_neg h]
  simp
theorem prf_next {r : Rw} {b : PR} {c : Int} {s i : Nat} (h : i < s) : prf r b c s (i + 1) = (prf r b c s i).set (i + 1) (besV r b c (i + 1)) := by
  unfold prf
  rw [List.set_cons_succ, List.set_append_right _ _ (by simp)]
  obtain ⟨d, hd⟩ : ∃ d, s - i = d + 1 := ⟨s - i - 1, by omega⟩
  rw [show s - (i + 1) = d by omega, hd, List.replicate_succ, List.length_map, List.length_range, Nat.sub_self, List.set_cons_zero, List.range_succ, List.map_append, List.append_assoc]
  rfl
theorem prf_none {r : Rw} {b : PR} {c : Int} {s i : Nat} (h : i < s) (e : besV r b c (i + 1) = none) : prf r b c s (i + 1) = prf r b c s i := by
  unfold prf
  obtain ⟨d, hd⟩ : ∃ d, s - i = d + 1 := ⟨s - i - 1, by omega⟩
  rw [show s - (i + 1) = d by omega, hd, List.replicate_succ, List.range_succ, List.map_append, List.append_assoc, List.map_cons, List.map_nil, e]
  rfl
theorem prf_len {r : Rw} {b : PR} {c : Int} {s i : Nat} (h : i ≤ s) : (prf r b c s i).length = s + 1 := by
  unfold prf
  simp
  omega
def sp_atend : Sp := fun vs H Q _ => ∃ s : Nat, vs = [.int (s : Nat)] ∧ s ≤ 240 ∧ ∀ q H', New H H' q (.lst ((endR s).map pV)) → Q (.ref q) H'
def sp_beside : Sp := fun vs H Q _ => ∃ (q l : Addr) (r : Rw) (b : PR) (c : Int) (s : Nat), vs = [.ref q, .ref l, .int c, .int (s : Nat)] ∧ H q = some (.tup (rowV r)) ∧ H l = some (.lst (b.map pV)) ∧ b.length = s + 1 ∧ (s ≤ 240 ∧ 0 ≤ c) ∧ ∀ z H', New H H' z (.lst ((besR r b c s).map pV)) → Q (.ref z) H'
section
variable {H : Hp} {Q : VK} {E : XK} {q l : Addr} {r : Rw} {b : PR} {c : Int} {s : Nat}
instance go_atend : Go (sp_atend [.int (s : Nat)] H Q E) (Sd (s ≤ 240) (∀ q H', New H H' q (.lst ((endR s).map pV)) → Q (.ref q) H')) := ⟨fun k => ⟨s, rfl, k.1, k.2⟩⟩
end
section
variable {P : Program} {w : World} {K : PySem.W.Frag} {mg : Str → Option Value} {base : Heap} {c : Nat → Addr} {ct_Linit pt_Linit R CL : Addr}
theorem D_atend (T : Txt K mg c R CL ct_Linit pt_Linit) : Def P w K mg base CX0 1 "row_at_end" ["size"] sp_atend := by
  refine def_of T.d_atend sc_atend (fun vs H Q E h => ?_) (fun _ _ _ _ _ _ us hl => match us, hl with | [_], _ => rfl) (fun f cdv A outer s H vs Q E hr h => ?_)
  · obtain ⟨s, rfl, _⟩ := h
    rfl
  · obtain ⟨s, rfl, hs, k⟩ := h
    have nd := sc_atend.nd
    refine ⟨_, (pss_one (ps_ret (pe_op op_catA (pe_lstA (pa_cons pe_int pa_nil)) (pe_op op_repA (pe_lstA (pa_cons pe_non pa_nil)) (pv 0))))), ?_⟩
    clear nd 
    rw [show start ["size"] [.int (s : Nat)] = [some (.int (s : Nat))] from rfl]
    try dsimp only [cx_K, cx_K2]
    have iL_many : FldOk K CL "many" := ⟨T.clL, T.aL_many⟩
    have iL_rows : FldOk K CL "rows" := ⟨T.clL, T.aL_rows⟩
    have F : SH H [] H [] [] := SH.nil
    repeat k_meth
    rw [show [V.int 0] ++ List.replicate s V.non = (endR s).map pV from (endR_V s).symm] at F
    exact k _ _ SH.nwC
theorem D_beside (T : Txt K mg c R CL ct_Linit pt_Linit) : Def P w K mg base CX0 2 "row_beside" ["block", "beyond", "cells", "size"] sp_beside := by
  have D_atend := D_atend (P := P) (w := w) (base := base) T
  refine def_of T.d_beside sc_beside (fun vs H Q E h => ?_) (fun _ _ _ _ _ _ us hl => match us, hl with | [_, _, _, _], _ => rfl) (fun f cdv A outer s H vs Q E hr h => ?_)
  · obtain ⟨q, l, r, b, c, s, rfl, _⟩ := h
    rfl
  · obtain ⟨q, l, r, b, c, s, rfl, hq, hl, bl, side, k⟩ := h
    have nd := sc_beside.nd
    refine ⟨_, (pss_cons (ps_set (i := 4) nd rfl (Or.inl rfl) (pe_def D_atend hr (pa_cons (pv 3) pa_nil)))
      (pss_cons (ps_if (pt_cmpR op_gt (pe_ix ix_tup (pv 0) pe_int (fun _ _ => rfl)) pe_int (nomark _)) (pss_one (ps_ret (pv 4))) pss_nil)
      (pss_cons (ps_for PassesOwn.never rfl (pi_range2 rfl T.n_range (pa_cons pe_int (pa_cons (pe_op op_add (pv 3) pe_int) pa_nil))) (pg_name (i := 5) nd rfl (Or.inl rfl)) (pss_cons (ps_set (i := 6) nd rfl (Or.inl rfl) (pe_ix ix_list (pv 1) (pe_callB (call_maxN rfl) rfl T.n_max boot_max (pa_cons pe_int (pa_cons (pe_op op_sub (pv 5) (pv 2)) pa_nil))) (fun _ _ => rfl)))
        (pss_one (ps_if (pt_cmpR op_notNN (pv 6) pe_non (nomark _)) (pss_one (ps_asg (pe_op op_add (pe_ix ix_tup (pv 0) pe_int (fun _ _ => rfl)) (pv 6)) (pg_sub (pv 4) (pv 5) set_listA))) pss_nil))))
      (pss_one (ps_ret (pv 4)))))), ?_⟩
    clear nd D_atend
    rw [show start ["block", "beyond", "cells", "size", "row", "longer", "price"] [.ref q, .ref l, .int c, .int (s : Nat)] = [some (.ref q), some (.ref l), some (.int c), some (.int (s : Nat)), none, none, none] from rfl]
    try dsimp only [cx_K, cx_K2]
    have iL_many : FldOk K CL "many" := ⟨T.clL, T.aL_many⟩
    have iL_rows : FldOk K CL "rows" := ⟨T.clL, T.aL_rows⟩
    have o_hq := Old.mk (M := []) hq nm0
    have o_hl := Old.mk (M := []) hl nm0
    have F : SH H [] H [] [] := SH.nil
    obtain ⟨s240, c0⟩ := side
    repeat k_meth
    refine i_dec (fun h => ?_) (fun h => ?_)
    · repeat k_meth
      rw [show endR s = besR r b c s from (if_pos (by omega)).symm] at F
      exact k _ _ SH.nwC
    repeat k_meth
    rename Addr => rw_
    rw [show ((s : Int) + 1 - 1).toNat = s by omega]
    refine forR_by (fun j σ' H' => ∃ (o5 o6 : Option V), σ' = [some (.ref q), some (.ref l), some (.int c), some (.int (s : Nat)), some (.ref rw_), o5, o6] ∧ SH H [] H' [(rw_, .lst ((prf r b c s j).map pV))] []) ⟨_, _, rfl, by rw [prf_zero]; exact F⟩ ?_ ?_
    · clear F
      rintro j σ' H' hj ⟨_, _, rfl, F⟩
      obtain ⟨y, hy⟩ : ∃ y, b[((((j + 1 : Nat) : Int)) - c).toNat]? = some y := ⟨_, List.getElem?_eq_getElem (by omega)⟩
      have at_y : AtI (b.map pV) (max 0 (1 + (j : Int) - c)) (pV y) := ⟨by
        rw [show max 0 (1 + (j : Int) - c) = (((((j + 1 : Nat) : Int)) - c).toNat : Int) by omega]
        exact atI_nat (by rw [List.getElem?_map, hy]; rfl)⟩
      have ev : besV r b c (j + 1) = y.map fun z => (r.sz : Int) + z := by unfold besV; rw [hy]; rfl
      have pl := prf_len (r := r) (b := b) (c := c) (s := s) (i := j) (by omega)
      cases y with
      | none =>
        have at_z : AtI (b.map pV) (max 0 (1 + (j : Int) - c)) .non := at_y
        repeat k_meth
        rw [prf_none hj ev]
        exact ⟨_, _, rfl, F⟩
      | some z =>
        have at_z : AtI (b.map pV) (max 0 (1 + (j : Int) - c)) (.int z) := at_y
        repeat k_meth
        rw [show (1 + (j : Int)).toNat = j + 1 by omega, show V.int ((r.sz : Int) + z) = pV (some ((r.sz : Int) + z)) from rfl, ← List.map_set] at F
        rw [prf_next hj, ev]
        exact ⟨_, _, rfl, F⟩
    · clear F
      rintro σ' H' ⟨_, _, rfl, F⟩
      rw [prf_all (by omega)] at F
      repeat k_meth
      exact k _ _ SH.nwC
end
instance go_beside {H : Hp} {Q : VK} {E : XK} {q l : Addr} {r : Rw} {b : PR} {c : Int} {s : Nat} [h : Hat H q (.tup (rowV r))] [h2 : Hat H l (.lst (b.map pV))] : Go (sp_beside [.ref q, .ref l, .int c, .int (s : Nat)] H Q E) (Sd (b.length = s + 1) (Sd (s ≤ 240 ∧ 0 ≤ c) (∀ z H', New H H' z (.lst ((besR r b c s).map pV)) → Q (.ref z) H'))) := ⟨fun k => ⟨q, l, r, b, c, s, rfl, h.e, h2.e, k.1, k.2.1, k.2.2⟩⟩
def LsAt (H : Hp) (ys : List V) (T : List PR) : Prop := ys.length = T.length ∧ ∀ (j : Nat) (r : PR), T[j]? = some r → ∃ q : Addr, ys[j]? = some (V.ref q) ∧ H q = some (.lst (r.map pV))
theorem LsAt.kept {H H' : Hp} {ys : List V} {T : List PR} (h : LsAt H ys T) (k : ∀ q u, V.ref q ∈ ys → H q = some u → H' q = some u) : LsAt H' ys T := ⟨h.1, fun j r e => by
  obtain ⟨q, a, b⟩ := h.2 j r e
  exact ⟨q, a, k q _ (List.mem_of_getElem? a) b⟩⟩
theorem LsAt.nil {H : Hp} : LsAt H [] [] := ⟨rfl, fun j r e => by cases e⟩
theorem LsAt.snoc {H : Hp} {ys : List V} {T : List PR} {q : Addr} {r : PR} (h : LsAt H ys T) (e : H q = some (.lst (r.map pV))) : LsAt H (ys ++ [.ref q]) (T ++ [r]) := by
  refine ⟨by simp [h.1], fun j r' e' => ?_⟩
  rcases Nat.lt_or_ge j T.length with hj | hj
  · rw [List.getElem?_append_left hj] at e'
    obtain ⟨q', a, b⟩ := h.2 j r' e'
    exact ⟨q', by rw [List.getElem?_append_left (by rw [h.1]; exact hj)]; exact a, b⟩
  · rw [List.getElem?_append_right hj] at e'
    cases h0 : j - T.length with
    | zero =>
      rw [h0] at e'
      cases e'
      exact ⟨q, by rw [List.getElem?_append_right (by rw [h.1]; exact hj), h.1, h0]; rfl, e⟩
    | succ d => rw [h0] at e'; simp at e'
theorem LsAt.rev {H : Hp} {ys : List V} {T : List PR} (h : LsAt H ys T) : LsAt H ys.reverse T.reverse := by
  refine ⟨by simp [h.1], fun j r e => ?_⟩
  have hj : j < T.length := by have := (List.getElem?_eq_some_iff.mp e).1; simpa using this
  rw [List.getElem?_reverse hj] at e
  obtain ⟨q, a, b⟩ := h.2 _ r e
  exact ⟨q, by rw [List.getElem?_reverse (by rw [h.1]; exact hj), h.1]; exact a, b⟩
def leftR (rs : List Rw) (gs : List Int) (s : Nat) : Nat → PR
  | 0 => endR s
  | i + 1 => match rs[i]? with
    | some r => besR r (leftR rs gs s i) (gs.getD i 0) s
    | none => endR s
def leftT (rs : List Rw) (gs : List Int) (s m : Nat) : List PR := (List.range (m + 1)).map (leftR rs gs s)
theorem leftR_len (rs : List Rw) (gs : List Int) (s i : Nat) : (leftR rs gs s i).length = s + 1 := by
  cases i with
  | zero => exact endR_len s
  | succ i =>
    unfold leftR
    cases rs[i]? with
    | none => exact endR_len s
    | some r => exact besR_len _ _ _ _
theorem leftT_next {rs : List Rw} {gs : List Int} {s m : Nat} {r : Rw} (h : rs[m]? = some r) : leftT rs gs s (m + 1) = leftT rs gs s m ++ [besR r (leftR rs gs s m) (gs.getD m 0) s] := by
  unfold leftT
  rw [List.range_succ, List.map_append, List.map_cons, List.map_nil]
  congr 2
  show leftR rs gs s (m + 1) = _
  rw [leftR, h]
theorem leftT_at {rs : List Rw} {gs : List Int} {s m : Nat} : (leftT rs gs s m)[m]? = some (leftR rs gs s m) := by
  unfold leftT
  rw [List.getElem?_map, List.getElem?_range (by omega)]
  rfl
def sp_left (CL : Addr) : Sp := fun vs H Q _ => ∃ (x p dx : Addr) (n : Nat) (zs : List V) (rs : List Rw) (s : Nat), vs = [.ref x, .int (s : Nat)] ∧ H x = some (.ins CL dx (lF (n : Nat) p)) ∧ H p = some (.lst zs) ∧ TupsAt H zs (rowsV rs) ∧ rs.length ≤ 40 ∧ s ≤ 240 ∧ (∀ g ∈ gapsOf n rs, 0 ≤ g) ∧ ∀ q ys H', Same H H' → H' q = some (.lst ys) → LsAt H' ys (leftT rs (gapsOf n rs) s rs.length) → (∀ a u, H a = some u → a ≠ q ∧ V.ref a ∉ ys) → V.ref q ∉ ys → Q (.ref q) H'
section
variable {P : Program} {w : World} {K : PySem.W.Frag} {mg : Str → Option Value} {base : Heap} {c : Nat → Addr} {ct_Linit pt_Linit R CL : Addr}
theorem D_left (T : Txt K mg c R CL ct_Linit pt_Linit) : Def P w K mg base CX0 3 "left_prices" ["layout", "size"] (sp_left CL) := by
  have D_gapsof := D_gapsof (P := P) (w := w) (base := base) T
  have D_atend := D_atend (P := P) (w := w) (base := base) T
  have MT_Lblocks := MT_Lblocks (P := P) (w := w) (base := base) T
  have D_beside := D_beside (P := P) (w := w) (base := base) T
  refine def_of T.d_left sc_left (fun vs H Q E h => ?_) (fun _ _ _ _ _ _ us hl => match us, hl with | [_, _], _ => rfl) (fun f cdv A outer s H vs Q E hr h => ?_)
  · obtain ⟨x, p, dx, n, zs, rs, s, rfl, _⟩ := h
    rfl
  · obtain ⟨x, p, dx, n, zs, rs, s, rfl, hx, hp, tp, few, s240, gpos, k⟩ := h
    have nd := sc_left.nd
    refine ⟨_, (pss_cons (ps_set (i := 2) nd rfl (Or.inl rfl) (pe_def D_gapsof hr (pa_cons (pv 0) pa_nil)))
      (pss_cons (ps_set (i := 3) nd rfl (Or.inl rfl) (pe_lstA (pa_cons (pe_def D_atend hr (pa_cons (pv 1) pa_nil)) pa_nil)))
      (pss_cons (ps_for PassesOwn.never rfl (pi_enum rfl T.n_enumerate (pa_cons (pe_met0 (pv 0) T.clL MT_Lblocks hr) pa_nil)) (pg_tup rfl (pgs_cons (pg_name (i := 4) nd rfl (Or.inl rfl)) (pgs_cons (pg_name (i := 5) nd rfl (Or.inl rfl)) pgs_nil))) (pss_one (ps_expr (pe_appendA (pv 3) (pe_def D_beside hr (pa_cons (pv 5) (pa_cons (pe_ix ix_list (pv 3) (pv 4) (fun _ _ => rfl)) (pa_cons (pe_ix ix_list (pv 2) (pv 4) (fun _ _ => rfl)) (pa_cons (pv 1) pa_nil)))))))))
      (pss_one (ps_ret (pv 3)))))), ?_⟩
    clear nd D_gapsof D_atend MT_Lblocks D_beside
    rw [show start ["layout", "size", "gaps", "table", "at", "block"] [.ref x, .int (s : Nat)] = [some (.ref x), some (.int (s : Nat)), none, none, none, none] from rfl]
    try dsimp only [cx_K, cx_K2]
    have iL_many : FldOk K CL "many" := ⟨T.clL, T.aL_many⟩
    have iL_rows : FldOk K CL "rows" := ⟨T.clL, T.aL_rows⟩
    have o_hx := Old.mk (M := []) hx nm0
    have o_hp := Old.mk (M := []) hp nm0
    have o_tp := OldP.mk tp
    have F : SH H [] H [] [] := SH.nil
    have few2 : rs.length ≤ 40 := few
    have yl : zs.length = rs.length := by rw [tp.1, rowsV_len]
    have gl_ : (gapsOf n rs).length = rs.length + 1 := by unfold gapsOf; rw [List.length_append, gp_len]; rfl
    repeat k_meth
    rename_i _ gl _ er _ tb
    rename Addr => bl
    have fre : ∀ a u, H a = some u → V.ref a ∉ [V.ref er] := fun a u e hm => by
      cases List.mem_singleton.mp hm
      exact F.fresh (LkL.m (o := .lst _)) nm0 er u e rfl
    refine forE_by (xs := zs) (fun i σ' H' => ∃ (o4 o5 : Option V) (ys : List V), σ' = [some (.ref x), some (.int (s : Nat)), some (.ref gl), some (.ref tb), o4, o5] ∧ LsAt H' ys (leftT rs (gapsOf n rs) s i) ∧ (∀ a u, H a = some u → V.ref a ∉ ys) ∧ V.ref tb ∉ ys ∧ SH H [] H' [(bl, .lst zs), (tb, .lst ys), (gl, .lst ((gapsOf n rs).map V.int))] []) ⟨_, _, [.ref er], rfl, LsAt.snoc LsAt.nil hatC, fre, fun hm => SH.neC (F := F) (a := tb) (b := er) (by simpa using hm), F.sub SbC.s (by simp)⟩ ?_ ?_ ?_
    · clear F
      rintro i σ' H' _ ⟨_, _, ys, rfl, _, _, _, F⟩
      exact SqA.e
    · clear F
      rintro i v T σ' H' H2 hv ⟨_, _, ys, rfl, ls, fr, nt, F⟩ nw
      obtain ⟨r, q1, e1, rfl, e2⟩ := rowsV_at tp hv
      obtain ⟨ql, hl, eql⟩ := ls.2 i _ leftT_at
      have sm0 := F.sm
      have ysl : ys.length < sizeLine := by
        have h1 := ls.1
        have h2 := (List.getElem?_eq_some_iff.mp e1).1
        unfold leftT at h1
        rw [List.length_map, List.length_range] at h1
        rw [sizeLine_eq]
        omega
      have htb : H' tb = some (.lst ys) := hatC
      have hgl : H' gl = some (.lst ((gapsOf n rs).map V.int)) := hatC
      have ne1 : gl ≠ tb := SH.neC (F := F)
      have e3 := F.sm _ _ e2
      have ne2 : q1 ≠ tb := fun z => by rw [z, htb] at e3; cases e3
      have ne3 : ql ≠ tb := fun z => nt (by rw [← z]; exact List.mem_of_getElem? hl)
      have back : ∀ (H4 : Hp) (zs2 : List V), Kp tb H' H4 → H4 tb = some (.lst zs2) → SH H [] H4 [(bl, .lst zs), (tb, .lst zs2), (gl, .lst ((gapsOf n rs).map V.int))] [] := fun H4 zs2 kp e => F.kpL kp e LkU.u
      clear F
      have F : SH H' [tb] H' [(tb, .lst ys)] [] := SH.nil.addM List.mem_cons_self htb rfl (by simp)
      have o_gl := Old.mk (M := [tb]) hgl (nm1 ne1)
      have o_q1 := Old.mk (M := [tb]) e3 (nm1 ne2)
      have o_ql := Old.mk (M := [tb]) eql (nm1 ne3)
      replace F := (F.same nw.s).addT nw.e
      have at_r : AtI ys ((i : Nat) : Int) (.ref ql) := ⟨atI_nat hl⟩
      obtain ⟨gv, hgv⟩ : ∃ gv, (gapsOf n rs)[i]? = some gv := ⟨_, List.getElem?_eq_getElem (by have := (List.getElem?_eq_some_iff.mp e1).1; omega)⟩
      have at_g : AtI ((gapsOf n rs).map V.int) ((i : Nat) : Int) (.int gv) := ⟨atI_nat (by rw [List.getElem?_map, hgv]; rfl)⟩
      have bl1 := leftR_len rs (gapsOf n rs) s i
      have sd1 : s ≤ 240 ∧ 0 ≤ gv := ⟨s240, gpos gv (List.mem_of_getElem? hgv)⟩
      repeat k_meth
      refine ⟨_, _, ys ++ [.ref p_], rfl, ?_, fun a u e hm => ?_, fun hm => ?_, back _ _ F.kpo hatC⟩
      · rw [leftT_next e1, show (gapsOf n rs).getD i 0 = gv by rw [List.getD_eq_getElem?_getD, hgv]; rfl]
        exact LsAt.snoc (ls.kept fun q u hm e => F.fr q u (nm1 fun z => nt (z ▸ hm)) e) hatC
      · rcases List.mem_append.mp hm with hm | hm
        · exact fr a u e hm
        · exact F.fresh (LkL.m (o := .lst _)) (nm1 (SH.neC (F := F))) a u (sm0 _ _ e) (by simpa using hm)
      · rcases List.mem_append.mp hm with hm | hm
        · exact nt hm
        · exact SH.neC (F := F) (a := tb) (b := p_) (by simpa using hm)
    · clear F
      rintro σ' H' ⟨_, _, ys, rfl, ls, fr, nt, F⟩
      rw [yl] at ls
      repeat k_meth
      exact k tb ys _ F.sm hatC ls (fun a u e => ⟨F.fresh (LkL.m (o := .lst _)) nm0 a u e, fr a u e⟩) nt
end
def rightR (rs : List Rw) (gs : List Int) (s : Nat) : Nat → PR
  | 0 => endR s
  | i + 1 => match rs[rs.length - 1 - i]? with
    | some r => besR r (rightR rs gs s i) (gs.getD (rs.length - i) 0) s
    | none => endR s
def rightT (rs : List Rw) (gs : List Int) (s m : Nat) : List PR := (List.range (m + 1)).map (rightR rs gs s)
theorem rightR_len (rs : List Rw) (gs : List Int) (s i : Nat) : (rightR rs gs s i).length = s + 1 := by
  cases i with
  | zero => exact endR_len s
  | succ i =>
    unfold rightR
    cases rs[rs.length - 1 - i]? with
    | none => exact endR_len s
    | some r => exact besR_len _ _ _ _
theorem rightT_next {rs : List Rw} {gs : List Int} {s m : Nat} {r : Rw} (h : rs[rs.length - 1 - m]? = some r) : rightT rs gs s (m + 1) = rightT rs gs s m ++ [besR r (rightR rs gs s m) (gs.getD (rs.length - m) 0) s] := by
  unfold rightT
  rw [List.range_succ, List.map_append, List.map_cons, List.map_nil]
  congr 2
  show rightR rs gs s (m + 1) = _
  rw [rightR, h]
theorem rightT_at {rs : List Rw} {gs : List Int} {s m : Nat} : (rightT rs gs s m)[m]? = some (rightR rs gs s m) := by
  unfold rightT
  rw [List.getElem?_map, List.getElem?_range (by omega)]
  rfl
theorem at_last {ys : List V} {v : V} {n : Nat} (hn : ys.length = n + 1) (h : ys[n]? = some v) : AtI ys (-1) v := ⟨by
  unfold atI ixN
  rw [if_neg (by decide), if_pos (by omega), Option.bind_some, show (-1 + (ys.length : Int)).toNat = n by omega]
  exact h⟩
instance go_lrev {K : PySem.W.Frag} {ta : TA} {σ : L2.St} {H : Hp} {Q : VK} : Go (tLRev K ta σ H Q) (ta σ H fun vs H1 => ∃ a xs, vs = [.ref a] ∧ SqL K H1 a xs ∧ ∀ l H', New H1 H' l (.lst xs.reverse) → Q (.ref l) H') := ⟨id⟩
theorem LsAt.has {H : Hp} {ys : List V} {T : List PR} {q : Addr} (h : LsAt H ys T) (hm : V.ref q ∈ ys) : ∃ u, H q = some u := by
  obtain ⟨j, hj⟩ := List.getElem?_of_mem hm
  have hl : j < T.length := by have := (List.getElem?_eq_some_iff.mp hj).1; rw [h.1] at this; exact this
  obtain ⟨q', a, b⟩ := h.2 j _ (List.getElem?_eq_getElem hl)
  rw [hj] at a
  cases a
  exact ⟨_, b⟩
def sp_right (CL : Addr) : Sp := fun vs H Q _ => ∃ (x p dx : Addr) (n : Nat) (zs : List V) (rs : List Rw) (s : Nat), vs = [.ref x, .int (s : Nat)] ∧ H x = some (.ins CL dx (lF (n : Nat) p)) ∧ H p = some (.lst zs) ∧ TupsAt H zs (rowsV rs) ∧ rs.length ≤ 40 ∧ s ≤ 240 ∧ (∀ g ∈ gapsOf n rs, 0 ≤ g) ∧ ∀ q ys H', Same H H' → H' q = some (.lst ys) → LsAt H' ys (rightT rs (gapsOf n rs) s rs.length).reverse → (∀ a u, H a = some u → a ≠ q ∧ V.ref a ∉ ys) → V.ref q ∉ ys → Q (.ref q) H'
section
variable {P : Program} {w : World} {K : PySem.W.Frag} {mg : Str → Option Value} {base : Heap} {c : Nat → Addr} {ct_Linit pt_Linit R CL : Addr}
theorem D_right (T : Txt K mg c R CL ct_Linit pt_Linit) : Def P w K mg base CX0 3 "right_prices" ["layout", "size"] (sp_right CL) := by
  have D_gapsof := D_gapsof (P := P) (w := w) (base := base) T
  have MT_Lblocks := MT_Lblocks (P := P) (w := w) (base := base) T
  have D_atend := D_atend (P := P) (w := w) (base := base) T
  have D_beside := D_beside (P := P) (w := w) (base := base) T
  refine def_of T.d_right sc_right (fun vs H Q E h => ?_) (fun _ _ _ _ _ _ us hl => match us, hl with | [_, _], _ => rfl) (fun f cdv A outer s H vs Q E hr h => ?_)
  · obtain ⟨x, p, dx, n, zs, rs, s, rfl, _⟩ := h
    rfl
  · obtain ⟨x, p, dx, n, zs, rs, s, rfl, hx, hp, tp, few, s240, gpos, k⟩ := h
    have nd := sc_right.nd
    refine ⟨_, (pss_cons (ps_set (i := 2) nd rfl (Or.inl rfl) (pe_def D_gapsof hr (pa_cons (pv 0) pa_nil)))
      (pss_cons (ps_set (i := 3) nd rfl (Or.inl rfl) (pe_met0 (pv 0) T.clL MT_Lblocks hr))
      (pss_cons (ps_set (i := 4) nd rfl (Or.inl rfl) (pe_lstA (pa_cons (pe_def D_atend hr (pa_cons (pv 1) pa_nil)) pa_nil)))
      (pss_cons (ps_for PassesOwn.never rfl (pi_rangeD rfl T.n_range (pa_cons (pe_op op_sub (pe_callB call_lenN rfl T.n_len boot_len (pa_cons (pv 3) pa_nil)) pe_int) (pa_cons (pe_un un_neg pe_int) (pa_cons (pe_un un_neg pe_int) pa_nil)))) (pg_name (i := 5) nd rfl (Or.inl rfl)) (pss_one (ps_expr (pe_appendA (pv 4) (pe_def D_beside hr (pa_cons (pe_ix ix_list (pv 3) (pv 5) (fun _ _ => rfl)) (pa_cons (pe_ix ix_list (pv 4) (pe_un un_neg pe_int) (fun _ _ => rfl)) (pa_cons (pe_ix ix_list (pv 2) (pe_op op_add (pv 5) pe_int) (fun _ _ => rfl)) (pa_cons (pv 1) pa_nil)))))))))
      (pss_one (ps_ret (pe_listRev rfl rfl T.n_list rfl T.n_reversed (pa_cons (pv 4) pa_nil)))))))), ?_⟩
    clear nd D_gapsof MT_Lblocks D_atend D_beside
    rw [show start ["layout", "size", "gaps", "blocks", "falling", "at"] [.ref x, .int (s : Nat)] = [some (.ref x), some (.int (s : Nat)), none, none, none, none] from rfl]
    try dsimp only [cx_K, cx_K2]
    have iL_many : FldOk K CL "many" := ⟨T.clL, T.aL_many⟩
    have iL_rows : FldOk K CL "rows" := ⟨T.clL, T.aL_rows⟩
    have o_hx := Old.mk (M := []) hx nm0
    have o_hp := Old.mk (M := []) hp nm0
    have o_tp := OldP.mk tp
    have F : SH H [] H [] [] := SH.nil
    have few2 : rs.length ≤ 40 := few
    have yl : zs.length = rs.length := by rw [tp.1, rowsV_len]
    have gl_ : (gapsOf n rs).length = rs.length + 1 := by unfold gapsOf; rw [List.length_append, gp_len]; rfl
    repeat k_meth
    rename_i _ gl _ bl _ er
    rename Addr => tb
    have fre : ∀ a u, H a = some u → V.ref a ∉ [V.ref er] := fun a u e hm => by
      cases List.mem_singleton.mp hm
      exact F.fresh (LkL.m (o := .lst _)) nm0 er u e rfl
    rw [show ((zs.length : Int) - 1 + 1).toNat = rs.length by omega]
    refine forS_by (fun i σ' H' => ∃ (o5 : Option V) (ys : List V), σ' = [some (.ref x), some (.int (s : Nat)), some (.ref gl), some (.ref bl), some (.ref tb), o5] ∧ LsAt H' ys (rightT rs (gapsOf n rs) s i) ∧ (∀ a u, H a = some u → V.ref a ∉ ys) ∧ V.ref tb ∉ ys ∧ SH H [] H' [(bl, .lst zs), (tb, .lst ys), (gl, .lst ((gapsOf n rs).map V.int))] []) ⟨_, [.ref er], rfl, LsAt.snoc LsAt.nil hatC, fre, fun hm => SH.neC (F := F) (a := tb) (b := er) (by simpa using hm), F.sub SbC.s (by simp)⟩ ?_ ?_
    · clear F
      rintro i σ' H' hi ⟨_, ys, rfl, ls, fr, nt, F⟩
      obtain ⟨r, e1⟩ : ∃ r, rs[rs.length - 1 - i]? = some r := ⟨_, List.getElem?_eq_getElem (by omega)⟩
      obtain ⟨v, hv⟩ : ∃ v, zs[rs.length - 1 - i]? = some v := ⟨_, List.getElem?_eq_getElem (by omega)⟩
      obtain ⟨r', q1, e1', rfl, e2⟩ := rowsV_at tp hv
      rw [e1] at e1'
      cases e1'
      obtain ⟨ql, hl, eql⟩ := ls.2 i _ rightT_at
      have ysn : ys.length = i + 1 := by
        have h1 := ls.1
        unfold rightT at h1
        rw [List.length_map, List.length_range] at h1
        exact h1
      have sm0 := F.sm
      have ysl : ys.length < sizeLine := by rw [sizeLine_eq]; omega
      have htb : H' tb = some (.lst ys) := hatC
      have hgl : H' gl = some (.lst ((gapsOf n rs).map V.int)) := hatC
      have hbl : H' bl = some (.lst zs) := hatC
      have ne1 : gl ≠ tb := SH.neC (F := F)
      have ne4 : bl ≠ tb := SH.neC (F := F)
      have e3 := F.sm _ _ e2
      have ne2 : q1 ≠ tb := fun z => by rw [z, htb] at e3; cases e3
      have ne3 : ql ≠ tb := fun z => nt (by rw [← z]; exact List.mem_of_getElem? hl)
      have back : ∀ (H4 : Hp) (zs2 : List V), Kp tb H' H4 → H4 tb = some (.lst zs2) → SH H [] H4 [(bl, .lst zs), (tb, .lst zs2), (gl, .lst ((gapsOf n rs).map V.int))] [] := fun H4 zs2 kp e => F.kpL kp e LkU.u
      clear F
      have F : SH H' [tb] H' [(tb, .lst ys)] [] := SH.nil.addM List.mem_cons_self htb rfl (by simp)
      have o_gl := Old.mk (M := [tb]) hgl (nm1 ne1)
      have o_bl := Old.mk (M := [tb]) hbl (nm1 ne4)
      have o_q1 := Old.mk (M := [tb]) e3 (nm1 ne2)
      have o_ql := Old.mk (M := [tb]) eql (nm1 ne3)
      have at_r : AtI ys (-1) (.ref ql) := at_last ysn hl
      have at_b : AtI zs ((zs.length : Int) - 1 + (i : Int) * (-1)) (.ref q1) := ⟨by rw [show (zs.length : Int) - 1 + (i : Int) * (-1) = ((rs.length - 1 - i : Nat) : Int) by omega]; exact atI_nat hv⟩
      obtain ⟨gv, hgv⟩ : ∃ gv, (gapsOf n rs)[rs.length - i]? = some gv := ⟨_, List.getElem?_eq_getElem (by omega)⟩
      have at_g : AtI ((gapsOf n rs).map V.int) ((zs.length : Int) - 1 + (i : Int) * (-1) + 1) (.int gv) := ⟨by rw [show (zs.length : Int) - 1 + (i : Int) * (-1) + 1 = ((rs.length - i : Nat) : Int) by omega]; exact atI_nat (by rw [List.getElem?_map, hgv]; rfl)⟩
      have bl1 := rightR_len rs (gapsOf n rs) s i
      have sd1 : s ≤ 240 ∧ 0 ≤ gv := ⟨s240, gpos gv (List.mem_of_getElem? hgv)⟩
      repeat k_meth
      refine ⟨_, ys ++ [.ref p_], rfl, ?_, fun a u e hm => ?_, fun hm => ?_, back _ _ F.kpo hatC⟩
      · rw [rightT_next e1, show (gapsOf n rs).getD (rs.length - i) 0 = gv by rw [List.getD_eq_getElem?_getD, hgv]; rfl]
        exact LsAt.snoc (ls.kept fun q u hm e => F.fr q u (nm1 fun z => nt (z ▸ hm)) e) hatC
      · rcases List.mem_append.mp hm with hm | hm
        · exact fr a u e hm
        · exact F.fresh (LkL.m (o := .lst _)) (nm1 (SH.neC (F := F))) a u (sm0 _ _ e) (by simpa using hm)
      · rcases List.mem_append.mp hm with hm | hm
        · exact nt hm
        · exact SH.neC (F := F) (a := tb) (b := p_) (by simpa using hm)
    · clear F
      rintro σ' H' ⟨_, ys, rfl, ls, fr, nt, F⟩
      repeat k_meth
      refine ⟨tb, ys, rfl, SqA.e, fun q H2 nw => ?_⟩
      have sm0 := F.sm
      refine k q _ _ (sm0.trans nw.s) nw.e (ls.kept fun q u _ e => nw.s _ _ e).rev (fun a u e => ⟨nw.n a u (sm0 _ _ e), fun hm => fr a u e (List.mem_reverse.mp hm)⟩) fun hm => ?_
      obtain ⟨u, hu⟩ := ls.has (List.mem_reverse.mp hm)
      exact nw.n q u hu rfl
end
theorem comp_VT {K : PySem.W.Frag} {l : Addr} {xs : List V} {σ fvs : L2.St} {H : Hp} {Q : VK} {te : TE} {fr : List Nat} {b : Bool} (hq : SqT K H l xs) (hz : xs.length ≤ 1000000) (hf : (fr.map fun i => (σ[i]?).getD none) = fvs)
    (turn : ∀ (v : V) (H' : Hp) (R : VK), v ∈ xs → Same H H' → (∀ H2, Same H' H2 → R (.bl b) H2) → te (some v :: fvs) H' R)
    (k : ∀ p H' (bs : List Bool), New H H' p (.lst (bs.map V.bl)) → (∀ c ∈ bs, c = b) → Q (.ref p) H') : CompAll (Itt K l) 1 fr (gName 0) tTrue te σ H Q := by
  refine comp_map (P := fun i y => y = .bl b) (items_tup (xs := xs)) hz hf (fun H' s => s.tup hq) (fun i v H' R hv s kk => turn v H' R (List.mem_of_getElem? hv) s fun H2 s2 => kk _ _ s2 rfl) fun p H' ys n hl hP => ?_
  have e : ys = (ys.map fun _ => b).map V.bl := by
    apply List.ext_getElem?
    intro i
    rw [List.getElem?_map, List.getElem?_map]
    cases h : ys[i]? with
    | none => rfl
    | some y => rw [hP i y h]; rfl
  rw [e] at n
  exact k p H' _ n fun c hc => by obtain ⟨_, _, rfl⟩ := List.mem_map.mp hc; rfl
def sp_no : Sp := fun _ _ _ _ => False
def sp_tr0 : Sp := fun vs H Q _ => ∃ o : Option Int, vs = [pV o] ∧ ∀ H', Same H H' → Q (.bl false) H'
def sp_tr1 : Sp := fun vs H Q _ => ∃ (q : Addr) (r : PR), vs = [.ref q] ∧ H q = some (.lst (r.map pV)) ∧ r.length ≤ 1000 ∧ ∀ H', Same H H' → Q (.bl false) H'
def sp_tr2 : Sp := fun vs H Q _ => ∃ (l : Addr) (ys : List V) (T : List PR), vs = [.ref l] ∧ H l = some (.lst ys) ∧ LsAt H ys T ∧ (ys.length ≤ 1000 ∧ ∀ r ∈ T, List.length r ≤ 1000) ∧ ∀ H', Same H H' → Q (.bl false) H'
def sp_tr3 : Sp := fun vs H Q _ => ∃ (t l m : Addr) (ys zs : List V) (T U : List PR), vs = [.ref t] ∧ H t = some (.tup [.ref l, .ref m]) ∧ H l = some (.lst ys) ∧ LsAt H ys T ∧ H m = some (.lst zs) ∧ LsAt H zs U ∧ (ys.length ≤ 1000 ∧ ∀ r ∈ T, List.length r ≤ 1000) ∧ (zs.length ≤ 1000 ∧ ∀ r ∈ U, List.length r ≤ 1000) ∧ ∀ H', Same H H' → Q (.bl false) H'
theorem no_any {α : Type} (xs : List α) : (xs.map fun _ => false).any id = false := by
  induction xs with
  | nil => rfl
  | cons a t ih => rw [List.map_cons, List.any_cons, ih]; rfl
section
variable {P : Program} {w : World} {K : PySem.W.Frag} {mg : Str → Option Value} {base : Heap} {c : Nat → Addr} {ct_Linit pt_Linit R CL : Addr}
theorem D_truthZ (T : Txt K mg c R CL ct_Linit pt_Linit) : Def P w K mg base CX0 1 "has_truth" ["thing"] sp_no := by
  refine def_of T.d_truth sc_truth (fun vs H Q E h => h.elim) (fun _ _ _ _ _ _ us hl => match us, hl with | [_], _ => rfl) (fun f cdv A outer s H vs Q E hr h => h.elim)
theorem D_truth0 (T : Txt K mg c R CL ct_Linit pt_Linit) : Def P w K mg base CX0 2 "has_truth" ["thing"] sp_tr0 := by
  refine def_of T.d_truth sc_truth (fun vs H Q E h => ?_) (fun _ _ _ _ _ _ us hl => match us, hl with | [_], _ => rfl) (fun f cdv A outer s H vs Q E hr h => ?_)
  · obtain ⟨o, rfl, _⟩ := h
    rfl
  · obtain ⟨o, rfl, k⟩ := h
    have nd := sc_truth.nd
    refine ⟨_, (pss_cons (ps_if (pt_val (pe_callB call_isLT rfl T.n_isinstance boot_isinstance (pa_cons (pv 0) (pa_cons (pe_tupA (pa_cons (pe_ty (T := "list") rfl T.n_list boot_list) (pa_cons (pe_ty (T := "tuple") rfl T.n_tuple boot_tuple) pa_nil))) pa_nil)))) (pss_one (ps_ret (pe_callB (call_any rfl) rfl T.n_any boot_any (pa_cons (pe_comp (N := ["part"]) (nt := 1) (fr := []) (pi_list (pv 0)) (fun _ _ _ _ => (pg_name (i := 0) (show (["part"] : List Str).Nodup from by decide +kernel) rfl (Or.inl rfl))) (fun _ _ _ _ => pif_nil) (fun _ _ _ _ => (pe_def (D_truthZ (P := P) (w := w) (base := base) T) hr (pa_cons (pv 0) pa_nil)))) pa_nil)))) pss_nil)
      (pss_one (ps_ret (pe_callB call_isT rfl T.n_isinstance boot_isinstance (pa_cons (pv 0) (pa_cons (pe_ty (T := "bool") rfl T.n_bool boot_bool) pa_nil)))))), ?_⟩
    clear nd 
    rw [show start ["thing"] [pV o] = [some (pV o)] from rfl]
    try dsimp only [cx_K, cx_K2]
    have iL_many : FldOk K CL "many" := ⟨T.clL, T.aL_many⟩
    have iL_rows : FldOk K CL "rows" := ⟨T.clL, T.aL_rows⟩
    have F : SH H [] H [] [] := SH.nil
    cases o with
    | none =>
      dsimp only [pV]
      repeat k_meth
      exact k _ F.sm
    | some i =>
      dsimp only [pV]
      repeat k_meth
      exact k _ F.sm
theorem D_truth1 (T : Txt K mg c R CL ct_Linit pt_Linit) : Def P w K mg base CX0 3 "has_truth" ["thing"] sp_tr1 := by
  refine def_of T.d_truth sc_truth (fun vs H Q E h => ?_) (fun _ _ _ _ _ _ us hl => match us, hl with | [_], _ => rfl) (fun f cdv A outer s H vs Q E hr h => ?_)
  · obtain ⟨q, r, rfl, _⟩ := h
    rfl
  · obtain ⟨q, r, rfl, hq, hr1, k⟩ := h
    have nd := sc_truth.nd
    refine ⟨_, (pss_cons (ps_if (pt_val (pe_callB call_isLT rfl T.n_isinstance boot_isinstance (pa_cons (pv 0) (pa_cons (pe_tupA (pa_cons (pe_ty (T := "list") rfl T.n_list boot_list) (pa_cons (pe_ty (T := "tuple") rfl T.n_tuple boot_tuple) pa_nil))) pa_nil)))) (pss_one (ps_ret (pe_callB (call_any rfl) rfl T.n_any boot_any (pa_cons (pe_comp (N := ["part"]) (nt := 1) (fr := []) (pi_list (pv 0)) (fun _ _ _ _ => (pg_name (i := 0) (show (["part"] : List Str).Nodup from by decide +kernel) rfl (Or.inl rfl))) (fun _ _ _ _ => pif_nil) (fun _ _ _ _ => (pe_def (D_truth0 (P := P) (w := w) (base := base) T) hr (pa_cons (pv 0) pa_nil)))) pa_nil)))) pss_nil)
      (pss_one (ps_ret (pe_callB call_isT rfl T.n_isinstance boot_isinstance (pa_cons (pv 0) (pa_cons (pe_ty (T := "bool") rfl T.n_bool boot_bool) pa_nil)))))), ?_⟩
    clear nd 
    rw [show start ["thing"] [.ref q] = [some (.ref q)] from rfl]
    try dsimp only [cx_K, cx_K2]
    have iL_many : FldOk K CL "many" := ⟨T.clL, T.aL_many⟩
    have iL_rows : FldOk K CL "rows" := ⟨T.clL, T.aL_rows⟩
    have o_hq := Old.mk (M := []) hq nm0
    have F : SH H [] H [] [] := SH.nil
    repeat k_meth
    refine comp_V (F := fun _ => .bl false) (xs := r.map pV) SqA.e (by rw [List.length_map]; omega) rfl (fun v H' R hv s kk => ?_) fun z H2 nw => ?_
    · obtain ⟨o, _, rfl⟩ := List.mem_map.mp hv
      clear F
      have F : SH H' [] H' [] [] := SH.nil
      repeat k_meth
      exact ⟨o, rfl, fun H2 s2 => kk H2 s2⟩
    · rw [List.map_map, show (fun _ => V.bl false) ∘ pV = V.bl ∘ (fun _ => false) from rfl, ← List.map_map] at nw
      replace F := F.newL nw
      repeat k_meth
      refine ⟨z, _, rfl, SqA.e, ?_⟩
      rw [no_any]
      exact k _ F.sm
theorem D_truth2 (T : Txt K mg c R CL ct_Linit pt_Linit) : Def P w K mg base CX0 4 "has_truth" ["thing"] sp_tr2 := by
  refine def_of T.d_truth sc_truth (fun vs H Q E h => ?_) (fun _ _ _ _ _ _ us hl => match us, hl with | [_], _ => rfl) (fun f cdv A outer s H vs Q E hr h => ?_)
  · obtain ⟨l, ys, T_, rfl, _⟩ := h
    rfl
  · obtain ⟨l, ys, T_, rfl, hl, ls, side, k⟩ := h
    have nd := sc_truth.nd
    refine ⟨_, (pss_cons (ps_if (pt_val (pe_callB call_isLT rfl T.n_isinstance boot_isinstance (pa_cons (pv 0) (pa_cons (pe_tupA (pa_cons (pe_ty (T := "list") rfl T.n_list boot_list) (pa_cons (pe_ty (T := "tuple") rfl T.n_tuple boot_tuple) pa_nil))) pa_nil)))) (pss_one (ps_ret (pe_callB (call_any rfl) rfl T.n_any boot_any (pa_cons (pe_comp (N := ["part"]) (nt := 1) (fr := []) (pi_list (pv 0)) (fun _ _ _ _ => (pg_name (i := 0) (show (["part"] : List Str).Nodup from by decide +kernel) rfl (Or.inl rfl))) (fun _ _ _ _ => pif_nil) (fun _ _ _ _ => (pe_def (D_truth1 (P := P) (w := w) (base := base) T) hr (pa_cons (pv 0) pa_nil)))) pa_nil)))) pss_nil)
      (pss_one (ps_ret (pe_callB call_isT rfl T.n_isinstance boot_isinstance (pa_cons (pv 0) (pa_cons (pe_ty (T := "bool") rfl T.n_bool boot_bool) pa_nil)))))), ?_⟩
    clear nd 
    rw [show start ["thing"] [.ref l] = [some (.ref l)] from rfl]
    try dsimp only [cx_K, cx_K2]
    have iL_many : FldOk K CL "many" := ⟨T.clL, T.aL_many⟩
    have iL_rows : FldOk K CL "rows" := ⟨T.clL, T.aL_rows⟩
    have o_hl := Old.mk (M := []) hl nm0
    have F : SH H [] H [] [] := SH.nil
    repeat k_meth
    refine comp_V (F := fun _ => .bl false) (xs := ys) SqA.e (by omega) rfl (fun v H' R hv s kk => ?_) fun z H2 nw => ?_
    · obtain ⟨j, hj⟩ := List.getElem?_of_mem hv
      have hjl : j < T_.length := by have := (List.getElem?_eq_some_iff.mp hj).1; rw [ls.1] at this; exact this
      obtain ⟨q, a, b⟩ := ls.2 j _ (List.getElem?_eq_getElem hjl)
      rw [hj] at a
      cases a
      have b2 := s _ _ (F.sm _ _ b)
      clear F
      have F : SH H' [] H' [] [] := SH.nil
      repeat k_meth
      exact ⟨q, _, rfl, b2, side.2 _ (List.getElem_mem hjl), fun H2 s2 => kk H2 s2⟩
    · rw [show ys.map (fun _ => V.bl false) = (ys.map fun _ => false).map V.bl by rw [List.map_map]; rfl] at nw
      replace F := F.newL nw
      repeat k_meth
      refine ⟨z, _, rfl, SqA.e, ?_⟩
      rw [no_any]
      exact k _ F.sm
theorem D_truth (T : Txt K mg c R CL ct_Linit pt_Linit) : Def P w K mg base CX0 5 "has_truth" ["thing"] sp_tr3 := by
  refine def_of T.d_truth sc_truth (fun vs H Q E h => ?_) (fun _ _ _ _ _ _ us hl => match us, hl with | [_], _ => rfl) (fun f cdv A outer s H vs Q E hr h => ?_)
  · obtain ⟨t, l, m, ys, zs, T_, U_, rfl, _⟩ := h
    rfl
  · obtain ⟨t, l, m, ys, zs, T_, U_, rfl, ht, hl, ls, hm, ms, side, side2, k⟩ := h
    have nd := sc_truth.nd
    refine ⟨_, (pss_cons (ps_if (pt_val (pe_callB call_isLT rfl T.n_isinstance boot_isinstance (pa_cons (pv 0) (pa_cons (pe_tupA (pa_cons (pe_ty (T := "list") rfl T.n_list boot_list) (pa_cons (pe_ty (T := "tuple") rfl T.n_tuple boot_tuple) pa_nil))) pa_nil)))) (pss_one (ps_ret (pe_callB (call_any rfl) rfl T.n_any boot_any (pa_cons (pe_comp (N := ["part"]) (nt := 1) (fr := []) (pi_tup (pv 0)) (fun _ _ _ _ => (pg_name (i := 0) (show (["part"] : List Str).Nodup from by decide +kernel) rfl (Or.inl rfl))) (fun _ _ _ _ => pif_nil) (fun _ _ _ _ => (pe_def (D_truth2 (P := P) (w := w) (base := base) T) hr (pa_cons (pv 0) pa_nil)))) pa_nil)))) pss_nil)
      (pss_one (ps_ret (pe_callB call_isT rfl T.n_isinstance boot_isinstance (pa_cons (pv 0) (pa_cons (pe_ty (T := "bool") rfl T.n_bool boot_bool) pa_nil)))))), ?_⟩
    clear nd 
    rw [show start ["thing"] [.ref t] = [some (.ref t)] from rfl]
    try dsimp only [cx_K, cx_K2]
    have iL_many : FldOk K CL "many" := ⟨T.clL, T.aL_many⟩
    have iL_rows : FldOk K CL "rows" := ⟨T.clL, T.aL_rows⟩
    have o_ht := Old.mk (M := []) ht nm0
    have o_hl := Old.mk (M := []) hl nm0
    have o_hm := Old.mk (M := []) hm nm0
    have F : SH H [] H [] [] := SH.nil
    repeat k_meth
    refine comp_VT (b := false) (SqT.of hatC) (by simp) rfl (fun v H' R hv s kk => ?_) fun z H2 bs nw hb => ?_
    · have s2 := F.sm.trans s
      clear F
      have F : SH H' [] H' [] [] := SH.nil
      rcases (show v = .ref l ∨ v = .ref m by simpa using hv) with rfl | rfl
      · repeat k_meth
        exact ⟨l, ys, T_, rfl, s2 _ _ hl, ls.kept fun q u _ e => s2 _ _ e, side, fun H2 s2 => kk H2 s2⟩
      · repeat k_meth
        exact ⟨m, zs, U_, rfl, s2 _ _ hm, ms.kept fun q u _ e => s2 _ _ e, side2, fun H2 s2 => kk H2 s2⟩
    · replace F := F.newL nw
      repeat k_meth
      refine ⟨z, _, rfl, SqA.e, ?_⟩
      rw [show bs.any id = false from List.any_eq_false.mpr fun c hc => by rw [hb c hc]; simp]
      exact k _ F.sm
end
structure Tab (H : Hp) (t l m : Addr) (ys zs : List V) (T U : List PR) : Prop where
  t : H t = some (.tup [.ref l, .ref m])
  l : H l = some (.lst ys)
  a : LsAt H ys T
  m : H m = some (.lst zs)
  b : LsAt H zs U
theorem Tab.same {H H' : Hp} {t l m : Addr} {ys zs : List V} {T U : List PR} (h : Tab H t l m ys zs T U) (s : Same H H') : Tab H' t l m ys zs T U := ⟨s _ _ h.t, s _ _ h.l, h.a.kept fun q u _ e => s _ _ e, s _ _ h.m, h.b.kept fun q u _ e => s _ _ e⟩
def rowD (r : PR) : Dt := .lst (r.map fun o => flatDt (pV o))
def tabD (T U : List PR) : Dt := .tup [.lst (T.map rowD), .lst (U.map rowD)]
theorem pV_flat (o : Option Int) : isFlat (pV o) = true := by cases o <;> rfl
theorem reps_ls {K : PySem.W.Frag} {H : Hp} : ∀ {T : List PR} {ys : List V}, LsAt H ys T → Reps K H (T.map rowD) ys
  | [], ys, h => by
    have : ys = [] := List.eq_nil_of_length_eq_zero h.1
    subst this
    simp [Reps]
  | r :: T, [], h => by simp [LsAt] at h
  | r :: T, y :: ys, h => by
    obtain ⟨q, e, hq⟩ := h.2 0 r rfl
    cases e
    simp only [List.map_cons, Reps]
    refine ⟨_, _, rfl, ?_, reps_ls (T := T) (ys := ys) ⟨by have := h.1; simpa using this, fun j r' e => h.2 (j + 1) r' e⟩⟩
    unfold rowD
    simp only [Rep]
    refine ⟨q, _, rfl, SqL.of hq, ?_⟩
    rw [show (r.map fun o => flatDt (pV o)) = (r.map pV).map flatDt by rw [List.map_map]; rfl]
    exact reps_flat fun v hv => by obtain ⟨o, _, rfl⟩ := List.mem_map.mp hv; exact pV_flat o
theorem rep_tab {K : PySem.W.Frag} {H : Hp} {t l m : Addr} {ys zs : List V} {T U : List PR} (h : Tab H t l m ys zs T U) : Rep K H (tabD T U) (.ref t) := by
  unfold tabD
  simp only [Rep, Reps]
  exact ⟨t, _, rfl, SqT.of h.t, _, _, rfl, ⟨l, ys, rfl, SqL.of h.l, reps_ls h.a⟩, _, _, rfl, ⟨m, zs, rfl, SqL.of h.m, reps_ls h.b⟩, rfl⟩
theorem dep_row (r : PR) : depD (rowD r) = 1 := by
  unfold rowD
  rw [show (r.map fun o => flatDt (pV o)) = (r.map pV).map flatDt by rw [List.map_map]; rfl]
  simp only [depD, dep_flat]
theorem dep_rowsP : ∀ T : List PR, depDs (T.map rowD) ≤ 1
  | [] => by decide
  | r :: T => by
    have h := dep_rowsP T
    rw [List.map_cons]
    simp only [depDs, dep_row]
    omega
theorem dep_tab (T U : List PR) : depD (tabD T U) ≤ 100 := by
  have h1 := dep_rowsP T
  have h2 := dep_rowsP U
  unfold tabD
  simp only [depD, depDs]
  omega
theorem leftT_len {rs : List Rw} {gs : List Int} {s m : Nat} : (leftT rs gs s m).length = m + 1 ∧ ∀ r ∈ leftT rs gs s m, List.length r = s + 1 := by
  unfold leftT
  refine ⟨by simp, fun r hr => ?_⟩
  obtain ⟨i, _, rfl⟩ := List.mem_map.mp hr
  exact leftR_len _ _ _ _
theorem rightT_len {rs : List Rw} {gs : List Int} {s m : Nat} : (rightT rs gs s m).reverse.length = m + 1 ∧ ∀ r ∈ (rightT rs gs s m).reverse, List.length r = s + 1 := by
  unfold rightT
  refine ⟨by simp, fun r hr => ?_⟩
  obtain ⟨i, _, rfl⟩ := List.mem_map.mp (List.mem_reverse.mp hr)
  exact rightR_len _ _ _ _
structure LayS (CL : Addr) (H : Hp) (x p dx : Addr) (n : Nat) (zs : List V) (rs : List Rw) (s : Nat) : Prop where
  x : H x = some (.ins CL dx (lF (n : Nat) p))
  p : H p = some (.lst zs)
  t : TupsAt H zs (rowsV rs)
  few : rs.length ≤ 40
  s1 : 1 ≤ s
  s2 : s ≤ 240
  g : ∀ g ∈ gapsOf n rs, 0 ≤ g
theorem LayS.same {CL : Addr} {H H' : Hp} {x p dx : Addr} {n : Nat} {zs : List V} {rs : List Rw} {s : Nat} (h : LayS CL H x p dx n zs rs s) (sm : Same H H') : LayS CL H' x p dx n zs rs s := ⟨sm _ _ h.x, sm _ _ h.p, h.t.same sm, h.few, h.s1, h.s2, h.g⟩
def sp_prices (CL : Addr) : Sp := fun vs H Q _ => ∃ (x p dx : Addr) (n : Nat) (zs : List V) (rs : List Rw) (s : Nat), vs = [.ref x, .int (s : Nat)] ∧ LayS CL H x p dx n zs rs s ∧ ∀ t l m ys us H', Same H H' → Tab H' t l m ys us (leftT rs (gapsOf n rs) s rs.length) (rightT rs (gapsOf n rs) s rs.length).reverse → (∀ a u, H a = some u → a ≠ m ∧ V.ref a ∉ ys) → V.ref m ∉ ys ∧ V.ref l ∉ ys ∧ l ≠ m → Q (.ref t) H'
def sp_isprices (CL : Addr) : Sp := fun vs H Q _ => ∃ (x p dx : Addr) (n : Nat) (zs : List V) (rs : List Rw) (s : Nat) (t l m : Addr) (ys us : List V), vs = [.ref x, .int (s : Nat), .ref t] ∧ LayS CL H x p dx n zs rs s ∧ Tab H t l m ys us (leftT rs (gapsOf n rs) s rs.length) (rightT rs (gapsOf n rs) s rs.length).reverse ∧ ∀ H', Same H H' → Q (.bl true) H'
section
variable {P : Program} {w : World} {K : PySem.W.Frag} {mg : Str → Option Value} {base : Heap} {c : Nat → Addr} {ct_Linit pt_Linit R CL : Addr}
theorem D_prices (T : Txt K mg c R CL ct_Linit pt_Linit) : Def P w K mg base CX0 4 "prices" ["layout", "size"] (sp_prices CL) := by
  have D_is_within := D_is_within (P := P) (w := w) (base := base) T
  have D_left := D_left (P := P) (w := w) (base := base) T
  have D_right := D_right (P := P) (w := w) (base := base) T
  refine def_of T.d_prices sc_prices (fun vs H Q E h => ?_) (fun _ _ _ _ _ _ us hl => match us, hl with | [_, _], _ => rfl) (fun f cdv A outer s H vs Q E hr h => ?_)
  · obtain ⟨x, p, dx, n, zs, rs, s, rfl, _⟩ := h
    rfl
  · obtain ⟨x, p, dx, n, zs, rs, s, rfl, ly, k⟩ := h
    have nd := sc_prices.nd
    refine ⟨_, (pss_cons (ps_if (pt_not (pt_val (pe_def D_is_within hr (pa_cons (pv 1) (pa_cons pe_int (pa_cons (pe_gl T.g_MOST_CELLS) pa_nil)))))) pss_never pss_nil)
      (pss_one (ps_ret (pe_tupA (pa_cons (pe_def D_left hr (pa_cons (pv 0) (pa_cons (pv 1) pa_nil))) (pa_cons (pe_def D_right hr (pa_cons (pv 0) (pa_cons (pv 1) pa_nil))) pa_nil)))))), ?_⟩
    clear nd D_is_within D_left D_right
    rw [show start ["layout", "size"] [.ref x, .int (s : Nat)] = [some (.ref x), some (.int (s : Nat))] from rfl]
    try dsimp only [cx_K, cx_K2]
    have iL_many : FldOk K CL "many" := ⟨T.clL, T.aL_many⟩
    have iL_rows : FldOk K CL "rows" := ⟨T.clL, T.aL_rows⟩
    have F : SH H [] H [] [] := SH.nil
    have sd1 := ly.s1
    have sd2 := ly.s2
    repeat k_meth
    rw [decide_eq_true (show (1 : Int) ≤ (s : Int) by omega), decide_eq_true (show (s : Int) ≤ 240 by omega), show (true && true) = true from rfl]
    repeat k_meth
    refine ⟨x, p, dx, n, zs, rs, s, rfl, ly.x, ly.p, ly.t, ly.few, ly.s2, ly.g, fun l ys H2 m2 hl ls fr nl => ?_⟩
    replace F := F.same m2
    have ly2 := ly.same m2
    repeat k_meth
    refine ⟨x, p, dx, n, zs, rs, s, rfl, ly2.x, ly2.p, ly2.t, ly2.few, ly2.s2, ly2.g, fun m us H3 m3 hm ms fm nm => ?_⟩
    clear F
    have F : SH H3 [] H3 [] [] := SH.nil
    repeat k_meth
    refine k p_ l m ys us _ ((m2.trans m3).trans F.sm) ⟨hatC, F.sm _ _ (m3 _ _ hl), ls.kept fun q u _ e => F.sm _ _ (m3 _ _ e), F.sm _ _ hm, ms.kept fun q u _ e => F.sm _ _ e⟩ (fun a u e => ⟨(fm a u (m2 _ _ e)).1, (fr a u e).2⟩) ⟨fun hh => ?_, nl, (fm l _ hl).1⟩
    obtain ⟨u, hu⟩ := ls.has hh
    exact (fm m u hu).1 rfl
theorem D_isprices (T : Txt K mg c R CL ct_Linit pt_Linit) : Def P w K mg base CX0 6 "is_prices" ["layout", "size", "told"] (sp_isprices CL) := by
  have D_prices := D_prices (P := P) (w := w) (base := base) T
  have D_truth := D_truth (P := P) (w := w) (base := base) T
  refine def_of T.d_isprices sc_isprices (fun vs H Q E h => ?_) (fun _ _ _ _ _ _ us hl => match us, hl with | [_, _, _], _ => rfl) (fun f cdv A outer s H vs Q E hr h => ?_)
  · obtain ⟨x, p, dx, n, zs, rs, s, t, l, m, ys, us, rfl, _⟩ := h
    rfl
  · obtain ⟨x, p, dx, n, zs, rs, s, t, l, m, ys, us, rfl, ly, tb, k⟩ := h
    have nd := sc_isprices.nd
    refine ⟨_, (pss_one (ps_ret (pe_and (pe_cmpR (op_eq_dN hr) (pv 2) (pe_def D_prices hr (pa_cons (pv 0) (pa_cons (pv 1) pa_nil))) (nomark _)) (pe_one (pe_not (pe_def D_truth hr (pa_cons (pv 2) pa_nil))))))), ?_⟩
    clear nd D_prices D_truth
    rw [show start ["layout", "size", "told"] [.ref x, .int (s : Nat), .ref t] = [some (.ref x), some (.int (s : Nat)), some (.ref t)] from rfl]
    try dsimp only [cx_K, cx_K2]
    have iL_many : FldOk K CL "many" := ⟨T.clL, T.aL_many⟩
    have iL_rows : FldOk K CL "rows" := ⟨T.clL, T.aL_rows⟩
    have F : SH H [] H [] [] := SH.nil
    have sd1 := ly.few
    have sd2 := ly.s2
    repeat k_meth
    refine ⟨x, p, dx, n, zs, rs, s, rfl, ly, fun t2 l2 m2 ys2 us2 H2 s2 tb2 _ _ => ?_⟩
    replace F := F.same s2
    have tb1 := tb.same s2
    repeat k_meth
    refine ⟨_, _, rep_tab tb1, rep_tab tb2, dep_tab _ _, ?_⟩
    rw [eqDt_refl]
    repeat k_meth
    have e1 := tb1.a.1
    have e2 := tb1.b.1
    rw [leftT_len.1] at e1
    rw [rightT_len.1] at e2
    refine ⟨t, l, m, ys, us, _, _, rfl, tb1.t, tb1.l, tb1.a, tb1.m, tb1.b, ⟨by omega, fun r hr => by rw [leftT_len.2 r hr]; omega⟩, ⟨by omega, fun r hr => by rw [rightT_len.2 r hr]; omega⟩, fun H3 s3 => ?_⟩
    replace F := F.same s3
    repeat k_meth
    exact k _ F.sm
end
instance go_break {D : Ends} {σ : L2.St} {H : Hp} : Go (tBreak D σ H) (D.bk σ H) := ⟨id⟩
def pushR : List (Rw × Int) → Int → Option Int
  | [], x => if x ≤ 0 then some 0 else none
  | (r, g) :: t, x => if x ≤ 0 then some 0 else if 0 < r.pn then none else (pushR t (x - g)).map fun y => (r.sz : Int) + y
theorem push_no {bs : List (Rw × Int)} {x : Int} (h : x ≤ 0) : pushR bs x = some 0 := by
  cases bs with
  | nil => unfold pushR; rw [if_pos h]
  | cons c t => obtain ⟨r, g⟩ := c; unfold pushR; rw [if_pos h]
def sp_pushed : Sp := fun vs H Q _ => ∃ (l m : Addr) (ys : List V) (bs : List Rw) (gs : List Int) (x : Int), vs = [.ref l, .ref m, .int x] ∧ H l = some (.lst ys) ∧ TupsAt H ys (rowsV bs) ∧ H m = some (.lst (gs.map V.int)) ∧ bs.length = gs.length ∧ ∀ H', Same H H' → Q (pV (pushR (bs.zip gs) x)) H'
section
variable {P : Program} {w : World} {K : PySem.W.Frag} {mg : Str → Option Value} {base : Heap} {c : Nat → Addr} {ct_Linit pt_Linit R CL : Addr}
theorem D_pushed (T : Txt K mg c R CL ct_Linit pt_Linit) : Def P w K mg base CX0 1 "_law_pushed" ["_law_rows_here", "_law_gaps_here", "_law_much"] sp_pushed := by
  refine def_of T.d_pushed sc_pushed (fun vs H Q E h => ?_) (fun _ _ _ _ _ _ us hl => match us, hl with | [_, _, _], _ => rfl) (fun f cdv A outer s H vs Q E hr h => ?_)
  · obtain ⟨l, m, ys, bs, gs, x, rfl, _⟩ := h
    rfl
  · obtain ⟨l, m, ys, bs, gs, x, rfl, hl, tp, hm, bg, k⟩ := h
    have nd := sc_pushed.nd
    refine ⟨_, (pss_cons (ps_set (i := 3) nd rfl (Or.inl rfl) pe_int)
      (pss_cons (ps_for PassesOwn.never rfl (pi_zip rfl T.n_zip (pa_cons (pv 0) (pa_cons (pv 1) pa_nil))) (pg_tup rfl (pgs_cons (pg_tup rfl (pgs_cons (pg_name (i := 4) nd rfl (Or.inl rfl)) (pgs_cons (pg_name (i := 5) nd rfl (Or.inl rfl)) (pgs_cons (pg_name (i := 6) nd rfl (Or.inl rfl)) (pgs_cons (pg_name (i := 7) nd rfl (Or.inl rfl)) pgs_nil))))) (pgs_cons (pg_name (i := 8) nd rfl (Or.inl rfl)) pgs_nil))) (pss_cons (ps_if (pt_cmpR op_le (pv 2) pe_int (nomark _)) (pss_one ps_break) pss_nil)
        (pss_cons (ps_if (pt_cmpR op_gt (pv 7) pe_int (nomark _)) (pss_one (ps_ret pe_non)) pss_nil)
        (pss_cons (ps_set (i := 3) nd rfl (Or.inl rfl) (pe_op op_add (pv 3) (pv 6)))
        (pss_one (ps_set (i := 2) nd rfl (Or.inl rfl) (pe_op op_sub (pv 2) (pv 8))))))))
      (pss_cons (ps_if (pt_cmpR op_gt (pv 2) pe_int (nomark _)) (pss_one (ps_ret pe_non)) pss_nil)
      (pss_one (ps_ret (pv 3)))))), ?_⟩
    clear nd 
    rw [show start ["_law_rows_here", "_law_gaps_here", "_law_much", "_law_cost", "_law_name", "_law_start", "_law_size", "_law_pins", "_law_gap"] [.ref l, .ref m, .int x] = [some (.ref l), some (.ref m), some (.int x), none, none, none, none, none, none] from rfl]
    try dsimp only [cx_K, cx_K2]
    have iL_many : FldOk K CL "many" := ⟨T.clL, T.aL_many⟩
    have iL_rows : FldOk K CL "rows" := ⟨T.clL, T.aL_rows⟩
    have o_hl := Old.mk (M := []) hl nm0
    have o_hm := Old.mk (M := []) hm nm0
    have o_tp := OldP.mk tp
    have F : SH H [] H [] [] := SH.nil
    have yl : ys.length = bs.length := by rw [tp.1, rowsV_len]
    repeat k_meth
    refine for_zip (by rw [List.length_map]; omega) (fun i σ' H' => ∃ (cost much : Int) (o4 o5 o6 o7 o8 : Option V), σ' = [some (.ref l), some (.ref m), some (.int much), some (.int cost), o4, o5, o6, o7, o8] ∧ pushR (bs.zip gs) x = (pushR ((bs.zip gs).drop i) much).map (fun y => cost + y) ∧ SH H [] H' [] []) ⟨0, x, _, _, _, _, _, rfl, by simp, F⟩ ?_ ?_ ?_
    · clear F
      rintro i σ' H' _ ⟨_, _, _, _, _, _, _, rfl, _, F⟩
      exact ⟨SqA.e, SqA.e⟩
    · clear F
      rintro i v u T σ' H' H2 hv hu ⟨cost, much, o4, o5, o6, o7, o8, rfl, em, F⟩ nw
      replace F := (F.same nw.s).addT nw.e
      obtain ⟨r, q1, e1, rfl, e2⟩ := rowsV_at tp hv
      rw [List.getElem?_map] at hu
      obtain ⟨g, hg, rfl⟩ : ∃ g, gs[i]? = some g ∧ u = .int g := by
        cases h : gs[i]? with
        | none => rw [h] at hu; cases hu
        | some g => rw [h] at hu; exact ⟨g, rfl, (Option.some.inj hu).symm⟩
      have o_q := Old.mk (M := []) e2 nm0
      have dr : (bs.zip gs).drop i = (r, g) :: (bs.zip gs).drop (i + 1) := by
        have hz : (bs.zip gs)[i]? = some (r, g) := by rw [List.getElem?_zip_eq_some]; exact ⟨e1, hg⟩
        obtain ⟨hi, e⟩ := List.getElem?_eq_some_iff.mp hz
        rw [List.drop_eq_getElem_cons hi, e]
      rw [dr] at em
      have hT : H2 T = some (.tup [.ref q1, .int g]) := hatC
      have hq2 : H2 q1 = some (.tup (rowV r)) := hatC
      refine ⟨T, _, rfl, SqT.of hT, rfl, .ref q1, _, rfl, q1, _, rfl, SqT.of hq2, rfl, _, _, rfl, _, _, rfl, _, _, rfl, _, _, rfl, rfl, _, _, rfl, rfl, ?_⟩
      have eσ : ((((([some (V.ref l), some (V.ref m), some (V.int much), some (V.int cost), o4, o5, o6, o7, o8].set 4 (some (V.str (tx r.nm)))).set 5 (some (V.int (r.st : Nat)))).set 6 (some (V.int (r.sz : Nat)))).set 7 (some (V.int (r.pn : Nat)))).set 8 (some (V.int g))) = [some (V.ref l), some (V.ref m), some (V.int much), some (V.int cost), some (V.str (tx r.nm)), some (V.int (r.st : Nat)), some (V.int (r.sz : Nat)), some (V.int (r.pn : Nat)), some (V.int g)] := rfl
      rw [eσ]
      repeat k_meth
      refine i_dec (fun h => ?_) (fun h => ?_)
      · repeat k_meth
        rw [show pushR (bs.zip gs) x = some cost by rw [em, push_no h]; simp] at k
        exact k _ F.sm
      · repeat k_meth
        refine i_dec (fun h2 => ?_) (fun h2 => ?_)
        · repeat k_meth
          rw [show pushR (bs.zip gs) x = none by rw [em]; unfold pushR; rw [if_neg h, if_pos (by omega)]; rfl] at k
          exact k _ F.sm
        · repeat k_meth
          refine ⟨cost + (r.sz : Int), much - g, _, _, _, _, _, rfl, ?_, F.sub SbC.s (by simp)⟩
          rw [em, pushR, if_neg h, if_neg (by omega), Option.map_map]
          congr 1
          funext y
          show cost + ((r.sz : Int) + y) = _
          omega
    · clear F
      rintro σ' H' ⟨cost, much, _, _, _, _, _, rfl, em, F⟩
      rw [List.drop_of_length_le (by rw [List.length_zip]; omega)] at em
      repeat k_meth
      refine i_dec (fun h => ?_) (fun h => ?_)
      · repeat k_meth
        rw [show pushR (bs.zip gs) x = none by rw [em]; unfold pushR; rw [if_neg (by omega)]; rfl] at k
        exact k _ F.sm
      · repeat k_meth
        rw [show pushR (bs.zip gs) x = some cost by rw [em, push_no (by omega)]; simp] at k
        exact k _ F.sm
end
instance go_pushed {H : Hp} {Q : VK} {E : XK} {l m : Addr} {ys : List V} {bs : List Rw} {gs : List Int} {x : Int} [h : Hat H l (.lst ys)] [t : TpA H ys (rowsV bs)] [h2 : Hat H m (.lst (gs.map V.int))] : Go (sp_pushed [.ref l, .ref m, .int x] H Q E) (Sd (bs.length = gs.length) (∀ H', Same H H' → Q (pV (pushR (bs.zip gs) x)) H')) := ⟨fun k => ⟨l, m, ys, bs, gs, x, rfl, h.e, t.e, h2.e, k.1, k.2⟩⟩
theorem comp_VR {n : Nat} {σ fvs : L2.St} {H : Hp} {Q : VK} {te : TE} {fr : List Nat} {F : Nat → V} (hz : n ≤ 1000000) (hf : (fr.map fun i => (σ[i]?).getD none) = fvs)
    (turn : ∀ (i : Nat) (H' : Hp) (R : VK), i < n → Same H H' → (∀ H2, Same H' H2 → R (F i) H2) → te (some (.int (i : Nat)) :: fvs) H' R)
    (k : ∀ p H', New H H' p (.lst ((List.range n).map F)) → Q (.ref p) H') : CompAll (Itr 0 n) 1 fr (gName 0) tTrue te σ H Q := by
  have hat : ∀ (i : Nat) (v : V), (rangeV 0 n)[i]? = some v → i < n ∧ v = .int (i : Nat) := fun i v hv => by
    unfold rangeV at hv
    rw [List.getElem?_map] at hv
    cases h : (List.range n)[i]? with
    | none => rw [h] at hv; cases hv
    | some j =>
      rw [h] at hv
      obtain ⟨hi, e⟩ := List.getElem?_eq_some_iff.mp h
      simp at hi e
      subst e
      refine ⟨hi, ?_⟩
      have := (Option.some.inj hv).symm
      rw [this]
      show V.int (0 + _) = _
      rw [Int.zero_add]
  refine comp_map (P := fun i y => y = F i) (items_range (lo := 0) (n := n)) (by simp [rangeV]; omega) hf (fun _ _ => trivial) (fun i v H' R hv s kk => ?_) fun p H' ys nw hl hP => k p H' ?_
  · obtain ⟨hi, rfl⟩ := hat i v hv
    exact turn i H' R hi s fun H2 s2 => kk _ _ s2 rfl
  · have e : ys = (List.range n).map F := by
      have hl2 : ys.length = n := by rw [hl]; simp [rangeV]
      apply List.ext_getElem?
      intro i
      rw [List.getElem?_map]
      by_cases hi : i < n
      · rw [List.getElem?_range hi, List.getElem?_eq_getElem (by omega), hP i ys[i] (by simp)]
        rfl
      · rw [List.getElem?_eq_none (by omega), List.getElem?_eq_none (by simp; omega)]
        rfl
    rw [e] at nw
    exact nw
instance go_revS {K : PySem.W.Frag} {H : Hp} {p : Addr} {xs : List V} {Z : Addr → Hp → Prop} [h : SqA K H p xs] : Go (∃ a xs', V.ref p = V.ref a ∧ V.int (-1) = V.int (-1) ∧ SqL K H a xs' ∧ ∀ q H', New H H' q (.lst xs'.reverse) → Z q H') (∀ q H', New H H' q (.lst xs.reverse) → Z q H') := ⟨fun k => ⟨p, xs, rfl, rfl, h.e, k⟩⟩
instance go_compRg {tr : TA} {te : TE} {nt : Nat} {fr : List Nat} {g : TG} {c : TT} {σ : L2.St} {H : Hp} {Q : VK} : Go (tComp (iRng1 tr) nt fr g c te σ H Q) (tr σ H fun vs H1 => ∃ j : Int, vs = [.int j] ∧ -(2 ^ 62) ≤ j ∧ j < 2 ^ 62 ∧ CompAll (Itr 0 j.toNat) nt fr g c te σ H1 Q) := ⟨id⟩
instance go_rgby {i : Int} {R : Int → Prop} : Go (∃ j : Int, [V.int i] = [.int j] ∧ -(2 ^ 62) ≤ j ∧ j < 2 ^ 62 ∧ R j) (Sd (-(2 ^ 62) ≤ i ∧ i < 2 ^ 62) (R i)) := ⟨fun k => ⟨i, rfl, k.1.1, k.1.2, k.2⟩⟩
theorem cutR_int (gs : List Int) (g : Nat) : (cutV (gs.map V.int) none (some (g : Int))).reverse = (gs.take g).reverse.map V.int := by rw [cut_take, List.map_reverse, List.map_take]
theorem cutF_int (gs : List Int) (g : Nat) : cutV (gs.map V.int) (some ((g : Int) + 1)) none = (gs.drop (g + 1)).map V.int := by rw [show (g : Int) + 1 = ((g + 1 : Nat) : Int) by omega, cut_from, List.map_drop]
theorem tupsT {H : Hp} {ys : List V} {rs : List Rw} (h : TupsAt H ys (rowsV rs)) (g : Nat) : TupsAt H (ys.take g) (rowsV (rs.take g)) := by
  have e : rowsV (rs.take g) = (rowsV rs).take g := by unfold rowsV; rw [List.map_take]
  rw [e]
  refine ⟨by rw [List.length_take, List.length_take, h.1], fun j r ej => ?_⟩
  rw [List.getElem?_take] at ej
  split at ej
  · rename_i hj
    obtain ⟨q, a, b⟩ := h.2 j r ej
    exact ⟨q, by rw [List.getElem?_take, if_pos hj]; exact a, b⟩
  · cases ej
theorem tupsD {H : Hp} {ys : List V} {rs : List Rw} (h : TupsAt H ys (rowsV rs)) (g : Nat) : TupsAt H (ys.drop g) (rowsV (rs.drop g)) := by
  have e : rowsV (rs.drop g) = (rowsV rs).drop g := by unfold rowsV; rw [List.map_drop]
  rw [e]
  refine ⟨by rw [List.length_drop, List.length_drop, h.1], fun j r ej => ?_⟩
  rw [List.getElem?_drop] at ej
  obtain ⟨q, a, b⟩ := h.2 _ r ej
  exact ⟨q, by rw [List.getElem?_drop]; exact a, b⟩
theorem tupsR {H : Hp} {ys : List V} {rs : List Rw} (h : TupsAt H ys (rowsV rs)) : TupsAt H ys.reverse (rowsV rs.reverse) := by
  have e : rowsV rs.reverse = (rowsV rs).reverse := by unfold rowsV; rw [List.map_reverse]
  rw [e]
  exact h.reverse
def lawL (rs : List Rw) (gs : List Int) (s g : Nat) : PR := (List.range (s + 1)).map fun x => pushR ((rs.take g).reverse.zip (gs.take g).reverse) (x : Nat)
def lawR (rs : List Rw) (gs : List Int) (s g : Nat) : PR := (List.range (s + 1)).map fun x => pushR ((rs.drop g).zip (gs.drop (g + 1))) (x : Nat)
def sp_lprices : Sp := fun vs H Q _ => ∃ (l : Addr) (n : Nat) (zs : List V) (rs : List Rw) (s : Nat), vs = [.int (n : Nat), .ref l, .int (s : Nat)] ∧ H l = some (.lst zs) ∧ TupsAt H zs (rowsV rs) ∧ rs.length ≤ 40 ∧ s ≤ 240 ∧ ∀ t a b ys us H', Same H H' → Tab H' t a b ys us ((List.range (rs.length + 1)).map (lawL rs (gapsOf n rs) s)) ((List.range (rs.length + 1)).map (lawR rs (gapsOf n rs) s)) → (∀ c u, H c = some u → (c ≠ a ∧ c ≠ b) ∧ V.ref c ∉ ys ∧ V.ref c ∉ us) → Q (.ref t) H'
section
variable {P : Program} {w : World} {K : PySem.W.Frag} {mg : Str → Option Value} {base : Heap} {c : Nat → Addr} {ct_Linit pt_Linit R CL : Addr}
theorem D_lprices (T : Txt K mg c R CL ct_Linit pt_Linit) : Def P w K mg base CX0 2 "_law_prices" ["_law_many_here", "_law_rows_here", "_law_size"] sp_lprices := by
  have D_lgaps := D_lgaps (P := P) (w := w) (base := base) T
  have D_pushed := D_pushed (P := P) (w := w) (base := base) T
  refine def_of T.d_lprices sc_lprices (fun vs H Q E h => ?_) (fun _ _ _ _ _ _ us hl => match us, hl with | [_, _, _], _ => rfl) (fun f cdv A outer s H vs Q E hr h => ?_)
  · obtain ⟨l, n, zs, rs, s, rfl, _⟩ := h
    rfl
  · obtain ⟨l, n, zs, rs, s, rfl, hl, tp, few, s240, k⟩ := h
    have nd := sc_lprices.nd
    refine ⟨_, (pss_cons (ps_set (i := 3) nd rfl (Or.inr rfl) (pe_def D_lgaps hr (pa_cons (pv 0) (pa_cons (pv 1) pa_nil))))
      (pss_cons (ps_set (i := 4) nd rfl (Or.inl rfl) (pe_lstA pa_nil))
      (pss_cons (ps_set (i := 5) nd rfl (Or.inl rfl) (pe_lstA pa_nil))
      (pss_cons (ps_for PassesOwn.never rfl (pi_range1 rfl T.n_range (pa_cons (pe_callB call_lenN rfl T.n_len boot_len (pa_cons (pv 3) pa_nil)) pa_nil)) (pg_name (i := 6) nd rfl (Or.inr rfl)) (pss_cons (ps_set (i := 7) nd rfl (Or.inr rfl) (pe_revSlK (K := K) rfl (pe_slice sl_listA (pv 1) po_none (po_some (pv 6))) (pe_un un_neg pe_int)))
        (pss_cons (ps_expr (pe_appendA (pv 4) (pe_comp (N := ["_law_x", "_law_back", "_law_gaps_here", "_law_g"]) (nt := 1) (fr := [7, 3, 6]) (pi_range1 rfl T.n_range (pa_cons (pe_op op_add (pv 2) pe_int) pa_nil)) (fun _ _ _ _ => (pg_name (i := 0) (show (["_law_x", "_law_back", "_law_gaps_here", "_law_g"] : List Str).Nodup from by decide +kernel) rfl (Or.inl rfl))) (fun _ _ _ _ => pif_nil) (fun _ _ _ _ => (pe_def D_pushed hr (pa_cons (pv 1) (pa_cons (pe_revSlK (K := K) rfl (pe_slice (sl_listAK (K := K) rfl) (pv 2) po_none (po_some (pv 3))) (pe_un un_neg pe_int)) (pa_cons (pv 0) pa_nil))))))))
        (pss_one (ps_expr (pe_appendA (pv 5) (pe_comp (N := ["_law_x", "_law_rows_here", "_law_gaps_here", "_law_g"]) (nt := 1) (fr := [1, 3, 6]) (pi_range1 rfl T.n_range (pa_cons (pe_op op_add (pv 2) pe_int) pa_nil)) (fun _ _ _ _ => (pg_name (i := 0) (show (["_law_x", "_law_rows_here", "_law_gaps_here", "_law_g"] : List Str).Nodup from by decide +kernel) rfl (Or.inl rfl))) (fun _ _ _ _ => pif_nil) (fun _ _ _ _ => (pe_def D_pushed hr (pa_cons (pe_slice (sl_listAK (K := K) rfl) (pv 1) (po_some (pv 3)) po_none) (pa_cons (pe_slice (sl_listAK (K := K) rfl) (pv 2) (po_some (pe_op op_add (pv 3) pe_int)) po_none) (pa_cons (pv 0) pa_nil))))))))))))
      (pss_one (ps_ret (pe_tupA (pa_cons (pv 4) (pa_cons (pv 5) pa_nil))))))))), ?_⟩
    clear nd D_lgaps D_pushed
    rw [show start ["_law_many_here", "_law_rows_here", "_law_size", "_law_gaps_here", "_law_left", "_law_right", "_law_g", "_law_back"] [.int (n : Nat), .ref l, .int (s : Nat)] = [some (.int (n : Nat)), some (.ref l), some (.int (s : Nat)), none, none, none, none, none] from rfl]
    try dsimp only [cx_K, cx_K2]
    have iL_many : FldOk K CL "many" := ⟨T.clL, T.aL_many⟩
    have iL_rows : FldOk K CL "rows" := ⟨T.clL, T.aL_rows⟩
    have o_hl := Old.mk (M := []) hl nm0
    have o_tp := OldP.mk tp
    have F : SH H [] H [] [] := SH.nil
    have few2 : rs.length ≤ 40 := few
    have yl : zs.length = rs.length := by rw [tp.1, rowsV_len]
    have gl_ : (gapsOf n rs).length = rs.length + 1 := by unfold gapsOf; rw [List.length_append, gp_len]; rfl
    repeat k_meth
    rename_i _ gl _ lf
    rename Addr => rt
    rw [show (((gapsOf n rs).map V.int).length : Int).toNat = rs.length + 1 by rw [List.length_map, gl_]; omega]
    refine forR0_by (fun g σ' H' => ∃ (o6 o7 : Option V) (ys us : List V), σ' = [some (.int (n : Nat)), some (.ref l), some (.int (s : Nat)), some (.ref gl), some (.ref lf), some (.ref rt), o6, o7] ∧ LsAt H' ys ((List.range g).map (lawL rs (gapsOf n rs) s)) ∧ LsAt H' us ((List.range g).map (lawR rs (gapsOf n rs) s)) ∧ (V.ref lf ∉ ys ∧ V.ref rt ∉ ys ∧ V.ref lf ∉ us ∧ V.ref rt ∉ us) ∧ (∀ c u, H c = some u → V.ref c ∉ ys ∧ V.ref c ∉ us) ∧ SH H [] H' [(rt, .lst us), (lf, .lst ys), (gl, .lst ((gapsOf n rs).map V.int))] []) ⟨_, _, [], [], rfl, LsAt.nil, LsAt.nil, by simp, by simp, F⟩ ?_ ?_
    · clear F
      rintro g σ' H' hg ⟨_, _, ys, us, rfl, la, lb, ⟨d1, d2, d3, d4⟩, d5, F⟩
      have sm0 := F.sm
      have yn : ys.length = g := by rw [la.1]; simp
      have un : us.length = g := by rw [lb.1]; simp
      have hlf : H' lf = some (.lst ys) := hatC
      have hrt : H' rt = some (.lst us) := hatC
      have hgl : H' gl = some (.lst ((gapsOf n rs).map V.int)) := hatC
      have ne1 : gl ≠ lf := SH.neC (F := F)
      have ne2 : gl ≠ rt := SH.neC (F := F)
      have ne3 : lf ≠ rt := SH.neC (F := F)
      have hl2 := sm0 _ _ hl
      have ne4 : l ≠ lf := fun z => F.fresh (LkL.m (a := lf) (o := .lst ys)) nm0 l _ hl z
      have ne5 : l ≠ rt := fun z => F.fresh (LkL.m (a := rt) (o := .lst us)) nm0 l _ hl z
      have back : ∀ (H4 : Hp) (ys2 us2 : List V), SH H' [lf, rt] H4 [(lf, .lst ys2), (rt, .lst us2)] [] → SH H [] H4 [(rt, .lst us2), (lf, .lst ys2), (gl, .lst ((gapsOf n rs).map V.int))] [] := fun H4 ys2 us2 G => by
        have F0 : SH H [] H' ([(lf, .lst ys), (rt, .lst us)] ++ [(gl, .lst ((gapsOf n rs).map V.int))]) [] := F.sub (L' := [(lf, .lst ys), (rt, .lst us), (gl, .lst ((gapsOf n rs).map V.int))]) SbC.s (by simp)
        have F1 : SH H [] H4 [(lf, .lst ys2), (rt, .lst us2), (gl, .lst ((gapsOf n rs).map V.int))] ([] ++ []) := SH.over F0 G rfl
        exact F1.sub SbC.s (by simp)
      clear F
      have tp2 := tp.same sm0
      have F : SH H' [lf, rt] H' [(lf, .lst ys), (rt, .lst us)] [.tps zs (rowsV rs)] := ((SH.nil.addM (M := [lf, rt]) (by simp) hrt rfl (by simp)).addM (by simp) hlf rfl (by simp [Ne.symm ne3])).addP tp2
      have o_gl := Old.mk (M := [lf, rt]) hgl (by simp [ne1, ne2])
      have o_l := Old.mk (M := [lf, rt]) hl2 (by simp [ne4, ne5])
      repeat k_meth
      rename Addr => bk
      rw [show ((s : Int) + 1).toNat = s + 1 by omega]
      have tb : TupsAt H_ (zs.take g).reverse (rowsV (rs.take g).reverse) := tupsR (tupsT TpA.e g)
      have hbk : H_ bk = some (.lst (zs.take g).reverse) := by
        have h : H_ bk = some (.lst (cutV zs none (some (g : Int))).reverse) := hatC
        rw [cut_take] at h
        exact h
      have hgl2 : H_ gl = some (.lst ((gapsOf n rs).map V.int)) := hatC
      have len1 : (rs.take g).reverse.length = ((gapsOf n rs).take g).reverse.length := by simp; omega
      have len2 : (rs.drop g).length = ((gapsOf n rs).drop (g + 1)).length := by simp; omega
      refine comp_VR (F := fun x => pV (pushR ((rs.take g).reverse.zip ((gapsOf n rs).take g).reverse) (x : Nat))) (fvs := [some (.ref bk), some (.ref gl), some (.int (g : Nat))]) (by omega) rfl (fun i H1 R hi s1 kk => ?_) fun q1 H1 n1 => ?_
      · have tb1 := tb.same s1
        have hbk1 := s1 _ _ hbk
        have hgl1 := s1 _ _ hgl2
        clear F
        have F : SH H1 [] H1 [] [.tps (zs.take g).reverse (rowsV (rs.take g).reverse)] := SH.nil.addP tb1
        have o_b := Old.mk (M := []) hbk1 nm0
        have o_g := Old.mk (M := []) hgl1 nm0
        repeat k_meth
        rw [cutR_int] at F
        repeat k_meth
        exact kk _ F.sm
      replace F := F.newL n1
      have ysl : ys.length < sizeLine := by rw [sizeLine_eq]; omega
      have usl : us.length < sizeLine := by rw [sizeLine_eq]; omega
      repeat k_meth
      rw [show ((s : Int) + 1).toNat = s + 1 by omega]
      have tz : TupsAt H_ (zs.drop g) (rowsV (rs.drop g)) := tupsD TpA.e g
      have hl3 : H_ l = some (.lst zs) := hatC
      have hgl3 : H_ gl = some (.lst ((gapsOf n rs).map V.int)) := hatC
      refine comp_VR (F := fun x => pV (pushR ((rs.drop g).zip ((gapsOf n rs).drop (g + 1))) (x : Nat))) (fvs := [some (.ref l), some (.ref gl), some (.int (g : Nat))]) (by omega) rfl (fun i H1 R hi s1 kk => ?_) fun q2 H2 n2 => ?_
      · have tb1 := tz.same s1
        have hbk1 := s1 _ _ hl3
        have hgl1 := s1 _ _ hgl3
        clear F
        have F : SH H1 [] H1 [] [.tps (zs.drop g) (rowsV (rs.drop g))] := SH.nil.addP tb1
        have o_b := Old.mk (M := []) hbk1 nm0
        have o_g := Old.mk (M := []) hgl1 nm0
        repeat k_meth
        rw [cutF_int, cut_from] at F
        repeat k_meth
        exact kk _ F.sm
      replace F := F.newL n2
      repeat k_meth
      have k1 : ∀ q u, V.ref q ∈ ys → H' q = some u → H_ q = some u := fun q u hm e => F.fr q u (by simp only [List.mem_cons, List.not_mem_nil, or_false, not_or]; exact ⟨fun z => d1 (z ▸ hm), fun z => d2 (z ▸ hm)⟩) e
      have k2 : ∀ q u, V.ref q ∈ us → H' q = some u → H_ q = some u := fun q u hm e => F.fr q u (by simp only [List.mem_cons, List.not_mem_nil, or_false, not_or]; exact ⟨fun z => d3 (z ▸ hm), fun z => d4 (z ▸ hm)⟩) e
      have f1 : lf ≠ q1 := SH.neC (F := F)
      have f2 : lf ≠ q2 := SH.neC (F := F)
      have f3 : rt ≠ q1 := SH.neC (F := F)
      have f4 : rt ≠ q2 := SH.neC (F := F)
      have g1 : ∀ c u, H c = some u → c ≠ q1 := fun c u e z => F.fresh (LkL.m (a := q1)) (by simp [Ne.symm f1, Ne.symm f3]) c u (sm0 _ _ e) z
      have g2 : ∀ c u, H c = some u → c ≠ q2 := fun c u e z => F.fresh (LkL.m (a := q2)) (by simp [Ne.symm f2, Ne.symm f4]) c u (sm0 _ _ e) z
      refine ⟨_, _, ys ++ [.ref q1], us ++ [.ref q2], rfl, ?_, ?_, ?_, fun c u e => ?_, back _ _ _ (F.sub SbC.s (by simp))⟩
      · rw [List.range_succ, List.map_append]
        refine LsAt.snoc (la.kept k1) ?_
        unfold lawL
        rw [List.map_map]
        exact hatC
      · rw [List.range_succ, List.map_append]
        refine LsAt.snoc (lb.kept k2) ?_
        unfold lawR
        rw [List.map_map]
        exact hatC
      · simp only [List.mem_append, List.mem_singleton, V.ref.injEq, not_or]
        exact ⟨⟨d1, f1⟩, ⟨d2, f3⟩, ⟨d3, f2⟩, ⟨d4, f4⟩⟩
      · simp only [List.mem_append, List.mem_singleton, V.ref.injEq, not_or]
        exact ⟨⟨(d5 c u e).1, g1 c u e⟩, ⟨(d5 c u e).2, g2 c u e⟩⟩
    · clear F
      rintro σ' H' ⟨_, _, ys, us, rfl, la, lb, _, d5, F⟩
      have hlf : H' lf = some (.lst ys) := hatC
      have hrt : H' rt = some (.lst us) := hatC
      have sm0 := F.sm
      have g1 : ∀ c u, H c = some u → c ≠ lf := fun c u e z => F.fresh (LkL.m (a := lf)) nm0 c u e z
      have g2 : ∀ c u, H c = some u → c ≠ rt := fun c u e z => F.fresh (LkL.m (a := rt)) nm0 c u e z
      clear F
      have F : SH H' [] H' [] [] := SH.nil
      repeat k_meth
      exact k _ lf rt ys us _ (sm0.trans F.sm) ⟨hatC, F.sm _ _ hlf, la.kept fun q u _ e => F.sm _ _ e, F.sm _ _ hrt, lb.kept fun q u _ e => F.sm _ _ e⟩ fun c u e => ⟨⟨g1 c u e, g2 c u e⟩, d5 c u e⟩
end
def psh (bs : List (Rw × Int)) (s : Nat) : PR := (List.range (s + 1)).map fun x => pushR bs (x : Nat)
theorem psh_nil (s : Nat) : psh [] s = endR s := by
  unfold psh endR
  rw [List.range_succ_eq_map, List.map_cons, List.map_map]
  congr 1
  refine List.eq_replicate_iff.mpr ⟨by simp, fun o ho => ?_⟩
  obtain ⟨x, _, rfl⟩ := List.mem_map.mp ho
  show pushR [] ((x + 1 : Nat) : Int) = none
  unfold pushR
  rw [if_neg (by omega)]
theorem psh_bes {r : Rw} {c : Int} {bs : List (Rw × Int)} {s : Nat} (c0 : 0 ≤ c) : psh ((r, c) :: bs) s = besR r (psh bs s) c s := by
  unfold besR
  have hx : ∀ x : Nat, pushR ((r, c) :: bs) ((x + 1 : Nat) : Int) = if 0 < r.pn then none else (pushR bs (((x + 1 : Nat) : Int) - c)).map fun y => (r.sz : Int) + y := fun x => by
    rw [pushR, if_neg (by omega)]
  have h0 : pushR ((r, c) :: bs) ((0 : Nat) : Int) = some 0 := push_no (by omega)
  by_cases hp : 0 < r.pn
  · rw [if_pos hp]
    unfold psh endR
    rw [List.range_succ_eq_map, List.map_cons, List.map_map, h0]
    congr 1
    refine List.eq_replicate_iff.mpr ⟨by simp, fun o ho => ?_⟩
    obtain ⟨x, _, rfl⟩ := List.mem_map.mp ho
    show pushR ((r, c) :: bs) ((x + 1 : Nat) : Int) = none
    rw [hx, if_pos hp]
  · rw [if_neg hp]
    unfold psh
    rw [List.range_succ_eq_map, List.map_cons, List.map_map, h0]
    congr 1
    refine List.map_congr_left fun x hxs => ?_
    have hxs := List.mem_range.mp hxs
    show pushR ((r, c) :: bs) ((x + 1 : Nat) : Int) = _
    rw [hx, if_neg hp]
    unfold besV
    have hi : ((((x + 1 : Nat) : Int)) - c).toNat < s + 1 := by omega
    rw [← List.range_succ_eq_map, List.getElem?_map, List.getElem?_range hi]
    show _ = (pushR bs ((((((x + 1 : Nat) : Int)) - c).toNat : Nat) : Int)).map _
    by_cases hc : c ≤ ((x + 1 : Nat) : Int)
    · rw [show ((((((x + 1 : Nat) : Int)) - c).toNat : Nat) : Int) = ((x + 1 : Nat) : Int) - c by omega]
    · rw [push_no (x := ((x + 1 : Nat) : Int) - c) (by omega), push_no (by omega)]
theorem left_law {rs : List Rw} {gs : List Int} {s : Nat} (hl : gs.length = rs.length + 1) (hg : ∀ g ∈ gs, 0 ≤ g) : ∀ i, i ≤ rs.length → leftR rs gs s i = lawL rs gs s i
  | 0, _ => by
    show endR s = psh _ s
    simp [psh_nil]
  | i + 1, hi => by
    have hr : rs[i]? = some rs[i] := List.getElem?_eq_getElem (by omega)
    have hc : gs[i]? = some gs[i] := List.getElem?_eq_getElem (by omega)
    have ih := left_law (s := s) hl hg i (by omega)
    rw [leftR, hr, ih, List.getD_eq_getElem?_getD, hc]
    show besR rs[i] (psh _ s) gs[i] s = psh _ s
    rw [← psh_bes (hg _ (List.getElem_mem _))]
    have e1 : rs.take (i + 1) = rs.take i ++ [rs[i]] := by rw [List.take_succ, hr]; rfl
    have e2 : gs.take (i + 1) = gs.take i ++ [gs[i]] := by rw [List.take_succ, hc]; rfl
    rw [e1, e2, List.reverse_append, List.reverse_append]
    rfl
theorem right_law {rs : List Rw} {gs : List Int} {s : Nat} (hl : gs.length = rs.length + 1) (hg : ∀ g ∈ gs, 0 ≤ g) : ∀ i, i ≤ rs.length → rightR rs gs s i = lawR rs gs s (rs.length - i)
  | 0, _ => by
    show endR s = psh _ s
    simp [psh_nil]
  | i + 1, hi => by
    have hr : rs[rs.length - 1 - i]? = some rs[rs.length - 1 - i] := List.getElem?_eq_getElem (by omega)
    have hc : gs[rs.length - i]? = some gs[rs.length - i] := List.getElem?_eq_getElem (by omega)
    have ih := right_law (s := s) hl hg i (by omega)
    rw [rightR, hr, ih, List.getD_eq_getElem?_getD, hc]
    show besR rs[rs.length - 1 - i] (psh _ s) gs[rs.length - i] s = psh _ s
    rw [← psh_bes (hg _ (List.getElem_mem _))]
    congr 1
    have e1 : rs.drop (rs.length - (i + 1)) = rs[rs.length - 1 - i] :: rs.drop (rs.length - i) := by
      rw [show rs.length - (i + 1) = rs.length - 1 - i by omega, List.drop_eq_getElem_cons (by omega), show rs.length - 1 - i + 1 = rs.length - i by omega]
    have e2 : gs.drop (rs.length - (i + 1) + 1) = gs[rs.length - i] :: gs.drop (rs.length - i + 1) := by
      rw [show rs.length - (i + 1) + 1 = rs.length - i by omega, List.drop_eq_getElem_cons (by omega)]
    rw [e1, e2, List.zip_cons_cons]
theorem tab_left {rs : List Rw} {gs : List Int} {s : Nat} (hl : gs.length = rs.length + 1) (hg : ∀ g ∈ gs, 0 ≤ g) : (List.range (rs.length + 1)).map (lawL rs gs s) = leftT rs gs s rs.length := by
  unfold leftT
  exact List.map_congr_left fun i hi => (left_law hl hg i (by have := List.mem_range.mp hi; omega)).symm
theorem tab_right {rs : List Rw} {gs : List Int} {s : Nat} (hl : gs.length = rs.length + 1) (hg : ∀ g ∈ gs, 0 ≤ g) : (List.range (rs.length + 1)).map (lawR rs gs s) = (rightT rs gs s rs.length).reverse := by
  unfold rightT
  apply List.ext_getElem
  · simp
  · intro i h1 h2
    have hi : i < rs.length + 1 := by simpa using h1
    simp only [List.getElem_map, List.getElem_range, List.getElem_reverse, List.length_map, List.length_range]
    rw [right_law hl hg _ (by omega)]
    congr 1
    omega
def sp_side : Sp := fun vs H Q _ => ∃ (l : Addr) (ys : List V) (T : List PR) (k s : Nat), vs = [.ref l, .int (k : Nat), .int (s : Nat)] ∧ H l = some (.lst ys) ∧ LsAt H ys T ∧ T.length = k ∧ (∀ r ∈ T, List.length r = s + 1) ∧ ∀ H', Same H H' → Q (.bl true) H'
section
variable {P : Program} {w : World} {K : PySem.W.Frag} {mg : Str → Option Value} {base : Heap} {c : Nat → Addr} {ct_Linit pt_Linit R CL : Addr}
theorem D_lwhole (T : Txt K mg c R CL ct_Linit pt_Linit) : Def P w K mg base CX0 1 "_law_whole" ["_law_thing"] (sp_whole K) := by
  refine def_of T.d_lwhole sc_lwhole (fun vs H Q E h => ?_) (fun _ _ _ _ _ _ us hl => match us, hl with | [_], _ => rfl) (fun f cdv A outer s H vs Q E hr h => ?_)
  · obtain ⟨x, n, rfl, _⟩ := h
    rfl
  · obtain ⟨x, n, rfl, ty, k⟩ := h
    have nd := sc_lwhole.nd
    refine ⟨_, (pss_one (ps_ret (pe_and (pe_callB call_isT rfl T.n_isinstance boot_isinstance (pa_cons (pv 0) (pa_cons (pe_ty (T := "int") rfl T.n_int boot_int) pa_nil))) (pe_one (pe_not (pe_callB call_isT rfl T.n_isinstance boot_isinstance (pa_cons (pv 0) (pa_cons (pe_ty (T := "bool") rfl T.n_bool boot_bool) pa_nil)))))))), ?_⟩
    clear nd 
    rw [show start ["_law_thing"] [x] = [some (x)] from rfl]
    try dsimp only [cx_K, cx_K2]
    rw [isW_eq] at k
    repeat k_meth
    refine w_is ty (bt_int ty) ?_
    repeat k_meth
    refine i_b (fun h => ?_) (fun h => ?_)
    · repeat k_meth
      refine w_is ty (bt_bool ty) ?_
      repeat k_meth
      rw [h] at k
      exact k
    · rw [h] at k
      exact k
theorem D_side (T : Txt K mg c R CL ct_Linit pt_Linit) : Def P w K mg base CX0 2 "_law_is_side" ["_law_told", "_law_many_here", "_law_size"] sp_side := by
  have D_lwhole := D_lwhole (P := P) (w := w) (base := base) T
  refine def_of T.d_side sc_side (fun vs H Q E h => ?_) (fun _ _ _ _ _ _ us hl => match us, hl with | [_, _, _], _ => rfl) (fun f cdv A outer s H vs Q E hr h => ?_)
  · obtain ⟨l, ys, T_, k0, s, rfl, _⟩ := h
    rfl
  · obtain ⟨l, ys, T_, k0, s, rfl, hl, ls, tk, rl, k⟩ := h
    have nd := sc_side.nd
    refine ⟨_, (pss_cons (ps_if (PW.pt (pw_or (pt_not (pt_val (pe_callB call_isT rfl T.n_isinstance boot_isinstance (pa_cons (pv 0) (pa_cons (pe_ty (T := "list") rfl T.n_list boot_list) pa_nil))))) (pw_or1 (pt_cmpR op_ne (pe_callB call_lenN rfl T.n_len boot_len (pa_cons (pv 0) pa_nil)) (pv 1) (nomark _))))) (pss_one (ps_ret pe_bl)) pss_nil)
      (pss_cons (ps_for PassesOwn.never rfl (pi_list (pv 0)) (pg_name (i := 3) nd rfl (Or.inl rfl)) (pss_cons (ps_if (PW.pt (pw_or (pt_not (pt_val (pe_callB call_isT rfl T.n_isinstance boot_isinstance (pa_cons (pv 3) (pa_cons (pe_ty (T := "list") rfl T.n_list boot_list) pa_nil))))) (pw_or1 (pt_cmpR op_ne (pe_callB call_lenN rfl T.n_len boot_len (pa_cons (pv 3) pa_nil)) (pe_op op_add (pv 2) pe_int) (nomark _))))) (pss_one (ps_ret pe_bl)) pss_nil)
        (pss_one (ps_for PassesOwn.never rfl (pi_list (pv 3)) (pg_name (i := 4) nd rfl (Or.inl rfl)) (pss_one (ps_if (PW.pt (pw_and (pt_cmpR op_notNN (pv 4) pe_non (nomark _)) (pw_and1 (pt_not (pt_val (pe_def D_lwhole hr (pa_cons (pv 4) pa_nil))))))) (pss_one (ps_ret pe_bl)) pss_nil))))))
      (pss_one (ps_ret pe_bl)))), ?_⟩
    clear nd D_lwhole
    rw [show start ["_law_told", "_law_many_here", "_law_size", "_law_row", "_law_price"] [.ref l, .int (k0 : Nat), .int (s : Nat)] = [some (.ref l), some (.int (k0 : Nat)), some (.int (s : Nat)), none, none] from rfl]
    try dsimp only [cx_K, cx_K2]
    have iL_many : FldOk K CL "many" := ⟨T.clL, T.aL_many⟩
    have iL_rows : FldOk K CL "rows" := ⟨T.clL, T.aL_rows⟩
    have o_hl := Old.mk (M := []) hl nm0
    have F : SH H [] H [] [] := SH.nil
    have yl := ls.1
    repeat k_meth
    refine forL_by (xs := ys) (fun i σ' H' => ∃ (o3 o4 : Option V), σ' = [some (.ref l), some (.int (k0 : Nat)), some (.int (s : Nat)), o3, o4] ∧ SH H [] H' [] []) ⟨_, _, rfl, F⟩ ?_ ?_ ?_
    · clear F
      rintro i σ' H' _ ⟨_, _, rfl, F⟩
      exact SqA.e
    · clear F
      rintro i v σ' H' hv ⟨_, _, rfl, F⟩
      have hi : i < T_.length := by have := (List.getElem?_eq_some_iff.mp hv).1; omega
      obtain ⟨q, a, b⟩ := ls.2 i _ (List.getElem?_eq_getElem hi)
      rw [hv] at a
      cases a
      have rl1 := rl _ (List.getElem_mem hi)
      generalize T_[i] = r at b rl1
      have o_q := Old.mk (M := []) b nm0
      repeat k_meth
      try rw [decide_eq_true (show ((r.map pV).length : Int) = (s : Int) + 1 by rw [List.length_map]; omega)]
      repeat k_meth
      refine forL_by (xs := r.map pV) (fun i σ' H' => ∃ (o4 : Option V), σ' = [some (.ref l), some (.int (k0 : Nat)), some (.int (s : Nat)), some (.ref q), o4] ∧ SH H [] H' [] []) ⟨_, rfl, F⟩ ?_ ?_ ?_
      · clear F
        rintro i σ' H' _ ⟨_, rfl, F⟩
        exact SqA.e
      · clear F
        rintro i v σ' H' hv ⟨_, rfl, F⟩
        obtain ⟨o, _, rfl⟩ := List.mem_map.mp (List.mem_of_getElem? hv)
        cases o with
        | none =>
          dsimp only [pV]
          repeat k_meth
          exact ⟨_, rfl, F⟩
        | some z =>
          dsimp only [pV]
          repeat k_meth
          exact ⟨_, rfl, F⟩
      clear F
      rintro σ' H' ⟨_, rfl, F⟩
      exact ⟨_, _, rfl, F⟩
    clear F
    rintro σ' H' ⟨_, _, rfl, F⟩
    repeat k_meth
    exact k _ F.sm
end
def sp_tright (CL : Addr) : Sp := fun vs H Q _ => ∃ (x p dx : Addr) (n : Nat) (zs : List V) (rs : List Rw) (s : Nat) (t l m : Addr) (ys us : List V), vs = [.ref x, .int (s : Nat), .ref t] ∧ LayS CL H x p dx n zs rs s ∧ Tab H t l m ys us (leftT rs (gapsOf n rs) s rs.length) (rightT rs (gapsOf n rs) s rs.length).reverse ∧ ∀ H', Same H H' → Q (.bl true) H'
section
variable {P : Program} {w : World} {K : PySem.W.Frag} {mg : Str → Option Value} {base : Heap} {c : Nat → Addr} {ct_Linit pt_Linit R CL : Addr}
theorem D_tright (T : Txt K mg c R CL ct_Linit pt_Linit) : Def P w K mg base CX0 7 "_law_told_right" ["_law_layout", "_law_size", "_law_due"] (sp_tright CL) := by
  have D_prices := D_prices (P := P) (w := w) (base := base) T
  have D_side := D_side (P := P) (w := w) (base := base) T
  have D_isprices := D_isprices (P := P) (w := w) (base := base) T
  refine def_of T.d_tright sc_tright (fun vs H Q E h => ?_) (fun _ _ _ _ _ _ us hl => match us, hl with | [_, _, _], _ => rfl) (fun f cdv A outer s H vs Q E hr h => ?_)
  · obtain ⟨x, p, dx, n, zs, rs, s, t, l, m, ys, us, rfl, _⟩ := h
    rfl
  · obtain ⟨x, p, dx, n, zs, rs, s, t, l, m, ys, us, rfl, ly, tb, k⟩ := h
    have nd := sc_tright.nd
    refine ⟨_, (pss_cons (ps_set (i := 3) nd rfl (Or.inl rfl) (pe_def D_prices hr (pa_cons (pv 0) (pa_cons (pv 1) pa_nil))))
      (pss_cons (ps_if (PW.pt (pw_or (pt_not (pt_val (pe_callB call_isT rfl T.n_isinstance boot_isinstance (pa_cons (pv 3) (pa_cons (pe_ty (T := "tuple") rfl T.n_tuple boot_tuple) pa_nil))))) (pw_or1 (pt_cmpR op_ne (pe_callB call_lenN rfl T.n_len boot_len (pa_cons (pv 3) pa_nil)) pe_int (nomark _))))) (pss_one (ps_ret pe_bl)) pss_nil)
      (pss_cons (ps_if (PW.pt (pw_or (pt_not (pt_val (pe_def D_side hr (pa_cons (pe_ix ix_tup (pv 3) pe_int (fun _ _ => rfl)) (pa_cons (pe_callB call_lenN rfl T.n_len boot_len (pa_cons (pe_ix ix_tup (pv 2) pe_int (fun _ _ => rfl)) pa_nil)) (pa_cons (pv 1) pa_nil)))))) (pw_or1 (pt_not (pt_val (pe_def D_side hr (pa_cons (pe_ix ix_tup (pv 3) pe_int (fun _ _ => rfl)) (pa_cons (pe_callB call_lenN rfl T.n_len boot_len (pa_cons (pe_ix ix_tup (pv 2) pe_int (fun _ _ => rfl)) pa_nil)) (pa_cons (pv 1) pa_nil))))))))) (pss_one (ps_ret pe_bl)) pss_nil)
      (pss_cons (ps_if (PW.pt (pw_or (pt_cmpR (op_ne_dN hr) (pv 3) (pv 2) (nomark _)) (pw_or1 (pt_cmpR op_isNB (pe_def D_isprices hr (pa_cons (pv 0) (pa_cons (pv 1) (pa_cons (pv 3) pa_nil)))) pe_bl (nomark _))))) (pss_one (ps_ret pe_bl)) pss_nil)
      (pss_cons (ps_expr (pe_appendA (pe_ix ix_list (pe_ix ix_tup (pv 3) pe_int (fun _ _ => rfl)) pe_int (fun _ _ => rfl)) pe_int))
      (pss_cons (ps_expr (pe_clearA (pe_ix ix_tup (pv 3) pe_int (fun _ _ => rfl))))
      (pss_one (ps_ret pe_bl)))))))), ?_⟩
    clear nd D_prices D_side D_isprices
    rw [show start ["_law_layout", "_law_size", "_law_due", "_law_told"] [.ref x, .int (s : Nat), .ref t] = [some (.ref x), some (.int (s : Nat)), some (.ref t), none] from rfl]
    try dsimp only [cx_K, cx_K2]
    have iL_many : FldOk K CL "many" := ⟨T.clL, T.aL_many⟩
    have iL_rows : FldOk K CL "rows" := ⟨T.clL, T.aL_rows⟩
    have F : SH H [] H [] [] := SH.nil
    have sd1 := ly.few
    have sd2 := ly.s2
    repeat k_meth
    refine ⟨x, p, dx, n, zs, rs, s, rfl, ly, fun t2 l2 m2 ys2 us2 H2 s2 tb2 fr2 nm2 => ?_⟩
    have ly2 := ly.same s2
    have tb1 := tb.same s2
    clear F
    have F : SH H2 [] H2 [] [] := SH.nil
    have e1 := tb1.a.1
    have e2 := tb1.b.1
    have e3 := tb2.a.1
    have e4 := tb2.b.1
    rw [leftT_len.1] at e1 e3
    rw [rightT_len.1] at e2 e4
    have o1 := Old.mk (M := []) tb2.t nm0
    have o2 := Old.mk (M := []) tb2.l nm0
    have o3 := Old.mk (M := []) tb2.m nm0
    have o4 := Old.mk (M := []) tb1.t nm0
    have o5 := Old.mk (M := []) tb1.l nm0
    have o6 := Old.mk (M := []) tb1.m nm0
    repeat k_meth
    refine ⟨l2, ys2, _, ys.length, s, rfl, hatC, tb2.a.kept fun q u _ e => F.sm _ _ e, by rw [leftT_len.1]; omega, leftT_len.2, fun H3 s3 => ?_⟩
    replace F := F.same s3
    repeat k_meth
    refine ⟨m2, us2, _, us.length, s, rfl, hatC, tb2.b.kept fun q u _ e => F.sm _ _ e, by rw [rightT_len.1]; omega, rightT_len.2, fun H4 s4 => ?_⟩
    replace F := F.same s4
    repeat k_meth
    refine ⟨_, _, rep_tab (tb2.same F.sm), rep_tab (tb1.same F.sm), dep_tab _ _, ?_⟩
    rw [eqDt_refl]
    repeat k_meth
    refine ⟨x, p, dx, n, zs, rs, s, t2, l2, m2, ys2, us2, rfl, ly2.same F.sm, tb2.same F.sm, fun H5 s5 => ?_⟩
    have sm5 := (F.same s5).sm
    have tb5 := tb2.same sm5
    clear F o1 o2 o3 o4 o5 o6
    obtain ⟨r0, hr0⟩ : ∃ r0, (leftT rs (gapsOf n rs) s rs.length)[0]? = some r0 := ⟨_, List.getElem?_eq_getElem (by rw [leftT_len.1]; omega)⟩
    obtain ⟨q0, a0, b0⟩ := tb5.a.2 0 _ hr0
    have hl0 := leftT_len.2 r0 (List.mem_of_getElem? hr0)
    have hm0 : V.ref q0 ∈ ys2 := List.mem_of_getElem? a0
    have n1 : q0 ≠ m2 := fun z => nm2.1 (z ▸ hm0)
    have n2 : l2 ≠ q0 := fun z => nm2.2.1 (z ▸ hm0)
    have n3 : t2 ≠ q0 := fun z => by have h := tb5.t; rw [z, b0] at h; cases h
    have n4 : t2 ≠ m2 := fun z => by have h := tb5.t; rw [z, tb5.m] at h; cases h
    have F : SH H5 [q0, m2] H5 [(q0, .lst (r0.map pV)), (m2, .lst us2)] [] := (SH.nil.addM (M := [q0, m2]) (by simp) tb5.m rfl (by simp)).addM (by simp) b0 rfl (by simp [Ne.symm n1])
    have o_t := Old.mk (M := [q0, m2]) tb5.t (by simp [n3, n4])
    have o_l := Old.mk (M := [q0, m2]) tb5.l (by simp [n2, nm2.2.2])
    have at_0 : AtI ys2 0 (.ref q0) := ⟨atI_nat a0⟩
    have rl0 : (r0.map pV).length < sizeLine := by rw [List.length_map, hl0, sizeLine_eq]; omega
    repeat k_meth
    exact k _ fun a u e => F.fr a u (by simp only [List.mem_cons, List.not_mem_nil, or_false, not_or]; exact ⟨fun z => (fr2 a u e).2 (z ▸ hm0), (fr2 a u e).1⟩) (sm5 _ _ (s2 _ _ e))
end
theorem call_list_ofK {X : Cx} {K : PySem.W.Frag} (hK : X.K = K) : CallR X (.type "list") (rLOfA K) := by
  subst hK
  exact call_list_ofA
theorem gp_nn {n : Nat} : ∀ (rs : List Rw) (g : List Int × Int), Asc rs → (∀ r ∈ rs, g.2 ≤ (r.st : Int) ∧ r.st + r.sz ≤ n) → (∀ x ∈ g.1, 0 ≤ x) → g.2 ≤ (n : Int) →
    (∀ x ∈ (rs.foldl (fun g r => (g.1 ++ [(r.st : Int) - g.2], (r.st : Int) + (r.sz : Int))) g).1, 0 ≤ x) ∧ (rs.foldl (fun g r => (g.1 ++ [(r.st : Int) - g.2], (r.st : Int) + (r.sz : Int))) g).2 ≤ (n : Int)
  | [], g, _, _, h1, h2 => ⟨h1, h2⟩
  | r :: t, g, as, hr, h1, h2 => by
    rw [List.foldl_cons]
    obtain ⟨a1, a2⟩ := List.pairwise_cons.mp as
    obtain ⟨b1, b2⟩ := hr r List.mem_cons_self
    refine gp_nn t _ a2 (fun s hs => ⟨?_, (hr s (List.mem_cons_of_mem _ hs)).2⟩) (fun x hx => ?_) ?_
    · have := a1 s hs
      show (r.st : Int) + r.sz ≤ s.st
      omega
    · rcases List.mem_append.mp hx with hx | hx
      · exact h1 x hx
      · rw [List.mem_singleton.mp hx]
        omega
    · show (r.st : Int) + r.sz ≤ n
      omega
theorem gaps_nn {n : Nat} {rs : List Rw} (ly : Lay n rs) (as : Asc rs) : ∀ g ∈ gapsOf n rs, 0 ≤ g := by
  obtain ⟨h1, h2⟩ := gp_nn (n := n) rs ([], 0) as (fun r hr => ⟨Int.natCast_nonneg _, (ly.good r hr).le⟩) (by simp) (Int.natCast_nonneg _)
  intro g hg
  unfold gapsOf at hg
  rcases List.mem_append.mp hg with hg | hg
  · exact h1 g hg
  · rw [List.mem_singleton.mp hg]
    unfold gp
    omega
theorem gaps_len (n : Nat) (rs : List Rw) : (gapsOf n rs).length = rs.length + 1 := by unfold gapsOf; rw [List.length_append, gp_len]; rfl
theorem comp_copies {K : PySem.W.Frag} {l : Addr} {ys : List V} {T : List PR} {te : TE} {σ fvs : L2.St} {fr : List Nat} {H : Hp} {Q : VK} (hq : SqL K H l ys) (ls : LsAt H ys T) (hz : ys.length ≤ 1000000) (hf : (fr.map fun i => (σ[i]?).getD none) = fvs)
    (turn : ∀ (q : Addr) (r : PR) (H' : Hp) (R : VK), r ∈ T → Same H H' → H' q = some (.lst (r.map pV)) → (∀ z H2, New H' H2 z (.lst (r.map pV)) → R (.ref z) H2) → te (some (.ref q) :: fvs) H' R)
    (k : ∀ p H' zs, Same H H' → (∀ b u, H b = some u → b ≠ p ∧ V.ref b ∉ zs) → H' p = some (.lst zs) → LsAt H' zs T → Q (.ref p) H') : CompAll (Itl K l) 1 fr (gName 0) tTrue te σ H Q := by
  intro acc hacc
  subst hf
  have nacc : ∀ b u, H b = some u → b ≠ acc := fun b u e => ne_of_none e hacc
  refine comp_by (items_list (xs := ys)) (fun i zs H' => H' acc = some (.lst zs) ∧ Same H H' ∧ zs.length = i ∧ (∀ (j : Nat) (r : PR), j < i → T[j]? = some r → ∃ q : Addr, zs[j]? = some (.ref q) ∧ q ≠ acc ∧ H' q = some (.lst (r.map pV))) ∧ ∀ b u, H b = some u → V.ref b ∉ zs) ⟨upd_same, Same.new hacc, rfl, (fun j r h => by omega), fun b u e => by simp⟩ (fun i ys H' _ h => ⟨h.2.1.seq hq, h.1⟩) ?_ ?_
  · rintro i x tv zs H' hx hi ⟨ha, hs, hl, hp, hfr⟩ htv
    obtain ⟨t0, rfl⟩ : ∃ t0, tv = [t0] := by
      match tv, htv with
      | [t], _ => exact ⟨t, rfl⟩
    have hiT : i < T.length := by rw [← ls.1]; exact hi
    obtain ⟨q, a, b⟩ := ls.2 i _ (List.getElem?_eq_getElem hiT)
    rw [hx] at a
    cases a
    show te (some (.ref q) :: fr.map fun i => (σ[i]?).getD none) H' _
    refine turn q T[i] H' _ (List.getElem_mem hiT) hs (hs _ _ b) fun z H2 nw => ⟨by rw [hl]; exact Nat.lt_of_lt_of_le hi (small_line hz), nw.s _ _ ha, CompW.next (tv := [some (.ref q)]) hi ⟨upd_same, fun b u e => by rw [upd_ne (nacc b u e)]; exact nw.s _ _ (hs _ _ e), by rw [List.length_append, hl]; rfl, fun j r hj e => ?_, fun b u e => by simp only [List.mem_append, List.mem_singleton, V.ref.injEq, not_or]; exact ⟨hfr b u e, nw.n b u (hs _ _ e)⟩⟩ rfl⟩
    have zn : z ≠ acc := fun h => nw.n acc _ ha h.symm
    rcases Nat.lt_or_ge j i with h | h
    · obtain ⟨q', c1, c2, c3⟩ := hp j r h e
      exact ⟨q', by rw [List.getElem?_append_left (by omega)]; exact c1, c2, by rw [upd_ne c2]; exact nw.s _ _ c3⟩
    · have : j = i := by omega
      subst this
      rw [List.getElem?_eq_getElem hiT] at e
      cases e
      exact ⟨z, by rw [List.getElem?_append_right (by omega), hl, Nat.sub_self]; rfl, zn, by rw [upd_ne zn]; exact nw.e⟩
  · rintro zs H' ⟨ha, hs, hl, hp, hfr⟩
    refine k acc H' zs hs (fun b u e => ⟨nacc b u e, hfr b u e⟩) ha ⟨by rw [hl, ls.1], fun j r e => ?_⟩
    obtain ⟨q, c1, c2, c3⟩ := hp j r (by rw [ls.1]; exact (List.getElem?_eq_some_iff.mp e).1) e
    exact ⟨q, c1, c3⟩
theorem Tab.off {H H' : Hp} {t l m : Addr} {ys zs : List V} {T U : List PR} (h : Tab H t l m ys zs T U) (k : ∀ q u, q = t ∨ q = l ∨ q = m ∨ V.ref q ∈ ys ∨ V.ref q ∈ zs → H q = some u → H' q = some u) : Tab H' t l m ys zs T U :=
  ⟨k _ _ (.inl rfl) h.t, k _ _ (.inr (.inl rfl)) h.l, h.a.kept fun q u hm e => k q u (.inr (.inr (.inr (.inl hm)))) e, k _ _ (.inr (.inr (.inl rfl))) h.m, h.b.kept fun q u hm e => k q u (.inr (.inr (.inr (.inr hm)))) e⟩
def sp_law (P : Addr) (K : PySem.W.Frag) : Sp := fun vs H Q _ => ∃ (a : Addr) (ns : List Int), vs = [.ref a] ∧ SqL K H a (ns.map V.int) ∧ ns.length ≤ 63 ∧ H P = some (.tbl #[]) ∧ a ≠ P ∧ ∀ H', Q (.bl true) H'
section
variable {P : Program} {w : World} {K : PySem.W.Frag} {mg : Str → Option Value} {base : Heap} {c : Nat → Addr} {ct_Linit pt_Linit R CL : Addr}
theorem ok_law (T : Txt K mg c R CL ct_Linit pt_Linit) (B : Bm mg base) {f : Addr} {fd : FuncData} (F : Fun K "law" "law" s_law f fd) : FnOk P w K mg base CX0 8 f fd ["_law_script"] (sp_law pt_Linit K) := by
  have D_box := D_box (P := P) (w := w) (base := base) T
  have D_rows := D_rows (P := P) (w := w) (base := base) T
  have MK_Linit := MK_Linit (P := P) (w := w) (base := base) T B
  have D_lprices := D_lprices (P := P) (w := w) (base := base) T
  have D_cell_at := D_cell_at (P := P) (w := w) (base := base) T
  have D_many := D_many (P := P) (w := w) (base := base) T
  have D_mixed := D_mixed (P := P) (w := w) (base := base) T
  have D_take := D_take (P := P) (w := w) (base := base) T
  have D_tright := D_tright (P := P) (w := w) (base := base) T
  have D_isprices := D_isprices (P := P) (w := w) (base := base) T
  refine fnok_of F sc_law (fun vs H Q E h => ?_) (fun cdv A outer s H vs Q E hr h => ?_)
  · obtain ⟨a, ns, rfl, _⟩ := h
    rfl
  · obtain ⟨a, ns, rfl, hS, hl, hP, hne, k⟩ := h
    have nd := sc_law.nd
    refine ⟨_, (pss_cons (ps_for PassesOwn.never rfl (pi_range1 rfl T.n_range (pa_cons (pe_callB (call_maxN rfl) rfl T.n_max boot_max (pa_cons pe_int (pa_cons (pe_callB (call_minN rfl) rfl T.n_min boot_min (pa_cons pe_int (pa_cons (pe_callB call_lenN rfl T.n_len boot_len (pa_cons (pv 0) pa_nil)) pa_nil))) pa_nil))) pa_nil)) (pg_name (i := 1) nd rfl (Or.inl rfl)) (pss_cons (ps_set (i := 2) nd rfl (Or.inl rfl) (pe_def D_box hr (pa_cons (pe_def D_cell_at hr (pa_cons (pv 0) (pa_cons (pv 1) pa_nil))) pa_nil)))
        (pss_cons (ps_set (i := 3) nd rfl (Or.inl rfl) (pe_callB (call_minN rfl) rfl T.n_min boot_min (pa_cons (pe_def D_many hr (pa_cons (pv 2) pa_nil)) (pa_cons (pe_ix ix_list (pe_lstA (pa_cons pe_int (pa_cons pe_int pa_nil))) (pe_callTy call_intN rfl T.n_int boot_int (pa_cons (pe_cmpR op_gt (pv 1) pe_int (nomark _)) pa_nil)) (fun _ _ => rfl)) pa_nil))))
        (pss_cons (ps_set (i := 4) nd rfl (Or.inl rfl) (pe_def D_rows hr (pa_cons (pv 2) (pa_cons (pv 3) pa_nil))))
        (pss_cons (ps_set (i := 5) nd rfl (Or.inl rfl) (pe_op op_add pe_int (pe_ix ix_list (pe_lstA (pa_cons (pe_def D_take hr (pa_cons (pv 2) (pa_cons pe_int pa_nil))) (pa_cons (pe_def D_take hr (pa_cons (pv 2) (pa_cons (pe_op op_add (pv 3) pe_int) pa_nil))) (pa_cons (pe_def D_take hr (pa_cons (pv 2) (pa_cons pe_int pa_nil))) pa_nil)))) (pe_def D_take hr (pa_cons (pv 2) (pa_cons pe_int pa_nil))) (fun _ _ => rfl))))
        (pss_cons (ps_set (i := 5) nd rfl (Or.inl rfl) (pe_callB (call_minN rfl) rfl T.n_min boot_min (pa_cons (pv 5) (pa_cons pe_int pa_nil))))
        (pss_cons (ps_set (i := 6) nd rfl (Or.inl rfl) (pe_makB MK_Linit hr (pa_cons (pv 3) (pa_cons (pe_def D_mixed hr (pa_cons (pv 2) (pa_cons (pv 4) pa_nil))) pa_nil))))
        (pss_cons (ps_set (i := 7) nd rfl (Or.inl rfl) (pe_def D_lprices hr (pa_cons (pv 3) (pa_cons (pv 4) (pa_cons (pv 5) pa_nil)))))
        (pss_cons (ps_set (i := 8) nd rfl (Or.inl rfl) (pe_tupA (pa_cons (pe_comp (N := ["_law_row"]) (nt := 1) (fr := []) (pi_list (pe_ix ix_tup (pv 7) pe_int (fun _ _ => rfl))) (fun _ _ _ _ => (pg_name (i := 0) (show (["_law_row"] : List Str).Nodup from by decide +kernel) rfl (Or.inl rfl))) (fun _ _ _ _ => pif_nil) (fun _ _ _ _ => (pe_callTy (call_list_ofK (K := K) rfl) rfl T.n_list boot_list (pa_cons (pv 0) pa_nil)))) (pa_cons (pe_comp (N := ["_law_row"]) (nt := 1) (fr := []) (pi_list (pe_ix ix_tup (pv 7) pe_int (fun _ _ => rfl))) (fun _ _ _ _ => (pg_name (i := 0) (show (["_law_row"] : List Str).Nodup from by decide +kernel) rfl (Or.inl rfl))) (fun _ _ _ _ => pif_nil) (fun _ _ _ _ => (pe_callTy (call_list_ofK (K := K) rfl) rfl T.n_list boot_list (pa_cons (pv 0) pa_nil)))) pa_nil))))
        (pss_cons (ps_if (PW.pt (pw_and (pt_cmpR op_eq (pe_def D_take hr (pa_cons (pv 2) (pa_cons pe_int pa_nil))) pe_int (nomark _)) (pw_and1 (pt_cmpR op_isNB (pe_def D_isprices hr (pa_cons (pv 6) (pa_cons (pv 5) (pa_cons (pv 8) pa_nil)))) pe_bl (nomark _))))) (pss_one (ps_ret pe_bl)) pss_nil)
        (pss_cons (ps_set (i := 9) nd rfl (Or.inl rfl) (pe_op op_add pe_int (pe_def D_take hr (pa_cons (pv 2) (pa_cons pe_int pa_nil)))))
        (pss_cons (ps_if (pt_not (pt_val (pe_def D_tright hr (pa_cons (pv 6) (pa_cons (pv 5) (pa_cons (pv 7) pa_nil)))))) (pss_one (ps_ret pe_bl)) pss_nil)
        (pss_one (ps_if (PW.pt (pw_or (pt_not (pt_val (pe_def D_tright hr (pa_cons (pv 6) (pa_cons (pv 9) (pa_cons (pe_def D_lprices hr (pa_cons (pv 3) (pa_cons (pv 4) (pa_cons (pv 9) pa_nil)))) pa_nil)))))) (pw_or1 (pt_not (pt_val (pe_def D_tright hr (pa_cons (pv 6) (pa_cons (pv 5) (pa_cons (pv 7) pa_nil))))))))) (pss_one (ps_ret pe_bl)) pss_nil))))))))))))))
      (pss_one (ps_ret pe_bl))), ?_⟩
    clear nd D_box D_rows MK_Linit D_lprices D_cell_at D_many D_mixed D_take D_tright D_isprices
    rw [show start ["_law_script", "_law_k", "_law_box_here", "_law_many_here", "_law_rows_here", "_law_size", "_law_layout", "_law_due", "_law_copied", "_law_other"] [.ref a] = [some (.ref a), none, none, none, none, none, none, none, none, none] from rfl]
    try dsimp only [cx_K, cx_K2]
    have iL_many : FldOk K CL "many" := ⟨T.clL, T.aL_many⟩
    have iL_rows : FldOk K CL "rows" := ⟨T.clL, T.aL_rows⟩
    have F : SH H [pt_Linit] H [(pt_Linit, .tbl #[])] [TabI lamPos lamQual #[]] := (SH.nil.addM List.mem_cons_self hP rfl (by simp)).addF (.inl rfl)
    have o_hS := OldQ.mk (M := [pt_Linit]) hS (nm1 hne)
    repeat k_meth
    generalize hN : (max 1 (min 3 ((ns.map V.int).length : Int))).toNat = N
    clear hN
    refine forR0_by (fun i σ' H' => ∃ (o1 o2 o3 o4 o5 o6 o7 o8 o9 : Option V) (ps : Array Value), σ' = [some (.ref a), o1, o2, o3, o4, o5, o6, o7, o8, o9] ∧ SH H [pt_Linit] H' [(pt_Linit, .tbl ps)] [TabI lamPos lamQual ps]) ⟨_, _, _, _, _, _, _, _, _, _, rfl, F⟩ ?_ ?_
    · clear F
      rintro i σ' H' hi ⟨_, _, _, _, _, _, _, _, _, ps, rfl, F⟩
      repeat k_meth
      intro n h16 h240
      repeat k_meth
      obtain ⟨n0, hn0, at1⟩ : ∃ n0 : Nat, 60 ≤ n0 ∧ AtI [V.int 240, V.int 60] (if decide (0 < (i : Int)) = true then 1 else 0) (V.int (n0 : Nat)) := by
        split
        · exact ⟨60, by omega, ⟨rfl⟩⟩
        · exact ⟨240, by omega, ⟨rfl⟩⟩
      repeat k_meth
      obtain ⟨m, em, hm1, hm2⟩ : ∃ m : Nat, min (n : Int) (n0 : Int) = (m : Int) ∧ 16 ≤ m ∧ m ≤ 240 := ⟨min n n0, by omega, by omega, by omega⟩
      rw [em]
      repeat k_meth
      intro rs ly as
      have few := ly.few
      repeat k_meth
      rename_i ra _ _ _ la0 ha _ rb _ _ _ lb hb _ rc _ _ _ lc hc _ _
      obtain ⟨v0, hv0, at2⟩ : ∃ v0 : Nat, v0 ≤ 240 ∧ AtI [V.int ra, V.int rb, V.int rc] r_ (V.int (v0 : Nat)) := by
        rcases (show r_ = 0 ∨ r_ = 1 ∨ r_ = 2 by omega) with rfl | rfl | rfl
        · exact ⟨ra.toNat, by omega, ⟨by rw [Int.toNat_of_nonneg la0]; rfl⟩⟩
        · exact ⟨rb.toNat, by omega, ⟨by rw [Int.toNat_of_nonneg lb]; rfl⟩⟩
        · exact ⟨rc.toNat, by omega, ⟨by rw [Int.toNat_of_nonneg lc]; rfl⟩⟩
      repeat k_meth
      obtain ⟨s, es, hs1, hs2⟩ : ∃ s : Nat, min (1 + (v0 : Int)) 240 = (s : Int) ∧ 1 ≤ s ∧ s ≤ 240 := ⟨min (1 + v0) 240, by omega, by omega, by omega⟩
      rw [es]
      repeat k_meth
      intro qs pm
      have la : LayA m qs rs := ⟨pm, ly, as⟩
      repeat k_meth
      intro ps2
      repeat k_meth
      rename_i bx _ _ _ _ _ _ _ _ _ _ _ rl rz _ _ _ _ _ _ _ _ _ _ _ _ _ _ _ _ _ _ bv _ _ _ _ _ _ _ _
      obtain ⟨lx, e_⟩ : ∃ q, q = x_ := ⟨_, rfl⟩
      subst e_
      obtain ⟨ld, e_⟩ : ∃ q, q = dx_ := ⟨_, rfl⟩
      subst e_
      obtain ⟨pl, e_⟩ : ∃ q, q = p_ := ⟨_, rfl⟩
      subst e_
      obtain ⟨lz, e_⟩ : ∃ q, q = ys_ := ⟨_, rfl⟩
      subst e_
      obtain ⟨bv2, e_⟩ : ∃ q, q = y_ := ⟨_, rfl⟩
      subst e_
      obtain ⟨bv3, e_⟩ : ∃ q, q = c_ := ⟨_, rfl⟩
      subst e_
      have hg := gaps_nn ly as
      have gl := gaps_len m rs
      have hb : H_ bx = some (.lst [.int bv, .int bv2, .int bv3]) := hatC
      have hrl : H_ rl = some (.lst rz) := hatC
      have trl : TupsAt H_ rz (rowsV rs) := TpA.e
      have ly0 : LayS CL H_ lx pl ld m lz rs s := ⟨hatC, hatC, TpA.e, few, hs1, hs2, hg⟩
      have n1 : lx ≠ bx := SH.neC (F := F)
      have n2 : pl ≠ bx := SH.neC (F := F)
      have nr : rl ≠ bx := SH.neC (F := F)
      refine ⟨rl, m, rz, rs, s, rfl, hatC, TpA.e, few, hs2, fun t l1 l2 ys us H2 s2 tb fr2 => ?_⟩
      rw [tab_left gl hg, tab_right gl hg] at tb
      have nb := fr2 bx _ hb
      have back : ∀ H5 H6 b1 b2 b3, Same H2 H5 → SH H5 [bx] H6 [(bx, .lst [.int b1, .int b2, .int b3])] [] → SH H [pt_Linit] H6 [(pt_Linit, .tbl ps2)] [TabI lamPos lamQual ps2] := fun H5 H6 b1 b2 b3 s5 G => by
        have F0 : SH H [pt_Linit] H5 ([(bx, .lst [.int bv, .int bv2, .int bv3])] ++ [(pt_Linit, .tbl ps2)]) [TabI lamPos lamQual ps2] := ((F.same s2).same s5).sub (L' := [(bx, .lst [.int bv, .int bv2, .int bv3]), (pt_Linit, .tbl ps2)]) SbC.s (by simp)
        have F1 : SH H [pt_Linit] H6 [(bx, .lst [.int b1, .int b2, .int b3]), (pt_Linit, .tbl ps2)] ([] ++ [TabI lamPos lamQual ps2]) := SH.over F0 G rfl
        exact F1.sub SbC.s (by simp)
      replace hb := s2 _ _ hb
      replace hrl := s2 _ _ hrl
      replace trl := trl.same s2
      replace ly0 := ly0.same s2
      clear F fr2
      have F : SH H2 [] H2 [] [] := SH.nil
      have o1 := Old.mk (M := []) tb.t nm0
      have o2 := Old.mk (M := []) tb.l nm0
      have o3 := Old.mk (M := []) tb.m nm0
      have e1 := tb.a.1
      have e2 := tb.b.1
      rw [leftT_len.1] at e1
      rw [rightT_len.1] at e2
      repeat k_meth
      refine comp_copies (T := leftT rs (gapsOf m rs) s rs.length) (fvs := []) SqA.e (tb.a.kept fun q u _ e => F.sm _ _ e) (by omega) rfl (fun q r H1 R hr s1 hq kk => ?_) fun c1 H3 zs1 s3 n3 hc1 lc1 => ?_
      · clear F
        have F : SH H1 [] H1 [] [] := SH.nil
        have o_q := Old.mk (M := []) hq nm0
        repeat k_meth
        exact kk _ _ ⟨F.sm, hatC, fun b u e => F.fresh LkL.m nm0 b u e⟩
      replace F := F.same s3
      repeat k_meth
      refine comp_copies (T := (rightT rs (gapsOf m rs) s rs.length).reverse) (fvs := []) SqA.e (tb.b.kept fun q u _ e => F.sm _ _ e) (by omega) rfl (fun q r H1 R hr s1 hq kk => ?_) fun c2 H4 zs2 s4 n4 hc2 lc2 => ?_
      · clear F
        have F : SH H1 [] H1 [] [] := SH.nil
        have o_q := Old.mk (M := []) hq nm0
        repeat k_meth
        exact kk _ _ ⟨F.sm, hatC, fun b u e => F.fresh LkL.m nm0 b u e⟩
      have n5 : ∀ b u, H2 b = some u → (b ≠ c1 ∧ b ≠ c2) ∧ V.ref b ∉ zs1 ∧ V.ref b ∉ zs2 := fun b u e => ⟨⟨(n3 b u e).1, (n4 b u (F.sm _ _ e)).1⟩, (n3 b u e).2, (n4 b u (F.sm _ _ e)).2⟩
      replace F := F.same s4
      have sm4 := F.sm
      clear F o1 o2 o3
      replace hc1 := s4 _ _ hc1
      have lc3 : LsAt H4 zs1 (leftT rs (gapsOf m rs) s rs.length) := lc1.kept fun q u _ e => s4 _ _ e
      have nbc := n5 bx _ hb
      have F : SH H4 [] H4 [] [] := SH.nil
      repeat k_meth
      obtain ⟨H5, e_⟩ : ∃ q, q = H_ := ⟨_, rfl⟩
      subst e_
      obtain ⟨cp, e_⟩ : ∃ q, q = p_ := ⟨_, rfl⟩
      subst e_
      have sm5 : Same H2 H5 := sm4.trans F.sm
      have tbc : Tab H5 cp c1 c2 zs1 zs2 (leftT rs (gapsOf m rs) s rs.length) (rightT rs (gapsOf m rs) s rs.length).reverse := ⟨hatC, F.sm _ _ hc1, lc3.kept fun q u _ e => F.sm _ _ e, F.sm _ _ hc2, lc2.kept fun q u _ e => F.sm _ _ e⟩
      have tb5 := tb.same sm5
      have ly5 := ly0.same sm5
      have hb5 := sm5 _ _ hb
      have hrl5 := sm5 _ _ hrl
      have trl5 := trl.same sm5
      clear F
      have F : SH H5 [bx] H5 [(bx, .lst [.int bv, .int bv2, .int bv3])] [.tps lz (rowsV rs), .tps rz (rowsV rs)] := ((SH.nil.addM (M := [bx]) (by simp) hb5 rfl (by simp)).addP trl5).addP ly5.t
      have o1 := Old.mk (M := [bx]) ly5.x (nm1 n1)
      have o2 := Old.mk (M := [bx]) ly5.p (nm1 n2)
      have o3 := Old.mk (M := [bx]) hrl5 (nm1 nr)
      have kT : ∀ H6 : Hp, (∀ q u, q ∉ [bx] → H5 q = some u → H6 q = some u) → Tab H6 t l1 l2 ys us (leftT rs (gapsOf m rs) s rs.length) (rightT rs (gapsOf m rs) s rs.length).reverse := fun H6 kk => tb5.off fun q u hq e => kk q u (fun hm => by
        rw [List.mem_singleton.mp hm] at hq
        rcases hq with h | h | h | h | h
        · have h2 := tb5.t
          rw [← h, hb5] at h2
          cases h2
        · exact nb.1.1 h
        · exact nb.1.2 h
        · exact nb.2.1 h
        · exact nb.2.2 h) e
      have kC : ∀ H6 : Hp, (∀ q u, q ∉ [bx] → H5 q = some u → H6 q = some u) → Tab H6 cp c1 c2 zs1 zs2 (leftT rs (gapsOf m rs) s rs.length) (rightT rs (gapsOf m rs) s rs.length).reverse := fun H6 kk => tbc.off fun q u hq e => kk q u (fun hm => by
        rw [List.mem_singleton.mp hm] at hq
        rcases hq with h | h | h | h | h
        · have h2 := tbc.t
          rw [← h, hb5] at h2
          cases h2
        · exact nbc.1.1 h
        · exact nbc.1.2 h
        · exact nbc.2.1 h
        · exact nbc.2.2 h) e
      clear hc1 lc1 lc3 hc2 lc2 n3 n4 n5 s3 s4 sm4
      repeat k_meth
      refine i_dec (fun h => ?_) (fun h => ?_)
      · repeat k_meth
        refine ⟨lx, pl, ld, m, lz, rs, s, cp, c1, c2, zs1, zs2, rfl, ⟨hatC, hatC, TpA.e, few, hs1, hs2, hg⟩, kC _ F.fr, fun H7 s7 => ?_⟩
        replace F := F.same s7
        repeat k_meth
        refine ⟨lx, pl, ld, m, lz, rs, s, t, l1, l2, ys, us, rfl, ⟨hatC, hatC, TpA.e, few, hs1, hs2, hg⟩, kT _ F.fr, fun H8 s8 => ?_⟩
        replace F := F.same s8
        repeat k_meth
        obtain ⟨w9, e9, h91, h92⟩ : ∃ w9 : Nat, 1 + r_ = (w9 : Int) ∧ 1 ≤ w9 ∧ w9 ≤ 240 := ⟨(1 + r_).toNat, by omega, by omega, by omega⟩
        rw [e9]
        refine ⟨rl, m, rz, rs, w9, rfl, hatC, TpA.e, few, h92, fun t9 a9 b9 ys9 us9 H9 s9 tb9 _ => ?_⟩
        rw [tab_left gl hg, tab_right gl hg] at tb9
        replace F := F.same s9
        repeat k_meth
        refine ⟨lx, pl, ld, m, lz, rs, w9, t9, a9, b9, ys9, us9, rfl, ⟨hatC, hatC, TpA.e, few, h91, h92, hg⟩, tb9, fun H10 s10 => ?_⟩
        replace F := F.same s10
        repeat k_meth
        refine ⟨lx, pl, ld, m, lz, rs, s, t, l1, l2, ys, us, rfl, ⟨hatC, hatC, TpA.e, few, hs1, hs2, hg⟩, kT _ F.fr, fun H11 s11 => ?_⟩
        replace F := F.same s11
        repeat k_meth
        exact ⟨_, _, _, _, _, _, _, _, _, ps2, rfl, back _ _ x_ y_ z_ sm5 (F.sub SbC.s (by simp))⟩
      · clear h
        repeat k_meth
        refine ⟨lx, pl, ld, m, lz, rs, s, t, l1, l2, ys, us, rfl, ⟨hatC, hatC, TpA.e, few, hs1, hs2, hg⟩, kT _ F.fr, fun H8 s8 => ?_⟩
        replace F := F.same s8
        repeat k_meth
        obtain ⟨w9, e9, h91, h92⟩ : ∃ w9 : Nat, 1 + r_ = (w9 : Int) ∧ 1 ≤ w9 ∧ w9 ≤ 240 := ⟨(1 + r_).toNat, by omega, by omega, by omega⟩
        rw [e9]
        refine ⟨rl, m, rz, rs, w9, rfl, hatC, TpA.e, few, h92, fun t9 a9 b9 ys9 us9 H9 s9 tb9 _ => ?_⟩
        rw [tab_left gl hg, tab_right gl hg] at tb9
        replace F := F.same s9
        repeat k_meth
        refine ⟨lx, pl, ld, m, lz, rs, w9, t9, a9, b9, ys9, us9, rfl, ⟨hatC, hatC, TpA.e, few, h91, h92, hg⟩, tb9, fun H10 s10 => ?_⟩
        replace F := F.same s10
        repeat k_meth
        refine ⟨lx, pl, ld, m, lz, rs, s, t, l1, l2, ys, us, rfl, ⟨hatC, hatC, TpA.e, few, hs1, hs2, hg⟩, kT _ F.fr, fun H11 s11 => ?_⟩
        replace F := F.same s11
        repeat k_meth
        exact ⟨_, _, _, _, _, _, _, _, _, ps2, rfl, back _ _ x_ y_ z_ sm5 (F.sub SbC.s (by simp))⟩
    · clear F
      rintro σ' H' ⟨_, _, _, _, _, _, _, _, _, ps, rfl, F⟩
      repeat k_meth
      exact k _
end
end K72
namespace K72
open PySem L2 PyProof.Rows
theorem all_mk {ct_Linit pt_Linit : Addr} {l : PySem.W.OpenLaw} {w : World} {K : PySem.W.Frag} {h : Heap} {mg : Str → Option Value} {fa g0_ g1_ g2_ g3_ g4_ g5_ g6_ g7_ g8_ g9_ g10_ g11_ g12_ g13_ g14_ g15_ g16_ g17_ g18_ g19_ g20_ g21_ g22_ g23_ g24_ g25_ g26_ g27_ g28_ g29_ g30_ g31_ g32_ : Addr} (X : K.In h) (G : h.Ns mainGlobals mg) (hfa : mg "law" = some (.ref fa))
    {R : Addr}
    (eR : PySem.W.nsIn K mainGlobals "RoomError" = some (some (.ref R)))
    (eh : PySem.W.specialIn K (.builtin "object.__class__") "__get__" = some (some (.builtin "getset_descriptor.__get__")))
    (et : PySem.W.takesIn K (.builtin "object.__class__") = some true)
    {od0_ an0_ : Option Addr} {sl0_ : Array (Option Value)} {oc0_ kV0_ dc0_ pm0_ cd0_ ct0_ : Value}
    {od1_ an1_ : Option Addr} {sl1_ : Array (Option Value)} {oc1_ kV1_ dc1_ pm1_ cd1_ ct1_ : Value}
    {od2_ an2_ : Option Addr} {sl2_ : Array (Option Value)} {oc2_ kV2_ dc2_ pm2_ cd2_ ct2_ : Value}
    {od3_ an3_ : Option Addr} {sl3_ : Array (Option Value)} {oc3_ kV3_ dc3_ pm3_ cd3_ ct3_ : Value}
    {od4_ an4_ : Option Addr} {sl4_ : Array (Option Value)} {oc4_ kV4_ dc4_ pm4_ cd4_ ct4_ : Value}
    {od5_ an5_ : Option Addr} {sl5_ : Array (Option Value)} {oc5_ kV5_ dc5_ pm5_ cd5_ ct5_ : Value}
    {od6_ an6_ : Option Addr} {sl6_ : Array (Option Value)} {oc6_ kV6_ dc6_ pm6_ cd6_ ct6_ : Value}
    {od7_ an7_ : Option Addr} {sl7_ : Array (Option Value)} {oc7_ kV7_ dc7_ pm7_ cd7_ ct7_ : Value}
    {od8_ an8_ : Option Addr} {sl8_ : Array (Option Value)} {oc8_ kV8_ dc8_ pm8_ cd8_ ct8_ : Value}
    {od9_ an9_ : Option Addr} {sl9_ : Array (Option Value)} {oc9_ kV9_ dc9_ pm9_ cd9_ ct9_ : Value}
    {od10_ an10_ : Option Addr} {sl10_ : Array (Option Value)} {oc10_ kV10_ dc10_ pm10_ cd10_ ct10_ : Value}
    {od11_ an11_ : Option Addr} {sl11_ : Array (Option Value)} {oc11_ kV11_ dc11_ pm11_ cd11_ ct11_ : Value}
    {od12_ an12_ : Option Addr} {sl12_ : Array (Option Value)} {oc12_ kV12_ dc12_ pm12_ cd12_ ct12_ : Value}
    {od13_ an13_ : Option Addr} {sl13_ : Array (Option Value)} {oc13_ kV13_ dc13_ pm13_ cd13_ ct13_ : Value}
    {od14_ an14_ : Option Addr} {sl14_ : Array (Option Value)} {oc14_ kV14_ dc14_ pm14_ cd14_ ct14_ : Value}
    {od15_ an15_ : Option Addr} {sl15_ : Array (Option Value)} {oc15_ kV15_ dc15_ pm15_ cd15_ ct15_ : Value}
    {od16_ an16_ : Option Addr} {sl16_ : Array (Option Value)} {oc16_ kV16_ dc16_ pm16_ cd16_ ct16_ : Value}
    {od17_ an17_ : Option Addr} {sl17_ : Array (Option Value)} {oc17_ kV17_ dc17_ pm17_ cd17_ ct17_ : Value}
    {od18_ an18_ : Option Addr} {sl18_ : Array (Option Value)} {oc18_ kV18_ dc18_ pm18_ cd18_ ct18_ : Value}
    {od19_ an19_ : Option Addr} {sl19_ : Array (Option Value)} {oc19_ kV19_ dc19_ pm19_ cd19_ ct19_ : Value}
    {od20_ an20_ : Option Addr} {sl20_ : Array (Option Value)} {oc20_ kV20_ dc20_ pm20_ cd20_ ct20_ : Value}
    {od21_ an21_ : Option Addr} {sl21_ : Array (Option Value)} {oc21_ kV21_ dc21_ pm21_ cd21_ ct21_ : Value}
    {od22_ an22_ : Option Addr} {sl22_ : Array (Option Value)} {oc22_ kV22_ dc22_ pm22_ cd22_ ct22_ : Value}
    {od23_ an23_ : Option Addr} {sl23_ : Array (Option Value)} {oc23_ kV23_ dc23_ pm23_ cd23_ ct23_ : Value}
    {od24_ an24_ : Option Addr} {sl24_ : Array (Option Value)} {oc24_ kV24_ dc24_ pm24_ cd24_ ct24_ : Value}
    {od25_ an25_ : Option Addr} {sl25_ : Array (Option Value)} {oc25_ kV25_ dc25_ pm25_ cd25_ ct25_ : Value}
    {od26_ an26_ : Option Addr} {sl26_ : Array (Option Value)} {oc26_ kV26_ dc26_ pm26_ cd26_ ct26_ : Value}
    {od27_ an27_ : Option Addr} {sl27_ : Array (Option Value)} {oc27_ kV27_ dc27_ pm27_ cd27_ ct27_ : Value}
    {od28_ an28_ : Option Addr} {sl28_ : Array (Option Value)} {oc28_ kV28_ dc28_ pm28_ cd28_ ct28_ : Value}
    {od29_ an29_ : Option Addr} {sl29_ : Array (Option Value)} {oc29_ kV29_ dc29_ pm29_ cd29_ ct29_ : Value}
    {od30_ an30_ : Option Addr} {sl30_ : Array (Option Value)} {oc30_ kV30_ dc30_ pm30_ cd30_ ct30_ : Value}
    {od31_ an31_ : Option Addr} {sl31_ : Array (Option Value)} {oc31_ kV31_ dc31_ pm31_ cd31_ ct31_ : Value}
    {od32_ an32_ : Option Addr} {sl32_ : Array (Option Value)} {oc32_ kV32_ dc32_ pm32_ cd32_ ct32_ : Value}
    (a0_ : PySem.W.nsIn K mainGlobals "is_whole" = some (some (.ref g0_))) (l0_ : K.lookup g0_ = some ⟨oc0_, od0_, .func (PySem.W.fnOf "is_whole" "is_whole" (defArgs s_is_whole) (defBody s_is_whole) (defScope s_is_whole) .none kV0_ dc0_ pm0_ an0_ cd0_ ct0_), sl0_⟩) (c0_ : PySem.W.codeIn K cd0_ "is_whole" = true) (k0_ : PySem.W.keepIn K (.ref g0_) = true)
    (a1_ : PySem.W.nsIn K mainGlobals "is_from" = some (some (.ref g1_))) (l1_ : K.lookup g1_ = some ⟨oc1_, od1_, .func (PySem.W.fnOf "is_from" "is_from" (defArgs s_is_from) (defBody s_is_from) (defScope s_is_from) .none kV1_ dc1_ pm1_ an1_ cd1_ ct1_), sl1_⟩) (c1_ : PySem.W.codeIn K cd1_ "is_from" = true) (k1_ : PySem.W.keepIn K (.ref g1_) = true)
    (a2_ : PySem.W.nsIn K mainGlobals "is_within" = some (some (.ref g2_))) (l2_ : K.lookup g2_ = some ⟨oc2_, od2_, .func (PySem.W.fnOf "is_within" "is_within" (defArgs s_is_within) (defBody s_is_within) (defScope s_is_within) .none kV2_ dc2_ pm2_ an2_ cd2_ ct2_), sl2_⟩) (c2_ : PySem.W.codeIn K cd2_ "is_within" = true) (k2_ : PySem.W.keepIn K (.ref g2_) = true)
    (a3_ : PySem.W.nsIn K mainGlobals "is_many" = some (some (.ref g3_))) (l3_ : K.lookup g3_ = some ⟨oc3_, od3_, .func (PySem.W.fnOf "is_many" "is_many" (defArgs s_is_many) (defBody s_is_many) (defScope s_is_many) .none kV3_ dc3_ pm3_ an3_ cd3_ ct3_), sl3_⟩) (c3_ : PySem.W.codeIn K cd3_ "is_many" = true) (k3_ : PySem.W.keepIn K (.ref g3_) = true)
    (a4_ : PySem.W.nsIn K mainGlobals "is_name" = some (some (.ref g4_))) (l4_ : K.lookup g4_ = some ⟨oc4_, od4_, .func (PySem.W.fnOf "is_name" "is_name" (defArgs s_is_name) (defBody s_is_name) (defScope s_is_name) .none kV4_ dc4_ pm4_ an4_ cd4_ ct4_), sl4_⟩) (c4_ : PySem.W.codeIn K cd4_ "is_name" = true) (k4_ : PySem.W.keepIn K (.ref g4_) = true)
    (a5_ : PySem.W.nsIn K mainGlobals "end_of" = some (some (.ref g5_))) (l5_ : K.lookup g5_ = some ⟨oc5_, od5_, .func (PySem.W.fnOf "end_of" "end_of" (defArgs s_end_of) (defBody s_end_of) (defScope s_end_of) .none kV5_ dc5_ pm5_ an5_ cd5_ ct5_), sl5_⟩) (c5_ : PySem.W.codeIn K cd5_ "end_of" = true) (k5_ : PySem.W.keepIn K (.ref g5_) = true)
    (a6_ : PySem.W.nsIn K mainGlobals "is_row" = some (some (.ref g6_))) (l6_ : K.lookup g6_ = some ⟨oc6_, od6_, .func (PySem.W.fnOf "is_row" "is_row" (defArgs s_is_row) (defBody s_is_row) (defScope s_is_row) .none kV6_ dc6_ pm6_ an6_ cd6_ ct6_), sl6_⟩) (c6_ : PySem.W.codeIn K cd6_ "is_row" = true) (k6_ : PySem.W.keepIn K (.ref g6_) = true)
    (a7_ : PySem.W.nsIn K mainGlobals "cells_of" = some (some (.ref g7_))) (l7_ : K.lookup g7_ = some ⟨oc7_, od7_, .func (PySem.W.fnOf "cells_of" "cells_of" (defArgs s_cells_of) (defBody s_cells_of) (defScope s_cells_of) .none kV7_ dc7_ pm7_ an7_ cd7_ ct7_), sl7_⟩) (c7_ : PySem.W.codeIn K cd7_ "cells_of" = true) (k7_ : PySem.W.keepIn K (.ref g7_) = true)
    (a8_ : PySem.W.nsIn K mainGlobals "need_row" = some (some (.ref g8_))) (l8_ : K.lookup g8_ = some ⟨oc8_, od8_, .func (PySem.W.fnOf "need_row" "need_row" (defArgs s_need_row) (defBody s_need_row) (defScope s_need_row) .none kV8_ dc8_ pm8_ an8_ cd8_ ct8_), sl8_⟩) (c8_ : PySem.W.codeIn K cd8_ "need_row" = true) (k8_ : PySem.W.keepIn K (.ref g8_) = true)
    (a9_ : PySem.W.nsIn K mainGlobals "need_rows" = some (some (.ref g9_))) (l9_ : K.lookup g9_ = some ⟨oc9_, od9_, .func (PySem.W.fnOf "need_rows" "need_rows" (defArgs s_need_rows) (defBody s_need_rows) (defScope s_need_rows) .none kV9_ dc9_ pm9_ an9_ cd9_ ct9_), sl9_⟩) (c9_ : PySem.W.codeIn K cd9_ "need_rows" = true) (k9_ : PySem.W.keepIn K (.ref g9_) = true)
    (a10_ : PySem.W.nsIn K mainGlobals "share_cells" = some (some (.ref g10_))) (l10_ : K.lookup g10_ = some ⟨oc10_, od10_, .func (PySem.W.fnOf "share_cells" "share_cells" (defArgs s_share) (defBody s_share) (defScope s_share) .none kV10_ dc10_ pm10_ an10_ cd10_ ct10_), sl10_⟩) (c10_ : PySem.W.codeIn K cd10_ "share_cells" = true) (k10_ : PySem.W.keepIn K (.ref g10_) = true)
    (a11_ : PySem.W.nsIn K mainGlobals "_law_cell_at" = some (some (.ref g11_))) (l11_ : K.lookup g11_ = some ⟨oc11_, od11_, .func (PySem.W.fnOf "_law_cell_at" "_law_cell_at" (defArgs s_cell_at) (defBody s_cell_at) (defScope s_cell_at) .none kV11_ dc11_ pm11_ an11_ cd11_ ct11_), sl11_⟩) (c11_ : PySem.W.codeIn K cd11_ "_law_cell_at" = true) (k11_ : PySem.W.keepIn K (.ref g11_) = true)
    (a12_ : PySem.W.nsIn K mainGlobals "_law_box" = some (some (.ref g12_))) (l12_ : K.lookup g12_ = some ⟨oc12_, od12_, .func (PySem.W.fnOf "_law_box" "_law_box" (defArgs s_box) (defBody s_box) (defScope s_box) .none kV12_ dc12_ pm12_ an12_ cd12_ ct12_), sl12_⟩) (c12_ : PySem.W.codeIn K cd12_ "_law_box" = true) (k12_ : PySem.W.keepIn K (.ref g12_) = true)
    (a13_ : PySem.W.nsIn K mainGlobals "_law_take" = some (some (.ref g13_))) (l13_ : K.lookup g13_ = some ⟨oc13_, od13_, .func (PySem.W.fnOf "_law_take" "_law_take" (defArgs s_take) (defBody s_take) (defScope s_take) .none kV13_ dc13_ pm13_ an13_ cd13_ ct13_), sl13_⟩) (c13_ : PySem.W.codeIn K cd13_ "_law_take" = true) (k13_ : PySem.W.keepIn K (.ref g13_) = true)
    (a14_ : PySem.W.nsIn K mainGlobals "_law_names" = some (some (.ref g14_))) (l14_ : K.lookup g14_ = some ⟨oc14_, od14_, .func (PySem.W.fnOf "_law_names" "_law_names" (defArgs s_names) (defBody s_names) (defScope s_names) .none kV14_ dc14_ pm14_ an14_ cd14_ ct14_), sl14_⟩) (c14_ : PySem.W.codeIn K cd14_ "_law_names" = true) (k14_ : PySem.W.keepIn K (.ref g14_) = true)
    (a15_ : PySem.W.nsIn K mainGlobals "_law_many" = some (some (.ref g15_))) (l15_ : K.lookup g15_ = some ⟨oc15_, od15_, .func (PySem.W.fnOf "_law_many" "_law_many" (defArgs s_many) (defBody s_many) (defScope s_many) .none kV15_ dc15_ pm15_ an15_ cd15_ ct15_), sl15_⟩) (c15_ : PySem.W.codeIn K cd15_ "_law_many" = true) (k15_ : PySem.W.keepIn K (.ref g15_) = true)
    (a16_ : PySem.W.nsIn K mainGlobals "_law_rows" = some (some (.ref g16_))) (l16_ : K.lookup g16_ = some ⟨oc16_, od16_, .func (PySem.W.fnOf "_law_rows" "_law_rows" (defArgs s_rows) (defBody s_rows) (defScope s_rows) .none kV16_ dc16_ pm16_ an16_ cd16_ ct16_), sl16_⟩) (c16_ : PySem.W.codeIn K cd16_ "_law_rows" = true) (k16_ : PySem.W.keepIn K (.ref g16_) = true)
    (a17_ : PySem.W.nsIn K mainGlobals "_law_mixed" = some (some (.ref g17_))) (l17_ : K.lookup g17_ = some ⟨oc17_, od17_, .func (PySem.W.fnOf "_law_mixed" "_law_mixed" (defArgs s_mixed) (defBody s_mixed) (defScope s_mixed) .none kV17_ dc17_ pm17_ an17_ cd17_ ct17_), sl17_⟩) (c17_ : PySem.W.codeIn K cd17_ "_law_mixed" = true) (k17_ : PySem.W.keepIn K (.ref g17_) = true)
    (a18_ : PySem.W.nsIn K mainGlobals "gaps_of" = some (some (.ref g18_))) (l18_ : K.lookup g18_ = some ⟨oc18_, od18_, .func (PySem.W.fnOf "gaps_of" "gaps_of" (defArgs s_gapsof) (defBody s_gapsof) (defScope s_gapsof) .none kV18_ dc18_ pm18_ an18_ cd18_ ct18_), sl18_⟩) (c18_ : PySem.W.codeIn K cd18_ "gaps_of" = true) (k18_ : PySem.W.keepIn K (.ref g18_) = true)
    (a19_ : PySem.W.nsIn K mainGlobals "has_truth" = some (some (.ref g19_))) (l19_ : K.lookup g19_ = some ⟨oc19_, od19_, .func (PySem.W.fnOf "has_truth" "has_truth" (defArgs s_truth) (defBody s_truth) (defScope s_truth) .none kV19_ dc19_ pm19_ an19_ cd19_ ct19_), sl19_⟩) (c19_ : PySem.W.codeIn K cd19_ "has_truth" = true) (k19_ : PySem.W.keepIn K (.ref g19_) = true)
    (a20_ : PySem.W.nsIn K mainGlobals "row_at_end" = some (some (.ref g20_))) (l20_ : K.lookup g20_ = some ⟨oc20_, od20_, .func (PySem.W.fnOf "row_at_end" "row_at_end" (defArgs s_atend) (defBody s_atend) (defScope s_atend) .none kV20_ dc20_ pm20_ an20_ cd20_ ct20_), sl20_⟩) (c20_ : PySem.W.codeIn K cd20_ "row_at_end" = true) (k20_ : PySem.W.keepIn K (.ref g20_) = true)
    (a21_ : PySem.W.nsIn K mainGlobals "row_beside" = some (some (.ref g21_))) (l21_ : K.lookup g21_ = some ⟨oc21_, od21_, .func (PySem.W.fnOf "row_beside" "row_beside" (defArgs s_beside) (defBody s_beside) (defScope s_beside) .none kV21_ dc21_ pm21_ an21_ cd21_ ct21_), sl21_⟩) (c21_ : PySem.W.codeIn K cd21_ "row_beside" = true) (k21_ : PySem.W.keepIn K (.ref g21_) = true)
    (a22_ : PySem.W.nsIn K mainGlobals "left_prices" = some (some (.ref g22_))) (l22_ : K.lookup g22_ = some ⟨oc22_, od22_, .func (PySem.W.fnOf "left_prices" "left_prices" (defArgs s_left) (defBody s_left) (defScope s_left) .none kV22_ dc22_ pm22_ an22_ cd22_ ct22_), sl22_⟩) (c22_ : PySem.W.codeIn K cd22_ "left_prices" = true) (k22_ : PySem.W.keepIn K (.ref g22_) = true)
    (a23_ : PySem.W.nsIn K mainGlobals "right_prices" = some (some (.ref g23_))) (l23_ : K.lookup g23_ = some ⟨oc23_, od23_, .func (PySem.W.fnOf "right_prices" "right_prices" (defArgs s_right) (defBody s_right) (defScope s_right) .none kV23_ dc23_ pm23_ an23_ cd23_ ct23_), sl23_⟩) (c23_ : PySem.W.codeIn K cd23_ "right_prices" = true) (k23_ : PySem.W.keepIn K (.ref g23_) = true)
    (a24_ : PySem.W.nsIn K mainGlobals "prices" = some (some (.ref g24_))) (l24_ : K.lookup g24_ = some ⟨oc24_, od24_, .func (PySem.W.fnOf "prices" "prices" (defArgs s_prices) (defBody s_prices) (defScope s_prices) .none kV24_ dc24_ pm24_ an24_ cd24_ ct24_), sl24_⟩) (c24_ : PySem.W.codeIn K cd24_ "prices" = true) (k24_ : PySem.W.keepIn K (.ref g24_) = true)
    (a25_ : PySem.W.nsIn K mainGlobals "is_prices" = some (some (.ref g25_))) (l25_ : K.lookup g25_ = some ⟨oc25_, od25_, .func (PySem.W.fnOf "is_prices" "is_prices" (defArgs s_isprices) (defBody s_isprices) (defScope s_isprices) .none kV25_ dc25_ pm25_ an25_ cd25_ ct25_), sl25_⟩) (c25_ : PySem.W.codeIn K cd25_ "is_prices" = true) (k25_ : PySem.W.keepIn K (.ref g25_) = true)
    (a26_ : PySem.W.nsIn K mainGlobals "_law_whole" = some (some (.ref g26_))) (l26_ : K.lookup g26_ = some ⟨oc26_, od26_, .func (PySem.W.fnOf "_law_whole" "_law_whole" (defArgs s_lwhole) (defBody s_lwhole) (defScope s_lwhole) .none kV26_ dc26_ pm26_ an26_ cd26_ ct26_), sl26_⟩) (c26_ : PySem.W.codeIn K cd26_ "_law_whole" = true) (k26_ : PySem.W.keepIn K (.ref g26_) = true)
    (a27_ : PySem.W.nsIn K mainGlobals "_law_gaps" = some (some (.ref g27_))) (l27_ : K.lookup g27_ = some ⟨oc27_, od27_, .func (PySem.W.fnOf "_law_gaps" "_law_gaps" (defArgs s_lgaps) (defBody s_lgaps) (defScope s_lgaps) .none kV27_ dc27_ pm27_ an27_ cd27_ ct27_), sl27_⟩) (c27_ : PySem.W.codeIn K cd27_ "_law_gaps" = true) (k27_ : PySem.W.keepIn K (.ref g27_) = true)
    (a28_ : PySem.W.nsIn K mainGlobals "_law_pushed" = some (some (.ref g28_))) (l28_ : K.lookup g28_ = some ⟨oc28_, od28_, .func (PySem.W.fnOf "_law_pushed" "_law_pushed" (defArgs s_pushed) (defBody s_pushed) (defScope s_pushed) .none kV28_ dc28_ pm28_ an28_ cd28_ ct28_), sl28_⟩) (c28_ : PySem.W.codeIn K cd28_ "_law_pushed" = true) (k28_ : PySem.W.keepIn K (.ref g28_) = true)
    (a29_ : PySem.W.nsIn K mainGlobals "_law_prices" = some (some (.ref g29_))) (l29_ : K.lookup g29_ = some ⟨oc29_, od29_, .func (PySem.W.fnOf "_law_prices" "_law_prices" (defArgs s_lprices) (defBody s_lprices) (defScope s_lprices) .none kV29_ dc29_ pm29_ an29_ cd29_ ct29_), sl29_⟩) (c29_ : PySem.W.codeIn K cd29_ "_law_prices" = true) (k29_ : PySem.W.keepIn K (.ref g29_) = true)
    (a30_ : PySem.W.nsIn K mainGlobals "_law_is_side" = some (some (.ref g30_))) (l30_ : K.lookup g30_ = some ⟨oc30_, od30_, .func (PySem.W.fnOf "_law_is_side" "_law_is_side" (defArgs s_side) (defBody s_side) (defScope s_side) .none kV30_ dc30_ pm30_ an30_ cd30_ ct30_), sl30_⟩) (c30_ : PySem.W.codeIn K cd30_ "_law_is_side" = true) (k30_ : PySem.W.keepIn K (.ref g30_) = true)
    (a31_ : PySem.W.nsIn K mainGlobals "_law_told_right" = some (some (.ref g31_))) (l31_ : K.lookup g31_ = some ⟨oc31_, od31_, .func (PySem.W.fnOf "_law_told_right" "_law_told_right" (defArgs s_tright) (defBody s_tright) (defScope s_tright) .none kV31_ dc31_ pm31_ an31_ cd31_ ct31_), sl31_⟩) (c31_ : PySem.W.codeIn K cd31_ "_law_told_right" = true) (k31_ : PySem.W.keepIn K (.ref g31_) = true)
    (a32_ : PySem.W.nsIn K mainGlobals "law" = some (some (.ref g32_))) (l32_ : K.lookup g32_ = some ⟨oc32_, od32_, .func (PySem.W.fnOf "law" "law" (defArgs s_law) (defBody s_law) (defScope s_law) .none kV32_ dc32_ pm32_ an32_ cd32_ ct32_), sl32_⟩) (c32_ : PySem.W.codeIn K cd32_ "law" = true) (k32_ : PySem.W.keepIn K (.ref g32_) = true)
    (nb0 : PySem.W.nsIn K mainGlobals "isinstance" = some none)
    (nb1 : PySem.W.nsIn K mainGlobals "int" = some none)
    (nb2 : PySem.W.nsIn K mainGlobals "bool" = some none)
    (nb3 : PySem.W.nsIn K mainGlobals "str" = some none)
    (nb4 : PySem.W.nsIn K mainGlobals "list" = some none)
    (nb5 : PySem.W.nsIn K mainGlobals "tuple" = some none)
    (nb6 : PySem.W.nsIn K mainGlobals "len" = some none)
    (nb7 : PySem.W.nsIn K mainGlobals "all" = some none)
    (nb8 : PySem.W.nsIn K mainGlobals "range" = some none)
    (nb9 : PySem.W.nsIn K mainGlobals "sorted" = some none)
    (nb10 : PySem.W.nsIn K mainGlobals "max" = some none)
    (nb11 : PySem.W.nsIn K mainGlobals "min" = some none)
    (nb12 : PySem.W.nsIn K mainGlobals "sum" = some none)
    (nb13 : PySem.W.nsIn K mainGlobals "enumerate" = some none)
    (nb14 : PySem.W.nsIn K mainGlobals "zip" = some none)
    (nb15 : PySem.W.nsIn K mainGlobals "reversed" = some none)
    (nb16 : PySem.W.nsIn K mainGlobals "any" = some none)
    {tk0 : Tok} (con0 : PySem.W.nsIn K mainGlobals "LETTERS" = some (some (.str LET tk0)))
    {tk1 : Tok} (con1 : PySem.W.nsIn K mainGlobals "NAME_SIGNS" = some (some (.str SGN tk1)))
    {tk2 : Tok} (con2 : PySem.W.nsIn K mainGlobals "MOST_SIGNS" = some (some (.int 8 tk2)))
    {tk3 : Tok} (con3 : PySem.W.nsIn K mainGlobals "FEWEST_CELLS" = some (some (.int 16 tk3)))
    {tk4 : Tok} (con4 : PySem.W.nsIn K mainGlobals "MOST_CELLS" = some (some (.int 240 tk4)))
    {tk5 : Tok} (con5 : PySem.W.nsIn K mainGlobals "MOST_BLOCKS" = some (some (.int 40 tk5)))
    {nmR qR : Str} {NR : Addr} {bsR bmR : List Value} {hdR : Bool} {snR : List Str} {subR : List Value} {abR : Bool} {colR : Option Bool} {ddR : Option Addr} {k0R k1R k2R k3R k5R : Option Value} {newR : String}
    (zc : K.lookup R = some (excClassObj nmR qR R NR bsR bmR hdR snR subR abR colR ddR k0R k1R k2R k3R k5R newR)) (zt : PySem.W.typeIn K (.ref R) = some (.type "type")) (zm : PySem.W.mroIn K R (.type "BaseException") = some true)
    {CL g_Linit g_Lblocks : Addr}
    (aCL : PySem.W.nsIn K mainGlobals "Layout" = some (some (.ref CL)))
    (pgL : PySem.W.plainGet K CL Str.empty = true) (hdL : PySem.W.hasDictIn K CL = true) (poL : PySem.W.plainOver K CL = true) (saL : PySem.W.findIn K (.ref CL) "__setattr__" = some (some (.builtin "object.__setattr__"))) (mkL : PySem.W.makesIn K CL = true) (kcL : PySem.W.keepIn K (.ref CL) = true)
    (naL_many : PySem.W.findIn K (.ref CL) "many" = some none)
    (naL_rows : PySem.W.findIn K (.ref CL) "rows" = some none)
    {xd_Linit xn_Linit : Option Addr} {xs_Linit : Array (Option Value)} {xo_Linit xk_Linit xe_Linit xp_Linit xt_Linit : Value}
    (at_Linit : PySem.W.findIn K (.ref CL) "__init__" = some (some (.ref g_Linit))) (fn_Linit : PySem.W.isFn K (.ref g_Linit) = true)
    (lk_Linit : K.lookup g_Linit = some ⟨xo_Linit, xd_Linit, .func (PySem.W.fnOf "__init__" "Layout.__init__" (defArgs s_Linit) (defBody s_Linit) (defScope s_Linit) .none xk_Linit xe_Linit xp_Linit xn_Linit (.ref ct_Linit) xt_Linit), xs_Linit⟩) (cd_Linit : PySem.W.codeIn K (.ref ct_Linit) "Layout.__init__" = true) (kp_Linit : PySem.W.keepIn K (.ref g_Linit) = true) (tb_Linit : PySem.W.codeHdIn K ct_Linit pt_Linit = true) (tn_Linit : K.lookup pt_Linit = none)
    {xd_Lblocks xn_Lblocks : Option Addr} {xs_Lblocks : Array (Option Value)} {xo_Lblocks xk_Lblocks xe_Lblocks xp_Lblocks xc_Lblocks xt_Lblocks : Value}
    (at_Lblocks : PySem.W.findIn K (.ref CL) "blocks" = some (some (.ref g_Lblocks))) (fn_Lblocks : PySem.W.isFn K (.ref g_Lblocks) = true)
    (lk_Lblocks : K.lookup g_Lblocks = some ⟨xo_Lblocks, xd_Lblocks, .func (PySem.W.fnOf "blocks" "Layout.blocks" (defArgs s_Lblocks) (defBody s_Lblocks) (defScope s_Lblocks) .none xk_Lblocks xe_Lblocks xp_Lblocks xn_Lblocks xc_Lblocks xt_Lblocks), xs_Lblocks⟩) (cd_Lblocks : PySem.W.codeIn K xc_Lblocks "Layout.blocks" = true) (kp_Lblocks : PySem.W.keepIn K (.ref g_Lblocks) = true)
    : (∀ p ∈ [pt_Linit], K.lookup p = none ∧ ∃ c, PySem.W.codeHdIn K c p = true) ∧ ∃ fd : FuncData, (∀ (s : Shared) (v : Value), BindsTo s fd ⟨[v], []⟩ [("_law_script", v)]) ∧ ∀ base : Heap, K.In base → base.Ns mainGlobals mg → Bm mg base → FnOk l.prog w K mg base CX0 8 fa fd ["_law_script"] (sp_law pt_Linit K) := by
  have e := hfa.symm.trans (PySem.W.mg_of X G a32_)
  cases e
  have T : Txt K mg (fun i => ([] : List Addr).getD i 0) R CL ct_Linit pt_Linit := {
    d_is_whole := HasDef.mk (PySem.W.mg_of X G a0_) l0_ c0_ k0_
    d_is_from := HasDef.mk (PySem.W.mg_of X G a1_) l1_ c1_ k1_
    d_is_within := HasDef.mk (PySem.W.mg_of X G a2_) l2_ c2_ k2_
    d_is_many := HasDef.mk (PySem.W.mg_of X G a3_) l3_ c3_ k3_
    d_is_name := HasDef.mk (PySem.W.mg_of X G a4_) l4_ c4_ k4_
    d_end_of := HasDef.mk (PySem.W.mg_of X G a5_) l5_ c5_ k5_
    d_is_row := HasDef.mk (PySem.W.mg_of X G a6_) l6_ c6_ k6_
    d_cells_of := HasDef.mk (PySem.W.mg_of X G a7_) l7_ c7_ k7_
    d_need_row := HasDef.mk (PySem.W.mg_of X G a8_) l8_ c8_ k8_
    d_need_rows := HasDef.mk (PySem.W.mg_of X G a9_) l9_ c9_ k9_
    d_share := HasDef.mk (PySem.W.mg_of X G a10_) l10_ c10_ k10_
    d_cell_at := HasDef.mk (PySem.W.mg_of X G a11_) l11_ c11_ k11_
    d_box := HasDef.mk (PySem.W.mg_of X G a12_) l12_ c12_ k12_
    d_take := HasDef.mk (PySem.W.mg_of X G a13_) l13_ c13_ k13_
    d_names := HasDef.mk (PySem.W.mg_of X G a14_) l14_ c14_ k14_
    d_many := HasDef.mk (PySem.W.mg_of X G a15_) l15_ c15_ k15_
    d_rows := HasDef.mk (PySem.W.mg_of X G a16_) l16_ c16_ k16_
    d_mixed := HasDef.mk (PySem.W.mg_of X G a17_) l17_ c17_ k17_
    d_gapsof := HasDef.mk (PySem.W.mg_of X G a18_) l18_ c18_ k18_
    d_truth := HasDef.mk (PySem.W.mg_of X G a19_) l19_ c19_ k19_
    d_atend := HasDef.mk (PySem.W.mg_of X G a20_) l20_ c20_ k20_
    d_beside := HasDef.mk (PySem.W.mg_of X G a21_) l21_ c21_ k21_
    d_left := HasDef.mk (PySem.W.mg_of X G a22_) l22_ c22_ k22_
    d_right := HasDef.mk (PySem.W.mg_of X G a23_) l23_ c23_ k23_
    d_prices := HasDef.mk (PySem.W.mg_of X G a24_) l24_ c24_ k24_
    d_isprices := HasDef.mk (PySem.W.mg_of X G a25_) l25_ c25_ k25_
    d_lwhole := HasDef.mk (PySem.W.mg_of X G a26_) l26_ c26_ k26_
    d_lgaps := HasDef.mk (PySem.W.mg_of X G a27_) l27_ c27_ k27_
    d_pushed := HasDef.mk (PySem.W.mg_of X G a28_) l28_ c28_ k28_
    d_lprices := HasDef.mk (PySem.W.mg_of X G a29_) l29_ c29_ k29_
    d_side := HasDef.mk (PySem.W.mg_of X G a30_) l30_ c30_ k30_
    d_tright := HasDef.mk (PySem.W.mg_of X G a31_) l31_ c31_ k31_
    n_isinstance := PySem.W.mg_none_of X G nb0
    n_int := PySem.W.mg_none_of X G nb1
    n_bool := PySem.W.mg_none_of X G nb2
    n_str := PySem.W.mg_none_of X G nb3
    n_list := PySem.W.mg_none_of X G nb4
    n_tuple := PySem.W.mg_none_of X G nb5
    n_len := PySem.W.mg_none_of X G nb6
    n_all := PySem.W.mg_none_of X G nb7
    n_range := PySem.W.mg_none_of X G nb8
    n_sorted := PySem.W.mg_none_of X G nb9
    n_max := PySem.W.mg_none_of X G nb10
    n_min := PySem.W.mg_none_of X G nb11
    n_sum := PySem.W.mg_none_of X G nb12
    n_enumerate := PySem.W.mg_none_of X G nb13
    n_zip := PySem.W.mg_none_of X G nb14
    n_reversed := PySem.W.mg_none_of X G nb15
    n_any := PySem.W.mg_none_of X G nb16
    g_LETTERS := ⟨_, PySem.W.mg_of X G con0, ⟨_, rfl⟩⟩
    g_NAME_SIGNS := ⟨_, PySem.W.mg_of X G con1, ⟨_, rfl⟩⟩
    g_MOST_SIGNS := ⟨_, PySem.W.mg_of X G con2, ⟨_, rfl⟩⟩
    g_FEWEST_CELLS := ⟨_, PySem.W.mg_of X G con3, ⟨_, rfl⟩⟩
    g_MOST_CELLS := ⟨_, PySem.W.mg_of X G con4, ⟨_, rfl⟩⟩
    g_MOST_BLOCKS := ⟨_, PySem.W.mg_of X G con5, ⟨_, rfl⟩⟩
    g_R := PySem.W.mg_of X G eR
    c_R := by unfold PySem.W.clsIn; rw [zc]; rfl
    t_R := zt
    m_R := zm
    clL := ⟨pgL, hdL, poL, saL⟩
    gc_Layout := PySem.W.mg_of X G aCL
    aL_many := naL_many
    aL_rows := naL_rows
    tab_Linit := tb_Linit
    f_Linit := ⟨g_Linit, ⟨_, fun_mk (st := s_Linit) lk_Linit cd_Linit kp_Linit, rfl⟩, ⟨mkL, at_Linit, fn_Linit, kcL⟩⟩
    f_Lblocks := ⟨g_Lblocks, ⟨_, fun_mk (st := s_Lblocks) lk_Lblocks cd_Lblocks kp_Lblocks⟩, ⟨at_Lblocks, fn_Lblocks, kp_Lblocks⟩⟩ }
  refine ⟨fun p hp => ?_, PySem.W.fnOf "law" "law" (defArgs s_law) (defBody s_law) (defScope s_law) .none kV32_ dc32_ pm32_ an32_ cd32_ ct32_, fun s v => .of_eq rfl, fun base _ _ Bb => ?_⟩
  · simp only [List.mem_cons, List.not_mem_nil, or_false] at hp
    rcases hp with rfl
    · exact ⟨tn_Linit, _, tb_Linit⟩
  exact ok_law T Bb (fun_mk (st := s_law) l32_ c32_ k32_)
theorem walk {l : PySem.W.OpenLaw} {q : Program} {loose : List Str} {XP : (Str → Option Value) → Heap → Prop} {YP : World → Heap → Prop} {d : DefRec} {K : Params → PySem.W.Frag} {pt_Linit : Addr} (hn : l.most = some 63) (hdf : d.params.defaults = [])
    (hY : ∀ (w : World) (h : Heap), YP w h → (K w.params).In h ∧ ∀ p ∈ [pt_Linit], h.get? p = some (PySem.W.tabObj #[]))
    (F : ∀ (w : World) (mg : Str → Option Value) (fa : Addr) (h : Heap), (K w.params).In h → h.Ns mainGlobals mg → mg d.name = some (.ref fa) → (∀ p ∈ [pt_Linit], (K w.params).lookup p = none ∧ ∃ c, PySem.W.codeHdIn (K w.params) c p = true) ∧ 
      ∃ fd : FuncData, (∀ (s : Shared) (u : Value), BindsTo s fd ⟨[u], []⟩ [("_law_script", u)]) ∧ ∀ base : Heap, (K w.params).In base → base.Ns mainGlobals mg → Bm mg base → FnOk l.prog w (K w.params) mg base CX0 8 fa fd ["_law_script"] (sp_law pt_Linit (K w.params))) :
    PySem.W.WalkO q loose XP YP l.row.toRowW d [] (fun f vs => PySem.call f vs) :=
  L2.walk_ofT (ts := [pt_Linit]) (n := 63) (k := 8) (x := "_law_script") (CX := fun _ => CX0) (sp := fun w => sp_law pt_Linit (K w.params)) hn (by decide) hdf ⟨rfl, by decide, by decide, rfl⟩ hY F (fun _ _ a ns hl hO hn hS => ⟨a, ns, rfl, hS, hl, hO.1 pt_Linit (by simp), (fun z => hn (by simp [z])), fun _ => rfl⟩) fun _ _ _ _ _ z => z
end K72
namespace PySem.W.Fast
def tw12394616706313806742:Unit:=()
def tw1354969357371712734:Unit:=()
def tw7749550884195753011:Unit:=()
def tw10009701897367847010:Unit:=()
def tw10017681977786177259:Unit:=()
def tw10058162790956100445:Unit:=()
def tw10078127733673889577:Unit:=()
def tw10102310148791161458:Unit:=()
def tw10169443028539572395:Unit:=()
def tw10174983744884291072:Unit:=()
def tw10203371694067574317:Unit:=()
def tw10310090725561936397:Unit:=()
def tw10339936471753074606:Unit:=()
def tw10340243018758697099:Unit:=()
def tw10358136955153703060:Unit:=()
def tw10362059938198538537:Unit:=()
def tw10365036573509664105:Unit:=()
def tw10371038743195714644:Unit:=()
def tw1039480689752288326:Unit:=()
def tw10410725786782316788:Unit:=()
def tw10546306268326414283:Unit:=()
def tw10620026633055730393:Unit:=()
def tw10651808451883428696:Unit:=()
def tw1066679500585451286:Unit:=()
def tw10689910461353091971:Unit:=()
def tw10740646320519654678:Unit:=()
def tw10804407366004100275:Unit:=()
def tw10861093221718766464:Unit:=()
def tw10906481008882716929:Unit:=()
def tw10918696833709046024:Unit:=()
def tw10928491000678194337:Unit:=()
def tw10931104738865391349:Unit:=()
def tw10937190454475093933:Unit:=()
def tw11013638544494747015:Unit:=()
def tw11024602665905202894:Unit:=()
def tw11034894986007817556:Unit:=()
def tw11095152706912233247:Unit:=()
def tw11217603915618848866:Unit:=()
def tw11264327948065463986:Unit:=()
def tw11297589351435108092:Unit:=()
def tw11307967343442388057:Unit:=()
def tw11323297054545218783:Unit:=()
def tw113405063711485587:Unit:=()
def tw11354488588893359283:Unit:=()
def tw11363311580613271096:Unit:=()
def tw11413337433867155642:Unit:=()
def tw11414593896322638036:Unit:=()
def tw11416696220005766318:Unit:=()
def tw11442988782632693302:Unit:=()
def tw11488809538628111243:Unit:=()
def tw1152098392591486211:Unit:=()
def tw11521795914218476184:Unit:=()
def tw11588852962216338693:Unit:=()
def tw11632948096963732097:Unit:=()
def tw11634460158365587735:Unit:=()
def tw11648297847242513530:Unit:=()
def tw11672510132873965618:Unit:=()
def tw11678585289815509980:Unit:=()
def tw11700470167166652156:Unit:=()
def tw11714426817279339823:Unit:=()
def tw11727630078560644612:Unit:=()
def tw11745925956321243035:Unit:=()
def tw11759464985311445103:Unit:=()
def tw11772543296897152929:Unit:=()
def tw11808597284737830434:Unit:=()
def tw11830140865638466062:Unit:=()
def tw11832379914410267324:Unit:=()
def tw11898473001505194811:Unit:=()
def tw1192513803590208595:Unit:=()
def tw11980943482828187028:Unit:=()
def tw12065207103589303245:Unit:=()
def tw12098826464191422987:Unit:=()
def tw12100658096793452035:Unit:=()
def tw1214045762326400525:Unit:=()
def tw12162174609812022953:Unit:=()
def tw12165454206329990415:Unit:=()
def tw12175612624991011110:Unit:=()
def tw12225750500090192497:Unit:=()
def tw12348579803431019243:Unit:=()
def tw12379937440674531132:Unit:=()
def tw12403823714102763960:Unit:=()
def tw12419955388080406287:Unit:=()
def tw12433806713726257230:Unit:=()
def tw12445796112201240328:Unit:=()
def tw12459115131331444918:Unit:=()
def tw12482166601577316811:Unit:=()
def tw12545158359940235341:Unit:=()
def tw12570318159802068184:Unit:=()
def tw12605414747070835153:Unit:=()
def tw12649197779255302658:Unit:=()
def tw12656742561005718337:Unit:=()
def tw1278784651430801497:Unit:=()
def tw12818424023336475330:Unit:=()
def tw12835808043553081663:Unit:=()
def tw12856809031631477978:Unit:=()
def tw12878529041083447320:Unit:=()
def tw12886053233439950096:Unit:=()
def tw12905056927559071386:Unit:=()
def tw12915552976813913669:Unit:=()
def tw12916952258778982576:Unit:=()
def tw12921955087341343183:Unit:=()
def tw12925313183528348997:Unit:=()
def tw1300785745529420122:Unit:=()
def tw13042206173557811699:Unit:=()
def tw13096169382922025899:Unit:=()
def tw13114714116510573962:Unit:=()
def tw1313431799684648148:Unit:=()
def tw1314242421414240726:Unit:=()
def tw1319632851910693038:Unit:=()
def tw13233718159005805148:Unit:=()
def tw13275923583653484242:Unit:=()
def tw13291622457045078155:Unit:=()
def tw13329501158488808732:Unit:=()
def tw13401491478441465078:Unit:=()
def tw13412652332064237771:Unit:=()
def tw13426743704930050914:Unit:=()
def tw1343319990049258080:Unit:=()
def tw13470060330302793975:Unit:=()
def tw13595782905383967143:Unit:=()
def tw13611311589547100707:Unit:=()
def tw13641024228281847862:Unit:=()
def tw13643758369406954439:Unit:=()
def tw1369723366330023978:Unit:=()
def tw13753385075394532708:Unit:=()
def tw13829759631357594083:Unit:=()
def tw13863972531324004942:Unit:=()
def tw13923682753884615545:Unit:=()
def tw13951740625298411930:Unit:=()
def tw14096539370923164531:Unit:=()
def tw1411992119202463840:Unit:=()
def tw14131746210830981112:Unit:=()
def tw14180244321504432539:Unit:=()
def tw1418906724520118709:Unit:=()
def tw14216594802783808382:Unit:=()
def tw14239903387578897165:Unit:=()
def tw14297741237684631556:Unit:=()
def tw14353502490747645978:Unit:=()
def tw14367750865287263046:Unit:=()
def tw1440769330431135623:Unit:=()
def tw14422918605368033183:Unit:=()
def tw14423127866334378790:Unit:=()
def tw14434636430033901541:Unit:=()
def tw14441542383393564844:Unit:=()
def tw14465046532744320970:Unit:=()
def tw14471461052483294098:Unit:=()
def tw14504026099498172346:Unit:=()
def tw14540194144355857698:Unit:=()
def tw14541943502880720562:Unit:=()
def tw14548915512479899757:Unit:=()
def tw1456558435010316432:Unit:=()
def tw14570527460697681965:Unit:=()
def tw14594148871414767364:Unit:=()
def tw14612931965900979431:Unit:=()
def tw14638006063595153336:Unit:=()
def tw14656447428306823040:Unit:=()
def tw14680974701876479089:Unit:=()
def tw14683848267195670696:Unit:=()
def tw14683857151198830914:Unit:=()
def tw14720648372231051956:Unit:=()
def tw14778068044476849162:Unit:=()
def tw14838744864193985429:Unit:=()
def tw14937955165174123179:Unit:=()
def tw14992277941244306195:Unit:=()
def tw15005043902284781180:Unit:=()
def tw15024277661307129908:Unit:=()
def tw15272043381799357726:Unit:=()
def tw15305562902005846781:Unit:=()
def tw15311124973545013911:Unit:=()
def tw15430765573166510907:Unit:=()
def tw15433114866075328232:Unit:=()
def tw15436228423893626160:Unit:=()
def tw1552619709919211165:Unit:=()
def tw15615620417648582408:Unit:=()
def tw15631385227430001463:Unit:=()
def tw1565354977833978203:Unit:=()
def tw15663667372603977515:Unit:=()
def tw15699556348500157231:Unit:=()
def tw15703671057442760157:Unit:=()
def tw15824790375585539757:Unit:=()
def tw15834693266382161736:Unit:=()
def tw1583715685133233299:Unit:=()
def tw15840116411981422329:Unit:=()
def tw15943259515370139327:Unit:=()
def tw15994822172830391456:Unit:=()
def tw16030909182834103246:Unit:=()
def tw16128352448452417755:Unit:=()
def tw16200336408163278507:Unit:=()
def tw16288010956427022834:Unit:=()
def tw16298306746039640958:Unit:=()
def tw16337718032344669450:Unit:=()
def tw16383674085747140857:Unit:=()
def tw16441296197006520983:Unit:=()
def tw16458876057934950971:Unit:=()
def tw1648012225255621165:Unit:=()
def tw16549870896941880245:Unit:=()
def tw16560893658168406923:Unit:=()
def tw16615506252503519332:Unit:=()
def tw1663692914780842403:Unit:=()
def tw16645806255610156842:Unit:=()
def tw16695780636470649630:Unit:=()
def tw16762291552384795018:Unit:=()
def tw16775551428535164701:Unit:=()
def tw16838768251521697239:Unit:=()
def tw16950023961848913710:Unit:=()
def tw17032938512308694726:Unit:=()
def tw17033696453670335716:Unit:=()
def tw17052500687717155989:Unit:=()
def tw17063926655118037639:Unit:=()
def tw17089213154054457161:Unit:=()
def tw17117474541602560096:Unit:=()
def tw17146756244187770158:Unit:=()
def tw17175896978231319037:Unit:=()
def tw17229696105504197368:Unit:=()
def tw17232212472549141725:Unit:=()
def tw17270721090206803092:Unit:=()
def tw17274337376290956027:Unit:=()
def tw1728497315290952385:Unit:=()
def tw17340653304975583859:Unit:=()
def tw17342088912852512848:Unit:=()
def tw17387972032128833439:Unit:=()
def tw17395041872946949420:Unit:=()
def tw17428427143205094129:Unit:=()
def tw17435170721001737220:Unit:=()
def tw17448879951268713002:Unit:=()
def tw17497467172507987417:Unit:=()
def tw17550477436267426944:Unit:=()
def tw17566019988342685530:Unit:=()
def tw17603749749852919128:Unit:=()
def tw17819765960417105202:Unit:=()
def tw17868145883411604275:Unit:=()
def tw1788226443194459490:Unit:=()
def tw17890331717767378873:Unit:=()
def tw17895899206687714952:Unit:=()
def tw17910846650796809944:Unit:=()
def tw17969209469199354344:Unit:=()
def tw17973676077468944954:Unit:=()
def tw17975253584419843422:Unit:=()
def tw18002813108307949258:Unit:=()
def tw18003372142545974072:Unit:=()
def tw1800355287296712857:Unit:=()
def tw18064968947795291741:Unit:=()
def tw1807325490898445541:Unit:=()
def tw18089181442471506231:Unit:=()
def tw18094123037020376557:Unit:=()
def tw18183281743107119061:Unit:=()
def tw18237893807545698569:Unit:=()
def tw18242762439663617459:Unit:=()
def tw18245285080421962389:Unit:=()
def tw18262669639434130544:Unit:=()
def tw1828299468031876015:Unit:=()
def tw18290208436600746908:Unit:=()
def tw18307274229958968283:Unit:=()
def tw18340404783852595259:Unit:=()
def tw1900611232452122275:Unit:=()
def tw1923960027544308650:Unit:=()
def tw193812747080268021:Unit:=()
def tw1952340232384965712:Unit:=()
def tw1966020547708324881:Unit:=()
def tw1983395671994463544:Unit:=()
def tw2057792406803297271:Unit:=()
def tw2078996225882399275:Unit:=()
def tw21193788863255846:Unit:=()
def tw2143409942630367552:Unit:=()
def tw2152199052457048111:Unit:=()
def tw2204720517685888169:Unit:=()
def tw2226672290248150768:Unit:=()
def tw2240133838503703210:Unit:=()
def tw2304956420902364900:Unit:=()
def tw2381433931762322974:Unit:=()
def tw2412070876261793526:Unit:=()
def tw2424174469714234698:Unit:=()
def tw243308738721495686:Unit:=()
def tw248112153756135462:Unit:=()
def tw2497758548213219858:Unit:=()
def tw2648738606747917884:Unit:=()
def tw2669565903386637467:Unit:=()
def tw2690807266383513706:Unit:=()
def tw2690972279043897874:Unit:=()
def tw2711295138988388156:Unit:=()
def tw2713215335377023866:Unit:=()
def tw2770412177996005654:Unit:=()
def tw2817029327212851878:Unit:=()
def tw2929942290468479140:Unit:=()
def tw2954410702548682994:Unit:=()
def tw3008950000926928331:Unit:=()
def tw3041774889292592740:Unit:=()
def tw3170008908772698653:Unit:=()
def tw328822513613175525:Unit:=()
def tw3342432015071375786:Unit:=()
def tw3367883303266338224:Unit:=()
def tw3402490750755148070:Unit:=()
def tw3436269622990975942:Unit:=()
def tw3449731349222764709:Unit:=()
def tw3471761574994840276:Unit:=()
def tw3480241095434557070:Unit:=()
def tw3498823079844280756:Unit:=()
def tw3539309906846631318:Unit:=()
def tw3568522258522723992:Unit:=()
def tw3602729231294954909:Unit:=()
def tw3611425967954642147:Unit:=()
def tw3629365084324781538:Unit:=()
def tw3670747715165770118:Unit:=()
def tw3676054844366734942:Unit:=()
def tw3732081850190357061:Unit:=()
def tw3826297784165388955:Unit:=()
def tw3862841350068562967:Unit:=()
def tw3936380352876388038:Unit:=()
def tw3998727504183998146:Unit:=()
def tw4006829093187770095:Unit:=()
def tw4027456227943547775:Unit:=()
def tw4036579526276866627:Unit:=()
def tw4057413385260209195:Unit:=()
def tw4062773666537745078:Unit:=()
def tw409740601681206495:Unit:=()
def tw4123873656979822296:Unit:=()
def tw4185965348117443213:Unit:=()
def tw4203946987306490293:Unit:=()
def tw4231691448514606381:Unit:=()
def tw4288543765764100452:Unit:=()
def tw4303626417912679456:Unit:=()
def tw4349585244223528711:Unit:=()
def tw4380649243898283799:Unit:=()
def tw4384718797756294423:Unit:=()
def tw4460914497244154358:Unit:=()
def tw4499939391609018967:Unit:=()
def tw4542837211914768668:Unit:=()
def tw4563526643201683715:Unit:=()
def tw4691994917202133505:Unit:=()
def tw475164806128579442:Unit:=()
def tw478828316205914821:Unit:=()
def tw4809956766893114012:Unit:=()
def tw4831093675475627671:Unit:=()
def tw4843843746132503603:Unit:=()
def tw4848660050134869525:Unit:=()
def tw4870257608242051938:Unit:=()
def tw4908455613357960286:Unit:=()
def tw4973319777158640576:Unit:=()
def tw5164041416645818978:Unit:=()
def tw5196799294632904715:Unit:=()
def tw5210224121049412697:Unit:=()
def tw5262173580007052253:Unit:=()
def tw5309898023795975479:Unit:=()
def tw5351214940708140628:Unit:=()
def tw5363208944665811869:Unit:=()
def tw5396095000112340360:Unit:=()
def tw540085862409697314:Unit:=()
def tw5403516722930821234:Unit:=()
def tw5553935124750435049:Unit:=()
def tw5575938281173112553:Unit:=()
def tw5589356042648760726:Unit:=()
def tw5591473004258036869:Unit:=()
def tw5596608172852647529:Unit:=()
def tw5608858916504745267:Unit:=()
def tw5626905046747301387:Unit:=()
def tw56289644678622865:Unit:=()
def tw5649975114471401388:Unit:=()
def tw5671291114639341610:Unit:=()
def tw5737849328228396739:Unit:=()
def tw5740878689385214325:Unit:=()
def tw5785899707471828194:Unit:=()
def tw5804284406909944653:Unit:=()
def tw581876275088265843:Unit:=()
def tw5856363336513867714:Unit:=()
def tw5942514547295099620:Unit:=()
def tw5946646409290674254:Unit:=()
def tw6016739874840963024:Unit:=()
def tw6136832016486945481:Unit:=()
def tw6223089574816512566:Unit:=()
def tw6276298775306348008:Unit:=()
def tw627874342780891001:Unit:=()
def tw6282193906185970271:Unit:=()
def tw6316739199651864401:Unit:=()
def tw633093632705940218:Unit:=()
def tw6334911917608884800:Unit:=()
def tw6336228936833757781:Unit:=()
def tw6337409627525660653:Unit:=()
def tw6431758565436880217:Unit:=()
def tw643790360511100516:Unit:=()
def tw6509624091781368276:Unit:=()
def tw6548866079079975197:Unit:=()
def tw6562668485125781291:Unit:=()
def tw6602668875683589846:Unit:=()
def tw6614590142384138007:Unit:=()
def tw6706733250803269990:Unit:=()
def tw6765819640121762941:Unit:=()
def tw6884825783048026772:Unit:=()
def tw689298382240449890:Unit:=()
def tw6897404373234053732:Unit:=()
def tw6941489009029726028:Unit:=()
def tw7115966388169743834:Unit:=()
def tw7222961843004663875:Unit:=()
def tw7249477427328925750:Unit:=()
def tw7252340685928878901:Unit:=()
def tw7269591524047403802:Unit:=()
def tw7277982670306937918:Unit:=()
def tw7296365534164415260:Unit:=()
def tw7310307361371018145:Unit:=()
def tw7310671519707482795:Unit:=()
def tw73550449941461803:Unit:=()
def tw7415445062826339523:Unit:=()
def tw7462317642590643804:Unit:=()
def tw7462351294322301387:Unit:=()
def tw7474164827097953836:Unit:=()
def tw7503438214908175003:Unit:=()
def tw7561724244672859478:Unit:=()
def tw763043371876164659:Unit:=()
def tw7637008266725009740:Unit:=()
def tw767887102075851386:Unit:=()
def tw7691742688114251184:Unit:=()
def tw7705419738607380359:Unit:=()
def tw7715656424404957180:Unit:=()
def tw7723900436124705787:Unit:=()
def tw7754792671414638574:Unit:=()
def tw7779525292462632997:Unit:=()
def tw7810120097900582442:Unit:=()
def tw7817392268247898869:Unit:=()
def tw7825743372107473064:Unit:=()
def tw7844556829813240117:Unit:=()
def tw7845876553908485923:Unit:=()
def tw7921370237950966470:Unit:=()
def tw793380824414344787:Unit:=()
def tw7953735954740845778:Unit:=()
def tw7965298212336014354:Unit:=()
def tw8066917555631423991:Unit:=()
def tw8068287530639463025:Unit:=()
def tw8094198835967516646:Unit:=()
def tw8113994511189215240:Unit:=()
def tw8181654913214406650:Unit:=()
def tw8246781542391076428:Unit:=()
def tw8288045027376890536:Unit:=()
def tw8293315515809921833:Unit:=()
def tw8303171750079453652:Unit:=()
def tw8361645982377098451:Unit:=()
def tw8400796464501003145:Unit:=()
def tw8409986680398363997:Unit:=()
def tw8468151084826200598:Unit:=()
def tw8569925024722348325:Unit:=()
def tw858344739866003382:Unit:=()
def tw8593264519392190098:Unit:=()
def tw8621358060486691930:Unit:=()
def tw865584348279447252:Unit:=()
def tw8672060847795513373:Unit:=()
def tw8680018410994946714:Unit:=()
def tw87183725569006461:Unit:=()
def tw8744005230179268414:Unit:=()
def tw8751412628845409471:Unit:=()
def tw875816237078437027:Unit:=()
def tw8779581870413007453:Unit:=()
def tw8840373806209228151:Unit:=()
def tw8866132348547664462:Unit:=()
def tw8866977796963931558:Unit:=()
def tw8872352858772603755:Unit:=()
def tw8898515812077793559:Unit:=()
def tw8954635095766991179:Unit:=()
def tw895558975478605944:Unit:=()
def tw8963848586603103058:Unit:=()
def tw906508582604084819:Unit:=()
def tw9072722600290227038:Unit:=()
def tw907481350997999474:Unit:=()
def tw921049509701995563:Unit:=()
def tw9220214477551822921:Unit:=()
def tw9246110291029917905:Unit:=()
def tw9286040079148944329:Unit:=()
def tw9292081186019377899:Unit:=()
def tw9347860271377669009:Unit:=()
def tw9361198229465269681:Unit:=()
def tw936507372754737776:Unit:=()
def tw9420108964169186840:Unit:=()
def tw9440163123596992118:Unit:=()
def tw9516279941250267209:Unit:=()
def tw9532760408312072214:Unit:=()
def tw9557909187951650360:Unit:=()
def tw9630854180834171727:Unit:=()
def tw9658542743703648682:Unit:=()
def tw9663428685800380483:Unit:=()
def tw9664272453020675462:Unit:=()
def tw9665597880648448099:Unit:=()
def tw9666175362990411165:Unit:=()
def tw9694787863032441752:Unit:=()
def tw9739642502360302728:Unit:=()
def tw9796962338785905121:Unit:=()
def tw9808179662681196158:Unit:=()
def tw9882961653136096854:Unit:=()
def tw9903330941587210050:Unit:=()
def tw9927253197653038680:Unit:=()
def tw9928294575985422907:Unit:=()
def tw9937365354899636831:Unit:=()
def tw9954634919685828957:Unit:=()
def tw9972726329261212250:Unit:=()
def tw9992131477540823927:Unit:=()
def tw108373344037021623:Unit:=()
def tw11378188367134727778:Unit:=()
def tw12303634703209732699:Unit:=()
def tw13762726601411537411:Unit:=()
def tw14800115173209201623:Unit:=()
def tw14827564954796359903:Unit:=()
def tw16978831129425396011:Unit:=()
def tw18024376760085374694:Unit:=()
def tw2899388063674616020:Unit:=()
def tw5959283868258709922:Unit:=()
def tw6044464348502021949:Unit:=()
def tw7423780820038022431:Unit:=()
def tw8745943112789687767:Unit:=()
def tw10809254376726794517:Unit:=()
def tw12568589242495332770:Unit:=()
def tw13638067961536822412:Unit:=()
def tw14390574760055456008:Unit:=()
def tw15336184722129027456:Unit:=()
def tw15356903534414770896:Unit:=()
def tw15388054951495512181:Unit:=()
def tw15453889227554899065:Unit:=()
def tw17103971340939099031:Unit:=()
def tw4346749633057004464:Unit:=()
def tw487674578239434127:Unit:=()
def tw6886701799606136676:Unit:=()
def tw7489705444216253903:Unit:=()
def tw772559614846102842:Unit:=()
def tw5495416884644902459:Unit:=()
end PySem.W.Fast
open PySem PySem.W PyProof.Rows
set_option maxRecDepth 100000 in
set_option maxHeartbeats 0 in
theorem PySem.Challenge.cw_slideroom_k72_prices_walked_holds : PySem.Challenge.rw_slideroom_k72_prices_walked.Holds := by
  w_on; o_law; k_head; (case hw => w_witness2)
  k_fill
  refine K72.walk (l := PySem.Challenge.rw_slideroom_k72_prices_walked) rfl rfl (fun w h Y => ⟨PySem.W.km_in_of Y, PySem.W.km_tabs_of Y⟩) ?F
  case F =>
    intro w mg fa h KX G hmg
    refine' K72.all_mk KX G hmg ?eR ?eh ?et ?a0_ ?l0_ ?c0_ ?k0_ ?a1_ ?l1_ ?c1_ ?k1_ ?a2_ ?l2_ ?c2_ ?k2_ ?a3_ ?l3_ ?c3_ ?k3_ ?a4_ ?l4_ ?c4_ ?k4_ ?a5_ ?l5_ ?c5_ ?k5_ ?a6_ ?l6_ ?c6_ ?k6_ ?a7_ ?l7_ ?c7_ ?k7_ ?a8_ ?l8_ ?c8_ ?k8_ ?a9_ ?l9_ ?c9_ ?k9_ ?a10_ ?l10_ ?c10_ ?k10_ ?a11_ ?l11_ ?c11_ ?k11_ ?a12_ ?l12_ ?c12_ ?k12_ ?a13_ ?l13_ ?c13_ ?k13_ ?a14_ ?l14_ ?c14_ ?k14_ ?a15_ ?l15_ ?c15_ ?k15_ ?a16_ ?l16_ ?c16_ ?k16_ ?a17_ ?l17_ ?c17_ ?k17_ ?a18_ ?l18_ ?c18_ ?k18_ ?a19_ ?l19_ ?c19_ ?k19_ ?a20_ ?l20_ ?c20_ ?k20_ ?a21_ ?l21_ ?c21_ ?k21_ ?a22_ ?l22_ ?c22_ ?k22_ ?a23_ ?l23_ ?c23_ ?k23_ ?a24_ ?l24_ ?c24_ ?k24_ ?a25_ ?l25_ ?c25_ ?k25_ ?a26_ ?l26_ ?c26_ ?k26_ ?a27_ ?l27_ ?c27_ ?k27_ ?a28_ ?l28_ ?c28_ ?k28_ ?a29_ ?l29_ ?c29_ ?k29_ ?a30_ ?l30_ ?c30_ ?k30_ ?a31_ ?l31_ ?c31_ ?k31_ ?a32_ ?l32_ ?c32_ ?k32_ ?nb0 ?nb1 ?nb2 ?nb3 ?nb4 ?nb5 ?nb6 ?nb7 ?nb8 ?nb9 ?nb10 ?nb11 ?nb12 ?nb13 ?nb14 ?nb15 ?nb16 ?con0 ?con1 ?con2 ?con3 ?con4 ?con5 ?zc ?zt ?zm ?aCL ?pgL ?hdL ?poL ?saL ?mkL ?kcL ?naL_many ?naL_rows ?at_Linit ?fn_Linit ?lk_Linit ?cd_Linit ?kp_Linit ?tb_Linit ?tn_Linit ?at_Lblocks ?fn_Lblocks ?lk_Lblocks ?cd_Lblocks ?kp_Lblocks
    (case eR => k_is)
    (case eh => k_is)
    (case et => k_is)
    (case a0_ => k_is)
    (case l0_ => k_is)
    (case c0_ => k_is)
    (case k0_ => k_is)
    (case a1_ => k_is)
    (case l1_ => k_is)
    (case c1_ => k_is)
    (case k1_ => k_is)
    (case a2_ => k_is)
    (case l2_ => k_is)
    (case c2_ => k_is)
    (case k2_ => k_is)
    (case a3_ => k_is)
    (case l3_ => k_is)
    (case c3_ => k_is)
    (case k3_ => k_is)
    (case a4_ => k_is)
    (case l4_ => k_is)
    (case c4_ => k_is)
    (case k4_ => k_is)
    (case a5_ => k_is)
    (case l5_ => k_is)
    (case c5_ => k_is)
    (case k5_ => k_is)
    (case a6_ => k_is)
    (case l6_ => k_is)
    (case c6_ => k_is)
    (case k6_ => k_is)
    (case a7_ => k_is)
    (case l7_ => k_is)
    (case c7_ => k_is)
    (case k7_ => k_is)
    (case a8_ => k_is)
    (case l8_ => k_is)
    (case c8_ => k_is)
    (case k8_ => k_is)
    (case a9_ => k_is)
    (case l9_ => k_is)
    (case c9_ => k_is)
    (case k9_ => k_is)
    (case a10_ => k_is)
    (case l10_ => k_is)
    (case c10_ => k_is)
    (case k10_ => k_is)
    (case a11_ => k_is)
    (case l11_ => k_is)
    (case c11_ => k_is)
    (case k11_ => k_is)
    (case a12_ => k_is)
    (case l12_ => k_is)
    (case c12_ => k_is)
    (case k12_ => k_is)
    (case a13_ => k_is)
    (case l13_ => k_is)
    (case c13_ => k_is)
    (case k13_ => k_is)
    (case a14_ => k_is)
    (case l14_ => k_is)
    (case c14_ => k_is)
    (case k14_ => k_is)
    (case a15_ => k_is)
    (case l15_ => k_is)
    (case c15_ => k_is)
    (case k15_ => k_is)
    (case a16_ => k_is)
    (case l16_ => k_is)
    (case c16_ => k_is)
    (case k16_ => k_is)
    (case a17_ => k_is)
    (case l17_ => k_is)
    (case c17_ => k_is)
    (case k17_ => k_is)
    (case a18_ => k_is)
    (case l18_ => k_is)
    (case c18_ => k_is)
    (case k18_ => k_is)
    (case a19_ => k_is)
    (case l19_ => k_is)
    (case c19_ => k_is)
    (case k19_ => k_is)
    (case a20_ => k_is)
    (case l20_ => k_is)
    (case c20_ => k_is)
    (case k20_ => k_is)
    (case a21_ => k_is)
    (case l21_ => k_is)
    (case c21_ => k_is)
    (case k21_ => k_is)
    (case a22_ => k_is)
    (case l22_ => k_is)
    (case c22_ => k_is)
    (case k22_ => k_is)
    (case a23_ => k_is)
    (case l23_ => k_is)
    (case c23_ => k_is)
    (case k23_ => k_is)
    (case a24_ => k_is)
    (case l24_ => k_is)
    (case c24_ => k_is)
    (case k24_ => k_is)
    (case a25_ => k_is)
    (case l25_ => k_is)
    (case c25_ => k_is)
    (case k25_ => k_is)
    (case a26_ => k_is)
    (case l26_ => k_is)
    (case c26_ => k_is)
    (case k26_ => k_is)
    (case a27_ => k_is)
    (case l27_ => k_is)
    (case c27_ => k_is)
    (case k27_ => k_is)
    (case a28_ => k_is)
    (case l28_ => k_is)
    (case c28_ => k_is)
    (case k28_ => k_is)
    (case a29_ => k_is)
    (case l29_ => k_is)
    (case c29_ => k_is)
    (case k29_ => k_is)
    (case a30_ => k_is)
    (case l30_ => k_is)
    (case c30_ => k_is)
    (case k30_ => k_is)
    (case a31_ => k_is)
    (case l31_ => k_is)
    (case c31_ => k_is)
    (case k31_ => k_is)
    (case a32_ => k_is)
    (case l32_ => k_is)
    (case c32_ => k_is)
    (case k32_ => k_is)
    (case nb0 => k_is)
    (case nb1 => k_is)
    (case nb2 => k_is)
    (case nb3 => k_is)
    (case nb4 => k_is)
    (case nb5 => k_is)
    (case nb6 => k_is)
    (case nb7 => k_is)
    (case nb8 => k_is)
    (case nb9 => k_is)
    (case nb10 => k_is)
    (case nb11 => k_is)
    (case nb12 => k_is)
    (case nb13 => k_is)
    (case nb14 => k_is)
    (case nb15 => k_is)
    (case nb16 => k_is)
    (case con0 => k_is)
    (case con1 => k_is)
    (case con2 => k_is)
    (case con3 => k_is)
    (case con4 => k_is)
    (case con5 => k_is)
    (case zc => k_is)
    (case zt => k_is)
    (case zm => k_is)
    (case aCL => k_is)
    (case pgL => k_is)
    (case hdL => k_is)
    (case poL => k_is)
    (case saL => k_is)
    (case mkL => k_is)
    (case kcL => k_is)
    (case naL_many => k_is)
    (case naL_rows => k_is)
    (case at_Linit => k_is)
    (case fn_Linit => k_is)
    (case lk_Linit => k_is)
    (case cd_Linit => k_is)
    (case kp_Linit => k_is)
    (case at_Lblocks => k_is)
    (case fn_Lblocks => k_is)
    (case lk_Lblocks => k_is)
    (case cd_Lblocks => k_is)
    (case kp_Lblocks => k_is)
    (case tb_Linit => kernel_rfl)
    (case tn_Linit => kernel_rfl)
