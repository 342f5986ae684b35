import PyProof.Rows.All
import Wide.All
import OpenK.AllK
import Wide.FinOn
import Lean
import PyProof.EqAt
import PyProof.EqKinds
import PyProof.TupleCall
import PyProof.NeKinds
import PyProof.ExcInit
import PyProof.StationsW
import PyProof.ExcBaseAll.ValueError
import PyProof.ExcArgs
import KE.KIsAll
import PyProof.ReprRoads
import PyProof.CallFns
import PyProof.ExcClass3
import PyProof.StrBlock2
import PyProof.FitsInt
import PyProof.StrLawsRepr
import KE.KTryMore
import PyProof.RulesAs
import PySem.Challenge.RW_slideroom_k17_refusals_apart
-- CHANGE: your row's module here, as the last of these rows
set_option Elab.async false
set_option linter.all false
set_option maxRecDepth 100000
namespace L2
open PySem PySem.Spec PyProof.Rows
/-- a key: an int or a str -/
abbrev Key := Sum Int Str
def keyIs : Key → Value → Bool
  | .inl k, v => Value.isInt k v
  | .inr x, v => Value.isStrOf x v
def keyH (w : World) : Key → Int
  | .inl k => hashInt k
  | .inr x => hashStr w x
theorem keyIs_shape : ∀ {k : Key} {v : Value}, keyIs k v = true → (∃ i t, k = Sum.inl i ∧ v = Value.int i t) ∨ (∃ x t, k = Sum.inr x ∧ v = Value.str x t)
  | .inl i, v, h => by
    obtain ⟨t, e⟩ := Value.isInt_shape (k := i) (v := v) h
    exact .inl ⟨i, t, rfl, e⟩
  | .inr x, v, h => by
    obtain ⟨t, e⟩ := Value.isStrOf_shape (x := x) (v := v) h
    exact .inr ⟨x, t, rfl, e⟩
theorem key_ll (a b : Int) : decide ((Sum.inl a : Key) = Sum.inl b) = (a == b) := by
  by_cases e : a = b
  · subst e; simp
  · have h : ¬ (Sum.inl a : Key) = Sum.inl b := fun q => e (Sum.inl.inj q)
    rw [decide_eq_false h]
    exact (beq_eq_false_iff_ne.mpr e).symm
theorem key_rr (a b : Str) : decide ((Sum.inr a : Key) = Sum.inr b) = decide (a = b) := by
  by_cases e : a = b
  · subst e; simp
  · have h : ¬ (Sum.inr a : Key) = Sum.inr b := fun q => e (Sum.inr.inj q)
    rw [decide_eq_false h, decide_eq_false e]
theorem key_lr (a : Int) (b : Str) : decide ((Sum.inl a : Key) = Sum.inr b) = false := decide_eq_false (fun q => nomatch q)
theorem key_rl (a : Str) (b : Int) : decide ((Sum.inr a : Key) = Sum.inl b) = false := decide_eq_false (fun q => nomatch q)
def mixKind (prog : Program) (w : World) : PySem.KeyKind prog w Key where
  is := keyIs
  hash := keyH w
  inj := fun v a b ha hb => by
    rcases keyIs_shape ha with ⟨i, t, rfl, rfl⟩ | ⟨x, t, rfl, rfl⟩
    · rcases keyIs_shape hb with ⟨j, u, rfl, e⟩ | ⟨y, u, rfl, e⟩
      · injection e with e1 _; rw [e1]
      · exact nomatch e
    · rcases keyIs_shape hb with ⟨j, u, rfl, e⟩ | ⟨y, u, rfl, e⟩
      · exact nomatch e
      · injection e with e1 _; rw [e1]
  byValue := fun k v h => by
    rcases keyIs_shape h with ⟨i, t, rfl, rfl⟩ | ⟨x, t, rfl, rfl⟩ <;> rfl
  pyHash := fun hv h => by
    rcases keyIs_shape hv with ⟨i, t, rfl, rfl⟩ | ⟨x, t, rfl, rfl⟩
    · exact wpAny_pyHash_int h
    · exact wpAny_pyHash_str h
  eqBool := fun hu hv h => by
    rcases keyIs_shape hu with ⟨i, t, rfl, rfl⟩ | ⟨x, t, rfl, rfl⟩
    · rcases keyIs_shape hv with ⟨j, u, rfl, rfl⟩ | ⟨y, u, rfl, rfl⟩
      · rw [key_ll] at h; exact wpAny_eqBool_int h
      · rw [key_lr] at h; exact SeqAt.EqAt.int_str i t y u _ _ _ _ h
    · rcases keyIs_shape hv with ⟨j, u, rfl, rfl⟩ | ⟨y, u, rfl, rfl⟩
      · rw [key_rl] at h; exact SeqAt.EqAt.str_int x t j u _ _ _ _ h
      · rw [key_rr] at h; exact wpAny_eqBool_str h
  «strs» := fun k x t v h => by
    rcases keyIs_shape h with ⟨i, u, rfl, e⟩ | ⟨y, u, rfl, e⟩
    · exact nomatch e
    · injection e with e1 _
      subst e1
      cases v <;> rfl
end L2
namespace L2
open PySem PySem.Spec PyProof.Rows
/-- a value, without the heap -/
inductive V where
  | non | bl (b : Bool) | int (i : Int) | str (x : Str) | byt (b : Array UInt8) | flt (b : UInt64) | ref (a : Addr) | ty (n : String)
  deriving DecidableEq
def RelV : V → Value → Prop
  | .non, u => u = Value.none
  | .bl b, u => u = Value.bool b
  | .int i, u => ∃ t, u = Value.int i t
  | .str x, u => ∃ t, u = Value.str x t
  | .byt b, u => ∃ t, u = Value.bytes b t
  | .flt b, u => ∃ t, u = Value.float b t
  | .ref a, u => u = Value.ref a
  | .ty n, u => u = Value.type n
abbrev Vals : List V → List Value → Prop := Paired RelV
theorem Vals.length {xs : List V} {us : List Value} (r : Vals xs us) : xs.length = us.length := Paired.length r
theorem Vals.get : ∀ {xs : List V} {us : List Value} {i : Nat} {x : V}, Vals xs us → xs[i]? = some x → ∃ u, us[i]? = some u ∧ RelV x u
  | _, _, _, _, .nil, e => by simp at e
  | _, _, 0, _, .cons r _, e => by simp at e; subst e; exact ⟨_, rfl, r⟩
  | _, _, i + 1, x, .cons _ t, e => by
    obtain ⟨u, h1, h2⟩ := Vals.get (i := i) (x := x) t (by simpa using e)
    exact ⟨u, by simpa using h1, h2⟩
theorem Vals.set {x : V} {u : Value} (r : RelV x u) : ∀ {xs : List V} {us : List Value} (i : Nat), Vals xs us → Vals (xs.set i x) (us.set i u)
  | _, _, _, .nil => .nil
  | _, _, 0, .cons _ t => .cons r t
  | _, _, i + 1, .cons q t => .cons q (Vals.set r i t)
theorem Vals.append : ∀ {xs ys : List V} {us ws : List Value}, Vals xs us → Vals ys ws → Vals (xs ++ ys) (us ++ ws)
  | _, _, _, _, .nil, s => s
  | _, _, _, _, .cons r t, s => .cons r (Vals.append t s)
theorem Vals.take : ∀ {xs : List V} {us : List Value} (n : Nat), Vals xs us → Vals (xs.take n) (us.take n)
  | _, _, 0, _ => .nil
  | _, _, _ + 1, .nil => .nil
  | _, _, n + 1, .cons r t => .cons r (Vals.take n t)
def RelO : Option V → Option Value → Prop
  | some v, some u => RelV v u
  | none, none => True
  | _, _ => False
def KV {κ : Type} : List (κ × V) → List (κ × Value) → Prop := Paired fun (p : κ × V) (q : κ × Value) => p.1 = q.1 ∧ RelV p.2 q.2
/-- a key of a dict (00_mix): an int or a text -/
def kV : Key → V
  | .inl i => .int i
  | .inr x => .str x
/-- what stands at a tracked address -/
inductive HO where
  /-- a list -/
  | lst (xs : List V)
  /-- a tuple (never changes) -/
  | tup (xs : List V)
  /-- a dict whose keys are ints and texts; one whose keys are tuples of ints and texts (the empty one is both) -/
  | dK (kvs : List (Key × V)) | dT (kvs : List (List Key × V))
  /-- a set of ints: its members, its size -/
  | set (S : Int → Bool) (n : Nat)
  /-- an instance of the class at C, its dict at dx, its attributes -/
  | ins (C dx : Addr) (fs : List (Str × V))
  /-- the dict of the instance at x -/
  | own (x : Addr)
  /-- the dict of an exception -/
  | xd (fs : List (Str × V))
  /-- a bound method, f of x -/
  | met (f x : Addr)
  /-- a range object lo, lo + 1, .. below hi -/
  | rng (lo hi : Int)
  /-- a thing that is known to the object (the script; a dict while a loop walks it): read, never written while it is so -/
  | frz (o : Obj) (u : HO)
  /-- a code object's table -/
  | tbl (ps : Array Value)
  /-- any other thing, by what is true of its one object (a def of one's own: SetO a S n := HO.ext fun h => ..) -/
  | ext (φ : Heap → Prop)
abbrev Hp := Addr → Option HO
def upd (H : Hp) (a : Addr) (o : HO) : Hp := fun b => if b = a then some o else H b
theorem upd_same {H : Hp} {a : Addr} {o : HO} : upd H a o a = some o := by unfold upd; rw [if_pos rfl]
theorem upd_ne {H : Hp} {a b : Addr} {o : HO} (h : b ≠ a) : upd H a o b = H b := by unfold upd; rw [if_neg h]
theorem upd_upd {H : Hp} {a : Addr} {o u : HO} : upd (upd H a o) a u = upd H a u := by
  funext b; unfold upd; split <;> rfl
/-- two objects of different content stand apart -/
theorem ne_of {H : Hp} {a b : Addr} {o u : HO} (h : H a = some o) (h' : H b = some u) (d : o ≠ u) : a ≠ b := by
  intro e; subst e; rw [h] at h'; exact d (Option.some.inj h')
theorem ne_of_none {H : Hp} {a b : Addr} {o : HO} (h : H a = some o) (h' : H b = none) : a ≠ b := by
  intro e; subst e; rw [h] at h'; cases h'
section
variable (P : Program) (w : World)
def ObjOk (H : Hp) (h : Heap) (a : Addr) : HO → Prop
  | .lst xs => xs.length ≤ sizeLine ∧ ∃ (its : List Value) (n : Nat), Vals xs its ∧ h.get? a = some { cls := .type "list", data := .seq its.toArray n }
  | .tup xs => xs.length ≤ sizeLine ∧ ∃ its : List Value, Vals xs its ∧ IsTup h a its.toArray
  | .dK kvs => kvs.length ≤ sizeLine ∧ (a == sysModules) = false ∧ ∃ vs, KV kvs vs ∧ h.DictOf (mixKind P w) a vs
  | .dT kvs => kvs.length ≤ sizeLine ∧ (a == sysModules) = false ∧ ∃ xs : List (List Key × Addr × Value),
      Paired (fun (p : List Key × V) (q : List Key × Addr × Value) => p.1 = q.1 ∧ H q.2.1 = some (.tup (p.1.map kV)) ∧ RelV p.2 q.2.2) kvs xs ∧
      ∃ o es ep, h.get? a = some o ∧ o.ExactDict ∧ o.data = .dict es ep ∧ es.toList = xs.map (entryOfKey (tupleKind (mixKind P w))) ∧ (xs.map (·.1)).Nodup
  | .set S n => h.SetOf (intKind P w) a S n
  | .ins C dx fs => H dx = some (.own a) ∧ fs.length ≤ 1000 ∧ dx ≠ a ∧ h.get? a = some (PySem.W.instObj C dx) ∧
      ∃ mA, h.Ns1 dx mA ∧ (∀ f, RelO (fs.lookup f) (mA f)) ∧ PySem.Within mA (fs.map (·.1))
  | .own _ => ∃ o, h.get? a = some o
  | .xd fs => ∃ mA, h.Ns1 a mA ∧ ∀ f, RelO (fs.lookup f) (mA f)
  | .rng lo hi => ∃ t u v, h.get? a = some { cls := .type "range", data := .fields #[.int lo t, .int hi u, .int 1 v] }
  | .frz o u => h.get? a = some o ∧ ObjOk H h a u
  | .tbl ps => h.get? a = some { cls := .none, data := .fields ps }
  | .met f x => h.get? a = some (PySem.W.methodObj (.ref f) (.ref x))
  | .ext φ => φ h ∧ (∃ o, h.get? a = some o) ∧ ∀ h1 h2 : Heap, φ h1 → (∀ o, h1.get? a = some o → h2.get? a = some o) → φ h2
/-- the abstract heap is held -/
def HOk (H : Hp) (h : Heap) : Prop := ∀ a o, H a = some o → ObjOk P w H h a o
end
section
variable {P : Program} {w : World} {H H' : Hp} {h h' : Heap} {a : Addr} {o : HO}
theorem ObjOk.lt (x : ObjOk P w H h a o) : a < h.objs.size := by
  cases o with
  | lst xs => obtain ⟨_, _, _, _, e⟩ := x; exact Heap.lt_size e
  | tup xs => obtain ⟨_, _, _, p⟩ := x; exact p.lt
  | dK kvs => obtain ⟨_, _, _, _, o, _, _, e, _⟩ := x; exact Heap.lt_size e
  | dT kvs => obtain ⟨_, _, _, _, o, _, _, e, _⟩ := x; exact Heap.lt_size e
  | set S n => obtain ⟨o, _, _, _, e, _⟩ := x; exact Heap.lt_size e
  | ins C dx fs => obtain ⟨_, _, _, e, _⟩ := x; exact Heap.lt_size e
  | own y => obtain ⟨_, e⟩ := x; exact Heap.lt_size e
  | xd fs => obtain ⟨_, ⟨_, _, _, e, _⟩, _⟩ := x; exact Heap.lt_size e
  | rng lo hi => obtain ⟨_, _, _, e⟩ := x; exact Heap.lt_size e
  | frz ob u => obtain ⟨e, _⟩ := x; exact Heap.lt_size e
  | tbl ps => exact Heap.lt_size (show h.get? a = some _ from x)
  | met f y => exact Heap.lt_size (show h.get? a = some _ from x)
  | ext φ => obtain ⟨_, ⟨_, e⟩, _⟩ := x; exact Heap.lt_size e
theorem Paired.mapP {α β : Type} {F G : α → β → Prop} : ∀ {l₁ : List α} {l₂ : List β}, Paired F l₁ l₂ → (∀ a b, F a b → G a b) → Paired G l₁ l₂
  | _, _, .nil, _ => .nil
  | _, _, .cons r t, f => .cons (f _ _ r) (Paired.mapP t f)
/-- what an object's description leans on: its own object, its own dict, the tuples -/
theorem ObjOk.stay (x : ObjOk P w H h a o) (k : ∀ b u, (b = a ∨ H b = some (.own a)) → h.get? b = some u → h'.get? b = some u)
    (ho : ∀ b, H b = some (.own a) → H' b = some (.own a)) (ht : ∀ b xs, H b = some (.tup xs) → H' b = some (.tup xs)) : ObjOk P w H' h' a o := by
  induction o with
  | lst xs => obtain ⟨z, its, n, r, e⟩ := x; exact ⟨z, its, n, r, k _ _ (.inl rfl) e⟩
  | tup xs => obtain ⟨z, its, r, ob, e, c⟩ := x; exact ⟨z, its, r, ob, k _ _ (.inl rfl) e, c⟩
  | dK kvs => obtain ⟨z, y, vs, r, ob, es, ep, e, c⟩ := x; exact ⟨z, y, vs, r, ob, es, ep, k _ _ (.inl rfl) e, c⟩
  | dT kvs =>
    obtain ⟨z, y, xs, r, ob, es, ep, e, c⟩ := x
    exact ⟨z, y, xs, Paired.mapP r fun p q z => ⟨z.1, ht _ _ z.2.1, z.2.2⟩, ob, es, ep, k _ _ (.inl rfl) e, c⟩
  | set S n => obtain ⟨ob, es, ep, t, e, c⟩ := x; exact ⟨ob, es, ep, t, k _ _ (.inl rfl) e, c⟩
  | ins C dx fs =>
    obtain ⟨d, z, ne, e, mA, ⟨od, es, ep, e2, c⟩, r⟩ := x
    exact ⟨ho _ d, z, ne, k _ _ (.inl rfl) e, mA, ⟨od, es, ep, k _ _ (.inr d) e2, c⟩, r⟩
  | own y => obtain ⟨ob, e⟩ := x; exact ⟨ob, k _ _ (.inl rfl) e⟩
  | xd fs => obtain ⟨mA, ⟨od, es, ep, e, c⟩, r⟩ := x; exact ⟨mA, ⟨od, es, ep, k _ _ (.inl rfl) e, c⟩, r⟩
  | rng lo hi => obtain ⟨t, u, v, e⟩ := x; exact ⟨t, u, v, k _ _ (.inl rfl) e⟩
  | frz ob u ih => obtain ⟨e, q⟩ := x; exact ⟨k _ _ (.inl rfl) e, ih q⟩
  | tbl ps =>
    have e : h.get? a = some { cls := .none, data := .fields ps } := x
    show h'.get? a = some { cls := .none, data := .fields ps }
    exact k a _ (.inl rfl) e
  | met f y =>
    have e : h.get? a = some (PySem.W.methodObj (.ref f) (.ref y)) := x
    show h'.get? a = some (PySem.W.methodObj (.ref f) (.ref y))
    exact k a _ (.inl rfl) e
  | ext φ => obtain ⟨p, ⟨o, e⟩, st⟩ := x; exact ⟨st _ _ p fun o q => k _ _ (.inl rfl) q, ⟨o, k _ _ (.inl rfl) e⟩, st⟩
theorem HOk.lt (x : HOk P w H h) (e : H a = some o) : a < h.objs.size := (x a o e).lt
theorem HOk.fresh (x : HOk P w H h) (e : h.objs.size ≤ a) : H a = none := by
  cases q : H a with
  | none => rfl
  | some u => exact absurd (Nat.lt_of_lt_of_le (x.lt q) e) (Nat.lt_irrefl _)
/-- every object of the heap is kept -/
theorem HOk.kept (x : HOk P w H h) (k : ∀ b u, h.get? b = some u → h'.get? b = some u) : HOk P w H h' := fun a o e =>
  (x a o e).stay (fun b u _ q => k b u q) (fun _ q => q) fun _ _ q => q
/-- a new object is laid and tracked -/
theorem HOk.laid (x : HOk P w H h) (k : ∀ b u, h.get? b = some u → h'.get? b = some u) (hp : h.objs.size ≤ a) (new : ObjOk P w (upd H a o) h' a o) : HOk P w (upd H a o) h' := fun b u e => by
  have hn := x.fresh hp
  by_cases hb : b = a
  · subst hb; rw [upd_same] at e; cases e; exact new
  · rw [upd_ne hb] at e
    exact (x b u e).stay (fun c v _ q => k c v q) (fun c q => by rw [upd_ne (ne_of_none q hn)]; exact q) fun c xs q => by rw [upd_ne (ne_of_none q hn)]; exact q
end
/-- what may be read as u: it is u, or a known u -/
def Rd (H : Hp) (a : Addr) (u : HO) : Prop := H a = some u ∨ ∃ o, H a = some (.frz o u)
theorem Rd.of {H : Hp} {a : Addr} {u : HO} (h : H a = some u) : Rd H a u := .inl h
theorem Rd.ok {P : Program} {w : World} {H : Hp} {h : Heap} {a : Addr} {u : HO} (r : Rd H a u) (x : HOk P w H h) : ObjOk P w H h a u := by
  rcases r with r | ⟨o, r⟩
  · exact x a u r
  · obtain ⟨_, q⟩ := x a _ r
    exact q
/-- what may be written -/
def Mut : Option HO → Prop
  | some (.lst _) => True
  | some (.dK _) => True
  | some (.dT _) => True
  | some (.set _ _) => True
  | some (.ins _ _ _) => True
  | some (.ext _) => True
  | _ => False
section
variable {P : Program} {w : World} {H : Hp} {h h' : Heap} {x e : Addr} {o' : HO}
/-- the object at e is changed: x itself, or the dict of the instance x -/
theorem HOk.write (ok : HOk P w H h) (mu : Mut (H x)) (he : e = x ∨ H e = some (.own x)) (k : ∀ b u, b ≠ e → h.get? b = some u → h'.get? b = some u) (heo : ∃ u, h'.get? e = some u)
    (new : ObjOk P w (upd H x o') h' x o') : HOk P w (upd H x o') h' := fun b u q => by
  have nown : ∀ c y, H c = some (.own y) → c ≠ x := fun c y r z => by subst z; rw [r] at mu; exact mu
  have ntup : ∀ c xs, H c = some (.tup xs) → c ≠ x := fun c xs r z => by subst z; rw [r] at mu; exact mu
  by_cases hb : b = x
  · subst hb; rw [upd_same] at q; cases q; exact new
  · rw [upd_ne hb] at q
    by_cases hbe : b = e
    · have q' : H b = some (.own x) := by
        rcases he with z | z
        · exact absurd (hbe.trans z) hb
        · rw [hbe]; exact z
      rw [q] at q'; cases q'
      obtain ⟨v, hv⟩ := heo
      exact ⟨v, by rw [hbe]; exact hv⟩
    · refine (ok b u q).stay (fun c v hc r => k c v ?_ r) (fun c r => by rw [upd_ne (nown c b r)]; exact r) fun c xs r => by rw [upd_ne (ntup c xs r)]; exact r
      rcases hc with rfl | hc
      · exact hbe
      · rintro rfl
        rcases he with z | z
        · exact nown c b hc z
        · rw [hc] at z; cases z; exact hb rfl
end
structure Un (fs ex : List Addr) (H H' : Hp) (h h' : Heap) : Prop where
  keep : ∀ b o, h.get? b = some o → H b = none → b ∉ fs → b ∉ ex → h'.get? b = some o
  slot : ∀ b o, h.get? b = some o → H b = none → b ∈ fs → b ∉ ex → ∃ sl, h'.get? b = some { o with slots := sl }
  free : ∀ b o, h.get? b = some o → H b = none → b ∉ ex → H' b = none
  there : ∀ b o, h.get? b = some o → b ∉ ex → ∃ o', h'.get? b = some o'
  tups : ∀ b xs, H b = some (.tup xs) → H' b = some (.tup xs)
  frzs : ∀ b o u, H b = some (.frz o u) → H' b = some (.frz o u)
  tbls : ∀ b ps, H b = some (.tbl ps) → ∃ more, H' b = some (.tbl (ps ++ more))
section
variable {fs fs' ex ex' : List Addr} {H H1 H2 : Hp} {h h1 h2 h' : Heap} {a x e : Addr} {o : HO}
theorem Un.any (u : Un fs ex H H1 h h1) {b : Addr} {ob : Obj} (q : h.get? b = some ob) (n : H b = none) (hx : b ∉ ex) : ∃ sl, h1.get? b = some { ob with slots := sl } := by
  by_cases hb : b ∈ fs
  · exact u.slot b ob q n hb hx
  · exact ⟨ob.slots, u.keep b ob q n hb hx⟩
theorem Un.trans (a : Un fs ex H H1 h h1) (b : Un fs ex H1 H2 h1 h2) : Un fs ex H H2 h h2 where
  keep := fun c ob q n hc hx => b.keep c ob (a.keep c ob q n hc hx) (a.free c ob q n hx) hc hx
  slot := fun c ob q n hc hx => by
    obtain ⟨sl, e1⟩ := a.slot c ob q n hc hx
    obtain ⟨sl', e2⟩ := b.slot c _ e1 (a.free c ob q n hx) hc hx
    exact ⟨sl', e2⟩
  free := fun c ob q n hx => by
    obtain ⟨o', e1⟩ := a.there c ob q hx
    exact b.free c o' e1 (a.free c ob q n hx) hx
  there := fun c ob q hx => by
    obtain ⟨o', e1⟩ := a.there c ob q hx
    exact b.there c o' e1 hx
  tups := fun c xs q => b.tups c xs (a.tups c xs q)
  frzs := fun c ob xs q => b.frzs c ob xs (a.frzs c ob xs q)
  tbls := fun c ps q => by
    obtain ⟨m1, e1⟩ := a.tbls c ps q
    obtain ⟨m2, e2⟩ := b.tbls c _ e1
    exact ⟨m1 ++ m2, by rw [e2, Array.append_assoc]⟩
theorem Un.kept (k : ∀ b u, h.get? b = some u → h'.get? b = some u) : Un fs ex H H h h' :=
  ⟨fun b ob q _ _ _ => k b ob q, fun b ob q _ _ _ => ⟨ob.slots, k b ob q⟩, fun _ _ _ n _ => n, fun b ob q _ => ⟨ob, k b ob q⟩, fun _ _ q => q, fun _ _ _ q => q, fun _ ps q => ⟨#[], by rw [q]; simp⟩⟩
theorem Un.refl : Un fs ex H H h h := Un.kept fun _ _ q => q
theorem Un.laid (k : ∀ b u, h.get? b = some u → h'.get? b = some u) (hp : h.objs.size ≤ a) (hn : H a = none) : Un fs ex H (upd H a o) h h' where
  keep := fun b u q _ _ _ => k b u q
  slot := fun b u q _ _ _ => ⟨u.slots, k b u q⟩
  free := fun b u q n _ => by rw [upd_ne (Nat.ne_of_lt (Nat.lt_of_lt_of_le (Heap.lt_size q) hp))]; exact n
  there := fun b u q _ => ⟨u, k b u q⟩
  tups := fun b xs q => by rw [upd_ne (ne_of_none q hn)]; exact q
  frzs := fun b u xs q => by rw [upd_ne (ne_of_none q hn)]; exact q
  tbls := fun b ps q => ⟨#[], by rw [upd_ne (ne_of_none q hn), q]; simp⟩
theorem Un.write (mu : Mut (H x)) (he : e = x ∨ H e = some (.own x)) (k : ∀ b u, b ≠ e → h.get? b = some u → h'.get? b = some u) (heo : ∃ u, h'.get? e = some u) : Un fs ex H (upd H x o) h h' := by
  have hx : ∀ b, H b = none → b ≠ x := fun b n z => by subst z; rw [n] at mu; exact mu
  have hb : ∀ b, H b = none → b ≠ e := fun b n z => by
    subst z
    rcases he with r | r
    · exact hx b n r
    · rw [n] at r; cases r
  have hm : ∀ b u, H b = some u → ¬ Mut (some u) → b ≠ x := fun b u q nm z => by subst z; rw [q] at mu; exact nm mu
  refine ⟨fun b u q n _ _ => k b u (hb b n) q, fun b u q n _ _ => ⟨u.slots, k b u (hb b n) q⟩, fun b u q n _ => by rw [upd_ne (hx b n)]; exact n, fun b u q _ => ?_,
    fun b xs q => by rw [upd_ne (hm b _ q fun z => z)]; exact q, fun b u xs q => by rw [upd_ne (hm b _ q fun z => z)]; exact q, fun b ps q => ⟨#[], by rw [upd_ne (hm b _ q fun z => z), q]; simp⟩⟩
  by_cases hbe : b = e
  · subst hbe; exact heo
  · exact ⟨u, k b u hbe q⟩
theorem Un.mono (u : Un fs ex H H1 h h1) (hs : ∀ b ∈ fs, b ∈ fs') (hx : ∀ b ∈ ex, b ∈ ex') : Un fs' ex' H H1 h h1 :=
  ⟨fun b ob q n hb he => u.keep b ob q n (fun z => hb (hs b z)) fun z => he (hx b z), fun _ _ q n _ he => u.any q n fun z => he (hx _ z), fun b ob q n he => u.free b ob q n fun z => he (hx b z), fun b ob q he => u.there b ob q fun z => he (hx b z), u.tups, u.frzs, u.tbls⟩
end
def trk (h : Heap) (H : Hp) : List Addr := (List.range h.objs.size).filter fun a => (H a).isSome
def hidT (h : Heap) (H : Hp) : Heap := PySem.W.hideAll h (trk h H)
theorem hidT_size (h : Heap) (H : Hp) : (hidT h H).objs.size = h.objs.size := PySem.W.hideAll_size _ _
theorem hidT_get {h : Heap} {H : Hp} {b : Addr} {o : Obj} (e : h.get? b = some o) (n : H b = none) : (hidT h H).get? b = some o :=
  PySem.W.hideAll_get _ e fun hm => by
    have q : (H b).isSome = true := (List.mem_filter.mp hm).2
    rw [n] at q; simp at q
theorem of_hidT {h : Heap} {H : Hp} {b : Addr} {o : Obj} (e : (hidT h H).get? b = some o) : h.get? b = some o ∧ H b = none := by
  have e' : h.get? b = some o := PySem.W.of_hideAll (trk h H) e
  refine ⟨e', ?_⟩
  cases q : H b with
  | none => rfl
  | some x =>
    have hm : b ∈ trk h H := List.mem_filter.mpr ⟨List.mem_range.mpr (Heap.lt_size e'), by simp [q]⟩
    have z : (hidT h H).get? b = none := PySem.W.hideAll_none (trk h H) hm
    rw [z] at e; cases e
def allNews (g h : Heap) (L : Addr) : List (Addr × Obj) := (List.range h.objs.size).filterMap fun a => if a = L ∨ (g.get? a).isSome = true then none else (h.get? a).map fun o => (a, o)
def rest (g h : Heap) (L d : Addr) : List (Addr × Obj) := (allNews g h L).filter fun p => decide (p.1 ≠ d)
end L2
namespace L2
open PySem PySem.Spec PyProof.Rows
/-- the module's facts, over the base: the heap at the law's entry without what is tracked there -/
structure Mod (K : PySem.W.Frag) (mg : Str → Option Value) (base : Heap) : Prop where
  kin : K.In base
  glob : base.Ns mainGlobals mg
  blt : ∃ mb, base.Ns builtinsNs mb ∧ ∀ x : Str, x ≠ "__name__" → mb x = bootBuiltins x
  nolimit : base.NoLimit
/-- the context: a def's body (or a comprehension's block) running. base: fixed through the whole law; s₀, H₀: the entry; outer: the frames whose slots others may change (a def's callers); stack: all frames that run;
   ex: iterators that were made ahead of the entry and are walked here (a comprehension's); fn: the names whose cells were made at the entry (a def: all; a comprehension's block: its own); calm: not within an except suite; pn: pins that every state bears; xe: what is wanted of an exception that leaves the code -/
structure Cx where
  prog : Program
  w : World
  K : PySem.W.Frag
  mg : Str → Option Value
  base : Heap
  A : Around
  N : List Str
  s₀ : Shared
  H₀ : Hp
  env : Env
  outer : List Env
  stack : List Env
  ex : List Addr
  fn : Str → Bool
  calm : Bool
  pn : List (Addr × Obj)
  xe : Value → Shared → Prop
/-- the callers' frames -/
def frs (l : List Env) : List Addr := l.filterMap (·.frame)
abbrev Cx.fs (X : Cx) : List Addr := frs X.outer
def Vis (sc : Scope) (x : Str) : Prop := sc.names.lookup x = some .local ∨ sc.names.lookup x = some .cell ∨ sc.names.lookup x = some .free
def Loc (sc : Scope) (x : Str) : Prop := sc.names.lookup x = some .local ∨ sc.names.lookup x = some .cell
def Look (env : Env) (h : Heap) (m : Str → Option Value) (x : Str) (u : Value) : Prop :=
  (env.kindOf x = some .local ∧ m x = some u) ∨ ((env.kindOf x = some .cell ∨ env.kindOf x = some .free) ∧ ∃ c, env.cells.lookup x = some c ∧ h.IsCell c (some u))
structure Cx.Ok (X : Cx) : Prop where
  mod : Mod X.K X.mg X.base
  kind : X.env.scope.kind = .function
  glob : X.env.globals = mainGlobals
  blt : X.env.builtins = builtinsNs
  above : X.s₀.heap.objs.size ≤ X.env.locals
  inj : ∀ x y c, X.env.cells.lookup x = some c → X.env.cells.lookup y = some c → x = y
  has : ∀ x, (X.env.kindOf x = some .cell ∨ X.env.kindOf x = some .free) → ∃ c, X.env.cells.lookup x = some c
  cab : ∀ x c, X.fn x = true → X.env.cells.lookup x = some c → X.s₀.heap.objs.size ≤ c
  hd : X.calm = true → X.A.handled = none
  frames : X.A.frames = some X.stack
  stk : X.stack = X.outer ∨ (X.stack = X.env :: X.outer ∧ X.env.frame = some X.env.locals)
  exf : ∀ b ∈ X.ex, b ≠ X.env.locals ∧ ∀ x c, X.env.cells.lookup x = some c → c ≠ b
  bs : ∀ b o, X.base.get? b = some o → X.s₀.heap.get? b = some o ∧ X.H₀ b = none
  bsz : X.base.objs.size ≤ X.s₀.heap.objs.size
  noex : ∀ b o, X.base.get? b = some o → b ∉ X.ex
  exfs : ∀ b ∈ X.ex, b ∉ X.fs
  funs : X.s₀.heap.FunFrames X.base X.outer
  frf : ∀ b ∈ X.fs, X.H₀ b = none
structure Inv (X : Cx) (pins : List (Addr × Obj)) (σ : List (Option V)) (H : Hp) (s : Shared) : Prop where
  ok : X.Ok
  os : s.os = X.s₀.os
  bare : AllBare s.gens
  base : Un X.fs X.ex X.H₀ H X.s₀.heap s.heap
  loc : ∃ m, s.heap.Ns X.env.locals m ∧ ∀ (i : Nat) (x : Str) (v : V), X.N[i]? = some x → σ[i]? = some (some v) → Vis X.env.scope x → ∃ u, RelV v u ∧ Look X.env s.heap m x u
  cell : ∀ x c, X.env.cells.lookup x = some c → ∃ v, s.heap.IsCell c v
  free : H X.env.locals = none
  freeC : ∀ x c, X.env.cells.lookup x = some c → H c = none
  pin : ∀ p ∈ X.pn ++ pins, s.heap.get? p.1 = some p.2 ∧ H p.1 = none ∧ p.1 ≠ X.env.locals ∧ p.1 ∉ X.fs ∧ ∀ v, p.2.data ≠ .cell v
  hok : HOk X.prog X.w H s.heap
  len : σ.length = X.N.length
section
variable {X : Cx} {pins : List (Addr × Obj)} {σ : List (Option V)} {H H' : Hp} {s : Shared} {h' : Heap}
theorem Cx.Ok.nofr (ok : X.Ok) {b : Addr} {o : Obj} (e : X.base.get? b = some o) : b ∉ X.fs := fun hb => by
  have := (ok.funs.mem hb).1
  rw [e] at this; cases this
theorem Inv.bs (I : Inv X pins σ H s) : ∀ b o, X.base.get? b = some o → s.heap.get? b = some o ∧ H b = none := fun b o e =>
  ⟨I.base.keep b o (I.ok.bs b o e).1 (I.ok.bs b o e).2 (I.ok.nofr e) (I.ok.noex b o e), I.base.free b o (I.ok.bs b o e).1 (I.ok.bs b o e).2 (I.ok.noex b o e)⟩
theorem Inv.bk (I : Inv X pins σ H s) : ∀ b o, X.base.get? b = some o → s.heap.get? b = some o := fun b o e => (I.bs b o e).1
theorem Inv.mod (I : Inv X pins σ H s) : Mod X.K X.mg X.base := I.ok.mod
theorem Inv.kIn (I : Inv X pins σ H s) : X.K.In s.heap := I.ok.mod.kin.keeps I.bk
theorem Inv.nolimit (I : Inv X pins σ H s) : s.heap.NoLimit := I.ok.mod.nolimit.keeps I.bk
/-- the frame over the base: for OpenK's rules (K.In X.base is I.mod.kin) -/
theorem Inv.fr (I : Inv X pins σ H s) : ∃ m, Fr X.base X.env.locals s.heap m :=
  let ⟨m, hn, _⟩ := I.loc
  ⟨m, hn, I.bk, Nat.le_trans I.ok.bsz I.ok.above⟩
theorem Inv.lt (I : Inv X pins σ H s) : X.env.locals < s.heap.objs.size := let ⟨_, hn, _⟩ := I.loc; hn.lt
theorem Inv.sz (I : Inv X pins σ H s) : X.s₀.heap.objs.size ≤ s.heap.objs.size := Nat.le_trans I.ok.above (Nat.le_of_lt I.lt)
theorem Inv.nofs (I : Inv X pins σ H s) {a : Addr} (h : s.heap.objs.size ≤ a) : a ∉ X.fs := fun hb => by
  obtain ⟨_, o, ho, _⟩ := I.ok.funs.mem hb
  exact absurd (Nat.lt_of_lt_of_le (Heap.lt_size ho) (Nat.le_trans I.sz h)) (Nat.lt_irrefl _)
theorem Inv.cne (I : Inv X pins σ H s) : ∀ x c, X.env.cells.lookup x = some c → c ≠ X.env.locals := fun x c e z => by
  obtain ⟨v, o, ho, hd⟩ := I.cell x c e
  obtain ⟨m, ⟨o', es, ep, ho', hd', _⟩, _⟩ := I.loc
  rw [z, ho'] at ho; cases ho; rw [hd'] at hd; cases hd
theorem Inv.funs (I : Inv X pins σ H s) : s.heap.FunFrames X.base X.outer := by
  have all : ∀ (l : List Env), (∀ b ∈ frs l, b ∈ X.fs) → X.s₀.heap.FunFrames X.base l → s.heap.FunFrames X.base l := by
    intro l
    induction l with
    | nil => intro _ _; trivial
    | cons env r ih =>
      intro hs hl
      obtain ⟨hk, ⟨L, o, hf, hn, ho, hd⟩, hr⟩ := hl
      have hL : L ∈ X.fs := hs L (by unfold frs; rw [List.filterMap_cons, hf]; exact List.mem_cons_self)
      obtain ⟨sl, e⟩ := I.base.slot L o ho (I.ok.frf L hL) hL fun z => I.ok.exfs L z hL
      exact ⟨hk, ⟨L, _, hf, hn, e, hd⟩, ih (fun b hb => hs b (by unfold frs; rw [List.filterMap_cons, hf]; exact List.mem_cons_of_mem _ hb)) hr⟩
  exact all X.outer (fun _ hb => hb) I.ok.funs
/-- the frames that run, for a call -/
theorem Inv.stack (I : Inv X pins σ H s) : s.heap.FunFrames X.base X.stack := by
  rcases I.ok.stk with e | ⟨e, hf⟩
  · rw [e]; exact I.funs
  · rw [e]
    obtain ⟨m, hn, _⟩ := I.loc
    refine .cons (by rw [I.ok.kind]; decide) hf hn ?_ I.funs
    exact Heap.get?_none_of_le (Nat.le_trans I.ok.bsz I.ok.above)
theorem Inv.stkSub (I : Inv X pins σ H s) : ∀ b ∈ frs X.stack, b ∈ X.env.locals :: X.fs := fun b hb => by
  rcases I.ok.stk with e | ⟨e, hf⟩
  · rw [e] at hb; exact List.mem_cons_of_mem _ hb
  · rw [e] at hb
    unfold frs at hb
    rw [List.filterMap_cons, hf] at hb
    exact hb
theorem Inv.stkFree (I : Inv X pins σ H s) : ∀ b ∈ frs X.stack, H b = none := fun b hb => by
  rcases List.mem_cons.mp (I.stkSub b hb) with e | hb
  · rw [e]; exact I.free
  · obtain ⟨_, o, ho, _⟩ := I.ok.funs.mem hb
    exact I.base.free b o ho (I.ok.frf b hb) fun z => I.ok.exfs b z hb
/-- THE STEP: the untracked objects but the frame and the records at ch are kept (the callers' frames up to slots), the frame's map is kept, the new abstract heap is held -/
theorem Inv.step {g' : Array GenState} {t' : Nat} {d' : Drawn} {ch : List Addr} (I : Inv X pins σ H s)
    (hch : ∀ b ∈ ch, (b ∈ X.ex ∨ X.s₀.heap.objs.size ≤ b) ∧ b ≠ X.env.locals ∧ (∀ x c, X.env.cells.lookup x = some c → c ≠ b) ∧ ∀ p ∈ X.pn ++ pins, p.1 ≠ b)
    (keep : ∀ b o, b ≠ X.env.locals → b ∉ X.fs → b ∉ ch → s.heap.get? b = some o → H b = none → h'.get? b = some o)
    (slot : ∀ b o, b ≠ X.env.locals → b ∈ X.fs → b ∉ ch → s.heap.get? b = some o → H b = none → ∃ sl, h'.get? b = some { o with slots := sl }) (free : ∀ b o, b ∉ ch → s.heap.get? b = some o → H b = none → H' b = none)
    (there : ∀ b o, b ∉ ch → s.heap.get? b = some o → ∃ o', h'.get? b = some o')
    (tups : ∀ b xs, H b = some (.tup xs) → H' b = some (.tup xs)) (frzs : ∀ b o u, H b = some (.frz o u) → H' b = some (.frz o u)) (tbls : ∀ b ps, H b = some (.tbl ps) → ∃ more, H' b = some (.tbl (ps ++ more)))
    (ns : ∀ m, s.heap.Ns X.env.locals m → h'.Ns X.env.locals m) (hok : HOk X.prog X.w H' h') (hg : AllBare g') :
    Inv X pins σ H' { s with heap := h', gens := g', drawn := d', toks := t' } := by
  have neL : ∀ b o, X.s₀.heap.get? b = some o → b ≠ X.env.locals := fun b o e => Nat.ne_of_lt (Nat.lt_of_lt_of_le (Heap.lt_size e) I.ok.above)
  have neC : ∀ b o, X.s₀.heap.get? b = some o → b ∉ X.ex → b ∉ ch := fun b o e hx hb => by
    rcases (hch b hb).1 with z | z
    · exact hx z
    · exact absurd (Nat.lt_of_lt_of_le (Heap.lt_size e) z) (Nat.lt_irrefl _)
  have cellK : ∀ x c, X.env.cells.lookup x = some c → ∀ v, s.heap.IsCell c v → h'.IsCell c v := fun x c e v ⟨o, ho, hd⟩ => by
    have nch : c ∉ ch := fun z => (hch c z).2.2.1 x c e rfl
    by_cases hc : c ∈ X.fs
    · obtain ⟨sl, q⟩ := slot c o (I.cne x c e) hc nch ho (I.freeC x c e)
      exact ⟨_, q, hd⟩
    · exact ⟨o, keep c o (I.cne x c e) hc nch ho (I.freeC x c e), hd⟩
  refine ⟨I.ok, I.os, hg, ⟨fun b o e n hb hx => ?_, fun b o e n hb hx => ?_, fun b o e n hx => ?_, fun b o e hx => ?_, fun b xs e => tups b xs (I.base.tups b xs e), fun b o xs e => frzs b o xs (I.base.frzs b o xs e), fun b ps e => ?_⟩, ?_, fun x c e => ?_, ?_, fun x c e => ?_, fun p hp => ?_, hok, I.len⟩
  · exact keep b o (neL b o e) hb (neC b o e hx) (I.base.keep b o e n hb hx) (I.base.free b o e n hx)
  · obtain ⟨sl, e1⟩ := I.base.slot b o e n hb hx
    obtain ⟨sl', e2⟩ := slot b _ (neL b o e) hb (neC b o e hx) e1 (I.base.free b o e n hx)
    exact ⟨sl', e2⟩
  · obtain ⟨o', e1⟩ := I.base.there b o e hx
    exact free b o' (neC b o e hx) e1 (I.base.free b o e n hx)
  · obtain ⟨o', e1⟩ := I.base.there b o e hx
    exact there b o' (neC b o e hx) e1
  · obtain ⟨m1, e1⟩ := I.base.tbls b ps e
    obtain ⟨m2, e2⟩ := tbls b _ e1
    exact ⟨m1 ++ m2, by rw [e2, Array.append_assoc]⟩
  · obtain ⟨m, hn, hl⟩ := I.loc
    refine ⟨m, ns m hn, fun i x v e1 e2 e3 => ?_⟩
    obtain ⟨u, r, l⟩ := hl i x v e1 e2 e3
    refine ⟨u, r, ?_⟩
    rcases l with l | ⟨k, c, e, z⟩
    · exact .inl l
    · exact .inr ⟨k, c, e, cellK x c e _ z⟩
  · obtain ⟨v, z⟩ := I.cell x c e
    exact ⟨v, cellK x c e v z⟩
  · obtain ⟨m, ⟨o, _, _, ho, _⟩, _⟩ := I.loc
    exact free _ o (fun z => (hch _ z).2.1 rfl) ho I.free
  · obtain ⟨v, o, ho, hd⟩ := I.cell x c e
    exact free c o (fun z => (hch c z).2.2.1 x c e rfl) ho (I.freeC x c e)
  · obtain ⟨e, n, ne, nf, d⟩ := I.pin p hp
    have nch : p.1 ∉ ch := fun z => (hch p.1 z).2.2.2 p hp rfl
    exact ⟨keep p.1 p.2 ne nf nch e n, free p.1 p.2 nch e n, ne, nf, d⟩
/-- .. where the frame's own object is kept too -/
theorem Inv.un {t' : Nat} (I : Inv X pins σ H s) (u : Un X.fs [] H H' s.heap h') (hok : HOk X.prog X.w H' h') : Inv X pins σ H' { s with heap := h', toks := t' } := by
  obtain ⟨m, ⟨o, es, ep, ho, r⟩, _⟩ := id I.loc
  obtain ⟨sl, hL⟩ := u.any ho I.free (by simp)
  exact I.step (g' := s.gens) (d' := s.drawn) (ch := []) (fun _ z => nomatch z) (fun b o _ hb _ e n => u.keep b o e n hb (by simp)) (fun b o _ hb _ e n => u.slot b o e n hb (by simp)) (fun b o _ e n => u.free b o e n (by simp)) (fun b o _ e => u.there b o e (by simp)) u.tups u.frzs u.tbls (fun m' hm => by
    obtain ⟨o', es', ep', ho', r'⟩ := hm
    rw [ho] at ho'; cases ho'
    exact ⟨_, es', ep', hL, r'⟩) hok I.bare
/-- behind a call (or a comprehension's block): the slots of this frame may have changed too, the records at ch may have turned -/
theorem Inv.call {g' : Array GenState} {t' : Nat} {d' : Drawn} {ch : List Addr} (I : Inv X pins σ H s) (u : Un (frs X.stack) ch H H' s.heap h') (hok : HOk X.prog X.w H' h') (hg : AllBare g')
    (hch : ∀ b ∈ ch, (b ∈ X.ex ∨ X.s₀.heap.objs.size ≤ b) ∧ b ≠ X.env.locals ∧ (∀ x c, X.env.cells.lookup x = some c → c ≠ b) ∧ ∀ p ∈ X.pn ++ pins, p.1 ≠ b) :
    Inv X pins σ H' { s with heap := h', gens := g', drawn := d', toks := t' } := by
  obtain ⟨m, ⟨o, es, ep, ho, r⟩, _⟩ := id I.loc
  obtain ⟨sl, hL⟩ := u.any ho I.free fun z => (hch _ z).2.1 rfl
  exact I.step (ch := ch) hch (fun b o hL hb hc e n => u.keep b o e n (fun z => (List.mem_cons.mp (I.stkSub b z)).elim hL hb) hc) (fun b o _ _ hc e n => u.any e n hc) (fun b o hc e n => u.free b o e n hc) (fun b o hc e => u.there b o e hc) u.tups u.frzs u.tbls (fun m' hm => by
    obtain ⟨o', es', ep', ho', r'⟩ := hm
    rw [ho] at ho'; cases ho'
    exact ⟨_, es', ep', hL, r'⟩) hok hg
/-- an untracked record of ours (an iterator) has turned -/
theorem Inv.turned {t' : Nat} {it : Addr} (I : Inv X pins σ H s) (k : ∀ b o, b ≠ it → s.heap.get? b = some o → h'.get? b = some o) (hn : H it = none) (hL : it ≠ X.env.locals)
    (h1 : it ∈ X.ex ∨ X.s₀.heap.objs.size ≤ it) (h2 : ∀ x c, X.env.cells.lookup x = some c → c ≠ it) (h3 : ∀ p ∈ X.pn ++ pins, p.1 ≠ it) : Inv X pins σ H { s with heap := h', toks := t' } := by
  have nit : ∀ b u, H b = some u → b ≠ it := fun b u e z => by rw [z, hn] at e; cases e
  refine I.step (g' := s.gens) (d' := s.drawn) (ch := [it]) (fun b hb => ?_) (fun b o _ _ hc e _ => k b o (fun z => hc (by simp [z])) e) (fun b o _ _ hc e _ => ⟨o.slots, k b o (fun z => hc (by simp [z])) e⟩) (fun _ _ _ _ n => n)
    (fun b o hc e => ⟨o, k b o (fun z => hc (by simp [z])) e⟩) (fun _ _ e => e) (fun _ _ _ e => e) (fun b ps e => ⟨#[], by rw [e]; simp⟩) (fun m hm => ?_) (fun b u e => ?_) I.bare
  · have e : b = it := by simpa using hb
    subst e
    exact ⟨h1, hL, h2, h3⟩
  · obtain ⟨o, es, ep, ho, r⟩ := hm
    exact ⟨o, es, ep, k _ o (Ne.symm hL) ho, r⟩
  · refine (I.hok b u e).stay (fun c v hc q => k c v ?_ q) (fun _ q => q) fun _ _ q => q
    rcases hc with z | z
    · rw [z]; exact nit b u e
    · exact nit c _ z
theorem Inv.tok (I : Inv X pins σ H s) (t : Nat) : Inv X pins σ H { s with toks := t } := I.un (h' := s.heap) (t' := t) Un.refl I.hok
/-- all objects kept -/
theorem Inv.kept {t' : Nat} (I : Inv X pins σ H s) (k : ∀ b u, s.heap.get? b = some u → h'.get? b = some u) : Inv X pins σ H { s with heap := h', toks := t' } := I.un (Un.kept k) (I.hok.kept k)
/-- a new object laid and tracked -/
theorem Inv.laid {a : Addr} {o : HO} {t' : Nat} (I : Inv X pins σ H s) (k : ∀ b u, s.heap.get? b = some u → h'.get? b = some u) (hp : s.heap.objs.size ≤ a) (new : ObjOk X.prog X.w (upd H a o) h' a o) :
    Inv X pins σ (upd H a o) { s with heap := h', toks := t' } := I.un (Un.laid k hp (I.hok.fresh hp)) (I.hok.laid k hp new)
/-- an object written -/
theorem Inv.write {x e : Addr} {o : HO} {t' : Nat} (I : Inv X pins σ H s) (mu : Mut (H x)) (he : e = x ∨ H e = some (.own x)) (k : ∀ b u, b ≠ e → s.heap.get? b = some u → h'.get? b = some u) (heo : ∃ u, h'.get? e = some u)
    (new : ObjOk X.prog X.w (upd H x o) h' x o) : Inv X pins σ (upd H x o) { s with heap := h', toks := t' } := I.un (Un.write mu he k heo) (I.hok.write mu he k heo new)
theorem Inv.pins_of {pins' : List (Addr × Obj)} (I : Inv X pins σ H s) (h : ∀ p ∈ pins', s.heap.get? p.1 = some p.2 ∧ H p.1 = none ∧ p.1 ≠ X.env.locals ∧ p.1 ∉ X.fs ∧ ∀ v, p.2.data ≠ .cell v) : Inv X pins' σ H s :=
  ⟨I.ok, I.os, I.bare, I.base, I.loc, I.cell, I.free, I.freeC, fun p hp => (List.mem_append.mp hp).elim (fun z => I.pin p (List.mem_append_left _ z)) (h p), I.hok, I.len⟩
theorem nodup_ix {N : List Str} (hN : N.Nodup) {i j : Nat} {x : Str} (a : N[i]? = some x) (b : N[j]? = some x) : i = j := by
  obtain ⟨h1, e1⟩ := List.getElem?_eq_some_iff.mp a
  obtain ⟨h2, e2⟩ := List.getElem?_eq_some_iff.mp b
  exact (List.getElem_inj hN).mp (e1.trans e2.symm)
/-- a name is stored; what changed -/
theorem store_ok2 {M : Model} {A : Around} {E : Value → Shared → Prop} {i : Nat} {x : Str} {v : V} {u : Value} {Q : Unit → Shared → Prop} (I : Inv X pins σ H s) (hN : X.N.Nodup) (hi : X.N[i]? = some x) (hx : Loc X.env.scope x) (r : RelV v u)
    (h : ∀ s', Inv X pins (σ.set i (some v)) H s' → (∃ a, Heap.SameBut a s.heap s'.heap ∧ (a = X.env.locals ∨ X.env.cells.lookup x = some a)) → Q () s') (hf : X.fn x = true ∨ X.env.scope.names.lookup x = some .local := by first | exact .inl rfl | exact .inr rfl | assumption) : wpAny M A (storeName X.env x u) Q E s := by
  obtain ⟨m, hn, hl⟩ := id I.loc
  have hcls : (X.env.scope.kind == .class || (X.env.scope.kind == .module && X.env.locals != X.env.globals)) = false := by rw [I.ok.kind]; rfl
  have hiσ : i < σ.length := by rw [I.len]; exact (List.getElem?_eq_some_iff.mp hi).1
  have cne := I.cne
  have tracked : ∀ {a : Addr} {h' : Heap}, (∃ o, s.heap.get? a = some o ∧ H a = none) → Heap.SameBut a s.heap h' → HOk X.prog X.w H h' := fun {a h'} ha hs b ob e => by
    obtain ⟨_, _, hfree⟩ := ha
    refine (I.hok b ob e).stay (fun c w' hc q => (hs.2 c ?_).trans q) (fun _ q => q) fun _ _ q => q
    rintro rfl
    rcases hc with rfl | hc
    · rw [hfree] at e; cases e
    · rw [hfree] at hc; cases hc
  rcases hx with hk | hk
  · refine wpAny_storeName_local hk hn (fun h' hn' hs => ?_) hcls
    obtain ⟨oL, _, _, hoL, _⟩ := id hn
    refine h _ ⟨I.ok, I.os, I.bare, ⟨fun b o e n hb hx => ?_, fun b o e n hb hx => ?_, I.base.free, fun b o e hx => ?_, I.base.tups, I.base.frzs, I.base.tbls⟩, ⟨_, hn', fun j y v' e1 e2 e3 => ?_⟩, fun y c e => ?_, I.free, I.freeC, fun p hp => ?_, tracked ⟨oL, hoL, I.free⟩ hs, by simpa using I.len⟩ ⟨_, hs, .inl rfl⟩
    · exact (hs.2 b (Nat.ne_of_lt (Nat.lt_of_lt_of_le (Heap.lt_size e) I.ok.above))).trans (I.base.keep b o e n hb hx)
    · obtain ⟨sl, e1⟩ := I.base.slot b o e n hb hx
      exact ⟨sl, (hs.2 b (Nat.ne_of_lt (Nat.lt_of_lt_of_le (Heap.lt_size e) I.ok.above))).trans e1⟩
    · obtain ⟨o', e1⟩ := I.base.there b o e hx
      exact ⟨o', (hs.2 b (Nat.ne_of_lt (Nat.lt_of_lt_of_le (Heap.lt_size e) I.ok.above))).trans e1⟩
    · by_cases hj : j = i
      · subst hj
        rw [hi] at e1; cases e1
        rw [List.getElem?_set_self hiσ] at e2
        cases e2
        exact ⟨u, r, .inl ⟨hk, by simp⟩⟩
      · rw [List.getElem?_set_ne (Ne.symm hj)] at e2
        obtain ⟨u', r', q⟩ := hl j y v' e1 e2 e3
        refine ⟨u', r', ?_⟩
        rcases q with ⟨k, e⟩ | ⟨k, c, e, z⟩
        · refine .inl ⟨k, ?_⟩
          have : y ≠ x := fun e => hj (nodup_ix hN e1 (e ▸ hi))
          simp [this, e]
        · exact .inr ⟨k, c, e, z.sameBut hs (cne y c e)⟩
    · obtain ⟨w', z⟩ := I.cell y c e
      exact ⟨w', z.sameBut hs (cne y c e)⟩
    · obtain ⟨e, n, ne, nf, d⟩ := I.pin p hp
      exact ⟨(hs.2 p.1 ne).trans e, n, ne, nf, d⟩
  · have hfn : X.fn x = true := by
      rcases hf with z | z
      · exact z
      · rw [z] at hk; cases hk
    obtain ⟨c, hc⟩ := I.ok.has x (.inl hk)
    obtain ⟨w', z⟩ := I.cell x c hc
    refine wpAny_storeName_cell I.ok.kind hk hc z (fun h' hc' hs => ?_)
    obtain ⟨oc, hoc, hocd⟩ := id z
    refine h { s with heap := h' } ⟨I.ok, I.os, I.bare, ⟨fun b o e n hb hx => ?_, fun b o e n hb hx => ?_, I.base.free, fun b o e hx => ?_, I.base.tups, I.base.frzs, I.base.tbls⟩, ⟨m, hn.sameBut hs (Ne.symm (cne x c hc)), fun j y v' e1 e2 e3 => ?_⟩, fun y c' e => ?_, I.free, I.freeC, fun p hp => ?_, tracked ⟨oc, hoc, I.freeC x c hc⟩ hs, by simpa using I.len⟩ ⟨c, hs, .inr hc⟩
    · exact (hs.2 b (Nat.ne_of_lt (Nat.lt_of_lt_of_le (Heap.lt_size e) (I.ok.cab x c hfn hc)))).trans (I.base.keep b o e n hb hx)
    · obtain ⟨sl, e1⟩ := I.base.slot b o e n hb hx
      exact ⟨sl, (hs.2 b (Nat.ne_of_lt (Nat.lt_of_lt_of_le (Heap.lt_size e) (I.ok.cab x c hfn hc)))).trans e1⟩
    · obtain ⟨o', e1⟩ := I.base.there b o e hx
      exact ⟨o', (hs.2 b (Nat.ne_of_lt (Nat.lt_of_lt_of_le (Heap.lt_size e) (I.ok.cab x c hfn hc)))).trans e1⟩
    · by_cases hj : j = i
      · subst hj
        rw [hi] at e1; cases e1
        rw [List.getElem?_set_self hiσ] at e2
        cases e2
        exact ⟨u, r, .inr ⟨.inl hk, c, hc, hc'⟩⟩
      · rw [List.getElem?_set_ne (Ne.symm hj)] at e2
        obtain ⟨u', r', q⟩ := hl j y v' e1 e2 e3
        refine ⟨u', r', ?_⟩
        rcases q with q | ⟨k, c', e, z'⟩
        · exact .inl q
        · refine .inr ⟨k, c', e, z'.sameBut hs ?_⟩
          rintro rfl
          exact hj (nodup_ix hN e1 (I.ok.inj _ _ _ e hc ▸ hi))
    · by_cases hcc : c' = c
      · subst hcc; exact ⟨_, hc'⟩
      · obtain ⟨w2, z2⟩ := I.cell y c' e
        exact ⟨w2, z2.sameBut hs hcc⟩
    · obtain ⟨e, n, ne, nf, d⟩ := I.pin p hp
      refine ⟨(hs.2 p.1 ?_).trans e, n, ne, nf, d⟩
      intro q
      rw [q, hoc] at e
      have q' : oc = p.2 := Option.some.inj e
      exact d w' (by rw [← q']; exact hocd)
theorem store_ok {M : Model} {A : Around} {E : Value → Shared → Prop} {i : Nat} {x : Str} {v : V} {u : Value} {Q : Unit → Shared → Prop} (I : Inv X pins σ H s) (hN : X.N.Nodup) (hi : X.N[i]? = some x) (hx : Loc X.env.scope x) (r : RelV v u)
    (h : ∀ s', Inv X pins (σ.set i (some v)) H s' → Q () s') (hf : X.fn x = true ∨ X.env.scope.names.lookup x = some .local := by first | exact .inl rfl | exact .inr rfl | assumption) : wpAny M A (storeName X.env x u) Q E s :=
  store_ok2 I hN hi hx r (fun s' I' _ => h s' I') hf
/-- behind a call or a block, the state as it is -/
theorem Inv.call' {s' : Shared} {ch : List Addr} (I : Inv X pins σ H s) (ho : s'.os = s.os) (u : Un (frs X.stack) ch H H' s.heap s'.heap) (hok : HOk X.prog X.w H' s'.heap) (hg : AllBare s'.gens)
    (hch : ∀ b ∈ ch, (b ∈ X.ex ∨ X.s₀.heap.objs.size ≤ b) ∧ b ≠ X.env.locals ∧ (∀ x c, X.env.cells.lookup x = some c → c ≠ b) ∧ ∀ p ∈ X.pn ++ pins, p.1 ≠ b) : Inv X pins σ H' s' := by
  obtain ⟨h', g', d', t', o'⟩ := s'
  have e : o' = s.os := ho
  subst e
  exact I.call (g' := g') (t' := t') (d' := d') u hok hg hch
end
/-- an exception: its class, its own dict's address (where it has one), the abstract heap behind it -/
abbrev XK := Value → Option Addr → Hp → Prop
abbrev St := List (Option V)
abbrev VK := V → Hp → Prop
/-- an expression's reading; a test's; an argument list's -/
abbrev TE := St → Hp → VK → Prop
abbrev TT := St → Hp → (Bool → Hp → Prop) → Prop
abbrev TA := St → Hp → (List V → Hp → Prop) → Prop
/-- what is wanted behind a statement -/
structure Ends where
  nx : St → Hp → Prop
  rt : VK
  bk : St → Hp → Prop := fun _ _ => False
  ct : St → Hp → Prop := fun _ _ => False
abbrev TS := Ends → St → Hp → Prop
def EP (X : Cx) (pins : List (Addr × Obj)) (σ : St) (Q : VK) (u : Value) (s' : Shared) : Prop := ∃ v H', Inv X pins σ H' s' ∧ RelV v u ∧ Q v H'
def TP (X : Cx) (pins : List (Addr × Obj)) (σ : St) (Q : Bool → Hp → Prop) (b : Bool) (s' : Shared) : Prop := ∃ H', Inv X pins σ H' s' ∧ Q b H'
def AP (X : Cx) (pins : List (Addr × Obj)) (σ : St) (Q : List V → Hp → Prop) (us : List Value) (s' : Shared) : Prop := ∃ vs H', Inv X pins σ H' s' ∧ Vals vs us ∧ Q vs H'
def SP (X : Cx) (pins : List (Addr × Obj)) (D : Ends) (f : Flow) (s' : Shared) : Prop :=
  match f with
  | .next => ∃ σ' H', Inv X pins σ' H' s' ∧ D.nx σ' H'
  | .brk => ∃ σ' H', Inv X pins σ' H' s' ∧ D.bk σ' H'
  | .cont => ∃ σ' H', Inv X pins σ' H' s' ∧ D.ct σ' H'
  | .ret u => ∃ v σ' H', Inv X pins σ' H' s' ∧ RelV v u ∧ D.rt v H'
def PE (X : Cx) (e : Expr) (t : TE) : Prop :=
  ∀ (pins : List (Addr × Obj)) (s : Shared) (σ : St) (H : Hp) (Q : VK), Inv X pins σ H s → t σ H Q → wpAny (model X.prog X.w) X.A (eval e X.env) (EP X pins σ Q) X.xe s
def PT (X : Cx) (e : Expr) (t : TT) : Prop :=
  ∀ (pins : List (Addr × Obj)) (s : Shared) (σ : St) (H : Hp) (Q : Bool → Hp → Prop), Inv X pins σ H s → t σ H Q → wpAny (model X.prog X.w) X.A (isTrue e X.env (eval e X.env)) (TP X pins σ Q) X.xe s
/-- a test whatever its 'whole' is (and, or) -/
def PW (X : Cx) (e : Expr) (t : TT) : Prop :=
  ∀ (whole : Sem Value) (pins : List (Addr × Obj)) (s : Shared) (σ : St) (H : Hp) (Q : Bool → Hp → Prop), Inv X pins σ H s → t σ H Q → wpAny (model X.prog X.w) X.A (isTrue e X.env whole) (TP X pins σ Q) X.xe s
theorem PW.pt {X : Cx} {e : Expr} {t : TT} (h : PW X e t) : PT X e t := h _
/-- an argument list (no star), from the left -/
def PA (X : Cx) (es : List Expr) (t : TA) : Prop :=
  ∀ (pos : Pos) (pins : List (Addr × Obj)) (s : Shared) (σ : St) (H : Hp) (Q : List V → Hp → Prop), Inv X pins σ H s → t σ H Q → wpAny (model X.prog X.w) X.A (spliced (backTo pos (starEach es X.env))) (AP X pins σ Q) X.xe s
def PS (X : Cx) (st : Stmt) (t : TS) : Prop :=
  ∀ (pins : List (Addr × Obj)) (s : Shared) (σ : St) (H : Hp) (D : Ends), Inv X pins σ H s → t D σ H → wpAny (model X.prog X.w) X.A (exec st X.env) (SP X pins D) X.xe s
def PSs (X : Cx) (st : List Stmt) (t : TS) : Prop :=
  ∀ (pins : List (Addr × Obj)) (s : Shared) (σ : St) (H : Hp) (D : Ends), Inv X pins σ H s → t D σ H → wpAny (model X.prog X.w) X.A (execs st X.env) (SP X pins D) X.xe s
/-- weaken the end -/
theorem thn {α : Type} {t : Sem α} {Q Q' : α → Shared → Prop} {M : Model} {A : Around} {E : Value → Shared → Prop} {s : Shared} (h : wpAny M A t Q E s) (hQ : ∀ a s, Q a s → Q' a s) : wpAny M A t Q' E s := wpAny_mono h hQ fun _ _ x => x
end L2
namespace L2
open PySem PySem.Spec PyProof.Rows
section
variable {X : Cx}
def tVar (i : Nat) : TE := fun σ H Q => ∃ v, σ[i]? = some (some v) ∧ Q v H
def tC (v : V) : TE := fun _ H Q => Q v H
theorem pe_var {i : Nat} {x : Str} {pos : Pos} (hN : X.N[i]? = some x) (hv : Vis X.env.scope x) (hd : (x == ("__debug__" : Str)) = false := by decide) (hcd : (x == ("__classdict__" : Str)) = false := by decide) : PE X (.Name x pos) (tVar i) := by
  intro pins s σ H Q I h
  obtain ⟨v, e, h⟩ := h
  obtain ⟨m, hn, hl⟩ := I.loc
  obtain ⟨u, r, l⟩ := hl i x v hN e hv
  have fin : EP X pins σ Q u s := ⟨v, H, I, r, h⟩
  rcases l with ⟨hk, hm⟩ | ⟨hk, c, hc, hcell⟩
  · exact wpAny_Name (wpAny_loadName_local I.ok.kind hk hn hm fin) hd
  · rcases hk with hk | hk
    · exact wpAny_Name (wpAny_loadName_cell I.ok.kind hk hc hcell fin) hd
    · exact wpAny_Name (wpAny_loadName_free I.ok.kind hk hc hcell fin hcd) hd
theorem pe_int {i j pos} : PE X (.Constant (.int i) j pos) (tC (.int i)) := fun _ _ _ H _ I h => wpAny_Constant_int ⟨.int i, H, I.tok _, ⟨_, rfl⟩, h⟩
theorem pe_bl {b j pos} : PE X (.Constant (.bool b) j pos) (tC (.bl b)) := fun _ _ _ H _ I h => Constant_bool ⟨.bl b, H, I, rfl, h⟩
theorem pe_non {j pos} : PE X (.Constant .none j pos) (tC .non) := fun _ _ _ H _ I h => Constant_none ⟨.non, H, I, rfl, h⟩
theorem pe_str {x j pos} : PE X (.Constant (.str x) j pos) (tC (.str x)) := fun _ _ _ H _ I h => Calls.Constant_str ⟨.str x, H, I.tok _, ⟨_, rfl⟩, h⟩
/-- a global name of the def -/
def Gl (X : Cx) (x : Str) : Prop := X.env.kindOf x = some .globalImplicit
theorem ld_glob {E : Value → Shared → Prop} {pins : List (Addr × Obj)} {s : Shared} {σ : St} {H : Hp} {x : Str} {u : Value} {pos : Pos} {Q : Value → Shared → Prop} (I : Inv X pins σ H s) (hg : Gl X x) (hm : X.mg x = some u) (h : Q u s)
    (hd : (x == ("__debug__" : Str)) = false := by decide) : wpAny (model X.prog X.w) X.A (eval (.Name x pos) X.env) Q E s :=
  Calls.Name_function_global I.ok.kind hg (Calls.loadGlobal_global (by rw [I.ok.glob]; exact I.mod.glob.keeps I.bk) hm h) hd
theorem ld_blt {E : Value → Shared → Prop} {pins : List (Addr × Obj)} {s : Shared} {σ : St} {H : Hp} {x : Str} {u : Value} {pos : Pos} {Q : Value → Shared → Prop} (I : Inv X pins σ H s) (hg : Gl X x) (hm : X.mg x = none) (hv : bootBuiltins x = some u) (h : Q u s)
    (hn : x ≠ "__name__" := by decide) (hd : (x == ("__debug__" : Str)) = false := by decide) : wpAny (model X.prog X.w) X.A (eval (.Name x pos) X.env) Q E s := by
  obtain ⟨mb, h1, h2⟩ := I.mod.blt
  exact Calls.Name_function_global I.ok.kind hg (Calls.loadGlobal_builtin (by rw [I.ok.glob]; exact I.mod.glob.keeps I.bk) hm (by rw [I.ok.blt]; exact h1.keeps I.bk) ((h2 x hn).trans hv) h) hd
/-- a module's constant, a class, a function, as a value -/
theorem pe_glob {x : Str} {v : V} {u : Value} {pos : Pos} (hg : Gl X x) (hm : X.mg x = some u) (r : RelV v u) (hd : (x == ("__debug__" : Str)) = false := by decide) : PE X (.Name x pos) (tC v) :=
  fun _ _ _ H _ I h => ld_glob I hg hm ⟨v, H, I, r, h⟩ hd
theorem pe_bltn {x : Str} {v : V} {u : Value} {pos : Pos} (hg : Gl X x) (hm : X.mg x = none) (hv : bootBuiltins x = some u) (r : RelV v u) (hn : x ≠ "__name__" := by decide) (hd : (x == ("__debug__" : Str)) = false := by decide) : PE X (.Name x pos) (tC v) :=
  fun _ _ _ H _ I h => ld_blt I hg hm hv ⟨v, H, I, r, h⟩ hn hd
variable {a b : Expr} {ta tb : TE} {pos : Pos}
/-- a comparison as a value, as a test -/
def tB (t : TE) : TT := fun σ H Q => t σ H fun x H1 => ∃ c, x = .bl c ∧ Q c H1
/-- an expression whose value is a bool, as a test -/
theorem pt_val {e : Expr} {t : TE} (h : PE X e t) (he : ∀ whole, isTrue e X.env whole = (do let v ← whole; standAt e.pos; holding [v] (truthy v)) := by intro _; rfl) : PT X e (tB t) := by
  intro pins s σ H Q I hw
  refine isTrue_plain (thn (h pins s σ H _ I hw) fun v s1 ⟨x, H1, I1, r1, q1⟩ => ?_) (he _)
  obtain ⟨d, rfl, q⟩ := q1
  cases r1
  exact wpAny_truthy_bool ⟨H1, I1, q⟩
variable {tA tB' : TT} {rest : List Expr}
def tNot (t : TT) : TT := fun σ H Q => t σ H fun c H1 => Q (!c) H1
theorem pt_not (ha : PT X a tA) : PT X (.UnaryOp .Not a pos) (tNot tA) := by
  intro pins s σ H Q I h
  exact isTrue_not (ha pins s σ H (fun c H1 => Q (!c) H1) I h)
/-- .. as values (bools) -/
def tAndV (ta tb : TE) : TE := fun σ H Q => ta σ H fun x H1 => ∃ c, x = .bl c ∧ if c = true then tb σ H1 Q else Q (.bl false) H1
theorem pe_one {op} {t : TE} (h : PE X a t) : PE X (.BoolOp op [a] pos) t := fun pins s σ H Q I hw => BoolOp_one (h pins s σ H Q I hw)
theorem pe_and (ha : PE X a ta) (hb : PE X (.BoolOp .And (b :: rest) pos) tb) : PE X (.BoolOp .And (a :: b :: rest) pos) (tAndV ta tb) := by
  intro pins s σ H Q I h
  refine BoolOp_and (thn (ha pins s σ H _ I h) fun v s1 ⟨x, H1, I1, r1, q1⟩ => ?_)
  obtain ⟨c, rfl, q1⟩ := q1
  cases r1
  refine wpAny_truthy_bool ?_
  cases c with
  | true => exact hb pins s1 σ H1 Q I1 q1
  | false => exact ⟨.bl false, H1, I1, rfl, q1⟩
end
end L2
namespace L2
open PySem PySem.Spec PyProof.Rows
def SqL (K : PySem.W.Frag) (H : Hp) (a : Addr) (xs : List V) : Prop :=
  Rd H a (.lst xs) ∨
    ∃ (o : Obj) (its : Array Value) (n : Nat), K.lookup a = some o ∧ o.cls = .type "list" ∧ o.dict = none ∧ o.data = .seq its n ∧ its.size ≤ sizeLine ∧ Vals xs its.toList
def SqT (K : PySem.W.Frag) (H : Hp) (a : Addr) (xs : List V) : Prop :=
  Rd H a (.tup xs) ∨
    ∃ (o : Obj) (its : Array Value) (n : Nat), K.lookup a = some o ∧ o.cls = .type "tuple" ∧ o.data = .seq its n ∧ its.size ≤ sizeLine ∧ Vals xs its.toList
def absV : Value → Option V
  | .none => some .non
  | .bool b => some (.bl b)
  | .int i _ => some (.int i)
  | .str x _ => some (.str x)
  | .bytes b _ => some (.byt b)
  | .float b _ => some (.flt b)
  | .ref a => some (.ref a)
  | .type n => some (.ty n)
  | _ => none
theorem RelV.abs {x : V} {u : Value} (r : RelV x u) : absV u = some x := by
  cases x with
  | non => cases r; rfl
  | bl _ => cases r; rfl
  | int _ => obtain ⟨t, rfl⟩ := r; rfl
  | str _ => obtain ⟨t, rfl⟩ := r; rfl
  | byt _ => obtain ⟨t, rfl⟩ := r; rfl
  | flt _ => obtain ⟨t, rfl⟩ := r; rfl
  | ref _ => cases r; rfl
  | ty _ => cases r; rfl
theorem RelV.inj {x y : V} {u : Value} (r : RelV x u) (q : RelV y u) : x = y := Option.some.inj (r.abs.symm.trans q.abs)
theorem Vals.inj : ∀ {xs ys : List V} {us : List Value}, Vals xs us → Vals ys us → xs = ys
  | _, _, _, .nil, .nil => rfl
  | _, _, _, .cons r t, .cons r' t' => by rw [r.inj r', Vals.inj t t']
section
variable {X : Cx} {pins : List (Addr × Obj)} {σ : St} {H : Hp} {s : Shared} {a : Addr} {xs ys : List V}
theorem SqL.of {K : PySem.W.Frag} (h : H a = some (.lst xs)) : SqL K H a xs := .inl (.inl h)
theorem SqT.of {K : PySem.W.Frag} (h : H a = some (.tup xs)) : SqT K H a xs := .inl (.inl h)
theorem Inv.list (I : Inv X pins σ H s) (h : SqL X.K H a xs) : ∃ its : List Value, Vals xs its ∧ PlainL s.heap a its.toArray ∧ xs.length ≤ sizeLine := by
  rcases h with h | ⟨o, its, n, hk, hc, hd, hs, hz, r⟩
  · obtain ⟨z, its, n, r, e⟩ := h.ok I.hok
    exact ⟨its, r, ⟨_, n, e, rfl, rfl, rfl⟩, z⟩
  · refine ⟨its.toList, r, ⟨o, n, I.kIn a o hk, hc, hd, by simpa using hs⟩, ?_⟩
    have e := r.length
    simp only [Array.length_toList] at e
    omega
theorem Inv.tuple (I : Inv X pins σ H s) (h : SqT X.K H a xs) : ∃ its : List Value, Vals xs its ∧ IsTup s.heap a its.toArray ∧ xs.length ≤ sizeLine := by
  rcases h with h | ⟨o, its, n, hk, hc, hs, hz, r⟩
  · obtain ⟨z, its, r, p⟩ := h.ok I.hok
    exact ⟨its, r, p, z⟩
  · refine ⟨its.toList, r, ⟨o, I.kIn a o hk, hc, n, by simpa using hs⟩, ?_⟩
    have e := r.length
    simp only [Array.length_toList] at e
    omega
theorem Inv.list_inj (I : Inv X pins σ H s) (h : SqL X.K H a xs) (h' : SqL X.K H a ys) : xs = ys := by
  obtain ⟨its, r, ⟨o, n, e, _, _, d⟩, _⟩ := I.list h
  obtain ⟨its', r', ⟨o', n', e', _, _, d'⟩, _⟩ := I.list h'
  rw [e] at e'; cases e'
  rw [d] at d'
  injection d' with d1 _
  have : its = its' := by simpa using congrArg Array.toList d1
  subst this
  exact r.inj r'
theorem Inv.tuple_inj (I : Inv X pins σ H s) (h : SqT X.K H a xs) (h' : SqT X.K H a ys) : xs = ys := by
  obtain ⟨its, r, ⟨o, e, _, n, d⟩, _⟩ := I.tuple h
  obtain ⟨its', r', ⟨o', e', _, n', d'⟩, _⟩ := I.tuple h'
  rw [e] at e'; cases e'
  rw [d] at d'
  injection d' with d1 _
  have : its = its' := by simpa using congrArg Array.toList d1
  subst this
  exact r.inj r'
end
abbrev Cx.wish (X : Cx) (E : Value → Shared → Prop) : Cx := { X with xe := E }
/-- no exception leaves -/
abbrev Cx.nox (X : Cx) : Cx := X.wish fun _ _ => False
theorem Cx.Ok.wish {X : Cx} (ok : X.Ok) (E : Value → Shared → Prop) : (X.wish E).Ok :=
  ⟨ok.mod, ok.kind, ok.glob, ok.blt, ok.above, ok.inj, ok.has, ok.cab, ok.hd, ok.frames, ok.stk, ok.exf, ok.bs, ok.bsz, ok.noex, ok.exfs, ok.funs, ok.frf⟩
theorem Cx.Ok.unwish {X : Cx} {E : Value → Shared → Prop} (ok : (X.wish E).Ok) : X.Ok :=
  ⟨ok.mod, ok.kind, ok.glob, ok.blt, ok.above, ok.inj, ok.has, ok.cab, ok.hd, ok.frames, ok.stk, ok.exf, ok.bs, ok.bsz, ok.noex, ok.exfs, ok.funs, ok.frf⟩
section
variable {X : Cx} {pins : List (Addr × Obj)} {σ : St} {H : Hp} {s : Shared} {E : Value → Shared → Prop}
theorem Inv.wish (I : Inv X pins σ H s) (E : Value → Shared → Prop) : Inv (X.wish E) pins σ H s := ⟨I.ok.wish E, I.os, I.bare, I.base, I.loc, I.cell, I.free, I.freeC, I.pin, I.hok, I.len⟩
theorem Inv.unwish (I : Inv (X.wish E) pins σ H s) : Inv X pins σ H s := ⟨I.ok.unwish, I.os, I.bare, I.base, I.loc, I.cell, I.free, I.freeC, I.pin, I.hok, I.len⟩
theorem SP.unwish {D : Ends} {f : Flow} {s' : Shared} (h : SP (X.wish E) pins D f s') : SP X pins D f s' := by
  cases f with
  | next => obtain ⟨σ', H', I, q⟩ := h; exact ⟨σ', H', I.unwish, q⟩
  | brk => obtain ⟨σ', H', I, q⟩ := h; exact ⟨σ', H', I.unwish, q⟩
  | cont => obtain ⟨σ', H', I, q⟩ := h; exact ⟨σ', H', I.unwish, q⟩
  | ret u => obtain ⟨v, σ', H', I, r, q⟩ := h; exact ⟨v, σ', H', I.unwish, r, q⟩
theorem PE.nox {e : Expr} {t : TE} (h : PE X.nox e t) : PE X e t := fun pins s σ H Q I hw =>
  wpAny_mono (h pins s σ H Q (I.wish _) hw) (fun _ _ ⟨v, H', I', r, q⟩ => ⟨v, H', I'.unwish, r, q⟩) fun _ _ z => False.elim z
theorem PT.nox {e : Expr} {t : TT} (h : PT X.nox e t) : PT X e t := fun pins s σ H Q I hw =>
  wpAny_mono (h pins s σ H Q (I.wish _) hw) (fun _ _ ⟨H', I', q⟩ => ⟨H', I'.unwish, q⟩) fun _ _ z => False.elim z
theorem PSs.nox {st : List Stmt} {t : TS} (h : PSs X.nox st t) : PSs X st t := fun pins s σ H D I hw =>
  wpAny_mono (h pins s σ H D (I.wish _) hw) (fun _ _ q => q.unwish) fun _ _ z => False.elim z
end
section
variable {X : Cx} {st : Stmt} {rest : List Stmt} {t u : TS} {e : Expr} {te : TE} {pos : Pos}
def tNext : TS := fun D σ H => D.nx σ H
def tSeq (t u : TS) : TS := fun D σ H => t { D with nx := u D } σ H
theorem pss_nil : PSs X [] tNext := fun _ _ σ H _ I h => wpAny_execs_nil ⟨σ, H, I, h⟩
theorem pss_cons (h1 : PS X st t) (h2 : PSs X rest u) : PSs X (st :: rest) (tSeq t u) := by
  intro pins s σ H D I h
  refine wpAny_execs_cons (thn (h1 pins s σ H { D with nx := u D } I h) fun f s1 q => ?_)
  cases f with
  | next =>
    obtain ⟨σ', H', I', q⟩ := q
    exact h2 pins s1 σ' H' D I' q
  | ret v => exact q
  | brk => exact q
  | cont => exact q
theorem pss_one (h1 : PS X st t) : PSs X [st] t := by
  intro pins s σ H D I h
  refine wpAny_execs_cons (thn (h1 pins s σ H D I h) fun f s1 q => ?_)
  cases f with
  | next => exact wpAny_execs_nil q
  | ret v => exact q
  | brk => exact q
  | cont => exact q
/-- in a def's body nothing is shown -/
theorem Inv.quiet {pins : List (Addr × Obj)} {σ : St} {H : Hp} {s : Shared} (I : Inv X pins σ H s) : interactive X.env = false := by simp [interactive, I.ok.kind]
/-- an expression whose value is dropped -/
def tDrop (te : TE) : TS := fun D σ H => te σ H fun _ H1 => D.nx σ H1
theorem ps_expr (he : PE X e te) (hs : swapsWith e none pos.line X.env = pure false := by rfl) : PS X (.Expr e pos) (tDrop te) := by
  intro pins s σ H D I h
  exact wpAny_Expr_any (thn (he pins s σ H _ I h) fun v s1 ⟨x, H1, I1, r1, q1⟩ => ⟨σ, H1, I1, q1⟩) I.quiet hs
def tRet (te : TE) : TS := fun D σ H => te σ H D.rt
theorem ps_ret (he : PE X e te) : PS X (.Return (some e) pos) (tRet te) := by
  intro pins s σ H D I h
  exact wpAny_Return_some (thn (he pins s σ H _ I h) fun v s1 ⟨x, H1, I1, r1, q1⟩ => ⟨x, σ, H1, I1, r1, q1⟩)
def tIfS (c : TT) (t u : TS) : TS := fun D σ H => c σ H fun b H1 => if b = true then t D σ H1 else u D σ H1
theorem ps_if {c : Expr} {a b : List Stmt} {tc : TT} (hc : PT X c tc) (ha : PSs X a t) (hb : PSs X b u) : PS X (.If c a b pos) (tIfS tc t u) := by
  intro pins s σ H D I h
  refine wpAny_If (thn (hc pins s σ H _ I h) fun d s1 ⟨H1, I1, q1⟩ => ?_)
  cases d with
  | true => exact ha pins s1 σ H1 D I1 q1
  | false => exact hb pins s1 σ H1 D I1 q1
end
abbrev TG := V → St → Hp → (St → Hp → Prop) → Prop
abbrev TGs := List V → St → Hp → (St → Hp → Prop) → Prop
def PG (X : Cx) (target : Expr) (t : TG) : Prop :=
  ∀ (pins : List (Addr × Obj)) (s : Shared) (σ : St) (H : Hp) (v : V) (u : Value) (Q : St → Hp → Prop), Inv X pins σ H s → RelV v u → t v σ H Q →
    wpAny (model X.prog X.w) X.A (assign target X.env u) (fun _ s' => ∃ σ' H', Inv X pins σ' H' s' ∧ Q σ' H') X.xe s
/-- several targets, one after another -/
def PGs (X : Cx) (ts : List Expr) (t : TGs) : Prop :=
  ∀ (pins : List (Addr × Obj)) (s : Shared) (σ : St) (H : Hp) (vs : List V) (us : List Value) (Q : St → Hp → Prop), Inv X pins σ H s → Vals vs us → t vs σ H Q →
    wpAny (model X.prog X.w) X.A (assignInOrder ((assignEach ts X.env).map (·.2)) us) (fun _ s' => ∃ σ' H', Inv X pins σ' H' s' ∧ Q σ' H') X.xe s
section
variable {X : Cx} {pos : Pos}
def gName (i : Nat) : TG := fun v σ H Q => Q (σ.set i (some v)) H
theorem pg_name {i : Nat} {x : Str} (hN : X.N.Nodup) (hi : X.N[i]? = some x) (hx : Loc X.env.scope x) (hf : X.fn x = true ∨ X.env.scope.names.lookup x = some .local := by first | exact .inl rfl | exact .inr rfl | assumption) : PG X (.Name x pos) (gName i) := by
  intro pins s σ H v u Q I r h
  exact wpAny_assign_Name (store_ok I hN hi hx r (fun s' I' => ⟨_, H, I', h⟩) hf)
def gNil : TGs := fun vs σ H Q => vs = [] ∧ Q σ H
def gCons (t : TG) (u : TGs) : TGs := fun vs σ H Q => ∃ v r, vs = v :: r ∧ t v σ H fun σ' H' => u r σ' H' Q
theorem pgs_nil : PGs X [] gNil := by
  intro pins s σ H vs us Q I r h
  obtain ⟨e, h⟩ := h
  subst e
  cases r
  exact assignInOrder_nil ⟨σ, H, I, h⟩
theorem pgs_cons {e : Expr} {es : List Expr} {t : TG} {u : TGs} (h1 : PG X e t) (h2 : PGs X es u)
    (hs : (assignEach (e :: es) X.env).map (·.2) = assign e X.env :: (assignEach es X.env).map (·.2) := by rfl) : PGs X (e :: es) (gCons t u) := by
  intro pins s σ H vs us Q I r h
  obtain ⟨v, vr, e1, h⟩ := h
  subst e1
  cases r with
  | cons r rr =>
    rw [hs]
    refine assignInOrder_cons (thn (h1 pins s σ H _ _ _ I r h) fun _ s1 ⟨σ1, H1, I1, q1⟩ => ?_)
    exact h2 pins s1 σ1 H1 _ _ Q I1 rr q1
/-- (a, b, ..) = a tuple of that length -/
def gTup (K : PySem.W.Frag) (n : Nat) (t : TGs) : TG := fun v σ H Q => ∃ a xs, v = .ref a ∧ SqT K H a xs ∧ xs.length = n ∧ t xs σ H Q
theorem pg_tup {es : List Expr} {k : Nat} {t : TGs} {n : Nat} (hc : X.calm = true) (h : PGs X es t)
    (hn : (assignEach es X.env).length = n := by rfl) (hst : (assignEach es X.env).findIdx? (·.1) = none := by rfl) : PG X (.Tuple es k pos) (gTup X.K n t) := by
  intro pins s σ H v u Q I r hw
  obtain ⟨a, xs, e1, hq, hl, hw⟩ := hw
  subst e1
  cases r
  obtain ⟨its, rv, ht, hz⟩ := I.tuple hq
  refine assign_Tuple_tuple (I.ok.hd hc) ht (by simp [hn, ← hl, rv.length]) hst fun h' hx => ?_
  have I1 : Inv X pins σ H { s with heap := h' } := I.kept (t' := s.toks) fun b o e => hx b o (Nat.ne_of_lt (Heap.lt_size e)) e
  exact h pins _ σ H xs _ Q I1 (by simpa using rv) hw
/-- target = value -/
def tAsg (te : TE) (g : TG) : TS := fun D σ H => te σ H fun x H1 => g x σ H1 D.nx
theorem ps_asg {tg e : Expr} {te : TE} {g : TG} (he : PE X e te) (hg : PG X tg g) (hs : swapsWithSole [tg] e pos.line X.env = pure false := by rfl) (hw : swappedStores [tg] e X.env = pure none := by rfl)
    (h1 : (assignEach [tg] X.env).map (·.2) = [assign tg X.env] := by rfl) : PS X (.Assign [tg] e pos) (tAsg te g) := by
  intro pins s σ H D I h
  refine wpAny_Assign_stores (thn (he pins s σ H _ I h) fun v s1 ⟨x, H1, I1, r1, q1⟩ => ?_) hs hw
  rw [h1]
  exact thn (hg pins s1 σ H1 x v _ I1 r1 q1) fun _ s2 q => q
/-- name = value -/
theorem ps_set {i : Nat} {x : Str} {e : Expr} {te : TE} {pos' : Pos} (hN : X.N.Nodup) (hi : X.N[i]? = some x) (hx : Loc X.env.scope x) (he : PE X e te) (hs : swapsWith e (some (.Name x pos')) pos.line X.env = pure false := by rfl) (hf : X.fn x = true ∨ X.env.scope.names.lookup x = some .local := by first | exact .inl rfl | exact .inr rfl | assumption) :
    PS X (.Assign [.Name x pos'] e pos) (tAsg te (gName i)) := by
  intro pins s σ H D I h
  refine wpAny_Assign_Name (thn (he pins s σ H _ I h) fun v s1 ⟨y, H1, I1, r1, q1⟩ => ?_) hs
  exact store_ok I1 hN hi hx r1 (fun s2 I2 => ⟨_, H1, I2, q1⟩) hf
/-- a, b = x, y with plain local names: stored from the right; the pair itself is not tracked (the opening rows as in PyProof/Rows/TupAssign.lean:23) -/
def tPar (i j : Nat) (ta : TA) : TS := fun D σ H => ta σ H fun vs H1 => ∃ v w, vs = [v, w] ∧ D.nx ((σ.set i (some v)).set j (some w)) H1
theorem ps_par {i j : Nat} {x y : Str} {a b : Expr} {ta : TA} {px py pt : Pos} {kt k2 pt2} (hc : X.calm = true) (hN : X.N.Nodup) (hi : X.N[i]? = some x) (hj : X.N[j]? = some y) (hij : i ≠ j)
    (hx : X.env.scope.names.lookup x = some .local) (hy : X.env.scope.names.lookup y = some .local) (ha : PA X [a, b] ta)
    (hw : swappedStores [.Tuple [.Name x px, .Name y py] kt pt] (.Tuple [a, b] k2 pt2) X.env = pure (some [x, y]))
    (hs : swapsWithSole [.Tuple [.Name x px, .Name y py] kt pt] (.Tuple [a, b] k2 pt2) pos.line X.env = pure false := by rfl) :
    PS X (.Assign [.Tuple [.Name x px, .Name y py] kt pt] (.Tuple [a, b] k2 pt2) pos) (tPar i j ta) := by
  intro pins s σ H D I h
  rw [exec_Assign_arm]
  refine wpAny_bind (wpAny_standAt ?_)
  rw [hs]
  refine wpAny_bind (wpAny_pure ?_)
  rw [if_neg (by decide)]
  refine wpAny_bind (Tuple_ (thn (ha _ pins s σ H _ I h) fun us s1 ⟨vs, H1, I1, r1, q1⟩ => ?_))
  obtain ⟨v, w, e1, q1⟩ := q1
  subst e1
  obtain ⟨u1, u2, rfl, rv, rw'⟩ : ∃ u1 u2, us = [u1, u2] ∧ RelV v u1 ∧ RelV w u2 := by
    cases r1 with
    | cons p q =>
      cases q with
      | cons p' q' =>
        cases q'
        exact ⟨_, _, rfl, p, p'⟩
  refine wpAny_newObj_type ?_ (by show 2 ≤ sizeLine; decide)
  have I2 : Inv X pins σ H1 { s1 with heap := s1.heap.push { cls := .type "tuple", data := .seq [u1, u2].toArray } } := I1.kept (t' := s1.toks) fun b o e => Heap.get?_push_of_some _ e
  rw [hw]
  refine wpAny_bind (wpAny_pure ?_)
  show wpAny (model X.prog X.w) X.A (do rule "assign.swapped-stores"; let items ← unpackItems (.ref s1.heap.objs.size) 2 none; assignInOrder [fun v => bindName X.env y v, fun v => bindName X.env x v] items.reverse; pure Flow.next) _ _ _
  refine wpAny_bind (wpAny_rule (wpAny_bind (unpackItems_tuple (items := #[u1, u2]) (I.ok.hd hc) (IsTup.new s1.heap _) fun h' hx' => ?_)))
  have I3 := I2.kept (h' := h') (t' := s1.toks) fun b o e => hx' b o (Nat.ne_of_lt (Heap.lt_size e)) e
  show wpAny _ _ (assignInOrder [fun v => bindName X.env y v, fun v => bindName X.env x v] [u2, u1] >>= fun _ => pure Flow.next) _ _ _
  refine wpAny_bind (assignInOrder_cons (wpAny_bindName (store_ok I3 hN hj (.inl hy) rw' (fun s2 I4 => ?_) (.inr hy))))
  refine assignInOrder_cons (wpAny_bindName (store_ok I4 hN hi (.inl hx) rv (fun s3 I5 => assignInOrder_nil (wpAny_pure ?_)) (.inr hx)))
  rw [List.set_comm _ _ (Ne.symm hij)] at I5
  exact ⟨_, H1, I5, q1⟩
end
section
variable {X : Cx} {pos : Pos}
end
/-- at turn i: it yields x (the heap may grow), or it stops -/
structure It where
  go : Nat → Hp → Prop
  yld : Nat → Hp → V → Hp → Prop
  stop : Nat → Hp → Prop
/-- the iterator's own objects may turn: they are not the frame's, not pinned, younger than the entry (or a comprehension's own) -/
def FpOk (X : Cx) (pins : List (Addr × Obj)) (H : Hp) (b : Addr) : Prop :=
  H b = none ∧ b ≠ X.env.locals ∧ b ∉ X.fs ∧ (b ∈ X.ex ∨ X.s₀.heap.objs.size ≤ b) ∧ (∀ x c, X.env.cells.lookup x = some c → c ≠ b) ∧ ∀ p ∈ X.pn ++ pins, p.1 ≠ b
theorem Inv.fpOk {X : Cx} {pins : List (Addr × Obj)} {σ : St} {H H' : Hp} {s : Shared} {b : Addr} (I : Inv X pins σ H s) (hb : s.heap.objs.size ≤ b) (hn : H' b = none) : FpOk X pins H' b := by
  refine ⟨hn, Nat.ne_of_gt (Nat.lt_of_lt_of_le I.lt hb), I.nofs hb, .inr (Nat.le_trans I.sz hb), fun x c e z => ?_, fun p hp z => ?_⟩
  · obtain ⟨v, q⟩ := I.cell x c e
    exact absurd (Nat.lt_of_lt_of_le q.lt (by rw [z]; exact hb)) (Nat.lt_irrefl _)
  · exact absurd (Nat.lt_of_lt_of_le (Heap.lt_size (I.pin p hp).1) (by rw [z]; exact hb)) (Nat.lt_irrefl _)
structure Turn (P : Program) (w : World) (K : PySem.W.Frag) (tg : Expr) (J : It) (fp : List Addr) (it : Addr) (tn : Nat → Heap → Prop) : Prop where
  mem : it ∈ fp
  obj : ∀ i h, tn i h → ∀ b ∈ fp, ∃ o, h.get? b = some o ∧ ∀ v, o.data ≠ .cell v
  keep : ∀ i h h', tn i h → (∀ b ∈ fp, ∀ o, h.get? b = some o → h'.get? b = some o) → tn i h'
  item : ∀ (X : Cx), X.prog = P → X.w = w → X.K = K → X.calm = true → ∀ (i : Nat) (pins : List (Addr × Obj)) (s : Shared) (σ : St) (H : Hp) (E : Value → Shared → Prop), Inv X pins σ H s → (∀ b ∈ fp, FpOk X pins H b) → tn i s.heap → J.go i H →
    wpAny (model P w) X.A (pyNext (.ref it)) (fun r s1 => ∃ u, r = some u ∧
      wpAny (model P w) X.A (letOwnedTupleGo tg (.ref it) u) (fun _ s2 => ∃ x H', Inv X pins σ H' s2 ∧ RelV x u ∧ J.yld i H x H' ∧ tn (i + 1) s2.heap ∧ ∀ b ∈ fp, H' b = none) E s1) E s
  done : ∀ (X : Cx), X.prog = P → X.w = w → X.K = K → X.calm = true → ∀ (i : Nat) (pins : List (Addr × Obj)) (s : Shared) (σ : St) (H : Hp) (E : Value → Shared → Prop), Inv X pins σ H s → (∀ b ∈ fp, FpOk X pins H b) → tn i s.heap → J.stop i H →
    wpAny (model P w) X.A (pyNext (.ref it)) (fun r s1 => r = none ∧ Inv X pins σ H s1) E s
  self : ∀ (A : Around) (i : Nat) (s : Shared) (Q : Value → Shared → Prop) (E : Value → Shared → Prop), tn i s.heap → Q (.ref it) s → wpAny (model P w) A (pyIter (.ref it)) Q E s
abbrev TI := St → Hp → (It → Hp → Prop) → Prop
/-- an iterator has come -/
def PIE (X : Cx) (pins : List (Addr × Obj)) (σ : St) (tg : Expr) (R : It → Hp → Prop) (itv : Value) (s2 : Shared) : Prop :=
  ∃ (it : Addr) (fp : List Addr) (tn : Nat → Heap → Prop) (J : It) (H' : Hp), itv = .ref it ∧ Inv X pins σ H' s2 ∧ Turn X.prog X.w X.K tg J fp it tn ∧ tn 0 s2.heap ∧ (∀ b ∈ fp, FpOk X pins H' b) ∧ R J H'
def PI (X : Cx) (tg iter : Expr) (wi : TI) : Prop :=
  ∀ (pins : List (Addr × Obj)) (s : Shared) (σ : St) (H : Hp) (R : It → Hp → Prop), Inv X pins σ H s → wi σ H R →
    wpAny (model X.prog X.w) X.A (eval iter X.env) (fun v s1 => wpAny (model X.prog X.w) X.A (pyIter v) (PIE X pins σ tg R) X.xe s1) X.xe s
/-- the step ahead of the store is nothing for an iterator that keeps no tuple -/
theorem go_of {M : Model} {A : Around} {E : Value → Shared → Prop} {s : Shared} {tg : Expr} {it : Addr} {u : Value} {o : Obj} {n : String} {vs : Array Value} {Q : Unit → Shared → Prop} (ho : s.heap.get? it = some o) (hc : o.cls = .type n) (hd : o.data = .fields vs)
    (hn : ["enumerate", "zip", "dict_itemiterator", "dict_reverseitemiterator", "odict_iterator", "itertools.zip_longest", "itertools.pairwise"].contains n = false) (hQ : Q () s) : wpAny M A (letOwnedTupleGo tg (.ref it) u) Q E s := by
  unfold letOwnedTupleGo
  cases tg <;> first
    | exact wpAny_pure hQ
    | (cases u <;> first
        | exact wpAny_pure hQ
        | (refine wpAny_bind (wpAny_load ho ?_)
           rw [hc, hd]
           show wpAny M A (if (["enumerate", "zip", "dict_itemiterator", "dict_reverseitemiterator", "odict_iterator", "itertools.zip_longest", "itertools.pairwise"].contains n && vs[0]? == some (rawInt _)) = true then _ else _) Q E s
           rw [if_neg (by intro h; rw [hn, Bool.false_and] at h; cases h)]
           exact wpAny_pure hQ))
/-- lo, lo + 1, .. (n of them) -/
def Itr (lo : Int) (n : Nat) : It := ⟨fun i _ => i < n, fun i H x H' => H' = H ∧ x = .int (lo + i), fun i _ => n ≤ i⟩
theorem turn_range {P : Program} {w : World} {K : PySem.W.Frag} {tg : Expr} (it : Addr) (lo : Int) (n : Nat) : Turn P w K tg (Itr lo n) [it] it (fun i h => IsRangeIter h it (lo + (i : Nat) * 1) ((n : Int) - (i : Nat)) 1) where
  mem := by simp
  obj := fun i h st b hb => by
    have e : b = it := by simpa using hb
    subst e
    exact ⟨_, st, fun v z => by
      have z' : Data.fields _ = Data.cell v := z
      cases z'⟩
  keep := fun i h h' st k => k it (by simp) _ st
  item := by
    intro X hP hw hK hc i pins s σ H E I hf st hg
    subst hP hw hK
    obtain ⟨f0, f1, f2, f3, f4, f5⟩ := hf it (by simp)
    have W := Walks.range (prog := X.prog) (w := X.w) (I.ok.hd hc) it lo 1 n
    refine W.item i s _ _ hg st fun v h' tk hv st' kk => ?_
    obtain ⟨t, rfl⟩ := hv
    have I1 : Inv X pins σ H { s with heap := h', toks := tk } := I.turned (fun b o hb e => kk b o (by simpa using hb) e) f0 f1 f3 f4 f5
    refine ⟨_, rfl, go_of (s := { s with heap := h', toks := tk }) (n := "range_iterator") st' rfl rfl (by decide) ⟨.int (lo + i), H, I1, ⟨t, ?_⟩, ⟨rfl, rfl⟩, st', fun b hb => (hf b hb).1⟩⟩
    rw [Int.mul_one]
  done := by
    intro X hP hw hK hc i pins s σ H E I hf st hg
    subst hP hw hK
    obtain ⟨f0, f1, f2, f3, f4, f5⟩ := hf it (by simp)
    exact wpAny_pyNext_range_end (I.ok.hd hc) st (by have : n ≤ i := hg; omega) fun h' eb => ⟨rfl, I.turned (t' := s.toks) (fun b o hb e => eb b o hb e) f0 f1 f3 f4 f5⟩
  self := fun _ _ _ _ _ st h => wpAny_pyIter_rangeiter st h
end L2
namespace L2
open PySem PySem.Spec PyProof.Rows
section
variable {X : Cx} {tg : Expr}
/-- a range object just made, walked -/
theorem range_it {pins : List (Addr × Obj)} {σ : St} {H : Hp} {s : Shared} {R : It → Hp → Prop} {E : Value → Shared → Prop} {lo hi : Int} {t u v : Tok} {tk : Nat} (I : Inv X pins σ H s) (h1 : -(2 ^ 62) ≤ lo) (h2 : lo < 2 ^ 62) (h3 : -(2 ^ 62) ≤ hi) (h4 : hi < 2 ^ 62)
    (q : R (Itr lo (hi - lo).toNat) H) : wpAny (model X.prog X.w) X.A (pyIter (.ref s.heap.objs.size)) (PIE X pins σ tg R) E { s with heap := s.heap.push { cls := .type "range", data := .fields #[.int lo t, .int hi u, .int 1 v] }, toks := tk } := by
  refine wpAny_pyIter_range (IsRange.new ..) (small_one h1 h2 h3 h4) ?_
  have I1 : Inv X pins σ H { s with heap := s.heap.push { cls := .type "range", data := .fields #[.int lo t, .int hi u, .int 1 v] }, toks := tk } := I.kept fun b o e => Heap.get?_push_of_some _ e
  refine ⟨(s.heap.push { cls := .type "range", data := .fields #[.int lo t, .int hi u, .int 1 v] }).objs.size, [(s.heap.push { cls := .type "range", data := .fields #[.int lo t, .int hi u, .int 1 v] }).objs.size], _, _, H, rfl,
    I1.kept (t' := tk) fun b o e => Heap.get?_push_of_some _ e, turn_range _ lo (hi - lo).toNat, ?_, fun b hb => ?_, q⟩
  · have e1 : lo + ((0 : Nat) : Int) * 1 = lo := by simp
    have e2 : (((hi - lo).toNat : Nat) : Int) - ((0 : Nat) : Int) = Builtin.Range.rangeSize lo hi 1 := by rw [rangeSize_one]; split <;> omega
    show IsRangeIter _ _ (lo + ((0 : Nat) : Int) * 1) ((((hi - lo).toNat : Nat) : Int) - ((0 : Nat) : Int)) 1
    rw [e1, e2]
    exact Heap.get?_push_size _ rfl
  · have e : b = (s.heap.push { cls := .type "range", data := .fields #[.int lo t, .int hi u, .int 1 v] }).objs.size := by simpa using hb
    subst e
    exact I1.fpOk (Nat.le_refl _) (I1.hok.fresh (Nat.le_refl _))
def iRng1 (ta : TA) : TI := fun σ H R => ta σ H fun vs H1 => ∃ j : Int, vs = [.int j] ∧ -(2 ^ 62) ≤ j ∧ j < 2 ^ 62 ∧ R (Itr 0 j.toNat) H1
theorem pi_range1 {a : Expr} {ta : TA} {p pos : Pos} (hg : Gl X "range") (hm : X.mg "range" = none) (ha : PA X [a] ta) (hs : starEach [a] X.env = [(false, eval a X.env)] := by rfl) : PI X tg (.Call (.Name "range" p) [a] [] pos) (iRng1 ta) := by
  intro pins s σ H R I h
  refine Call_ (ld_blt I hg hm boot_range (PyProof.Rows.callWith_type1 (thn (ha pos pins s σ H _ I h) fun us s1 ⟨vs, H1, I1, r1, q1⟩ => ?_) hs rfl))
  obtain ⟨j, e, q1, q2, q⟩ := q1
  subst e
  cases r1 with
  | cons r rr =>
    cases rr
    obtain ⟨t, rfl⟩ := r
    exact call_range_1 (range_it I1 (by omega) (by omega) q1 q2 (by simpa using q))
/-- the records at fp as they stand -/
def pinsAt (fp : List Addr) (h : Heap) : List (Addr × Obj) := fp.filterMap fun b => (h.get? b).map fun o => (b, o)
theorem mem_pinsAt {fp : List Addr} {h : Heap} {b : Addr} {o : Obj} (hb : b ∈ fp) (e : h.get? b = some o) : (b, o) ∈ pinsAt fp h := List.mem_filterMap.mpr ⟨b, hb, by rw [e]; rfl⟩
theorem of_pinsAt {fp : List Addr} {h : Heap} {p : Addr × Obj} (hp : p ∈ pinsAt fp h) : p.1 ∈ fp ∧ h.get? p.1 = some p.2 := by
  obtain ⟨b, hb, e⟩ := List.mem_filterMap.mp hp
  cases q : h.get? b with
  | none => rw [q] at e; cases e
  | some o =>
    rw [q] at e
    have e' : (b, o) = p := Option.some.inj e
    subst e'
    exact ⟨hb, q⟩
theorem Inv.pinned {pins : List (Addr × Obj)} {σ : St} {H : Hp} {s : Shared} {fp : List Addr} (I : Inv X pins σ H s) (hf : ∀ b ∈ fp, FpOk X pins H b) (ho : ∀ b ∈ fp, ∃ o, s.heap.get? b = some o ∧ ∀ v, o.data ≠ .cell v) : Inv X (pins ++ pinsAt fp s.heap) σ H s :=
  I.pins_of fun p hp => (List.mem_append.mp hp).elim (fun z => I.pin p (List.mem_append_right _ z)) fun z => by
    obtain ⟨hb, e⟩ := of_pinsAt z
    obtain ⟨f0, f1, f2, _⟩ := hf p.1 hb
    obtain ⟨o, e', d⟩ := ho p.1 hb
    rw [e] at e'; cases e'
    exact ⟨e, f0, f1, f2, d⟩
theorem Inv.unpinned {pins pl : List (Addr × Obj)} {σ : St} {H : Hp} {s : Shared} (I : Inv X (pins ++ pl) σ H s) : Inv X pins σ H s := I.pins_of fun p hp => I.pin p (List.mem_append_right _ (List.mem_append_left _ hp))
end
end L2
namespace L2
open PySem PySem.Spec PyProof.Rows
abbrev R2 := V → V → Hp → VK → Prop
/-- a two-place operation on values: f is binaryOp op, inplaceOp op or compareOp op -/
def OpR (X : Cx) (f : Value → Value → Sem Value) (r : R2) : Prop :=
  ∀ (pins : List (Addr × Obj)) (s : Shared) (σ : St) (H : Hp) (x y : V) (v u : Value) (Q : VK), Inv X pins σ H s → RelV x v → RelV y u → r x y H Q →
    wpAny (model X.prog X.w) X.A (f v u) (EP X pins σ Q) X.xe s
/-- a call of a value that is known (a builtin, a type) with values -/
def CallR (X : Cx) (f : Value) (r : List V → Hp → VK → Prop) : Prop :=
  ∀ (pins : List (Addr × Obj)) (s : Shared) (σ : St) (H : Hp) (xs : List V) (us : List Value) (Q : VK), Inv X pins σ H s → Vals xs us → r xs H Q →
    wpAny (model X.prog X.w) X.A (call f us) (EP X pins σ Q) X.xe s
def tOp (r : R2) (ta tb : TE) : TE := fun σ H Q => ta σ H fun x H1 => tb σ H1 fun y H2 => r x y H2 Q
/-- ints in, under C, and a value out -/
def rI (C : Int → Int → Prop) (g : Int → Int → V) : R2 := fun x y H Q => ∃ i j, x = .int i ∧ y = .int j ∧ C i j ∧ Q (g i j) H
def rI0 (g : Int → Int → V) : R2 := fun x y H Q => ∃ i j, x = .int i ∧ y = .int j ∧ Q (g i j) H
section
variable {X : Cx} {a b c : Expr} {ta tb tc : TE} {pos : Pos}
theorem binT (ha : PE X a ta) (hb : PE X b tb) {pins : List (Addr × Obj)} {s : Shared} {σ : St} {H : Hp} {R : V → V → Hp → Prop} (I : Inv X pins σ H s)
    (h : ta σ H fun x H1 => tb σ H1 fun y H2 => R x y H2) {Q : Value → Shared → Prop} {f : Value → Value → Sem Value}
    (hf : ∀ v u s2 x y H2, Inv X pins σ H2 s2 → RelV x v → RelV y u → R x y H2 → wpAny (model X.prog X.w) X.A (f v u) Q X.xe s2) :
    wpAny (model X.prog X.w) X.A (eval a X.env) (fun v s₁ => wpAny (model X.prog X.w) X.A (eval b X.env) (fun u s₂ => wpAny (model X.prog X.w) X.A (f v u) Q X.xe s₂) X.xe s₁) X.xe s := by
  refine thn (ha pins s σ H _ I h) fun v s1 ⟨x, H1, I1, r1, q1⟩ => ?_
  refine thn (hb pins s1 σ H1 _ I1 q1) fun u s2 ⟨y, H2, I2, r2, q2⟩ => ?_
  exact hf v u s2 x y H2 I2 r1 r2 q2
theorem pe_op {op : Operator} {r : R2} (ho : OpR X (binaryOp op) r) (ha : PE X a ta) (hb : PE X b tb) : PE X (.BinOp a op b pos) (tOp r ta tb) := by
  intro pins s σ H Q I h
  exact wpAny_BinOp (binT ha hb I h fun v u s2 x y H2 I2 rx ry q => ho pins s2 σ H2 x y v u Q I2 rx ry q)
theorem opI {f : Value → Value → Sem Value} {C : Int → Int → Prop} {g : Int → Int → Int}
    (rule : ∀ (i j : Int) (t u : Tok) (s : Shared) (Q : Value → Shared → Prop) (E : Value → Shared → Prop), C i j → Q (.int (g i j) s.toks) { s with toks := s.toks + 1 } → wpAny (model X.prog X.w) X.A (f (.int i t) (.int j u)) Q E s) :
    OpR X f (rI C fun i j => .int (g i j)) := by
  intro pins s σ H x y v u Q I rx ry h
  obtain ⟨i, j, rfl, rfl, hc, q⟩ := h
  obtain ⟨t, rfl⟩ := rx
  obtain ⟨t', rfl⟩ := ry
  exact rule i j t t' s _ _ hc ⟨.int (g i j), H, I.tok _, ⟨_, rfl⟩, q⟩
theorem opI0 {f : Value → Value → Sem Value} {g : Int → Int → Int}
    (rule : ∀ (i j : Int) (t u : Tok) (s : Shared) (Q : Value → Shared → Prop) (E : Value → Shared → Prop), Q (.int (g i j) s.toks) { s with toks := s.toks + 1 } → wpAny (model X.prog X.w) X.A (f (.int i t) (.int j u)) Q E s) :
    OpR X f (rI0 fun i j => .int (g i j)) := by
  intro pins s σ H x y v u Q I rx ry h
  obtain ⟨i, j, rfl, rfl, q⟩ := h
  obtain ⟨t, rfl⟩ := rx
  obtain ⟨t', rfl⟩ := ry
  exact rule i j t t' s _ _ ⟨.int (g i j), H, I.tok _, ⟨_, rfl⟩, q⟩
def CDiv (i j : Int) : Prop := 0 < j ∧ j < 1073741824
def CPow (i j : Int) : Prop := 0 ≤ j ∧ j ≤ 1000000 ∧ i.natAbs < 2 ^ 64
def CMul (i j : Int) : Prop := (-(2 ^ 64) < i ∧ i < 2 ^ 64) ∨ (-(2 ^ 64) < j ∧ j < 2 ^ 64)
theorem CMul.ok {i j : Int} (h : CMul i j) : IntMulOk i j := by
  rcases h with ⟨h1, h2⟩ | ⟨h1, h2⟩
  · exact .of_left (intBits_le_64 h1 h2)
  · exact .of_right (intBits_le_64 h1 h2)
theorem op_add : OpR X (binaryOp .Add) (rI0 fun i j => .int (i + j)) := opI0 fun _ _ _ _ _ _ _ q => add_int q
/-- // by a positive divisor -/
theorem op_fdiv : OpR X (binaryOp .FloorDiv) (rI CDiv fun i j => .int (i / j)) := opI fun i j _ _ _ _ _ hc q => by
  have h1 : (0 : Int) < j := hc.1
  have h2 : j < 1073741824 := hc.2
  exact floordiv_int (by omega) (by rw [Int.fdiv_eq_ediv_of_nonneg i (by omega)]; exact q) (.inl (PyProof.noPylong_small (by omega)))
/-- % by a positive divisor of any size -/
theorem op_mod : OpR X (binaryOp .Mod) (rI (fun _ j => 0 < j) fun i j => .int (i % j)) := opI fun i j _ _ _ _ _ hc q => by
  have h1 : (0 : Int) < j := hc
  exact mod_int' (by omega) (by rw [Int.fmod_eq_emod_of_nonneg i (by omega)]; exact q)
theorem op_pow : OpR X (binaryOp .Pow) (rI CPow fun i j => .int (i ^ j.toNat)) := opI fun _ _ _ _ _ _ _ hc q => pow_int_small hc.1 hc.2.1 hc.2.2 q
end
/-- the scalars that == tells apart as data does -/
def scal : V → V → Bool
  | .non, .non => true | .non, .int _ => true | .int _, .non => true | .non, .bl _ => true | .bl _, .non => true | .non, .str _ => true | .str _, .non => true
  | .int _, .int _ => true | .bl _, .bl _ => true | .str _, .str _ => true | .byt _, .byt _ => true
  | .int _, .str _ => true | .str _, .int _ => true | .bl _, .str _ => true | .str _, .bl _ => true
  | _, _ => false
def rEq : R2 := fun x y H Q => scal x y = true ∧ Q (.bl (decide (x = y))) H
def rNe : R2 := fun x y H Q => scal x y = true ∧ Q (.bl (!decide (x = y))) H
theorem dec_int {i j : Int} : decide (V.int i = V.int j) = (i == j) := by
  rw [Bool.eq_iff_iff]
  simp
theorem dec_bl {i j : Bool} : decide (V.bl i = V.bl j) = (i == j) := by
  rw [Bool.eq_iff_iff]
  simp
theorem dec_str {i j : Str} : decide (V.str i = V.str j) = (i == j) := by
  rw [Bool.eq_iff_iff]
  simp
theorem dec_byt {i j : Array UInt8} : decide (V.byt i = V.byt j) = (i.toList == j.toList) := by
  rw [Bool.eq_iff_iff]
  cases i
  cases j
  simp
section
variable {X : Cx} {a b c : Expr} {ta tb tc : TE} {pos : Pos}
theorem fin_bl {pins : List (Addr × Obj)} {σ : St} {H : Hp} {s : Shared} {Q : VK} {k k' : Bool} (I : Inv X pins σ H s) (q : Q (.bl k) H) (e : k = k') : EP X pins σ Q (.bool k') s := by
  subst e
  exact ⟨.bl k, H, I, rfl, q⟩
theorem op_eq : OpR X (compareOp .Eq) rEq := by
  intro pins s σ H x y v u Q I rx ry h
  obtain ⟨hs, q⟩ := h
  cases x with
  | non =>
    cases rx
    cases y with
    | non => cases ry; exact PySem.EqNone.eq_none_none (fin_bl I q (by simp))
    | bl j => cases ry; exact PySem.EqNone.eq_none_bool (fin_bl I q (by simp))
    | int j => obtain ⟨t', rfl⟩ := ry; exact PySem.EqNone.eq_none_int (fin_bl I q (by simp))
    | str j => obtain ⟨t', rfl⟩ := ry; exact PySem.EqNone.eq_none_str (fin_bl I q (by simp))
    | _ => exact absurd (show false = true from hs) Bool.false_ne_true
  | bl i =>
    cases rx
    cases y with
    | non => cases ry; exact PySem.EqNone.eq_bool_none (fin_bl I q (by simp))
    | bl j => cases ry; exact eq_bool (fin_bl I q dec_bl)
    | str j => obtain ⟨t', rfl⟩ := ry; exact PySem.EqMixed.eq_bool_str (fin_bl I q (by simp))
    | _ => exact absurd (show false = true from hs) Bool.false_ne_true
  | int i =>
    obtain ⟨t, rfl⟩ := rx
    cases y with
    | non => cases ry; exact PySem.EqNone.eq_int_none (fin_bl I q (by simp))
    | int j => obtain ⟨t', rfl⟩ := ry; exact eq_int (fin_bl I q dec_int)
    | str j => obtain ⟨t', rfl⟩ := ry; exact PySem.EqMixed.eq_int_str (fin_bl I q (by simp))
    | _ => exact absurd (show false = true from hs) Bool.false_ne_true
  | str i =>
    obtain ⟨t, rfl⟩ := rx
    cases y with
    | non => cases ry; exact PySem.EqNone.eq_str_none (fin_bl I q (by simp))
    | bl j => cases ry; exact PySem.EqMixed.eq_str_bool (fin_bl I q (by simp))
    | int j => obtain ⟨t', rfl⟩ := ry; exact PySem.EqMixed.eq_str_int (fin_bl I q (by simp))
    | str j => obtain ⟨t', rfl⟩ := ry; exact eq_str (fin_bl I q dec_str)
    | _ => exact absurd (show false = true from hs) Bool.false_ne_true
  | byt i =>
    obtain ⟨t, rfl⟩ := rx
    cases y with
    | byt j => obtain ⟨t', rfl⟩ := ry; exact PySem.W.eq_bytes (fin_bl I q dec_byt)
    | _ => exact absurd (show false = true from hs) Bool.false_ne_true
  | _ => cases y <;> exact absurd (show false = true from hs) Bool.false_ne_true
theorem op_ne : OpR X (compareOp .NotEq) rNe := by
  intro pins s σ H x y v u Q I rx ry h
  obtain ⟨hs, q⟩ := h
  cases x with
  | non =>
    cases rx
    cases y with
    | non => cases ry; exact PySem.EqNone.ne_none_none (fin_bl I q (by simp))
    | bl j => cases ry; exact PySem.EqNone.ne_none_bool (fin_bl I q (by simp))
    | int j => obtain ⟨t', rfl⟩ := ry; exact PySem.EqNone.ne_none_int (fin_bl I q (by simp))
    | str j => obtain ⟨t', rfl⟩ := ry; exact PySem.EqNone.ne_none_str (fin_bl I q (by simp))
    | _ => exact absurd (show false = true from hs) Bool.false_ne_true
  | bl i =>
    cases rx
    cases y with
    | non => cases ry; exact PySem.EqNone.ne_bool_none (fin_bl I q (by simp))
    | bl j => cases ry; exact ne_bool (fin_bl I q (congrArg not dec_bl))
    | str j => obtain ⟨t', rfl⟩ := ry; exact PySem.EqMixed.ne_bool_str (fin_bl I q (by simp))
    | _ => exact absurd (show false = true from hs) Bool.false_ne_true
  | int i =>
    obtain ⟨t, rfl⟩ := rx
    cases y with
    | non => cases ry; exact PySem.EqNone.ne_int_none (fin_bl I q (by simp))
    | int j => obtain ⟨t', rfl⟩ := ry; exact ne_int (fin_bl I q (congrArg not dec_int))
    | str j => obtain ⟨t', rfl⟩ := ry; exact PySem.EqMixed.ne_int_str (fin_bl I q (by simp))
    | _ => exact absurd (show false = true from hs) Bool.false_ne_true
  | str i =>
    obtain ⟨t, rfl⟩ := rx
    cases y with
    | non => cases ry; exact PySem.EqNone.ne_str_none (fin_bl I q (by simp))
    | bl j => cases ry; exact PySem.EqMixed.ne_str_bool (fin_bl I q (by simp))
    | int j => obtain ⟨t', rfl⟩ := ry; exact PySem.EqMixed.ne_str_int (fin_bl I q (by simp))
    | str j => obtain ⟨t', rfl⟩ := ry; exact ne_str (fin_bl I q (congrArg not dec_str))
    | _ => exact absurd (show false = true from hs) Bool.false_ne_true
  | byt i =>
    obtain ⟨t, rfl⟩ := rx
    cases y with
    | byt j => obtain ⟨t', rfl⟩ := ry; exact PySem.W.ne_bytes (fin_bl I q (congrArg not dec_byt))
    | _ => exact absurd (show false = true from hs) Bool.false_ne_true
  | _ => cases y <;> exact absurd (show false = true from hs) Bool.false_ne_true
/-- two rules for one operation: by cases -/
theorem OpR.or {f : Value → Value → Sem Value} {r r' : R2} (h : OpR X f r) (h' : OpR X f r') : OpR X f (fun x y H Q => r x y H Q ∨ r' x y H Q) := by
  intro pins s σ H x y v u Q I rx ry q
  rcases q with q | q
  · exact h pins s σ H x y v u Q I rx ry q
  · exact h' pins s σ H x y v u Q I rx ry q
theorem nomark (b : Expr) {op : CmpOp} (h : op ≠ .In := by decide) (h2 : op ≠ .NotIn := by decide) : behindInMarks op b = false := by
  have e1 : (op == CmpOp.In) = false := by cases op <;> first | rfl | exact absurd rfl h
  have e2 : (op == CmpOp.NotIn) = false := by cases op <;> first | rfl | exact absurd rfl h2
  cases b <;> simp [behindInMarks, e1, e2]
/-- a comparison as a value; hm: nomark b, or (for in, not in) by with_unfolding_all rfl -/
theorem pe_cmpR {op : CmpOp} {r : R2} (ho : OpR X (compareOp op) r) (ha : PE X a ta) (hb : PE X b tb) (hm : behindInMarks op b = false) : PE X (.Compare a [op] [b] pos) (tOp r ta tb) := by
  intro pins s σ H Q I h
  exact wpAny_Compare1 (binT ha hb I h fun v u s2 x y H2 I2 rx ry q => ho pins s2 σ H2 x y v u Q I2 rx ry q) hm
/-- a reading of a value as a test -/
def tTest (t : TE) : TT := fun σ H Q => t σ H fun x H' => ∃ k, x = .bl k ∧ Q k H'
theorem pt_cmpR {op : CmpOp} {r : R2} (ho : OpR X (compareOp op) r) (ha : PE X a ta) (hb : PE X b tb) (hm : behindInMarks op b = false) : PT X (.Compare a [op] [b] pos) (tTest (tOp r ta tb)) := by
  intro pins s σ H Q I h
  refine wpAny_isTrue_Compare1 (thn (ha pins s σ H _ I h) fun v s1 ⟨x, H1, I1, r1, q1⟩ => thn (hb pins s1 σ H1 _ I1 q1) fun u s2 ⟨y, H2, I2, r2, q2⟩ =>
    thn (ho pins s2 σ H2 x y v u _ I2 r1 r2 q2) fun c s3 ⟨z, H3, I3, r3, k, e, q3⟩ => ?_) hm
  subst e
  cases r3
  exact wpAny_truthy_bool ⟨H3, I3, q3⟩
theorem line63 : (sizeLine : Nat) < 2 ^ 63 := by rw [sizeLine_eq]; decide
theorem vals1 {x : V} {us : List Value} (r : Vals [x] us) : ∃ u, us = [u] ∧ RelV x u := by
  cases r with
  | cons r1 r2 => cases r2; exact ⟨_, rfl, r1⟩
theorem vals2 {x y : V} {us : List Value} (r : Vals [x, y] us) : ∃ u w', us = [u, w'] ∧ RelV x u ∧ RelV y w' := by
  cases r with
  | cons r1 r2 =>
    cases r2 with
    | cons r3 r4 => cases r4; exact ⟨_, _, rfl, r1, r3⟩
end
end L2
namespace L2
open PySem PySem.Spec PyProof.Rows
structure ObjM (h : Heap) (x dx C : Addr) (mA : Str → Option Value) : Prop where
  obj : h.get? x = some (PySem.W.instObj C dx)
  ns : h.Ns1 dx mA
  ne : dx ≠ x
theorem lookIn_ns {h : Heap} {dx : Addr} {mA : Str → Option Value} (n : h.Ns1 dx mA) : ∃ od, h.get? dx = some od ∧ ∀ name, PySem.W.lookIn name od = some (mA name) := by
  obtain ⟨o, es, ep, ho, hd, hk, _, hm⟩ := n
  refine ⟨o, ho, fun name => ?_⟩
  have e := hm name
  unfold nsFind findBy at e
  rw [← Array.find?_toList] at e
  unfold PySem.W.lookIn
  rw [hd]
  dsimp only
  split
  · rename_i y q
    rw [q] at e
    exact congrArg some e
  · rename_i q
    rw [q] at e
    have a : es.toList.any (·.refKey) = false := by
      rw [List.any_eq_false]
      intro y hy
      obtain ⟨z, t, hkey⟩ := hk y (Array.mem_toList_iff.mp hy)
      simp [DictEntry.refKey, hkey]
    have a' : ¬ es.toList.any (·.refKey) = true := by rw [a]; exact Bool.false_ne_true
    rw [if_neg a']
    exact congrArg some e
theorem ObjM.look {h : Heap} {x dx C : Addr} {mA : Str → Option Value} (I : ObjM h x dx C mA) : ∃ od, PySem.W.InstAt h x (PySem.W.instObj C dx) C (some od) ∧ ∀ name, PySem.W.lookIn name od = some (mA name) :=
  let ⟨od, ho, hl⟩ := lookIn_ns I.ns
  ⟨od, ⟨I.obj, rfl, rfl, ho⟩, hl⟩
section
variable {prog : Program} {w : World} {A : Around} {E : Value → Shared → Prop} {s : Shared} {K : PySem.W.Frag} {x dx C f : Addr} {mA : Str → Option Value} {name : Str} {v : Value}
end
def putF (f : Str) (v : V) : List (Str × V) → List (Str × V)
  | [] => [(f, v)]
  | (g, x) :: r => if g = f then (g, v) :: r else (g, x) :: putF f v r
theorem lookup_putF (f g : Str) (v : V) : ∀ fs : List (Str × V), (putF f v fs).lookup g = if g = f then some v else fs.lookup g
  | [] => by
    show List.lookup g [(f, v)] = _
    by_cases h : g = f
    · have hb : (g == f) = true := beq_iff_eq.mpr h
      simp only [List.lookup, hb, if_pos h]
    · have hb : (g == f) = false := beq_eq_false_iff_ne.mpr h
      simp only [List.lookup, hb, if_neg h]
  | (k, x) :: r => by
    have ih := lookup_putF f g v r
    rw [show putF f v ((k, x) :: r) = (if k = f then (k, v) :: r else (k, x) :: putF f v r) from rfl]
    by_cases hk : k = f
    · rw [if_pos hk]
      by_cases h : g = k
      · have hb : (g == k) = true := beq_iff_eq.mpr h
        simp only [List.lookup, hb, if_pos (h.trans hk)]
      · have hb : (g == k) = false := beq_eq_false_iff_ne.mpr h
        simp only [List.lookup, hb, if_neg (fun e : g = f => h (e.trans hk.symm))]
    · rw [if_neg hk]
      by_cases h : g = k
      · have hb : (g == k) = true := beq_iff_eq.mpr h
        simp only [List.lookup, hb, if_neg (fun e : g = f => hk (h.symm.trans e))]
      · have hb : (g == k) = false := beq_eq_false_iff_ne.mpr h
        simp only [List.lookup, hb]
        exact ih
theorem keys_putF (f : Str) (v : V) : ∀ fs : List (Str × V), f ∈ (putF f v fs).map (·.1) ∧ ∀ g, g ∈ fs.map (·.1) → g ∈ (putF f v fs).map (·.1)
  | [] => ⟨by simp [putF], fun g h => by simp at h⟩
  | (k, x) :: r => by
    obtain ⟨i1, i2⟩ := keys_putF f v r
    rw [show putF f v ((k, x) :: r) = (if k = f then (k, v) :: r else (k, x) :: putF f v r) from rfl]
    by_cases hk : k = f
    · rw [if_pos hk]
      subst hk
      exact ⟨by simp, fun g h => by simpa using h⟩
    · rw [if_neg hk]
      refine ⟨?_, fun g h => ?_⟩
      · rw [List.map_cons]
        exact List.mem_cons_of_mem _ i1
      · rw [List.map_cons] at h ⊢
        rcases List.mem_cons.mp h with e | e
        · exact List.mem_cons.mpr (.inl e)
        · exact List.mem_cons_of_mem _ (i2 g e)
theorem length_putF (f : Str) (v : V) : ∀ fs : List (Str × V), (putF f v fs).length ≤ fs.length + 1
  | [] => by simp [putF]
  | (k, x) :: r => by
    have ih := length_putF f v r
    rw [show putF f v ((k, x) :: r) = (if k = f then (k, v) :: r else (k, x) :: putF f v r) from rfl]
    by_cases hk : k = f
    · rw [if_pos hk, List.length_cons, List.length_cons]; omega
    · rw [if_neg hk, List.length_cons, List.length_cons]; omega
theorem RelO.some_of {v : V} {o : Option Value} (r : RelO (some v) o) : ∃ u, o = some u ∧ RelV v u := by
  cases o with
  | none => exact (show False from r).elim
  | some u => exact ⟨u, rfl, r⟩
theorem handed_of {v : V} {u : Value} (r : RelV v u) : PySem.W.handedIn u = true := by
  cases v with
  | non => cases (show u = Value.none from r); rfl
  | bl b => cases (show u = Value.bool b from r); rfl
  | int i => obtain ⟨t, e⟩ := (show ∃ t, u = Value.int i t from r); cases e; rfl
  | str x => obtain ⟨t, e⟩ := (show ∃ t, u = Value.str x t from r); cases e; rfl
  | byt b => obtain ⟨t, e⟩ := (show ∃ t, u = Value.bytes b t from r); cases e; rfl
  | flt b => obtain ⟨t, e⟩ := (show ∃ t, u = Value.float b t from r); cases e; rfl
  | ref a => cases (show u = Value.ref a from r); rfl
  | ty n => cases (show u = Value.type n from r); rfl
section
variable {P : Program} {w : World} {H H' : Hp} {h h' : Heap} {a C dx : Addr} {fs fs' : List (Str × V)}
theorem ins_get (hok : HOk P w H h) (e : H a = some (.ins C dx fs)) : ∃ mA, ObjM h a dx C mA ∧ (∀ f, RelO (fs.lookup f) (mA f)) ∧ PySem.Within mA (fs.map (·.1)) ∧ fs.length ≤ 1000 ∧ H dx = some (.own a) := by
  obtain ⟨d, z, ne, ob, mA, n, r, q⟩ := (show ObjOk P w H h a (.ins C dx fs) from hok a _ e)
  exact ⟨mA, ⟨ob, n, ne⟩, r, q, z, d⟩
end
structure Cls (K : PySem.W.Frag) (C : Addr) : Prop where
  pg : PySem.W.plainGet K C Str.empty = true
  hd : PySem.W.hasDictIn K C = true
  po : PySem.W.plainOver K C = true
  sa : PySem.W.findIn K (.ref C) "__setattr__" = some (some (.builtin "object.__setattr__"))
theorem Cls.get {K : PySem.W.Frag} {C : Addr} (c : Cls K C) (f : Str) : PySem.W.plainGet K C f = true := c.pg
/-- no class of it has the name -/
def NoAttr (K : PySem.W.Frag) (C : Addr) (f : Str) : Prop := PySem.W.findIn K (.ref C) f = some none
theorem NoAttr.taker {K : PySem.W.Frag} {C : Addr} {f : Str} (n : NoAttr K C f) : PySem.W.takerIn K C f = some none := by
  unfold PySem.W.takerIn
  rw [show PySem.W.findIn K (.ref C) f = some none from n]
  rfl
/-- a method: a plain def of the class or of one above it -/
structure Meth (K : PySem.W.Frag) (C : Addr) (m : Str) (f : Addr) : Prop where
  at_ : PySem.W.findIn K (.ref C) m = some (some (.ref f))
  fn : PySem.W.isFn K (.ref f) = true
  kp : PySem.W.keepIn K (.ref f) = true
section
variable {X : Cx} {pins : List (Addr × Obj)} {σ : St} {H : Hp} {s : Shared} {a C dx : Addr} {fs : List (Str × V)} {f : Str} {v : V} {A : Around} {E : Value → Shared → Prop}
/-- a new instance, tracked, without attributes -/
theorem Inv.made (I : Inv X pins σ H s) : Inv X pins σ (upd (upd H s.heap.objs.size (.own (s.heap.objs.size + 1))) (s.heap.objs.size + 1) (.ins C s.heap.objs.size []))
    { s with heap := (s.heap.push PySem.W.emptyDict).push (PySem.W.instObj C s.heap.objs.size) } := by
  have e1 : (s.heap.push PySem.W.emptyDict).get? s.heap.objs.size = some PySem.W.emptyDict := Heap.get?_push_size s.heap rfl
  have e2 : ((s.heap.push PySem.W.emptyDict).push (PySem.W.instObj C s.heap.objs.size)).get? (s.heap.objs.size + 1) = some (PySem.W.instObj C s.heap.objs.size) := by
    have := Heap.get?_push_size (s.heap.push PySem.W.emptyDict) (o := PySem.W.instObj C s.heap.objs.size) rfl
    rwa [Heap.size_push] at this
  have e3 : (s.heap.push PySem.W.emptyDict).Ns s.heap.objs.size (fun _ => none) := ⟨PySem.W.emptyDict, #[], _, e1, rfl, (fun e he => absurd he (by simp)), fun _ => rfl⟩
  have I1 := I.laid (a := s.heap.objs.size) (o := .own (s.heap.objs.size + 1)) (h' := s.heap.push PySem.W.emptyDict) (t' := s.toks) (fun b u q => Heap.get?_push_of_some _ q) (Nat.le_refl _) ⟨_, e1⟩
  refine I1.laid (a := s.heap.objs.size + 1) (o := .ins C s.heap.objs.size []) (t' := s.toks) (fun b u q => Heap.get?_push_of_some _ q) (Nat.le_of_eq (Heap.size_push _ _)) ?_
  have ne : s.heap.objs.size ≠ s.heap.objs.size + 1 := Nat.ne_of_lt (Nat.lt_succ_self _)
  refine ⟨by rw [upd_ne ne, upd_same], Nat.zero_le _, ne, e2, fun _ => none, (Heap.Ns1.of_empty e3).at fun o q => Heap.get?_push_of_some _ q, fun _ => True.intro, fun y hy => absurd rfl hy⟩
/-- e.f where nothing but the object is asked: through attributeBase (super) and the last hold -/
theorem attr_of {prog : Program} {w : World} {env : Env} {e : Expr} {f : Str} {pos : Pos} {s : Shared} {Q : Value → Shared → Prop} (hb : attributeBase e f env (eval e env) = eval e env)
    (h : wpAny (model prog w) A (eval e env) (fun o s₁ => wpAny (model prog w) A (getAttr o f true) Q E s₁) E s) : wpAny (model prog w) A (eval (.Attribute e f pos) env) Q E s :=
  Attribute_any_ h (by rw [arm_eval_Attribute, hb])
end
section
variable {X : Cx} {o e value : Expr} {f : Str} {pos pos' tpos : Pos} {ta tv : TE}
end
section
variable {X : Cx} {pins : List (Addr × Obj)} {σ : St} {H : Hp} {s : Shared} {A : Around} {E : Value → Shared → Prop} {Q : Value → Shared → Prop} {c : Value} {b : Bool}
/-- the type of a value, as the fragment's deciders take it; for an instance its class -/
inductive TyOf (K : PySem.W.Frag) (H : Hp) : V → Value → Prop where
  | non : TyOf K H .non (.type "NoneType")
  | bl (x : Bool) : TyOf K H (.bl x) (.type "bool")
  | int (i : Int) : TyOf K H (.int i) (.type "int")
  | str (x : Str) : TyOf K H (.str x) (.type "str")
  | flt (x : UInt64) : TyOf K H (.flt x) (.type "float")
  | lst {a : Addr} {xs : List V} (e : H a = some (.lst xs)) : TyOf K H (.ref a) (.type "list")
  | frz {a : Addr} {o : Obj} {xs : List V} (e : H a = some (.frz o (.lst xs))) : TyOf K H (.ref a) (.type "list")
  | tup {a : Addr} {xs : List V} (e : H a = some (.tup xs)) : TyOf K H (.ref a) (.type "tuple")
  | dK {a : Addr} {kvs : List (Key × V)} (e : H a = some (.dK kvs)) : TyOf K H (.ref a) (.type "dict")
  | dT {a : Addr} {kvs : List (List Key × V)} (e : H a = some (.dT kvs)) : TyOf K H (.ref a) (.type "dict")
  | ins {a C dx : Addr} {fs : List (Str × V)} (e : H a = some (.ins C dx fs)) (cl : Cls K C) (ha : PySem.W.findIn K (.ref C) "__class__" = some (some (.builtin "object.__class__")))
      (hn : PySem.W.specialIn K (.builtin "object.__class__") "__get__" = some (some (.builtin "getset_descriptor.__get__"))) (htk : PySem.W.takesIn K (.builtin "object.__class__") = some true)
      (hm : PySem.W.mroIn K C (.type "object") = some true) : TyOf K H (.ref a) (.ref C)
/-- isinstance(x, c) for one class c, a built-in or an own one: kitOne's answer -/
theorem isinst_ok {x : V} {u t : Value} (I : Inv X pins σ H s) (rx : RelV x u) (ty : TyOf X.K H x t) (e : PySem.W.kitOne X.K t c = some b) (h : ∀ tk, Q (.bool b) { s with toks := tk }) :
    wpAny (model X.prog X.w) A (call (.builtin "isinstance") [u, c]) Q E s := by
  cases ty with
  | non => cases (show u = Value.none from rx); exact PySem.W.kia_one PySem.W.kitx_none I.kIn True.intro e (fun z => nomatch z) h
  | bl y => cases (show u = Value.bool y from rx); exact PySem.W.kia_one PySem.W.kitx_bool I.kIn True.intro e (fun z => nomatch z) h
  | int i => obtain ⟨t, q⟩ := (show ∃ t, u = Value.int i t from rx); cases q; exact PySem.W.kia_one PySem.W.kitx_int I.kIn True.intro e (fun z => nomatch z) h
  | str y => obtain ⟨t, q⟩ := (show ∃ t, u = Value.str y t from rx); cases q; exact PySem.W.kia_one PySem.W.kitx_str I.kIn True.intro e (fun z => nomatch z) h
  | flt y => obtain ⟨t, q⟩ := (show ∃ t, u = Value.float y t from rx); cases q; exact PySem.W.kia_one PySem.W.kitx_float I.kIn True.intro e (fun z => nomatch z) h
  | @lst a xs ea =>
    cases (show u = Value.ref a from rx)
    obtain ⟨_, _, n, _, h1⟩ := (show ObjOk X.prog X.w H s.heap a (.lst xs) from I.hok a _ ea)
    exact PySem.W.kia_one PySem.W.kitx_list I.kIn ⟨_, h1, rfl⟩ e (fun z => nomatch z) h
  | @frz a ob xs ea =>
    cases (show u = Value.ref a from rx)
    obtain ⟨_, _, _, n, _, h1⟩ := (show ObjOk X.prog X.w H s.heap a (.frz ob (.lst xs)) from I.hok a _ ea)
    exact PySem.W.kia_one PySem.W.kitx_list I.kIn ⟨_, h1, rfl⟩ e (fun z => nomatch z) h
  | @tup a xs ea =>
    cases (show u = Value.ref a from rx)
    obtain ⟨_, _, _, p⟩ := (show ObjOk X.prog X.w H s.heap a (.tup xs) from I.hok a _ ea)
    obtain ⟨o, h1, h2, _⟩ := p
    exact PySem.W.kia_one PySem.W.kitx_tuple I.kIn ⟨o, h1, h2⟩ e (fun z => nomatch z) h
  | @dK a kvs ea =>
    cases (show u = Value.ref a from rx)
    obtain ⟨_, _, vs, _, p⟩ := (show ObjOk X.prog X.w H s.heap a (.dK kvs) from I.hok a _ ea)
    obtain ⟨o, es, ep, h1, h2, _⟩ := p
    exact PySem.W.kia_one PySem.W.kitx_dict I.kIn ⟨o, h1, h2.1⟩ e (fun z => nomatch z) h
  | @dT a kvs ea =>
    cases (show u = Value.ref a from rx)
    obtain ⟨_, _, xs, _, o, es, ep, h1, h2, _⟩ := (show ObjOk X.prog X.w H s.heap a (.dT kvs) from I.hok a _ ea)
    exact PySem.W.kia_one PySem.W.kitx_dict I.kIn ⟨o, h1, h2.1⟩ e (fun z => nomatch z) h
  | @ins a C dx fs ea cl ha hn htk hm =>
    cases (show u = Value.ref a from rx)
    obtain ⟨mA, O, _⟩ := ins_get I.hok ea
    obtain ⟨od, J, _⟩ := O.look
    exact PySem.W.kia_one (PySem.W.kitx_own (cl.get _) cl.hd ha hn htk hm) I.kIn J e (fun z => nomatch z) h
end
end L2
namespace L2
open PySem PySem.Spec PyProof.Rows
structure Room (k : Nat) (A : Around) : Prop where
  hd : A.handled = none
  dp : A.depth + 3 * k + 5 < recursionLimit
  un : A.units + 16 * k + 200 < cLine
  gd : A.guards = some []
theorem Room.mono {j k : Nat} {A : Around} (r : Room k A) (h : j ≤ k) : Room j A := ⟨r.hd, by have := r.dp; omega, by have := r.un; omega, r.gd⟩
theorem Room.deeper {k : Nat} {A : Around} (r : Room (k + 1) A) (env : Env) : Room k (A.deeper env) :=
  ⟨r.hd, by have := r.dp; show A.depth + 1 + 3 * k + 5 < _; omega, by have := r.un; show A.units + 3 + 16 * k + 200 < _; omega, r.gd⟩
theorem Room.in1 {k : Nat} {A : Around} (r : Room (k + 1) A) : Room k A.in1 :=
  ⟨r.hd, by have := r.dp; show A.depth + 3 * k + 5 < _; omega, by have := r.un; show A.units + 1 + 16 * k + 200 < _; omega, r.gd⟩
theorem make_depth {A : Around} {C : Addr} {us : List Value} {kw : List (Str × Value)} : (A.under (.builtin "type.__call__" ⟨.ref C :: us, kw⟩)).depth = A.depth + 1 := by
  first | rfl | simp [Around.under, Code.weight, Code.isCreation, Code.isGuard, Code.isCaller, Code.frames, Code.isFrame, guardIds]
theorem make_units {A : Around} {C : Addr} {us : List Value} {kw : List (Str × Value)} : (A.under (.builtin "type.__call__" ⟨.ref C :: us, kw⟩)).units = A.units + 1 := by
  first | rfl | simp [Around.under, Code.cUnits, Code.frames, Code.isFrame]
theorem Room.make {k : Nat} {A : Around} (r : Room (k + 1) A) (C : Addr) (us : List Value) (kw : List (Str × Value)) : Room k (A.under (.builtin "type.__call__" ⟨.ref C :: us, kw⟩)) :=
  ⟨r.hd, by have := r.dp; rw [make_depth]; omega, by have := r.un; rw [make_units]; omega, by first | exact r.gd | (simp [Around.under, Code.guards, Code.isGuard, guardIds, pushGuards]; exact r.gd)⟩
theorem Room.depth {k : Nat} {A : Around} (r : Room k A) : A.depth < recursionLimit := by have := r.dp; omega
theorem Room.units {k : Nat} {A : Around} (r : Room k A) : A.units + 64 < cLine := by have := r.un; omega
def tNil : TA := fun _ H Q => Q [] H
def tCons (ta : TE) (tr : TA) : TA := fun σ H Q => ta σ H fun x H1 => tr σ H1 fun xs H2 => Q (x :: xs) H2
section
variable {X : Cx} {e : Expr} {es : List Expr} {te : TE} {t : TA} {pos : Pos}
theorem pa_nil : PA X [] tNil := fun _ _ _ _ H Q I h => Calls.spliced_nil ⟨[], H, I, .nil, h⟩
theorem pa_cons (ha : PE X e te) (hr : PA X es t) (hs : starEach (e :: es) X.env = (false, eval e X.env) :: starEach es X.env := by rfl) : PA X (e :: es) (tCons te t) := by
  intro pos pins s σ H Q I h
  rw [hs]
  show wpAny _ _ (spliced ((false, eval e X.env) :: backTo pos (starEach es X.env))) _ _ s
  refine Calls.spliced_cons (thn (ha pins s σ H _ I h) fun u s1 ⟨x, H1, I1, r1, q1⟩ => ?_)
  exact thn (hr pos pins s1 σ H1 _ I1 q1) fun us s2 ⟨xs, H2, I2, r2, q2⟩ => ⟨x :: xs, H2, I2, .cons r1 r2, q2⟩
end
/-- a def's promise: the bound arguments in the parameters' order, the heap, the wanted end, the wanted exception -/
abbrev Sp := List V → Hp → VK → XK → Prop
/-- how an exception lies behind a call (file 08 gives it): the callers' frames, abstract heap and state ahead of the call, the wish, the exception, the state -/
abbrev CXT := List Env → Hp → Shared → XK → Value → Shared → Prop
/-- the state at a call -/
structure Env0 (P : Program) (w : World) (K : PySem.W.Frag) (mg : Str → Option Value) (base : Heap) (A : Around) (outer : List Env) (s : Shared) (H : Hp) : Prop where
  frames : A.frames = some outer
  mod : Mod K mg base
  bs : ∀ b o, base.get? b = some o → s.heap.get? b = some o ∧ H b = none
  bsz : base.objs.size ≤ s.heap.objs.size
  funs : s.heap.FunFrames base outer
  frf : ∀ b ∈ frs outer, H b = none
  hok : HOk P w H s.heap
  bare : AllBare s.gens
/-- a call's end -/
def CE (outer : List Env) (P : Program) (w : World) (H : Hp) (s : Shared) (Q : VK) (u : Value) (s' : Shared) : Prop :=
  ∃ v H', s'.os = s.os ∧ AllBare s'.gens ∧ Un (frs outer) [] H H' s.heap s'.heap ∧ HOk P w H' s'.heap ∧ RelV v u ∧ Q v H'
def CR (CX : CXT) (outer : List Env) (P : Program) (w : World) (H : Hp) (s : Shared) (Q : VK) (E : XK) (r : Result) (s' : Shared) : Prop :=
  match r with
  | .ok (.ret u) => CE outer P w H s Q u s'
  | .ok _ => False
  | .error e => CX outer H s E e s'
structure FnOk (P : Program) (w : World) (K : PySem.W.Frag) (mg : Str → Option Value) (base : Heap) (CX : CXT) (k : Nat) (f : Addr) (fd : FuncData) (ps : List Str) (sp : Sp) : Prop where
  len : ∀ vs H Q E, sp vs H Q E → vs.length = ps.length
  run : ∀ (A : Around) (outer : List Env) (s : Shared) (H : Hp) (args : Args) (us : List Value) (vs : List V) (Q : VK) (E : XK), Room k A → Env0 P w K mg base A outer s H → BindsTo s fd args (ps.zip us) → Vals vs us → sp vs H Q E →
    codeAny (model P w) A (.call (.ref f) args) (CR CX outer P w H s Q E) s
theorem FnOk.mono {P : Program} {w : World} {K : PySem.W.Frag} {mg : Str → Option Value} {base : Heap} {CX : CXT} {j k : Nat} {f : Addr} {fd : FuncData} {ps : List Str} {sp : Sp} (F : FnOk P w K mg base CX j f fd ps sp) (h : j ≤ k) :
    FnOk P w K mg base CX k f fd ps sp := ⟨F.len, fun A outer s H args us vs Q E hr => F.run A outer s H args us vs Q E (hr.mono h)⟩
theorem Env0.make {P : Program} {w : World} {K : PySem.W.Frag} {mg : Str → Option Value} {base : Heap} {A : Around} {outer : List Env} {s : Shared} {H : Hp} (e : Env0 P w K mg base A outer s H) (C : Addr) (us : List Value) (kw : List (Str × Value)) :
    Env0 P w K mg base (A.under (.builtin "type.__call__" ⟨.ref C :: us, kw⟩)) outer s H := ⟨by first | exact e.frames | (simpa [Around.under, Code.envs, Code.isFrame, pushEnvs] using e.frames), e.mod, e.bs, e.bsz, e.funs, e.frf, e.hok, e.bare⟩
theorem Env0.in1 {P : Program} {w : World} {K : PySem.W.Frag} {mg : Str → Option Value} {base : Heap} {A : Around} {outer : List Env} {s : Shared} {H : Hp} (e : Env0 P w K mg base A outer s H) :
    Env0 P w K mg base A.in1 outer s H := ⟨e.frames, e.mod, e.bs, e.bsz, e.funs, e.frf, e.hok, e.bare⟩
section
variable {X : Cx} {pins : List (Addr × Obj)} {σ : St} {H : Hp} {s s' : Shared}
/-- from a body: what a callee wants -/
theorem Inv.env0 (I : Inv X pins σ H s) : Env0 X.prog X.w X.K X.mg X.base X.A X.stack s H :=
  ⟨I.ok.frames, I.ok.mod, I.bs, Nat.le_trans I.ok.bsz I.sz, I.stack, I.stkFree, I.hok, I.bare⟩
/-- behind a call -/
theorem Inv.after {Q : VK} {u : Value} (I : Inv X pins σ H s) (h : CE X.stack X.prog X.w H s Q u s') : EP X pins σ Q u s' := by
  obtain ⟨v, H', os, bare, un, hok, r, q⟩ := h
  obtain ⟨hh, g, d, t, os'⟩ := s'
  obtain rfl : os' = s.os := os
  exact ⟨v, H', I.call (h' := hh) (g' := g) (d' := d) (t' := t) (ch := []) un hok bare (fun b z => absurd z (by simp)), r, q⟩
end
/-- f(..): the written arguments, then the defaults dvs; E: what is wanted of an exception -/
def tCall (sp : Sp) (dvs : List V) (E : XK) (t : TA) : TE := fun σ H Q => t σ H fun vs H1 => sp (vs ++ dvs) H1 Q E
/-- how the parameters are bound: us the positional arguments, kw the keywords' values by name, ds the defaults that fill up -/
def Binds (K : PySem.W.Frag) (fd : FuncData) (ps : List Str) (ds : List Value) : Prop :=
  ∀ (s : Shared) (us : List Value), K.In s.heap → (us ++ ds).length = ps.length → BindsTo s fd ⟨us, []⟩ (ps.zip (us ++ ds))
/-- every parameter is given -/
theorem Binds.all {K : PySem.W.Frag} {fd : FuncData} {ps : List Str} (h : ∀ us : List Value, us.length = ps.length → bindArgs fd ⟨us, []⟩ = pure (ps.zip us)) : Binds K fd ps [] := fun s us _ hl => by
  rw [List.append_nil] at hl ⊢
  exact .of_eq (h us hl)
/-- an exception of a callee reaches what this body wants of exceptions -/
def Passes (CX : CXT) (X : Cx) (E : XK) : Prop := ∀ (pins : List (Addr × Obj)) (σ : St) (H : Hp) (s : Shared) (e : Value) (s' : Shared), Inv X pins σ H s → CX X.stack H s E e s' → X.xe e s'
section
variable {X : Cx} {CX : CXT} {k : Nat} {f C : Addr} {fd : FuncData} {ps : List Str} {sp : Sp} {dvs : List V} {ds : List Value} {E : XK} {x m : Str} {p pos apos : Pos} {e o : Expr} {es : List Expr} {ta : TE} {t : TA}
/-- the callee runs -/
theorem run_fn {pins : List (Addr × Obj)} {σ : St} {H : Hp} {s : Shared} {Q : VK} {us : List Value} {vs : List V} (F : FnOk X.prog X.w X.K X.mg X.base CX k f fd ps sp) (hr : Room k X.A) (hb : Binds X.K fd ps ds) (hd : Vals dvs ds) (hx : Passes CX X E)
    (I : Inv X pins σ H s) (r : Vals vs us) (h : sp (vs ++ dvs) H Q E) : wpAny (model X.prog X.w) X.A (call (.ref f) us) (EP X pins σ Q) X.xe s := by
  have r2 : Vals (vs ++ dvs) (us ++ ds) := r.append hd
  have hl : (us ++ ds).length = ps.length := by rw [← r2.length]; exact F.len _ _ _ _ h
  refine wpAny_call (codeAny_mono (F.run X.A X.stack s H ⟨us, []⟩ (us ++ ds) (vs ++ dvs) Q E hr I.env0 (hb s us I.kIn hl) r2 h) fun r s' hq => ?_)
  cases r with
  | error e => exact hx pins σ H s e s' I hq
  | ok fl =>
    cases fl with
    | ret u => exact I.after hq
    | next => exact False.elim hq
    | brk => exact False.elim hq
    | cont => exact False.elim hq
theorem pe_call (F : FnOk X.prog X.w X.K X.mg X.base CX k f fd ps sp) (hr : Room k X.A) (hg : Gl X x) (hm : X.mg x = some (.ref f)) (hk : PySem.W.keepIn X.K (.ref f) = true) (hb : Binds X.K fd ps ds) (hd : Vals dvs ds) (hx : Passes CX X E)
    (ha : PA X (e :: es) t) (hdb : (x == ("__debug__" : Str)) = false := by decide) (he : starEach (e :: es) X.env = (false, eval e X.env) :: starEach es X.env := by rfl) (hpl : (backTo pos (starEach es X.env)).any (·.1) = false := by rfl) :
    PE X (.Call (.Name x p) (e :: es) [] pos) (tCall sp dvs E t) := by
  intro pins s σ H Q I h
  refine wpAny_Call_Name_kw (ld_glob I hg hm ?_ hdb)
  refine PySem.W.callWith_K (h₀ := X.base) I.ok.mod.kin hk (thn (ha pos pins s σ H _ I h) fun us s1 ⟨vs, H1, I1, r, q⟩ => ⟨I1.kIn, ?_⟩) he hpl
  exact run_fn F hr hb hd hx I1 r q
end
section
variable {X : Cx} {CX : CXT} {k : Nat} {f C : Addr} {fd : FuncData} {ps ks : List Str} {sp : Sp} {E : XK} {x m : Str} {p pos apos kpos : Pos} {e o : Expr} {es : List Expr} {kws : List Keyword} {te ta : TE} {t tk : TA} {nm : Option Str}
variable {g : List Value → List Value → List Value} {gV : List V → List V → List V}
end
/-- names: the parameters first -/
structure FnScope (N P : List Str) (sc : Scope) : Prop where
  kind : sc.kind = .function
  co : sc.isCoroutine = false
  gen : sc.isGenerator = false
  nd : N.Nodup
  pre : N.take P.length = P
  par : ∀ x ∈ P, sc.names.lookup x = some .local ∨ sc.names.lookup x = some .cell
  nofree : ∀ y ∈ sc.names, y.2 ≠ .free
theorem bindL_out {kindOf : Str → Option NameKind} {x : Str} : ∀ {binds : List (Str × Value)} {m : Str → Option Value}, (∀ v, (x, v) ∉ binds) → bindL kindOf binds m x = m x
  | [], _, _ => rfl
  | (n, v) :: r, m, h => by
    unfold bindL
    rw [bindL_out fun w hw => h w (List.mem_cons_of_mem _ hw)]
    split
    · have : x ≠ n := by rintro rfl; exact h v List.mem_cons_self
      simp [this]
    · rfl
theorem bindC_out {kindOf : Str → Option NameKind} {x : Str} : ∀ {binds : List (Str × Value)} {m : Str → Option Value}, (∀ v, (x, v) ∉ binds) → bindC kindOf binds m x = m x
  | [], _, _ => rfl
  | (n, v) :: r, m, h => by
    unfold bindC
    rw [bindC_out fun w hw => h w (List.mem_cons_of_mem _ hw)]
    split
    · rfl
    · have : x ≠ n := by rintro rfl; exact h v List.mem_cons_self
      simp [this]
theorem bindL_get {kindOf : Str → Option NameKind} {x : Str} {v : Value} : ∀ {P : List Str} {vs : List Value} {i : Nat} {m : Str → Option Value}, P.Nodup → P[i]? = some x → vs[i]? = some v → kindOf x = some .local →
    bindL kindOf (P.zip vs) m x = some v
  | [], _, _, _, _, h, _, _ => by simp at h
  | _ :: _, [], _, _, _, _, h, _ => by simp at h
  | p :: P, w :: vs, 0, m, nd, h1, h2, hk => by
    simp at h1 h2; subst h1; subst h2
    show bindL kindOf ((p, w) :: P.zip vs) m p = _
    unfold bindL
    rw [bindL_out fun v hv => (List.nodup_cons.mp nd).1 (List.of_mem_zip hv).1, if_pos hk]
    simp
  | p :: P, w :: vs, i + 1, m, nd, h1, h2, hk => by
    show bindL kindOf ((p, w) :: P.zip vs) m x = _
    unfold bindL
    exact bindL_get (i := i) (List.nodup_cons.mp nd).2 (by simpa using h1) (by simpa using h2) hk
theorem bindC_get {kindOf : Str → Option NameKind} {x : Str} {v : Value} : ∀ {P : List Str} {vs : List Value} {i : Nat} {m : Str → Option Value}, P.Nodup → P[i]? = some x → vs[i]? = some v → kindOf x ≠ some .local →
    bindC kindOf (P.zip vs) m x = some v
  | [], _, _, _, _, h, _, _ => by simp at h
  | _ :: _, [], _, _, _, _, h, _ => by simp at h
  | p :: P, w :: vs, 0, m, nd, h1, h2, hk => by
    simp at h1 h2; subst h1; subst h2
    show bindC kindOf ((p, w) :: P.zip vs) m p = _
    unfold bindC
    rw [bindC_out fun v hv => (List.nodup_cons.mp nd).1 (List.of_mem_zip hv).1, if_neg hk]
    simp
  | p :: P, w :: vs, i + 1, m, nd, h1, h2, hk => by
    show bindC kindOf ((p, w) :: P.zip vs) m x = _
    unfold bindC
    exact bindC_get (i := i) (List.nodup_cons.mp nd).2 (by simpa using h1) (by simpa using h2) hk
/-- the names' values at the entry -/
def start (N : List Str) (vs : List V) : St := vs.map some ++ List.replicate (N.length - vs.length) none
/-- the context of a def's body, at its entry; an exception leaves the frame, then lies as CX says -/
def cxOf (CX : CXT) (P : Program) (w : World) (K : PySem.W.Frag) (mg : Str → Option Value) (base : Heap) (N : List Str) (qual : Str) (scope : Scope) (f : Addr) (cd : Value) (A : Around) (outer : List Env) (s : Shared) (H : Hp) (E : XK) : Cx where
  prog := P
  w := w
  K := K
  mg := mg
  base := base
  A := A.deeper (envOfC qual scope s.heap.objs.size f cd)
  N := N
  s₀ := s
  H₀ := H
  env := envOfC qual scope s.heap.objs.size f cd
  outer := outer
  stack := envOfC qual scope s.heap.objs.size f cd :: outer
  ex := []
  calm := true
  fn := fun _ => true
  pn := []
  xe := fun e s' => wpAny (model P w) (A.deeper (envOfC qual scope s.heap.objs.size f cd)) (leaving (envOfC qual scope s.heap.objs.size f cd) e) (fun _ s'' => CX outer H s E e s'') (fun e' s'' => CX outer H s E e' s'') s'
theorem cell_has {sc : Scope} {n : Nat} {x : Str} (h : sc.names.lookup x = some .cell) : ∃ c, (cellsFrom n sc.names []).lookup x = some c := by
  have q := PySem.W.cellsFrom_some sc.names n [] (.inl h)
  exact Option.isSome_iff_exists.mp q
theorem inv_start {CX : CXT} {P : Program} {w : World} {K : PySem.W.Frag} {mg : Str → Option Value} {base : Heap} {N ps : List Str} {qual : Str} {scope : Scope} {f : Addr} {cd : Value} {A : Around} {outer : List Env} {s s1 : Shared} {H : Hp} {E : XK} {us : List Value} {vs : List V}
    (S : FnScope N ps scope) (hd : A.handled = none) (e0 : Env0 P w K mg base A outer s H) (hl : vs.length = ps.length) (r : Vals vs us)
    (x : InCallC s s.heap.objs.size (bindL (envOfC qual scope s.heap.objs.size f cd).kindOf (ps.zip us) fun _ => none) (cellsFrom (s.heap.objs.size + 1) scope.names []) (bindC (envOfC qual scope s.heap.objs.size f cd).kindOf (ps.zip us) fun _ => none) s1) :
    Inv (cxOf CX P w K mg base N qual scope f cd A outer s H E) [] (start N vs) H s1 := by
  have hpl : ps.length ≤ N.length := by have := congrArg List.length S.pre; rw [List.length_take] at this; omega
  obtain ⟨h1, tk, rfl, hk⟩ := x.done
  have noA : ∀ b : Addr, b ∉ (cxOf CX P w K mg base N qual scope f cd A outer s H E).ex := fun b z => absurd (show b ∈ ([] : List Addr) from z) (by simp)
  refine ⟨⟨e0.mod, S.kind, rfl, rfl, Nat.le_refl _, fun y z c h1 h2 => ?_, fun y hy => ?_, fun y c _ h => ?_, fun _ => hd, Around.frames_deeper e0.frames, .inr ⟨rfl, rfl⟩, fun b z => absurd z (noA b), e0.bs, e0.bsz, fun b _ _ => noA b, fun b z => absurd z (noA b), e0.funs, e0.frf⟩,
    rfl, e0.bare, Un.kept hk, ⟨_, x.toInCall.ns, fun i y v h1 h2 h3 => ?_⟩, fun y c h => ⟨_, x.cell y c h⟩, e0.hok.fresh (Nat.le_refl _), fun y c h => ?_, fun p hp => absurd (show p ∈ ([] : List (Addr × Obj)) from hp) (by simp), e0.hok.kept hk, ?_⟩
  · exact name_of_addr x.apart (PySem.mem_of_lookup h1) (PySem.mem_of_lookup h2)
  · have hy : scope.names.lookup y = some .cell ∨ scope.names.lookup y = some .free := hy
    rcases hy with hy | hy
    · exact cell_has hy
    · exact absurd rfl (S.nofree _ (PySem.mem_of_lookup hy))
  · exact Nat.le_of_lt (x.above y c (PySem.mem_of_lookup h))
  · have hi : i < vs.length := by
      unfold start at h2
      by_cases hi : i < vs.length
      · exact hi
      · rw [List.getElem?_append_right (by simpa using hi)] at h2
        rw [List.getElem?_replicate] at h2
        split at h2 <;> cases h2
    have ha : vs[i]? = some v := by
      unfold start at h2
      rw [List.getElem?_append_left (by simpa using hi), List.getElem?_map] at h2
      cases e : vs[i]? with
      | none => rw [e] at h2; cases h2
      | some a => rw [e] at h2; cases h2; rfl
    obtain ⟨u, hu, rv⟩ := r.get ha
    have hp : ps[i]? = some y := by
      rw [← S.pre, List.getElem?_take_of_lt (by omega)]; exact h1
    have ndP : ps.Nodup := by rw [← S.pre]; exact S.nd.sublist (List.take_sublist _ _)
    refine ⟨u, rv, ?_⟩
    rcases S.par y (List.mem_of_getElem? hp) with k | k
    · exact .inl ⟨k, bindL_get ndP hp hu k⟩
    · obtain ⟨c, e⟩ := cell_has (n := s.heap.objs.size + 1) k
      refine .inr ⟨.inl k, c, e, ?_⟩
      have q := x.cell y c e
      rw [bindC_get ndP hp hu (by show scope.names.lookup y ≠ _; rw [k]; decide)] at q
      exact q
  · exact e0.hok.fresh (Nat.le_of_lt (x.above y c (PySem.mem_of_lookup h)))
  · unfold start
    show _ = N.length
    rw [List.length_append, List.length_map, List.length_replicate]
    omega
/-- THE RULE: a def (or a method) of the text, by its body. The body's reading t is chosen for each entry; it is run at the parameters' values -/
theorem fn_of {CX : CXT} {P : Program} {w : World} {K : PySem.W.Frag} {mg : Str → Option Value} {base : Heap} {k : Nat} {f : Addr} {name qual : Str} {params : Arguments} {body : List Stmt} {scope : Scope} {dV kV doc pm cdv ct oc : Value} {an od : Option Addr}
    {osl : Array (Option Value)} {N ps : List Str} {sp : Sp} (lk : K.lookup f = some ⟨oc, od, .func (PySem.W.fnOf name qual params body scope dV kV doc pm an cdv ct), osl⟩) (hcd : PySem.W.codeIn K cdv qual = true) (S : FnScope N ps scope)
    (len : ∀ vs H Q E, sp vs H Q E → vs.length = ps.length)
    (hbody : ∀ (A : Around) (outer : List Env) (s : Shared) (H : Hp) (vs : List V) (Q : VK) (E : XK), Room k (A.deeper (envOfC qual scope s.heap.objs.size f cdv)) → sp vs H Q E →
      ∃ t, PSs (cxOf CX P w K mg base N qual scope f cdv A outer s H E) body t ∧ t { nx := fun _ H' => Q .non H', rt := Q } (start N vs) H) :
    FnOk P w K mg base CX (k + 1) f (PySem.W.fnOf name qual params body scope dV kV doc pm an cdv ct) ps sp := by
  refine ⟨len, fun A outer s H args us vs Q E hr e0 hb r hsp => ?_⟩
  have hl := len _ _ _ _ hsp
  have KX : K.In s.heap := e0.mod.kin.keeps fun b o e => (e0.bs b o e).1
  have lim : s.heap.NoLimit := e0.mod.nolimit.keeps fun b o e => (e0.bs b o e).1
  have hkind : ∀ y ∈ ps.zip us, scope.names.lookup y.1 = some .local ∨ (scope.names.lookup y.1 = some .cell ∧ ((cellsFrom (s.heap.objs.size + 1) scope.names []).lookup y.1).isSome = true) := fun ⟨n, v⟩ hy => by
    rcases S.par n (List.of_mem_zip hy).1 with q | q
    · exact .inl q
    · exact .inr ⟨q, PySem.W.cellsFrom_some _ _ _ (.inl q)⟩
  refine codeAny_call_function hr.depth (KX _ _ lk) rfl S.co S.gen rfl (PySem.W.codeRec_of KX hcd) (hb _ _ _ _ ?_)
  refine wpAny_newFunctionEnv_cells S.kind hkind fun env he s1 x => ?_
  subst he
  refine ⟨lim.keeps x.toInCall.keep, codeAny_func ?_⟩
  obtain ⟨t, ht, hq⟩ := hbody A outer s H vs Q E (hr.deeper _) hsp
  have I : Inv (cxOf CX P w K mg base N qual scope f cdv A outer s H E) [] (start N vs) H s1 := inv_start S hr.hd e0 hl r x
  refine wpAny_mono (ht [] s1 (start N vs) H _ I hq) (fun fl s' hs => ?_) fun e s' hs => hs
  have fin : ∀ {σ' : St} {H' : Hp} {v : V} {u : Value}, Inv (cxOf CX P w K mg base N qual scope f cdv A outer s H E) [] σ' H' s' → RelV v u → Q v H' → CE outer P w H s Q u s' :=
    fun {σ' H' v u} J rv q => ⟨v, H', J.os, J.bare, J.base, J.hok, rv, q⟩
  cases fl with
  | ret u =>
    obtain ⟨v, σ', H', J, rv, q⟩ := hs
    exact fin J rv q
  | next =>
    obtain ⟨σ', H', J, q⟩ := hs
    exact fin (v := V.non) (u := Value.none) J rfl q
  | brk =>
    obtain ⟨_, _, _, q⟩ := hs
    exact False.elim q
  | cont =>
    obtain ⟨_, _, _, q⟩ := hs
    exact False.elim q
end L2
namespace L2
open PySem PySem.Spec PyProof.Rows
section
variable {X : Cx} {x : Str} {p pos : Pos} {e : Expr} {es : List Expr} {t : TA} {id T : String} {r : List V → Hp → VK → Prop}
def tCB (r : List V → Hp → VK → Prop) (t : TA) : TE := fun σ H Q => t σ H fun vs H1 => r vs H1 Q
/-- f(e, ..), f a built-in function -/
theorem pe_callB (hc : CallR X (.builtin id) r) (hg : Gl X x) (hm : X.mg x = none) (hv : bootBuiltins x = some (.builtin id)) (ha : PA X (e :: es) t) (hn : x ≠ "__name__" := by decide) (hdb : (x == ("__debug__" : Str)) = false := by decide)
    (he : starEach (e :: es) X.env = (false, eval e X.env) :: starEach es X.env := by rfl) (hpl : (backTo pos (starEach es X.env)).any (·.1) = false := by rfl) : PE X (.Call (.Name x p) (e :: es) [] pos) (tCB r t) := by
  intro pins s σ H Q I h
  refine wpAny_Call_Name_kw (ld_blt I hg hm hv ?_ hn hdb)
  exact PyProof.Rows.callWith_builtin1 (thn (ha pos pins s σ H _ I h) fun us s1 ⟨vs, H1, I1, r1, q1⟩ => hc pins s1 σ H1 vs us Q I1 r1 q1) he hpl
end
end L2
namespace HT
open PySem PyProof.Rows
section
open PySem.SeqAt
open PySem.AutoSeq1 (wpAny_loadPart')
open PySem.MeetsSeq PySem.MeetsSeq2 PySem.MeetsSeq3
end
section
variable {prog : Program} {w : World} {A : Around} {E : Value → Shared → Prop} {s : Shared}
end
end HT
namespace L2
open PySem PySem.Spec PyProof.Rows
abbrev TO := St → Hp → (Option Int → Hp → Prop) → Prop
section
variable {X : Cx} {e : Expr} {te : TE} {lo hi : Option Expr} {tl th : TO} {pos p2 : Pos}
/-- what a slice of a value is, by values: the slice object stands at sl -/
def SlR (X : Cx) (r : V → Option Int → Option Int → Hp → VK → Prop) : Prop :=
  ∀ (pins : List (Addr × Obj)) (s : Shared) (σ : St) (H : Hp) (x : V) (v vl vu : Value) (lo hi : Option Int) (sl : Addr) (Q : VK), Inv X pins σ H s → RelV x v → s.heap.IsSliceOf sl vl vu .none → IsPart vl lo → IsPart vu hi → r x lo hi H Q →
    ∃ T id, typeLookup (.type T) "__getitem__" = pure (some (.builtin id)) ∧ s.TypeIs v T ∧ wpAny (model X.prog X.w) X.A (getItem v (.ref sl)) (EP X pins σ Q) X.xe s
theorem SlR.or {r r' : V → Option Int → Option Int → Hp → VK → Prop} (h : SlR X r) (h' : SlR X r') : SlR X (fun x lo hi H Q => r x lo hi H Q ∨ r' x lo hi H Q) := by
  intro pins s σ H x v vl vu lo hi sl Q I rx hs pl pu q
  rcases q with q | q
  · exact h pins s σ H x v vl vu lo hi sl Q I rx hs pl pu q
  · exact h' pins s σ H x v vl vu lo hi sl Q I rx hs pl pu q
end
end L2
namespace L2
open PySem PySem.Spec PyProof.Rows
/-- the place that an index of any sign means -/
def ixN (n : Nat) (i : Int) : Option Nat := if 0 ≤ i then (if i < n then some i.toNat else none) else if -(n : Int) ≤ i then some (i + n).toNat else none
def atI {α : Type} (xs : List α) (i : Int) : Option α := (ixN xs.length i).bind fun j => xs[j]?
theorem ixN_seq {n : Nat} {i : Int} {j : Nat} (h : ixN n i = some j) : seqIndex? i n = some j ∧ j < n ∧ -(n : Int) ≤ i ∧ i < n := by
  unfold ixN at h
  by_cases h0 : 0 ≤ i
  · rw [if_pos h0] at h
    by_cases h1 : i < n
    · rw [if_pos h1] at h
      have e : i.toNat = j := Option.some.inj h
      exact ⟨by rw [seqIndex_of h0 h1, e], by omega, by omega, h1⟩
    · rw [if_neg h1] at h; cases h
  · rw [if_neg h0] at h
    by_cases h1 : -(n : Int) ≤ i
    · rw [if_pos h1] at h
      have e : (i + n).toNat = j := Option.some.inj h
      exact ⟨by rw [seqIndex_neg (by omega) h1, e], by omega, h1, by omega⟩
    · rw [if_neg h1] at h; cases h
theorem atI_get {α : Type} {xs : List α} {i : Int} {v : α} (h : atI xs i = some v) : ∃ j, seqIndex? i xs.length = some j ∧ xs[j]? = some v ∧ j < xs.length ∧ -(xs.length : Int) ≤ i ∧ i < xs.length := by
  unfold atI at h
  cases e : ixN xs.length i with
  | none => rw [e] at h; cases h
  | some j =>
    rw [e] at h
    obtain ⟨h1, h2, h3, h4⟩ := ixN_seq e
    exact ⟨j, h1, h, h2, h3, h4⟩
theorem atI_nat {α : Type} {xs : List α} {j : Nat} {v : α} (h : xs[j]? = some v) : atI xs (j : Int) = some v := by
  have hj : j < xs.length := (List.getElem?_eq_some_iff.mp h).1
  have e : ixN xs.length (j : Int) = some j := by
    unfold ixN
    rw [if_pos (by omega), if_pos (by omega)]; simp
  unfold atI; rw [e]; exact h
/-- what stands as an index of a plain subscript -/
def PlainIx (b : Expr) : Prop := ∀ o i, subscripted b false o i = operate [o, i] (getItem o i)
/-- a subscript by values -/
def IxR (X : Cx) (r : R2) : Prop :=
  ∀ (value slice : Expr) (pins : List (Addr × Obj)) (s : Shared) (σ : St) (H : Hp) (x y : V) (v u : Value) (Q : VK), Inv X pins σ H s → RelV x v → RelV y u → r x y H Q →
    subscripted slice false v u = operate [v, u] (getItem v u) → wpAny (model X.prog X.w) X.A (subscriptTail value slice v u) (EP X pins σ Q) X.xe s
/-- a call of a builtin's method by values: the receiver, the arguments -/
def MtR (X : Cx) (id : String) (r : V → List V → Hp → VK → Prop) : Prop :=
  ∀ (pins : List (Addr × Obj)) (s : Shared) (σ : St) (H : Hp) (x : V) (xs : List V) (v : Value) (us : List Value) (Q : VK), Inv X pins σ H s → RelV x v → Vals xs us → r x xs H Q →
    wpAny (model X.prog X.w) X.A (call (.builtin id) (v :: us)) (EP X pins σ Q) X.xe s
section
variable {X : Cx} {a b : Expr} {ta tb : TE} {pos : Pos}
theorem IxR.or {r r' : R2} (h : IxR X r) (h' : IxR X r') : IxR X (fun x y H Q => r x y H Q ∨ r' x y H Q) := by
  intro value slice pins s σ H x y v u Q I rx ry q hs
  rcases q with q | q
  · exact h value slice pins s σ H x y v u Q I rx ry q hs
  · exact h' value slice pins s σ H x y v u Q I rx ry q hs
theorem MtR.or {id : String} {r r' : V → List V → Hp → VK → Prop} (h : MtR X id r) (h' : MtR X id r') : MtR X id (fun x xs H Q => r x xs H Q ∨ r' x xs H Q) := by
  intro pins s σ H x xs v us Q I rx rs q
  rcases q with q | q
  · exact h pins s σ H x xs v us Q I rx rs q
  · exact h' pins s σ H x xs v us Q I rx rs q
/-- a[b] -/
theorem pe_ix {r : R2} (hr : IxR X r) (ha : PE X a ta) (hb : PE X b tb) (hs : PlainIx b) : PE X (.Subscript a b pos) (tOp r ta tb) := by
  intro pins s σ H Q I h
  exact Subscript_ (binT ha hb I h fun v u s2 x y H2 I2 rx ry q => hr a b pins s2 σ H2 x y v u Q I2 rx ry q (hs _ _))
def rIxL (K : PySem.W.Frag) : R2 := fun x y H Q => ∃ p xs i v, x = .ref p ∧ y = .int i ∧ SqL K H p xs ∧ atI xs i = some v ∧ Q v H
theorem ix_list : IxR X (rIxL X.K) := by
  intro value slice pins s σ H x y v u Q I rx ry h hs
  obtain ⟨p, xs, i, z, rfl, rfl, hq, he, q⟩ := h
  cases rx
  obtain ⟨t, rfl⟩ := ry
  obtain ⟨its, r, pl, hz⟩ := I.list hq
  obtain ⟨j, h1, h2, h3, h4, h5⟩ := atI_get he
  obtain ⟨w, ew, rw'⟩ := r.get h2
  have hl := r.length
  have hn := line63
  have fin : EP X pins σ Q w s := ⟨z, H, I, rw', q⟩
  by_cases h0 : 0 ≤ i
  · have hj : i.toNat = j := by
      rw [seqIndex_of h0 h5] at h1
      exact Option.some.inj h1
    exact item_listR pl.isList h0 (by omega) (by rw [hj]; simpa using ew) fin hs
  · have hj : (i + (its.toArray.size : Int)).toNat = j := by
      rw [seqIndex_neg (by omega) h4] at h1
      rw [List.size_toArray, ← hl]
      exact Option.some.inj h1
    exact subscriptTail_builtinR (x := w) pl.isList.typeIs slot_list_getitem.lookup
      (wpAny_getItem_list_neg (Q := fun r s' => r = w ∧ EP X pins σ Q r s') pl.isList (by omega) (by rw [List.size_toArray] <;> omega) (by omega) (by rw [hj]; simpa using ew) ⟨rfl, fin⟩) hs
theorem Inv.lst {pins : List (Addr × Obj)} {σ : St} {H : Hp} {s : Shared} {p : Addr} {xs : List V} (I : Inv X pins σ H s) (h : H p = some (.lst xs)) :
    ∃ (its : List Value) (n : Nat), Vals xs its ∧ s.heap.get? p = some { cls := .type "list", data := .seq its.toArray n } ∧ xs.length ≤ sizeLine := by
  obtain ⟨z, its, n, r, e⟩ := I.hok p _ h
  exact ⟨its, n, r, e, z⟩
theorem CallR.or {f : Value} {r r' : List V → Hp → VK → Prop} (h : CallR X f r) (h' : CallR X f r') : CallR X f (fun xs H Q => r xs H Q ∨ r' xs H Q) := by
  intro pins s σ H xs us Q I rs q
  rcases q with q | q
  · exact h pins s σ H xs us Q I rs q
  · exact h' pins s σ H xs us Q I rs q
/-- the value is of that builtin type -/
def tyV (K : PySem.W.Frag) (T : String) (x : V) (H : Hp) : Prop := match x with
  | .str _ => T = "str"
  | .int _ => T = "int"
  | .ref p => (T = "list" ∧ ∃ xs, SqL K H p xs) ∨ (T = "tuple" ∧ ∃ o, K.lookup p = some o ∧ o.cls = .type "tuple" ∧ o.dict = none) ∨
      (T = "dict" ∧ ((∃ kvs, H p = some (.dK kvs)) ∨ ∃ kvs, H p = some (.dT kvs))) ∨ (T = "set" ∧ ∃ S n, H p = some (.set S n))
  | _ => False
theorem tyV_is {pins : List (Addr × Obj)} {σ : St} {H : Hp} {s : Shared} {T : String} {x : V} {v : Value} (I : Inv X pins σ H s) (r : RelV x v) (ty : tyV X.K T x H) :
    s.TypeIs v T ∧ ∀ a, v = .ref a → ∃ ob, s.heap.get? a = some ob ∧ ob.dict = none := by
  cases x with
  | str z =>
    obtain ⟨t, rfl⟩ := r
    cases (show T = "str" from ty)
    exact ⟨typeIs_str s z t, fun _ e => nomatch e⟩
  | int i =>
    obtain ⟨t, rfl⟩ := r
    cases (show T = "int" from ty)
    exact ⟨typeIs_int s i t, fun _ e => nomatch e⟩
  | ref p =>
    cases r
    rcases ty with ⟨rfl, xs, hq⟩ | ⟨rfl, o, hk, hc, hd⟩ | ⟨rfl, hk⟩ | ⟨rfl, S, n, hk⟩
    · obtain ⟨its, _, pl, _⟩ := I.list hq
      refine ⟨pl.isList.typeIs, fun a e => ?_⟩
      cases e
      obtain ⟨o, n, e, c, hd, _⟩ := pl
      exact ⟨o, e, hd⟩
    · refine ⟨⟨o, I.kIn p o hk, hc⟩, fun a e => ?_⟩
      cases e
      exact ⟨o, I.kIn _ o hk, hd⟩
    · have z : ∃ o, s.heap.get? p = some o ∧ o.ExactDict := by
        rcases hk with ⟨kvs, hk⟩ | ⟨kvs, hk⟩
        · obtain ⟨_, _, _, _, o, _, _, e, ex, _⟩ := I.hok p _ hk
          exact ⟨o, e, ex⟩
        · obtain ⟨_, _, _, _, o, _, _, e, ex, _⟩ := I.hok p _ hk
          exact ⟨o, e, ex⟩
      obtain ⟨o, e, ex⟩ := z
      refine ⟨⟨o, e, ex.1⟩, fun a e2 => ?_⟩
      cases e2
      exact ⟨o, e, ex.2.1⟩
    · obtain ⟨o, _, _, _, e, ex, _⟩ := I.hok p _ hk
      refine ⟨⟨o, e, ex.1⟩, fun a e2 => ?_⟩
      cases e2
      exact ⟨o, e, ex.2.1⟩
  | _ => exact False.elim ty
def tBM (K : PySem.W.Frag) (T : String) (r : V → List V → Hp → VK → Prop) (to : TE) (t : TA) : TE := fun σ H Q => to σ H fun x H1 => tyV K T x H1 ∧ t σ H1 fun xs H2 => r x xs H2 Q
variable {o e : Expr} {es : List Expr} {to : TE} {t : TA} {name : Str} {apos cpos : Pos} {T id : String} {r : V → List V → Hp → VK → Prop}
theorem pe_bm (pa : PlainAttrs T) (slot : Slot T name id) (hty : typeOf (.builtin id) = pure (.type "method_descriptor")) (hm : MtR X id r) (ho : PE X o to) (ha : PA X (e :: es) t)
    (hbase : attributeBase o name X.env (eval o X.env) = eval o X.env := by rfl)
    (hfew : ((backTo cpos (starEach (e :: es) X.env)).all (fun x => !x.1) && (backToKw cpos (keywordEach [] X.env)).all (fun x => x.1.isSome)
      && decide ((e :: es).length + ([] : List Keyword).length + (if ([] : List Keyword).isEmpty then 0 else 1) < 30)) = true := by rfl)
    (hline : (apos.endLine == cpos.line) = true := by rfl) (hs : starEach (e :: es) X.env = (false, eval e X.env) :: starEach es X.env := by rfl) (hplain : (backTo cpos (starEach es X.env)).any (·.1) = false := by rfl) :
    PE X (.Call (.Attribute o name apos) (e :: es) [] cpos) (tBM X.K T r to t) := by
  intro pins s σ H Q I h
  refine wpAny_Call_method_late hbase hfew hline rfl (thn (ho pins s σ H _ I h) fun v s1 ⟨x, H1, I1, r1, ty, q1⟩ => ?_)
  obtain ⟨h1, h2⟩ := tyV_is I1 r1 ty
  refine ⟨T, id, pa, slot, hty, h1, h2, ?_⟩
  have hA := ha cpos pins s1 σ H1 _ I1 q1
  rw [hs] at hA ⊢
  refine Calls.callWith_builtin (by show (false || (backTo cpos (starEach es X.env)).any (·.1)) = false; rw [hplain] <;> rfl) (Calls.evalArgs_plain ?_)
  exact thn hA fun us s2 ⟨vs, H2, I2, r2, q2⟩ => hm pins s2 σ H2 x vs v us Q I2 r1 r2 q2
end
end L2
namespace L2
open PySem PySem.Spec PyProof.Rows
def MtM (X : Cx) (id : String) (r : V → List V → Hp → VK → Prop) : Prop :=
  ∀ (pins : List (Addr × Obj)) (s : Shared) (σ : St) (H : Hp) (x : V) (xs : List V) (v : Value) (us : List Value) (Q : VK), Inv X pins σ H s → RelV x v → Vals xs us → r x xs H Q →
    wpAny (model X.prog X.w) X.A (call (.builtin id) (v :: us)) (EP X pins σ Q) X.xe s
theorem Vals.one : ∀ {x : V} {us : List Value}, Vals [x] us → ∃ u, us = [u] ∧ RelV x u
  | _, _, .cons r .nil => ⟨_, rfl, r⟩
theorem Vals.two : ∀ {x y : V} {us : List Value}, Vals [x, y] us → ∃ u v, us = [u, v] ∧ RelV x u ∧ RelV y v
  | _, _, _, .cons r (.cons q .nil) => ⟨_, _, rfl, r, q⟩
theorem Vals.zero : ∀ {us : List Value}, Vals [] us → us = []
  | _, .nil => rfl
theorem Vals.reverse {xs : List V} {us : List Value} (h : Vals xs us) : Vals xs.reverse us.reverse := by
  induction h with
  | nil => exact .nil
  | cons r t ih => rw [List.reverse_cons, List.reverse_cons]; exact Vals.append ih (.cons r .nil)
theorem Vals.rep {xs : List V} {us : List Value} (h : Vals xs us) : ∀ k : Nat, Vals (List.replicate k xs).flatten (List.replicate k us).flatten
  | 0 => .nil
  | k + 1 => by
    rw [List.replicate_succ, List.replicate_succ, List.flatten_cons, List.flatten_cons]
    exact Vals.append h (Vals.rep h k)
theorem foldl_rep (its : List Value) : ∀ (k : Nat) (acc : List Value),
    List.foldl (fun x1 x2 => x1 ++ x2) acc.toArray (List.replicate k its.toArray) = (acc ++ (List.replicate k its).flatten).toArray
  | 0, acc => by simp
  | k + 1, acc => by
    have e : acc.toArray ++ its.toArray = (acc ++ its).toArray := by simp
    have e2 : (acc ++ its) ++ (List.replicate k its).flatten = acc ++ (List.replicate (k + 1) its).flatten := by
      rw [List.replicate_succ, List.flatten_cons, List.append_assoc]
    rw [← e2, ← foldl_rep its k (acc ++ its), ← e, List.replicate_succ, List.foldl_cons]
section
variable {X : Cx} {pins : List (Addr × Obj)} {σ : St} {H : Hp} {s : Shared} {l b : Addr} {xs ys zs : List V}
theorem Inv.lset {its its' : List Value} {n : Nat} {f : Array Value → Array Value} {t' : Nat} (I : Inv X pins σ H s) (hH : H l = some (.lst xs))
    (e : s.heap.get? l = some { cls := .type "list", data := .seq its.toArray n }) (hf : f its.toArray = its'.toArray) (hv : Vals ys its') (hz : ys.length ≤ sizeLine) :
    Inv X pins σ (upd H l (.lst ys)) { s with heap := s.heap.update l (Obj.mapSeq f), toks := t' } := by
  have q := PySem.IsL.update e f
  rw [hf] at q
  refine I.write (x := l) (e := l) (by rw [hH]; exact trivial) (.inl rfl) (fun b' u hb hu => (Heap.get?_update_other s.heap (Obj.mapSeq f) (Ne.symm hb)).trans hu) ⟨_, q⟩ ?_
  exact ⟨hz, its', _, hv, q⟩
theorem Inv.lnew {its : List Value} {t' : Nat} (I : Inv X pins σ H s) (hv : Vals ys its) (hz : ys.length ≤ sizeLine) :
    Inv X pins σ (upd H s.heap.objs.size (.lst ys)) { s with heap := s.heap.push { cls := .type "list", data := .seq its.toArray }, toks := t' } :=
  I.laid (fun _ _ q => Heap.get?_push_of_some _ q) (Nat.le_refl _) ⟨hz, its, 0, hv, Heap.get?_push_size _ rfl⟩
theorem Inv.fresh (I : Inv X pins σ H s) : H s.heap.objs.size = none := I.hok.fresh (Nat.le_refl _)
theorem Inv.lstM (I : Inv X pins σ H s) (hH : H l = some (.lst xs)) : xs.length ≤ sizeLine ∧ ∃ (its : List Value) (n : Nat), Vals xs its ∧ xs.length = its.length ∧ s.heap.get? l = some { cls := .type "list", data := .seq its.toArray n } := by
  obtain ⟨z, its, n, r, e⟩ := I.hok l _ hH
  exact ⟨z, its, n, r, r.length, e⟩
theorem notLongL {n : Nat} (h : n ≤ sizeLine) : Builtin.List.listTooLong n = false := by
  unfold Builtin.List.listTooLong
  exact decide_eq_false (by omega)
end
section
variable {X : Cx}
def rAppend : V → List V → Hp → VK → Prop := fun x vs H Q => ∃ l xs y, x = .ref l ∧ vs = [y] ∧ H l = some (.lst xs) ∧ xs.length < sizeLine ∧ Q .non (upd H l (.lst (xs ++ [y])))
theorem mt_append : MtM X "list.append" rAppend := by
  intro pins s σ H x vs v us Q I rx rv h
  obtain ⟨l, xs, y, rfl, rfl, hH, hz, q⟩ := h
  cases rx
  obtain ⟨u, rfl, ru⟩ := rv.one
  obtain ⟨z, its, n, r, hl, e⟩ := I.lstM hH
  refine call_meets F.slot_list_append ⟨_, e, rfl⟩ F.entry_list_append (F.args_list_append_2 _ _) (PySem.list_append l its.toArray n u (by rw [List.size_toArray]; omega)) ⟨e, ?_⟩
  refine ⟨.non, _, I.lset (its' := its ++ [u]) hH e (by simp) (r.append (.cons ru .nil)) ?_, rfl, q⟩
  rw [List.length_append, List.length_singleton]
  omega
def rCat : R2 := fun x y H Q => ∃ l b xs zs, x = .ref l ∧ y = .ref b ∧ H l = some (.lst xs) ∧ H b = some (.lst zs) ∧ xs.length + zs.length ≤ sizeLine ∧ ∀ p, H p = none → Q (.ref p) (upd H p (.lst (xs ++ zs)))
theorem op_cat : OpR X (binaryOp .Add) rCat := by
  intro pins s σ H x y v u Q I rx ry h
  obtain ⟨l, b, xs, zs, rfl, rfl, hH, hB, hz, q⟩ := h
  cases rx
  cases ry
  obtain ⟨z, its, n, r, hl, e⟩ := I.lstM hH
  obtain ⟨z2, its2, n2, r2, hl2, e2⟩ := I.lstM hB
  refine PySem.P.add_list e e2 ?_ (by rw [List.size_toArray, List.size_toArray]; omega)
  have ea : its.toArray ++ its2.toArray = (its ++ its2).toArray := by simp
  rw [ea]
  exact ⟨.ref _, _, I.lnew (t' := s.toks) (r.append r2) (by rw [List.length_append]; omega), rfl, q _ I.fresh⟩
/-- a list times an int (a negative one is nothing) -/
def rRep : R2 := fun x y H Q => ∃ l k xs, x = .ref l ∧ y = .int k ∧ H l = some (.lst xs) ∧ -(2 ^ 63) ≤ k ∧ k < 2 ^ 63 ∧ xs.length * k.toNat ≤ sizeLine ∧
  ∀ p, H p = none → Q (.ref p) (upd H p (.lst (List.replicate k.toNat xs).flatten))
theorem len_rep {α : Type} (xs : List α) (k : Nat) : (List.replicate k xs).flatten.length = k * xs.length := by
  induction k with
  | zero => simp
  | succ k ih => rw [List.replicate_succ, List.flatten_cons, List.length_append, ih, Nat.succ_mul, Nat.add_comm]
theorem op_rep : OpR X (binaryOp .Mult) rRep := by
  intro pins s σ H x y v u Q I rx ry h
  obtain ⟨l, k, xs, rfl, rfl, hH, h1, h2, hz, q⟩ := h
  cases rx
  obtain ⟨t, rfl⟩ := ry
  obtain ⟨z, its, n, r, hl, e⟩ := I.lstM hH
  have hlen : its.toArray.size * k.toNat ≤ sizeLine := by rw [List.size_toArray, ← hl]; exact hz
  have hcap : ¬ its.toArray.size * k.toNat > (2 ^ 63 - 1) / 8 := by
    have : (sizeLine : Nat) ≤ (2 ^ 63 - 1) / 8 := by decide
    omega
  have hfit : ¬ (!Builtin.List.listFitsIndex k) = true := by
    rw [fitsIndex_both h1 h2]
    exact Bool.false_ne_true
  have hlong : ¬ Builtin.List.listTooLong (its.toArray.size * k.toNat) = true := by
    rw [notLongL hlen]
    exact Bool.false_ne_true
  have hnew : List.foldl (fun x1 x2 => x1 ++ x2) #[] (List.replicate (if its.toArray.isEmpty = true then 0 else k.toNat) its.toArray) = (List.replicate k.toNat its).flatten.toArray := by
    have f0 : ∀ m : Nat, List.foldl (fun x1 x2 => x1 ++ x2) #[] (List.replicate m its.toArray) = (List.replicate m its).flatten.toArray := fun m => by
      have := foldl_rep its m []
      rw [List.nil_append] at this
      exact this
    rw [f0]
    cases its with
    | nil => simp
    | cons a r' => rw [if_neg (by simp)]
  refine wpAny_binaryOp_repeat_ref (T := "list") (U := "int") (by decide) ⟨_, e, rfl⟩ (fun s' => typeIs_int s' k t) noFill_list_mul F.fills_int_mul F.slot_int_rmul repeat_list F.slot_int_index.lookup
    (call_meets F.slot_int_rmul (typeIs_int s k t) F.entry_int_rmul (F.args_int_rmul_2 _ _) (int___rmul___int_list k t l its.toArray n)
      ⟨e, rfl, ⟨_, e, rfl⟩, call_meets F.slot_list_mul ⟨_, e, rfl⟩ F.entry_list_mul (F.args_list_mul_2 _ _) (AutoListH.list___mul___list_int_3 l its.toArray n k t hfit hcap hlong) ⟨e, ?_⟩⟩)
  rw [hnew]
  exact ⟨.ref _, _, I.lnew (t' := s.toks) (r.rep k.toNat) (by rw [len_rep, Nat.mul_comm]; exact hz), rfl, q _ I.fresh⟩
end
section
variable {prog : Program} {w : World} {A : Around} {E : Value → Shared → Prop} {s : Shared}
end
section
variable {X : Cx}
end
end L2
namespace Att
open PySem PySem.W PySem.Calls PyProof.Rows
theorem ints_of_wellAll {P : Params} {h : Heap} : ∀ (ns : List Int) (vs : List Value), WellAll P h vs (ns.map WData.int) → IntsAre vs ns := by
  intro ns
  induction ns with
  | nil =>
    intro vs w
    rw [List.map_nil] at w
    cases w
    exact .nil
  | cons n ns ih =>
    intro vs w
    rw [List.map_cons] at w
    cases w with
    | cons a b =>
      cases a
      exact .cons _ _ (ih _ b)
theorem script_of {l : OpenLaw} {n : Nat} (hn : l.most = some n) {P : Params} {h : Heap} {args : List WData} {vals : List Value}
    (hpre : l.row.toRowW.claim.pre args = true) (hwl : WellAll P h vals args) :
    ∃ a vs ns, vals = [Value.ref a] ∧ args = [WData.list (ns.map WData.int)] ∧ h.get? a = some { cls := .type "list", data := .seq vs.toArray } ∧ IntsAre vs ns ∧ ns.length ≤ n := by
  have hsh : WShape.hasAll [] args [.list .int] = true := (pre_splitW hpre).1
  have hc : l.pre.holds [] { args := args } = true := (pre_splitW hpre).2
  obtain ⟨d, r, rfl, h1, h2⟩ := hasAllW_cons hsh
  obtain rfl := hasAllW_nil h2
  obtain ⟨xs, rfl, h3⟩ := hasW_list h1
  obtain ⟨ns, rfl⟩ := items_int h3
  have hlen : ns.length ≤ n := by
    unfold OpenLaw.pre at hc
    have h4 : (WTm.not (.lt (.lit (.int (n : Int))) (.len (.arg 0)))).holds [] { args := [.list (ns.map .int)] } = true := by
      have h4 := (holds_andW hc).1
      rw [hn] at h4
      exact h4
    have h5 := condW_of h4 (w_not (w_lt w_lit (w_len_list (w_arg rfl))))
    rw [List.length_map] at h5
    refine Nat.le_of_not_lt fun q => ?_
    have q' : (n : Int) < ((ns.length : Nat) : Int) := by omega
    first
      | (rw [decide_eq_true q'] at h5; exact absurd h5 (by decide))
      | (simp at h5; omega)
  cases hwl with
  | cons w1 w2 =>
    cases w2
    cases w1 with
    | list ho hall => exact ⟨_, _, ns, rfl, rfl, ho, ints_of_wellAll ns _ hall, hlen⟩
theorem post_true (l : OpenLaw) (args : List WData) : l.row.toRowW.claim.post args (.bool true) args = true :=
  postW_of (r := l.row.toRowW) (X := (true == true))
    (show WShape.has [] (.bool true) .bool = true by first | rfl | decide | simp [WShape.has, WShape.arms, WShape.armsAll])
    (show (WTm.eq .res (.lit (.bool true))).value [] { args := args, res := some (.bool true), after := args } = some (.bool (true == true)) from w_eq_bool (w_res rfl) w_lit) rfl
/-- the same from a codeAny of the CALL (for a layer whose function contracts speak of calls) -/
theorem attach_call {l : OpenLaw} {n : Nat} {q : Program} {loose : List Str} {XP : (Str → Option Value) → Heap → Prop} {YP : World → Heap → Prop} {d : DefRec}
    (hn : l.most = some n) (hdf : d.params.defaults = [])
    (call : ∀ (w : World) (s₀ s₁ : Shared) (mg mb : Str → Option Value) (fa : Addr) (o : Obj) (pm cd doc : Value) (a : Addr) (vs : List Value) (ns : List Int),
      Ground q loose [] XP w s₀ mg mb s₁.heap → YP w s₁.heap →
      s₁.heap.get? fa = some o → o.data = .func (docDef d.name d.params d.body d.scope pm cd doc) → s₁.heap.CodeRec cd d.name → mg d.name = some (.ref fa) →
      s₁.heap.get? a = some { cls := .type "list", data := .seq vs.toArray } → IntsAre vs ns → ns.length ≤ n → s₁.gens = #[] →
      codeAny (model l.prog w) callerA (.call (.ref fa) ⟨[.ref a], []⟩) (fun r s' => r = .ok (.ret (.bool true)) ∧ OldK s₁.heap s'.heap ∧ s'.os = s₁.os ∧ AllBare s'.gens) s₁) :
    WalkO q loose XP YP l.row.toRowW d [] (fun f vs => PySem.call f vs) := by
  intro w s₀ s₁ mg mb G Y fa o pm cd doc dV kV ho hd hcd hD hmg hg args vals as hpre hlay hrd hwl hlo
  obtain rfl : dV = .none := Dflts.none hD hdf
  obtain rfl : kV = .none := Dflts.noKw hD
  obtain ⟨a, vs, ns, rfl, rfl, hobj, hints, hlen⟩ := script_of hn hpre hwl
  refine enter_call (codeAny_mono (call w s₀ s₁ mg mb fa o pm cd doc a vs ns G Y ho (fd_plain hd) hcd hmg hobj hints hlen hg) fun r s' hq => ?_)
  obtain ⟨rfl, h2, h3, h4⟩ := hq
  exact ⟨.inl ⟨.bool true, .bool true, [], rfl, fun _ => rfl, .bool true, post_true l _, fun _ => ⟨List.Pairwise.nil, fun _ hm => (nomatch hm)⟩⟩, h2, h3, h4⟩
section
variable {prog : Program} {w : World} {A : Around} {E : Value → Shared → Prop} {s : Shared} {K : Frag}
end
end Att
namespace L2
open PySem PySem.Spec PyProof.Rows
theorem vals_ints : ∀ {vs : List Value} {ns : List Int}, IntsAre vs ns → Vals (ns.map V.int) vs
  | _, _, .nil => .nil
  | _, _, .cons n t h => .cons ⟨t, rfl⟩ (vals_ints h)
/-- nothing is tracked but the script, known to the object (or it is an object of the module) -/
def Only (H : Hp) : Prop := ∀ b, H b = none ∨ ∃ o xs, H b = some (.frz o (.lst xs))
/-- THE HEAD: the law's promise, at the heap behind the top. F, the promise of the law's def, may use that base is part of the heap (so K.In base, base.Ns mainGlobals mg stand in Mod) -/
theorem law_call {P : Program} {w : World} {K : PySem.W.Frag} {mg mb : Str → Option Value} {CX : CXT} {k : Nat} {fa a : Addr} {fd : FuncData} {x : Str} {sp : Sp} {s₁ : Shared} {vs : List Value} {ns : List Int}
    (KX : K.In s₁.heap) (hns : s₁.heap.Ns mainGlobals mg) (hb : s₁.heap.Ns builtinsNs mb) (hbb : ∀ x : Str, x ≠ "__name__" → mb x = bootBuiltins x) (hlim : s₁.heap.NoLimit) (hg : s₁.gens = #[])
    (ha : s₁.heap.get? a = some { cls := .type "list", data := .seq vs.toArray }) (hi : IntsAre vs ns) (hl : ns.length ≤ sizeLine) (hr : Room k callerA)
    (F : ∀ base : Heap, K.In base → base.Ns mainGlobals mg → FnOk P w K mg base CX k fa fd [x] sp) (hbind : ∀ (s : Shared) (u : Value), BindsTo s fd ⟨[u], []⟩ [(x, u)])
    (hsp : ∀ H : Hp, Only H → SqL K H a (ns.map V.int) → sp [.ref a] H (fun v _ => v = .bl true) fun _ _ _ => False)
    (hCX : ∀ H e s', CX [] H s₁ (fun _ _ _ => False) e s' → False) :
    codeAny (model P w) callerA (.call (.ref fa) ⟨[.ref a], []⟩) (fun r s' => r = .ok (.ret (.bool true)) ∧ OldK s₁.heap s'.heap ∧ s'.os = s₁.os ∧ AllBare s'.gens) s₁ := by
  have rv := vals_ints hi
  have lenV := hi.length
  -- from an abstract heap in which nothing but the script may be tracked
  have core : ∀ H : Hp, Only H → SqL K H a (ns.map V.int) → HOk P w H s₁.heap → (∀ b, H b ≠ none → b = a) → (H a ≠ none → K.lookup a = none) →
      codeAny (model P w) callerA (.call (.ref fa) ⟨[.ref a], []⟩) (fun r s' => r = .ok (.ret (.bool true)) ∧ OldK s₁.heap s'.heap ∧ s'.os = s₁.os ∧ AllBare s'.gens) s₁ := by
    intro H hO hS hok hA hK
    have base_of : ∀ {b : Addr} {o : Obj}, s₁.heap.get? b = some o → H b = none → (hidT s₁.heap H).get? b = some o := fun e n => hidT_get e n
    have noA : ∀ {b : Addr} {o : Obj} {es : Array DictEntry} {ep : Nat}, s₁.heap.get? b = some o → o.data = .dict es ep → H b = none := fun {b o es ep} e d => by
      cases q : H b with
      | none => rfl
      | some u =>
        have e' : b = a := hA b (by rw [q]; simp)
        subst e'
        rw [ha] at e; cases e
        have d' : Data.seq vs.toArray _ = Data.dict es ep := d
        cases d'
    have nsK : ∀ {b : Addr} {m : Str → Option Value}, s₁.heap.Ns b m → (hidT s₁.heap H).Ns b m := fun {b m} ⟨o, es, ep, e, d, r⟩ => ⟨o, es, ep, base_of e (noA e d), d, r⟩
    have hKb : K.In (hidT s₁.heap H) := fun b o e => base_of (KX b o e) (by
      cases q : H b with
      | none => rfl
      | some u =>
        have e' : b = a := hA b (by rw [q]; simp)
        subst e'
        rw [hK (by rw [q]; simp)] at e; cases e)
    have hM : Mod K mg (hidT s₁.heap H) := ⟨hKb, nsK hns, ⟨mb, nsK hb, hbb⟩, let ⟨mc, h1, h2⟩ := hlim; ⟨mc, nsK h1, h2⟩⟩
    have e0 : Env0 P w K mg (hidT s₁.heap H) callerA [] s₁ H := ⟨rfl, hM, fun b o e => of_hidT e, Nat.le_of_eq (hidT_size _ _), trivial, fun b hb => absurd (show b ∈ ([] : List Addr) from hb) (by simp), hok, .of_eq hg⟩
    refine codeAny_mono ((F _ hKb (nsK hns)).run callerA [] s₁ H ⟨[.ref a], []⟩ [.ref a] [.ref a] _ _ hr e0 (hbind s₁ (.ref a)) (.cons rfl .nil) (hsp H hO hS)) fun r s' h => ?_
    cases r with
    | error e => exact (hCX H e s' h).elim
    | ok fl =>
      cases fl with
      | next => exact False.elim h
      | brk => exact False.elim h
      | cont => exact False.elim h
      | ret u =>
        obtain ⟨v, H', os, bare, un, hok', r', q⟩ := h
        have q' : v = .bl true := q
        subst q'
        obtain rfl : u = Value.bool true := r'
        refine ⟨rfl, OldK.of_keep fun b o e => ?_, os, bare⟩
        cases q : H b with
        | none => exact un.keep b o e q (by intro z; exact absurd (show b ∈ ([] : List Addr) from z) (by simp)) (by simp)
        | some u =>
          rcases hO b with z | ⟨ob, xs, z⟩
          · rw [q] at z; cases z
          · have z2 := un.frzs b ob _ z
            obtain ⟨e1, _⟩ := hok b _ z
            obtain ⟨e2, _⟩ := hok' b _ z2
            rw [e] at e1; cases e1
            exact e2
  cases hk : K.lookup a with
  | some o =>
    -- the script is one of the module's own objects
    have e := KX a o hk
    rw [ha] at e
    cases e
    refine core (fun _ => none) (fun _ => .inl rfl) (.inr ⟨_, vs.toArray, _, hk, rfl, rfl, rfl, by rw [List.size_toArray, lenV]; exact hl, by simpa using rv⟩) (fun b u z => by have z' : (none : Option HO) = some u := z; cases z') (fun b z => absurd rfl z) fun z => absurd rfl z
  | none =>
    refine core (fun b => if b = a then some (.frz { cls := .type "list", data := .seq vs.toArray } (.lst (ns.map V.int))) else none) (fun b => ?_) (.inl (.inr ⟨{ cls := .type "list", data := .seq vs.toArray }, if_pos rfl⟩)) (fun b u z => ?_) (fun b z => ?_) fun _ => hk
    · by_cases hb : b = a
      · exact .inr ⟨_, _, if_pos hb⟩
      · exact .inl (if_neg hb)
    · by_cases hb : b = a
      · have z' := (if_pos hb).symm.trans z
        cases z'
        subst hb
        exact ⟨ha, by rw [List.length_map]; exact hl, vs, _, rv, ha⟩
      · have z' := (if_neg hb).symm.trans z
        cases z'
    · by_cases hb : b = a
      · exact hb
      · exact absurd (if_neg hb) z
end L2
namespace L2
open PySem PySem.Spec PyProof.Rows
/-- the goal that k_head leaves (case hc), from the law's promise. F gives the function object fd (K's own) once, then the promise over every base -/
theorem walk_of {l : PySem.W.OpenLaw} {n k : Nat} {q : Program} {loose : List Str} {XP : (Str → Option Value) → Heap → Prop} {YP : World → Heap → Prop} {d : DefRec} {K : Params → PySem.W.Frag} {CX : World → CXT} {sp : World → Sp} {x : Str}
    (hn : l.most = some n) (hn2 : n ≤ sizeLine) (hdf : d.params.defaults = []) (hr : Room k callerA)
    (hY : ∀ (w : World) (h : Heap), YP w h → (K w.params).In h)
    (F : ∀ (w : World) (mg : Str → Option Value) (fa : Addr) (h : Heap), (K w.params).In h → h.Ns mainGlobals mg → mg d.name = some (.ref fa) →
      ∃ fd : FuncData, (∀ (s : Shared) (u : Value), BindsTo s fd ⟨[u], []⟩ [(x, u)]) ∧
        ∀ base : Heap, (K w.params).In base → base.Ns mainGlobals mg → FnOk l.prog w (K w.params) mg base (CX w) k fa fd [x] (sp w))
    (hsp : ∀ (w : World) (H : Hp) (a : Addr) (ns : List Int), ns.length ≤ n → Only H → SqL (K w.params) H a (ns.map V.int) → sp w [.ref a] H (fun v _ => v = .bl true) fun _ _ _ => False)
    (hCX : ∀ (w : World) (H : Hp) (s : Shared) (e : Value) (s' : Shared), CX w [] H s (fun _ _ _ => False) e s' → False) :
    PySem.W.WalkO q loose XP YP l.row.toRowW d [] (fun f vs => PySem.call f vs) := by
  refine Att.attach_call hn hdf fun w s₀ s₁ mg mb fa o pm cd doc a vs ns G Y ho hd hcd hmg hobj hints hlen hg => ?_
  have KX := hY w _ Y
  obtain ⟨fd, hb, hF⟩ := F w mg fa _ KX G.T.g hmg
  exact law_call KX G.T.g G.T.b G.T.builtins G.T.nolimit hg hobj hints (Nat.le_trans hlen hn2) hr hF hb (fun H hO hS => hsp w H a ns hlen hO hS) fun H e s' => hCX w H s₁ e s'
end L2
namespace L2
open PySem PySem.Spec PyProof.Rows
/-- the j-th statement of a class's body -/
def inClass (s : Stmt) (j : Nat) : Stmt := match s with
  | .ClassDef _ _ _ body _ _ _ _ _ _ _ => body.getD j (.Pass ⟨0, 0, 0, 0⟩)
  | _ => .Pass ⟨0, 0, 0, 0⟩
def defArgs (s : Stmt) : Arguments := match s with
  | .FunctionDef _ a _ _ _ _ _ _ _ _ => a
  | _ => { posonlyargs := [], args := [], vararg := none, kwonlyargs := [], kw_defaults := [], kwarg := none, defaults := [] }
def defBody (s : Stmt) : List Stmt := match s with
  | .FunctionDef _ _ b _ _ _ _ _ _ _ => b
  | _ => []
def defScope (s : Stmt) : Scope := match s with
  | .FunctionDef _ _ _ _ _ _ sc _ _ _ => sc
  | _ => { kind := .function, names := [], isGenerator := false, isCoroutine := false }
abbrev CX0 : CXT := fun _ _ _ _ _ _ => False
abbrev E0 : XK := fun _ _ _ => False
theorem pass0 {X : Cx} : Passes CX0 X E0 := fun _ _ _ _ _ _ _ h => h.elim
structure Fun (K : PySem.W.Frag) (x qual : Str) (st : Stmt) (f : Addr) (fd : FuncData) : Prop where
  ex : ∃ (oc : Value) (od : Option Addr) (kV doc pm : Value) (an : Option Addr) (cdv ct : Value) (osl : Array (Option Value)),
    fd = PySem.W.fnOf x qual (defArgs st) (defBody st) (defScope st) .none kV doc pm an cdv ct ∧ K.lookup f = some ⟨oc, od, .func fd, osl⟩ ∧ PySem.W.codeIn K cdv qual = true
  kp : PySem.W.keepIn K (.ref f) = true
section
variable {P : Program} {w : World} {K : PySem.W.Frag} {mg : Str → Option Value} {base : Heap}
/-- THE RULE for a def: its body as a term of rules, and the reading of that term -/
theorem Fun.ok {x qual : Str} {st : Stmt} {f : Addr} {fd : FuncData} {N ps : List Str} {k : Nat} {sp : Sp} (F : Fun K x qual st f fd) (S : FnScope N ps (defScope st)) (len : ∀ vs H Q E, sp vs H Q E → vs.length = ps.length)
    (hbody : ∀ (cdv : Value) (A : Around) (outer : List Env) (s : Shared) (H : Hp) (vs : List V) (Q : VK) (E : XK), Room k (A.deeper (envOfC qual (defScope st) s.heap.objs.size f cdv)) → sp vs H Q E →
      ∃ t, PSs (cxOf CX0 P w K mg base N qual (defScope st) f cdv A outer s H E).nox (defBody st) t ∧ t { nx := fun _ H' => Q .non H', rt := Q } (start N vs) H) : FnOk P w K mg base CX0 (k + 1) f fd ps sp := by
  obtain ⟨oc, od, kV, doc, pm, an, cdv, ct, osl, rfl, lk, hcd⟩ := F.ex
  refine fn_of lk hcd S len fun A outer s H vs Q E hr hsp => ?_
  obtain ⟨t, h, q⟩ := hbody cdv A outer s H vs Q E hr hsp
  exact ⟨t, h.nox, q⟩
/-- how its arguments bind (no defaults): h is «fun _ _ _ _ _ _ us hl => match us, hl with | [_, _], _ => rfl», one _ a parameter -/
theorem Fun.binds {x qual : Str} {st : Stmt} {f : Addr} {fd : FuncData} {ps : List Str} (F : Fun K x qual st f fd)
    (h : ∀ (kV doc pm : Value) (an : Option Addr) (cdv ct : Value) (us : List Value), us.length = ps.length → bindArgs (PySem.W.fnOf x qual (defArgs st) (defBody st) (defScope st) .none kV doc pm an cdv ct) ⟨us, []⟩ = pure (ps.zip us)) : Binds K fd ps [] := by
  obtain ⟨oc, od, kV, doc, pm, an, cdv, ct, osl, rfl, lk, hcd⟩ := F.ex
  exact .all (h kV doc pm an cdv ct)
theorem fun_mk {x qual : Str} {st : Stmt} {f : Addr} {oc : Value} {od an : Option Addr} {osl : Array (Option Value)} {kV doc pm cdv ct : Value} (l : K.lookup f = some ⟨oc, od, .func (PySem.W.fnOf x qual (defArgs st) (defBody st) (defScope st) .none kV doc pm an cdv ct), osl⟩)
    (c : PySem.W.codeIn K cdv qual = true) (k : PySem.W.keepIn K (.ref f) = true) : Fun K x qual st f (PySem.W.fnOf x qual (defArgs st) (defBody st) (defScope st) .none kV doc pm an cdv ct) := ⟨⟨oc, od, kV, doc, pm, an, cdv, ct, osl, rfl, l, c⟩, k⟩
end
section
variable {X : Cx}
theorem pv (i : Nat) {x : Str} {pos : Pos} (hN : X.N[i]? = some x := by rfl) (hv : Vis X.env.scope x := by first | exact Or.inl rfl | exact Or.inr (Or.inl rfl) | exact Or.inr (Or.inr rfl)) (hd : (x == ("__debug__" : Str)) = false := by decide)
    (hcd : (x == ("__classdict__" : Str)) = false := by decide) : PE X (.Name x pos) (tVar i) := pe_var hN hv hd hcd
end
theorem iteF {A B : Prop} (h : B) : if false = true then A else B := by
  rw [if_neg Bool.false_ne_true]
  exact h
theorem iteT {A B : Prop} (h : A) : if true = true then A else B := by
  rw [if_pos rfl]
  exact h
theorem iteNS {c A B : Prop} [Decidable c] (hc : c) (h : B) : if (!decide c) = true then A else B := by
  rw [decide_eq_true hc]
  exact iteF h
/-- all that was tracked is as it was -/
def Same (H H' : Hp) : Prop := ∀ b o, H b = some o → H' b = some o
theorem Same.refl (H : Hp) : Same H H := fun _ _ h => h
theorem Same.trans {H H1 H2 : Hp} (a : Same H H1) (b : Same H1 H2) : Same H H2 := fun c o h => b c o (a c o h)
theorem Same.free {H H' : Hp} (e : Same H H') {l : Addr} (h : H' l = Option.none) : H l = Option.none := by
  cases q : H l with
  | none => rfl
  | some o =>
    rw [e l o q] at h
    cases h
theorem Same.seq {K : PySem.W.Frag} {H H' : Hp} {a : Addr} {xs : List V} (e : Same H H') (h : SqL K H a xs) : SqL K H' a xs := by
  rcases h with (h | ⟨o, h⟩) | h
  · exact .inl (.inl (e _ _ h))
  · exact .inl (.inr ⟨o, e _ _ h⟩)
  · exact .inr h
end L2
namespace L2
open PySem PySem.Spec PyProof.Rows
section
variable {κ : Type} [DecidableEq κ]
def valV (kvs : List (κ × V)) (k : κ) : Option V := (kvs.find? fun kv => decide (kv.1 = k)).map (·.2)
/-- in its place, or at the end -/
def putK (kvs : List (κ × V)) (k : κ) (v : V) : List (κ × V) :=
  if (kvs.any fun kv => decide (kv.1 = k)) = true then kvs.map (fun kv => if kv.1 = k then (kv.1, v) else kv) else kvs ++ [(k, v)]
theorem RelO.getD {o : Option V} {u : Option Value} {d : V} {d' : Value} (r : RelO o u) (rd : RelV d d') : RelV (o.getD d) (u.getD d') := by
  cases o with
  | none => cases u with
    | none => exact rd
    | some _ => exact (show False from r).elim
  | some _ => cases u with
    | none => exact (show False from r).elim
    | some _ => exact r
theorem KV.any {kvs : List (κ × V)} {vs : List (κ × Value)} (r : KV kvs vs) (k : κ) : (kvs.any fun kv => decide (kv.1 = k)) = vs.any fun kv => decide (kv.1 = k) := by
  unfold KV at r
  induction r with
  | nil => rfl
  | cons h t ih => rw [List.any_cons, List.any_cons, ih, h.1]
theorem KV.keys {kvs : List (κ × V)} {vs : List (κ × Value)} (r : KV kvs vs) : kvs.map (·.1) = vs.map (·.1) := by
  unfold KV at r
  induction r with
  | nil => rfl
  | cons h t ih => rw [List.map_cons, List.map_cons, ih, h.1]
theorem KV.length {kvs : List (κ × V)} {vs : List (κ × Value)} (r : KV kvs vs) : kvs.length = vs.length := Paired.length r
end
/-- raw entries of a dict with tuple keys -/
abbrev KT (H : Hp) : List (List Key × V) → List (List Key × Addr × Value) → Prop := Paired fun p q => p.1 = q.1 ∧ H q.2.1 = some (.tup (p.1.map kV)) ∧ RelV p.2 q.2.2
theorem KT.keeps {H H' : Hp} {kvs : List (List Key × V)} {xs : List (List Key × Addr × Value)} (r : KT H kvs xs) (ht : ∀ b ys, H b = some (.tup ys) → H' b = some (.tup ys)) : KT H' kvs xs :=
  Paired.mapP r fun _ _ z => ⟨z.1, ht _ _ z.2.1, z.2.2⟩
section
variable {P : Program} {w : World} {H : Hp} {h : Heap} {a : Addr}
end
/-- what the dict at a holds at the key y -/
def DGet (H : Hp) (a : Addr) (y : V) (r : Option V) : Prop :=
  (∃ kvs k, Rd H a (.dK kvs) ∧ y = kV k ∧ r = valV kvs k) ∨ ∃ kvs k b, Rd H a (.dT kvs) ∧ y = .ref b ∧ H b = some (.tup (k.map kV)) ∧ r = valV kvs k
/-- the heap behind a[y] = v -/
def DPut (H : Hp) (a : Addr) (y v : V) (H' : Hp) : Prop :=
  (∃ kvs k, H a = some (.dK kvs) ∧ y = kV k ∧ kvs.length < sizeLine ∧ H' = upd H a (.dK (putK kvs k v))) ∨
  ∃ kvs k b, H a = some (.dT kvs) ∧ y = .ref b ∧ H b = some (.tup (k.map kV)) ∧ kvs.length < sizeLine ∧ H' = upd H a (.dT (putK kvs k v))
theorem DGet.k {H : Hp} {a : Addr} {kvs : List (Key × V)} {k : Key} (e : H a = some (.dK kvs)) : DGet H a (kV k) (valV kvs k) := .inl ⟨kvs, k, .inl e, rfl, rfl⟩
theorem DGet.t {H : Hp} {a b : Addr} {kvs : List (List Key × V)} {k : List Key} (e : H a = some (.dT kvs)) (eb : H b = some (.tup (k.map kV))) : DGet H a (.ref b) (valV kvs k) := .inr ⟨kvs, k, b, .inl e, rfl, eb, rfl⟩
theorem DPut.k {H : Hp} {a : Addr} {kvs : List (Key × V)} {k : Key} {v : V} (e : H a = some (.dK kvs)) (hl : kvs.length < sizeLine) : DPut H a (kV k) v (upd H a (.dK (putK kvs k v))) := .inl ⟨kvs, k, e, rfl, hl, rfl⟩
theorem DPut.t {H : Hp} {a b : Addr} {kvs : List (List Key × V)} {k : List Key} {v : V} (e : H a = some (.dT kvs)) (eb : H b = some (.tup (k.map kV))) (hl : kvs.length < sizeLine) :
    DPut H a (.ref b) v (upd H a (.dT (putK kvs k v))) := .inr ⟨kvs, k, b, e, rfl, eb, hl, rfl⟩
section
variable {X : Cx} {pins : List (Addr × Obj)} {σ : St} {H : Hp} {s : Shared} {a : Addr} {y v : V} {u r : Value} {o : Option V} {A : Around} {E : Value → Shared → Prop}
end
section
variable {X : Cx} {pins : List (Addr × Obj)} {σ : St} {H : Hp} {s : Shared} {a : Addr} {kvs : List (Key × V)} {k : Key} {u : Value} {A : Around} {E : Value → Shared → Prop}
end
section
variable {X : Cx} {o i e value : Expr} {pos pos' tpos : Pos} {td ty tv : TE}
end
section
variable {X : Cx} {pos : Pos}
end
section
variable {X : Cx} {pins : List (Addr × Obj)} {σ : St} {H : Hp} {s : Shared} {a : Addr} {y d : V} {u r : Value} {o : Option V} {A : Around} {E : Value → Shared → Prop}
end
section
variable {X : Cx} {o e f : Expr} {apos cpos : Pos} {td ty tx : TE}
end
section
variable {X : Cx} {pins : List (Addr × Obj)} {σ : St} {H : Hp} {s : Shared} {a : Addr} {kvs : List (Key × V)} {A : Around} {E : Value → Shared → Prop}
end
section
variable {X : Cx} {pins : List (Addr × Obj)} {σ : St} {H : Hp} {s : Shared} {a : Addr} {y : V} {u : Value} {A : Around} {E : Value → Shared → Prop}
end
end L2
namespace L2
open PySem PySem.Spec PyProof.Rows
section
variable {X : Cx}
end
section
variable {κ : Type} [DecidableEq κ]
end
end L2
set_option Elab.async false
set_option linter.all false
set_option maxRecDepth 100000
set_option maxHeartbeats 4000000
namespace L2
open PySem PySem.Spec PyProof.Rows
section
variable {P : Program} {w : World} {K : PySem.W.Frag} {mg : Str → Option Value} {base : Heap} {CX : CXT} {x : Str} {ps : List Str} {sp : Sp} {j k : Nat}
structure Def (P : Program) (w : World) (K : PySem.W.Frag) (mg : Str → Option Value) (base : Heap) (CX : CXT) (k : Nat) (x : Str) (ps : List Str) (sp : Sp) : Prop where
  ex : ∃ (f : Addr) (fd : FuncData), FnOk P w K mg base CX k f fd ps sp ∧ mg x = some (.ref f) ∧ PySem.W.keepIn K (.ref f) = true ∧ Binds K fd ps []
theorem Def.mono (D : Def P w K mg base CX j x ps sp) (h : j ≤ k) : Def P w K mg base CX k x ps sp :=
  let ⟨f, fd, F, a, b, c⟩ := D.ex
  ⟨f, fd, F.mono h, a, b, c⟩
def HasDef (K : PySem.W.Frag) (mg : Str → Option Value) (x : Str) (st : Stmt) : Prop := ∃ (f : Addr) (fd : FuncData), Fun K x x st f fd ∧ mg x = some (.ref f)
theorem HasDef.mk {st : Stmt} {f : Addr} {oc : Value} {od an : Option Addr} {osl : Array (Option Value)} {kV doc pm cdv ct : Value} (m : mg x = some (.ref f))
    (l : K.lookup f = some ⟨oc, od, .func (PySem.W.fnOf x x (defArgs st) (defBody st) (defScope st) .none kV doc pm an cdv ct), osl⟩)
    (c : PySem.W.codeIn K cdv x = true) (k : PySem.W.keepIn K (.ref f) = true) : HasDef K mg x st := ⟨f, _, fun_mk l c k, m⟩
/-- THE RULE for a def from which no exception leaves, whatever CX -/
theorem def_of {st : Stmt} {N : List Str} (h : HasDef K mg x st) (S : FnScope N ps (defScope st)) (len : ∀ vs H Q E, sp vs H Q E → vs.length = ps.length)
    (hb : ∀ (kV doc pm : Value) (an : Option Addr) (cdv ct : Value) (us : List Value), us.length = ps.length → bindArgs (PySem.W.fnOf x x (defArgs st) (defBody st) (defScope st) .none kV doc pm an cdv ct) ⟨us, []⟩ = pure (ps.zip us))
    (hbody : ∀ (f : Addr) (cdv : Value) (A : Around) (outer : List Env) (s : Shared) (H : Hp) (vs : List V) (Q : VK) (E : XK), Room k (A.deeper (envOfC x (defScope st) s.heap.objs.size f cdv)) → sp vs H Q E →
      ∃ t, PSs (cxOf CX P w K mg base N x (defScope st) f cdv A outer s H E).nox (defBody st) t ∧ t { nx := fun _ H' => Q .non H', rt := Q } (start N vs) H) : Def P w K mg base CX (k + 1) x ps sp := by
  obtain ⟨f, fd, F, m⟩ := h
  refine ⟨f, fd, ?_, m, F.kp, F.binds hb⟩
  obtain ⟨oc, od, kV, doc, pm, an, cdv, ct, osl, rfl, lk, hcd⟩ := F.ex
  refine fn_of lk hcd S len fun A outer s H vs Q E hr hsp => ?_
  obtain ⟨t, h, q⟩ := hbody f cdv A outer s H vs Q E hr hsp
  exact ⟨t, h.nox, q⟩
end
section
variable {X : Cx} {CX : CXT} {k m : Nat} {x : Str} {ps : List Str} {sp : Sp} {E : XK} {p pos : Pos} {e : Expr} {es : List Expr} {t : TA}
theorem pe_def (D : Def X.prog X.w X.K X.mg X.base CX k x ps sp) (hr : Room m X.A) (ha : PA X (e :: es) t) (hk : k ≤ m := by decide) (hx : Passes CX X E := by exact pass0) (hg : Gl X x := by rfl)
    (hdb : (x == ("__debug__" : Str)) = false := by decide) (he : starEach (e :: es) X.env = (false, eval e X.env) :: starEach es X.env := by rfl) (hpl : (backTo pos (starEach es X.env)).any (·.1) = false := by rfl) :
    PE X (.Call (.Name x p) (e :: es) [] pos) (tCall sp [] E t) := by
  obtain ⟨f, fd, F, hm, kp, b⟩ := D.ex
  exact pe_call F (hr.mono hk) hg hm kp b .nil hx ha hdb he hpl
end
def GlobIs (mg : Str → Option Value) (x : Str) (v : V) : Prop := ∃ u, mg x = some u ∧ RelV v u
theorem pe_gl {X : Cx} {x : Str} {v : V} {pos : Pos} (h : GlobIs X.mg x v) (hg : Gl X x := by rfl) (hd : (x == ("__debug__" : Str)) = false := by decide) : PE X (.Name x pos) (tC v) :=
  let ⟨_, e, r⟩ := h
  pe_glob hg e r hd
section
variable {X : Cx} {T : String} {pos : Pos}
theorem pe_ty {x : Str} (hg : Gl X x) (hm : X.mg x = none) (hv : bootBuiltins x = some (.type T)) (hn : x ≠ "__name__" := by decide) (hd : (x == ("__debug__" : Str)) = false := by decide) : PE X (.Name x pos) (tC (.ty T)) :=
  pe_bltn hg hm hv rfl hn hd
/-- the answer of isinstance for a class that is a value -/
def clsIs (K : PySem.W.Frag) (t : Value) : V → Option Bool
  | .ty T => PySem.W.kitOne K t (.type T)
  | .ref C => PySem.W.kitOne K t (.ref C)
  | _ => none
theorem call_isinstance : CallR X (.builtin "isinstance") (fun xs H Q => ∃ x c t b, xs = [x, c] ∧ TyOf X.K H x t ∧ clsIs X.K t c = some b ∧ Q (.bl b) H) := by
  intro pins s σ H xs us Q I r h
  obtain ⟨x, c, t, b, rfl, ty, e, q⟩ := h
  obtain ⟨u, v, rfl, ru, rv⟩ := vals2 r
  cases c with
  | ty T =>
    obtain rfl : v = Value.type T := rv
    exact isinst_ok I ru ty e fun tk => ⟨.bl b, H, I.tok _, rfl, q⟩
  | ref C =>
    obtain rfl : v = Value.ref C := rv
    exact isinst_ok I ru ty e fun tk => ⟨.bl b, H, I.tok _, rfl, q⟩
  | _ => cases e
end
section
variable {X : Cx}
end
section
variable {X : Cx}
section
variable {P : Program} {w : World} {K : PySem.W.Frag} {tg : Expr}
end
end
end L2
set_option Elab.async false
set_option linter.all false
set_option maxRecDepth 100000
set_option maxHeartbeats 4000000
namespace L2
open PySem PySem.Spec PyProof.Rows
def closOf (env : Env) : List (Str × NameKind) → Option (List (Str × Addr))
  | [] => some []
  | (n, k) :: r => if k = .free then (env.cells.lookup n).bind fun c => (closOf env r).map fun cl => cl ++ [(n, c)] else closOf env r
theorem closOf_lookup {env : Env} : ∀ {names : List (Str × NameKind)} {cl : List (Str × Addr)}, closOf env names = some cl → ∀ x c, cl.lookup x = some c → env.cells.lookup x = some c
  | [], cl, h, x, c, e => by
    cases (Option.some.inj h)
    cases e
  | (n, k) :: r, cl, h, x, c, e => by
    unfold closOf at h
    by_cases hk : k = .free
    · rw [if_pos hk] at h
      cases hc : env.cells.lookup n with
      | none => rw [hc] at h; cases h
      | some c' =>
        rw [hc] at h
        have h : (closOf env r).map (fun cl => cl ++ [(n, c')]) = some cl := h
        cases hr : closOf env r with
        | none => rw [hr] at h; cases h
        | some cl' =>
          rw [hr] at h
          have h : cl' ++ [(n, c')] = cl := Option.some.inj h
          subst h
          rw [List.lookup_append] at e
          cases h2 : cl'.lookup x with
          | some c2 =>
            rw [h2] at e
            have e : c2 = c := by simpa using e
            subst e
            exact closOf_lookup hr x c2 h2
          | none =>
            rw [h2] at e
            have e : List.lookup x [(n, c')] = some c := by simpa using e
            by_cases hx : x = n
            · subst hx
              have : c' = c := by simpa using e
              subst this
              exact hc
            · have hb : (x == n) = false := by simpa using hx
              simp [List.lookup_cons, hb] at e
    · rw [if_neg hk] at h
      exact closOf_lookup h x c e
theorem closureFor_go {env : Env} : ∀ (names : List (Str × NameKind)) (acc cl : List (Str × Addr)), closOf env names = some cl →
    (forIn (m := Sem) names acc fun x c => if x.2 == NameKind.free then (do let a ← cellOf env x.1; pure (ForInStep.yield ((x.1, a) :: c))) else pure (ForInStep.yield c)) = pure (cl ++ acc)
  | [], acc, cl, h => by
    cases (Option.some.inj h)
    rfl
  | (n, k) :: r, acc, cl, h => by
    unfold closOf at h
    rw [List.forIn_cons]
    by_cases hk : k = .free
    · rw [if_pos hk] at h
      cases hc : env.cells.lookup n with
      | none => rw [hc] at h; cases h
      | some c' =>
        rw [hc] at h
        have h : (closOf env r).map (fun cl => cl ++ [(n, c')]) = some cl := h
        cases hr : closOf env r with
        | none => rw [hr] at h; cases h
        | some cl' =>
          rw [hr] at h
          have h : cl' ++ [(n, c')] = cl := Option.some.inj h
          subst h
          have hb : (k == NameKind.free) = true := by simpa using hk
          have := closureFor_go r ((n, c') :: acc) cl' hr
          have ec : cellOf env n = pure c' := by unfold cellOf; rw [hc]
          simp only [hb, if_true, ec, pure_bind, bind_assoc]
          rw [this]
          simp
    · rw [if_neg hk] at h
      have hb : (k == NameKind.free) = false := by simpa using hk
      have := closureFor_go r acc cl h
      simp only [hb, Bool.false_eq_true, if_false, pure_bind]
      exact this
theorem closureFor_of {env : Env} {scope : Scope} {cl : List (Str × Addr)} (h : closOf env scope.names = some cl) : closureFor scope env = pure cl := by
  have := closureFor_go scope.names [] cl h
  rw [List.append_nil] at this
  have key : closureFor scope env = (forIn (m := Sem) scope.names ([] : List (Str × Addr)) fun x c => if x.2 == NameKind.free then (do let a ← cellOf env x.1; pure (ForInStep.yield ((x.1, a) :: c))) else pure (ForInStep.yield c)) >>= fun cs => pure cs := by
    unfold closureFor
    rfl
  rw [key, this]
  rfl
theorem comp_loop {prog : Program} {w : World} {A : Around} {R : Result → Shared → Prop} {s : Shared} {elt target iter : Expr} {ifs : List Expr} {scope : Scope} {pos : Pos} {it acc : Value} {env : Env} (I : Nat → Shared → Prop)
    (turn : ∀ n s, I n s → wpAny (model prog w) A (pyNext it) (fun r s₁ => match r with
      | none => R (.ok .next) s₁
      | some v => wpAny (model prog w) A (letOwnedTupleGo target it v) (fun _ s₀ => wpAny (model prog w) A (assign target env v) (fun _ s₂ =>
          wpAny (model prog w) A (forIn ifs true fun c r => if r = true then do let ok ← isTrue c env (eval c env); pure (ForInStep.yield ok) else pure (ForInStep.yield r)) (fun ok s₃ =>
            if ok = true then wpAny (model prog w) A (eval elt env) (fun x s₄ =>
              wpAny (model prog w) A (call (.builtin "list.append") [acc, x]) (fun _ s₅ => ∃ m, m < n ∧ I m s₅) (fun _ _ => False) s₄) (fun _ _ => False) s₃
            else ∃ m, m < n ∧ I m s₃) (fun _ _ => False) s₂) (fun _ _ => False) s₀) (fun _ _ => False) s₁) (fun _ _ => False) s)
    (n : Nat) (h : I n s) :
    codeAny (model prog w) A (.compLoop (.ListComp elt [⟨target, iter, ifs, 0⟩] scope pos) 0 it acc env) R s := by
  refine codeAny_loop rfl I (fun n s hI => ?_) n h
  show wpAny _ A ((compTurn (.ListComp elt [⟨target, iter, ifs, 0⟩] scope pos) 0 it acc env).onRaise (fun x => do noteFrame x env; theTreesLotGoes x)) _ _ s
  refine wpAny_noted ?_
  rw [compTurn_list]
  refine wpAny_bind (wpAny_standAt (wpAny_bind (wpAny_mono (turn n s hI) (fun r s₁ h₁ => ?_) fun _ _ h' => h'.elim)))
  cases r with
  | none => exact wpAny_pure h₁
  | some v =>
    refine wpAny_bind (wpAny_mono h₁ (fun _ s₀ h₀ => ?_) fun _ _ h' => h'.elim)
    refine wpAny_bind (wpAny_mono h₀ (fun _ s₂ h₂ => wpAny_bind (wpAny_mono h₂ (fun ok s₃ h₃ => ?_) fun _ _ h' => h'.elim)) fun _ _ h' => h'.elim)
    cases ok with
    | false => exact wpAny_pure ⟨rfl, h₃⟩
    | true =>
      exact wpAny_bind (wpAny_bind (wpAny_mono h₃ (fun x s₄ h₄ => wpAny_bind (wpAny_mono h₄ (fun _ s₅ h₅ => wpAny_pure (wpAny_pure ⟨rfl, h₅⟩)) fun _ _ h' => h'.elim)) fun _ _ h' => h'.elim))
/-- the context of a comprehension's block: its own frame at C, the names N, the closure cl; entered at s, H; fp: the iterator's objects -/
def cxComp (X : Cx) (N : List Str) (scope : Scope) (cl : List (Str × Addr)) (pins : List (Addr × Obj)) (s : Shared) (H : Hp) (fp : List Addr) : Cx where
  prog := X.prog
  w := X.w
  K := X.K
  mg := X.mg
  base := X.base
  A := X.A
  N := N
  s₀ := s
  H₀ := H
  env := compEnvC scope cl s.heap.objs.size X.env
  outer := X.stack
  stack := X.stack
  ex := fp
  fn := fun _ => false
  calm := X.calm
  pn := X.pn ++ pins
  xe := fun _ _ => False
/-- the values of the block's names at its entry: nt of its own, none yet; then those of the block around, by their places there -/
def compStart0 (nt : Nat) (fr : List Nat) (σ : St) : St := List.replicate nt none ++ fr.map fun i => (σ[i]?).getD none
/-- how the block's names N stand to the names of the code around: nt own ones, then free ones, the i-th of which is the fr i-th there -/
structure CompNames (X : Cx) (N : List Str) (nt : Nat) (fr : List Nat) (scope : Scope) (cl : List (Str × Addr)) : Prop where
  len : N.length = nt + fr.length
  free : ∀ (j : Nat) (i : Nat) (x : Str), fr[j]? = some i → N[nt + j]? = some x → X.N[i]? = some x ∧ (∃ c, cl.lookup x = some c) ∧ (X.env.kindOf x = some .cell ∨ X.env.kindOf x = some .free) ∧
    ((relabel scope X.env).names.lookup x = some .cell ∨ (relabel scope X.env).names.lookup x = some .free)
  cells : ∀ x c, cl.lookup x = some c → X.env.cells.lookup x = some c
  has : ∀ x, ((relabel scope X.env).names.lookup x = some .cell ∨ (relabel scope X.env).names.lookup x = some .free) → ∃ c, cl.lookup x = some c
  kind : scope.kind = .function
theorem Vis_of_cell {X : Cx} {x : Str} (h : X.env.kindOf x = some .cell ∨ X.env.kindOf x = some .free) : Vis X.env.scope x := by
  rcases h with h | h
  · exact .inr (.inl h)
  · exact .inr (.inr h)
section
variable {X : Cx} {N : List Str} {nt : Nat} {fr : List Nat} {scope : Scope} {cl : List (Str × Addr)} {pins : List (Addr × Obj)} {σ : St} {H : Hp} {s : Shared} {fp : List Addr}
theorem comp_ok (I : Inv X pins σ H s) (cn : CompNames X N nt fr scope cl) (hf : ∀ b ∈ fp, FpOk X pins H b) (ho : ∀ b ∈ fp, b < s.heap.objs.size) : (cxComp X N scope cl pins s H fp).Ok where
  mod := I.mod
  kind := cn.kind
  glob := I.ok.glob
  blt := I.ok.blt
  above := Nat.le_refl _
  inj := fun x y c h1 h2 => I.ok.inj x y c (cn.cells x c h1) (cn.cells y c h2)
  has := fun x hx => cn.has x hx
  cab := fun x c h _ => by cases (show false = true from h)
  hd := I.ok.hd
  frames := I.ok.frames
  stk := .inl rfl
  exf := fun b hb => ⟨Nat.ne_of_lt (ho b hb), fun x c e => (hf b hb).2.2.2.2.1 x c (cn.cells x c e)⟩
  bs := I.bs
  bsz := Nat.le_trans I.ok.bsz I.sz
  noex := fun b o e hb => by
    rcases (hf b hb).2.2.2.1 with z | z
    · exact I.ok.noex b o e z
    · exact absurd (Nat.lt_of_lt_of_le (Heap.lt_size e) (Nat.le_trans I.ok.bsz z)) (Nat.lt_irrefl _)
  exfs := fun b hb z => (List.mem_cons.mp (I.stkSub b z)).elim (fun e => (hf b hb).2.1 e) fun e => (hf b hb).2.2.1 e
  funs := I.stack
  frf := I.stkFree
theorem comp_inv {h4 : Heap} {t' : Nat} (I : Inv X pins σ H s) (cn : CompNames X N nt fr scope cl) (hf : ∀ b ∈ fp, FpOk X pins H b) (ho : ∀ b ∈ fp, b < s.heap.objs.size)
    (k : ∀ b o, s.heap.get? b = some o → h4.get? b = some o) (hns : ∃ m, h4.Ns s.heap.objs.size m) : Inv (cxComp X N scope cl pins s H fp) [] (compStart0 nt fr σ) H { s with heap := h4, toks := t' } := by
  have ck : ∀ {c : Addr} {v : Option Value}, s.heap.IsCell c v → h4.IsCell c v := fun ⟨o, e, d⟩ => ⟨o, k _ o e, d⟩
  refine ⟨comp_ok I cn hf ho, rfl, I.bare, Un.kept k, ?_, fun x c e => ?_, ?_, fun x c e => ?_, fun p hp => ?_, I.hok.kept k, ?_⟩
  · obtain ⟨m, hm⟩ := hns
    refine ⟨m, hm, fun i x v e1 e2 _ => ?_⟩
    have e2 : (compStart0 nt fr σ)[i]? = some (some v) := e2
    have e1 : N[i]? = some x := e1
    unfold compStart0 at e2
    by_cases hi : i < nt
    · rw [List.getElem?_append_left (by simpa using hi), List.getElem?_replicate, if_pos hi] at e2
      cases e2
    · obtain ⟨j, rfl⟩ : ∃ j, i = nt + j := ⟨i - nt, by omega⟩
      rw [List.getElem?_append_right (by simp), List.length_replicate, Nat.add_sub_cancel_left, List.getElem?_map] at e2
      cases hj : fr[j]? with
      | none => rw [hj] at e2; cases e2
      | some i' =>
        rw [hj] at e2
        have e2 : (σ[i']?).getD none = some v := Option.some.inj e2
        have e3 : σ[i']? = some (some v) := by
          cases q : σ[i']? with
          | none => rw [q] at e2; cases e2
          | some o => rw [q] at e2; rw [show o = some v from e2]
        obtain ⟨hN, ⟨c, hc⟩, hk, hk'⟩ := cn.free j i' x hj e1
        obtain ⟨m0, _, hl⟩ := I.loc
        obtain ⟨u, r, l⟩ := hl i' x v hN e3 (Vis_of_cell hk)
        refine ⟨u, r, .inr ⟨hk', c, hc, ?_⟩⟩
        rcases l with ⟨hl', _⟩ | ⟨_, c', hc', hcell⟩
        · rcases hk with z | z <;> (rw [hl'] at z; cases z)
        · have hcc := cn.cells x c hc
          rw [hc'] at hcc; cases hcc
          exact ck hcell
  · obtain ⟨v, hv⟩ := I.cell x c (cn.cells x c e)
    exact ⟨v, ck hv⟩
  · exact I.hok.fresh (Nat.le_refl _)
  · exact I.freeC x c (cn.cells x c e)
  · have hp : p ∈ (X.pn ++ pins) ++ [] := hp
    rw [List.append_nil] at hp
    obtain ⟨e, n, ne, nf, d⟩ := I.pin p hp
    exact ⟨k p.1 p.2 e, n, Nat.ne_of_lt (Heap.lt_size e), fun z => (List.mem_cons.mp (I.stkSub p.1 z)).elim ne nf, d⟩
  · show (compStart0 nt fr σ).length = N.length
    unfold compStart0
    rw [cn.len, List.length_append, List.length_replicate, List.length_map]
/-- behind the block -/
theorem comp_back {H' : Hp} {s1 s' : Shared} {h' : Heap} {σ' : St} (I : Inv X pins σ H s) (hsz : s.heap.objs.size ≤ s1.heap.objs.size) (hos : s1.os = s.os) {H1 : Hp} (hH : Un (frs X.stack) fp H H1 s.heap s1.heap)
    (hf : ∀ b ∈ fp, FpOk X pins H b)
    (J : Inv (cxComp X N scope cl pins s1 H1 fp) [] σ' H' s') (sb : Heap.SameBut s1.heap.objs.size s'.heap h') : Inv X pins σ H' { s' with heap := h' } := by
  have u : Un (frs X.stack) fp H H' s.heap s'.heap := hH.trans J.base
  have lt : ∀ b o, s.heap.get? b = some o → b ≠ s1.heap.objs.size := fun b o e => Nat.ne_of_lt (Nat.lt_of_lt_of_le (Heap.lt_size e) hsz)
  have kk : ∀ b o, b ≠ s1.heap.objs.size → s'.heap.get? b = some o → h'.get? b = some o := fun b o hb e => sb.extBut b o hb e
  have u' : Un (frs X.stack) fp H H' s.heap h' := ⟨fun b o e n hb hx => kk b o (lt b o e) (u.keep b o e n hb hx), fun b o e n hb hx => let ⟨sl, z⟩ := u.slot b o e n hb hx; ⟨sl, kk b _ (lt b o e) z⟩, u.free,
    fun b o e hx => let ⟨o', z⟩ := u.there b o e hx; ⟨o', kk b o' (lt b o e) z⟩, u.tups, u.frzs, u.tbls⟩
  have nC : H' s1.heap.objs.size = none := J.free
  refine I.call' (s' := { s' with heap := h' }) (ch := fp) (J.os.trans hos) u' (fun a o e => ?_) J.bare fun b hb => ⟨(hf b hb).2.2.2.1, (hf b hb).2.1, (hf b hb).2.2.2.2.1, (hf b hb).2.2.2.2.2⟩
  refine (J.hok a o e).stay (fun b v hb q => kk b v ?_ q) (fun _ q => q) fun _ _ q => q
  rcases hb with z | z
  · rintro rfl
    rw [← z, nC] at e; cases e
  · rintro rfl
    rw [nC] at z; cases z
end
def freeB (X : Cx) (N : List Str) (nt : Nat) (scope : Scope) : List Nat → Nat → Bool
  | [], _ => true
  | i :: r, j => (match N[nt + j]? with
    | some x => decide (X.N[i]? = some x) && decide (scope.names.lookup x = some .free) && (decide (X.env.kindOf x = some .cell) || decide (X.env.kindOf x = some .free))
    | none => false) && freeB X N nt scope r (j + 1)
theorem freeB_at {X : Cx} {N : List Str} {nt : Nat} {scope : Scope} : ∀ {fr : List Nat} {k : Nat}, freeB X N nt scope fr k = true → ∀ (j i : Nat) (x : Str), fr[j]? = some i → N[nt + (k + j)]? = some x →
    X.N[i]? = some x ∧ scope.names.lookup x = some .free ∧ (X.env.kindOf x = some .cell ∨ X.env.kindOf x = some .free)
  | [], _, _, j, i, x, e, _ => by simp at e
  | i0 :: r, k, h, j, i, x, e1, e2 => by
    unfold freeB at h
    rw [Bool.and_eq_true] at h
    obtain ⟨h1, h2⟩ := h
    cases j with
    | zero =>
      have e1 : i0 = i := by simpa using e1
      subst e1
      rw [Nat.add_zero] at e2
      rw [e2] at h1
      simp only [Bool.and_eq_true, Bool.or_eq_true, decide_eq_true_eq] at h1
      exact ⟨h1.1.1, h1.1.2, h1.2⟩
    | succ j =>
      exact freeB_at h2 j i x (by simpa using e1) (by rw [show nt + (k + 1 + j) = nt + (k + (j + 1)) by omega]; exact e2)
theorem lookup_relabel {env : Env} : ∀ {names : List (Str × NameKind)} {x : Str} {k' : NameKind},
    (names.map fun (n, k) => if (k == NameKind.free && env.scope.kind == .function && env.kindOf n == some .cell) then (n, NameKind.cell) else (n, k)).lookup x = some k' →
    ∃ k, names.lookup x = some k ∧ (k = k' ∨ (k = .free ∧ k' = .cell))
  | [], _, _, h => by simp at h
  | (n, k) :: r, x, k', h => by
    have h : List.lookup x ((if (k == NameKind.free && env.scope.kind == .function && env.kindOf n == some .cell) = true then (n, NameKind.cell) else (n, k)) :: r.map _) = some k' := h
    cases hx : x == n with
    | true =>
      by_cases hc : (k == NameKind.free && env.scope.kind == .function && env.kindOf n == some .cell) = true
      · rw [if_pos hc] at h
        simp only [List.lookup_cons, hx] at h
        have hk : k = .free := by
          simp only [Bool.and_eq_true, beq_iff_eq] at hc
          exact hc.1.1
        exact ⟨k, by simp [List.lookup_cons, hx], .inr ⟨hk, (Option.some.inj h).symm⟩⟩
      · rw [if_neg hc] at h
        simp only [List.lookup_cons, hx] at h
        exact ⟨k, by simp [List.lookup_cons, hx], .inl (Option.some.inj h)⟩
    | false =>
      have h2 : List.lookup x (r.map fun (n, k) => if (k == NameKind.free && env.scope.kind == .function && env.kindOf n == some .cell) then (n, NameKind.cell) else (n, k)) = some k' := by
        by_cases hc : (k == NameKind.free && env.scope.kind == .function && env.kindOf n == some .cell) = true
        · rw [if_pos hc] at h; simpa only [List.lookup_cons, hx] using h
        · rw [if_neg hc] at h; simpa only [List.lookup_cons, hx] using h
      obtain ⟨k2, e2, o2⟩ := lookup_relabel h2
      exact ⟨k2, by simp only [List.lookup_cons, hx]; exact e2, o2⟩
theorem relabel_free {env : Env} : ∀ {names : List (Str × NameKind)} {x : Str}, names.lookup x = some .free →
    (names.map fun (n, k) => if (k == NameKind.free && env.scope.kind == .function && env.kindOf n == some .cell) then (n, NameKind.cell) else (n, k)).lookup x = some .cell ∨
    (names.map fun (n, k) => if (k == NameKind.free && env.scope.kind == .function && env.kindOf n == some .cell) then (n, NameKind.cell) else (n, k)).lookup x = some .free
  | [], _, h => by simp at h
  | (n, k) :: r, x, h => by
    show List.lookup x ((if (k == NameKind.free && env.scope.kind == .function && env.kindOf n == some .cell) = true then (n, NameKind.cell) else (n, k)) :: r.map _) = some .cell ∨ List.lookup x ((if (k == NameKind.free && env.scope.kind == .function && env.kindOf n == some .cell) = true then (n, NameKind.cell) else (n, k)) :: r.map _) = some .free
    cases hx : x == n with
    | true =>
      simp only [List.lookup_cons, hx] at h
      cases h
      by_cases hc : (NameKind.free == NameKind.free && env.scope.kind == .function && env.kindOf n == some .cell) = true
      · rw [if_pos hc]; left; simp [List.lookup_cons, hx]
      · rw [if_neg hc]; right; simp [List.lookup_cons, hx]
    | false =>
      simp only [List.lookup_cons, hx] at h
      have ih := relabel_free (env := env) h
      by_cases hc : (k == NameKind.free && env.scope.kind == .function && env.kindOf n == some .cell) = true
      · rw [if_pos hc]; simpa only [List.lookup_cons, hx] using ih
      · rw [if_neg hc]; simpa only [List.lookup_cons, hx] using ih
theorem closOf_has {env : Env} : ∀ {names : List (Str × NameKind)} {cl : List (Str × Addr)}, closOf env names = some cl → ∀ x, names.lookup x = some .free → ∃ c, cl.lookup x = some c
  | [], _, _, x, e => by simp at e
  | (n, k) :: r, cl, h, x, e => by
    unfold closOf at h
    by_cases hk : k = .free
    · rw [if_pos hk] at h
      cases hc : env.cells.lookup n with
      | none => rw [hc] at h; cases h
      | some c' =>
        rw [hc] at h
        have h : (closOf env r).map (fun cl => cl ++ [(n, c')]) = some cl := h
        cases hr : closOf env r with
        | none => rw [hr] at h; cases h
        | some cl' =>
          rw [hr] at h
          have h : cl' ++ [(n, c')] = cl := Option.some.inj h
          subst h
          rw [List.lookup_append]
          cases h2 : cl'.lookup x with
          | some c2 => exact ⟨c2, by simp⟩
          | none =>
            cases hx : x == n with
            | true => exact ⟨c', by simp [List.lookup_cons, hx]⟩
            | false =>
              simp only [List.lookup_cons, hx] at e
              obtain ⟨c3, e3⟩ := closOf_has hr x e
              rw [h2] at e3; cases e3
    · rw [if_neg hk] at h
      cases hx : x == n with
      | true =>
        simp only [List.lookup_cons, hx] at e
        exact absurd (Option.some.inj e) hk
      | false =>
        simp only [List.lookup_cons, hx] at e
        exact closOf_has h x e
theorem CompNames.of {X : Cx} {N : List Str} {nt : Nat} {fr : List Nat} {scope : Scope} {cl : List (Str × Addr)} (hcl : closOf X.env scope.names = some cl) (hlen : N.length = nt + fr.length) (hB : freeB X N nt scope fr 0 = true)
    (hcell : ∀ y ∈ scope.names, y.2 ≠ .cell) (hkind : scope.kind = .function) : CompNames X N nt fr scope cl where
  len := hlen
  free := fun j i x e1 e2 => by
    obtain ⟨h1, h2, h3⟩ := freeB_at hB j i x e1 (by rw [Nat.zero_add]; exact e2)
    exact ⟨h1, closOf_has hcl x h2, h3, relabel_free h2⟩
  cells := closOf_lookup hcl
  has := fun x hx => by
    have : scope.names.lookup x = some .free := by
      rcases hx with hx | hx
      · obtain ⟨k, e, o⟩ := lookup_relabel (names := scope.names) (env := X.env) hx
        rcases o with rfl | ⟨rfl, _⟩
        · exact absurd rfl (hcell _ (PySem.mem_of_lookup e))
        · exact e
      · obtain ⟨k, e, o⟩ := lookup_relabel (names := scope.names) (env := X.env) hx
        rcases o with rfl | ⟨rfl, _⟩
        · exact e
        · exact e
    exact closOf_has hcl x this
  kind := hkind
def PIf (X : Cx) (ifs : List Expr) (t : TT) : Prop :=
  ∀ (pins : List (Addr × Obj)) (s : Shared) (σ : St) (H : Hp) (Q : Bool → Hp → Prop), Inv X pins σ H s → t σ H Q →
    wpAny (model X.prog X.w) X.A (forIn ifs true fun c r => if r = true then do let ok ← isTrue c X.env (eval c X.env); pure (ForInStep.yield ok) else pure (ForInStep.yield r)) (TP X pins σ Q) X.xe s
def tTrue : TT := fun _ H Q => Q true H
theorem pif_nil {X : Cx} : PIf X [] tTrue := fun _ _ _ H _ I h => wpAny_pure ⟨H, I, h⟩
theorem pif_one {X : Cx} {c : Expr} {t : TT} (h : PT X c t) : PIf X [c] t := by
  intro pins s σ H Q I hw
  rw [List.forIn_cons]
  simp only [if_true]
  refine wpAny_bind (wpAny_bind (thn (h pins s σ H Q I hw) fun b s1 q => wpAny_pure ?_))
  exact wpAny_pure q
/-- W: turn, measure, the block's names, the list so far, the heap -/
def CompGoal (J : It) (nt : Nat) (fr : List Nat) (g : TG) (c : TT) (te : TE) (σ : St) (H1 : Hp) (Q : VK) (acc : Addr) : Prop :=
  ∃ W : Nat → Nat → St → List V → Hp → Prop, (∃ m, W 0 m (compStart0 nt fr σ) [] (upd H1 acc (.lst []))) ∧ ∀ i m σ' ys H', W i m σ' ys H' → H' acc = some (.lst ys) ∧
    ((J.stop i H' ∧ Q (.ref acc) H') ∨ (J.go i H' ∧ ∀ x H2, J.yld i H' x H2 → g x σ' H2 fun σ2 H3 => c σ2 H3 fun b H4 => if b = true then
      te σ2 H4 fun y H5 => ys.length < sizeLine ∧ H5 acc = some (.lst ys) ∧ ∃ m', m' < m ∧ W (i + 1) m' σ2 (ys ++ [y]) (upd H5 acc (.lst (ys ++ [y])))
      else ∃ m', m' < m ∧ W (i + 1) m' σ2 ys H4))
def tComp (wi : TI) (nt : Nat) (fr : List Nat) (g : TG) (c : TT) (te : TE) : TE := fun σ H Q => wi σ H fun J H1 => ∀ acc, H1 acc = none → CompGoal J nt fr g c te σ H1 Q acc
section
variable {X : Cx} {target iter elt : Expr} {ifs : List Expr} {scope : Scope} {pos : Pos} {N : List Str} {nt : Nat} {fr : List Nat} {cl : List (Str × Addr)} {wi : TI} {g : TG} {c : TT} {te : TE}
theorem comp_fp {pins : List (Addr × Obj)} {σ : St} {H H1 : Hp} {s : Shared} {fp : List Addr} (I : Inv X pins σ H s) (cn : CompNames X N nt fr scope cl) (hf : ∀ b ∈ fp, FpOk X pins H b) (ho : ∀ b ∈ fp, b < s.heap.objs.size) {H' : Hp} (hn : ∀ b ∈ fp, H' b = none) :
    ∀ b ∈ fp, FpOk (cxComp X N scope cl pins s H1 fp) [] H' b := fun b hb =>
  ⟨hn b hb, Nat.ne_of_lt (ho b hb), fun z => (List.mem_cons.mp (I.stkSub b z)).elim (hf b hb).2.1 (hf b hb).2.2.1, .inl hb, fun x c e => (hf b hb).2.2.2.2.1 x c (cn.cells x c e), fun p hp => (hf b hb).2.2.2.2.2 p (by
    have hp : p ∈ (X.pn ++ pins) ++ [] := hp
    rw [List.append_nil] at hp
    exact hp)⟩
/-- the block, from the iterator on -/
theorem comp_block {pins : List (Addr × Obj)} {σ : St} {s : Shared} {Q : VK} {itv : Value} {RR : Value → Addr → Result → Shared → Prop} {E : Value → Shared → Prop}
    (hc : X.calm = true) (cn : CompNames X N nt fr scope cl) (hcell : ∀ y ∈ scope.names, y.2 ≠ .cell)
    (hg : ∀ pins s H fp, PG (cxComp X N scope cl pins s H fp) target g) (hif : ∀ pins s H fp, PIf (cxComp X N scope cl pins s H fp) ifs c) (he : ∀ pins s H fp, PE (cxComp X N scope cl pins s H fp) elt te)
    (h : PIE X pins σ target (fun J H1 => ∀ acc, H1 acc = none → CompGoal J nt fr g c te σ H1 Q acc) itv s)
    (hRR : ∀ (acc C : Addr) (s' : Shared) (H' : Hp), (∃ m, s'.heap.Ns C m) → Inv X pins σ H' s' → FpOk X pins H' C → Q (.ref acc) H' → RR (.ref acc) C (.ok .next) s') :
    wpAny (model X.prog X.w) X.A (newList []) (fun acc s₃ => wpAny (model X.prog X.w) X.A (newFunctionEnv scope X.env.globals cl [] X.env.qual none .none (some X.env)) (fun cenv s₄ =>
      codeAny (model X.prog X.w) X.A (.compStart (.ListComp elt [⟨target, iter, ifs, 0⟩] scope pos) 0 itv acc { cenv with scope := relabel scope X.env }) (RR acc cenv.locals) s₄) E s₃) E s := by
  obtain ⟨it, fp, tn, J, H2, e, I2, T, st2, f2, R⟩ := h
  subst e
  have fo : ∀ b ∈ fp, b < s.heap.objs.size := fun b hb => let ⟨o, e, _⟩ := T.obj 0 _ st2 b hb; Heap.lt_size e
  refine wpAny_newObj_type (wpAny_newFunctionEnv hcell (by intro y hy; simp at hy) (fun h₁ hns₁ hsb₁ => ?_) cn.kind)
  dsimp only at hns₁ hsb₁ ⊢
  have ha : H2 s.heap.objs.size = none := I2.hok.fresh (Nat.le_refl _)
  have I3 : Inv X pins σ (upd H2 s.heap.objs.size (.lst [])) { s with heap := s.heap.push { cls := .type "list", data := .seq ([] : List Value).toArray } } :=
    I2.laid (t' := s.toks) (fun b u e => Heap.get?_push_of_some _ e) (Nat.le_refl _) ⟨Nat.zero_le _, [], 0, .nil, Heap.get?_push_size _ rfl⟩
  generalize hs3 : ({ s with heap := s.heap.push { cls := .type "list", data := .seq ([] : List Value).toArray } } : Shared) = s3 at I3
  have hh3 : s3.heap = s.heap.push { cls := .type "list", data := .seq ([] : List Value).toArray } := by rw [← hs3]
  have hsz : s3.heap.objs.size = s.heap.objs.size + 1 := by rw [hh3, Heap.size_push]
  have fne : ∀ b ∈ fp, b ≠ s.heap.objs.size := fun b hb => Nat.ne_of_lt (fo b hb)
  have f3 : ∀ b ∈ fp, FpOk X pins (upd H2 s.heap.objs.size (.lst [])) b := fun b hb => ⟨by rw [upd_ne (fne b hb)]; exact (f2 b hb).1, (f2 b hb).2⟩
  have fo3 : ∀ b ∈ fp, b < s3.heap.objs.size := fun b hb => by rw [hsz]; exact Nat.lt_succ_of_lt (fo b hb)
  have k3 : ∀ b o, s3.heap.get? b = some o → h₁.get? b = some o := fun b o e => hsb₁.extBut b o (by rw [← hh3]; exact Nat.ne_of_lt (Heap.lt_size e)) (by rw [← hh3]; exact Heap.get?_push_of_some _ e)
  have hns : ∃ m, h₁.Ns s3.heap.objs.size m := ⟨_, by rw [hh3]; exact hns₁⟩
  have I4 : Inv (cxComp X N scope cl pins s3 (upd H2 s.heap.objs.size (.lst [])) fp) [] (compStart0 nt fr σ) (upd H2 s.heap.objs.size (.lst [])) { s3 with heap := h₁, toks := s3.toks + ([] : List (Str × Value)).length } := comp_inv I3 cn f3 fo3 k3 hns
  have st4 : tn 0 h₁ := T.keep 0 _ _ st2 fun b hb o e => k3 b o (by rw [hh3]; exact Heap.get?_push_of_some _ e)
  obtain ⟨W, ⟨m0, w0⟩, turn⟩ := R s.heap.objs.size ha
  have stat : ∀ {H' : Hp}, (∀ b ∈ fp, H' b = none) → ∀ b ∈ fp, FpOk (cxComp X N scope cl pins s3 (upd H2 s.heap.objs.size (.lst [])) fp) [] H' b := fun hn => comp_fp I3 cn f3 fo3 hn
  have hH : Un (frs X.stack) fp H2 (upd H2 s.heap.objs.size (.lst [])) s.heap s3.heap := by
    rw [hh3]
    exact Un.laid (fun b u e => Heap.get?_push_of_some _ e) (Nat.le_refl _) ha
  have back : ∀ {σ' : St} {H' : Hp} {s' : Shared} {h' : Heap}, Inv (cxComp X N scope cl pins s3 (upd H2 s.heap.objs.size (.lst [])) fp) [] σ' H' s' → Heap.SameBut s3.heap.objs.size s'.heap h' → Inv X pins σ H' { s' with heap := h' } := fun J' sb =>
    comp_back I2 (by rw [hsz]; exact Nat.le_succ _) (by rw [← hs3]) hH f2 J' sb
  have loop : codeAny (model X.prog X.w) X.A (.compLoop (.ListComp elt [⟨target, iter, ifs, 0⟩] scope pos) 0 (.ref it) (.ref s.heap.objs.size) (compEnvC scope cl s3.heap.objs.size X.env)) (RR (.ref s.heap.objs.size) s3.heap.objs.size)
      { s3 with heap := h₁, toks := s3.toks + ([] : List (Str × Value)).length } := by
    refine comp_loop (fun n s' => ∃ i σ' ys H', Inv (cxComp X N scope cl pins s3 (upd H2 s.heap.objs.size (.lst [])) fp) [] σ' H' s' ∧ tn i s'.heap ∧ (∀ b ∈ fp, H' b = none) ∧ W i n σ' ys H') ?_ m0
      ⟨0, _, [], _, I4, st4, fun b hb => (f3 b hb).1, w0⟩
    rintro n s5 ⟨i, σ5, ys, H5, I5, st5, fr5, w5⟩
    obtain ⟨hacc, step⟩ := turn i n σ5 ys H5 w5
    rcases step with ⟨stop, q⟩ | ⟨go, step⟩
    · refine thn (T.done (cxComp X N scope cl pins s3 (upd H2 s.heap.objs.size (.lst [])) fp) rfl rfl rfl hc i [] s5 σ5 H5 (fun _ _ => False) I5 (stat fr5) st5 stop) fun r s6 ⟨hr, I6⟩ => ?_
      subst hr
      obtain ⟨m, hm, _⟩ := I6.loc
      exact hRR _ _ s6 H5 ⟨m, hm⟩ (back I6 (Heap.SameBut.refl _ _)) (I2.fpOk (by rw [hsz]; exact Nat.le_succ _) I6.free) q
    · refine thn (T.item (cxComp X N scope cl pins s3 (upd H2 s.heap.objs.size (.lst [])) fp) rfl rfl rfl hc i [] s5 σ5 H5 (fun _ _ => False) I5 (stat fr5) st5 go) fun r s6 ⟨u, hr, h6⟩ => ?_
      subst hr
      refine thn h6 fun _ s7 ⟨x, H7, I7, r7, y7, st7, fr7⟩ => ?_
      have I7' := I7.pinned (stat fr7) (T.obj _ _ st7)
      refine thn (hg pins s3 _ fp _ s7 σ5 H7 x u _ I7' r7 (step x H7 y7)) fun _ s8 ⟨σ8, H8, I8, q8⟩ => ?_
      have keepT : ∀ {σ' : St} {H' : Hp} {s' : Shared}, Inv (cxComp X N scope cl pins s3 (upd H2 s.heap.objs.size (.lst [])) fp) ([] ++ pinsAt fp s7.heap) σ' H' s' → tn (i + 1) s'.heap ∧ ∀ b ∈ fp, H' b = none := fun {σ' H' s'} I' =>
        ⟨T.keep _ _ _ st7 fun b hb o e => (I'.pin (b, o) (List.mem_append_right _ (List.mem_append_right _ (mem_pinsAt hb e)))).1, fun b hb => by
          obtain ⟨o, e, d⟩ := T.obj _ _ st7 b hb
          exact (I'.pin (b, o) (List.mem_append_right _ (List.mem_append_right _ (mem_pinsAt hb e)))).2.1⟩
      refine thn (hif pins s3 _ fp _ s8 σ8 H8 _ I8 q8) fun ok s9 ⟨H9, I9, q9⟩ => ?_
      cases ok with
      | false =>
        have q9 : ∃ m', m' < n ∧ W (i + 1) m' σ8 ys H9 := q9
        obtain ⟨m', hm, w9⟩ := q9
        exact ⟨m', hm, i + 1, σ8, ys, H9, I9.unpinned, (keepT I9).1, (keepT I9).2, w9⟩
      | true =>
        rw [if_pos rfl]
        refine thn (he pins s3 _ fp _ s9 σ8 H9 _ I9 q9) fun z s10 ⟨y, H10, I10, r10, hz, ha10, m', hm, w10⟩ => ?_
        refine thn (mt_append _ s10 σ8 H10 (.ref s.heap.objs.size) [y] (.ref s.heap.objs.size) [z] (fun v H' => v = .non ∧ H' = upd H10 s.heap.objs.size (.lst (ys ++ [y]))) I10 rfl (.cons r10 .nil) ⟨_, ys, y, rfl, rfl, ha10, hz, rfl, rfl⟩) fun v s11 ⟨_, H11, I11, _, _, e11⟩ => ?_
        subst e11
        exact ⟨m', hm, i + 1, σ8, ys ++ [y], _, I11.unpinned, (keepT I11).1, (keepT I11).2, w10⟩
  have fin : codeAny (model X.prog X.w) X.A (.compStart (.ListComp elt [⟨target, iter, ifs, 0⟩] scope pos) 0 (.ref it) (.ref s.heap.objs.size) (compEnvC scope cl s3.heap.objs.size X.env)) (RR (.ref s.heap.objs.size) s3.heap.objs.size)
      { s3 with heap := h₁, toks := s3.toks + ([] : List (Str × Value)).length } :=
    codeAny_compStart_list loop (T.self _ 0 _ _ _ st4 loop)
  rw [← hs3] at fin
  exact fin
theorem pe_comp (hi : PI X target iter wi) (hg : ∀ pins s H fp, PG (cxComp X N scope cl pins s H fp) target g) (hif : ∀ pins s H fp, PIf (cxComp X N scope cl pins s H fp) ifs c) (he : ∀ pins s H fp, PE (cxComp X N scope cl pins s H fp) elt te)
    (hc : X.calm = true := by rfl) (hcl : closOf X.env scope.names = some cl := by rfl) (hlen : N.length = nt + fr.length := by rfl) (hB : freeB X N nt scope fr 0 = true := by rfl)
    (hcell : ∀ y ∈ scope.names, y.2 ≠ .cell := by decide +kernel) (hkind : scope.kind = .function := by rfl) (hnames : ∀ y ∈ scope.names, y.2 = .local → scope.names.lookup y.1 = some .local := by decide +kernel)
    (hs : ∀ x, foldedSetIterable iter X.env x = pure x := by intro _; rfl) : PE X (.ListComp elt [⟨target, iter, ifs, 0⟩] scope pos) (tComp wi nt fr g c te) := by
  intro pins s σ H Q I h
  rw [eval_ListComp]
  refine wpAny_comprehension_free (use := none) rfl hs (closureFor_of hcl) hkind hnames (thn (hi pins s σ H _ I h) fun xv s1 h1 => thn h1 fun itv s2 h2 => ?_)
  exact comp_block hc (CompNames.of hcl hlen hB hcell hkind) hcell hg hif he h2 fun acc C s' H' ⟨m, hm⟩ hI hF hq => ⟨m, hm, fun h' sb => ⟨.ref acc, H', hI.turned (t' := s'.toks) (fun b o hb e => sb.extBut b o hb e) hF.1 hF.2.1 hF.2.2.2.1 hF.2.2.2.2.1 hF.2.2.2.2.2, rfl, hq⟩⟩
end
structure ItemsOf (J : It) (xs : List V) (L : Hp → Prop) : Prop where
  go : ∀ i H, L H → i < xs.length → J.go i H
  yld : ∀ i H x H', L H → i < xs.length → J.yld i H x H' → H' = H ∧ xs[i]? = some x
  stop : ∀ H, L H → J.stop xs.length H
def rangeV (lo : Int) (n : Nat) : List V := (List.range n).map fun i : Nat => V.int (lo + (i : Int))
theorem items_range {lo : Int} {n : Nat} : ItemsOf (Itr lo n) (rangeV lo n) (fun _ => True) :=
  ⟨fun i H _ hi => by show i < n; simpa [rangeV] using hi, fun i H x H' _ hi y => ⟨y.1, by
    have hi : i < n := by simpa [rangeV] using hi
    rw [y.2]; simp [rangeV, hi]⟩, fun H _ => by show n ≤ _; simp [rangeV]⟩
/-- what stands between two turns: Pv (turn, the list so far, the heap); nt own names, the others are fvs -/
def CompW (xs : List V) (nt : Nat) (fvs : St) (Pv : Nat → List V → Hp → Prop) : Nat → Nat → St → List V → Hp → Prop := fun i m σ' ys H' =>
  m = xs.length - i ∧ i ≤ xs.length ∧ Pv i ys H' ∧ ∃ tv : List (Option V), tv.length = nt ∧ σ' = tv ++ fvs
theorem CompW.next {xs : List V} {nt : Nat} {fvs : St} {Pv : Nat → List V → Hp → Prop} {i : Nat} {tv : List (Option V)} {ys : List V} {H : Hp} (hi : i < xs.length) (p : Pv (i + 1) ys H) (ht : tv.length = nt) :
    ∃ m', m' < xs.length - i ∧ CompW xs nt fvs Pv (i + 1) m' (tv ++ fvs) ys H := ⟨xs.length - (i + 1), by omega, rfl, hi, p, tv, ht, rfl⟩
/-- a comprehension by its word -/
theorem comp_by {J : It} {xs : List V} {L : Hp → Prop} {σ : St} {H1 : Hp} {nt : Nat} {fr : List Nat} {g : TG} {c : TT} {te : TE} {Q : VK} {acc : Addr} (it : ItemsOf J xs L) (Pv : Nat → List V → Hp → Prop)
    (h0 : Pv 0 [] (upd H1 acc (.lst []))) (hL : ∀ i ys H', i ≤ xs.length → Pv i ys H' → L H' ∧ H' acc = some (.lst ys))
    (turn : ∀ i x tv ys H', xs[i]? = some x → i < xs.length → Pv i ys H' → tv.length = nt → g x (tv ++ fr.map fun i => (σ[i]?).getD none) H' fun σ2 H3 =>
      c σ2 H3 fun b H4 => if b = true then te σ2 H4 fun y H5 => ys.length < sizeLine ∧ H5 acc = some (.lst ys) ∧ ∃ m', m' < xs.length - i ∧ CompW xs nt (fr.map fun i => (σ[i]?).getD none) Pv (i + 1) m' σ2 (ys ++ [y]) (upd H5 acc (.lst (ys ++ [y])))
        else ∃ m', m' < xs.length - i ∧ CompW xs nt (fr.map fun i => (σ[i]?).getD none) Pv (i + 1) m' σ2 ys H4)
    (hd : ∀ ys H', Pv xs.length ys H' → Q (.ref acc) H') : CompGoal J nt fr g c te σ H1 Q acc := by
  refine ⟨CompW xs nt (fr.map fun i => (σ[i]?).getD none) Pv, ⟨xs.length, by simp, Nat.zero_le _, h0, List.replicate nt none, by simp, rfl⟩, ?_⟩
  rintro i m σ' ys H' ⟨rfl, hi, p, tv, htv, rfl⟩
  obtain ⟨l, ha⟩ := hL i ys H' hi p
  refine ⟨ha, ?_⟩
  by_cases hlt : i < xs.length
  · refine .inr ⟨it.go i H' l hlt, fun x H2 y => ?_⟩
    obtain ⟨rfl, hx⟩ := it.yld i H' x H2 l hlt y
    exact turn i x tv ys H2 hx hlt p htv
  · have e : i = xs.length := by omega
    subst e
    exact .inl ⟨it.stop H' l, hd ys H' p⟩
end L2
set_option Elab.async false
set_option linter.all false
set_option maxRecDepth 100000
set_option maxHeartbeats 4000000
namespace L2
open PySem PySem.Spec PyProof.Rows PySem.SeqAt
inductive Dt where
  | non | bl (b : Bool) | int (i : Int) | str (x : Str) | lst (xs : List Dt) | tup (xs : List Dt)
mutual
def Rep (K : PySem.W.Frag) (H : Hp) : Dt → V → Prop
  | .non, v => v = .non
  | .bl b, v => v = .bl b
  | .int i, v => v = .int i
  | .str x, v => v = .str x
  | .lst ds, v => ∃ p xs, v = .ref p ∧ SqL K H p xs ∧ Reps K H ds xs
  | .tup ds, v => ∃ p xs, v = .ref p ∧ SqT K H p xs ∧ Reps K H ds xs
def Reps (K : PySem.W.Frag) (H : Hp) : List Dt → List V → Prop
  | [], xs => xs = []
  | d :: ds, xs => ∃ x r, xs = x :: r ∧ Rep K H d x ∧ Reps K H ds r
end
mutual
def eqDt : Dt → Dt → Bool
  | .non, .non => true
  | .bl a, .bl b => a == b
  | .bl a, .int b => (if a then 1 else 0) == b
  | .int a, .bl b => a == (if b then 1 else 0)
  | .int a, .int b => a == b
  | .str a, .str b => a == b
  | .lst xs, .lst ys => eqDts xs ys
  | .tup xs, .tup ys => eqDts xs ys
  | _, _ => false
def eqDts : List Dt → List Dt → Bool
  | [], [] => true
  | x :: xs, y :: ys => eqDt x y && eqDts xs ys
  | _, _ => false
end
mutual
def depD : Dt → Nat
  | .lst xs => depDs xs + 1
  | .tup xs => depDs xs + 1
  | _ => 0
def depDs : List Dt → Nat
  | [] => 0
  | x :: xs => max (depD x) (depDs xs)
end
theorem Reps.length {K : PySem.W.Frag} {H : Hp} : ∀ {ds : List Dt} {xs : List V}, Reps K H ds xs → ds.length = xs.length
  | [], xs, h => by rw [show xs = [] from by simpa [Reps] using h]; rfl
  | d :: ds, xs, h => by
    obtain ⟨x, r, rfl, _, h2⟩ : ∃ x r, xs = x :: r ∧ Rep K H d x ∧ Reps K H ds r := by simpa [Reps] using h
    simp [Reps.length h2]
theorem Reps.get {K : PySem.W.Frag} {H : Hp} : ∀ {ds : List Dt} {xs : List V} {j : Nat} {d : Dt}, Reps K H ds xs → ds[j]? = some d → ∃ x, xs[j]? = some x ∧ Rep K H d x
  | [], _, _, _, _, e => by simp at e
  | d0 :: ds, xs, j, d, h, e => by
    obtain ⟨x, r, rfl, h1, h2⟩ : ∃ x r, xs = x :: r ∧ Rep K H d0 x ∧ Reps K H ds r := by simpa [Reps] using h
    cases j with
    | zero =>
      have e : d0 = d := by simpa using e
      subst e
      exact ⟨x, rfl, h1⟩
    | succ j =>
      obtain ⟨y, e1, e2⟩ := Reps.get (j := j) h2 (by simpa using e)
      exact ⟨y, by simpa using e1, e2⟩
theorem depDs_get : ∀ {ds : List Dt} {j : Nat} {d : Dt}, ds[j]? = some d → depD d ≤ depDs ds
  | [], _, _, e => by simp at e
  | d0 :: ds, j, d, e => by
    cases j with
    | zero =>
      have e : d0 = d := by simpa using e
      subst e
      simp only [depDs]; omega
    | succ j =>
      have := depDs_get (ds := ds) (j := j) (d := d) (by simpa using e)
      simp only [depDs]; omega
theorem eqDts_all : ∀ (ds es : List Dt), ds.length = es.length → ((List.range ds.length).all fun j => eqDt (ds.getD j .non) (es.getD j .non)) = eqDts ds es
  | [], [], _ => rfl
  | [], _ :: _, h => by simp at h
  | _ :: _, [], h => by simp at h
  | d :: ds, e :: es, h => by
    have h : ds.length = es.length := by simpa using h
    rw [List.length_cons, List.range_succ_eq_map, List.all_cons, List.all_map]
    have := eqDts_all ds es h
    simp only [eqDts]
    rw [← this]
    rfl
theorem eqDts_length : ∀ (ds es : List Dt), ds.length ≠ es.length → eqDts ds es = false
  | [], [], h => by simp at h
  | [], _ :: _, _ => rfl
  | _ :: _, [], _ => rfl
  | d :: ds, e :: es, h => by
    have h : ds.length ≠ es.length := fun z => h (by simp [z])
    simp only [eqDts, eqDts_length ds es h, Bool.and_false]
mutual
theorem eqDt_refl : ∀ d : Dt, eqDt d d = true
  | .non => rfl
  | .bl b => by simp [eqDt]
  | .int i => by simp [eqDt]
  | .str x => by simp [eqDt]
  | .lst xs => by simp only [eqDt]; exact eqDts_refl xs
  | .tup xs => by simp only [eqDt]; exact eqDts_refl xs
theorem eqDts_refl : ∀ ds : List Dt, eqDts ds ds = true
  | [] => rfl
  | d :: ds => by simp only [eqDts, eqDt_refl d, eqDts_refl ds, Bool.and_true]
end
section
variable {X : Cx} {pins : List (Addr × Obj)} {σ : St} {H : Hp} {s : Shared}
theorem lst_not_tup {a : Addr} {xs ys : List V} (I : Inv X pins σ H s) (h : SqL X.K H a xs) (h' : SqT X.K H a ys) : False := by
  obtain ⟨its, _, pl, _⟩ := I.list h
  obtain ⟨its', _, pt, _⟩ := I.tuple h'
  obtain ⟨o, n, e, c, _, _⟩ := pl
  obtain ⟨o', e', c', _⟩ := pt
  rw [e] at e'; cases e'
  rw [c] at c'
  exact absurd c' (by decide)
mutual
theorem rep_inj (I : Inv X pins σ H s) : ∀ (d d' : Dt) (v : V), Rep X.K H d v → Rep X.K H d' v → d = d'
  | .non, d', v, h, h' => by
    have h : v = .non := by simpa [Rep] using h
    subst h
    cases d' <;> simp [Rep] at h' <;> rfl
  | .bl b, d', v, h, h' => by
    have h : v = .bl b := by simpa [Rep] using h
    subst h
    cases d' <;> simp [Rep] at h'
    rw [h']
  | .int b, d', v, h, h' => by
    have h : v = .int b := by simpa [Rep] using h
    subst h
    cases d' <;> simp [Rep] at h'
    rw [h']
  | .str b, d', v, h, h' => by
    have h : v = .str b := by simpa [Rep] using h
    subst h
    cases d' <;> simp [Rep] at h'
    rw [h']
  | .lst ds, d', v, h, h' => by
    obtain ⟨p, xs, rfl, hq, hr⟩ : ∃ p xs, v = .ref p ∧ SqL X.K H p xs ∧ Reps X.K H ds xs := by simpa only [Rep] using h
    cases d' with
    | lst es =>
      obtain ⟨p', ys, e, hq', hr'⟩ : ∃ p' ys, V.ref p = .ref p' ∧ SqL X.K H p' ys ∧ Reps X.K H es ys := by simpa only [Rep] using h'
      cases e
      rw [I.list_inj hq' hq] at hr'
      rw [reps_inj I ds es xs hr hr']
    | tup es =>
      obtain ⟨p', ys, e, hq', hr'⟩ : ∃ p' ys, V.ref p = .ref p' ∧ SqT X.K H p' ys ∧ Reps X.K H es ys := by simpa only [Rep] using h'
      cases e
      exact (lst_not_tup I hq hq').elim
    | _ => simp [Rep] at h'
  | .tup ds, d', v, h, h' => by
    obtain ⟨p, xs, rfl, hq, hr⟩ : ∃ p xs, v = .ref p ∧ SqT X.K H p xs ∧ Reps X.K H ds xs := by simpa only [Rep] using h
    cases d' with
    | tup es =>
      obtain ⟨p', ys, e, hq', hr'⟩ : ∃ p' ys, V.ref p = .ref p' ∧ SqT X.K H p' ys ∧ Reps X.K H es ys := by simpa only [Rep] using h'
      cases e
      rw [I.tuple_inj hq' hq] at hr'
      rw [reps_inj I ds es xs hr hr']
    | lst es =>
      obtain ⟨p', ys, e, hq', hr'⟩ : ∃ p' ys, V.ref p = .ref p' ∧ SqL X.K H p' ys ∧ Reps X.K H es ys := by simpa only [Rep] using h'
      cases e
      exact (lst_not_tup I hq' hq).elim
    | _ => simp [Rep] at h'
theorem reps_inj (I : Inv X pins σ H s) : ∀ (ds es : List Dt) (xs : List V), Reps X.K H ds xs → Reps X.K H es xs → ds = es
  | [], es, xs, h, h' => by
    have h : xs = [] := by simpa [Reps] using h
    subst h
    cases es with
    | nil => rfl
    | cons e es => simp [Reps] at h'
  | d :: ds, es, xs, h, h' => by
    obtain ⟨x, r, rfl, h1, h2⟩ : ∃ x r, xs = x :: r ∧ Rep X.K H d x ∧ Reps X.K H ds r := by simpa only [Reps] using h
    cases es with
    | nil => simp [Reps] at h'
    | cons e es =>
      obtain ⟨x', r', e', h1', h2'⟩ : ∃ x' r', x :: r = x' :: r' ∧ Rep X.K H e x' ∧ Reps X.K H es r' := by simpa only [Reps] using h'
      cases e'
      rw [rep_inj I d e x h1 h1', reps_inj I ds es r h2 h2']
end
/-- the two answers, for == and for !=, and eqBool -/
structure Eq3 (A : Around) (s : Shared) (u v : Value) (b : Bool) : Prop where
  eq : EqAt A s u v b
  rc : RcAt A s u v b
  ne : RcNeAt A s u v (!b)
theorem items_eq (I : Inv X pins σ H s) {n : Nat} {A : Around} (ih : ∀ (d d' : Dt) (x y : V) (u v : Value), depD d ≤ n → Rep X.K H d x → Rep X.K H d' y → RelV x u → RelV y v → Eq3 A.in1 s u v (eqDt d d'))
    {ds es : List Dt} {xs ys : List V} {us vs : List Value} (hd : depDs ds ≤ n) (hx : Reps X.K H ds xs) (hy : Reps X.K H es ys) (ru : Vals xs us) (rv : Vals ys vs) :
    ∀ j (h1 : j < us.toArray.size) (h2 : j < vs.toArray.size), EqAt A.in1 s us.toArray[j] vs.toArray[j] (eqDt (ds.getD j .non) (es.getD j .non)) := by
  intro j h1 h2
  have l1 : j < ds.length := by rw [hx.length, ru.length]; simpa using h1
  have l2 : j < es.length := by rw [hy.length, rv.length]; simpa using h2
  have e1 : ds[j]? = some ds[j] := by simp [l1]
  have e2 : es[j]? = some es[j] := by simp [l2]
  obtain ⟨x, ex, rx⟩ := hx.get e1
  obtain ⟨y, ey, ry⟩ := hy.get e2
  obtain ⟨u, eu, qu⟩ := ru.get ex
  obtain ⟨v, ev, qv⟩ := rv.get ey
  have h1' : j < us.length := by simpa using h1
  have h2' : j < vs.length := by simpa using h2
  have z1 : us.toArray[j] = u := by
    have : us[j]? = some us[j] := by simp [h1']
    rw [this] at eu
    simpa using eu
  have z2 : vs.toArray[j] = v := by
    have : vs[j]? = some vs[j] := by simp [h2']
    rw [this] at ev
    simpa using ev
  rw [z1, z2]
  have g1 : ds.getD j .non = ds[j] := by simp [List.getD, l1]
  have g2 : es.getD j .non = es[j] := by simp [List.getD, l2]
  rw [g1, g2]
  exact (ih _ _ x y u v (Nat.le_trans (depDs_get e1) hd) rx ry qu qv).eq
theorem eq3_lists (I : Inv X pins σ H s) {n : Nat} {A : Around} (hu : A.units < cLine) (ih : ∀ (d d' : Dt) (x y : V) (u v : Value), depD d ≤ n → Rep X.K H d x → Rep X.K H d' y → RelV x u → RelV y v → Eq3 A.in1 s u v (eqDt d d'))
    {ds es : List Dt} {p q : Addr} (hd : depDs ds ≤ n) (hp : Rep X.K H (.lst ds) (.ref p)) (hq : Rep X.K H (.lst es) (.ref q)) : Eq3 A s (.ref p) (.ref q) (eqDts ds es) := by
  obtain ⟨p', xs, e, lx, hx⟩ : ∃ p' xs, V.ref p = .ref p' ∧ SqL X.K H p' xs ∧ Reps X.K H ds xs := by simpa only [Rep] using hp
  cases e
  obtain ⟨q', ys, e, ly, hy⟩ : ∃ q' ys, V.ref q = .ref q' ∧ SqL X.K H q' ys ∧ Reps X.K H es ys := by simpa only [Rep] using hq
  cases e
  obtain ⟨us, ru, pu, _⟩ := I.list lx
  obtain ⟨vs, rv, pv', _⟩ := I.list ly
  have both : RcAt A s (.ref p) (.ref q) (eqDts ds es) ∧ RcNeAt A s (.ref p) (.ref q) (!eqDts ds es) := by
    by_cases hl : ds.length = es.length
    · have hsz : us.toArray.size = vs.toArray.size := by simp [← ru.length, ← rv.length, ← hx.length, ← hy.length, hl]
      have hz : us.toArray.size = ds.length := by simp [← ru.length, ← hx.length]
      have a := RcAt.lists pu.isList pv'.isList hsz hu (items_eq I ih hd hx hy ru rv)
      have b := RcNeAt.lists pu.isList pv'.isList hsz hu (items_eq I ih hd hx hy ru rv)
      rw [hz, eqDts_all ds es hl] at a b
      exact ⟨a, b⟩
    · have hsz : (us.toArray.size != vs.toArray.size) = true := by simp [← ru.length, ← rv.length, ← hx.length, ← hy.length, hl]
      rw [eqDts_length ds es hl]
      exact ⟨RcAt.lists_lengths pu.isList pv'.isList hsz hu, RcNeAt.lists_lengths pu.isList pv'.isList hsz hu⟩
  refine ⟨?_, both.1, both.2⟩
  by_cases hpq : p = q
  · subst hpq
    have : ds = es := by
      rw [I.list_inj ly lx] at hy
      exact reps_inj I ds es xs hx hy
    subst this
    rw [eqDts_refl]
    exact EqAt.same _
  · exact EqAt.of_refs hpq both.1
theorem eq3_tups (I : Inv X pins σ H s) {n : Nat} {A : Around} (hu : A.units < cLine) (ih : ∀ (d d' : Dt) (x y : V) (u v : Value), depD d ≤ n → Rep X.K H d x → Rep X.K H d' y → RelV x u → RelV y v → Eq3 A.in1 s u v (eqDt d d'))
    {ds es : List Dt} {p q : Addr} (hd : depDs ds ≤ n) (hp : Rep X.K H (.tup ds) (.ref p)) (hq : Rep X.K H (.tup es) (.ref q)) : Eq3 A s (.ref p) (.ref q) (eqDts ds es) := by
  obtain ⟨p', xs, e, lx, hx⟩ : ∃ p' xs, V.ref p = .ref p' ∧ SqT X.K H p' xs ∧ Reps X.K H ds xs := by simpa only [Rep] using hp
  cases e
  obtain ⟨q', ys, e, ly, hy⟩ : ∃ q' ys, V.ref q = .ref q' ∧ SqT X.K H q' ys ∧ Reps X.K H es ys := by simpa only [Rep] using hq
  cases e
  obtain ⟨us, ru, pu, _⟩ := I.tuple lx
  obtain ⟨vs, rv, pv', _⟩ := I.tuple ly
  have hz : us.toArray.size = ds.length := by simp [← ru.length, ← hx.length]
  have hz' : vs.toArray.size = es.length := by simp [← rv.length, ← hy.length]
  have key : ((List.range (min us.toArray.size vs.toArray.size)).all (fun j => eqDt (ds.getD j .non) (es.getD j .non)) && us.toArray.size == vs.toArray.size) = eqDts ds es := by
    rw [hz, hz']
    by_cases hl : ds.length = es.length
    · rw [← hl, Nat.min_self, eqDts_all ds es hl]; simp
    · rw [eqDts_length ds es hl]; simp [hl]
  have a := RcAt.tuples pu pv' hu (items_eq I ih hd hx hy ru rv)
  have b := RcNeAt.tuples pu pv' hu (items_eq I ih hd hx hy ru rv)
  rw [key] at a b
  refine ⟨?_, a, b⟩
  by_cases hpq : p = q
  · subst hpq
    have : ds = es := by
      rw [I.tuple_inj ly lx] at hy
      exact reps_inj I ds es xs hx hy
    subst this
    rw [eqDts_refl]
    exact EqAt.same _
  · exact EqAt.of_refs hpq a
end
section
variable {X : Cx} {pins : List (Addr × Obj)} {σ : St} {H : Hp} {s : Shared}
theorem rep_ref_l {ds : List Dt} {x : V} (h : Rep X.K H (.lst ds) x) : ∃ p xs, x = .ref p ∧ SqL X.K H p xs := by
  obtain ⟨p, xs, e, l, _⟩ : ∃ p xs, x = .ref p ∧ SqL X.K H p xs ∧ Reps X.K H ds xs := by simpa only [Rep] using h
  exact ⟨p, xs, e, l⟩
theorem rep_ref_t {ds : List Dt} {x : V} (h : Rep X.K H (.tup ds) x) : ∃ p xs, x = .ref p ∧ SqT X.K H p xs := by
  obtain ⟨p, xs, e, l, _⟩ : ∃ p xs, x = .ref p ∧ SqT X.K H p xs ∧ Reps X.K H ds xs := by simpa only [Rep] using h
  exact ⟨p, xs, e, l⟩
theorem eq3_step (I : Inv X pins σ H s) {n : Nat} {A : Around} (ih : ∀ (d d' : Dt) (x y : V) (u v : Value), depD d < n → Rep X.K H d x → Rep X.K H d' y → RelV x u → RelV y v → Eq3 A.in1 s u v (eqDt d d'))
    {d d' : Dt} {x y : V} {u v : Value} (hu : A.units + n < cLine) (hd : depD d ≤ n) (hx : Rep X.K H d x) (hy : Rep X.K H d' y) (rx : RelV x u) (ry : RelV y v) : Eq3 A s u v (eqDt d d') := by
  have hu0 : A.units < cLine := by omega
  cases d with
  | non =>
    have e : x = V.non := by simpa [Rep] using hx
    subst e
    cases rx
    cases d' with
    | non =>
      have e : y = V.non := by simpa [Rep] using hy
      subst e
      cases ry
      exact ⟨(EqAt.same _), RcAt.none_none , RcNeAt.none_none ⟩
    | bl b =>
      have e : y = V.bl b := by simpa [Rep] using hy
      subst e
      cases ry
      exact ⟨(EqAt.none_bool b), RcAt.none_bool b, RcNeAt.none_bool b⟩
    | int b =>
      have e : y = V.int b := by simpa [Rep] using hy
      subst e
      obtain ⟨u, rfl⟩ := ry
      exact ⟨(EqAt.none_int b u), RcAt.none_int b u, RcNeAt.none_int b u⟩
    | str b =>
      have e : y = V.str b := by simpa [Rep] using hy
      subst e
      obtain ⟨u, rfl⟩ := ry
      exact ⟨(EqAt.none_str b u), RcAt.none_str b u, RcNeAt.none_str b u⟩
    | lst b =>
      obtain ⟨pW, xsW, rfl, lW⟩ := rep_ref_l hy
      cases ry
      obtain ⟨itW, _, plW, _⟩ := I.list lW
      exact ⟨EqAt.none_list  plW.isList hu0, RcAt.none_list  plW.isList hu0, RcNeAt.none_list  plW.isList hu0⟩
    | tup b =>
      obtain ⟨pW, xsW, rfl, lW⟩ := rep_ref_t hy
      cases ry
      obtain ⟨itW, _, plW, _⟩ := I.tuple lW
      exact ⟨EqAt.none_tuple  plW hu0, RcAt.none_tuple  plW hu0, RcNeAt.none_tuple  plW hu0⟩
  | bl a =>
    have e : x = V.bl a := by simpa [Rep] using hx
    subst e
    cases rx
    cases d' with
    | non =>
      have e : y = V.non := by simpa [Rep] using hy
      subst e
      cases ry
      exact ⟨(EqAt.bool_none a), RcAt.bool_none a, RcNeAt.bool_none a⟩
    | bl b =>
      have e : y = V.bl b := by simpa [Rep] using hy
      subst e
      cases ry
      exact ⟨(EqAt.bool_bool a b), RcAt.bool_bool a b, RcNeAt.bool_bool a b⟩
    | int b =>
      have e : y = V.int b := by simpa [Rep] using hy
      subst e
      obtain ⟨u, rfl⟩ := ry
      exact ⟨(EqAt.bool_int a b u), RcAt.bool_int a b u, RcNeAt.bool_int a b u⟩
    | str b =>
      have e : y = V.str b := by simpa [Rep] using hy
      subst e
      obtain ⟨u, rfl⟩ := ry
      exact ⟨(EqAt.bool_str a b u), RcAt.bool_str a b u, RcNeAt.bool_str a b u⟩
    | lst b =>
      obtain ⟨pW, xsW, rfl, lW⟩ := rep_ref_l hy
      cases ry
      obtain ⟨itW, _, plW, _⟩ := I.list lW
      exact ⟨EqAt.bool_list a plW.isList hu0, RcAt.bool_list a plW.isList hu0, RcNeAt.bool_list a plW.isList hu0⟩
    | tup b =>
      obtain ⟨pW, xsW, rfl, lW⟩ := rep_ref_t hy
      cases ry
      obtain ⟨itW, _, plW, _⟩ := I.tuple lW
      exact ⟨EqAt.bool_tuple a plW hu0, RcAt.bool_tuple a plW hu0, RcNeAt.bool_tuple a plW hu0⟩
  | int a =>
    have e : x = V.int a := by simpa [Rep] using hx
    subst e
    obtain ⟨t, rfl⟩ := rx
    cases d' with
    | non =>
      have e : y = V.non := by simpa [Rep] using hy
      subst e
      cases ry
      exact ⟨(EqAt.int_none a t), RcAt.int_none a t, RcNeAt.int_none a t⟩
    | bl b =>
      have e : y = V.bl b := by simpa [Rep] using hy
      subst e
      cases ry
      exact ⟨(EqAt.int_bool a t b), RcAt.int_bool a t b, RcNeAt.int_bool a t b⟩
    | int b =>
      have e : y = V.int b := by simpa [Rep] using hy
      subst e
      obtain ⟨u, rfl⟩ := ry
      exact ⟨(EqAt.int_int a t b u), RcAt.int_int a t b u, RcNeAt.int_int a t b u⟩
    | str b =>
      have e : y = V.str b := by simpa [Rep] using hy
      subst e
      obtain ⟨u, rfl⟩ := ry
      exact ⟨(EqAt.int_str a t b u), RcAt.int_str a t b u, RcNeAt.int_str a t b u⟩
    | lst b =>
      obtain ⟨pW, xsW, rfl, lW⟩ := rep_ref_l hy
      cases ry
      obtain ⟨itW, _, plW, _⟩ := I.list lW
      exact ⟨EqAt.int_list a t plW.isList hu0, RcAt.int_list a t plW.isList hu0, RcNeAt.int_list a t plW.isList hu0⟩
    | tup b =>
      obtain ⟨pW, xsW, rfl, lW⟩ := rep_ref_t hy
      cases ry
      obtain ⟨itW, _, plW, _⟩ := I.tuple lW
      exact ⟨EqAt.int_tuple a t plW hu0, RcAt.int_tuple a t plW hu0, RcNeAt.int_tuple a t plW hu0⟩
  | str a =>
    have e : x = V.str a := by simpa [Rep] using hx
    subst e
    obtain ⟨t, rfl⟩ := rx
    cases d' with
    | non =>
      have e : y = V.non := by simpa [Rep] using hy
      subst e
      cases ry
      exact ⟨(EqAt.str_none a t), RcAt.str_none a t, RcNeAt.str_none a t⟩
    | bl b =>
      have e : y = V.bl b := by simpa [Rep] using hy
      subst e
      cases ry
      exact ⟨(EqAt.str_bool a t b), RcAt.str_bool a t b, RcNeAt.str_bool a t b⟩
    | int b =>
      have e : y = V.int b := by simpa [Rep] using hy
      subst e
      obtain ⟨u, rfl⟩ := ry
      exact ⟨(EqAt.str_int a t b u), RcAt.str_int a t b u, RcNeAt.str_int a t b u⟩
    | str b =>
      have e : y = V.str b := by simpa [Rep] using hy
      subst e
      obtain ⟨u, rfl⟩ := ry
      exact ⟨(EqAt.str_str a t b u), RcAt.str_str a t b u, RcNeAt.str_str a t b u⟩
    | lst b =>
      obtain ⟨pW, xsW, rfl, lW⟩ := rep_ref_l hy
      cases ry
      obtain ⟨itW, _, plW, _⟩ := I.list lW
      exact ⟨EqAt.str_list a t plW.isList hu0, RcAt.str_list a t plW.isList hu0, RcNeAt.str_list a t plW.isList hu0⟩
    | tup b =>
      obtain ⟨pW, xsW, rfl, lW⟩ := rep_ref_t hy
      cases ry
      obtain ⟨itW, _, plW, _⟩ := I.tuple lW
      exact ⟨EqAt.str_tuple a t plW hu0, RcAt.str_tuple a t plW hu0, RcNeAt.str_tuple a t plW hu0⟩
  | lst a =>
    obtain ⟨pU, xsU, rfl, lU⟩ := rep_ref_l hx
    cases rx
    obtain ⟨itU, _, plU, _⟩ := I.list lU
    cases d' with
    | non =>
      have e : y = V.non := by simpa [Rep] using hy
      subst e
      cases ry
      exact ⟨EqAt.list_none  plU.isList hu0, RcAt.list_none  plU.isList hu0, RcNeAt.list_none  plU.isList hu0⟩
    | bl b =>
      have e : y = V.bl b := by simpa [Rep] using hy
      subst e
      cases ry
      exact ⟨EqAt.list_bool b plU.isList hu0, RcAt.list_bool b plU.isList hu0, RcNeAt.list_bool b plU.isList hu0⟩
    | int b =>
      have e : y = V.int b := by simpa [Rep] using hy
      subst e
      obtain ⟨u, rfl⟩ := ry
      exact ⟨EqAt.list_int b u plU.isList hu0, RcAt.list_int b u plU.isList hu0, RcNeAt.list_int b u plU.isList hu0⟩
    | str b =>
      have e : y = V.str b := by simpa [Rep] using hy
      subst e
      obtain ⟨u, rfl⟩ := ry
      exact ⟨EqAt.list_str b u plU.isList hu0, RcAt.list_str b u plU.isList hu0, RcNeAt.list_str b u plU.isList hu0⟩
    | lst b =>
      obtain ⟨pW, xsW, rfl, lW⟩ := rep_ref_l hy
      cases ry
      obtain ⟨itW, _, plW, _⟩ := I.list lW
      have hd : depDs a + 1 ≤ n := by simpa only [depD] using hd
      exact eq3_lists I (n := n - 1) hu0 (fun d d' x y u v h => ih d d' x y u v (by omega)) (by omega) hx hy
    | tup b =>
      obtain ⟨pW, xsW, rfl, lW⟩ := rep_ref_t hy
      cases ry
      obtain ⟨itW, _, plW, _⟩ := I.tuple lW
      exact ⟨EqAt.list_tuple plU.isList plW hu0, RcAt.list_tuple plU.isList plW hu0, RcNeAt.list_tuple plU.isList plW hu0⟩
  | tup a =>
    obtain ⟨pU, xsU, rfl, lU⟩ := rep_ref_t hx
    cases rx
    obtain ⟨itU, _, plU, _⟩ := I.tuple lU
    cases d' with
    | non =>
      have e : y = V.non := by simpa [Rep] using hy
      subst e
      cases ry
      exact ⟨EqAt.tuple_none  plU hu0, RcAt.tuple_none  plU hu0, RcNeAt.tuple_none  plU hu0⟩
    | bl b =>
      have e : y = V.bl b := by simpa [Rep] using hy
      subst e
      cases ry
      exact ⟨EqAt.tuple_bool b plU hu0, RcAt.tuple_bool b plU hu0, RcNeAt.tuple_bool b plU hu0⟩
    | int b =>
      have e : y = V.int b := by simpa [Rep] using hy
      subst e
      obtain ⟨u, rfl⟩ := ry
      exact ⟨EqAt.tuple_int b u plU hu0, RcAt.tuple_int b u plU hu0, RcNeAt.tuple_int b u plU hu0⟩
    | str b =>
      have e : y = V.str b := by simpa [Rep] using hy
      subst e
      obtain ⟨u, rfl⟩ := ry
      exact ⟨EqAt.tuple_str b u plU hu0, RcAt.tuple_str b u plU hu0, RcNeAt.tuple_str b u plU hu0⟩
    | lst b =>
      obtain ⟨pW, xsW, rfl, lW⟩ := rep_ref_l hy
      cases ry
      obtain ⟨itW, _, plW, _⟩ := I.list lW
      exact ⟨EqAt.tuple_list plU plW.isList hu0, RcAt.tuple_list plU plW.isList hu0, RcNeAt.tuple_list plU plW.isList hu0⟩
    | tup b =>
      obtain ⟨pW, xsW, rfl, lW⟩ := rep_ref_t hy
      cases ry
      obtain ⟨itW, _, plW, _⟩ := I.tuple lW
      have hd : depDs a + 1 ≤ n := by simpa only [depD] using hd
      exact eq3_tups I (n := n - 1) hu0 (fun d d' x y u v h => ih d d' x y u v (by omega)) (by omega) hx hy
end
section
variable {X : Cx} {pins : List (Addr × Obj)} {σ : St} {H : Hp} {s : Shared}
theorem eq3 (I : Inv X pins σ H s) : ∀ (n : Nat) (A : Around) (d d' : Dt) (x y : V) (u v : Value), A.units + n < cLine → depD d ≤ n → Rep X.K H d x → Rep X.K H d' y → RelV x u → RelV y v → Eq3 A s u v (eqDt d d') := by
  intro n
  induction n with
  | zero => exact fun A d d' x y u v hu hd hx hy rx ry => eq3_step I (n := 0) (fun _ _ _ _ _ _ h => absurd h (Nat.not_lt_zero _)) hu hd hx hy rx ry
  | succ n ih => exact fun A d d' x y u v hu hd hx hy rx ry => eq3_step I (n := n + 1) (fun d d' x y u v h hx hy rx ry => ih A.in1 d d' x y u v (by show A.units + 1 + n < cLine; omega) (Nat.le_of_lt_succ h) hx hy rx ry) hu hd hx hy rx ry
end
section
variable {X : Cx}
/-- == of two trees; at most a hundred deep -/
theorem op_eq_d {k : Nat} (hr : Room k X.A) : OpR X (compareOp .Eq) (fun x y H Q => ∃ d d', Rep X.K H d x ∧ Rep X.K H d' y ∧ depD d ≤ 100 ∧ Q (.bl (eqDt d d')) H) := by
  intro pins s σ H x y v u Q I rx ry h
  obtain ⟨d, d', h1, h2, hd, q⟩ := h
  exact (eq3 I 100 X.A d d' x y v u (by have := hr.un; omega) hd h1 h2 rx ry).rc X.prog X.w X.xe _ ⟨.bl _, H, I, rfl, q⟩
theorem op_ne_d {k : Nat} (hr : Room k X.A) : OpR X (compareOp .NotEq) (fun x y H Q => ∃ d d', Rep X.K H d x ∧ Rep X.K H d' y ∧ depD d ≤ 100 ∧ Q (.bl (!eqDt d d')) H) := by
  intro pins s σ H x y v u Q I rx ry h
  obtain ⟨d, d', h1, h2, hd, q⟩ := h
  exact (eq3 I 100 X.A d d' x y v u (by have := hr.un; omega) hd h1 h2 rx ry).ne X.prog X.w X.xe _ ⟨.bl _, H, I, rfl, q⟩
end
end L2
set_option Elab.async false
set_option linter.all false
set_option maxRecDepth 100000
set_option maxHeartbeats 4000000
namespace L2
open PySem PySem.Spec PyProof.Rows
section
variable {K : PySem.W.Frag} {H H' : Hp} {x : V} {n : String}
theorem bt_list (h : TyOf K H x (.type n)) : clsIs K (.type n) (.ty "list") = some (n == "list") := by cases h <;> rfl
theorem TyOf.same {t : Value} (e : Same H H') (h : TyOf K H x t) : TyOf K H' x t := by
  cases h with
  | non => exact .non
  | bl b => exact .bl b
  | int i => exact .int i
  | str y => exact .str y
  | flt y => exact .flt y
  | lst q => exact .lst (e _ _ q)
  | frz q => exact .frz (e _ _ q)
  | tup q => exact .tup (e _ _ q)
  | dK q => exact .dK (e _ _ q)
  | dT q => exact .dT (e _ _ q)
  | ins q c a b d m => exact .ins (e _ _ q) c a b d m
end
theorem atI_0 {α : Type} {c : α} {cs : List α} : atI (c :: cs) (0 : Int) = some c := atI_nat (j := 0) rfl
theorem atI_lt {α : Type} {xs : List α} {i : Int} (h0 : 0 ≤ i) (h1 : i < xs.length) : ∃ v, atI xs i = some v ∧ v ∈ xs := by
  obtain ⟨j, rfl⟩ : ∃ j : Nat, i = (j : Int) := ⟨i.toNat, by omega⟩
  have hj : j < xs.length := by omega
  exact ⟨xs[j], atI_nat (by simp [hj]), List.getElem_mem hj⟩
theorem Same.new {H : Hp} {p : Addr} {o : HO} (h : H p = none) : Same H (upd H p o) := fun b u e => by
  rw [upd_ne (ne_of_none e h)]
  exact e
theorem Same.tup {K : PySem.W.Frag} {H H' : Hp} {a : Addr} {xs : List V} (e : Same H H') (h : SqT K H a xs) : SqT K H' a xs := by
  rcases h with (h | ⟨o, h⟩) | h
  · exact .inl (.inl (e _ _ h))
  · exact .inl (.inr ⟨o, e _ _ h⟩)
  · exact .inr h
/-- all but the object at p is as it was -/
def Off (p : Addr) (H H' : Hp) : Prop := ∀ b, b ≠ p → H' b = H b
theorem Off.refl (p : Addr) (H : Hp) : Off p H H := fun _ _ => rfl
theorem Off.trans {p : Addr} {H H1 H2 : Hp} (a : Off p H H1) (b : Off p H1 H2) : Off p H H2 := fun c h => (b c h).trans (a c h)
theorem Off.upd {p : Addr} {H : Hp} {o : HO} : Off p H (upd H p o) := fun _ h => upd_ne h
theorem Off.seq {K : PySem.W.Frag} {p a : Addr} {H H' : Hp} {xs : List V} (e : Off p H H') (ne : a ≠ p) (h : SqL K H a xs) : SqL K H' a xs := by
  rcases h with (h | ⟨o, h⟩) | h
  · exact .inl (.inl (by rw [e a ne]; exact h))
  · exact .inl (.inr ⟨o, by rw [e a ne]; exact h⟩)
  · exact .inr h
theorem small_line {n : Nat} (h : n ≤ 1000000) : n ≤ sizeLine := Nat.le_trans h (by decide)
end L2
namespace L2
open PySem PySem.Spec PyProof.Rows
/-- as def_of, for a function that is known by its address (the law's own) -/
theorem fnok_of {P : Program} {w : World} {K : PySem.W.Frag} {mg : Str → Option Value} {base : Heap} {CX : CXT} {x : Str} {ps : List Str} {sp : Sp} {k : Nat} {st : Stmt} {N : List Str} {f : Addr} {fd : FuncData}
    (F : Fun K x x st f fd) (S : FnScope N ps (defScope st)) (len : ∀ vs H Q E, sp vs H Q E → vs.length = ps.length)
    (hbody : ∀ (cdv : Value) (A : Around) (outer : List Env) (s : Shared) (H : Hp) (vs : List V) (Q : VK) (E : XK), Room k (A.deeper (envOfC x (defScope st) s.heap.objs.size f cdv)) → sp vs H Q E →
      ∃ t, PSs (cxOf CX P w K mg base N x (defScope st) f cdv A outer s H E).nox (defBody st) t ∧ t { nx := fun _ H' => Q .non H', rt := Q } (start N vs) H) : FnOk P w K mg base CX (k + 1) f fd ps sp := by
  obtain ⟨oc, od, kV, doc, pm, an, cdv, ct, osl, rfl, lk, hcd⟩ := F.ex
  refine fn_of lk hcd S len fun A outer s H vs Q E hr hsp => ?_
  obtain ⟨t, h, q⟩ := hbody cdv A outer s H vs Q E hr hsp
  exact ⟨t, h.nox, q⟩
end L2
set_option Elab.async false
set_option linter.all false
set_option maxRecDepth 100000
set_option maxHeartbeats 4000000
namespace L2
open PySem PySem.Spec PyProof.Rows
/-- what is asked of the built-in class under which own exception classes stand, bm being what stands above the class itself (own classes too) -/
structure ExcF (B newId initId : String) (bm : List Value) : Prop where
  call : ExcCallFacts B newId initId
  split : splitId newId = some (B, "__new__")
  kind : builtinKind newId = some .builtinFn
  row : Manifest.signature? newId = some ⟨.any, B, B, .cls, [⟨"args", .varPos, false⟩, ⟨"kwargs", .varKw, false⟩]⟩
  hasB : bm.contains (.type B) = true
  hasE : bm.contains (.type "BaseException") = true
  noA : bm.contains (.type "AttributeError") = false
  noN : bm.contains (.type "NameError") = false
  canon : Manifest.canonical newId = Manifest.canonical "BaseException.__new__"
theorem excF_ValueError : ExcF "ValueError" "ValueError.__new__" "ValueError.__init__" [.type "ValueError", .type "Exception", .type "BaseException", .type "object"] :=
  ⟨PySem.F.excBase_ValueError.toExcCallFacts, PySem.F.excBase_ValueError.newSplit, PySem.F.excBase_ValueError.newKind, PySem.F.excBase_ValueError.newRow, PySem.F.excBase_ValueError.hasB, PySem.F.excBase_ValueError.hasBase, PySem.F.excBase_ValueError.noAttr, PySem.F.excBase_ValueError.noName, PySem.F.excBase_ValueError.canon⟩
theorem ExcF.under {B newId initId : String} {bm : List Value} (F : ExcF B newId initId bm) (R : Addr) : ExcF B newId initId (.ref R :: bm) :=
  ⟨F.call, F.split, F.kind, F.row, by rw [List.contains_cons, F.hasB, Bool.or_true], by rw [List.contains_cons, F.hasE, Bool.or_true], by rw [List.contains_cons, F.noA]; rfl, by rw [List.contains_cons, F.noN]; rfl, F.canon⟩
section
variable {prog : Program} {w : World} {M : Model} {A : Around} {E : Value → Shared → Prop} {R : Result → Shared → Prop} {h : Heap} {g : Array GenState} {d : Drawn} {t : Nat} {os : OsState}
variable {nm q : Str} {C N : Addr} {bs bm : List Value} {hdct : Bool} {sn : List Str} {sub : List Value} {ab : Bool} {col : Option Bool} {dd : Option Addr} {k0 k1 k2 k3 k5 : Option Value} {B newId initId : String}
theorem ExcF.has (F : ExcF B newId initId bm) : (Value.ref C :: bm).contains (.type B) = true := by rw [List.contains_cons, F.hasB, Bool.or_true]
theorem exc_check_new (F : ExcF B newId initId bm) {rest : List Value} {Q : Unit → Shared → Prop} (hC : h.get? C = some (excClassObj nm q C N bs bm hdct sn sub ab col dd k0 k1 k2 k3 k5 newId)) (hq : Q () ⟨h, g, d, t, os⟩) :
    wpAny M A (checkBuiltinCall newId ⟨.ref C :: rest, []⟩) Q E ⟨h, g, d, t, os⟩ := by
  have e1 : (Value.ref C :: bm).contains (.type B) = true := F.has
  have e2 := F.call.noStar
  simp only [checkBuiltinCall, F.kind, F.split, F.row]
  repeat (first | refine wpAny_loadPart_at hC ?_ | (refine wpAny_isSubtype_exc hC ?_; rw [e1]) | refine wpAny_staticBase_exc hC ?_ | refine wpAny_madeBy_exc hC ?_ | simp only [bne_self_eq_false, Bool.false_eq_true, if_false] | wp_step)
  exact hq
theorem exc_new (F : ExcF B newId initId bm) {rest : List Value} (hC : h.get? C = some (excClassObj nm q C N bs bm hdct sn sub ab col dd k0 k1 k2 k3 k5 newId))
    (hq : R (.ok (.ret (.ref (h.objs.size + 1)))) ⟨(h.push { cls := .type "tuple", data := .seq rest.toArray }).push { cls := .ref C, data := .fields #[.ref h.objs.size, .none, .none, .none, .bool false, .none] }, g, d, t, os⟩) (hz : rest.length ≤ sizeLine) :
    codeAny (model prog w) A (.builtin newId ⟨.ref C :: rest, []⟩) R ⟨h, g, d, t, os⟩ := by
  have e0 := F.call.ends
  have e1 : (Value.ref C :: bm).contains (.type B) = true := F.has
  have e2 : (Value.ref C :: bm).contains (.type "AttributeError") = false := by rw [List.contains_cons, F.noA]; rfl
  have e3 : (Value.ref C :: bm).contains (.type "NameError") = false := by rw [List.contains_cons, F.noN]; rfl
  refine codeAny_builtinAt F.call.entry ?_
  unfold Builtin.«BaseException.__new__»; refine PySem.wpAt_bind ?_
  show PySem.wpAt _ _ _ (stack >>= _) _ _ _; refine PySem.wpAt_bind (PySem.wpAt_stack fun p below => PySem.wpAt_of_wpAny ?_)
  wp_walk; refine PySem.wpAt_of_wpAny ?_
  rw [F.call.owner]
  repeat (first | with_reducible refine wpAny_madeHere_exc F.canon hC ?_ | with_reducible refine wpAny_loadPart_at hC ?_ | (with_reducible refine wpAny_isSubtype_exc hC ?_; first | rw [e1] | rw [e2] | rw [e3]) | wp_step)
  show R _ _; rw [Heap.size_push]; exact hq
/-- C(..) by its own __init__ -/
theorem exc_make (F : ExcF B newId initId bm) {rest : List Value} {fI : Addr} {oI : Obj} {Q : Value → Shared → Prop} (hC : h.get? C = some (excClassObj nm q C N bs bm hdct sn sub ab col dd k0 k1 k2 k3 k5 newId))
    (hi : PySem.W.Looks (model prog w) h (typeLookup (.ref C) "__init__") (some (.ref fI))) (hfI : h.get? fI = some oI) (hfc : oI.cls = .type "function")
    (hq : ∀ h', (∀ b o, h.get? b = some o → h'.get? b = some o) → h'.get? (h.objs.size + 1) = some { cls := .ref C, data := .fields #[.ref h.objs.size, .none, .none, .none, .bool false, .none] } → wpAny (model prog w) (A.under (.builtin "type.__call__" ⟨.ref C :: rest, []⟩)) (PySem.call (.ref fI) (.ref (h.objs.size + 1) :: rest)) (fun r s' => r = .none ∧ Q (.ref (h.objs.size + 1)) s') E ⟨h', g, d, t, os⟩) (hz : rest.length ≤ sizeLine) :
    wpAny (model prog w) A (PySem.call (.ref C) rest) Q E ⟨h, g, d, t, os⟩ := by
  have f1 := tc_lookup
  have f2 := tc_bind (.ref C)
  have hT : (⟨h, g, d, t, os⟩ : Shared).TypeIs (.ref C) "type" := ⟨_, hC, rfl⟩
  refine wpAny_call (codeAny_of_tree ?_)
  show wpAny _ _ (callAny (.ref C) _) _ _ _
  repeat (any_goals (first | assumption | with_reducible refine wpAny_loadPart_at hC ?_ | wp_step))
  refine ⟨rfl, codeAny_call_builtin_at (Code.quiet_builtin _ (by decide +kernel)) entry_typeCall (wpAny_check_type_call_sub hC ?_)⟩
  repeat (first | with_reducible refine wpAny_loadPart_at hC ?_ | with_reducible refine wpAny_madeBy_exc hC ?_ | wp_step)
  refine codeAny_call_builtin_code (Code.quiet_builtin _ F.call.quiet) (exc_check_new F hC (exc_new F hC ?_ hz))
  show wpAny _ _ _ _ _ (⟨(h.push { cls := .type "tuple", data := .seq rest.toArray }).push { cls := .ref C, data := .fields #[.ref h.objs.size, .none, .none, .none, .bool false, .none] }, g, d, t, os⟩ : Shared)
  generalize hh2 : (h.push { cls := .type "tuple", data := .seq rest.toArray }).push { cls := .ref C, data := .fields #[.ref h.objs.size, .none, .none, .none, .bool false, .none] } = h2
  have kp : ∀ b o, h.get? b = some o → h2.get? b = some o := fun b o e => by rw [← hh2]; exact Heap.get?_push_of_some _ (Heap.get?_push_of_some _ e)
  have hget : h2.get? (h.objs.size + 1) = some { cls := .ref C, data := .fields #[.ref h.objs.size, .none, .none, .none, .bool false, .none] } := by rw [← hh2]; heap_get
  have htup : h2.get? h.objs.size = some { cls := .type "tuple", data := .seq rest.toArray } := by rw [← hh2]; exact Heap.get?_push_of_some _ (Heap.get?_push_at rfl rfl)
  have hcC : (Value.ref C :: bm).contains (.ref C) = true := by simp
  unfold isInstance
  repeat (first | with_reducible refine wpAny_loadPart_at hget ?_ | (with_reducible refine wpAny_isSubtype_exc (kp _ _ hC) ?_; rw [hcC]) | wp_step)
  show wpAny _ _ (typeLookup (.ref C) _) _ _ _
  refine hi _ _ _ _ kp ?_
  refine wpAny_holding (wpAny_bind ?_)
  unfold bindSpecial; refine wpAny_bind (wpAny_typeOf (T := "function") ⟨_, kp _ _ hfI, hfc⟩ ?_)
  rw [if_pos (by decide)]
  refine wpAny_pure (wpAny_bind (wpAny_mono (hq h2 kp hget) (fun r s' hr => ?_) fun _ _ x => x))
  obtain ⟨rfl, hQ⟩ := hr
  wp_walk
  exact hQ
end
end L2
set_option Elab.async false
set_option linter.all false
set_option maxRecDepth 100000
set_option maxHeartbeats 4000000
namespace L2
open PySem PySem.Spec PyProof.Rows
section
variable {prog : Program} {w : World} {A : Around} {E : Value → Shared → Prop} {s : Shared} {K : PySem.W.Frag} {e C : Addr} {oe : Obj} {vs : Array Value} {name : Str} {v : Value}
theorem exc_notCls (hf : oe.data = .fields vs) : PySem.W.notCls oe = true := by
  unfold PySem.W.notCls
  rw [hf]
/-- the classes above: own ones, then ValueError's -/
def exOnly : List Value → Bool
  | .ref _ :: r => exOnly r
  | l => l == [.type "ValueError", .type "Exception", .type "BaseException", .type "object"]
theorem refuse_ve (self : Value) : refuseLoop self "__setattr__" [.type "ValueError", .type "Exception", .type "BaseException", .type "object"] = pure () := by kernel_rfl
theorem refuse_ex (self : Value) : ∀ {l : List Value}, exOnly l = true → refuseLoop self "__setattr__" l = pure ()
  | .ref c :: r, h => by
    rw [refuseLoop_ref]
    exact refuse_ex self h
  | [], h => by cases h
  | .type n :: r, h => by
    have z : (Value.type n :: r) = [.type "ValueError", .type "Exception", .type "BaseException", .type "object"] := eq_of_beq h
    rw [z]
    exact refuse_ve self
  | .none :: r, h => by cases (eq_of_beq h : (Value.none :: r) = _)
  | .bool _ :: r, h => by cases (eq_of_beq h : (_ :: r) = _)
  | .int _ _ :: r, h => by cases (eq_of_beq h : (_ :: r) = _)
  | .str _ _ :: r, h => by cases (eq_of_beq h : (_ :: r) = _)
  | .bytes _ _ :: r, h => by cases (eq_of_beq h : (_ :: r) = _)
  | .float _ _ :: r, h => by cases (eq_of_beq h : (_ :: r) = _)
  | .builtin _ :: r, h => by cases (eq_of_beq h : (_ :: r) = _)
  | .ellipsis :: r, h => by cases (eq_of_beq h : (_ :: r) = _)
  | .notImplemented :: r, h => by cases (eq_of_beq h : (_ :: r) = _)
theorem exOnly_has : ∀ {l : List Value}, exOnly l = true → l.contains (.type "object") = true ∧ l.isEmpty = false
  | .ref c :: r, h => ⟨by rw [List.contains_cons, (exOnly_has (l := r) h).1, Bool.or_true], rfl⟩
  | [], h => by cases h
  | .type n :: r, h => by
    have z : (Value.type n :: r) = [.type "ValueError", .type "Exception", .type "BaseException", .type "object"] := eq_of_beq h
    rw [z]
    exact ⟨by decide, rfl⟩
  | .none :: r, h => by cases (eq_of_beq h : (Value.none :: r) = _)
  | .bool _ :: r, h => by cases (eq_of_beq h : (_ :: r) = _)
  | .int _ _ :: r, h => by cases (eq_of_beq h : (_ :: r) = _)
  | .str _ _ :: r, h => by cases (eq_of_beq h : (_ :: r) = _)
  | .bytes _ _ :: r, h => by cases (eq_of_beq h : (_ :: r) = _)
  | .float _ _ :: r, h => by cases (eq_of_beq h : (_ :: r) = _)
  | .builtin _ :: r, h => by cases (eq_of_beq h : (_ :: r) = _)
  | .ellipsis :: r, h => by cases (eq_of_beq h : (_ :: r) = _)
  | .notImplemented :: r, h => by cases (eq_of_beq h : (_ :: r) = _)
def excOver (K : PySem.W.Frag) (C : Addr) : Bool := (PySem.W.clsIn K C).any fun cd => exOnly cd.mro
/-- object.__setattr__ on an exception: up to the store -/
theorem osa_exc {ox : Obj} {od : Option Obj} {tk : Tok} {R : Result → Shared → Prop} (X : K.In s.heap) (I : PySem.W.InstAt s.heap e ox C od) (hp : excOver K C = true) (ht : PySem.W.takerIn K C name = some none)
    (h : ∀ b, wpAny (model prog w) A.in1 (Builtin.ObjectAttr.storeInOwnDict (.ref e) (.ref C) (.str name tk) name v b)
      (fun fin s' => match fin with | .done f => R (.ok f) s' | .again c' => c'.quiet = true ∧ codeAny (model prog w) A c' R s') (fun x s' => R (.error x) s') s) :
    codeAny (model prog w) A (.call (.builtin "object.__setattr__") ⟨[.ref e, .str name tk, v], []⟩) R s := by
  have SF := PySem.F.store_object
  obtain ⟨cd, hc, ho⟩ := PySem.W.any_some hp
  obtain ⟨hasO, ne⟩ := exOnly_has ho
  have sub : PySem.W.Looks (model prog w) s.heap (isInstance (.ref e) (.type "object")) true := I.type.andThen (PySem.W.looks_mroIn X (by unfold PySem.W.mroIn; rw [hc, Option.bind_some, if_neg (by rw [ne]; decide), hasO]))
  refine codeAny_call_builtin SF.slot.plain SF.entry (@PySem.W.check_slot (model prog w) _ _ s "object.__setattr__" "object" "__setattr__" (.ref e) [.str name tk, v] [] _ SF.kind SF.split sub (SF.args (.ref e) (.str name tk) v) ?_)
  obtain ⟨attr, ha, hr⟩ := Option.bind_eq_some_iff.mp ht
  have hm : PySem.W.Looks (model prog w) s.heap (mroOf (.ref C)) cd.mro := (PySem.W.looks_clsIn X hc).andThen .now
  have L3 : PySem.W.Looks (model prog w) s.heap (Builtin.ObjectAttr.storeTaker? attr) none := by
    cases attr with
    | none => exact .now
    | some a =>
      obtain ⟨b, hb, q⟩ := Option.map_eq_some_iff.mp hr
      refine (PySem.W.looks_takesIn X hb).andThen ?_
      cases b with
      | true => cases q
      | false => exact .now
  rw [PySem.W.osa_eq, refuse_eq]
  refine wpAny_bind (wpAny_bind (I.type.here (wpAny_bind (hm.here ?_))))
  rw [refuse_ex _ ho]
  refine wpAny_pure (wpAny_bind (I.type.here (wpAny_bind ((PySem.W.looks_findIn X ha).here (wpAny_bind (L3.here ?_))))))
  exact h _
/-- the first field that is stored: the exception gets its dict -/
theorem exc_set0 {Q : Unit → Shared → Prop} (X : K.In s.heap) (he : s.heap.get? e = some oe) (hc : oe.cls = .ref C) (hd : oe.dict = none) (hf : oe.data = .fields vs)
    (hs : PySem.W.findIn K (.ref C) "__setattr__" = some (some (.builtin "object.__setattr__"))) (hp : excOver K C = true) (ht : PySem.W.takerIn K C name = some none) (hh : PySem.W.hasDictIn K C = true)
    (h : ∀ h', (∀ b o, b ≠ e → s.heap.get? b = some o → h'.get? b = some o) → h'.get? e = some { oe with dict := some s.heap.objs.size } → h'.Ns1 s.heap.objs.size (fun y => if y = name then some v else none) → Q () { s with heap := h', toks := s.toks + 2 }) :
    wpAny (model prog w) A (setAttr (.ref e) name v) Q E s := by
  have J : PySem.W.InstAt s.heap e oe C none := ⟨he, hc, exc_notCls hf, by rw [hd]; trivial⟩
  refine PySem.W.set_plain X J hs (osa_exc (s := { s with toks := s.toks + 1 }) X J hp ht fun b => ?_)
  obtain ⟨cd, hcd, hdd⟩ := PySem.W.any_some hh
  obtain ⟨oc, od, odt, osl⟩ := oe
  simp only at hc hd hf
  subst hc hd hf
  refine wpAny_bind (wpAny_pure (wpAny_bind (wpAny_bind (wpAny_loadPart he (wpAny_bind (PySem.W.Looks.here (s := { s with toks := s.toks + 1 }) (PySem.W.looks_clsIn X hcd) ?_))))))
  rw [hdd]
  show wpAny (model prog w) A.in1 (alloc { cls := .type "dict", data := .dict #[] } >>= fun d => (update e fun o => { o with dict := some d }) >>= fun _ => dictMade (.ref C) e d) _ _ _
  have hlt : e < s.heap.objs.size := Heap.lt_size he
  have hne : e ≠ s.heap.objs.size := Nat.ne_of_lt hlt
  refine wpAny_bind (wpAny_alloc (wpAny_bind (wpAny_update (Heap.get?_push_of_some _ he) ?_)))
  show wpAny (model prog w) A.in1 (pure (some s.heap.objs.size)) _ _ _
  refine wpAny_pure (wpAny_bind (wpAny_pure (wpAny_bind ?_)))
  have e0 : ((s.heap.push { cls := .type "dict", data := .dict #[] }).update e fun o => { o with dict := some s.heap.objs.size }).get? s.heap.objs.size = some { cls := .type "dict", data := .dict #[] } :=
    (Heap.get?_update_other _ _ hne).trans (Heap.get?_push_size s.heap rfl)
  have e1 : ((s.heap.push { cls := .type "dict", data := .dict #[] }).update e fun o => { o with dict := some s.heap.objs.size }).get? e = some { cls := .ref C, dict := some s.heap.objs.size, data := .fields vs, slots := osl } :=
    Heap.get?_update_self _ (Heap.get?_push_of_some _ he) rfl
  have n0 : ((s.heap.push { cls := .type "dict", data := .dict #[] }).update e fun o => { o with dict := some s.heap.objs.size }).Ns s.heap.objs.size (fun _ => none) :=
    ⟨_, #[], _, e0, rfl, (fun y hy => absurd hy (by simp)), fun _ => rfl⟩
  refine wpAny_nsSet1 (Heap.Ns1.of_empty n0) fun h' hn2 hs2 => ?_
  obtain ⟨oD, esD, epD, hoD, hdD, hcD⟩ := hn2.count (PySem.Within.cons (ns := []) name v (fun y hy => absurd rfl hy))
  refine wpAny_bind (wpAny_lookBehind hoD (by rw [hdD]; exact pastItsLine_dict (Nat.le_trans hcD (by show 1 ≤ _; decide))) ?_)
  refine wpAny_pure (h h' (fun b o hb q => ?_) ((hs2.2 _ hne).trans e1) hn2)
  rw [hs2.2 b (Nat.ne_of_lt (Heap.lt_size q))]
  exact (Heap.get?_update_other _ _ (Ne.symm hb)).trans (Heap.get?_push_of_some _ q)
/-- a further field -/
theorem exc_set1 {dx : Addr} {mA : Str → Option Value} {ns : List Str} {Q : Unit → Shared → Prop} (X : K.In s.heap) (he : s.heap.get? e = some oe) (hc : oe.cls = .ref C) (hd : oe.dict = some dx) (hf : oe.data = .fields vs) (hn : s.heap.Ns1 dx mA) (hne : dx ≠ e)
    (hs : PySem.W.findIn K (.ref C) "__setattr__" = some (some (.builtin "object.__setattr__"))) (hp : excOver K C = true) (ht : PySem.W.takerIn K C name = some none) (hh : PySem.W.hasDictIn K C = true) (hw : PySem.Within mA ns) (hsz : ns.length ≤ 1000)
    (h : ∀ h', Heap.SameBut dx s.heap h' → h'.Ns1 dx (fun y => if y = name then some v else mA y) → Q () { s with heap := h', toks := s.toks + 2 }) :
    wpAny (model prog w) A (setAttr (.ref e) name v) Q E s := by
  obtain ⟨od, ho, _⟩ := lookIn_ns hn
  have J : PySem.W.InstAt s.heap e oe C (some od) := ⟨he, hc, exc_notCls hf, by rw [hd]; exact ho⟩
  refine PySem.W.set_plain X J hs (osa_exc (s := { s with toks := s.toks + 1 }) X J hp ht fun b => ?_)
  obtain ⟨cd, hcd, hdd⟩ := PySem.W.any_some hh
  obtain ⟨oc, od', odt, osl⟩ := oe
  simp only at hc hd hf
  subst hc hd hf
  refine wpAny_bind (wpAny_pure (wpAny_bind (wpAny_bind (wpAny_loadPart he (wpAny_bind (PySem.W.Looks.here (s := { s with toks := s.toks + 1 }) (PySem.W.looks_clsIn X hcd) ?_))))))
  rw [hdd]
  refine wpAny_pure (a := some dx) (wpAny_bind (wpAny_pure (wpAny_bind (wpAny_nsSet1 (s := { s with toks := s.toks + 1 }) hn fun h' hn2 hs2 => ?_))))
  obtain ⟨oD, esD, epD, hoD, hdD, hcD⟩ := hn2.count (PySem.Within.cons name v hw)
  refine wpAny_bind (wpAny_lookBehind hoD (by rw [hdD]; exact pastItsLine_dict (Nat.le_trans hcD (by rw [List.length_cons]; have := sizeLine_eq; omega))) ?_)
  exact wpAny_pure (h h' hs2 hn2)
/-- e.f -/
theorem exc_get {dx : Addr} {mA : Str → Option Value} {expr : Bool} {Q : Value → Shared → Prop} (X : K.In s.heap) (he : s.heap.get? e = some oe) (hc : oe.cls = .ref C) (hd : oe.dict = some dx) (hf : oe.data = .fields vs) (hn : s.heap.Ns1 dx mA)
    (hga : PySem.W.findIn K (.ref C) "__getattribute__" = some (some (.builtin "BaseException.__getattribute__"))) (hgb : PySem.W.findIn K (.ref C) "__getattr__" = some none) (hmb : PySem.W.mroIn K C (.type "BaseException") = some true)
    (hh : PySem.W.hasDictIn K C = true) (ha : PySem.W.findIn K (.ref C) name = some none) (hv : mA name = some v) (hv' : PySem.W.handedIn v = true) (h : Q v { s with toks := s.toks + 1 }) :
    wpAny (model prog w) A (getAttr (.ref e) name expr) Q E s := by
  obtain ⟨od, ho, hl⟩ := lookIn_ns hn
  have J : PySem.W.InstAt s.heap e oe C (some od) := ⟨he, hc, exc_notCls hf, by rw [hd]; exact ho⟩
  have hfo : PySem.W.findObj K C (some od) name = some (.value v) := PySem.W.findObj_own hh ha rfl (by rw [hl, hv])
  obtain ⟨hp, g, d, t, os⟩ := s
  have L0 := J.type (M := model prog w)
  have L1 := PySem.W.looks_findIn (M := model prog w) X hga
  have L2 := PySem.W.looks_find (M := model prog w) X J hfo
  have L3 := PySem.W.looks_findIn (M := model prog w) X hgb
  have hx0 : (expr && onTheHeap (Value.builtin "BaseException.__getattribute__")) = false := by cases expr <;> rfl
  have sub : PySem.W.Looks (model prog w) hp (isInstance (.ref e) (.type "BaseException")) true := J.type.andThen (PySem.W.looks_mroIn X hmb)
  unfold getAttr getAttrBy
  refine wpAny_bind (wpAny_mkText (wpAny_holding (wpAny_bind (L0.at (wpAny_bind (L1.at ?_))))))
  show wpAny _ _ (getAttrByItsOwn (.ref e) (.str name t) (.ref C) (.builtin "BaseException.__getattribute__") true expr) _ _ _
  unfold getAttrByItsOwn
  refine wpAny_bind (show wpAny _ _ (typeLookup (.ref C) "__getattr__") _ _ _ from L3.at ?_)
  refine wpAny_bind (wpAny_attempt (wpAny_holding ?_))
  unfold callGetattribute
  rw [hx0, if_neg Bool.false_ne_true]
  unfold boundAndCalled
  rw [PySem.F.excAttr_ValueError.ga.bind (.ref e)]
  refine wpAny_bind (wpAny_pure (wpAny_call (codeAny_call_builtin PySem.F.excAttr_ValueError.ga.plain PySem.F.entry_bexc_ga (@PySem.W.check_slot (model prog w) _ _ _ "BaseException.__getattribute__" "BaseException" "__getattribute__" (.ref e) [.str name t] [] _ (by decide +kernel) (by decide +kernel) sub (PySem.F.args_bexc_ga _ _) ?_))))
  refine wpAny_bind (wpAny_pure (wpAny_bind (wpAny_pure (wpAny_bind (L0.at (wpAny_bind (L2.at (wpAny_pure ?_))))))))
  show wpAny _ _ (handedOut v) _ _ _
  rw [PySem.W.handedOut_of hv']; exact wpAny_pure h
end
end L2
set_option Elab.async false
set_option linter.all false
set_option maxRecDepth 100000
set_option maxHeartbeats 4000000
namespace L2
open PySem PySem.Spec PyProof.Rows
/-- an exception of the class at C that was made and not raised yet; dx: its dict, once it has one -/
def excO (e C : Addr) (dx : Option Addr) : HO := .ext fun h => ∃ t sl, h.get? e = some { cls := .ref C, dict := dx, data := .fields #[.ref t, .none, .none, .none, .bool false, .none], slots := sl }
/-- its dict -/
def dctO (dx : Addr) (fs : List (Str × V)) : HO := .ext fun h => ∃ mA, h.Ns1 dx mA ∧ (∀ f, RelO (fs.lookup f) (mA f)) ∧ PySem.Within mA (fs.map (·.1)) ∧ fs.length ≤ 100
section
variable {P : Program} {w : World} {H : Hp} {h : Heap} {e C dx : Addr}
theorem excO_ok {do' : Option Addr} {t : Addr} {sl : Array (Option Value)} (q : h.get? e = some { cls := .ref C, dict := do', data := .fields #[.ref t, .none, .none, .none, .bool false, .none], slots := sl }) : ObjOk P w H h e (excO e C do') :=
  ⟨⟨t, sl, q⟩, ⟨_, q⟩, fun h1 h2 ⟨t, sl, z⟩ k => ⟨t, sl, k _ z⟩⟩
theorem dctO_ok {fs : List (Str × V)} {mA : Str → Option Value} (n : h.Ns1 dx mA) (r : ∀ f, RelO (fs.lookup f) (mA f)) (wi : PySem.Within mA (fs.map (·.1))) (hl : fs.length ≤ 100) : ObjOk P w H h dx (dctO dx fs) := by
  refine ⟨⟨mA, n, r, wi, hl⟩, ?_, fun h1 h2 ⟨mA, n, r, wi, hl⟩ k => ⟨mA, n.at k, r, wi, hl⟩⟩
  obtain ⟨o, _, _, q, _⟩ := n
  exact ⟨o, q⟩
end
/-- what of the text an exception class must have -/
structure ExcC (K : PySem.W.Frag) (C f : Addr) (bm : List Value) : Prop where
  obj : ∃ nm q N bs hdct sn sub ab col dd k0 k1 k2 k3 k5, K.lookup C = some (excClassObj nm q C N bs bm hdct sn sub ab col dd k0 k1 k2 k3 k5 "ValueError.__new__")
  bm_ok : ExcF "ValueError" "ValueError.__new__" "ValueError.__init__" bm
  init : PySem.W.findIn K (.ref C) "__init__" = some (some (.ref f))
  fn : ∃ o, K.lookup f = some o ∧ o.cls = .type "function"
  kp : PySem.W.keepIn K (.ref C) = true
/-- what of the text its fields ask -/
structure ExcS (K : PySem.W.Frag) (C : Addr) : Prop where
  sa : PySem.W.findIn K (.ref C) "__setattr__" = some (some (.builtin "object.__setattr__"))
  po : excOver K C = true
  hd : PySem.W.hasDictIn K C = true
section
variable {X : Cx} {CX : CXT} {k m : Nat} {f C : Addr} {fd : FuncData} {ps : List Str} {sp : Sp} {E : XK} {x : Str} {p pos : Pos} {e : Expr} {es : List Expr} {t : TA} {bm : List Value}
theorem run_exc {pins : List (Addr × Obj)} {σ : St} {H : Hp} {s : Shared} {Q : VK} {us : List Value} {vs : List V} (M : ExcC X.K C f bm) (F : FnOk X.prog X.w X.K X.mg X.base CX k f fd ps sp) (hr : Room (k + 1) X.A) (hb : Binds X.K fd ps [])
    (hx : Passes CX X E) (I : Inv X pins σ H s) (r : Vals vs us) (hz : vs.length ≤ sizeLine)
    (h : ∀ x, H x = none → sp (.ref x :: vs) (upd H x (excO x C none)) (fun v H2 => v = .non ∧ Q (.ref x) H2) E) :
    wpAny (model X.prog X.w) X.A (call (.ref C) us) (EP X pins σ Q) X.xe s := by
  obtain ⟨nm, q, N, bs, hdct, sn, sub, ab, col, dd, k0, k1, k2, k3, k5, ho⟩ := M.obj
  obtain ⟨oI, hoI, hcI⟩ := M.fn
  have hsz : us.length ≤ sizeLine := by rw [← r.length]; exact hz
  refine exc_make (h := s.heap) (g := s.gens) (d := s.drawn) (t := s.toks) (os := s.os) M.bm_ok (I.kIn C _ ho) (PySem.W.looks_findIn I.kIn M.init) (I.kIn f _ hoI) hcI (fun h' kp hget => ?_) hsz
  have hfr : H (s.heap.objs.size + 1) = none := I.hok.fresh (Nat.le_succ _)
  have hq := h (s.heap.objs.size + 1) hfr
  have I2 : Inv X pins σ (upd H (s.heap.objs.size + 1) (excO (s.heap.objs.size + 1) C none)) { s with heap := h' } := I.laid (t' := s.toks) kp (Nat.le_succ _) (excO_ok hget)
  have r2 : Vals (V.ref (s.heap.objs.size + 1) :: vs) (Value.ref (s.heap.objs.size + 1) :: us) := .cons rfl r
  have hl : (Value.ref (s.heap.objs.size + 1) :: us ++ []).length = ps.length := by
    rw [List.append_nil, ← r2.length]
    exact F.len _ _ _ _ hq
  refine wpAny_call (codeAny_mono (F.run _ X.stack _ _ ⟨Value.ref (s.heap.objs.size + 1) :: us, []⟩ (Value.ref (s.heap.objs.size + 1) :: us) _ _ E (hr.make C us []) (I2.env0.make C us []) (by
    have := hb { s with heap := h' } (Value.ref (s.heap.objs.size + 1) :: us) I2.kIn hl
    rwa [List.append_nil] at this) r2 hq) fun r s' hq' => ?_)
  cases r with
  | error e => exact hx pins σ _ _ e s' I2 hq'
  | ok fl =>
    cases fl with
    | ret u =>
      obtain ⟨v, H', I3, rv, ev, q3⟩ := I2.after hq'
      subst ev
      exact ⟨rv, ⟨V.ref (s.heap.objs.size + 1), H', I3, rfl, q3⟩⟩
    | next => exact False.elim hq'
    | brk => exact False.elim hq'
    | cont => exact False.elim hq'
/-- self.f = value, self an exception of the class at C -/
def sExc (K : PySem.W.Frag) (ta tv : TE) (f : Str) : TS := fun D σ H => tv σ H fun y H1 => ta σ H1 fun x H2 => ∃ a C, x = .ref a ∧ ExcS K C ∧ PySem.W.takerIn K C f = some none ∧
  ((H2 a = some (excO a C none) ∧ ∀ dx, H2 dx = none → D.nx σ (upd (upd H2 dx (dctO dx [(f, y)])) a (excO a C (some dx)))) ∨
   ∃ dx fs, H2 a = some (excO a C (some dx)) ∧ H2 dx = some (dctO dx fs) ∧ dx ≠ a ∧ fs.length < 100 ∧ D.nx σ (upd H2 dx (dctO dx (putF f y fs))))
theorem ps_exc {o value : Expr} {f : Str} {ta tv : TE} {pos' : Pos} (ha : PE X o ta) (hv : PE X value tv) (hs : swapsWith value (some (.Attribute o f pos')) pos.line X.env = pure false := by rfl) : PS X (.Assign [.Attribute o f pos'] value pos) (sExc X.K ta tv f) := by
  intro pins s σ H D I h
  refine plainObj_wpAny_Assign_Attribute (thn (hv pins s σ H _ I h) fun u s1 ⟨y, H1, I1, ry, q⟩ => thn (ha pins s1 σ H1 _ I1 q) fun ov s2 ⟨x, H2, I2, rx, a, C, ex, S, tk, q2⟩ => ?_) hs
  subst ex
  obtain rfl : ov = Value.ref a := rx
  rcases q2 with ⟨ho, q3⟩ | ⟨dx, fs, ho, hd, hne, hl, q3⟩
  · obtain ⟨⟨t, sl, ge⟩, _, _⟩ : ObjOk X.prog X.w H2 s2.heap a (excO a C none) := I2.hok a _ ho
    refine exc_set0 I2.kIn ge rfl rfl rfl S.sa S.po tk S.hd fun h' kp ge' n' => ?_
    have hfr : H2 s2.heap.objs.size = none := I2.hok.fresh (Nat.le_refl _)
    have nas : a ≠ s2.heap.objs.size := ne_of_none ho hfr
    have other : ∀ b, b ≠ a → b ≠ s2.heap.objs.size → (upd (upd H2 s2.heap.objs.size (dctO s2.heap.objs.size [(f, y)])) a (excO a C (some s2.heap.objs.size))) b = H2 b := fun b h1 h2 => by rw [upd_ne h1, upd_ne h2]
    have nlt : ∀ b o, s2.heap.get? b = some o → b ≠ s2.heap.objs.size := fun b o z => Nat.ne_of_lt (Heap.lt_size z)
    have na : ∀ b, H2 b = none → b ≠ a := fun b z q => by rw [q, ho] at z; cases z
    have ext_ne : ∀ b u, H2 b = some u → u ≠ excO a C none → b ≠ a := fun b u z d q => by
      rw [q, ho] at z
      exact d (Option.some.inj z).symm
    refine ⟨σ, _, I2.un ⟨fun b o z n _ _ => kp b o (na b n) z, fun b o z n _ _ => ⟨o.slots, kp b o (na b n) z⟩, fun b o z n _ => by rw [other b (na b n) (nlt b o z)]; exact n, fun b o z _ => ?_, fun b xs z => ?_, fun b o u z => ?_, fun b ps z => ⟨#[], ?_⟩⟩ (fun b u z => ?_), q3 _ hfr⟩
    · by_cases hb : b = a
      · exact ⟨_, by rw [hb]; exact ge'⟩
      · exact ⟨o, kp b o hb z⟩
    · rw [other b (ext_ne b _ z (by intro q; cases q)) (ne_of_none z hfr)]; exact z
    · rw [other b (ext_ne b _ z (by intro q; cases q)) (ne_of_none z hfr)]; exact z
    · rw [other b (ext_ne b _ z (by intro q; cases q)) (ne_of_none z hfr), z]; simp
    · by_cases hb : b = a
      · subst hb
        rw [upd_same] at z
        cases z
        exact excO_ok ge'
      · by_cases hb2 : b = s2.heap.objs.size
        · subst hb2
          rw [upd_ne hb, upd_same] at z
          cases z
          refine dctO_ok n' (fun g => ?_) (fun g hg => ?_) (by simp)
          · show RelO ([(f, y)].lookup g) (if g = f then some u else none)
            by_cases zz : g = f
            · rw [if_pos zz, zz]; simpa [List.lookup_cons, RelO] using ry
            · have : (g == f) = false := by simpa using zz
              rw [if_neg zz]
              simp [List.lookup_cons, this, RelO]
          · by_cases zz : g = f
            · simp [zz]
            · exact absurd (show (if g = f then some u else none) = none by rw [if_neg zz]) hg
        · rw [other b hb hb2] at z
          refine (I2.hok b u z).stay (fun c v hc q => kp c v ?_ q) (fun c q => ?_) fun c xs q => ?_
          · rcases hc with rfl | hc
            · exact hb
            · exact ext_ne c _ hc (by intro q; cases q)
          · rw [other c (ext_ne c _ q (by intro q; cases q)) (ne_of_none q hfr)]; exact q
          · rw [other c (ext_ne c _ q (by intro q; cases q)) (ne_of_none q hfr)]; exact q
  · obtain ⟨⟨t, sl, ge⟩, _, _⟩ : ObjOk X.prog X.w H2 s2.heap a (excO a C (some dx)) := I2.hok a _ ho
    obtain ⟨⟨mA, n, r, wi, hl'⟩, _, _⟩ : ObjOk X.prog X.w H2 s2.heap dx (dctO dx fs) := I2.hok dx _ hd
    refine exc_set1 I2.kIn ge rfl rfl rfl n hne S.sa S.po tk S.hd wi (by rw [List.length_map]; omega) fun h' sb n' => ?_
    refine ⟨σ, _, I2.write (x := dx) (e := dx) (by rw [hd]; trivial) (.inl rfl) (fun b o hb z => (sb.2 b hb).trans z) (let ⟨o, _, _, z, _⟩ := n'; ⟨o, z⟩) (dctO_ok n' (fun g => ?_) (fun g hg => ?_) ?_), q3⟩
    · show RelO ((putF f y fs).lookup g) (if g = f then some u else mA g)
      rw [lookup_putF]
      by_cases z : g = f
      · rw [if_pos z, if_pos z]; exact ry
      · rw [if_neg z, if_neg z]; exact r g
    · by_cases z : g = f
      · rw [z]; exact (keys_putF f y fs).1
      · refine (keys_putF f y fs).2 g (wi g fun z2 => hg ?_)
        show (if g = f then some u else mA g) = none
        rw [if_neg z]; exact z2
    · have := length_putF f y fs; omega
/-- what of the text reading its fields asks -/
structure ExcG (K : PySem.W.Frag) (C : Addr) : Prop where
  ga : PySem.W.findIn K (.ref C) "__getattribute__" = some (some (.builtin "BaseException.__getattribute__"))
  gb : PySem.W.findIn K (.ref C) "__getattr__" = some none
  mb : PySem.W.mroIn K C (.type "BaseException") = some true
  hd : PySem.W.hasDictIn K C = true
end
end L2
set_option Elab.async false
set_option linter.all false
set_option maxRecDepth 100000
set_option maxHeartbeats 4000000
namespace L2
open PySem PySem.Spec PyProof.Rows
section
variable {M : Model} {A : Around} {E : Value → Shared → Prop} {s : Shared} {base : Heap} {env : Env} {outer : List Env} {L e : Addr} {oe : Obj} {vs : Array Value}
end
end L2
set_option Elab.async false
set_option linter.all false
set_option maxRecDepth 100000
set_option maxHeartbeats 4000000
namespace L2
open PySem PySem.Spec PyProof.Rows
/-- an exception of the class at C in flight, made since the heap had n objects; dx: its dict -/
def Flown (n : Nat) (h : Heap) (a C : Addr) (dx : Option Addr) (H : Hp) : Prop :=
  ∃ oe vs T oT ts, h.get? a = some oe ∧ oe.cls = .ref C ∧ oe.dict = dx ∧ oe.data = .fields vs ∧ vs[1]? = some (.ref T) ∧ T ≠ a ∧ h.get? T = some oT ∧ oT.data = .fields ts ∧ ts[3]? = some .none ∧ H a = none ∧ H T = none ∧ n ≤ a ∧ n ≤ T
def CX1 (P : Program) (w : World) : CXT := fun outer H s E ev s' =>
  ∃ a C dx H', ev = .ref a ∧ s'.os = s.os ∧ AllBare s'.gens ∧ Un (frs outer) [] H H' s.heap s'.heap ∧ HOk P w H' s'.heap ∧ Flown s.heap.objs.size s'.heap a C dx H' ∧ E (.ref C) dx H'
section
variable {P : Program} {w : World} {K : PySem.W.Frag} {mg : Str → Option Value} {base : Heap} {N : List Str} {qual : Str} {scope : Scope} {f : Addr} {cd : Value} {A : Around} {outer : List Env} {s : Shared} {H : Hp} {E : XK}
end
end L2
set_option Elab.async false
set_option linter.all false
set_option maxRecDepth 100000
set_option maxHeartbeats 4000000
namespace L2
open PySem PySem.Spec PyProof.Rows
mutual
def pyD : Dt → PyData
  | .non => .none
  | .bl b => .bool b
  | .int i => .int i
  | .str x => .str x
  | .lst xs => .list (pyDs xs)
  | .tup xs => .tuple (pyDs xs)
def pyDs : List Dt → List PyData
  | [] => []
  | x :: xs => pyD x :: pyDs xs
end
section
variable {X : Cx} {pins : List (Addr × Obj)} {σ : St} {H : Hp} {s : Shared}
mutual
theorem reads_of (I : Inv X pins σ H s) : ∀ (d : Dt) (v : V) (u : Value), Rep X.K H d v → RelV v u → ∃ as, Reads s.heap u (pyD d) as
  | .non, v, u, h, r => by
    obtain rfl : v = .non := by simpa [Rep] using h
    cases (show u = Value.none from r)
    exact ⟨_, .none⟩
  | .bl b, v, u, h, r => by
    obtain rfl : v = .bl b := by simpa [Rep] using h
    cases (show u = Value.bool b from r)
    exact ⟨_, .bool b⟩
  | .int i, v, u, h, r => by
    obtain rfl : v = .int i := by simpa [Rep] using h
    obtain ⟨t, rfl⟩ := (show ∃ t, u = Value.int i t from r)
    exact ⟨_, .int i t⟩
  | .str x, v, u, h, r => by
    obtain rfl : v = .str x := by simpa [Rep] using h
    obtain ⟨t, rfl⟩ := (show ∃ t, u = Value.str x t from r)
    exact ⟨_, .str x t⟩
  | .lst ds, v, u, h, r => by
    obtain ⟨p, xs, rfl, hq, hr⟩ : ∃ p xs, v = .ref p ∧ SqL X.K H p xs ∧ Reps X.K H ds xs := by simpa [Rep] using h
    cases (show u = Value.ref p from r)
    obtain ⟨its, rv, ⟨o, n, e, c, _, dd⟩, _⟩ := I.list hq
    obtain ⟨as, ra⟩ := readsAll_of I ds xs its hr rv
    exact ⟨_, .list e c dd (by simpa using ra)⟩
  | .tup ds, v, u, h, r => by
    obtain ⟨p, xs, rfl, hq, hr⟩ : ∃ p xs, v = .ref p ∧ SqT X.K H p xs ∧ Reps X.K H ds xs := by simpa [Rep] using h
    cases (show u = Value.ref p from r)
    obtain ⟨its, rv, ⟨o, e, c, n, dd⟩, _⟩ := I.tuple hq
    obtain ⟨as, ra⟩ := readsAll_of I ds xs its hr rv
    exact ⟨_, .tuple e c dd (by simpa using ra)⟩
theorem readsAll_of (I : Inv X pins σ H s) : ∀ (ds : List Dt) (xs : List V) (us : List Value), Reps X.K H ds xs → Vals xs us → ∃ as, ReadsAll s.heap us (pyDs ds) as
  | [], xs, us, h, r => by
    obtain rfl : xs = [] := by simpa [Reps] using h
    cases r
    exact ⟨_, .nil⟩
  | d :: ds, xs, us, h, r => by
    obtain ⟨x, q, rfl, h1, h2⟩ : ∃ x r, xs = x :: r ∧ Rep X.K H d x ∧ Reps X.K H ds r := by simpa [Reps] using h
    cases r with
    | cons r1 r2 =>
      obtain ⟨as, a⟩ := reads_of I d x _ h1 r1
      obtain ⟨bs, b⟩ := readsAll_of I ds q _ h2 r2
      exact ⟨_, .cons a b⟩
end
mutual
theorem noDict_pyD : ∀ d : Dt, (pyD d).hasDict = false
  | .non => by simp [pyD, PyData.hasDict]
  | .bl _ => by simp [pyD, PyData.hasDict]
  | .int _ => by simp [pyD, PyData.hasDict]
  | .str _ => by simp [pyD, PyData.hasDict]
  | .lst xs => by simp only [pyD, PyData.hasDict]; exact noDict_pyDs xs
  | .tup xs => by simp only [pyD, PyData.hasDict]; exact noDict_pyDs xs
theorem noDict_pyDs : ∀ ds : List Dt, PyData.hasDictAll (pyDs ds) = false
  | [] => by simp [pyDs, PyData.hasDictAll]
  | d :: ds => by simp only [pyDs, PyData.hasDictAll, noDict_pyD d, noDict_pyDs ds, Bool.or_false]
end
end
/-- a value that is a tree in every heap that fits -/
def Shows (X : Cx) (H : Hp) (x : V) (d : PyData) : Prop := ∀ (pins : List (Addr × Obj)) (σ : St) (s : Shared) (u : Value), Inv X pins σ H s → RelV x u → ∃ as, Reads s.heap u d as ∧ (d.hasDict = true → sysModules ∉ as)
theorem shows_rep {X : Cx} {H : Hp} {x : V} {d : Dt} (h : Rep X.K H d x) : Shows X H x (pyD d) := fun pins σ s u I r => by
  obtain ⟨as, a⟩ := reads_of I d x u h r
  exact ⟨as, a, PyData.noDict_hsm (noDict_pyD d)⟩
/-- repr(x) -/
theorem call_repr {X : Cx} {k : Nat} (hr : Room k X.A) : CallR X (.builtin "repr") (fun xs H Q => ∃ x d, xs = [x] ∧ Shows X H x d ∧ d.showable = true ∧ d.depth ≤ 100 ∧ d.shown.length ≤ sizeLine ∧ Q (.str d.shown) H) := by
  intro pins s σ H xs us Q I r h
  obtain ⟨x, d, rfl, sh, hs, hd, hz, q⟩ := h
  obtain ⟨u, rfl, rx⟩ := vals1 r
  obtain ⟨as, ra, hsm⟩ := sh pins σ s u I rx
  have hu := hr.un
  cases u with
  | ref a => exact repr_of_reads' ra hs hsm hr.gd (by omega) (fun _ _ e => e) (fun h' u tk hk => ⟨.str _, H, I.kept hk, ⟨u, rfl⟩, q⟩) hz
  | none => cases ra; simp only [PyData.shown] at q; exact P.repr_of_none ⟨.str _, H, I.tok _, ⟨_, rfl⟩, q⟩
  | bool b => cases ra; simp only [PyData.shown] at q; exact P.repr_of_bool ⟨.str _, H, I.tok _, ⟨_, rfl⟩, q⟩
  | int i t => cases ra; simp only [PyData.shown] at q; exact P.repr_of_int (by simpa [PyData.showable] using hs) ⟨.str _, H, I.tok _, ⟨_, rfl⟩, q⟩
  | str y t => cases ra; simp only [PyData.shown] at q hz; exact P.repr_of_str ⟨.str _, H, I.tok _, ⟨_, rfl⟩, q⟩ hz
  | _ => cases ra
/-- what of the text it asks -/
structure ExcI (K : PySem.W.Frag) (C R : Addr) : Prop where
  g : ExcG K C
  mro : (PySem.W.clsIn K C).map (·.mro) = some [.ref C, .ref R, .type "ValueError", .type "Exception", .type "BaseException", .type "object"]
  ty : PySem.W.typeIn K (.ref C) = some (.type "type")
  ha : PySem.W.findIn K (.ref C) "__class__" = some (some (.builtin "object.__class__"))
  hn : PySem.W.specialIn K (.builtin "object.__class__") "__get__" = some (some (.builtin "getset_descriptor.__get__"))
  tk : PySem.W.takesIn K (.builtin "object.__class__") = some true
section
variable {prog : Program} {w : World} {A : Around} {E : Value → Shared → Prop} {s : Shared} {K : PySem.W.Frag} {e C R D : Addr} {oe : Obj} {odo : Option Obj}
theorem ExcI.in (G : ExcI K C R) (b : Value) : PySem.W.mroIn K C b = some ([Value.ref C, .ref R, .type "ValueError", .type "Exception", .type "BaseException", .type "object"].contains b) := by
  obtain ⟨cd, hc, hm⟩ := Option.map_eq_some_iff.mp G.mro
  unfold PySem.W.mroIn
  rw [hc, Option.bind_some, hm]
  rfl
theorem exc_class {Q : Option Value → Shared → Prop} (G : ExcI K C R) (X : K.In s.heap) (J : PySem.W.InstAt s.heap e oe C odo) (h : Q (some (.ref C)) { s with toks := s.toks + 1 }) : wpAny (model prog w) A (getAttr? (.ref e) "__class__") Q E s := by
  have hfo : PySem.W.findObj K C odo "__class__" = some (.bind (.builtin "getset_descriptor.__get__") (.builtin "object.__class__")) := by
    obtain ⟨cd, hc, hm⟩ := Option.map_eq_some_iff.mp G.mro
    unfold PySem.W.findObj
    rw [hc, Option.bind_some, G.ha, Option.bind_some]
    simp [G.hn, G.tk]
  obtain ⟨hp, g, d, t, os⟩ := s
  have L0 := J.type (M := model prog w)
  have L1 := PySem.W.looks_findIn (M := model prog w) X G.g.ga
  have L2 := PySem.W.looks_find (M := model prog w) X J hfo
  have L3 := PySem.W.looks_findIn (M := model prog w) X G.g.gb
  have hx0 : (false && onTheHeap (Value.builtin "BaseException.__getattribute__")) = false := rfl
  have sub : PySem.W.Looks (model prog w) hp (isInstance (.ref e) (.type "BaseException")) true := J.type.andThen (PySem.W.looks_mroIn X G.g.mb)
  unfold getAttr? getAttrBy? getAttrBy
  refine wpAny_bind (wpAny_mkText (wpAny_bind (wpAny_attempt (wpAny_holding (wpAny_bind (L0.at (wpAny_bind (L1.at ?_))))))))
  show wpAny _ _ (getAttrByItsOwn (.ref e) (.str "__class__" t) (.ref C) (.builtin "BaseException.__getattribute__") false false) _ _ _
  unfold getAttrByItsOwn
  refine wpAny_bind (show wpAny _ _ (typeLookup (.ref C) "__getattr__") _ _ _ from L3.at ?_)
  refine wpAny_bind (wpAny_attempt (wpAny_holding ?_))
  unfold callGetattribute
  rw [hx0, if_neg Bool.false_ne_true]
  unfold boundAndCalled
  rw [PySem.F.excAttr_ValueError.ga.bind (.ref e)]
  refine wpAny_bind (wpAny_pure (wpAny_call (codeAny_call_builtin PySem.F.excAttr_ValueError.ga.plain PySem.F.entry_bexc_ga (@PySem.W.check_slot (model prog w) _ _ _ "BaseException.__getattribute__" "BaseException" "__getattribute__" (.ref e) [.str "__class__" t] [] _ (by decide +kernel) (by decide +kernel) sub (PySem.F.args_bexc_ga _ _) ?_))))
  refine wpAny_bind (wpAny_pure (wpAny_bind (wpAny_pure (wpAny_bind (L0.at (wpAny_bind (L2.at ?_)))))))
  have hm : PySem.W.mroIn K C (.type "object") = some true := G.in _
  refine wpAny_bind (wpAny_holding (wpAny_call (PySem.W.class_get (s := ⟨hp, g, d, t + 1, os⟩) (ox := oe) (od := odo) X J hm (wpAny_pure ?_))))
  exact PySem.W.handed_on rfl (wpAny_pure h)
theorem kitx_exc (G : ExcI K C R) : PySem.W.KitX K (.ref e) (.ref C) (fun h => ∃ oe odo, PySem.W.InstAt h e oe C odo) where
  ty := fun _ _ _ ⟨_, _, J⟩ => J.type
  it := fun _ _ X _ => by
    obtain ⟨cd, hc, _⟩ := Option.map_eq_some_iff.mp G.mro
    unfold PySem.W.clsIn at hc
    split at hc
    · rename_i c' d' cd' sl' ho
      intro A' Q' E' s' k q
      unfold isType loadHead
      exact wpAny_bind (wpAny_loadPart (k _ _ (X _ _ ho)) (wpAny_pure q))
    · cases hc
  ne := fun h tp dd its n sl X htp => by
    obtain ⟨cd, hc, _⟩ := Option.map_eq_some_iff.mp G.mro
    refine Bool.eq_false_iff.mpr fun q => ?_
    have e : C = tp := Value.ref.inj (beq_iff_eq.mp q)
    subst e
    unfold PySem.W.clsIn at hc
    split at hc
    · rename_i c' d' cd' sl' ho
      have z := (X _ _ ho).symm.trans htp
      cases z
    · cases hc
  ca := fun X ⟨_, _, J⟩ k => exc_class G X J k
theorem kit_excs (G : ExcI K C R) (G' : ExcI K D R) (hD : (D == R) = false) : PySem.W.kitOne K (.ref C) (.ref D) = some (D == C) := by
  unfold PySem.W.kitOne
  by_cases q : C = D
  · subst q
    rw [if_pos (by simp)]
    simp
  · have q' : (D == C) = false := by simpa using fun z : D = C => q z.symm
    rw [if_neg (by simpa using q)]
    unfold PySem.W.kitCls
    obtain ⟨cd, hc, _⟩ := Option.map_eq_some_iff.mp G'.mro
    simp only
    rw [if_pos (by rw [hc, G'.ty]; rfl)]
    show PySem.W.mroIn K C (.ref D) = _
    rw [G.in, q']
    have h1 : (Value.ref D == Value.ref C) = false := by simpa using fun z : D = C => q z.symm
    have h2 : (Value.ref D == Value.ref R) = false := by simpa using hD
    simp only [List.contains_cons, List.contains_nil, h1, h2, Bool.false_or]
    rfl
theorem kit_excR (G : ExcI K C R) (hR : (PySem.W.clsIn K R).isSome = true) (tR : PySem.W.typeIn K (.ref R) = some (.type "type")) : PySem.W.kitOne K (.ref C) (.ref R) = some true := by
  unfold PySem.W.kitOne
  by_cases q : C = R
  · subst q
    rw [if_pos (by simp)]
  · rw [if_neg (by simpa using q)]
    unfold PySem.W.kitCls
    simp only
    rw [if_pos (by rw [hR, tR]; rfl)]
    show PySem.W.mroIn K C (.ref R) = _
    rw [G.in]
    simp [List.contains_cons]
theorem kit_excV (G : ExcI K C R) : PySem.W.kitOne K (.ref C) (.type "ValueError") = some true := by
  unfold PySem.W.kitOne
  rw [if_neg (by simp)]
  unfold PySem.W.kitCls
  simp only
  rw [if_pos (by decide +kernel)]
  show PySem.W.mroIn K C _ = _
  rw [G.in]
  simp [List.contains_cons]
end
/-- an exception made, with its fields; none: it has none -/
def ExcAt (H : Hp) (x C : Addr) (fs : List (Str × V)) : Prop := (fs = [] ∧ H x = some (excO x C none)) ∨ ∃ dx, H x = some (excO x C (some dx)) ∧ H dx = some (dctO dx fs) ∧ dx ≠ x
theorem ExcAt.same {H H' : Hp} {x C : Addr} {fs : List (Str × V)} (e : Same H H') (h : ExcAt H x C fs) : ExcAt H' x C fs := by
  rcases h with ⟨a, b⟩ | ⟨dx, a, b, c⟩
  · exact .inl ⟨a, e _ _ b⟩
  · exact .inr ⟨dx, e _ _ a, e _ _ b, c⟩
section
variable {X : Cx}
theorem exc_inst {pins : List (Addr × Obj)} {σ : St} {H : Hp} {s : Shared} {x C : Addr} {fs : List (Str × V)} (I : Inv X pins σ H s) (h : ExcAt H x C fs) : ∃ oe odo, PySem.W.InstAt s.heap x oe C odo := by
  rcases h with ⟨_, b⟩ | ⟨dx, a, b, _⟩
  · obtain ⟨⟨t, sl, ge⟩, _, _⟩ : ObjOk X.prog X.w H s.heap x (excO x C none) := I.hok x _ b
    exact ⟨_, none, ge, rfl, exc_notCls rfl, True.intro⟩
  · obtain ⟨⟨t, sl, ge⟩, _, _⟩ : ObjOk X.prog X.w H s.heap x (excO x C (some dx)) := I.hok x _ a
    obtain ⟨⟨mA, nn, _⟩, _, _⟩ : ObjOk X.prog X.w H s.heap dx (dctO dx fs) := I.hok dx _ b
    obtain ⟨od, ho, _⟩ := lookIn_ns nn
    exact ⟨_, some od, ge, rfl, exc_notCls rfl, ho⟩
/-- isinstance(e, D) -/
theorem call_isexc : CallR X (.builtin "isinstance") (fun xs H Q => ∃ x c C R fs b, xs = [.ref x, c] ∧ ExcAt H x C fs ∧ ExcI X.K C R ∧ clsIs X.K (.ref C) c = some b ∧ Q (.bl b) H) := by
  intro pins s σ H xs us Q I r h
  obtain ⟨x, c, C, R, fs, b, rfl, ex, G, e, q⟩ := h
  obtain ⟨u, v, rfl, ru, rv⟩ := vals2 r
  obtain rfl : u = Value.ref x := ru
  cases c with
  | ty T =>
    obtain rfl : v = Value.type T := rv
    exact PySem.W.kia_one (kitx_exc G) I.kIn (exc_inst I ex) e (fun z => nomatch z) fun tk => ⟨.bl b, H, I.tok _, rfl, q⟩
  | ref D =>
    obtain rfl : v = Value.ref D := rv
    exact PySem.W.kia_one (kitx_exc G) I.kIn (exc_inst I ex) e (fun z => nomatch z) fun tk => ⟨.bl b, H, I.tok _, rfl, q⟩
  | _ => cases e
end
end L2
set_option Elab.async false
set_option linter.all false
set_option maxRecDepth 100000
set_option maxHeartbeats 4000000
namespace L2
open PySem PySem.Spec PyProof.Rows
section
variable {prog : Program} {w : World} {A : Around} {E : Value → Shared → Prop} {R : Result → Shared → Prop} {h : Heap} {g : Array GenState} {d : Drawn} {t : Nat} {os : OsState}
variable {nm q : Str} {C N : Addr} {bs bm : List Value} {hdct : Bool} {sn : List Str} {sub : List Value} {ab : Bool} {col : Option Bool} {dd : Option Addr} {k0 k1 k2 k3 k5 : Option Value} {B newId initId : String}
theorem exc_check_init (F : ExcF B newId initId bm) {M : Model} {e : Addr} {oe : Obj} {rest : List Value} {Q : Unit → Shared → Prop}
    (hC : h.get? C = some (excClassObj nm q C N bs bm hdct sn sub ab col dd k0 k1 k2 k3 k5 newId)) (he : h.get? e = some oe) (hcls : oe.cls = .ref C) (hq : Q () ⟨h, g, d, t, os⟩) :
    wpAny M A (checkBuiltinCall initId ⟨.ref e :: rest, []⟩) Q E ⟨h, g, d, t, os⟩ := by
  have hcB : (Value.ref C :: bm).contains (.type B) = true := F.has
  have hshort := F.call.noStar
  simp only [checkBuiltinCall, F.call.initKind, F.call.initSplit, F.call.initRow]
  repeat (first | (with_reducible refine wpAny_loadPart_at he ?_; rw [hcls]) | with_reducible refine wpAny_loadPart_at hC ?_ | (with_reducible refine wpAny_isSubtype_exc hC ?_; rw [hcB]) | wp_step)
  refine wpAny_onRaise ?_
  rw [show ∀ (a b : String) (n : Nat), Bind.check ⟨.positional, "*", B, .self, [⟨"args", .varPos, false⟩]⟩ a b n (List.map (fun x => x.fst) ({ pos := Value.ref e :: rest } : Args).kw) = pure () from
    fun a b n => check_star_args _ _ _ _ _ _]
  exact wpAny_pure hq
/-- C() by the built-in __init__ -/
theorem exc_make0 (F : ExcF B newId initId bm) {Q : Value → Shared → Prop} (hC : h.get? C = some (excClassObj nm q C N bs bm hdct sn sub ab col dd k0 k1 k2 k3 k5 newId))
    (hi : PySem.W.Looks (model prog w) h (typeLookup (.ref C) "__init__") (some (.builtin initId)))
    (hq : ∀ h' e t, h.objs.size ≤ e → (∀ b o, h.get? b = some o → h'.get? b = some o) → h'.get? e = some { cls := .ref C, data := .fields #[.ref t, .none, .none, .none, .bool false, .none] } → Q (.ref e) ⟨h', g, d, tt, os⟩) :
    wpAny (model prog w) A (PySem.call (.ref C) []) Q E ⟨h, g, d, tt, os⟩ := by
  have f1 := tc_lookup
  have f2 := tc_bind (.ref C)
  have hT : (⟨h, g, d, tt, os⟩ : Shared).TypeIs (.ref C) "type" := ⟨_, hC, rfl⟩
  refine wpAny_call (codeAny_of_tree ?_)
  show wpAny _ _ (callAny (.ref C) _) _ _ _
  repeat (any_goals (first | assumption | with_reducible refine wpAny_loadPart_at hC ?_ | wp_step))
  refine ⟨rfl, codeAny_call_builtin_at (Code.quiet_builtin _ (by decide +kernel)) entry_typeCall (wpAny_check_type_call_sub hC ?_)⟩
  repeat (first | with_reducible refine wpAny_loadPart_at hC ?_ | with_reducible refine wpAny_madeBy_exc hC ?_ | wp_step)
  refine codeAny_call_builtin_code (Code.quiet_builtin _ F.call.quiet) (exc_check_new F hC (exc_new F hC ?_ (by decide)))
  show wpAny _ _ _ _ _ (⟨(h.push { cls := .type "tuple", data := .seq ([] : List Value).toArray }).push { cls := .ref C, data := .fields #[.ref h.objs.size, .none, .none, .none, .bool false, .none] }, g, d, tt, os⟩ : Shared)
  have kp : ∀ b o, h.get? b = some o → ((h.push { cls := .type "tuple", data := .seq ([] : List Value).toArray }).push { cls := .ref C, data := .fields #[.ref h.objs.size, .none, .none, .none, .bool false, .none] }).get? b = some o := fun b o e => Heap.get?_push_of_some _ (Heap.get?_push_of_some _ e)
  have hget : ((h.push { cls := .type "tuple", data := .seq ([] : List Value).toArray }).push { cls := .ref C, data := .fields #[.ref h.objs.size, .none, .none, .none, .bool false, .none] }).get? (h.objs.size + 1) = some { cls := .ref C, data := .fields #[.ref h.objs.size, .none, .none, .none, .bool false, .none] } := by heap_get
  have hcC : (Value.ref C :: bm).contains (.ref C) = true := by simp
  unfold isInstance
  repeat (first | with_reducible refine wpAny_loadPart_at hget ?_ | (with_reducible refine wpAny_isSubtype_exc (kp _ _ hC) ?_; rw [hcC]) | wp_step)
  show wpAny _ _ (typeLookup (.ref C) _) _ _ _
  refine hi _ _ _ _ kp ?_
  refine wpAny_holding (wpAny_bind (wpAny_of_eq (F.call.init.bind _) ?_))
  refine wpAny_bind (wpAny_call (codeAny_call_builtin F.call.init.plain F.call.initEntry (exc_check_init F (kp _ _ hC) hget rfl ?_)))
  wp_walk
  refine hq _ _ (h.objs.size + 2) (Nat.le_succ _) (fun b o hb => ?_) ?_
  · rw [Heap.get?_update_other _ _ (Nat.ne_of_gt (Nat.lt_succ_of_lt (Heap.lt_size hb)))]
    exact Heap.get?_push_of_some _ (kp _ _ hb)
  · rw [Heap.get?_update_self _ (Heap.get?_push_of_some _ hget) rfl]
    simp only [Heap.size_push]
    rfl
end
/-- the contracts of __init__ -/
def spI1 (C : Addr) (f : Str) : Sp := fun vs H Q _ => ∃ x v, vs = [.ref x, v] ∧ H x = some (excO x C none) ∧ ∀ dx, H dx = none → Q .non (upd (upd H dx (dctO dx [(f, v)])) x (excO x C (some dx)))
def spI2 (C : Addr) (f g : Str) : Sp := fun vs H Q _ => ∃ x v y, vs = [.ref x, v, y] ∧ H x = some (excO x C none) ∧ ∀ dx, H dx = none → Q .non (upd (upd (upd H dx (dctO dx [(f, v)])) x (excO x C (some dx))) dx (dctO dx (putF g y [(f, v)])))
/-- a class of refusals, with its __init__ -/
structure HasExc (K : PySem.W.Frag) (mg : Str → Option Value) (x qual : Str) (st : Stmt) (C R : Addr) : Prop where
  ex : ∃ f fd, ExcC K C f [.ref R, .type "ValueError", .type "Exception", .type "BaseException", .type "object"] ∧ Fun K "__init__" qual st f fd
  gl : mg x = some (.ref C)
  S : ExcS K C
  I : ExcI K C R
structure HasExc0 (K : PySem.W.Frag) (mg : Str → Option Value) (x : Str) (C R : Addr) : Prop where
  obj : ∃ nm q N bs hdct sn sub ab col dd k0 k1 k2 k3 k5, K.lookup C = some (excClassObj nm q C N bs [.ref R, .type "ValueError", .type "Exception", .type "BaseException", .type "object"] hdct sn sub ab col dd k0 k1 k2 k3 k5 "ValueError.__new__")
  init : PySem.W.findIn K (.ref C) "__init__" = some (some (.builtin "ValueError.__init__"))
  kp : PySem.W.keepIn K (.ref C) = true
  gl : mg x = some (.ref C)
  I : ExcI K C R
theorem bm_ok (R : Addr) : ExcF "ValueError" "ValueError.__new__" "ValueError.__init__" [.ref R, .type "ValueError", .type "Exception", .type "BaseException", .type "object"] := excF_ValueError.under R
/-- C(v): an exception with the one field -/
def tEx1 (C : Addr) (f : Str) (t : TA) : TE := fun σ H Q => t σ H fun vs H1 => ∃ v, vs = [v] ∧ ∀ z H', Same H1 H' → ExcAt H' z C [(f, v)] → Q (.ref z) H'
def tEx2 (C : Addr) (f g : Str) (t : TA) : TE := fun σ H Q => t σ H fun vs H1 => ∃ v y, vs = [v, y] ∧ ∀ z H', Same H1 H' → ExcAt H' z C (putF g y [(f, v)]) → Q (.ref z) H'
def tEx0 (C : Addr) : TE := fun σ H Q => ∀ z H', Same H H' → ExcAt H' z C [] → Q (.ref z) H'
section
variable {P : Program} {w : World} {K : PySem.W.Frag} {mg : Str → Option Value} {base : Heap} {CX : CXT} {X : Cx} {k m : Nat} {C R : Addr} {E : XK} {x qual f g : Str} {st : Stmt} {p pos : Pos} {e : Expr} {es : List Expr} {t : TA}
/-- the __init__ keeps its contract -/
def InitOk (P : Program) (w : World) (K : PySem.W.Frag) (mg : Str → Option Value) (base : Heap) (CX : CXT) (qual : Str) (st : Stmt) (ps : List Str) (sp : Sp) : Prop := ∀ f fd, Fun K "__init__" qual st f fd → FnOk P w K mg base CX 1 f fd ps sp ∧ Binds K fd ps []
theorem pe_ex1 (M : HasExc X.K X.mg x qual st C R) (F : InitOk X.prog X.w X.K X.mg X.base CX qual st ["self", f] (spI1 C f)) (hr : Room m X.A) (ha : PA X (e :: es) t) (hk : 2 ≤ m := by decide) (hx : Passes CX X E := by exact pass0) (hg : Gl X x := by rfl)
    (hdb : (x == ("__debug__" : Str)) = false := by decide) (he : starEach (e :: es) X.env = (false, eval e X.env) :: starEach es X.env := by rfl) (hpl : (backTo pos (starEach es X.env)).any (·.1) = false := by rfl) :
    PE X (.Call (.Name x p) (e :: es) [] pos) (tEx1 C f t) := by
  intro pins s σ H Q I h
  obtain ⟨fa, fd, C1, Fn⟩ := M.ex
  obtain ⟨ok, hb⟩ := F fa fd Fn
  refine wpAny_Call_Name_kw (ld_glob I hg M.gl ?_ hdb)
  refine PySem.W.callWith_K (h₀ := X.base) I.ok.mod.kin C1.kp (thn (ha pos pins s σ H _ I h) fun us s1 ⟨vs, H1, I1, r, v, ev, q⟩ => ⟨I1.kIn, ?_⟩) he hpl
  subst ev
  refine run_exc C1 ok (hr.mono hk) hb hx I1 r (small_line (show (_ : Nat) ≤ _ by simp only [List.length_cons, List.length_nil]; decide)) fun z hz => ⟨z, v, rfl, upd_same, fun dx hd => ⟨rfl, q z _ (fun b u eb => ?_) ?_⟩⟩
  · have hzx : dx ≠ z := fun q => by rw [q, upd_same] at hd; cases hd
    rw [upd_ne hzx] at hd
    rw [upd_ne (ne_of_none eb hz), upd_ne (ne_of_none eb hd), upd_ne (ne_of_none eb hz)]
    exact eb
  · have hzx : dx ≠ z := fun q => by rw [q, upd_same] at hd; cases hd
    exact .inr ⟨dx, upd_same, by rw [upd_ne hzx, upd_same], hzx⟩
theorem pe_ex2 (M : HasExc X.K X.mg x qual st C R) (F : InitOk X.prog X.w X.K X.mg X.base CX qual st ["self", f, g] (spI2 C f g)) (hr : Room m X.A) (ha : PA X (e :: es) t) (hk : 2 ≤ m := by decide) (hx : Passes CX X E := by exact pass0) (hg : Gl X x := by rfl)
    (hdb : (x == ("__debug__" : Str)) = false := by decide) (he : starEach (e :: es) X.env = (false, eval e X.env) :: starEach es X.env := by rfl) (hpl : (backTo pos (starEach es X.env)).any (·.1) = false := by rfl) :
    PE X (.Call (.Name x p) (e :: es) [] pos) (tEx2 C f g t) := by
  intro pins s σ H Q I h
  obtain ⟨fa, fd, C1, Fn⟩ := M.ex
  obtain ⟨ok, hb⟩ := F fa fd Fn
  refine wpAny_Call_Name_kw (ld_glob I hg M.gl ?_ hdb)
  refine PySem.W.callWith_K (h₀ := X.base) I.ok.mod.kin C1.kp (thn (ha pos pins s σ H _ I h) fun us s1 ⟨vs, H1, I1, r, v, y, ev, q⟩ => ⟨I1.kIn, ?_⟩) he hpl
  subst ev
  refine run_exc C1 ok (hr.mono hk) hb hx I1 r (small_line (show (_ : Nat) ≤ _ by simp only [List.length_cons, List.length_nil]; decide)) fun z hz => ⟨z, v, y, rfl, upd_same, fun dx hd => ⟨rfl, q z _ (fun b u eb => ?_) ?_⟩⟩
  · have hzx : dx ≠ z := fun q => by rw [q, upd_same] at hd; cases hd
    rw [upd_ne hzx] at hd
    rw [upd_ne (ne_of_none eb hd), upd_ne (ne_of_none eb hz), upd_ne (ne_of_none eb hd), upd_ne (ne_of_none eb hz)]
    exact eb
  · have hzx : dx ≠ z := fun q => by rw [q, upd_same] at hd; cases hd
    exact .inr ⟨dx, by rw [upd_ne (Ne.symm hzx), upd_same], upd_same, hzx⟩
theorem pe_ex0 (M : HasExc0 X.K X.mg x C R) (hg : Gl X x := by rfl) (hdb : (x == ("__debug__" : Str)) = false := by decide) : PE X (.Call (.Name x p) [] [] pos) (tEx0 C) := by
  intro pins s σ H Q I h
  obtain ⟨nm, q, N, bs, hdct, sn, sub, ab, col, dd, k0, k1, k2, k3, k5, ho⟩ := M.obj
  refine wpAny_Call_Name_kw (ld_glob I hg M.gl ?_ hdb)
  refine PySem.W.callWith_K0 I.kIn M.kp ?_
  refine exc_make0 (h := s.heap) (g := s.gens) (d := s.drawn) (tt := s.toks) (os := s.os) (bm_ok R) (I.kIn C _ ho) (PySem.W.looks_findIn I.kIn M.init) fun h' z t hz kp hget => ?_
  exact ⟨.ref z, _, I.laid (t' := s.toks) kp hz (excO_ok hget), rfl, h z _ (Same.new (I.hok.fresh hz)) (.inl ⟨rfl, upd_same⟩)⟩
end
section
variable {K : PySem.W.Frag} {mg : Str → Option Value} {x qual : Str} {st : Stmt} {C R f : Addr} {nm q : Str} {N : Addr} {bs : List Value} {sn : List Str} {sub : List Value} {ab : Bool} {col : Option Bool} {dd : Option Addr} {k0 k1 k2 k3 k5 : Option Value} {od an : Option Addr} {osl : Array (Option Value)} {kV doc pm cdv ct : Value}
theorem excS_mk (l : K.lookup C = some (excClassObj nm q C N bs [.ref R, .type "ValueError", .type "Exception", .type "BaseException", .type "object"] true sn sub ab col dd k0 k1 k2 k3 k5 "ValueError.__new__"))
    (sa : PySem.W.findIn K (.ref C) "__setattr__" = some (some (.builtin "object.__setattr__"))) : ExcS K C := by
  have hc : ∃ cd, PySem.W.clsIn K C = some cd ∧ cd.mro = [.ref C, .ref R, .type "ValueError", .type "Exception", .type "BaseException", .type "object"] ∧ cd.hasDict = true := by
    unfold PySem.W.clsIn
    rw [l]
    exact ⟨_, rfl, rfl, rfl⟩
  obtain ⟨cd, h1, h2, h3⟩ := hc
  refine ⟨sa, ?_, ?_⟩
  · unfold excOver
    rw [h1, Option.any_some, h2]
    rfl
  · unfold PySem.W.hasDictIn
    rw [h1, Option.any_some, h3]
theorem excI_mk (l : K.lookup C = some (excClassObj nm q C N bs [.ref R, .type "ValueError", .type "Exception", .type "BaseException", .type "object"] true sn sub ab col dd k0 k1 k2 k3 k5 "ValueError.__new__"))
    (ga : PySem.W.findIn K (.ref C) "__getattribute__" = some (some (.builtin "BaseException.__getattribute__"))) (gb : PySem.W.findIn K (.ref C) "__getattr__" = some none)
    (ha : PySem.W.findIn K (.ref C) "__class__" = some (some (.builtin "object.__class__"))) (hn : PySem.W.specialIn K (.builtin "object.__class__") "__get__" = some (some (.builtin "getset_descriptor.__get__"))) (tk : PySem.W.takesIn K (.builtin "object.__class__") = some true) : ExcI K C R := by
  have hc : ∃ cd, PySem.W.clsIn K C = some cd ∧ cd.mro = [.ref C, .ref R, .type "ValueError", .type "Exception", .type "BaseException", .type "object"] ∧ cd.hasDict = true := by
    unfold PySem.W.clsIn
    rw [l]
    exact ⟨_, rfl, rfl, rfl⟩
  obtain ⟨cd, h1, h2, h3⟩ := hc
  refine ⟨⟨ga, gb, ?_, ?_⟩, ?_, ?_, ha, hn, tk⟩
  · unfold PySem.W.mroIn
    rw [h1, Option.bind_some, h2]
    rfl
  · unfold PySem.W.hasDictIn
    rw [h1, Option.any_some, h3]
  · rw [h1, Option.map_some, h2]
  · show (List.lookup C K).map (·.cls) = _
    rw [l]
    rfl
theorem HasExc.mk1 (m : mg x = some (.ref C)) (l : K.lookup C = some (excClassObj nm q C N bs [.ref R, .type "ValueError", .type "Exception", .type "BaseException", .type "object"] true sn sub ab col dd k0 k1 k2 k3 k5 "ValueError.__new__"))
    (i : PySem.W.findIn K (.ref C) "__init__" = some (some (.ref f))) (lf : K.lookup f = some ⟨.type "function", od, .func (PySem.W.fnOf "__init__" qual (defArgs st) (defBody st) (defScope st) .none kV doc pm an cdv ct), osl⟩)
    (c : PySem.W.codeIn K cdv qual = true) (kf : PySem.W.keepIn K (.ref f) = true) (kc : PySem.W.keepIn K (.ref C) = true) (S : ExcS K C) (I : ExcI K C R) : HasExc K mg x qual st C R :=
  ⟨⟨f, _, ⟨⟨nm, q, N, bs, true, sn, sub, ab, col, dd, k0, k1, k2, k3, k5, l⟩, bm_ok R, i, ⟨_, lf, rfl⟩, kc⟩, fun_mk lf c kf⟩, m, S, I⟩
end
end L2
set_option Elab.async false
set_option linter.all false
set_option maxRecDepth 100000
set_option maxHeartbeats 4000000
namespace L2
open PySem PySem.Spec PyProof.Rows
section
variable {X : Cx}
theorem op_mul_str : OpR X (binaryOp .Mult) (fun x y H Q => ∃ z n, x = .str z ∧ y = .int n ∧ MulOk z n ∧ Q (.str (Txt.mul z n)) H) := by
  intro pins s σ H x y v u Q I rx ry h
  obtain ⟨z, n, rfl, rfl, ok, q⟩ := h
  obtain ⟨t, rfl⟩ := rx
  obtain ⟨t', rfl⟩ := ry
  exact SB.mul ok fun t'' k => ⟨.str _, H, I.tok _, ⟨_, rfl⟩, q⟩
/-- e.f of a refusal of the class at C -/
def tExF (C : Addr) (ta : TE) (f : Str) : TE := fun σ H Q => ta σ H fun x H1 => ∃ a fs v, x = .ref a ∧ ExcAt H1 a C fs ∧ fs.lookup f = some v ∧ Q v H1
theorem pe_exf {C : Addr} {o : Expr} {f : Str} {ta : TE} {pos : Pos} (G : ExcG X.K C) (n : NoAttr X.K C f) (he : PE X o ta) (hb : attributeBase o f X.env (eval o X.env) = eval o X.env := by rfl) : PE X (.Attribute o f pos) (tExF C ta f) := by
  intro pins s σ H Q I h
  refine attr_of hb (thn (he pins s σ H _ I h) fun u s1 ⟨x, H1, I1, rx, a, fs, v, ex, ea, l, q⟩ => ?_)
  subst ex
  obtain rfl : u = Value.ref a := rx
  rcases ea with ⟨rfl, _⟩ | ⟨dx, ea, ed, _⟩
  · cases l
  · obtain ⟨⟨t, sl, ge⟩, _, _⟩ : ObjOk X.prog X.w H1 s1.heap a (excO a C (some dx)) := I1.hok a _ ea
    obtain ⟨⟨mA, nn, r, wi, hl⟩, _, _⟩ : ObjOk X.prog X.w H1 s1.heap dx (dctO dx fs) := I1.hok dx _ ed
    obtain ⟨u', hu, ru⟩ := RelO.some_of (v := v) (o := mA f) (by rw [← l]; exact r f)
    exact exc_get I1.kIn ge rfl rfl rfl nn G.ga G.gb G.mb G.hd n hu (handed_of ru) ⟨v, H1, I1.tok _, ru, q⟩
end
theorem listText_le : ∀ ts : List Str, (listText ts).length ≤ piled ts + 2
  | [] => by decide
  | t :: r => by
    have h := textFrom_length_pos r 1 (("[" : Str) ++ (if (0 : Nat) > 0 then ", " else "" : String) ++ t) (Nat.succ_pos 0)
    have e : ((("[" : Str) ++ (if (0 : Nat) > 0 then ", " else "" : String) ++ t)).length = 1 + t.length := by
      rw [strLen_append, strLen_append]; rfl
    have hX : (listText (t :: r)).length = (textFrom 0 "[" (t :: r)).length + 1 := by
      show (textFrom 0 "[" (t :: r) ++ "]").length = _
      rw [strLen_append]; rfl
    have hY : (textFrom 0 "[" (t :: r)).length = (textFrom 1 (("[" : Str) ++ (if (0 : Nat) > 0 then ", " else "" : String) ++ t) r).length := rfl
    rw [hX, hY, h, e, piled_cons]; omega
theorem tupleText_le (ts : List Str) : (tupleText ts).length ≤ piled ts + 3 := by
  unfold tupleText
  rw [strLen_append, strLen_append]
  have h1 : (Str.ofString (if ts.length == 1 then ",)" else ")" : String)).length ≤ 2 := by split <;> decide
  have h2 : (("(" : Str)).length = 1 := rfl
  have h3 : (Str.join ", " ts).length ≤ piled ts := by
    cases ts with
    | nil => decide
    | cons a b => have := join_length_add (a :: b) (by simp); omega
  rw [h2]
  omega
/-- a tree that is shown in m signs at most, of depth d at most -/
structure Shm (m d : Nat) (x : PyData) : Prop where
  sh : x.showable = true
  ln : x.shown.length ≤ m
  dp : x.depth ≤ d
theorem shm_all {m d : Nat} : ∀ {xs : List PyData}, (∀ x ∈ xs, Shm m d x) → PyData.showableAll xs = true ∧ piled (PyData.shownAll xs) ≤ xs.length * (m + 2) ∧ PyData.depthAll xs ≤ d
  | [], _ => ⟨by simp [PyData.showableAll], by simp [PyData.shownAll, piled], by simp [PyData.depthAll]⟩
  | x :: xs, h => by
    obtain ⟨a, b, c⟩ := shm_all (xs := xs) fun y hy => h y (List.mem_cons_of_mem _ hy)
    have hx := h x (List.mem_cons_self ..)
    refine ⟨by simp [PyData.showableAll, hx.sh, a], ?_, ?_⟩
    · rw [PyData.shownAll, piled_cons, List.length_cons, Nat.succ_mul]
      have := hx.ln
      omega
    · rw [PyData.depthAll]
      exact Nat.max_le.mpr ⟨hx.dp, c⟩
theorem shm_list {m d : Nat} {xs : List PyData} (h : ∀ x ∈ xs, Shm m d x) : Shm (xs.length * (m + 2) + 2) (d + 1) (.list xs) := by
  obtain ⟨a, b, c⟩ := shm_all h
  refine ⟨by simpa [PyData.showable] using a, ?_, by rw [PyData.depth]; omega⟩
  rw [PyData.shown]
  have := listText_le (PyData.shownAll xs)
  omega
theorem shm_tup {m d : Nat} {xs : List PyData} (h : ∀ x ∈ xs, Shm m d x) : Shm (xs.length * (m + 2) + 3) (d + 1) (.tuple xs) := by
  obtain ⟨a, b, c⟩ := shm_all h
  refine ⟨by simpa [PyData.showable] using a, ?_, by rw [PyData.depth]; omega⟩
  rw [PyData.shown]
  have := tupleText_le (PyData.shownAll xs)
  omega
theorem Shm.mono {m m' d d' : Nat} {x : PyData} (h : Shm m d x) (a : m ≤ m') (b : d ≤ d') : Shm m' d' x := ⟨h.sh, Nat.le_trans h.ln a, Nat.le_trans h.dp b⟩
theorem shm_int {i : Int} {k : Nat} (hk : 0 < k) (h : i.natAbs < 10 ^ k) (h2 : k ≤ 200) : Shm (k + 1) 0 (.int i) := by
  refine ⟨?_, ?_, by rw [PyData.depth]; exact Nat.le_refl _⟩
  · simp only [PyData.showable, decide_eq_true_eq]
    by_cases hz : i.natAbs = 0
    · rw [hz]; decide
    · have h3 : 10 ^ k ≤ 10 ^ 200 := Nat.pow_le_pow_right (by decide) h2
      have h4 : i.natAbs < 2 ^ 1920 := Nat.lt_of_lt_of_le (Nat.lt_of_lt_of_le h h3) (by decide +kernel)
      exact (Nat.log2_lt hz).mpr h4
  · rw [PyData.shown]
    rw [PySem.ofString_length]
    exact int_text_length_le10 hk h
theorem shm_str {x : Str} (h : ∀ c ∈ x.cps.toList, c < 16 ^ 8) : Shm (10 * x.length + 2) 0 (.str x) := by
  refine ⟨by simp [PyData.showable], ?_, by rw [PyData.depth]; exact Nat.le_refl _⟩
  rw [PyData.shown]
  exact StrLaws.reprText_len x h
theorem shm_non : Shm 4 0 .none := ⟨by simp [PyData.showable], by rw [PyData.shown]; decide, by rw [PyData.depth]; exact Nat.le_refl _⟩
theorem shm_bl (b : Bool) : Shm 5 0 (.bool b) := ⟨by simp [PyData.showable], by rw [PyData.shown]; cases b <;> decide, by rw [PyData.depth]; exact Nat.le_refl _⟩
end L2
set_option Elab.async false
set_option linter.all false
set_option maxRecDepth 100000
set_option maxHeartbeats 4000000
namespace L2
open PySem PySem.Spec PyProof.Rows
/-- a new object o at p: all that was stays, and p was not tracked -/
structure New (H H' : Hp) (p : Addr) (o : HO) : Prop where
  s : Same H H'
  e : H' p = some o
  n : ∀ a u, H a = some u → a ≠ p
theorem New.mk' {H : Hp} {p : Addr} {o : HO} (h : H p = none) : New H (upd H p o) p o := ⟨Same.new h, upd_same, fun a u q => ne_of_none q h⟩
section
variable {X : Cx} {es : List Expr} {t : TA} {pos : Pos}
def tTupA (t : TA) : TE := fun σ H Q => t σ H fun xs H1 => xs.length ≤ sizeLine ∧ ∀ p H', New H1 H' p (.tup xs) → Q (.ref p) H'
def tLstA (t : TA) : TE := fun σ H Q => t σ H fun xs H1 => xs.length ≤ sizeLine ∧ ∀ p H', New H1 H' p (.lst xs) → Q (.ref p) H'
theorem pe_tupA {x1} (h : PA X es t) : PE X (.Tuple es x1 pos) (tTupA t) := by
  intro pins s σ H Q I hq
  refine wpAny_Tuple_spliced (thn (h pos pins s σ H _ I hq) fun us s1 ⟨xs, H1, I1, r, z, q⟩ => ⟨by rw [← r.length]; exact z, ?_⟩)
  have hf : H1 s1.heap.objs.size = none := I1.hok.fresh (Nat.le_refl _)
  refine ⟨.ref s1.heap.objs.size, upd H1 s1.heap.objs.size (.tup xs), I1.laid (t' := s1.toks) (fun b u e => Heap.get?_push_of_some _ e) (Nat.le_refl _) ?_, rfl, q _ _ (.mk' hf)⟩
  exact ⟨z, us, r, ⟨_, Heap.get?_push_size _ rfl, rfl, _, rfl⟩⟩
theorem pe_lstA (h : PA X es t) : PE X (.List es pos) (tLstA t) := by
  intro pins s σ H Q I hq
  refine wpAny_List_spliced (thn (h pos pins s σ H _ I hq) fun us s1 ⟨xs, H1, I1, r, z, q⟩ => ⟨by rw [← r.length]; exact z, ?_⟩)
  have hf : H1 s1.heap.objs.size = none := I1.hok.fresh (Nat.le_refl _)
  refine ⟨.ref s1.heap.objs.size, upd H1 s1.heap.objs.size (.lst xs), I1.laid (t' := s1.toks) (fun b u e => Heap.get?_push_of_some _ e) (Nat.le_refl _) ?_, rfl, q _ _ (.mk' hf)⟩
  exact ⟨z, us, 0, r, Heap.get?_push_size _ rfl⟩
def rCatA : R2 := fun x y H Q => ∃ l b xs zs, x = .ref l ∧ y = .ref b ∧ H l = some (.lst xs) ∧ H b = some (.lst zs) ∧ xs.length + zs.length ≤ sizeLine ∧ ∀ p H', New H H' p (.lst (xs ++ zs)) → Q (.ref p) H'
theorem op_catA : OpR X (binaryOp .Add) rCatA := by
  intro pins s σ H x y v u Q I rx ry h
  obtain ⟨l, b, xs, zs, e1, e2, hH, hB, hz, q⟩ := h
  exact op_cat pins s σ H x y v u Q I rx ry ⟨l, b, xs, zs, e1, e2, hH, hB, hz, fun p hp => q p _ (.mk' hp)⟩
def rRepA : R2 := fun x y H Q => ∃ l k xs, x = .ref l ∧ y = .int k ∧ H l = some (.lst xs) ∧ -(2 ^ 63) ≤ k ∧ k < 2 ^ 63 ∧ xs.length * k.toNat ≤ sizeLine ∧ ∀ p H', New H H' p (.lst (List.replicate k.toNat xs).flatten) → Q (.ref p) H'
theorem op_repA : OpR X (binaryOp .Mult) rRepA := by
  intro pins s σ H x y v u Q I rx ry h
  obtain ⟨l, k, xs, e1, e2, hH, h1, h2, hz, q⟩ := h
  exact op_rep pins s σ H x y v u Q I rx ry ⟨l, k, xs, e1, e2, hH, h1, h2, hz, fun p hp => q p _ (.mk' hp)⟩
/-- xs.append(e): that list alone is turned -/
def rAppA : V → List V → Hp → VK → Prop := fun x vs H Q => ∃ l xs y, x = .ref l ∧ vs = [y] ∧ H l = some (.lst xs) ∧ xs.length < sizeLine ∧ ∀ H', Off l H H' → H' l = some (.lst (xs ++ [y])) → Q .non H'
theorem mt_appendA : MtM X "list.append" rAppA := by
  intro pins s σ H x vs v us Q I rx rv h
  obtain ⟨l, xs, y, e1, e2, hH, hz, q⟩ := h
  exact mt_append pins s σ H x vs v us Q I rx rv ⟨l, xs, y, e1, e2, hH, hz, q _ Off.upd upd_same⟩
theorem pe_appendA {o e : Expr} {to te : TE} {apos cpos : Pos} (ho : PE X o to) (he : PE X e te) (hbase : attributeBase o "append" X.env (eval o X.env) = eval o X.env := by rfl)
    (hfew : ((backTo cpos (starEach [e] X.env)).all (fun x => !x.1) && (backToKw cpos (keywordEach [] X.env)).all (fun x => x.1.isSome)
      && decide (([e] : List Expr).length + ([] : List Keyword).length + (if ([] : List Keyword).isEmpty then 0 else 1) < 30)) = true := by rfl)
    (hline : (apos.endLine == cpos.line) = true := by rfl) (hs : starEach [e] X.env = (false, eval e X.env) :: starEach [] X.env := by rfl) :
    PE X (.Call (.Attribute o "append" apos) [e] [] cpos) (tBM X.K "list" rAppA to (tCons te tNil)) :=
  pe_bm PySem.F.plainAttrs_list PySem.F.slot_list_append PySem.F.type_list_append mt_appendA ho (pa_cons he pa_nil hs) hbase hfew hline hs (by rfl)
end
theorem ExcAt.off {H H' : Hp} {l x C : Addr} {fs : List (Str × V)} {xs : List V} (o : Off l H H') (hl : H l = some (.lst xs)) (h : ExcAt H x C fs) : ExcAt H' x C fs := by
  have ne : ∀ {a : Addr} {r : Heap → Prop}, H a = some (.ext r) → a ≠ l := fun {a r} ha q => by
    rw [q, hl] at ha
    cases ha
  rcases h with ⟨a, b⟩ | ⟨dx, a, b, c⟩
  · exact .inl ⟨a, by rw [o x (ne b)]; exact b⟩
  · exact .inr ⟨dx, by rw [o x (ne a)]; exact a, by rw [o dx (ne b)]; exact b, c⟩
end L2
set_option Elab.async false
set_option linter.all false
set_option maxRecDepth 100000
set_option maxHeartbeats 4000000
namespace L2
open PySem PySem.Spec PyProof.Rows
/-- the part tells v, and the heap stays -/
def Tel (t : TE) (σ : St) (H : Hp) (v : V) : Prop := ∀ Q : VK, Q v H → t σ H Q
def TelA (t : TA) (σ : St) (H : Hp) (vs : List V) : Prop := ∀ Q : List V → Hp → Prop, Q vs H → t σ H Q
section
variable {σ σ' : St} {H : Hp} {v x y : V} {vs : List V} {t ta tb : TE} {tr : TA} {i j : Nat} {a C : Addr} {f g : Str} {fs : List (Str × V)} {Q : VK} {D : Ends} {s u : TS} {K : PySem.W.Frag} {tg : TG} {c : TT}
theorem rd_var (h : σ[i]? = some (some v)) : Tel (tVar i) σ H v := fun Q q => ⟨v, h, q⟩
theorem rd_c : Tel (tC v) σ H v := fun Q q => q
theorem rda_nil : TelA tNil σ H [] := fun Q q => q
theorem rda_cons (h : Tel t σ H v) (k : TelA tr σ H vs) : TelA (tCons t tr) σ H (v :: vs) := fun Q q => h _ (k _ q)
theorem rd_exf (h : Tel t σ H (.ref a)) (e : ExcAt H a C fs) (l : fs.lookup f = some v) : Tel (tExF C t f) σ H v := fun Q q => h _ ⟨a, fs, v, rfl, e, l, q⟩
theorem rd_cb {r : List V → Hp → VK → Prop} (h : TelA tr σ H vs) (k : ∀ Q : VK, Q v H → r vs H Q) : Tel (tCB r tr) σ H v := fun Q q => h _ (k Q q)
theorem rd_op {r : R2} (ha : Tel ta σ H x) (hb : Tel tb σ H y) (k : ∀ Q : VK, Q v H → r x y H Q) : Tel (tOp r ta tb) σ H v := fun Q q => ha _ (hb _ (k Q q))
/-- going on, part by part -/
theorem go_rd (h : Tel t σ H v) (k : Q v H) : t σ H Q := h Q k
theorem go_rda {Q : List V → Hp → Prop} (h : TelA tr σ H vs) (k : Q vs H) : tr σ H Q := h Q k
theorem go_cons {Q : List V → Hp → Prop} (h : t σ H fun x H1 => tr σ H1 fun xs H2 => Q (x :: xs) H2) : tCons t tr σ H Q := h
theorem go_nil {Q : List V → Hp → Prop} (h : Q [] H) : tNil σ H Q := h
theorem go_seq (h : s { D with nx := u D } σ H) : tSeq s u D σ H := h
theorem go_nx {nx bk ct : St → Hp → Prop} {rt : VK} (h : nx σ H) : (Ends.mk nx rt bk ct).nx σ H := h
theorem go_next (h : D.nx σ H) : tNext D σ H := h
theorem go_asg (h : t σ H fun x H1 => tg x σ H1 D.nx) : tAsg t tg D σ H := h
theorem go_par (h : tr σ H fun vs H1 => ∃ v w, vs = [v, w] ∧ D.nx ((σ.set i (some v)).set j (some w)) H1) : tPar i j tr D σ H := h
theorem go_tupA (h : tr σ H fun xs H1 => xs.length ≤ sizeLine ∧ ∀ p H', New H1 H' p (.tup xs) → Q (.ref p) H') : tTupA tr σ H Q := h
theorem go_op {r : R2} (h : ta σ H fun x H1 => tb σ H1 fun y H2 => r x y H2 Q) : tOp r ta tb σ H Q := h
theorem go_ret (h : t σ H D.rt) : tRet t D σ H := h
theorem go_drop (h : t σ H fun _ H1 => D.nx σ H1) : tDrop t D σ H := h
theorem go_if (h : c σ H fun b H1 => if b = true then s D σ H1 else u D σ H1) : tIfS c s u D σ H := h
theorem go_test {Q : Bool → Hp → Prop} (h : t σ H fun x H' => ∃ k, x = .bl k ∧ Q k H') : tTest t σ H Q := h
theorem go_and (h : ta σ H fun x H1 => ∃ c, x = .bl c ∧ if c = true then tb σ H1 Q else Q (.bl false) H1) : tAndV ta tb σ H Q := h
theorem go_call {sp : Sp} {dvs : List V} {E : XK} (h : tr σ H fun vs H1 => sp (vs ++ dvs) H1 Q E) : tCall sp dvs E tr σ H Q := h
/-- makings -/
theorem go_ex1 (h : TelA tr σ H [v]) (k : ∀ z H', Same H H' → ExcAt H' z C [(f, v)] → Q (.ref z) H') : tEx1 C f tr σ H Q := h _ ⟨v, rfl, k⟩
theorem go_ex2 (h : TelA tr σ H [v, y]) (hfg : f ≠ g) (k : ∀ z H', Same H H' → ExcAt H' z C [(f, v), (g, y)] → Q (.ref z) H') : tEx2 C f g tr σ H Q := h _ ⟨v, y, rfl, fun z H' s e => k z H' s (by
  have e2 : putF g y [(f, v)] = [(f, v), (g, y)] := by
    simp [putF, hfg]
  rw [← e2]
  exact e)⟩
theorem go_ex0 (k : ∀ z H', Same H H' → ExcAt H' z C [] → Q (.ref z) H') : tEx0 C σ H Q := k
/-- a name's new value, the names written out -/
theorem go_name {R : St → Hp → Prop} (e : σ.set i (some v) = σ') (h : R σ' H) : gName i v σ H R := by
  show R (σ.set i (some v)) H
  rw [e]
  exact h
theorem go_two {R : St → Hp → Prop} (e : (σ.set i (some x)).set j (some y) = σ') (h : R σ' H) : ∃ v w, [x, y] = [v, w] ∧ R ((σ.set i (some v)).set j (some w)) H := ⟨x, y, rfl, by rw [e]; exact h⟩
theorem go_four {i0 i1 i2 i3 : Nat} {a b c d : V} {R : St → Hp → Prop} (e : (((σ.set i0 (some a)).set i1 (some b)).set i2 (some c)).set i3 (some d) = σ') (h : ∀ H', Same H H' → R σ' H') :
    [a, b, c, d].length ≤ sizeLine ∧ ∀ p H', New H H' p (.tup [a, b, c, d]) → gTup K 4 (gCons (gName i0) (gCons (gName i1) (gCons (gName i2) (gCons (gName i3) gNil)))) (.ref p) σ H' R :=
  ⟨by show 4 ≤ sizeLine; decide, fun p H' n => ⟨p, _, rfl, SqT.of n.e, rfl, _, _, rfl, _, _, rfl, _, _, rfl, _, _, rfl, rfl, by rw [e]; exact h H' n.s⟩⟩
/-- xs + [e, ..] -/
theorem go_cat {l : Addr} {xs zs : List V} (h1 : Tel ta σ H (.ref l)) (hl : H l = some (.lst xs)) (h2 : TelA tr σ H zs) (hz : xs.length + zs.length ≤ sizeLine) (k : ∀ p H', New H H' p (.lst (xs ++ zs)) → Q (.ref p) H') : tOp rCatA ta (tLstA tr) σ H Q :=
  h1 _ (h2 _ ⟨Nat.le_trans (Nat.le_add_left _ _) hz, fun q H1 n1 => ⟨l, q, xs, zs, rfl, rfl, n1.s _ _ hl, n1.e, hz, fun p H2 n2 => k p H2 ⟨n1.s.trans n2.s, n2.e, fun a u e => n2.n a u (n1.s _ _ e)⟩⟩⟩)
/-- [e, ..] -/
theorem go_lst {zs : List V} (h2 : TelA tr σ H zs) (hz : zs.length ≤ sizeLine) (k : ∀ p H', New H H' p (.lst zs) → Q (.ref p) H') : tLstA tr σ H Q := h2 _ ⟨hz, k⟩
/-- a list made by + and * of displays, all of it garbage but the last -/
def MkL (t : TE) (σ : St) (H : Hp) (xs : List V) : Prop := ∀ Q : VK, (∀ p H', New H H' p (.lst xs) → Q (.ref p) H') → t σ H Q
theorem mk_lst {zs : List V} (h2 : TelA tr σ H zs) (hz : zs.length ≤ sizeLine) : MkL (tLstA tr) σ H zs := fun Q k => h2 _ ⟨hz, k⟩
theorem mk_cat {xs zs : List V} (h1 : MkL ta σ H xs) (h2 : ∀ H', Same H H' → MkL tb σ H' zs) (hz : xs.length + zs.length ≤ sizeLine) : MkL (tOp rCatA ta tb) σ H (xs ++ zs) := fun Q k =>
  h1 _ fun p H1 n1 => h2 H1 n1.s _ fun q H2 n2 => ⟨p, q, xs, zs, rfl, rfl, n2.s _ _ n1.e, n2.e, hz, fun r H3 n3 => k r H3 ⟨(n1.s.trans n2.s).trans n3.s, n3.e, fun a u e => n3.n a u (n2.s _ _ (n1.s _ _ e))⟩⟩
theorem mk_rep {xs : List V} {m : Nat} (h1 : MkL ta σ H xs) (h2 : ∀ H', Same H H' → Tel tb σ H' (.int m)) (hm : m < 2 ^ 63) (hz : xs.length * m ≤ sizeLine) : MkL (tOp rRepA ta tb) σ H (List.replicate m xs).flatten := fun Q k =>
  h1 _ fun p H1 n1 => h2 H1 n1.s _ ⟨p, m, xs, rfl, rfl, n1.e, by omega, by omega, by rw [Int.toNat_natCast]; exact hz, fun r H3 n3 => k r H3 ⟨n1.s.trans n3.s, by have := n3.e; rw [Int.toNat_natCast] at this; exact this, fun a u e => n3.n a u (n1.s _ _ e)⟩⟩
end
section
variable {σ : St} {H : Hp} {te : TE} {tr : TA} {Q : VK} {c : TT} {fr : List Nat} {fvs : St} {n : Nat}
theorem rangeV_get {i : Nat} {x : V} (h : (rangeV 0 n)[i]? = some x) (hi : i < n) : x = .int i := by
  have : (rangeV 0 n)[i]? = some (V.int (0 + (i : Int))) := by simp [rangeV, hi]
  rw [this] at h
  have := Option.some.inj h
  rw [← this, Int.zero_add]
/-- [e for k in range(n)], e a plain reading -/
theorem go_map_range {F : Nat → V} (hr : TelA tr σ H [.int (n : Int)]) (hn : n < 2 ^ 62) (hz : n ≤ 1000000) (hf : (fr.map fun i => (σ[i]?).getD none) = fvs)
    (turn : ∀ i H', i < n → Same H H' → Tel te (some (.int i) :: fvs) H' (F i)) (k : ∀ p H', New H H' p (.lst ((List.range n).map F)) → Q (.ref p) H') : tComp (iRng1 tr) 1 fr (gName 0) tTrue te σ H Q := by
  refine hr _ ⟨n, rfl, by omega, by omega, fun acc hacc => ?_⟩
  subst hf
  rw [Int.toNat_natCast]
  refine comp_by items_range (fun i ys H' => H' = upd H acc (.lst ys) ∧ ys = (List.range i).map F) ⟨rfl, rfl⟩ (fun i ys H' _ h => ⟨trivial, by rw [h.1]; exact upd_same⟩) ?_ ?_
  · rintro i x tv ys H' hx hi ⟨rfl, rfl⟩ htv
    obtain ⟨tv0, rfl⟩ : ∃ a, tv = [a] := List.length_eq_one_iff.mp htv
    have hi' : i < n := by simpa [rangeV] using hi
    obtain rfl := rangeV_get hx hi'
    unfold gName tTrue
    dsimp only
    rw [if_pos rfl]
    refine turn i _ hi' (Same.new hacc) _ ⟨?_, upd_same, ?_⟩
    · rw [List.length_map, List.length_range]
      exact Nat.lt_of_lt_of_le hi' (small_line hz)
    · exact CompW.next (tv := [some (V.int i)]) hi ⟨upd_upd, by rw [List.range_succ, List.map_append]; rfl⟩ rfl
  · rintro ys H' ⟨rfl, rfl⟩
    rw [show (rangeV 0 n).length = n by simp [rangeV]]
    exact k acc _ (.mk' hacc)
/-- [e for k in range(n) if c]: none lets by -/
theorem go_none_range (hr : TelA tr σ H [.int (n : Int)]) (hn : n < 2 ^ 62) (hf : (fr.map fun i => (σ[i]?).getD none) = fvs)
    (turn : ∀ i H' (R : Bool → Hp → Prop), i < n → Same H H' → (∀ H2, Same H' H2 → R false H2) → c (some (.int i) :: fvs) H' R) (k : ∀ p H', New H H' p (.lst []) → Q (.ref p) H') : tComp (iRng1 tr) 1 fr (gName 0) c te σ H Q := by
  refine hr _ ⟨n, rfl, by omega, by omega, fun acc hacc => ?_⟩
  subst hf
  rw [Int.toNat_natCast]
  refine comp_by items_range (fun i ys H' => ys = [] ∧ New H H' acc (.lst [])) ⟨rfl, .mk' hacc⟩ (fun i ys H' _ h => ⟨trivial, by rw [h.1]; exact h.2.e⟩) ?_ ?_
  · rintro i x tv ys H' hx hi ⟨rfl, hN⟩ htv
    obtain ⟨tv0, rfl⟩ : ∃ a, tv = [a] := List.length_eq_one_iff.mp htv
    have hi' : i < n := by simpa [rangeV] using hi
    obtain rfl := rangeV_get hx hi'
    unfold gName
    refine turn i _ _ hi' hN.s fun H2 s2 => ?_
    rw [if_neg Bool.false_ne_true]
    exact CompW.next (tv := [some (V.int i)]) hi ⟨rfl, hN.s.trans s2, s2 _ _ hN.e, hN.n⟩ rfl
  · rintro ys H' ⟨rfl, hN⟩
    exact k acc _ hN
end
end L2
set_option Elab.async false
set_option linter.all false
set_option maxRecDepth 100000
set_option maxHeartbeats 4000000
namespace L2
open PySem PySem.Spec PyProof.Rows
section
variable {P : Program} {w : World} {H : Hp} {h : Heap} {a b : Addr} {φ : Heap → Prop} {o : HO}
end
section
variable {X : Cx} {pins : List (Addr × Obj)} {σ : St} {H H1 : Hp} {s s1 : Shared} {a : Addr} {φ : Heap → Prop} {o : HO}
end
section
variable {M : Model} {A : Around} {E : Value → Shared → Prop} {env : Env}
variable {nm q : Str} {C N : Addr} {bs bm : List Value} {hdct : Bool} {sn : List Str} {sub : List Value} {ab : Bool} {col : Option Bool} {dd : Option Addr} {k0 k1 k2 k3 k5 : Option Value} {newId : String}
end
section
variable {P : Program} {w : World} {K : PySem.W.Frag} {mg : Str → Option Value} {base : Heap} {N : List Str} {qual : Str} {scope : Scope} {f : Addr} {cd : Value} {A : Around} {outer : List Env} {s : Shared} {H : Hp} {E : XK}
end
section
variable {X : Cx} {CX : CXT} {k m : Nat} {f C R : Addr} {fd : FuncData} {ps : List Str} {sp : Sp} {E : XK} {p pos : Pos} {e : Expr} {es : List Expr} {t : TA} {bm : List Value}
end
section
variable {CX : CXT} {X : Cx} {k m : Nat} {C R : Addr} {E : XK} {x qual f g : Str} {st : Stmt} {p pos : Pos} {e : Expr} {es : List Expr} {t : TA}
end
section
variable {σ : St} {H H0 : Hp} {tr : TA} {v y : V} {C : Addr} {f g : Str} {D : Ends} {n : Nat} {E : XK}
end
section
variable {P : Program} {w : World} {K : PySem.W.Frag} {mg : Str → Option Value} {base : Heap} {k : Nat} {x : Str} {ps : List Str} {sp : Sp}
end
end L2
set_option Elab.async false
set_option linter.all false
set_option maxRecDepth 100000
set_option maxHeartbeats 4000000
namespace L2
open PySem PySem.Spec PyProof.Rows
section
variable {M : Model} {A : Around} {E : Value → Shared → Prop} {s : Shared}
end
section
variable {X : Cx} {pins : List (Addr × Obj)} {σ : St} {H : Hp} {s : Shared}
end
section
variable {M : Model} {A : Around} {E : Value → Shared → Prop} {s : Shared} {base : Heap} {env : Env} {outer : List Env} {L e : Addr} {oe : Obj} {vs : Array Value}
end
abbrev Cx.pinned (X : Cx) (pins : List (Addr × Obj)) : Cx := { X with pn := X.pn ++ pins }
section
variable {X : Cx} {pins pins' : List (Addr × Obj)} {σ : St} {H : Hp} {s : Shared} {a : Addr}
end
/-- EX: what is wanted of an exception that comes up, by the names' values then -/
abbrev Cx.tr (X : Cx) (pins : List (Addr × Obj)) (EX : St → XK) : Cx := (X.pinned pins).wish fun ev s' => ∃ pins' σ' H1 s1, Inv (X.pinned pins) pins' σ' H1 s1 ∧ CX1 X.prog X.w X.stack H1 s1 (EX σ') ev s'
section
variable {X : Cx} {pins : List (Addr × Obj)} {EX : St → XK} {k m : Nat} {x : Str} {ps : List Str} {sp : Sp} {p pos : Pos} {e : Expr} {es : List Expr} {t : TA}
end
/-- an exception that was raised and caught -/
def excT (a C : Addr) (dx : Option Addr) : HO := .ext fun h => ∃ oe vs, h.get? a = some oe ∧ oe.cls = .ref C ∧ oe.dict = dx ∧ oe.data = .fields vs
def ExcT (H : Hp) (x C : Addr) (fs : List (Str × V)) : Prop := (fs = [] ∧ H x = some (excT x C none)) ∨ ∃ dx, H x = some (excT x C (some dx)) ∧ H dx = some (dctO dx fs) ∧ dx ≠ x
theorem ExcT.same {H H' : Hp} {x C : Addr} {fs : List (Str × V)} (e : Same H H') (h : ExcT H x C fs) : ExcT H' x C fs := by
  rcases h with ⟨a, b⟩ | ⟨dx, a, b, c⟩
  · exact .inl ⟨a, e _ _ b⟩
  · exact .inr ⟨dx, e _ _ a, e _ _ b, c⟩
theorem ExcT.mk {H : Hp} {a C dx : Addr} {fs : List (Str × V)} (hd : H dx = some (dctO dx fs)) (ha : H a = none) : ExcT (upd H a (excT a C (some dx))) a C fs :=
  .inr ⟨dx, upd_same, by rw [upd_ne (ne_of_none hd ha)]; exact hd, ne_of_none hd ha⟩
structure Caught (X : Cx) (pins : List (Addr × Obj)) (σ : St) (H : Hp) (s : Shared) (a C : Addr) (dx : Option Addr) : Prop where
  I : Inv X pins σ H s
  ha : H a = some (excT a C dx)
  tb : ∃ T oe vs oT ts, s.heap.get? a = some oe ∧ oe.data = .fields vs ∧ vs[1]? = some (.ref T) ∧ s.heap.get? T = some oT ∧ oT.data = .fields ts ∧ 3 < ts.size ∧ H T = none ∧ T ≠ X.env.locals ∧ (T ∈ X.ex ∨ X.s₀.heap.objs.size ≤ T) ∧ (∀ x c, X.env.cells.lookup x = some c → c ≠ T) ∧ ∀ p ∈ X.pn ++ pins, p.1 ≠ T
abbrev THd := Ends → Addr → Addr → Option Addr → St → Hp → Prop
section
variable {X : Cx} {x n : Str} {d : Addr} {i : Nat} {b₀ : Stmt} {suite : List Stmt} {rest : List ExceptHandler} {th : Addr → TS} {tr : THd} {p pos : Pos}
theorem Caught.lit {pins : List (Addr × Obj)} {σ : St} {H : Hp} {s : Shared} {a C : Addr} {dx : Option Addr} {A : Around} {E : Value → Shared → Prop} {Q : Unit → Shared → Prop} (c : Caught X pins σ H s a C dx) (h : ∀ s', Inv X pins σ H s' → Q () s') : wpAny (model X.prog X.w) A (setFlight (.ref a) none) Q E s := by
  obtain ⟨T, oe, vs, oT, ts, ga, gf, g1, gT, gt, g3, hT, n1, n2, n3, n4⟩ := c.tb
  exact wpAny_setFlight_none ga gf g1 gT gt g3 (h _ (c.I.turned (t' := s.toks) (fun b o hb e => (Heap.get?_update_other _ _ (Ne.symm hb)).trans e) hT n1 n2 n3 n4))
theorem Caught.type {pins : List (Addr × Obj)} {σ : St} {H : Hp} {s : Shared} {a C : Addr} {dx : Option Addr} (c : Caught X pins σ H s a C dx) : PySem.W.Looks (model X.prog X.w) s.heap (typeOf (.ref a)) (.ref C) := by
  obtain ⟨⟨oe, vs, ge, gc, gd, gf⟩, _, _⟩ : ObjOk X.prog X.w H s.heap a (excT a C dx) := c.I.hok a _ c.ha
  exact gc ▸ (PySem.W.Looks.ld ge).andThen .now
end
section
variable {X : Cx} {body : List Stmt} {h₀ : ExceptHandler} {hs : List ExceptHandler} {tb : List (Addr × Obj) → (St → XK) → TS} {th : THd} {pos : Pos}
end
section
variable {X : Cx}
end
theorem ExcT.off {H H' : Hp} {l x C : Addr} {fs : List (Str × V)} {xs : List V} (o : Off l H H') (hl : H l = some (.lst xs)) (h : ExcT H x C fs) : ExcT H' x C fs := by
  have ne : ∀ {a : Addr} {r : Heap → Prop}, H a = some (.ext r) → a ≠ l := fun {a r} ha q => by
    rw [q, hl] at ha
    cases ha
  rcases h with ⟨a, b⟩ | ⟨dx, a, b, c⟩
  · exact .inl ⟨a, by rw [o x (ne b)]; exact b⟩
  · exact .inr ⟨dx, by rw [o x (ne a)]; exact a, by rw [o dx (ne b)]; exact b, c⟩
section
variable {σ : St} {H : Hp} {D : Ends} {tb : List (Addr × Obj) → (St → XK) → TS} {th : THd} {tr : TA} {Q : VK} {EX : St → XK} {sp : Sp}
end
end L2
set_option Elab.async false
set_option linter.all false
set_option maxRecDepth 100000
set_option maxHeartbeats 4000000
namespace L2
open PySem PySem.Spec PyProof.Rows
section
variable {prog : Program} {w : World} {A : Around} {E : Value → Shared → Prop} {s : Shared}
end
section
variable {σ σ' : St} {H : Hp} {K : PySem.W.Frag} {p : Addr} {a b c d : V} {i0 i1 i2 i3 : Nat} {R : St → Hp → Prop}
end
end L2
set_option Elab.async false
set_option linter.all false
set_option maxRecDepth 100000
set_option maxHeartbeats 4000000
namespace L2
open PySem PySem.Spec PyProof.Rows
/-- repr, isinstance by named relations -/
def rRepr (X : Cx) : List V → Hp → VK → Prop := fun xs H Q => ∃ x d, xs = [x] ∧ Shows X H x d ∧ d.showable = true ∧ d.depth ≤ 100 ∧ d.shown.length ≤ sizeLine ∧ Q (.str d.shown) H
def rIsT (K : PySem.W.Frag) : List V → Hp → VK → Prop := fun xs H Q => ∃ x d t b, xs = [x, d] ∧ TyOf K H x t ∧ clsIs K t d = some b ∧ Q (.bl b) H
theorem call_isT {X : Cx} : CallR X (.builtin "isinstance") (rIsT X.K) := call_isinstance
theorem lk1 {f : Str} {v : V} {r : List (Str × V)} : ((f, v) :: r).lookup f = some v := by simp [List.lookup]
theorem lk2 {f g : Str} {v y : V} (h : f ≠ g) : [(f, v), (g, y)].lookup g = some y := by
  have hb : (g == f) = false := beq_eq_false_iff_ne.mpr (Ne.symm h)
  simp [List.lookup, hb]
theorem bt_VE : bootBuiltins "ValueError" = some (.type "ValueError") := by decide +kernel
end L2
set_option Elab.async false
set_option linter.all false
set_option maxRecDepth 100000
set_option maxHeartbeats 4000000
namespace L2
open PySem PySem.Spec PyProof.Rows
section
variable {X : Cx} {pins : List (Addr × Obj)} {σ : St} {H : Hp} {s : Shared} {h' : Heap} {t' : Nat} {ch : List Addr}
end
section
variable {X : Cx} {a b : Expr} {ta : TA} {p pos : Pos}
end
section
variable {prog : Program} {w : World} {A : Around} {E : Value → Shared → Prop} {s : Shared} {I l S : Addr} {items : Array Value}
end
section
variable {X : Cx}
end
end L2
set_option Elab.async false
set_option linter.all false
set_option maxRecDepth 100000
set_option maxHeartbeats 4000000
namespace L2
open PySem PySem.Spec PyProof.Rows
section
variable {σ : St} {H : Hp} {Q : VK} {v x y : V} {i j : Int} {K : PySem.W.Frag} {t ta tb tc : TE} {tr : TA} {s u : TS} {D : Ends} {c d : TT}
theorem w_not {R : Bool → Hp → Prop} (h : c σ H fun b H1 => R (!b) H1) : tNot c σ H R := h
end
section
variable {X : Cx}
end
section
variable {A B p : Prop} [Decidable p] {b : Bool}
end
section
variable {H H0 H1 H2 H' : Hp} {p q a : Addr} {o u : HO} {xs ys : List V}
theorem Same.off (s : Same H0 H) (f : Off p H H') (n : ∀ b u, H0 b = some u → b ≠ p) : Same H0 H' := fun b u e => by
  rw [f b (n b u e)]
  exact s b u e
theorem New.trans (n1 : New H H1 p o) (n2 : New H1 H2 q u) : New H H2 q u := ⟨n1.s.trans n2.s, n2.e, fun a v e => n2.n a v (n1.s a v e)⟩
theorem New.after (s : Same H H1) (n : New H1 H2 q u) : New H H2 q u := ⟨s.trans n.s, n.e, fun a v e => n.n a v (s a v e)⟩
/-- the refs ys stand for tuples of these rows -/
def TupsAt (H : Hp) (ys : List V) (rows : List (List V)) : Prop := ys.length = rows.length ∧ ∀ (j : Nat) (r : List V), rows[j]? = some r → ∃ q, ys[j]? = some (.ref q) ∧ H q = some (.tup r)
theorem TupsAt.same {rows : List (List V)} (s : Same H H') (h : TupsAt H ys rows) : TupsAt H' ys rows := ⟨h.1, fun j r e => let ⟨q, a, b⟩ := h.2 j r e; ⟨q, a, s _ _ b⟩⟩
theorem TupsAt.off {rows : List (List V)} (h : TupsAt H ys rows) (f : Off p H H') (hl : H p = some (.lst xs)) : TupsAt H' ys rows := ⟨h.1, fun j r e => by
  obtain ⟨q, a, b⟩ := h.2 j r e
  have ne : q ≠ p := ne_of b hl (fun z => by cases z)
  exact ⟨q, a, by rw [f q ne]; exact b⟩⟩
theorem TupsAt.nil : TupsAt H [] [] := ⟨rfl, fun j r e => by simp at e⟩
theorem TupsAt.reverse {rows : List (List V)} (h : TupsAt H ys rows) : TupsAt H ys.reverse rows.reverse := by
  refine ⟨by rw [List.length_reverse, List.length_reverse, h.1], fun j r e => ?_⟩
  have hj : j < rows.length := by
    have := (List.getElem?_eq_some_iff.mp e).1
    rwa [List.length_reverse] at this
  rw [List.getElem?_reverse hj] at e
  obtain ⟨q, a, b⟩ := h.2 _ r e
  exact ⟨q, by rw [List.getElem?_reverse (by rw [h.1]; exact hj), h.1]; exact a, b⟩
end
section
variable {σ : St} {H : Hp} {Q : VK} {K : PySem.W.Frag} {tr : TA} {D : Ends} {i j : Int} {g : TG} {tb : TS} {a b : V} {p : Addr}
end
def rNeD (K : PySem.W.Frag) : R2 := fun x y H Q => ∃ d d', Rep K H d x ∧ Rep K H d' y ∧ depD d ≤ 100 ∧ Q (.bl (!eqDt d d')) H
theorem reps_ints {K : PySem.W.Frag} {H : Hp} : ∀ ns : List Int, Reps K H (ns.map Dt.int) (ns.map V.int)
  | [] => by simp [Reps]
  | n :: ns => by
    simp only [List.map_cons, Reps]
    exact ⟨_, _, rfl, by simp [Rep], reps_ints ns⟩
end L2
set_option Elab.async false
set_option linter.all false
set_option maxRecDepth 100000
set_option maxHeartbeats 4000000
namespace L2
open PySem PySem.Spec PyProof.Rows PySem.SeqAt
section
variable {X : Cx} {a : Expr} {ta : TE} {pos : Pos}
end
section
variable {σ : St} {H : Hp} {Q : VK} {D : Ends} {td ty tv : TE} {p : Addr} {kvs : List (Key × V)} {i : Int} {v : V}
end
section
variable {α β : Type} {F G : α → β → Prop}
end
/-- all but what stands at b is as it was -/
def Kp (b : Addr) (H H' : Hp) : Prop := ∀ x u, x ≠ b → H x = some u → H' x = some u
section
variable {b p : Addr} {H H1 H2 : Hp} {o : HO}
theorem Kp.refl : Kp b H H := fun _ _ _ h => h
theorem Kp.trans (a : Kp b H H1) (c : Kp b H1 H2) : Kp b H H2 := fun x u n h => c x u n (a x u n h)
theorem Same.kp (s : Same H H1) : Kp b H H1 := fun x u _ h => s x u h
theorem Off.kp (f : Off b H H1) : Kp b H H1 := fun x u n h => by rw [f x n]; exact h
theorem Kp.same {H0 : Hp} (s : Same H0 H) (k : Kp b H H1) (n : ∀ x u, H0 x = some u → x ≠ b) : Same H0 H1 := fun x u e => k x u (n x u e) (s x u e)
end
section
variable {X : Cx} {K : PySem.W.Frag}
end
end L2
set_option Elab.async false
set_option linter.all false
set_option maxRecDepth 100000
set_option maxHeartbeats 4000000
namespace L2
open PySem PySem.Spec PyProof.Rows PySem.SeqAt
section
variable {X : Cx} {pins : List (Addr × Obj)} {EX : St → XK} {k m : Nat} {x : Str} {ps : List Str} {sp : Sp} {p pos apos : Pos} {e o : Expr} {es : List Expr} {t : TA} {ta : TE} {f C : Addr} {fd : FuncData} {nm : Str}
end
end L2
set_option Elab.async false
set_option linter.all false
set_option maxRecDepth 100000
set_option maxHeartbeats 4000000
namespace L2
open PySem PySem.Spec PyProof.Rows PySem.SeqAt
section
variable {P : Program} {w : World} {K : PySem.W.Frag} {mg : Str → Option Value} {base : Heap} {CX : CXT} {k : Nat} {x nm qual : Str} {ps : List Str} {sp : Sp} {C : Addr}
structure Met (P : Program) (w : World) (K : PySem.W.Frag) (mg : Str → Option Value) (base : Heap) (CX : CXT) (k : Nat) (C : Addr) (nm : Str) (ps : List Str) (sp : Sp) : Prop where
  ex : ∃ (f : Addr) (fd : FuncData), FnOk P w K mg base CX k f fd ps sp ∧ Meth K C nm f ∧ Binds K fd ps []
/-- what is told of a function, whichever way it is reached -/
structure FnTells (P : Program) (w : World) (K : PySem.W.Frag) (mg : Str → Option Value) (base : Heap) (CX : CXT) (k : Nat) (f : Addr) (ps : List Str) (sp : Sp) : Prop where
  ex : ∃ fd : FuncData, FnOk P w K mg base CX k f fd ps sp ∧ Binds K fd ps []
theorem FnTells.met {f : Addr} (t : FnTells P w K mg base CX k f ps sp) (m : Meth K C nm f) : Met P w K mg base CX k C nm ps sp := let ⟨fd, F, b⟩ := t.ex; ⟨f, fd, F, m, b⟩
variable {st : Stmt} {N : List Str} {f : Addr}
end
section
variable {X : Cx} {CX : CXT} {k m : Nat} {x nm : Str} {ps : List Str} {sp : Sp} {E : XK} {p pos apos : Pos} {e o : Expr} {es : List Expr} {t : TA} {ta : TE} {C : Addr} {pins : List (Addr × Obj)} {EX : St → XK}
end
end L2
set_option Elab.async false
set_option linter.all false
set_option maxRecDepth 100000
namespace L2
open PySem PySem.Spec PyProof.Rows
/-- from 0 on, below 2 ^ k -/
def Bd (k : Nat) (x : Int) : Prop := 0 ≤ x ∧ x < 2 ^ k
theorem p2_mono {a b : Nat} (h : a ≤ b) : (2 : Int) ^ a ≤ 2 ^ b := by
  have h : (2 : Nat) ^ a ≤ 2 ^ b := Nat.pow_le_pow_right (by decide) h
  exact_mod_cast h
theorem p2_pos (k : Nat) : (0 : Int) < 2 ^ k := by
  have : (0 : Nat) < 2 ^ k := Nat.pow_pos (by decide)
  exact_mod_cast this
theorem Bd.mono {a b : Nat} {x : Int} (h : a ≤ b) (hx : Bd a x) : Bd b x := ⟨hx.1, Int.lt_of_lt_of_le hx.2 (p2_mono h)⟩
theorem Bd.mul {a b : Nat} {x y : Int} (hx : Bd a x) (hy : Bd b y) : Bd (a + b) (x * y) := by
  refine ⟨Int.mul_nonneg hx.1 hy.1, ?_⟩
  rw [Int.pow_add]
  exact Int.lt_of_le_of_lt (Int.mul_le_mul_of_nonneg_left (Int.le_of_lt hy.2) hx.1) (Int.mul_lt_mul_of_pos_right hx.2 (p2_pos b))
theorem Bd.abs {k : Nat} {x : Int} (h : Bd k x) : x.natAbs < 2 ^ k := by
  have h1 := h.1
  have h2 := h.2
  have e : ((x.natAbs : Nat) : Int) < ((2 ^ k : Nat) : Int) := by
    rw [Int.natAbs_of_nonneg h1]
    exact_mod_cast h2
  exact_mod_cast e
section
variable {X : Cx}
end
section
variable {i j : Int} {H : Hp} {Q : VK}
end
end L2
set_option Elab.async false
set_option linter.all false
set_option maxRecDepth 100000
namespace L2
open PySem PySem.Spec PyProof.Rows
section
variable {X : Cx} {pos : Pos}
end
section
variable {σ : St} {H : Hp} {Q : VK} {i j out y : Str} {n : Int} {t : TE} {ts : List TE} {K : PySem.W.Frag}
end
section
variable {K : PySem.W.Frag} {H : Hp}
theorem rep_nil {p : Addr} (h : SqL K H p []) : Rep K H (.lst []) (.ref p) := by
  simp only [Rep]
  exact ⟨p, _, rfl, h, by simp [Reps]⟩
end
end L2
set_option Elab.async false
set_option linter.all false
set_option maxRecDepth 100000
namespace L2
open PySem PySem.Spec PyProof.Rows
section
variable {K : PySem.W.Frag} {σ : St} {H : Hp} {Q : VK} {ta tv : TE} {t : TA} {f m : Str} {C : Addr} {sp : Sp} {dvs : List V} {E : XK} {D : Ends}
end
section
variable {X : Cx}
end
end L2
set_option Elab.async false
set_option linter.all false
set_option maxRecDepth 100000
set_option maxHeartbeats 8000000
namespace K17
open PySem L2 PyProof.Rows
def top (i : Nat) : Stmt := PySem.Challenge.pw_slideroom_k17_refusals_apart.main.body.getD i (.Pass ⟨0, 0, 0, 0⟩)
abbrev s_first : Stmt := top 31
theorem sc_first : FnScope ["_law_e", "_law_found"] ["_law_e"] (defScope s_first) := ⟨rfl, rfl, rfl, by decide +kernel, rfl, by decide +kernel, by decide +kernel⟩
abbrev s_second : Stmt := top 32
theorem sc_second : FnScope ["_law_e", "_law_found"] ["_law_e"] (defScope s_second) := ⟨rfl, rfl, rfl, by decide +kernel, rfl, by decide +kernel, by decide +kernel⟩
abbrev s_right : Stmt := top 33
theorem sc_right : FnScope ["_law_e", "_law_number"] ["_law_e", "_law_number"] (defScope s_right) := ⟨rfl, rfl, rfl, by decide +kernel, rfl, by decide +kernel, by decide +kernel⟩
abbrev s_half1 : Stmt := top 34
theorem sc_half1 : FnScope ["_law_one", "_law_other", "_law_many", "_law_name", "_law_size", "_law_at", "_law_value", "_law_row", "_law_twice", "_law_outside", "_law_both", "_law_more", "_law_block", "_law_text", "_law_free", "_law_taken", "_law_told", "_law_due", "_law_made"] ["_law_one", "_law_other"] (defScope s_half1) := ⟨rfl, rfl, rfl, by decide +kernel, rfl, by decide +kernel, by decide +kernel⟩
abbrev s_half2 : Stmt := top 35
theorem sc_half2 : FnScope ["_law_one", "_law_other", "_law_hole", "_law_rule", "_law_pinned", "_law_loose", "_law_gone", "_law_moves", "_law_slide", "_law_sliding", "_law_still", "_law_fixed", "_law_room", "_law_way", "_law_asks", "_law_line", "_law_told", "_law_due", "_law_made"] ["_law_one", "_law_other"] (defScope s_half2) := ⟨rfl, rfl, rfl, by decide +kernel, rfl, by decide +kernel, by decide +kernel⟩
abbrev s_law : Stmt := top 36
theorem sc_law : FnScope ["_law_script", "_law_cell", "_law_some", "_law_one", "_law_other"] ["_law_script"] (defScope s_law) := ⟨rfl, rfl, rfl, by decide +kernel, rfl, by decide +kernel, by decide +kernel⟩
abbrev i_NoMany : Stmt := inClass (top 2) 0
theorem si_NoMany : FnScope ["self", "many"] ["self", "many"] (defScope i_NoMany) := ⟨rfl, rfl, rfl, by decide +kernel, rfl, by decide +kernel, by decide +kernel⟩
theorem I_NoMany {P : Program} {w : World} {K : PySem.W.Frag} {mg : Str → Option Value} {base : Heap} {C : Addr} (S : ExcS K C) (n0 : NoAttr K C "many") : InitOk P w K mg base CX0 "NoMany.__init__" i_NoMany ["self", "many"] (spI1 C "many") := fun f fd F => by
  refine ⟨F.ok si_NoMany (fun vs H Q E h => ?_) (fun cdv A outer s H vs Q E hr h => ?_), F.binds (fun _ _ _ _ _ _ us hl => match us, hl with | [_, _], _ => rfl)⟩
  · obtain ⟨x, v, rfl, _⟩ := h
    rfl
  · obtain ⟨x, v, rfl, ho, k⟩ := h
    refine ⟨_, pss_one (ps_exc (pv 0) (pv 1)), ?_⟩
    exact ⟨_, rfl, _, rfl, x, C, rfl, S, n0.taker, .inl ⟨ho, k⟩⟩
abbrev i_NoName : Stmt := inClass (top 3) 0
theorem si_NoName : FnScope ["self", "name"] ["self", "name"] (defScope i_NoName) := ⟨rfl, rfl, rfl, by decide +kernel, rfl, by decide +kernel, by decide +kernel⟩
theorem I_NoName {P : Program} {w : World} {K : PySem.W.Frag} {mg : Str → Option Value} {base : Heap} {C : Addr} (S : ExcS K C) (n0 : NoAttr K C "name") : InitOk P w K mg base CX0 "NoName.__init__" i_NoName ["self", "name"] (spI1 C "name") := fun f fd F => by
  refine ⟨F.ok si_NoName (fun vs H Q E h => ?_) (fun cdv A outer s H vs Q E hr h => ?_), F.binds (fun _ _ _ _ _ _ us hl => match us, hl with | [_, _], _ => rfl)⟩
  · obtain ⟨x, v, rfl, _⟩ := h
    rfl
  · obtain ⟨x, v, rfl, ho, k⟩ := h
    refine ⟨_, pss_one (ps_exc (pv 0) (pv 1)), ?_⟩
    exact ⟨_, rfl, _, rfl, x, C, rfl, S, n0.taker, .inl ⟨ho, k⟩⟩
abbrev i_NoSize : Stmt := inClass (top 4) 0
theorem si_NoSize : FnScope ["self", "size"] ["self", "size"] (defScope i_NoSize) := ⟨rfl, rfl, rfl, by decide +kernel, rfl, by decide +kernel, by decide +kernel⟩
theorem I_NoSize {P : Program} {w : World} {K : PySem.W.Frag} {mg : Str → Option Value} {base : Heap} {C : Addr} (S : ExcS K C) (n0 : NoAttr K C "size") : InitOk P w K mg base CX0 "NoSize.__init__" i_NoSize ["self", "size"] (spI1 C "size") := fun f fd F => by
  refine ⟨F.ok si_NoSize (fun vs H Q E h => ?_) (fun cdv A outer s H vs Q E hr h => ?_), F.binds (fun _ _ _ _ _ _ us hl => match us, hl with | [_, _], _ => rfl)⟩
  · obtain ⟨x, v, rfl, _⟩ := h
    rfl
  · obtain ⟨x, v, rfl, ho, k⟩ := h
    refine ⟨_, pss_one (ps_exc (pv 0) (pv 1)), ?_⟩
    exact ⟨_, rfl, _, rfl, x, C, rfl, S, n0.taker, .inl ⟨ho, k⟩⟩
abbrev i_NoPlace : Stmt := inClass (top 5) 0
theorem si_NoPlace : FnScope ["self", "at"] ["self", "at"] (defScope i_NoPlace) := ⟨rfl, rfl, rfl, by decide +kernel, rfl, by decide +kernel, by decide +kernel⟩
theorem I_NoPlace {P : Program} {w : World} {K : PySem.W.Frag} {mg : Str → Option Value} {base : Heap} {C : Addr} (S : ExcS K C) (n0 : NoAttr K C "at") : InitOk P w K mg base CX0 "NoPlace.__init__" i_NoPlace ["self", "at"] (spI1 C "at") := fun f fd F => by
  refine ⟨F.ok si_NoPlace (fun vs H Q E h => ?_) (fun cdv A outer s H vs Q E hr h => ?_), F.binds (fun _ _ _ _ _ _ us hl => match us, hl with | [_, _], _ => rfl)⟩
  · obtain ⟨x, v, rfl, _⟩ := h
    rfl
  · obtain ⟨x, v, rfl, ho, k⟩ := h
    refine ⟨_, pss_one (ps_exc (pv 0) (pv 1)), ?_⟩
    exact ⟨_, rfl, _, rfl, x, C, rfl, S, n0.taker, .inl ⟨ho, k⟩⟩
abbrev i_NoValue : Stmt := inClass (top 6) 0
theorem si_NoValue : FnScope ["self", "value"] ["self", "value"] (defScope i_NoValue) := ⟨rfl, rfl, rfl, by decide +kernel, rfl, by decide +kernel, by decide +kernel⟩
theorem I_NoValue {P : Program} {w : World} {K : PySem.W.Frag} {mg : Str → Option Value} {base : Heap} {C : Addr} (S : ExcS K C) (n0 : NoAttr K C "value") : InitOk P w K mg base CX0 "NoValue.__init__" i_NoValue ["self", "value"] (spI1 C "value") := fun f fd F => by
  refine ⟨F.ok si_NoValue (fun vs H Q E h => ?_) (fun cdv A outer s H vs Q E hr h => ?_), F.binds (fun _ _ _ _ _ _ us hl => match us, hl with | [_, _], _ => rfl)⟩
  · obtain ⟨x, v, rfl, _⟩ := h
    rfl
  · obtain ⟨x, v, rfl, ho, k⟩ := h
    refine ⟨_, pss_one (ps_exc (pv 0) (pv 1)), ?_⟩
    exact ⟨_, rfl, _, rfl, x, C, rfl, S, n0.taker, .inl ⟨ho, k⟩⟩
abbrev i_NoRow : Stmt := inClass (top 7) 0
theorem si_NoRow : FnScope ["self", "row"] ["self", "row"] (defScope i_NoRow) := ⟨rfl, rfl, rfl, by decide +kernel, rfl, by decide +kernel, by decide +kernel⟩
theorem I_NoRow {P : Program} {w : World} {K : PySem.W.Frag} {mg : Str → Option Value} {base : Heap} {C : Addr} (S : ExcS K C) (n0 : NoAttr K C "row") : InitOk P w K mg base CX0 "NoRow.__init__" i_NoRow ["self", "row"] (spI1 C "row") := fun f fd F => by
  refine ⟨F.ok si_NoRow (fun vs H Q E h => ?_) (fun cdv A outer s H vs Q E hr h => ?_), F.binds (fun _ _ _ _ _ _ us hl => match us, hl with | [_, _], _ => rfl)⟩
  · obtain ⟨x, v, rfl, _⟩ := h
    rfl
  · obtain ⟨x, v, rfl, ho, k⟩ := h
    refine ⟨_, pss_one (ps_exc (pv 0) (pv 1)), ?_⟩
    exact ⟨_, rfl, _, rfl, x, C, rfl, S, n0.taker, .inl ⟨ho, k⟩⟩
abbrev i_Twice : Stmt := inClass (top 8) 0
theorem si_Twice : FnScope ["self", "name"] ["self", "name"] (defScope i_Twice) := ⟨rfl, rfl, rfl, by decide +kernel, rfl, by decide +kernel, by decide +kernel⟩
theorem I_Twice {P : Program} {w : World} {K : PySem.W.Frag} {mg : Str → Option Value} {base : Heap} {C : Addr} (S : ExcS K C) (n0 : NoAttr K C "name") : InitOk P w K mg base CX0 "Twice.__init__" i_Twice ["self", "name"] (spI1 C "name") := fun f fd F => by
  refine ⟨F.ok si_Twice (fun vs H Q E h => ?_) (fun cdv A outer s H vs Q E hr h => ?_), F.binds (fun _ _ _ _ _ _ us hl => match us, hl with | [_, _], _ => rfl)⟩
  · obtain ⟨x, v, rfl, _⟩ := h
    rfl
  · obtain ⟨x, v, rfl, ho, k⟩ := h
    refine ⟨_, pss_one (ps_exc (pv 0) (pv 1)), ?_⟩
    exact ⟨_, rfl, _, rfl, x, C, rfl, S, n0.taker, .inl ⟨ho, k⟩⟩
abbrev i_Outside : Stmt := inClass (top 9) 0
theorem si_Outside : FnScope ["self", "name"] ["self", "name"] (defScope i_Outside) := ⟨rfl, rfl, rfl, by decide +kernel, rfl, by decide +kernel, by decide +kernel⟩
theorem I_Outside {P : Program} {w : World} {K : PySem.W.Frag} {mg : Str → Option Value} {base : Heap} {C : Addr} (S : ExcS K C) (n0 : NoAttr K C "name") : InitOk P w K mg base CX0 "Outside.__init__" i_Outside ["self", "name"] (spI1 C "name") := fun f fd F => by
  refine ⟨F.ok si_Outside (fun vs H Q E h => ?_) (fun cdv A outer s H vs Q E hr h => ?_), F.binds (fun _ _ _ _ _ _ us hl => match us, hl with | [_, _], _ => rfl)⟩
  · obtain ⟨x, v, rfl, _⟩ := h
    rfl
  · obtain ⟨x, v, rfl, ho, k⟩ := h
    refine ⟨_, pss_one (ps_exc (pv 0) (pv 1)), ?_⟩
    exact ⟨_, rfl, _, rfl, x, C, rfl, S, n0.taker, .inl ⟨ho, k⟩⟩
abbrev i_Overlap : Stmt := inClass (top 10) 0
theorem si_Overlap : FnScope ["self", "name", "other"] ["self", "name", "other"] (defScope i_Overlap) := ⟨rfl, rfl, rfl, by decide +kernel, rfl, by decide +kernel, by decide +kernel⟩
theorem I_Overlap {P : Program} {w : World} {K : PySem.W.Frag} {mg : Str → Option Value} {base : Heap} {C : Addr} (S : ExcS K C) (n0 : NoAttr K C "name") (n1 : NoAttr K C "other") : InitOk P w K mg base CX0 "Overlap.__init__" i_Overlap ["self", "name", "other"] (spI2 C "name" "other") := fun f fd F => by
  refine ⟨F.ok si_Overlap (fun vs H Q E h => ?_) (fun cdv A outer s H vs Q E hr h => ?_), F.binds (fun _ _ _ _ _ _ us hl => match us, hl with | [_, _, _], _ => rfl)⟩
  · obtain ⟨x, v, y, rfl, _⟩ := h
    rfl
  · obtain ⟨x, v, y, rfl, ho, k⟩ := h
    refine ⟨_, pss_cons (ps_exc (pv 0) (pv 1)) (pss_one (ps_exc (pv 0) (pv 2))), ?_⟩
    refine ⟨_, rfl, _, rfl, x, C, rfl, S, n0.taker, .inl ⟨ho, fun dx hd => ?_⟩⟩
    have hzx : dx ≠ x := fun q => by rw [q, ho] at hd; cases hd
    exact ⟨_, rfl, _, rfl, x, C, rfl, S, n1.taker, .inr ⟨dx, _, upd_same, by rw [upd_ne hzx, upd_same], hzx, by simp, k dx hd⟩⟩
abbrev i_TooMany : Stmt := inClass (top 11) 0
theorem si_TooMany : FnScope ["self", "many"] ["self", "many"] (defScope i_TooMany) := ⟨rfl, rfl, rfl, by decide +kernel, rfl, by decide +kernel, by decide +kernel⟩
theorem I_TooMany {P : Program} {w : World} {K : PySem.W.Frag} {mg : Str → Option Value} {base : Heap} {C : Addr} (S : ExcS K C) (n0 : NoAttr K C "many") : InitOk P w K mg base CX0 "TooMany.__init__" i_TooMany ["self", "many"] (spI1 C "many") := fun f fd F => by
  refine ⟨F.ok si_TooMany (fun vs H Q E h => ?_) (fun cdv A outer s H vs Q E hr h => ?_), F.binds (fun _ _ _ _ _ _ us hl => match us, hl with | [_, _], _ => rfl)⟩
  · obtain ⟨x, v, rfl, _⟩ := h
    rfl
  · obtain ⟨x, v, rfl, ho, k⟩ := h
    refine ⟨_, pss_one (ps_exc (pv 0) (pv 1)), ?_⟩
    exact ⟨_, rfl, _, rfl, x, C, rfl, S, n0.taker, .inl ⟨ho, k⟩⟩
abbrev i_NoBlock : Stmt := inClass (top 12) 0
theorem si_NoBlock : FnScope ["self", "name"] ["self", "name"] (defScope i_NoBlock) := ⟨rfl, rfl, rfl, by decide +kernel, rfl, by decide +kernel, by decide +kernel⟩
theorem I_NoBlock {P : Program} {w : World} {K : PySem.W.Frag} {mg : Str → Option Value} {base : Heap} {C : Addr} (S : ExcS K C) (n0 : NoAttr K C "name") : InitOk P w K mg base CX0 "NoBlock.__init__" i_NoBlock ["self", "name"] (spI1 C "name") := fun f fd F => by
  refine ⟨F.ok si_NoBlock (fun vs H Q E h => ?_) (fun cdv A outer s H vs Q E hr h => ?_), F.binds (fun _ _ _ _ _ _ us hl => match us, hl with | [_, _], _ => rfl)⟩
  · obtain ⟨x, v, rfl, _⟩ := h
    rfl
  · obtain ⟨x, v, rfl, ho, k⟩ := h
    refine ⟨_, pss_one (ps_exc (pv 0) (pv 1)), ?_⟩
    exact ⟨_, rfl, _, rfl, x, C, rfl, S, n0.taker, .inl ⟨ho, k⟩⟩
abbrev i_NoText : Stmt := inClass (top 13) 0
theorem si_NoText : FnScope ["self", "row"] ["self", "row"] (defScope i_NoText) := ⟨rfl, rfl, rfl, by decide +kernel, rfl, by decide +kernel, by decide +kernel⟩
theorem I_NoText {P : Program} {w : World} {K : PySem.W.Frag} {mg : Str → Option Value} {base : Heap} {C : Addr} (S : ExcS K C) (n0 : NoAttr K C "row") : InitOk P w K mg base CX0 "NoText.__init__" i_NoText ["self", "row"] (spI1 C "row") := fun f fd F => by
  refine ⟨F.ok si_NoText (fun vs H Q E h => ?_) (fun cdv A outer s H vs Q E hr h => ?_), F.binds (fun _ _ _ _ _ _ us hl => match us, hl with | [_, _], _ => rfl)⟩
  · obtain ⟨x, v, rfl, _⟩ := h
    rfl
  · obtain ⟨x, v, rfl, ho, k⟩ := h
    refine ⟨_, pss_one (ps_exc (pv 0) (pv 1)), ?_⟩
    exact ⟨_, rfl, _, rfl, x, C, rfl, S, n0.taker, .inl ⟨ho, k⟩⟩
abbrev i_NotFree : Stmt := inClass (top 14) 0
theorem si_NotFree : FnScope ["self", "start", "size"] ["self", "start", "size"] (defScope i_NotFree) := ⟨rfl, rfl, rfl, by decide +kernel, rfl, by decide +kernel, by decide +kernel⟩
theorem I_NotFree {P : Program} {w : World} {K : PySem.W.Frag} {mg : Str → Option Value} {base : Heap} {C : Addr} (S : ExcS K C) (n0 : NoAttr K C "start") (n1 : NoAttr K C "size") : InitOk P w K mg base CX0 "NotFree.__init__" i_NotFree ["self", "start", "size"] (spI2 C "start" "size") := fun f fd F => by
  refine ⟨F.ok si_NotFree (fun vs H Q E h => ?_) (fun cdv A outer s H vs Q E hr h => ?_), F.binds (fun _ _ _ _ _ _ us hl => match us, hl with | [_, _, _], _ => rfl)⟩
  · obtain ⟨x, v, y, rfl, _⟩ := h
    rfl
  · obtain ⟨x, v, y, rfl, ho, k⟩ := h
    refine ⟨_, pss_cons (ps_exc (pv 0) (pv 1)) (pss_one (ps_exc (pv 0) (pv 2))), ?_⟩
    refine ⟨_, rfl, _, rfl, x, C, rfl, S, n0.taker, .inl ⟨ho, fun dx hd => ?_⟩⟩
    have hzx : dx ≠ x := fun q => by rw [q, ho] at hd; cases hd
    exact ⟨_, rfl, _, rfl, x, C, rfl, S, n1.taker, .inr ⟨dx, _, upd_same, by rw [upd_ne hzx, upd_same], hzx, by simp, k dx hd⟩⟩
abbrev i_NotTaken : Stmt := inClass (top 15) 0
theorem si_NotTaken : FnScope ["self", "start", "size"] ["self", "start", "size"] (defScope i_NotTaken) := ⟨rfl, rfl, rfl, by decide +kernel, rfl, by decide +kernel, by decide +kernel⟩
theorem I_NotTaken {P : Program} {w : World} {K : PySem.W.Frag} {mg : Str → Option Value} {base : Heap} {C : Addr} (S : ExcS K C) (n0 : NoAttr K C "start") (n1 : NoAttr K C "size") : InitOk P w K mg base CX0 "NotTaken.__init__" i_NotTaken ["self", "start", "size"] (spI2 C "start" "size") := fun f fd F => by
  refine ⟨F.ok si_NotTaken (fun vs H Q E h => ?_) (fun cdv A outer s H vs Q E hr h => ?_), F.binds (fun _ _ _ _ _ _ us hl => match us, hl with | [_, _, _], _ => rfl)⟩
  · obtain ⟨x, v, y, rfl, _⟩ := h
    rfl
  · obtain ⟨x, v, y, rfl, ho, k⟩ := h
    refine ⟨_, pss_cons (ps_exc (pv 0) (pv 1)) (pss_one (ps_exc (pv 0) (pv 2))), ?_⟩
    refine ⟨_, rfl, _, rfl, x, C, rfl, S, n0.taker, .inl ⟨ho, fun dx hd => ?_⟩⟩
    have hzx : dx ≠ x := fun q => by rw [q, ho] at hd; cases hd
    exact ⟨_, rfl, _, rfl, x, C, rfl, S, n1.taker, .inr ⟨dx, _, upd_same, by rw [upd_ne hzx, upd_same], hzx, by simp, k dx hd⟩⟩
abbrev i_NoHole : Stmt := inClass (top 16) 0
theorem si_NoHole : FnScope ["self", "size", "largest"] ["self", "size", "largest"] (defScope i_NoHole) := ⟨rfl, rfl, rfl, by decide +kernel, rfl, by decide +kernel, by decide +kernel⟩
theorem I_NoHole {P : Program} {w : World} {K : PySem.W.Frag} {mg : Str → Option Value} {base : Heap} {C : Addr} (S : ExcS K C) (n0 : NoAttr K C "size") (n1 : NoAttr K C "largest") : InitOk P w K mg base CX0 "NoHole.__init__" i_NoHole ["self", "size", "largest"] (spI2 C "size" "largest") := fun f fd F => by
  refine ⟨F.ok si_NoHole (fun vs H Q E h => ?_) (fun cdv A outer s H vs Q E hr h => ?_), F.binds (fun _ _ _ _ _ _ us hl => match us, hl with | [_, _, _], _ => rfl)⟩
  · obtain ⟨x, v, y, rfl, _⟩ := h
    rfl
  · obtain ⟨x, v, y, rfl, ho, k⟩ := h
    refine ⟨_, pss_cons (ps_exc (pv 0) (pv 1)) (pss_one (ps_exc (pv 0) (pv 2))), ?_⟩
    refine ⟨_, rfl, _, rfl, x, C, rfl, S, n0.taker, .inl ⟨ho, fun dx hd => ?_⟩⟩
    have hzx : dx ≠ x := fun q => by rw [q, ho] at hd; cases hd
    exact ⟨_, rfl, _, rfl, x, C, rfl, S, n1.taker, .inr ⟨dx, _, upd_same, by rw [upd_ne hzx, upd_same], hzx, by simp, k dx hd⟩⟩
abbrev i_NoRule : Stmt := inClass (top 17) 0
theorem si_NoRule : FnScope ["self", "word"] ["self", "word"] (defScope i_NoRule) := ⟨rfl, rfl, rfl, by decide +kernel, rfl, by decide +kernel, by decide +kernel⟩
theorem I_NoRule {P : Program} {w : World} {K : PySem.W.Frag} {mg : Str → Option Value} {base : Heap} {C : Addr} (S : ExcS K C) (n0 : NoAttr K C "word") : InitOk P w K mg base CX0 "NoRule.__init__" i_NoRule ["self", "word"] (spI1 C "word") := fun f fd F => by
  refine ⟨F.ok si_NoRule (fun vs H Q E h => ?_) (fun cdv A outer s H vs Q E hr h => ?_), F.binds (fun _ _ _ _ _ _ us hl => match us, hl with | [_, _], _ => rfl)⟩
  · obtain ⟨x, v, rfl, _⟩ := h
    rfl
  · obtain ⟨x, v, rfl, ho, k⟩ := h
    refine ⟨_, pss_one (ps_exc (pv 0) (pv 1)), ?_⟩
    exact ⟨_, rfl, _, rfl, x, C, rfl, S, n0.taker, .inl ⟨ho, k⟩⟩
abbrev i_Pinned : Stmt := inClass (top 18) 0
theorem si_Pinned : FnScope ["self", "name", "pins"] ["self", "name", "pins"] (defScope i_Pinned) := ⟨rfl, rfl, rfl, by decide +kernel, rfl, by decide +kernel, by decide +kernel⟩
theorem I_Pinned {P : Program} {w : World} {K : PySem.W.Frag} {mg : Str → Option Value} {base : Heap} {C : Addr} (S : ExcS K C) (n0 : NoAttr K C "name") (n1 : NoAttr K C "pins") : InitOk P w K mg base CX0 "Pinned.__init__" i_Pinned ["self", "name", "pins"] (spI2 C "name" "pins") := fun f fd F => by
  refine ⟨F.ok si_Pinned (fun vs H Q E h => ?_) (fun cdv A outer s H vs Q E hr h => ?_), F.binds (fun _ _ _ _ _ _ us hl => match us, hl with | [_, _, _], _ => rfl)⟩
  · obtain ⟨x, v, y, rfl, _⟩ := h
    rfl
  · obtain ⟨x, v, y, rfl, ho, k⟩ := h
    refine ⟨_, pss_cons (ps_exc (pv 0) (pv 1)) (pss_one (ps_exc (pv 0) (pv 2))), ?_⟩
    refine ⟨_, rfl, _, rfl, x, C, rfl, S, n0.taker, .inl ⟨ho, fun dx hd => ?_⟩⟩
    have hzx : dx ≠ x := fun q => by rw [q, ho] at hd; cases hd
    exact ⟨_, rfl, _, rfl, x, C, rfl, S, n1.taker, .inr ⟨dx, _, upd_same, by rw [upd_ne hzx, upd_same], hzx, by simp, k dx hd⟩⟩
abbrev i_NotPinned : Stmt := inClass (top 19) 0
theorem si_NotPinned : FnScope ["self", "name"] ["self", "name"] (defScope i_NotPinned) := ⟨rfl, rfl, rfl, by decide +kernel, rfl, by decide +kernel, by decide +kernel⟩
theorem I_NotPinned {P : Program} {w : World} {K : PySem.W.Frag} {mg : Str → Option Value} {base : Heap} {C : Addr} (S : ExcS K C) (n0 : NoAttr K C "name") : InitOk P w K mg base CX0 "NotPinned.__init__" i_NotPinned ["self", "name"] (spI1 C "name") := fun f fd F => by
  refine ⟨F.ok si_NotPinned (fun vs H Q E h => ?_) (fun cdv A outer s H vs Q E hr h => ?_), F.binds (fun _ _ _ _ _ _ us hl => match us, hl with | [_, _], _ => rfl)⟩
  · obtain ⟨x, v, rfl, _⟩ := h
    rfl
  · obtain ⟨x, v, rfl, ho, k⟩ := h
    refine ⟨_, pss_one (ps_exc (pv 0) (pv 1)), ?_⟩
    exact ⟨_, rfl, _, rfl, x, C, rfl, S, n0.taker, .inl ⟨ho, k⟩⟩
abbrev i_Gone : Stmt := inClass (top 20) 0
theorem si_Gone : FnScope ["self", "name"] ["self", "name"] (defScope i_Gone) := ⟨rfl, rfl, rfl, by decide +kernel, rfl, by decide +kernel, by decide +kernel⟩
theorem I_Gone {P : Program} {w : World} {K : PySem.W.Frag} {mg : Str → Option Value} {base : Heap} {C : Addr} (S : ExcS K C) (n0 : NoAttr K C "name") : InitOk P w K mg base CX0 "Gone.__init__" i_Gone ["self", "name"] (spI1 C "name") := fun f fd F => by
  refine ⟨F.ok si_Gone (fun vs H Q E h => ?_) (fun cdv A outer s H vs Q E hr h => ?_), F.binds (fun _ _ _ _ _ _ us hl => match us, hl with | [_, _], _ => rfl)⟩
  · obtain ⟨x, v, rfl, _⟩ := h
    rfl
  · obtain ⟨x, v, rfl, ho, k⟩ := h
    refine ⟨_, pss_one (ps_exc (pv 0) (pv 1)), ?_⟩
    exact ⟨_, rfl, _, rfl, x, C, rfl, S, n0.taker, .inl ⟨ho, k⟩⟩
abbrev i_NoMoves : Stmt := inClass (top 21) 0
theorem si_NoMoves : FnScope ["self", "moves"] ["self", "moves"] (defScope i_NoMoves) := ⟨rfl, rfl, rfl, by decide +kernel, rfl, by decide +kernel, by decide +kernel⟩
theorem I_NoMoves {P : Program} {w : World} {K : PySem.W.Frag} {mg : Str → Option Value} {base : Heap} {C : Addr} (S : ExcS K C) (n0 : NoAttr K C "moves") : InitOk P w K mg base CX0 "NoMoves.__init__" i_NoMoves ["self", "moves"] (spI1 C "moves") := fun f fd F => by
  refine ⟨F.ok si_NoMoves (fun vs H Q E h => ?_) (fun cdv A outer s H vs Q E hr h => ?_), F.binds (fun _ _ _ _ _ _ us hl => match us, hl with | [_, _], _ => rfl)⟩
  · obtain ⟨x, v, rfl, _⟩ := h
    rfl
  · obtain ⟨x, v, rfl, ho, k⟩ := h
    refine ⟨_, pss_one (ps_exc (pv 0) (pv 1)), ?_⟩
    exact ⟨_, rfl, _, rfl, x, C, rfl, S, n0.taker, .inl ⟨ho, k⟩⟩
abbrev i_NoSlide : Stmt := inClass (top 22) 0
theorem si_NoSlide : FnScope ["self", "name", "to"] ["self", "name", "to"] (defScope i_NoSlide) := ⟨rfl, rfl, rfl, by decide +kernel, rfl, by decide +kernel, by decide +kernel⟩
theorem I_NoSlide {P : Program} {w : World} {K : PySem.W.Frag} {mg : Str → Option Value} {base : Heap} {C : Addr} (S : ExcS K C) (n0 : NoAttr K C "name") (n1 : NoAttr K C "to") : InitOk P w K mg base CX0 "NoSlide.__init__" i_NoSlide ["self", "name", "to"] (spI2 C "name" "to") := fun f fd F => by
  refine ⟨F.ok si_NoSlide (fun vs H Q E h => ?_) (fun cdv A outer s H vs Q E hr h => ?_), F.binds (fun _ _ _ _ _ _ us hl => match us, hl with | [_, _, _], _ => rfl)⟩
  · obtain ⟨x, v, y, rfl, _⟩ := h
    rfl
  · obtain ⟨x, v, y, rfl, ho, k⟩ := h
    refine ⟨_, pss_cons (ps_exc (pv 0) (pv 1)) (pss_one (ps_exc (pv 0) (pv 2))), ?_⟩
    refine ⟨_, rfl, _, rfl, x, C, rfl, S, n0.taker, .inl ⟨ho, fun dx hd => ?_⟩⟩
    have hzx : dx ≠ x := fun q => by rw [q, ho] at hd; cases hd
    exact ⟨_, rfl, _, rfl, x, C, rfl, S, n1.taker, .inr ⟨dx, _, upd_same, by rw [upd_ne hzx, upd_same], hzx, by simp, k dx hd⟩⟩
abbrev i_Sliding : Stmt := inClass (top 23) 0
theorem si_Sliding : FnScope ["self", "copied"] ["self", "copied"] (defScope i_Sliding) := ⟨rfl, rfl, rfl, by decide +kernel, rfl, by decide +kernel, by decide +kernel⟩
theorem I_Sliding {P : Program} {w : World} {K : PySem.W.Frag} {mg : Str → Option Value} {base : Heap} {C : Addr} (S : ExcS K C) (n0 : NoAttr K C "copied") : InitOk P w K mg base CX0 "Sliding.__init__" i_Sliding ["self", "copied"] (spI1 C "copied") := fun f fd F => by
  refine ⟨F.ok si_Sliding (fun vs H Q E h => ?_) (fun cdv A outer s H vs Q E hr h => ?_), F.binds (fun _ _ _ _ _ _ us hl => match us, hl with | [_, _], _ => rfl)⟩
  · obtain ⟨x, v, rfl, _⟩ := h
    rfl
  · obtain ⟨x, v, rfl, ho, k⟩ := h
    refine ⟨_, pss_one (ps_exc (pv 0) (pv 1)), ?_⟩
    exact ⟨_, rfl, _, rfl, x, C, rfl, S, n0.taker, .inl ⟨ho, k⟩⟩
abbrev i_Fixed : Stmt := inClass (top 25) 0
theorem si_Fixed : FnScope ["self", "word"] ["self", "word"] (defScope i_Fixed) := ⟨rfl, rfl, rfl, by decide +kernel, rfl, by decide +kernel, by decide +kernel⟩
theorem I_Fixed {P : Program} {w : World} {K : PySem.W.Frag} {mg : Str → Option Value} {base : Heap} {C : Addr} (S : ExcS K C) (n0 : NoAttr K C "word") : InitOk P w K mg base CX0 "Fixed.__init__" i_Fixed ["self", "word"] (spI1 C "word") := fun f fd F => by
  refine ⟨F.ok si_Fixed (fun vs H Q E h => ?_) (fun cdv A outer s H vs Q E hr h => ?_), F.binds (fun _ _ _ _ _ _ us hl => match us, hl with | [_, _], _ => rfl)⟩
  · obtain ⟨x, v, rfl, _⟩ := h
    rfl
  · obtain ⟨x, v, rfl, ho, k⟩ := h
    refine ⟨_, pss_one (ps_exc (pv 0) (pv 1)), ?_⟩
    exact ⟨_, rfl, _, rfl, x, C, rfl, S, n0.taker, .inl ⟨ho, k⟩⟩
abbrev i_NoRoom : Stmt := inClass (top 26) 0
theorem si_NoRoom : FnScope ["self", "size", "stretches"] ["self", "size", "stretches"] (defScope i_NoRoom) := ⟨rfl, rfl, rfl, by decide +kernel, rfl, by decide +kernel, by decide +kernel⟩
theorem I_NoRoom {P : Program} {w : World} {K : PySem.W.Frag} {mg : Str → Option Value} {base : Heap} {C : Addr} (S : ExcS K C) (n0 : NoAttr K C "size") (n1 : NoAttr K C "stretches") : InitOk P w K mg base CX0 "NoRoom.__init__" i_NoRoom ["self", "size", "stretches"] (spI2 C "size" "stretches") := fun f fd F => by
  refine ⟨F.ok si_NoRoom (fun vs H Q E h => ?_) (fun cdv A outer s H vs Q E hr h => ?_), F.binds (fun _ _ _ _ _ _ us hl => match us, hl with | [_, _, _], _ => rfl)⟩
  · obtain ⟨x, v, y, rfl, _⟩ := h
    rfl
  · obtain ⟨x, v, y, rfl, ho, k⟩ := h
    refine ⟨_, pss_cons (ps_exc (pv 0) (pv 1)) (pss_one (ps_exc (pv 0) (pv 2))), ?_⟩
    refine ⟨_, rfl, _, rfl, x, C, rfl, S, n0.taker, .inl ⟨ho, fun dx hd => ?_⟩⟩
    have hzx : dx ≠ x := fun q => by rw [q, ho] at hd; cases hd
    exact ⟨_, rfl, _, rfl, x, C, rfl, S, n1.taker, .inr ⟨dx, _, upd_same, by rw [upd_ne hzx, upd_same], hzx, by simp, k dx hd⟩⟩
abbrev i_NoWay : Stmt := inClass (top 27) 0
theorem si_NoWay : FnScope ["self", "way"] ["self", "way"] (defScope i_NoWay) := ⟨rfl, rfl, rfl, by decide +kernel, rfl, by decide +kernel, by decide +kernel⟩
theorem I_NoWay {P : Program} {w : World} {K : PySem.W.Frag} {mg : Str → Option Value} {base : Heap} {C : Addr} (S : ExcS K C) (n0 : NoAttr K C "way") : InitOk P w K mg base CX0 "NoWay.__init__" i_NoWay ["self", "way"] (spI1 C "way") := fun f fd F => by
  refine ⟨F.ok si_NoWay (fun vs H Q E h => ?_) (fun cdv A outer s H vs Q E hr h => ?_), F.binds (fun _ _ _ _ _ _ us hl => match us, hl with | [_, _], _ => rfl)⟩
  · obtain ⟨x, v, rfl, _⟩ := h
    rfl
  · obtain ⟨x, v, rfl, ho, k⟩ := h
    refine ⟨_, pss_one (ps_exc (pv 0) (pv 1)), ?_⟩
    exact ⟨_, rfl, _, rfl, x, C, rfl, S, n0.taker, .inl ⟨ho, k⟩⟩
abbrev i_NoAsks : Stmt := inClass (top 28) 0
theorem si_NoAsks : FnScope ["self", "at"] ["self", "at"] (defScope i_NoAsks) := ⟨rfl, rfl, rfl, by decide +kernel, rfl, by decide +kernel, by decide +kernel⟩
theorem I_NoAsks {P : Program} {w : World} {K : PySem.W.Frag} {mg : Str → Option Value} {base : Heap} {C : Addr} (S : ExcS K C) (n0 : NoAttr K C "at") : InitOk P w K mg base CX0 "NoAsks.__init__" i_NoAsks ["self", "at"] (spI1 C "at") := fun f fd F => by
  refine ⟨F.ok si_NoAsks (fun vs H Q E h => ?_) (fun cdv A outer s H vs Q E hr h => ?_), F.binds (fun _ _ _ _ _ _ us hl => match us, hl with | [_, _], _ => rfl)⟩
  · obtain ⟨x, v, rfl, _⟩ := h
    rfl
  · obtain ⟨x, v, rfl, ho, k⟩ := h
    refine ⟨_, pss_one (ps_exc (pv 0) (pv 1)), ?_⟩
    exact ⟨_, rfl, _, rfl, x, C, rfl, S, n0.taker, .inl ⟨ho, k⟩⟩
abbrev i_NoLine : Stmt := inClass (top 29) 0
theorem si_NoLine : FnScope ["self", "line"] ["self", "line"] (defScope i_NoLine) := ⟨rfl, rfl, rfl, by decide +kernel, rfl, by decide +kernel, by decide +kernel⟩
theorem I_NoLine {P : Program} {w : World} {K : PySem.W.Frag} {mg : Str → Option Value} {base : Heap} {C : Addr} (S : ExcS K C) (n0 : NoAttr K C "line") : InitOk P w K mg base CX0 "NoLine.__init__" i_NoLine ["self", "line"] (spI1 C "line") := fun f fd F => by
  refine ⟨F.ok si_NoLine (fun vs H Q E h => ?_) (fun cdv A outer s H vs Q E hr h => ?_), F.binds (fun _ _ _ _ _ _ us hl => match us, hl with | [_, _], _ => rfl)⟩
  · obtain ⟨x, v, rfl, _⟩ := h
    rfl
  · obtain ⟨x, v, rfl, ho, k⟩ := h
    refine ⟨_, pss_one (ps_exc (pv 0) (pv 1)), ?_⟩
    exact ⟨_, rfl, _, rfl, x, C, rfl, S, n0.taker, .inl ⟨ho, k⟩⟩
structure Txt (K : PySem.W.Frag) (mg : Str → Option Value) (c : Nat → Addr) (R : Addr) : Prop where
  e_NoMany : HasExc K mg "NoMany" "NoMany.__init__" i_NoMany (c 0) R
  a_NoMany_many : NoAttr K (c 0) "many"
  e_NoName : HasExc K mg "NoName" "NoName.__init__" i_NoName (c 1) R
  a_NoName_name : NoAttr K (c 1) "name"
  e_NoSize : HasExc K mg "NoSize" "NoSize.__init__" i_NoSize (c 2) R
  a_NoSize_size : NoAttr K (c 2) "size"
  e_NoPlace : HasExc K mg "NoPlace" "NoPlace.__init__" i_NoPlace (c 3) R
  a_NoPlace_at : NoAttr K (c 3) "at"
  e_NoValue : HasExc K mg "NoValue" "NoValue.__init__" i_NoValue (c 4) R
  a_NoValue_value : NoAttr K (c 4) "value"
  e_NoRow : HasExc K mg "NoRow" "NoRow.__init__" i_NoRow (c 5) R
  a_NoRow_row : NoAttr K (c 5) "row"
  e_Twice : HasExc K mg "Twice" "Twice.__init__" i_Twice (c 6) R
  a_Twice_name : NoAttr K (c 6) "name"
  e_Outside : HasExc K mg "Outside" "Outside.__init__" i_Outside (c 7) R
  a_Outside_name : NoAttr K (c 7) "name"
  e_Overlap : HasExc K mg "Overlap" "Overlap.__init__" i_Overlap (c 8) R
  a_Overlap_name : NoAttr K (c 8) "name"
  a_Overlap_other : NoAttr K (c 8) "other"
  e_TooMany : HasExc K mg "TooMany" "TooMany.__init__" i_TooMany (c 9) R
  a_TooMany_many : NoAttr K (c 9) "many"
  e_NoBlock : HasExc K mg "NoBlock" "NoBlock.__init__" i_NoBlock (c 10) R
  a_NoBlock_name : NoAttr K (c 10) "name"
  e_NoText : HasExc K mg "NoText" "NoText.__init__" i_NoText (c 11) R
  a_NoText_row : NoAttr K (c 11) "row"
  e_NotFree : HasExc K mg "NotFree" "NotFree.__init__" i_NotFree (c 12) R
  a_NotFree_start : NoAttr K (c 12) "start"
  a_NotFree_size : NoAttr K (c 12) "size"
  e_NotTaken : HasExc K mg "NotTaken" "NotTaken.__init__" i_NotTaken (c 13) R
  a_NotTaken_start : NoAttr K (c 13) "start"
  a_NotTaken_size : NoAttr K (c 13) "size"
  e_NoHole : HasExc K mg "NoHole" "NoHole.__init__" i_NoHole (c 14) R
  a_NoHole_size : NoAttr K (c 14) "size"
  a_NoHole_largest : NoAttr K (c 14) "largest"
  e_NoRule : HasExc K mg "NoRule" "NoRule.__init__" i_NoRule (c 15) R
  a_NoRule_word : NoAttr K (c 15) "word"
  e_Pinned : HasExc K mg "Pinned" "Pinned.__init__" i_Pinned (c 16) R
  a_Pinned_name : NoAttr K (c 16) "name"
  a_Pinned_pins : NoAttr K (c 16) "pins"
  e_NotPinned : HasExc K mg "NotPinned" "NotPinned.__init__" i_NotPinned (c 17) R
  a_NotPinned_name : NoAttr K (c 17) "name"
  e_Gone : HasExc K mg "Gone" "Gone.__init__" i_Gone (c 18) R
  a_Gone_name : NoAttr K (c 18) "name"
  e_NoMoves : HasExc K mg "NoMoves" "NoMoves.__init__" i_NoMoves (c 19) R
  a_NoMoves_moves : NoAttr K (c 19) "moves"
  e_NoSlide : HasExc K mg "NoSlide" "NoSlide.__init__" i_NoSlide (c 20) R
  a_NoSlide_name : NoAttr K (c 20) "name"
  a_NoSlide_to : NoAttr K (c 20) "to"
  e_Sliding : HasExc K mg "Sliding" "Sliding.__init__" i_Sliding (c 21) R
  a_Sliding_copied : NoAttr K (c 21) "copied"
  e_NotSliding : HasExc0 K mg "NotSliding" (c 22) R
  e_Fixed : HasExc K mg "Fixed" "Fixed.__init__" i_Fixed (c 23) R
  a_Fixed_word : NoAttr K (c 23) "word"
  e_NoRoom : HasExc K mg "NoRoom" "NoRoom.__init__" i_NoRoom (c 24) R
  a_NoRoom_size : NoAttr K (c 24) "size"
  a_NoRoom_stretches : NoAttr K (c 24) "stretches"
  e_NoWay : HasExc K mg "NoWay" "NoWay.__init__" i_NoWay (c 25) R
  a_NoWay_way : NoAttr K (c 25) "way"
  e_NoAsks : HasExc K mg "NoAsks" "NoAsks.__init__" i_NoAsks (c 26) R
  a_NoAsks_at : NoAttr K (c 26) "at"
  e_NoLine : HasExc K mg "NoLine" "NoLine.__init__" i_NoLine (c 27) R
  a_NoLine_line : NoAttr K (c 27) "line"
  d_first : HasDef K mg "_law_first" s_first
  d_second : HasDef K mg "_law_second" s_second
  d_right : HasDef K mg "_law_right" s_right
  d_half1 : HasDef K mg "_law_first_half" s_half1
  d_half2 : HasDef K mg "_law_second_half" s_half2
  n_isinstance : mg "isinstance" = none
  n_repr : mg "repr" = none
  n_range : mg "range" = none
  n_list : mg "list" = none
  n_ValueError : mg "ValueError" = none
  g_R : mg "RoomError" = some (.ref R)
  c_R : (PySem.W.clsIn K R).isSome = true
  t_R : PySem.W.typeIn K (.ref R) = some (.type "type")
  dis : ∀ i j, i < 28 → j < 28 → c i = c j → i = j
  nR : ∀ i, i < 28 → c i ≠ R
section
variable {P : Program} {w : World} {K : PySem.W.Frag} {mg : Str → Option Value} {base : Heap} {c : Nat → Addr} {R : Addr}
theorem Txt.ei (T : Txt K mg c R) : ∀ i, i < 28 → ExcI K (c i) R
  | 0, _ => T.e_NoMany.I
  | 1, _ => T.e_NoName.I
  | 2, _ => T.e_NoSize.I
  | 3, _ => T.e_NoPlace.I
  | 4, _ => T.e_NoValue.I
  | 5, _ => T.e_NoRow.I
  | 6, _ => T.e_Twice.I
  | 7, _ => T.e_Outside.I
  | 8, _ => T.e_Overlap.I
  | 9, _ => T.e_TooMany.I
  | 10, _ => T.e_NoBlock.I
  | 11, _ => T.e_NoText.I
  | 12, _ => T.e_NotFree.I
  | 13, _ => T.e_NotTaken.I
  | 14, _ => T.e_NoHole.I
  | 15, _ => T.e_NoRule.I
  | 16, _ => T.e_Pinned.I
  | 17, _ => T.e_NotPinned.I
  | 18, _ => T.e_Gone.I
  | 19, _ => T.e_NoMoves.I
  | 20, _ => T.e_NoSlide.I
  | 21, _ => T.e_Sliding.I
  | 22, _ => T.e_NotSliding.I
  | 23, _ => T.e_Fixed.I
  | 24, _ => T.e_NoRoom.I
  | 25, _ => T.e_NoWay.I
  | 26, _ => T.e_NoAsks.I
  | 27, _ => T.e_NoLine.I
  | n + 28, h => absurd h (by omega)
/-- isinstance of a refusal -/
def rIsX (K : PySem.W.Frag) : List V → Hp → VK → Prop := fun xs H Q => ∃ x d C R fs b, xs = [.ref x, d] ∧ ExcAt H x C fs ∧ ExcI K C R ∧ clsIs K (.ref C) d = some b ∧ Q (.bl b) H
theorem call_isX {X : Cx} : CallR X (.builtin "isinstance") (rIsX X.K) := call_isexc
theorem rd_is (T : Txt K mg c R) {i j : Nat} {σ : L2.St} {H : Hp} {x : Addr} {fs : List (Str × V)} (hi : i < 28) (hj : j < 28) (he : ExcAt H x (c j) fs) (hv : σ[0]? = some (some (.ref x))) :
    Tel (tCB (rIsX K) (tCons (tVar 0) (tCons (tC (.ref (c i))) tNil))) σ H (.bl (decide (i = j))) := by
  refine rd_cb (rda_cons (rd_var hv) (rda_cons rd_c rda_nil)) fun Q k => ⟨x, _, c j, R, fs, _, rfl, he, T.ei j hj, ?_, k⟩
  show PySem.W.kitOne K (.ref (c j)) (.ref (c i)) = _
  rw [kit_excs (T.ei j hj) (T.ei i hi) (by simpa using T.nR i hi)]
  congr 1
  by_cases h : i = j
  · subst h
    simp
  · have h2 : ¬ c i = c j := fun z => h (T.dis i j hi hj z)
    simp [h, h2]
theorem rd_isR (T : Txt K mg c R) {j : Nat} {σ : L2.St} {H : Hp} {x : Addr} {fs : List (Str × V)} (hj : j < 28) (he : ExcAt H x (c j) fs) (hv : σ[0]? = some (some (.ref x))) :
    Tel (tCB (rIsX K) (tCons (tVar 0) (tCons (tC (.ref R)) tNil))) σ H (.bl true) :=
  rd_cb (rda_cons (rd_var hv) (rda_cons rd_c rda_nil)) fun Q k => ⟨x, _, c j, R, fs, _, rfl, he, T.ei j hj, kit_excR (T.ei j hj) T.c_R T.t_R, k⟩
theorem rd_isV (T : Txt K mg c R) {j : Nat} {σ : L2.St} {H : Hp} {x : Addr} {fs : List (Str × V)} (hj : j < 28) (he : ExcAt H x (c j) fs) (hv : σ[0]? = some (some (.ref x))) :
    Tel (tCB (rIsX K) (tCons (tVar 0) (tCons (tC (.ty "ValueError")) tNil))) σ H (.bl true) :=
  rd_cb (rda_cons (rd_var hv) (rda_cons rd_c rda_nil)) fun Q k => ⟨x, _, c j, R, fs, _, rfl, he, T.ei j hj, kit_excV (T.ei j hj), k⟩
/-- what a refusal is made of here; its lists have n items at most -/
inductive Thing (H : Hp) (n : Nat) : V → Dt → Prop where
  | int (i : Int) (h : i.natAbs < 10 ^ 60) : Thing H n (.int i) (.int i)
  | str (z : Str) (h : z.length ≤ 8) (hc : ∀ c ∈ z.cps.toList, c < 16 ^ 8) : Thing H n (.str z) (.str z)
  | non : Thing H n .non .non
  | bl (b : Bool) : Thing H n (.bl b) (.bl b)
  | lst (p : Addr) (xs : List Int) (h : H p = some (.lst (xs.map V.int))) (hl : xs.length ≤ n) (hx : ∀ x ∈ xs, x.natAbs < 10 ^ 1) : Thing H n (.ref p) (.lst (xs.map Dt.int))
  | tup (p : Addr) (z : Str) (i : Int) (h : H p = some (.tup [.str z, .int i])) (hz : z.length ≤ 8) (hc : ∀ c ∈ z.cps.toList, c < 16 ^ 8) (hi : i.natAbs < 10 ^ 1) : Thing H n (.ref p) (.tup [.str z, .int i])
theorem Thing.keep {H H' : Hp} {n m : Nat} {v : V} {d : Dt} (h : Thing H n v d) (hm : n ≤ m) (e : ∀ a u, v = .ref a → H a = some u → H' a = some u) : Thing H' m v d := by
  cases h with
  | int i h => exact .int i h
  | str z h hc => exact .str z h hc
  | non => exact .non
  | bl b => exact .bl b
  | lst p xs h hl hx => exact .lst p xs (e _ _ rfl h) (Nat.le_trans hl hm) hx
  | tup p z i h hz hc hi => exact .tup p z i (e _ _ rfl h) hz hc hi
theorem Thing.same {H H' : Hp} {n : Nat} {v : V} {d : Dt} (h : Thing H n v d) (e : Same H H') : Thing H' n v d := h.keep (Nat.le_refl _) fun a u _ q => e a u q
theorem Thing.fresh {H H' : Hp} {n : Nat} {v : V} {d : Dt} {p : Addr} {ob : HO} (h : Thing H n v d) (N : New H H' p ob) : v ≠ .ref p := by
  intro z
  subst z
  cases h with
  | lst p xs h hl hx => exact N.n _ _ h rfl
  | tup p z i h hz hc hi => exact N.n _ _ h rfl
theorem reps_ints {K : PySem.W.Frag} {H : Hp} : ∀ xs : List Int, Reps K H (xs.map Dt.int) (xs.map V.int)
  | [] => by simp [Reps]
  | x :: xs => by
    simp only [List.map_cons, Reps]
    exact ⟨_, _, rfl, by simp [Rep], reps_ints xs⟩
theorem pyDs_ints : ∀ xs : List Int, pyDs (xs.map Dt.int) = xs.map PyData.int
  | [] => by simp [pyDs]
  | x :: xs => by simp [pyDs, pyD, pyDs_ints xs]
theorem deps_ints : ∀ xs : List Int, depDs (xs.map Dt.int) = 0
  | [] => by simp [depDs]
  | x :: xs => by simp [depDs, depD, deps_ints xs]
theorem Thing.rep {K : PySem.W.Frag} {H : Hp} {n : Nat} {v : V} {d : Dt} (h : Thing H n v d) : Rep K H d v := by
  cases h with
  | int i h => simp [Rep]
  | str z h hc => simp [Rep]
  | non => simp [Rep]
  | bl b => simp [Rep]
  | lst p xs h hl hx =>
    simp only [Rep]
    exact ⟨p, _, rfl, SqL.of h, reps_ints xs⟩
  | tup p z i h hz hc hi =>
    simp only [Rep]
    exact ⟨p, _, rfl, SqT.of h, by simp [Reps, Rep]⟩
theorem Thing.shm {H : Hp} {n : Nat} {v : V} {d : Dt} (hn : n ≤ 10) (h : Thing H n v d) : Shm 200 1 (pyD d) := by
  cases h with
  | int i h => simp only [pyD]; exact (shm_int (k := 60) (by decide) h (by decide)).mono (by decide) (by decide)
  | str z h hc => simp only [pyD]; exact (shm_str hc).mono (by omega) (by decide)
  | non => simp only [pyD]; exact shm_non.mono (by decide) (by decide)
  | bl b => simp only [pyD]; exact (shm_bl b).mono (by decide) (by decide)
  | lst p xs h hl hx =>
    simp only [pyD, pyDs_ints]
    refine (shm_list (m := 2) (d := 0) fun x hx' => ?_).mono (by rw [List.length_map]; omega) (by decide)
    obtain ⟨y, hy, rfl⟩ := List.mem_map.mp hx'
    exact shm_int (k := 1) (by decide) (hx y hy) (by decide)
  | tup p z i h hz hc hi =>
    simp only [pyD, pyDs]
    refine (shm_tup (m := 82) (d := 0) fun x hx' => ?_).mono (by simp) (by decide)
    rcases List.mem_cons.mp hx' with rfl | hx'
    · exact (shm_str hc).mono (by omega) (by decide)
    · rcases List.mem_cons.mp hx' with rfl | hx'
      · exact (shm_int (k := 1) (by decide) hi (by decide)).mono (by decide) (by decide)
      · cases hx'
theorem reps_two {K : PySem.W.Frag} {H : Hp} {a b : V} {d e : Dt} (ha : Rep K H d a) (hb : Rep K H e b) : ∀ vs : List V, (∀ v ∈ vs, v = a ∨ v = b) → ∃ ds, Reps K H ds vs ∧ (∀ x ∈ pyDs ds, x = pyD d ∨ x = pyD e) ∧ (pyDs ds).length = vs.length
  | [], _ => ⟨[], by simp [Reps], by simp [pyDs], by simp [pyDs]⟩
  | v :: vs, h => by
    obtain ⟨ds, h1, h2, h3⟩ := reps_two ha hb vs fun x hx => h x (List.mem_cons_of_mem _ hx)
    rcases h v (List.mem_cons_self ..) with rfl | rfl
    · refine ⟨d :: ds, by simp only [Reps]; exact ⟨_, _, rfl, ha, h1⟩, fun x hx => ?_, by simp [pyDs, h3]⟩
      simp only [pyDs] at hx
      rcases List.mem_cons.mp hx with rfl | hx
      · exact .inl rfl
      · exact h2 x hx
    · refine ⟨e :: ds, by simp only [Reps]; exact ⟨_, _, rfl, hb, h1⟩, fun x hx => ?_, by simp [pyDs, h3]⟩
      simp only [pyDs] at hx
      rcases List.mem_cons.mp hx with rfl | hx
      · exact .inr rfl
      · exact h2 x hx
/-- two lists of the same things: shown alike -/
theorem shows_two {X : Cx} {H : Hp} {n : Nat} {a b : V} {d e : Dt} {p r : Addr} {vs : List V} (T1 : Thing H n a d) (T2 : Thing H n b e) (hn : n ≤ 10) (hv : ∀ v ∈ vs, v = a ∨ v = b) (hl : vs.length ≤ 20) (hp : H p = some (.lst vs)) (hr : H r = some (.lst vs)) :
    ∃ t : PyData, Shows X H (.ref p) t ∧ Shows X H (.ref r) t ∧ t.showable = true ∧ t.depth ≤ 100 ∧ t.shown.length ≤ sizeLine := by
  obtain ⟨ds, h1, h2, h3⟩ := reps_two (T1.rep (K := X.K)) (T2.rep (K := X.K)) vs hv
  have m : Shm ((pyDs ds).length * (200 + 2) + 2) (1 + 1) (.list (pyDs ds)) := shm_list fun x hx => by
    rcases h2 x hx with rfl | rfl
    · exact T1.shm hn
    · exact T2.shm hn
  have e1 : pyD (.lst ds) = .list (pyDs ds) := by simp [pyD]
  refine ⟨pyD (.lst ds), shows_rep (by simp only [Rep]; exact ⟨p, _, rfl, SqL.of hp, h1⟩), shows_rep (by simp only [Rep]; exact ⟨r, _, rfl, SqL.of hr, h1⟩), ?_, ?_, ?_⟩
  · rw [e1]; exact m.sh
  · rw [e1]; exact Nat.le_trans m.dp (by decide)
  · rw [e1]; exact small_line (Nat.le_trans m.ln (by omega))
/-- if repr(a) != repr(b): .. -/
def rRepr (X : Cx) : List V → Hp → VK → Prop := fun xs H Q => ∃ x d, xs = [x] ∧ Shows X H x d ∧ d.showable = true ∧ d.depth ≤ 100 ∧ d.shown.length ≤ sizeLine ∧ Q (.str d.shown) H
theorem call_rep {X : Cx} {k : Nat} (hr : Room k X.A) : CallR X (.builtin "repr") (rRepr X) := call_repr hr
theorem go_reprs {X : Cx} {σ : L2.St} {H : Hp} {i j : Nat} {p r : Addr} {s u : TS} {E : Ends} {t : PyData} (hp : σ[i]? = some (some (.ref p))) (hq : σ[j]? = some (some (.ref r))) (s1 : Shows X H (.ref p) t) (s2 : Shows X H (.ref r) t) (h1 : t.showable = true) (h2 : t.depth ≤ 100) (h3 : t.shown.length ≤ sizeLine) (k : u E σ H) :
    tSeq (tIfS (tTest (tOp rNe (tCB (rRepr X) (tCons (tVar i) tNil)) (tCB (rRepr X) (tCons (tVar j) tNil)))) s tNext) u E σ H :=
  ⟨.ref p, hp, _, t, rfl, s1, h1, h2, h3, .ref r, hq, _, t, rfl, s2, h1, h2, h3, rfl, _, rfl, iteNS rfl k⟩
/-- if isinstance(one, list): one.append(7) -/
def rIsT (K : PySem.W.Frag) : List V → Hp → VK → Prop := fun xs H Q => ∃ x d t b, xs = [x, d] ∧ TyOf K H x t ∧ clsIs K t d = some b ∧ Q (.bl b) H
theorem call_isT {X : Cx} : CallR X (.builtin "isinstance") (rIsT X.K) := call_isinstance
theorem go_grow {σ : L2.St} {H : Hp} {u : TS} {E : Ends} {n : Nat} {a b : V} {d e : Dt} (h0 : σ[0]? = some (some a)) (T1 : Thing H n a d) (T2 : Thing H n b e) (hn : n ≤ 10)
    (k : ∀ H' d' e', Thing H' (n + 1) a d' → Thing H' (n + 1) b e' → (∀ x ob, a ≠ .ref x → H x = some ob → H' x = some ob) → (∀ x C fs, ExcAt H x C fs → ExcAt H' x C fs) → u E σ H') :
    tSeq (tIfS (tB (tCB (rIsT K) (tCons (tVar 0) (tCons (tC (.ty "list")) tNil)))) (tDrop (tBM K "list" rAppA (tVar 0) (tCons (tC (.int 7)) tNil))) tNext) u E σ H := by
  have no : ∀ t, TyOf K H a (.type t) → (t == "list") = false → tSeq (tIfS (tB (tCB (rIsT K) (tCons (tVar 0) (tCons (tC (.ty "list")) tNil)))) (tDrop (tBM K "list" rAppA (tVar 0) (tCons (tC (.int 7)) tNil))) tNext) u E σ H := fun t ty ht => by
    have hb := bt_list ty
    rw [ht] at hb
    exact ⟨a, h0, _, _, _, _, rfl, ty, hb, _, rfl, iteF (k H d e (T1.keep (Nat.le_succ _) fun _ _ _ z => z) (T2.keep (Nat.le_succ _) fun _ _ _ z => z) (fun _ _ _ z => z) fun _ _ _ z => z)⟩
  have T1' := T1
  cases T1 with
  | int i h => exact no _ (.int i) (by decide)
  | str z h hc => exact no _ (.str z) (by decide)
  | non => exact no _ .non (by decide)
  | bl b => exact no _ (.bl b) (by decide)
  | tup p z i h hz hc hi => exact no _ (.tup h) (by decide)
  | lst p xs h hl hx =>
    have hb := bt_list (K := K) (TyOf.lst h)
    rw [show (("list" : String) == "list") = true by decide] at hb
    refine ⟨_, h0, _, _, _, _, rfl, .lst h, hb, _, rfl, iteT ⟨_, h0, .inl ⟨rfl, _, SqL.of h⟩, p, _, _, rfl, rfl, h, by rw [List.length_map]; exact Nat.lt_of_le_of_lt (Nat.le_trans hl hn) (by decide), fun H' off e' => ?_⟩⟩
    have t1 : Thing H' (n + 1) (.ref p) (.lst ((xs ++ [7]).map Dt.int)) := .lst p (xs ++ [7]) (by rw [e', List.map_append]; rfl) (by simp; exact hl) fun x hx' => by
      rcases List.mem_append.mp hx' with h' | h'
      · exact hx x h'
      · rw [List.mem_singleton.mp h']; decide
    have kp : ∀ x ob, V.ref p ≠ .ref x → H x = some ob → H' x = some ob := fun x ob ne z => by
      rw [off x fun q => ne (by rw [q])]
      exact z
    have kx : ∀ x C fs, ExcAt H x C fs → ExcAt H' x C fs := fun x C fs z => z.off off h
    by_cases hab : b = .ref p
    · subst hab
      exact k H' _ _ t1 t1 kp kx
    · exact k H' _ e t1 (T2.keep (Nat.le_succ _) fun x ob hx z => kp x ob (fun w => hab (by rw [hx, ← w])) z) kp kx
theorem bt_VE : bootBuiltins "ValueError" = some (.type "ValueError") := by decide +kernel
def sp_first (c : Nat → Addr) : Sp := fun vs H Q _ => ∃ x j fs, vs = [.ref x] ∧ j < 28 ∧ ExcAt H x (c j) fs ∧ ∀ p H', New H H' p (.lst ((List.range 14).map fun i => .bl (decide (i = j)))) → Q (.ref p) H'
def sp_second (c : Nat → Addr) : Sp := fun vs H Q _ => ∃ x j fs, vs = [.ref x] ∧ j < 28 ∧ ExcAt H x (c j) fs ∧ ∀ p H', New H H' p (.lst ((List.range 14).map fun i => .bl (decide (14 + i = j)))) → Q (.ref p) H'
def sp_right (c : Nat → Addr) : Sp := fun vs H Q _ => ∃ (x : Addr) (j : Nat) (fs : List (Str × V)), vs = [.ref x, .int j] ∧ j < 28 ∧ ExcAt H x (c j) fs ∧ ∀ H', Same H H' → Q (.bl true) H'
def sp_half : Sp := fun vs H Q _ => ∃ a b d e n, vs = [a, b] ∧ Thing H n a d ∧ Thing H n b e ∧ n < 10 ∧ ∀ H' d' e', Thing H' (n + 1) a d' → Thing H' (n + 1) b e' → Q (.bl true) H'
def sp_law (K : PySem.W.Frag) : Sp := fun vs H Q _ => ∃ (a : Addr) (ns : List Int), vs = [.ref a] ∧ SqL K H a (ns.map V.int) ∧ ns.length ≤ 63 ∧ ∀ H', Q (.bl true) H'
theorem lk1 {f : Str} {v : V} {r : List (Str × V)} : ((f, v) :: r).lookup f = some v := by simp [List.lookup]
theorem lk2 {f g : Str} {v y : V} (h : f ≠ g) : [(f, v), (g, y)].lookup g = some y := by
  have hb : (g == f) = false := beq_eq_false_iff_ne.mpr (Ne.symm h)
  simp [List.lookup, hb]
theorem rep_nil {K : PySem.W.Frag} {H : Hp} {p : Addr} (h : H p = some (.lst [])) : Rep K H (.lst []) (.ref p) := by
  simp only [Rep]
  exact ⟨p, _, rfl, SqL.of h, by simp [Reps]⟩
theorem reps_bools {K : PySem.W.Frag} {H : Hp} : ∀ bs : List Bool, Reps K H (bs.map Dt.bl) (bs.map V.bl)
  | [] => by simp [Reps]
  | x :: xs => by
    simp only [List.map_cons, Reps]
    exact ⟨_, _, rfl, by simp [Rep], reps_bools xs⟩
theorem deps_bools : ∀ xs : List Bool, depDs (xs.map Dt.bl) = 0
  | [] => by simp [depDs]
  | x :: xs => by simp [depDs, depD, deps_bools xs]
end
end K17
set_option Elab.async false
set_option linter.all false
set_option maxRecDepth 100000
set_option maxHeartbeats 8000000
namespace K17
open PySem L2 PyProof.Rows
section
variable {P : Program} {w : World} {K : PySem.W.Frag} {mg : Str → Option Value} {base : Heap} {c : Nat → Addr} {R : Addr}
theorem D_first (T : Txt K mg c R) : Def P w K mg base CX0 1 "_law_first" ["_law_e"] (sp_first c) := by
  refine def_of T.d_first sc_first (fun vs H Q E h => ?_) (fun _ _ _ _ _ _ us hl => match us, hl with | [_], _ => rfl) (fun f cdv A outer s H vs Q E hr h => ?_)
  · obtain ⟨x, j, fs, rfl, _⟩ := h
    rfl
  · obtain ⟨x, j, fs, rfl, hj, ex, k⟩ := h
    have nd := sc_first.nd
    refine ⟨_, (pss_cons (ps_set (i := 1) nd rfl (Or.inl rfl) (pe_lstA (pa_cons (pe_callB call_isX rfl T.n_isinstance boot_isinstance (pa_cons (pv 0) (pa_cons (pe_gl (v := .ref (c 0)) ⟨_, T.e_NoMany.gl, rfl⟩) pa_nil))) (pa_cons (pe_callB call_isX rfl T.n_isinstance boot_isinstance (pa_cons (pv 0) (pa_cons (pe_gl (v := .ref (c 1)) ⟨_, T.e_NoName.gl, rfl⟩) pa_nil))) (pa_cons (pe_callB call_isX rfl T.n_isinstance boot_isinstance (pa_cons (pv 0) (pa_cons (pe_gl (v := .ref (c 2)) ⟨_, T.e_NoSize.gl, rfl⟩) pa_nil))) (pa_cons (pe_callB call_isX rfl T.n_isinstance boot_isinstance (pa_cons (pv 0) (pa_cons (pe_gl (v := .ref (c 3)) ⟨_, T.e_NoPlace.gl, rfl⟩) pa_nil))) pa_nil))))))
      (pss_cons (ps_set (i := 1) nd rfl (Or.inl rfl) (pe_op op_catA (pv 1) (pe_lstA (pa_cons (pe_callB call_isX rfl T.n_isinstance boot_isinstance (pa_cons (pv 0) (pa_cons (pe_gl (v := .ref (c 4)) ⟨_, T.e_NoValue.gl, rfl⟩) pa_nil))) (pa_cons (pe_callB call_isX rfl T.n_isinstance boot_isinstance (pa_cons (pv 0) (pa_cons (pe_gl (v := .ref (c 5)) ⟨_, T.e_NoRow.gl, rfl⟩) pa_nil))) (pa_cons (pe_callB call_isX rfl T.n_isinstance boot_isinstance (pa_cons (pv 0) (pa_cons (pe_gl (v := .ref (c 6)) ⟨_, T.e_Twice.gl, rfl⟩) pa_nil))) (pa_cons (pe_callB call_isX rfl T.n_isinstance boot_isinstance (pa_cons (pv 0) (pa_cons (pe_gl (v := .ref (c 7)) ⟨_, T.e_Outside.gl, rfl⟩) pa_nil))) pa_nil)))))))
      (pss_cons (ps_set (i := 1) nd rfl (Or.inl rfl) (pe_op op_catA (pv 1) (pe_lstA (pa_cons (pe_callB call_isX rfl T.n_isinstance boot_isinstance (pa_cons (pv 0) (pa_cons (pe_gl (v := .ref (c 8)) ⟨_, T.e_Overlap.gl, rfl⟩) pa_nil))) (pa_cons (pe_callB call_isX rfl T.n_isinstance boot_isinstance (pa_cons (pv 0) (pa_cons (pe_gl (v := .ref (c 9)) ⟨_, T.e_TooMany.gl, rfl⟩) pa_nil))) (pa_cons (pe_callB call_isX rfl T.n_isinstance boot_isinstance (pa_cons (pv 0) (pa_cons (pe_gl (v := .ref (c 10)) ⟨_, T.e_NoBlock.gl, rfl⟩) pa_nil))) (pa_cons (pe_callB call_isX rfl T.n_isinstance boot_isinstance (pa_cons (pv 0) (pa_cons (pe_gl (v := .ref (c 11)) ⟨_, T.e_NoText.gl, rfl⟩) pa_nil))) pa_nil)))))))
      (pss_one (ps_ret (pe_op op_catA (pv 1) (pe_lstA (pa_cons (pe_callB call_isX rfl T.n_isinstance boot_isinstance (pa_cons (pv 0) (pa_cons (pe_gl (v := .ref (c 12)) ⟨_, T.e_NotFree.gl, rfl⟩) pa_nil))) (pa_cons (pe_callB call_isX rfl T.n_isinstance boot_isinstance (pa_cons (pv 0) (pa_cons (pe_gl (v := .ref (c 13)) ⟨_, T.e_NotTaken.gl, rfl⟩) pa_nil))) pa_nil))))))))), ?_⟩
    refine go_seq (go_asg (go_lst (rda_cons (rd_is T (i := 0) (by decide) hj ex rfl) (rda_cons (rd_is T (i := 1) (by decide) hj ex rfl) (rda_cons (rd_is T (i := 2) (by decide) hj ex rfl) (rda_cons (rd_is T (i := 3) (by decide) hj ex rfl) rda_nil)))) (by show 4 ≤ sizeLine; decide) fun p0 H0 n0 => go_name (σ' := [some (.ref x), some (.ref p0)]) rfl (go_nx ?_)))
    have e0 := ex.same n0.s
    refine go_seq (go_asg (go_cat (rd_var rfl) n0.e (rda_cons (rd_is T (i := 4) (by decide) hj e0 rfl) (rda_cons (rd_is T (i := 5) (by decide) hj e0 rfl) (rda_cons (rd_is T (i := 6) (by decide) hj e0 rfl) (rda_cons (rd_is T (i := 7) (by decide) hj e0 rfl) rda_nil)))) (by show 4 + 4 ≤ sizeLine; decide) fun p1 H1 n1 => go_name (σ' := [some (.ref x), some (.ref p1)]) rfl (go_nx ?_)))
    have e1 := e0.same n1.s
    refine go_seq (go_asg (go_cat (rd_var rfl) n1.e (rda_cons (rd_is T (i := 8) (by decide) hj e1 rfl) (rda_cons (rd_is T (i := 9) (by decide) hj e1 rfl) (rda_cons (rd_is T (i := 10) (by decide) hj e1 rfl) (rda_cons (rd_is T (i := 11) (by decide) hj e1 rfl) rda_nil)))) (by show 8 + 4 ≤ sizeLine; decide) fun p2 H2 n2 => go_name (σ' := [some (.ref x), some (.ref p2)]) rfl (go_nx ?_)))
    have e2 := e1.same n2.s
    refine go_ret (go_cat (rd_var rfl) n2.e (rda_cons (rd_is T (i := 12) (by decide) hj e2 rfl) (rda_cons (rd_is T (i := 13) (by decide) hj e2 rfl) rda_nil)) (by show 12 + 2 ≤ sizeLine; decide) fun p3 H3 n3 => ?_)
    exact k p3 H3 ⟨(((n0.s).trans n1.s).trans n2.s).trans n3.s, n3.e, fun a u e => n3.n a u (n2.s _ _ (n1.s _ _ (n0.s _ _ e)))⟩
theorem D_second (T : Txt K mg c R) : Def P w K mg base CX0 1 "_law_second" ["_law_e"] (sp_second c) := by
  refine def_of T.d_second sc_second (fun vs H Q E h => ?_) (fun _ _ _ _ _ _ us hl => match us, hl with | [_], _ => rfl) (fun f cdv A outer s H vs Q E hr h => ?_)
  · obtain ⟨x, j, fs, rfl, _⟩ := h
    rfl
  · obtain ⟨x, j, fs, rfl, hj, ex, k⟩ := h
    have nd := sc_second.nd
    refine ⟨_, (pss_cons (ps_set (i := 1) nd rfl (Or.inl rfl) (pe_lstA (pa_cons (pe_callB call_isX rfl T.n_isinstance boot_isinstance (pa_cons (pv 0) (pa_cons (pe_gl (v := .ref (c 14)) ⟨_, T.e_NoHole.gl, rfl⟩) pa_nil))) (pa_cons (pe_callB call_isX rfl T.n_isinstance boot_isinstance (pa_cons (pv 0) (pa_cons (pe_gl (v := .ref (c 15)) ⟨_, T.e_NoRule.gl, rfl⟩) pa_nil))) (pa_cons (pe_callB call_isX rfl T.n_isinstance boot_isinstance (pa_cons (pv 0) (pa_cons (pe_gl (v := .ref (c 16)) ⟨_, T.e_Pinned.gl, rfl⟩) pa_nil))) (pa_cons (pe_callB call_isX rfl T.n_isinstance boot_isinstance (pa_cons (pv 0) (pa_cons (pe_gl (v := .ref (c 17)) ⟨_, T.e_NotPinned.gl, rfl⟩) pa_nil))) pa_nil))))))
      (pss_cons (ps_set (i := 1) nd rfl (Or.inl rfl) (pe_op op_catA (pv 1) (pe_lstA (pa_cons (pe_callB call_isX rfl T.n_isinstance boot_isinstance (pa_cons (pv 0) (pa_cons (pe_gl (v := .ref (c 18)) ⟨_, T.e_Gone.gl, rfl⟩) pa_nil))) (pa_cons (pe_callB call_isX rfl T.n_isinstance boot_isinstance (pa_cons (pv 0) (pa_cons (pe_gl (v := .ref (c 19)) ⟨_, T.e_NoMoves.gl, rfl⟩) pa_nil))) (pa_cons (pe_callB call_isX rfl T.n_isinstance boot_isinstance (pa_cons (pv 0) (pa_cons (pe_gl (v := .ref (c 20)) ⟨_, T.e_NoSlide.gl, rfl⟩) pa_nil))) (pa_cons (pe_callB call_isX rfl T.n_isinstance boot_isinstance (pa_cons (pv 0) (pa_cons (pe_gl (v := .ref (c 21)) ⟨_, T.e_Sliding.gl, rfl⟩) pa_nil))) pa_nil)))))))
      (pss_cons (ps_set (i := 1) nd rfl (Or.inl rfl) (pe_op op_catA (pv 1) (pe_lstA (pa_cons (pe_callB call_isX rfl T.n_isinstance boot_isinstance (pa_cons (pv 0) (pa_cons (pe_gl (v := .ref (c 22)) ⟨_, T.e_NotSliding.gl, rfl⟩) pa_nil))) (pa_cons (pe_callB call_isX rfl T.n_isinstance boot_isinstance (pa_cons (pv 0) (pa_cons (pe_gl (v := .ref (c 23)) ⟨_, T.e_Fixed.gl, rfl⟩) pa_nil))) (pa_cons (pe_callB call_isX rfl T.n_isinstance boot_isinstance (pa_cons (pv 0) (pa_cons (pe_gl (v := .ref (c 24)) ⟨_, T.e_NoRoom.gl, rfl⟩) pa_nil))) (pa_cons (pe_callB call_isX rfl T.n_isinstance boot_isinstance (pa_cons (pv 0) (pa_cons (pe_gl (v := .ref (c 25)) ⟨_, T.e_NoWay.gl, rfl⟩) pa_nil))) pa_nil)))))))
      (pss_one (ps_ret (pe_op op_catA (pv 1) (pe_lstA (pa_cons (pe_callB call_isX rfl T.n_isinstance boot_isinstance (pa_cons (pv 0) (pa_cons (pe_gl (v := .ref (c 26)) ⟨_, T.e_NoAsks.gl, rfl⟩) pa_nil))) (pa_cons (pe_callB call_isX rfl T.n_isinstance boot_isinstance (pa_cons (pv 0) (pa_cons (pe_gl (v := .ref (c 27)) ⟨_, T.e_NoLine.gl, rfl⟩) pa_nil))) pa_nil))))))))), ?_⟩
    refine go_seq (go_asg (go_lst (rda_cons (rd_is T (i := 14) (by decide) hj ex rfl) (rda_cons (rd_is T (i := 15) (by decide) hj ex rfl) (rda_cons (rd_is T (i := 16) (by decide) hj ex rfl) (rda_cons (rd_is T (i := 17) (by decide) hj ex rfl) rda_nil)))) (by show 4 ≤ sizeLine; decide) fun p0 H0 n0 => go_name (σ' := [some (.ref x), some (.ref p0)]) rfl (go_nx ?_)))
    have e0 := ex.same n0.s
    refine go_seq (go_asg (go_cat (rd_var rfl) n0.e (rda_cons (rd_is T (i := 18) (by decide) hj e0 rfl) (rda_cons (rd_is T (i := 19) (by decide) hj e0 rfl) (rda_cons (rd_is T (i := 20) (by decide) hj e0 rfl) (rda_cons (rd_is T (i := 21) (by decide) hj e0 rfl) rda_nil)))) (by show 4 + 4 ≤ sizeLine; decide) fun p1 H1 n1 => go_name (σ' := [some (.ref x), some (.ref p1)]) rfl (go_nx ?_)))
    have e1 := e0.same n1.s
    refine go_seq (go_asg (go_cat (rd_var rfl) n1.e (rda_cons (rd_is T (i := 22) (by decide) hj e1 rfl) (rda_cons (rd_is T (i := 23) (by decide) hj e1 rfl) (rda_cons (rd_is T (i := 24) (by decide) hj e1 rfl) (rda_cons (rd_is T (i := 25) (by decide) hj e1 rfl) rda_nil)))) (by show 8 + 4 ≤ sizeLine; decide) fun p2 H2 n2 => go_name (σ' := [some (.ref x), some (.ref p2)]) rfl (go_nx ?_)))
    have e2 := e1.same n2.s
    refine go_ret (go_cat (rd_var rfl) n2.e (rda_cons (rd_is T (i := 26) (by decide) hj e2 rfl) (rda_cons (rd_is T (i := 27) (by decide) hj e2 rfl) rda_nil)) (by show 12 + 2 ≤ sizeLine; decide) fun p3 H3 n3 => ?_)
    exact k p3 H3 ⟨(((n0.s).trans n1.s).trans n2.s).trans n3.s, n3.e, fun a u e => n3.n a u (n2.s _ _ (n1.s _ _ (n0.s _ _ e)))⟩
theorem D_right (T : Txt K mg c R) : Def P w K mg base CX0 2 "_law_right" ["_law_e", "_law_number"] (sp_right c) := by
  have D_first := D_first (P := P) (w := w) (base := base) T
  have D_second := D_second (P := P) (w := w) (base := base) T
  refine def_of T.d_right sc_right (fun vs H Q E h => ?_) (fun _ _ _ _ _ _ us hl => match us, hl with | [_, _], _ => rfl) (fun f cdv A outer s H vs Q E hr h => ?_)
  · obtain ⟨x, j, fs, rfl, _⟩ := h
    rfl
  · obtain ⟨x, j, fs, rfl, hj, ex, k⟩ := h
    have nd := sc_right.nd
    refine ⟨_, (pss_cons (ps_if (pt_cmpR (op_ne_d hr) (pe_op op_catA (pe_def D_first hr (pa_cons (pv 0) pa_nil)) (pe_def D_second hr (pa_cons (pv 0) pa_nil)))
        (pe_comp (N := ["_law_k", "_law_number"]) (nt := 1) (fr := [1]) (pi_range1 rfl T.n_range (pa_cons pe_int pa_nil)) (fun _ _ _ _ => pg_name (i := 0) (show (["_law_k", "_law_number"] : List Str).Nodup from by decide +kernel) rfl (Or.inl rfl)) (fun _ _ _ _ => pif_nil) (fun _ _ _ _ => pe_cmpR op_eq (pv 0) (pv 1) (nomark _))) (nomark _)) (pss_one (ps_ret pe_bl)) pss_nil)
      (pss_one (ps_ret (pe_and (pe_callB call_isX rfl T.n_isinstance boot_isinstance (pa_cons (pv 0) (pa_cons (pe_gl (v := .ref R) ⟨_, T.g_R, rfl⟩) pa_nil)))
        (pe_one (pe_callB call_isX rfl T.n_isinstance boot_isinstance (pa_cons (pv 0) (pa_cons (pe_ty (T := "ValueError") rfl T.n_ValueError bt_VE) pa_nil)))))))), ?_⟩
    refine go_seq (go_if (go_test (go_op (go_op (go_call (go_rda (rda_cons (rd_var rfl) rda_nil) ⟨x, j, fs, rfl, hj, ex, fun p1 H1 n1 => go_call (go_rda (rda_cons (rd_var rfl) rda_nil)
      ⟨x, j, fs, rfl, hj, ex.same n1.s, fun p2 H2 n2 => ⟨p1, p2, _, _, rfl, rfl, n2.s _ _ n1.e, n2.e, by rw [List.length_map, List.length_map, List.length_range]; decide, fun p3 H3 n3 => ?_⟩⟩)⟩))))))
    refine go_map_range (n := 28) (F := fun i => .bl (decide (V.int i = V.int j))) (rda_cons rd_c rda_nil) (by decide) (by decide) rfl (fun i H' hi s' => rd_op (rd_var rfl) (rd_var rfl) fun Q q => ⟨rfl, q⟩) fun p4 H4 n4 => ?_
    have ha : H4 p3 = some (.lst (((List.range 28).map fun i => decide (i = j)).map V.bl)) := by
      rw [n4.s _ _ n3.e]
      rfl
    have hb : H4 p4 = some (.lst (((List.range 28).map fun i => decide (i = j)).map V.bl)) := by
      rw [n4.e, List.map_map]
      congr 2
      refine List.map_congr_left fun i _ => ?_
      show V.bl _ = V.bl _
      congr 1
      rw [dec_int, Bool.eq_iff_iff]
      simp
      omega
    have s4 : Same H H4 := ((n1.s.trans n2.s).trans n3.s).trans n4.s
    refine ⟨.lst (((List.range 28).map fun i => decide (i = j)).map Dt.bl), .lst (((List.range 28).map fun i => decide (i = j)).map Dt.bl), by simp only [Rep]; exact ⟨p3, _, rfl, SqL.of ha, reps_bools _⟩, by simp only [Rep]; exact ⟨p4, _, rfl, SqL.of hb, reps_bools _⟩, by simp only [depD]; rw [deps_bools]; decide, _, rfl, ?_⟩
    rw [eqDt_refl]
    refine iteF (go_next (go_nx ?_))
    exact go_ret (go_and (go_rd (rd_isR T hj (ex.same s4) rfl) ⟨_, rfl, iteT (go_rd (rd_isV T hj (ex.same s4) rfl) (k H4 s4))⟩))
end
end K17
set_option Elab.async false
set_option linter.all false
set_option maxRecDepth 100000
set_option maxHeartbeats 8000000
namespace K17
open PySem L2 PyProof.Rows
section
variable {P : Program} {w : World} {K : PySem.W.Frag} {mg : Str → Option Value} {base : Heap} {c : Nat → Addr} {R : Addr}
theorem D_half1 (T : Txt K mg c R) : Def P w K mg base CX0 3 "_law_first_half" ["_law_one", "_law_other"] sp_half := by
  have D_right := D_right (P := P) (w := w) (base := base) T
  refine def_of T.d_half1 sc_half1 (fun vs H Q E h => ?_) (fun _ _ _ _ _ _ us hl => match us, hl with | [_, _], _ => rfl) (fun f cdv A outer s H vs Q E hr h => ?_)
  · obtain ⟨a, b, d, e, n, rfl, _⟩ := h
    rfl
  · obtain ⟨a, b, d, e, n, rfl, ta, tb, hn, k⟩ := h
    have nd := sc_half1.nd
    refine ⟨_, (pss_cons (ps_asg (pe_tupA (pa_cons (pe_ex1 T.e_NoMany (I_NoMany T.e_NoMany.S T.a_NoMany_many) hr (pa_cons (pv 0) pa_nil)) (pa_cons (pe_ex1 T.e_NoName (I_NoName T.e_NoName.S T.a_NoName_name) hr (pa_cons (pv 0) pa_nil)) (pa_cons (pe_ex1 T.e_NoSize (I_NoSize T.e_NoSize.S T.a_NoSize_size) hr (pa_cons (pv 0) pa_nil)) (pa_cons (pe_ex1 T.e_NoPlace (I_NoPlace T.e_NoPlace.S T.a_NoPlace_at) hr (pa_cons (pv 0) pa_nil)) pa_nil))))) (pg_tup rfl (pgs_cons (pg_name (i := 2) nd rfl (Or.inl rfl)) (pgs_cons (pg_name (i := 3) nd rfl (Or.inl rfl)) (pgs_cons (pg_name (i := 4) nd rfl (Or.inl rfl)) (pgs_cons (pg_name (i := 5) nd rfl (Or.inl rfl)) pgs_nil))))))
      (pss_cons (ps_asg (pe_tupA (pa_cons (pe_ex1 T.e_NoValue (I_NoValue T.e_NoValue.S T.a_NoValue_value) hr (pa_cons (pv 0) pa_nil)) (pa_cons (pe_ex1 T.e_NoRow (I_NoRow T.e_NoRow.S T.a_NoRow_row) hr (pa_cons (pv 0) pa_nil)) (pa_cons (pe_ex1 T.e_Twice (I_Twice T.e_Twice.S T.a_Twice_name) hr (pa_cons (pv 0) pa_nil)) (pa_cons (pe_ex1 T.e_Outside (I_Outside T.e_Outside.S T.a_Outside_name) hr (pa_cons (pv 0) pa_nil)) pa_nil))))) (pg_tup rfl (pgs_cons (pg_name (i := 6) nd rfl (Or.inl rfl)) (pgs_cons (pg_name (i := 7) nd rfl (Or.inl rfl)) (pgs_cons (pg_name (i := 8) nd rfl (Or.inl rfl)) (pgs_cons (pg_name (i := 9) nd rfl (Or.inl rfl)) pgs_nil))))))
      (pss_cons (ps_asg (pe_tupA (pa_cons (pe_ex2 T.e_Overlap (I_Overlap T.e_Overlap.S T.a_Overlap_name T.a_Overlap_other) hr (pa_cons (pv 0) (pa_cons (pv 1) pa_nil))) (pa_cons (pe_ex1 T.e_TooMany (I_TooMany T.e_TooMany.S T.a_TooMany_many) hr (pa_cons (pv 0) pa_nil)) (pa_cons (pe_ex1 T.e_NoBlock (I_NoBlock T.e_NoBlock.S T.a_NoBlock_name) hr (pa_cons (pv 0) pa_nil)) (pa_cons (pe_ex1 T.e_NoText (I_NoText T.e_NoText.S T.a_NoText_row) hr (pa_cons (pv 0) pa_nil)) pa_nil))))) (pg_tup rfl (pgs_cons (pg_name (i := 10) nd rfl (Or.inl rfl)) (pgs_cons (pg_name (i := 11) nd rfl (Or.inl rfl)) (pgs_cons (pg_name (i := 12) nd rfl (Or.inl rfl)) (pgs_cons (pg_name (i := 13) nd rfl (Or.inl rfl)) pgs_nil))))))
      (pss_cons (ps_par (i := 14) (j := 15) rfl nd rfl rfl (by decide) rfl rfl (pa_cons (pe_ex2 T.e_NotFree (I_NotFree T.e_NotFree.S T.a_NotFree_start T.a_NotFree_size) hr (pa_cons (pv 0) (pa_cons (pv 1) pa_nil))) (pa_cons (pe_ex2 T.e_NotTaken (I_NotTaken T.e_NotTaken.S T.a_NotTaken_start T.a_NotTaken_size) hr (pa_cons (pv 0) (pa_cons (pv 1) pa_nil))) pa_nil)) rfl)
      (pss_cons (ps_set (i := 16) nd rfl (Or.inl rfl) (pe_lstA (pa_cons (pe_exf T.e_NoMany.I.g T.a_NoMany_many (pv 2)) (pa_cons (pe_exf T.e_NoName.I.g T.a_NoName_name (pv 3)) (pa_cons (pe_exf T.e_NoSize.I.g T.a_NoSize_size (pv 4)) (pa_cons (pe_exf T.e_NoPlace.I.g T.a_NoPlace_at (pv 5)) (pa_cons (pe_exf T.e_NoValue.I.g T.a_NoValue_value (pv 6)) (pa_cons (pe_exf T.e_NoRow.I.g T.a_NoRow_row (pv 7)) (pa_cons (pe_exf T.e_Twice.I.g T.a_Twice_name (pv 8)) (pa_cons (pe_exf T.e_Outside.I.g T.a_Outside_name (pv 9)) (pa_cons (pe_exf T.e_Overlap.I.g T.a_Overlap_name (pv 10)) pa_nil)))))))))))
      (pss_cons (ps_set (i := 16) nd rfl (Or.inl rfl) (pe_op op_catA (pv 16) (pe_lstA (pa_cons (pe_exf T.e_Overlap.I.g T.a_Overlap_other (pv 10)) (pa_cons (pe_exf T.e_TooMany.I.g T.a_TooMany_many (pv 11)) (pa_cons (pe_exf T.e_NoBlock.I.g T.a_NoBlock_name (pv 12)) (pa_cons (pe_exf T.e_NoText.I.g T.a_NoText_row (pv 13)) (pa_cons (pe_exf T.e_NotFree.I.g T.a_NotFree_start (pv 14)) (pa_cons (pe_exf T.e_NotFree.I.g T.a_NotFree_size (pv 14)) (pa_cons (pe_exf T.e_NotTaken.I.g T.a_NotTaken_start (pv 15)) (pa_cons (pe_exf T.e_NotTaken.I.g T.a_NotTaken_size (pv 15)) pa_nil)))))))))))
      (pss_cons (ps_set (i := 17) nd rfl (Or.inl rfl) (pe_op op_catA (pe_op op_catA (pe_op op_catA (pe_op op_repA (pe_lstA (pa_cons (pv 0) pa_nil)) pe_int) (pe_lstA (pa_cons (pv 1) pa_nil))) (pe_op op_repA (pe_lstA (pa_cons (pv 0) pa_nil)) pe_int)) (pe_lstA (pa_cons (pv 1) (pa_cons (pv 0) (pa_cons (pv 1) pa_nil))))))
      (pss_cons (ps_if (pt_cmpR op_ne (pe_callB (call_rep hr) rfl T.n_repr boot_repr (pa_cons (pv 16) pa_nil)) (pe_callB (call_rep hr) rfl T.n_repr boot_repr (pa_cons (pv 17) pa_nil)) (nomark _)) (pss_one (ps_ret pe_bl)) pss_nil)
      (pss_cons (ps_if (pt_val (pe_callB call_isT rfl T.n_isinstance boot_isinstance (pa_cons (pv 0) (pa_cons (pe_ty (T := "list") rfl T.n_list boot_list) pa_nil)))) (pss_one (ps_expr (pe_appendA (pv 0) pe_int))) pss_nil)
      (pss_cons (ps_if (pt_cmpR op_ne (pe_callB (call_rep hr) rfl T.n_repr boot_repr (pa_cons (pv 16) pa_nil)) (pe_callB (call_rep hr) rfl T.n_repr boot_repr (pa_cons (pv 17) pa_nil)) (nomark _)) (pss_one (ps_ret pe_bl)) pss_nil)
      (pss_cons (ps_set (i := 18) nd rfl (Or.inr rfl) (pe_lstA (pa_cons (pv 2) (pa_cons (pv 3) (pa_cons (pv 4) (pa_cons (pv 5) (pa_cons (pv 6) (pa_cons (pv 7) (pa_cons (pv 8) (pa_cons (pv 9) (pa_cons (pv 10) (pa_cons (pv 11) (pa_cons (pv 12) (pa_cons (pv 13) (pa_cons (pv 14) (pa_cons (pv 15) pa_nil))))))))))))))))
      (pss_one (ps_ret (pe_cmpR (op_eq_d hr) (pe_comp (N := ["_law_k", "_law_made"]) (nt := 1) (fr := [18]) (pi_range1 rfl T.n_range (pa_cons pe_int pa_nil)) (fun _ _ _ _ => pg_name (i := 0) (show (["_law_k", "_law_made"] : List Str).Nodup from by decide +kernel) rfl (Or.inl rfl)) (fun _ _ _ _ => pif_one (pt_not (pt_val (pe_def D_right hr (pa_cons (pe_ix (show IxR _ (rIxL K) from ix_list) (pv 1) (pv 0) (fun _ _ => rfl)) (pa_cons (pv 0) pa_nil)))))) (fun _ _ _ _ => pv 0)) (pe_lstA pa_nil) (nomark _))))))))))))))), ?_⟩
    refine go_seq (go_asg (go_tupA (go_cons (go_ex1 (rda_cons (rd_var rfl) rda_nil) fun z0 H0 s0 e0 => go_cons (go_ex1 (rda_cons (rd_var rfl) rda_nil) fun z1 H1 s1 e1 => go_cons (go_ex1 (rda_cons (rd_var rfl) rda_nil) fun z2 H2 s2 e2 => go_cons (go_ex1 (rda_cons (rd_var rfl) rda_nil) fun z3 H3 s3 e3 => go_nil (go_four (σ' := [some a, some b, some (.ref z0), some (.ref z1), some (.ref z2), some (.ref z3), none, none, none, none, none, none, none, none, none, none, none, none, none]) rfl fun G0 g0 => go_nx ?_))))))))
    refine go_seq (go_asg (go_tupA (go_cons (go_ex1 (rda_cons (rd_var rfl) rda_nil) fun z4 H4 s4 e4 => go_cons (go_ex1 (rda_cons (rd_var rfl) rda_nil) fun z5 H5 s5 e5 => go_cons (go_ex1 (rda_cons (rd_var rfl) rda_nil) fun z6 H6 s6 e6 => go_cons (go_ex1 (rda_cons (rd_var rfl) rda_nil) fun z7 H7 s7 e7 => go_nil (go_four (σ' := [some a, some b, some (.ref z0), some (.ref z1), some (.ref z2), some (.ref z3), some (.ref z4), some (.ref z5), some (.ref z6), some (.ref z7), none, none, none, none, none, none, none, none, none]) rfl fun G1 g1 => go_nx ?_))))))))
    refine go_seq (go_asg (go_tupA (go_cons (go_ex2 (rda_cons (rd_var rfl) (rda_cons (rd_var rfl) rda_nil)) (by decide) fun z8 H8 s8 e8 => go_cons (go_ex1 (rda_cons (rd_var rfl) rda_nil) fun z9 H9 s9 e9 => go_cons (go_ex1 (rda_cons (rd_var rfl) rda_nil) fun z10 H10 s10 e10 => go_cons (go_ex1 (rda_cons (rd_var rfl) rda_nil) fun z11 H11 s11 e11 => go_nil (go_four (σ' := [some a, some b, some (.ref z0), some (.ref z1), some (.ref z2), some (.ref z3), some (.ref z4), some (.ref z5), some (.ref z6), some (.ref z7), some (.ref z8), some (.ref z9), some (.ref z10), some (.ref z11), none, none, none, none, none]) rfl fun G2 g2 => go_nx ?_))))))))
    refine go_seq (go_par (go_cons (go_ex2 (rda_cons (rd_var rfl) (rda_cons (rd_var rfl) rda_nil)) (by decide) fun z12 H12 s12 e12 => go_cons (go_ex2 (rda_cons (rd_var rfl) (rda_cons (rd_var rfl) rda_nil)) (by decide) fun z13 H13 s13 e13 => go_nil (go_two (σ' := [some a, some b, some (.ref z0), some (.ref z1), some (.ref z2), some (.ref z3), some (.ref z4), some (.ref z5), some (.ref z6), some (.ref z7), some (.ref z8), some (.ref z9), some (.ref z10), some (.ref z11), some (.ref z12), some (.ref z13), none, none, none]) rfl (go_nx ?_))))))
    have y0 : Same H12 H13 := s13.trans (Same.refl H13)
    have y1 : Same G2 H13 := s12.trans y0
    have y2 : Same H11 H13 := g2.trans y1
    have y3 : Same H10 H13 := s11.trans y2
    have y4 : Same H9 H13 := s10.trans y3
    have y5 : Same H8 H13 := s9.trans y4
    have y6 : Same G1 H13 := s8.trans y5
    have y7 : Same H7 H13 := g1.trans y6
    have y8 : Same H6 H13 := s7.trans y7
    have y9 : Same H5 H13 := s6.trans y8
    have y10 : Same H4 H13 := s5.trans y9
    have y11 : Same G0 H13 := s4.trans y10
    have y12 : Same H3 H13 := g0.trans y11
    have y13 : Same H2 H13 := s3.trans y12
    have y14 : Same H1 H13 := s2.trans y13
    have y15 : Same H0 H13 := s1.trans y14
    have y16 : Same H H13 := s0.trans y15
    replace e0 := e0.same y15
    replace e1 := e1.same y14
    replace e2 := e2.same y13
    replace e3 := e3.same y12
    replace e4 := e4.same y10
    replace e5 := e5.same y9
    replace e6 := e6.same y8
    replace e7 := e7.same y7
    replace e8 := e8.same y5
    replace e9 := e9.same y4
    replace e10 := e10.same y3
    replace e11 := e11.same y2
    replace e12 := e12.same y0
    replace e13 := e13.same (Same.refl H13)
    replace ta := ta.same y16
    replace tb := tb.same y16
    refine go_seq (go_asg (go_lst (rda_cons (rd_exf (rd_var rfl) e0 lk1) (rda_cons (rd_exf (rd_var rfl) e1 lk1) (rda_cons (rd_exf (rd_var rfl) e2 lk1) (rda_cons (rd_exf (rd_var rfl) e3 lk1) (rda_cons (rd_exf (rd_var rfl) e4 lk1) (rda_cons (rd_exf (rd_var rfl) e5 lk1) (rda_cons (rd_exf (rd_var rfl) e6 lk1) (rda_cons (rd_exf (rd_var rfl) e7 lk1) (rda_cons (rd_exf (rd_var rfl) e8 lk1) rda_nil))))))))) (by show 9 ≤ sizeLine; decide) fun p0 L0 n0 => go_name (σ' := [some a, some b, some (.ref z0), some (.ref z1), some (.ref z2), some (.ref z3), some (.ref z4), some (.ref z5), some (.ref z6), some (.ref z7), some (.ref z8), some (.ref z9), some (.ref z10), some (.ref z11), some (.ref z12), some (.ref z13), some (.ref p0), none, none]) rfl (go_nx ?_)))
    replace e0 := e0.same n0.s
    replace e1 := e1.same n0.s
    replace e2 := e2.same n0.s
    replace e3 := e3.same n0.s
    replace e4 := e4.same n0.s
    replace e5 := e5.same n0.s
    replace e6 := e6.same n0.s
    replace e7 := e7.same n0.s
    replace e8 := e8.same n0.s
    replace e9 := e9.same n0.s
    replace e10 := e10.same n0.s
    replace e11 := e11.same n0.s
    replace e12 := e12.same n0.s
    replace e13 := e13.same n0.s
    have fa0 := ta.fresh n0
    have fb0 := tb.fresh n0
    replace ta := ta.same n0.s
    replace tb := tb.same n0.s
    refine go_seq (go_asg (go_cat (rd_var rfl) n0.e (rda_cons (rd_exf (rd_var rfl) e8 (lk2 (by decide))) (rda_cons (rd_exf (rd_var rfl) e9 lk1) (rda_cons (rd_exf (rd_var rfl) e10 lk1) (rda_cons (rd_exf (rd_var rfl) e11 lk1) (rda_cons (rd_exf (rd_var rfl) e12 lk1) (rda_cons (rd_exf (rd_var rfl) e12 (lk2 (by decide))) (rda_cons (rd_exf (rd_var rfl) e13 lk1) (rda_cons (rd_exf (rd_var rfl) e13 (lk2 (by decide))) rda_nil)))))))) (by show 9 + 8 ≤ sizeLine; decide) fun p1 L1 n1 => go_name (σ' := [some a, some b, some (.ref z0), some (.ref z1), some (.ref z2), some (.ref z3), some (.ref z4), some (.ref z5), some (.ref z6), some (.ref z7), some (.ref z8), some (.ref z9), some (.ref z10), some (.ref z11), some (.ref z12), some (.ref z13), some (.ref p1), none, none]) rfl (go_nx ?_)))
    replace e0 := e0.same n1.s
    replace e1 := e1.same n1.s
    replace e2 := e2.same n1.s
    replace e3 := e3.same n1.s
    replace e4 := e4.same n1.s
    replace e5 := e5.same n1.s
    replace e6 := e6.same n1.s
    replace e7 := e7.same n1.s
    replace e8 := e8.same n1.s
    replace e9 := e9.same n1.s
    replace e10 := e10.same n1.s
    replace e11 := e11.same n1.s
    replace e12 := e12.same n1.s
    replace e13 := e13.same n1.s
    have fa1 := ta.fresh n1
    have fb1 := tb.fresh n1
    replace ta := ta.same n1.s
    replace tb := tb.same n1.s
    refine go_seq (go_asg ((mk_cat (mk_cat (mk_cat (mk_rep (m := 9) (mk_lst (rda_cons (rd_var rfl) rda_nil) (by show 1 ≤ sizeLine; decide)) (fun _ _ => rd_c) (by decide) (by show 1 * 9 ≤ sizeLine; decide)) (fun _ _ => mk_lst (rda_cons (rd_var rfl) rda_nil) (by show 1 ≤ sizeLine; decide)) (by show 9 + 1 ≤ sizeLine; decide)) (fun _ _ => mk_rep (m := 4) (mk_lst (rda_cons (rd_var rfl) rda_nil) (by show 1 ≤ sizeLine; decide)) (fun _ _ => rd_c) (by decide) (by show 1 * 4 ≤ sizeLine; decide)) (by show 10 + 4 ≤ sizeLine; decide)) (fun _ _ => mk_lst (rda_cons (rd_var rfl) (rda_cons (rd_var rfl) (rda_cons (rd_var rfl) rda_nil))) (by show 3 ≤ sizeLine; decide)) (by show 14 + 3 ≤ sizeLine; decide)) _ fun q LD nD => go_name (σ' := [some a, some b, some (.ref z0), some (.ref z1), some (.ref z2), some (.ref z3), some (.ref z4), some (.ref z5), some (.ref z6), some (.ref z7), some (.ref z8), some (.ref z9), some (.ref z10), some (.ref z11), some (.ref z12), some (.ref z13), some (.ref p1), some (.ref q), none]) rfl (go_nx ?_)))
    replace e0 := e0.same nD.s
    replace e1 := e1.same nD.s
    replace e2 := e2.same nD.s
    replace e3 := e3.same nD.s
    replace e4 := e4.same nD.s
    replace e5 := e5.same nD.s
    replace e6 := e6.same nD.s
    replace e7 := e7.same nD.s
    replace e8 := e8.same nD.s
    replace e9 := e9.same nD.s
    replace e10 := e10.same nD.s
    replace e11 := e11.same nD.s
    replace e12 := e12.same nD.s
    replace e13 := e13.same nD.s
    have fqa := ta.fresh nD
    have fqb := tb.fresh nD
    replace ta := ta.same nD.s
    replace tb := tb.same nD.s
    have ht : LD p1 = some (.lst [a, a, a, a, a, a, a, a, a, b, a, a, a, a, b, a, b]) := nD.s _ _ n1.e
    have hq : LD q = some (.lst [a, a, a, a, a, a, a, a, a, b, a, a, a, a, b, a, b]) := nD.e
    have hv : ∀ v ∈ ([a, a, a, a, a, a, a, a, a, b, a, a, a, a, b, a, b] : List V), v = a ∨ v = b := by
      intro v hv
      simp only [List.mem_cons, List.mem_nil_iff, or_false] at hv
      rcases hv with h | h | h | h | h | h | h | h | h | h | h | h | h | h | h | h | h <;> simp [h]
    obtain ⟨t1, w1, w2, w3, w4, w5⟩ := shows_two (X := _) ta tb (by omega) hv (by show 17 ≤ 20; decide) ht hq
    refine go_reprs rfl rfl w1 w2 w3 w4 w5 ?_
    refine go_grow rfl ta tb (by omega) fun LG d' e' ta' tb' kp kx => ?_
    replace ht := kp _ _ fa1 ht
    replace hq := kp _ _ fqa hq
    replace e0 := kx _ _ _ e0
    replace e1 := kx _ _ _ e1
    replace e2 := kx _ _ _ e2
    replace e3 := kx _ _ _ e3
    replace e4 := kx _ _ _ e4
    replace e5 := kx _ _ _ e5
    replace e6 := kx _ _ _ e6
    replace e7 := kx _ _ _ e7
    replace e8 := kx _ _ _ e8
    replace e9 := kx _ _ _ e9
    replace e10 := kx _ _ _ e10
    replace e11 := kx _ _ _ e11
    replace e12 := kx _ _ _ e12
    replace e13 := kx _ _ _ e13
    obtain ⟨t2, w1, w2, w3, w4, w5⟩ := shows_two (X := _) ta' tb' (by omega) hv (by show 17 ≤ 20; decide) ht hq
    refine go_reprs rfl rfl w1 w2 w3 w4 w5 ?_
    refine go_seq (go_asg (go_lst (rda_cons (rd_var rfl) (rda_cons (rd_var rfl) (rda_cons (rd_var rfl) (rda_cons (rd_var rfl) (rda_cons (rd_var rfl) (rda_cons (rd_var rfl) (rda_cons (rd_var rfl) (rda_cons (rd_var rfl) (rda_cons (rd_var rfl) (rda_cons (rd_var rfl) (rda_cons (rd_var rfl) (rda_cons (rd_var rfl) (rda_cons (rd_var rfl) (rda_cons (rd_var rfl) rda_nil)))))))))))))) (by show 14 ≤ sizeLine; decide) fun pm LM nM => go_name (σ' := [some a, some b, some (.ref z0), some (.ref z1), some (.ref z2), some (.ref z3), some (.ref z4), some (.ref z5), some (.ref z6), some (.ref z7), some (.ref z8), some (.ref z9), some (.ref z10), some (.ref z11), some (.ref z12), some (.ref z13), some (.ref p1), some (.ref q), some (.ref pm)]) rfl (go_nx ?_)))
    have hm : ∀ i, i < 14 → ∃ z fs, ([.ref z0, .ref z1, .ref z2, .ref z3, .ref z4, .ref z5, .ref z6, .ref z7, .ref z8, .ref z9, .ref z10, .ref z11, .ref z12, .ref z13] : List V)[i]? = some (.ref z) ∧ ExcAt LM z (c (0 + i)) fs
      | 0, _ => ⟨_, _, rfl, e0.same nM.s⟩
      | 1, _ => ⟨_, _, rfl, e1.same nM.s⟩
      | 2, _ => ⟨_, _, rfl, e2.same nM.s⟩
      | 3, _ => ⟨_, _, rfl, e3.same nM.s⟩
      | 4, _ => ⟨_, _, rfl, e4.same nM.s⟩
      | 5, _ => ⟨_, _, rfl, e5.same nM.s⟩
      | 6, _ => ⟨_, _, rfl, e6.same nM.s⟩
      | 7, _ => ⟨_, _, rfl, e7.same nM.s⟩
      | 8, _ => ⟨_, _, rfl, e8.same nM.s⟩
      | 9, _ => ⟨_, _, rfl, e9.same nM.s⟩
      | 10, _ => ⟨_, _, rfl, e10.same nM.s⟩
      | 11, _ => ⟨_, _, rfl, e11.same nM.s⟩
      | 12, _ => ⟨_, _, rfl, e12.same nM.s⟩
      | 13, _ => ⟨_, _, rfl, e13.same nM.s⟩
      | n + 14, h => absurd h (by omega)
    refine go_ret (go_op (go_none_range (n := 14) (fvs := [some (.ref pm)]) (rda_cons rd_c rda_nil) (by decide) rfl (fun i H' R hi sm kR => ?_) fun p9 H9 n9 => go_lst rda_nil (by show 0 ≤ sizeLine; decide) fun p10 H10 n10 => ?_))
    · obtain ⟨zi, fs, hz, hx⟩ := hm i hi
      refine ⟨.ref pm, rfl, .int i, rfl, pm, _, i, .ref zi, rfl, rfl, SqL.of (sm _ _ nM.e), atI_nat hz, .int i, rfl, zi, 0 + i, fs, by rw [Nat.zero_add]; rfl, by omega, hx.same sm, fun H2 s2 => ⟨true, rfl, kR H2 s2⟩⟩
    · refine ⟨.lst [], .lst [], rep_nil (n10.s _ _ n9.e), rep_nil n10.e, by decide, ?_⟩
      rw [eqDt_refl]
      exact k H10 _ _ (ta'.same (nM.s.trans (n9.s.trans n10.s))) (tb'.same (nM.s.trans (n9.s.trans n10.s)))
end
end K17
set_option Elab.async false
set_option linter.all false
set_option maxRecDepth 100000
set_option maxHeartbeats 8000000
namespace K17
open PySem L2 PyProof.Rows
section
variable {P : Program} {w : World} {K : PySem.W.Frag} {mg : Str → Option Value} {base : Heap} {c : Nat → Addr} {R : Addr}
theorem D_half2 (T : Txt K mg c R) : Def P w K mg base CX0 3 "_law_second_half" ["_law_one", "_law_other"] sp_half := by
  have D_right := D_right (P := P) (w := w) (base := base) T
  refine def_of T.d_half2 sc_half2 (fun vs H Q E h => ?_) (fun _ _ _ _ _ _ us hl => match us, hl with | [_, _], _ => rfl) (fun f cdv A outer s H vs Q E hr h => ?_)
  · obtain ⟨a, b, d, e, n, rfl, _⟩ := h
    rfl
  · obtain ⟨a, b, d, e, n, rfl, ta, tb, hn, k⟩ := h
    have nd := sc_half2.nd
    refine ⟨_, (pss_cons (ps_asg (pe_tupA (pa_cons (pe_ex2 T.e_NoHole (I_NoHole T.e_NoHole.S T.a_NoHole_size T.a_NoHole_largest) hr (pa_cons (pv 0) (pa_cons (pv 1) pa_nil))) (pa_cons (pe_ex1 T.e_NoRule (I_NoRule T.e_NoRule.S T.a_NoRule_word) hr (pa_cons (pv 0) pa_nil)) (pa_cons (pe_ex2 T.e_Pinned (I_Pinned T.e_Pinned.S T.a_Pinned_name T.a_Pinned_pins) hr (pa_cons (pv 0) (pa_cons (pv 1) pa_nil))) (pa_cons (pe_ex1 T.e_NotPinned (I_NotPinned T.e_NotPinned.S T.a_NotPinned_name) hr (pa_cons (pv 0) pa_nil)) pa_nil))))) (pg_tup rfl (pgs_cons (pg_name (i := 2) nd rfl (Or.inl rfl)) (pgs_cons (pg_name (i := 3) nd rfl (Or.inl rfl)) (pgs_cons (pg_name (i := 4) nd rfl (Or.inl rfl)) (pgs_cons (pg_name (i := 5) nd rfl (Or.inl rfl)) pgs_nil))))))
      (pss_cons (ps_asg (pe_tupA (pa_cons (pe_ex1 T.e_Gone (I_Gone T.e_Gone.S T.a_Gone_name) hr (pa_cons (pv 0) pa_nil)) (pa_cons (pe_ex1 T.e_NoMoves (I_NoMoves T.e_NoMoves.S T.a_NoMoves_moves) hr (pa_cons (pv 0) pa_nil)) (pa_cons (pe_ex2 T.e_NoSlide (I_NoSlide T.e_NoSlide.S T.a_NoSlide_name T.a_NoSlide_to) hr (pa_cons (pv 0) (pa_cons (pv 1) pa_nil))) (pa_cons (pe_ex1 T.e_Sliding (I_Sliding T.e_Sliding.S T.a_Sliding_copied) hr (pa_cons (pv 0) pa_nil)) pa_nil))))) (pg_tup rfl (pgs_cons (pg_name (i := 6) nd rfl (Or.inl rfl)) (pgs_cons (pg_name (i := 7) nd rfl (Or.inl rfl)) (pgs_cons (pg_name (i := 8) nd rfl (Or.inl rfl)) (pgs_cons (pg_name (i := 9) nd rfl (Or.inl rfl)) pgs_nil))))))
      (pss_cons (ps_asg (pe_tupA (pa_cons (pe_ex0 T.e_NotSliding) (pa_cons (pe_ex1 T.e_Fixed (I_Fixed T.e_Fixed.S T.a_Fixed_word) hr (pa_cons (pv 0) pa_nil)) (pa_cons (pe_ex2 T.e_NoRoom (I_NoRoom T.e_NoRoom.S T.a_NoRoom_size T.a_NoRoom_stretches) hr (pa_cons (pv 0) (pa_cons (pv 1) pa_nil))) (pa_cons (pe_ex1 T.e_NoWay (I_NoWay T.e_NoWay.S T.a_NoWay_way) hr (pa_cons (pv 0) pa_nil)) pa_nil))))) (pg_tup rfl (pgs_cons (pg_name (i := 10) nd rfl (Or.inl rfl)) (pgs_cons (pg_name (i := 11) nd rfl (Or.inl rfl)) (pgs_cons (pg_name (i := 12) nd rfl (Or.inl rfl)) (pgs_cons (pg_name (i := 13) nd rfl (Or.inl rfl)) pgs_nil))))))
      (pss_cons (ps_par (i := 14) (j := 15) rfl nd rfl rfl (by decide) rfl rfl (pa_cons (pe_ex1 T.e_NoAsks (I_NoAsks T.e_NoAsks.S T.a_NoAsks_at) hr (pa_cons (pv 0) pa_nil)) (pa_cons (pe_ex1 T.e_NoLine (I_NoLine T.e_NoLine.S T.a_NoLine_line) hr (pa_cons (pv 0) pa_nil)) pa_nil)) rfl)
      (pss_cons (ps_set (i := 16) nd rfl (Or.inl rfl) (pe_lstA (pa_cons (pe_exf T.e_NoHole.I.g T.a_NoHole_size (pv 2)) (pa_cons (pe_exf T.e_NoHole.I.g T.a_NoHole_largest (pv 2)) (pa_cons (pe_exf T.e_NoRule.I.g T.a_NoRule_word (pv 3)) (pa_cons (pe_exf T.e_Pinned.I.g T.a_Pinned_name (pv 4)) (pa_cons (pe_exf T.e_Pinned.I.g T.a_Pinned_pins (pv 4)) (pa_cons (pe_exf T.e_NotPinned.I.g T.a_NotPinned_name (pv 5)) (pa_cons (pe_exf T.e_Gone.I.g T.a_Gone_name (pv 6)) (pa_cons (pe_exf T.e_NoMoves.I.g T.a_NoMoves_moves (pv 7)) pa_nil))))))))))
      (pss_cons (ps_set (i := 16) nd rfl (Or.inl rfl) (pe_op op_catA (pv 16) (pe_lstA (pa_cons (pe_exf T.e_NoSlide.I.g T.a_NoSlide_name (pv 8)) (pa_cons (pe_exf T.e_NoSlide.I.g T.a_NoSlide_to (pv 8)) (pa_cons (pe_exf T.e_Sliding.I.g T.a_Sliding_copied (pv 9)) (pa_cons (pe_exf T.e_Fixed.I.g T.a_Fixed_word (pv 11)) (pa_cons (pe_exf T.e_NoRoom.I.g T.a_NoRoom_size (pv 12)) (pa_cons (pe_exf T.e_NoRoom.I.g T.a_NoRoom_stretches (pv 12)) (pa_cons (pe_exf T.e_NoWay.I.g T.a_NoWay_way (pv 13)) (pa_cons (pe_exf T.e_NoAsks.I.g T.a_NoAsks_at (pv 14)) pa_nil)))))))))))
      (pss_cons (ps_set (i := 17) nd rfl (Or.inl rfl) (pe_lstA (pa_cons (pv 0) (pa_cons (pv 1) (pa_cons (pv 0) (pa_cons (pv 0) (pa_cons (pv 1) (pa_cons (pv 0) (pa_cons (pv 0) (pa_cons (pv 0) (pa_cons (pv 0) (pa_cons (pv 1) (pa_cons (pv 0) (pa_cons (pv 0) (pa_cons (pv 0) (pa_cons (pv 1) (pa_cons (pv 0) (pa_cons (pv 0) (pa_cons (pv 0) pa_nil)))))))))))))))))))
      (pss_cons (ps_expr (pe_appendA (pv 16) (pe_exf T.e_NoLine.I.g T.a_NoLine_line (pv 15))))
      (pss_cons (ps_if (pt_cmpR op_ne (pe_callB (call_rep hr) rfl T.n_repr boot_repr (pa_cons (pv 16) pa_nil)) (pe_callB (call_rep hr) rfl T.n_repr boot_repr (pa_cons (pv 17) pa_nil)) (nomark _)) (pss_one (ps_ret pe_bl)) pss_nil)
      (pss_cons (ps_if (pt_val (pe_callB call_isT rfl T.n_isinstance boot_isinstance (pa_cons (pv 0) (pa_cons (pe_ty (T := "list") rfl T.n_list boot_list) pa_nil)))) (pss_one (ps_expr (pe_appendA (pv 0) pe_int))) pss_nil)
      (pss_cons (ps_if (pt_cmpR op_ne (pe_callB (call_rep hr) rfl T.n_repr boot_repr (pa_cons (pv 16) pa_nil)) (pe_callB (call_rep hr) rfl T.n_repr boot_repr (pa_cons (pv 17) pa_nil)) (nomark _)) (pss_one (ps_ret pe_bl)) pss_nil)
      (pss_cons (ps_set (i := 18) nd rfl (Or.inr rfl) (pe_lstA (pa_cons (pv 2) (pa_cons (pv 3) (pa_cons (pv 4) (pa_cons (pv 5) (pa_cons (pv 6) (pa_cons (pv 7) (pa_cons (pv 8) (pa_cons (pv 9) (pa_cons (pv 10) (pa_cons (pv 11) (pa_cons (pv 12) (pa_cons (pv 13) (pa_cons (pv 14) (pa_cons (pv 15) pa_nil))))))))))))))))
      (pss_one (ps_ret (pe_cmpR (op_eq_d hr) (pe_comp (N := ["_law_k", "_law_made"]) (nt := 1) (fr := [18]) (pi_range1 rfl T.n_range (pa_cons pe_int pa_nil)) (fun _ _ _ _ => pg_name (i := 0) (show (["_law_k", "_law_made"] : List Str).Nodup from by decide +kernel) rfl (Or.inl rfl)) (fun _ _ _ _ => pif_one (pt_not (pt_val (pe_def D_right hr (pa_cons (pe_ix (show IxR _ (rIxL K) from ix_list) (pv 1) (pv 0) (fun _ _ => rfl)) (pa_cons (pe_op op_add pe_int (pv 0)) pa_nil)))))) (fun _ _ _ _ => pv 0)) (pe_lstA pa_nil) (nomark _)))))))))))))))), ?_⟩
    refine go_seq (go_asg (go_tupA (go_cons (go_ex2 (rda_cons (rd_var rfl) (rda_cons (rd_var rfl) rda_nil)) (by decide) fun z0 H0 s0 e0 => go_cons (go_ex1 (rda_cons (rd_var rfl) rda_nil) fun z1 H1 s1 e1 => go_cons (go_ex2 (rda_cons (rd_var rfl) (rda_cons (rd_var rfl) rda_nil)) (by decide) fun z2 H2 s2 e2 => go_cons (go_ex1 (rda_cons (rd_var rfl) rda_nil) fun z3 H3 s3 e3 => go_nil (go_four (σ' := [some a, some b, some (.ref z0), some (.ref z1), some (.ref z2), some (.ref z3), none, none, none, none, none, none, none, none, none, none, none, none, none]) rfl fun G0 g0 => go_nx ?_))))))))
    refine go_seq (go_asg (go_tupA (go_cons (go_ex1 (rda_cons (rd_var rfl) rda_nil) fun z4 H4 s4 e4 => go_cons (go_ex1 (rda_cons (rd_var rfl) rda_nil) fun z5 H5 s5 e5 => go_cons (go_ex2 (rda_cons (rd_var rfl) (rda_cons (rd_var rfl) rda_nil)) (by decide) fun z6 H6 s6 e6 => go_cons (go_ex1 (rda_cons (rd_var rfl) rda_nil) fun z7 H7 s7 e7 => go_nil (go_four (σ' := [some a, some b, some (.ref z0), some (.ref z1), some (.ref z2), some (.ref z3), some (.ref z4), some (.ref z5), some (.ref z6), some (.ref z7), none, none, none, none, none, none, none, none, none]) rfl fun G1 g1 => go_nx ?_))))))))
    refine go_seq (go_asg (go_tupA (go_cons (go_ex0 fun z8 H8 s8 e8 => go_cons (go_ex1 (rda_cons (rd_var rfl) rda_nil) fun z9 H9 s9 e9 => go_cons (go_ex2 (rda_cons (rd_var rfl) (rda_cons (rd_var rfl) rda_nil)) (by decide) fun z10 H10 s10 e10 => go_cons (go_ex1 (rda_cons (rd_var rfl) rda_nil) fun z11 H11 s11 e11 => go_nil (go_four (σ' := [some a, some b, some (.ref z0), some (.ref z1), some (.ref z2), some (.ref z3), some (.ref z4), some (.ref z5), some (.ref z6), some (.ref z7), some (.ref z8), some (.ref z9), some (.ref z10), some (.ref z11), none, none, none, none, none]) rfl fun G2 g2 => go_nx ?_))))))))
    refine go_seq (go_par (go_cons (go_ex1 (rda_cons (rd_var rfl) rda_nil) fun z12 H12 s12 e12 => go_cons (go_ex1 (rda_cons (rd_var rfl) rda_nil) fun z13 H13 s13 e13 => go_nil (go_two (σ' := [some a, some b, some (.ref z0), some (.ref z1), some (.ref z2), some (.ref z3), some (.ref z4), some (.ref z5), some (.ref z6), some (.ref z7), some (.ref z8), some (.ref z9), some (.ref z10), some (.ref z11), some (.ref z12), some (.ref z13), none, none, none]) rfl (go_nx ?_))))))
    have y0 : Same H12 H13 := s13.trans (Same.refl H13)
    have y1 : Same G2 H13 := s12.trans y0
    have y2 : Same H11 H13 := g2.trans y1
    have y3 : Same H10 H13 := s11.trans y2
    have y4 : Same H9 H13 := s10.trans y3
    have y5 : Same H8 H13 := s9.trans y4
    have y6 : Same G1 H13 := s8.trans y5
    have y7 : Same H7 H13 := g1.trans y6
    have y8 : Same H6 H13 := s7.trans y7
    have y9 : Same H5 H13 := s6.trans y8
    have y10 : Same H4 H13 := s5.trans y9
    have y11 : Same G0 H13 := s4.trans y10
    have y12 : Same H3 H13 := g0.trans y11
    have y13 : Same H2 H13 := s3.trans y12
    have y14 : Same H1 H13 := s2.trans y13
    have y15 : Same H0 H13 := s1.trans y14
    have y16 : Same H H13 := s0.trans y15
    replace e0 := e0.same y15
    replace e1 := e1.same y14
    replace e2 := e2.same y13
    replace e3 := e3.same y12
    replace e4 := e4.same y10
    replace e5 := e5.same y9
    replace e6 := e6.same y8
    replace e7 := e7.same y7
    replace e8 := e8.same y5
    replace e9 := e9.same y4
    replace e10 := e10.same y3
    replace e11 := e11.same y2
    replace e12 := e12.same y0
    replace e13 := e13.same (Same.refl H13)
    replace ta := ta.same y16
    replace tb := tb.same y16
    refine go_seq (go_asg (go_lst (rda_cons (rd_exf (rd_var rfl) e0 lk1) (rda_cons (rd_exf (rd_var rfl) e0 (lk2 (by decide))) (rda_cons (rd_exf (rd_var rfl) e1 lk1) (rda_cons (rd_exf (rd_var rfl) e2 lk1) (rda_cons (rd_exf (rd_var rfl) e2 (lk2 (by decide))) (rda_cons (rd_exf (rd_var rfl) e3 lk1) (rda_cons (rd_exf (rd_var rfl) e4 lk1) (rda_cons (rd_exf (rd_var rfl) e5 lk1) rda_nil)))))))) (by show 8 ≤ sizeLine; decide) fun p0 L0 n0 => go_name (σ' := [some a, some b, some (.ref z0), some (.ref z1), some (.ref z2), some (.ref z3), some (.ref z4), some (.ref z5), some (.ref z6), some (.ref z7), some (.ref z8), some (.ref z9), some (.ref z10), some (.ref z11), some (.ref z12), some (.ref z13), some (.ref p0), none, none]) rfl (go_nx ?_)))
    replace e0 := e0.same n0.s
    replace e1 := e1.same n0.s
    replace e2 := e2.same n0.s
    replace e3 := e3.same n0.s
    replace e4 := e4.same n0.s
    replace e5 := e5.same n0.s
    replace e6 := e6.same n0.s
    replace e7 := e7.same n0.s
    replace e8 := e8.same n0.s
    replace e9 := e9.same n0.s
    replace e10 := e10.same n0.s
    replace e11 := e11.same n0.s
    replace e12 := e12.same n0.s
    replace e13 := e13.same n0.s
    have fa0 := ta.fresh n0
    have fb0 := tb.fresh n0
    replace ta := ta.same n0.s
    replace tb := tb.same n0.s
    refine go_seq (go_asg (go_cat (rd_var rfl) n0.e (rda_cons (rd_exf (rd_var rfl) e6 lk1) (rda_cons (rd_exf (rd_var rfl) e6 (lk2 (by decide))) (rda_cons (rd_exf (rd_var rfl) e7 lk1) (rda_cons (rd_exf (rd_var rfl) e9 lk1) (rda_cons (rd_exf (rd_var rfl) e10 lk1) (rda_cons (rd_exf (rd_var rfl) e10 (lk2 (by decide))) (rda_cons (rd_exf (rd_var rfl) e11 lk1) (rda_cons (rd_exf (rd_var rfl) e12 lk1) rda_nil)))))))) (by show 8 + 8 ≤ sizeLine; decide) fun p1 L1 n1 => go_name (σ' := [some a, some b, some (.ref z0), some (.ref z1), some (.ref z2), some (.ref z3), some (.ref z4), some (.ref z5), some (.ref z6), some (.ref z7), some (.ref z8), some (.ref z9), some (.ref z10), some (.ref z11), some (.ref z12), some (.ref z13), some (.ref p1), none, none]) rfl (go_nx ?_)))
    replace e0 := e0.same n1.s
    replace e1 := e1.same n1.s
    replace e2 := e2.same n1.s
    replace e3 := e3.same n1.s
    replace e4 := e4.same n1.s
    replace e5 := e5.same n1.s
    replace e6 := e6.same n1.s
    replace e7 := e7.same n1.s
    replace e8 := e8.same n1.s
    replace e9 := e9.same n1.s
    replace e10 := e10.same n1.s
    replace e11 := e11.same n1.s
    replace e12 := e12.same n1.s
    replace e13 := e13.same n1.s
    have fa1 := ta.fresh n1
    have fb1 := tb.fresh n1
    replace ta := ta.same n1.s
    replace tb := tb.same n1.s
    refine go_seq (go_asg (go_lst (rda_cons (rd_var rfl) (rda_cons (rd_var rfl) (rda_cons (rd_var rfl) (rda_cons (rd_var rfl) (rda_cons (rd_var rfl) (rda_cons (rd_var rfl) (rda_cons (rd_var rfl) (rda_cons (rd_var rfl) (rda_cons (rd_var rfl) (rda_cons (rd_var rfl) (rda_cons (rd_var rfl) (rda_cons (rd_var rfl) (rda_cons (rd_var rfl) (rda_cons (rd_var rfl) (rda_cons (rd_var rfl) (rda_cons (rd_var rfl) (rda_cons (rd_var rfl) rda_nil))))))))))))))))) (by show 17 ≤ sizeLine; decide) fun q LD nD => go_name (σ' := [some a, some b, some (.ref z0), some (.ref z1), some (.ref z2), some (.ref z3), some (.ref z4), some (.ref z5), some (.ref z6), some (.ref z7), some (.ref z8), some (.ref z9), some (.ref z10), some (.ref z11), some (.ref z12), some (.ref z13), some (.ref p1), some (.ref q), none]) rfl (go_nx ?_)))
    replace e0 := e0.same nD.s
    replace e1 := e1.same nD.s
    replace e2 := e2.same nD.s
    replace e3 := e3.same nD.s
    replace e4 := e4.same nD.s
    replace e5 := e5.same nD.s
    replace e6 := e6.same nD.s
    replace e7 := e7.same nD.s
    replace e8 := e8.same nD.s
    replace e9 := e9.same nD.s
    replace e10 := e10.same nD.s
    replace e11 := e11.same nD.s
    replace e12 := e12.same nD.s
    replace e13 := e13.same nD.s
    have fqa := ta.fresh nD
    have fqb := tb.fresh nD
    replace ta := ta.same nD.s
    replace tb := tb.same nD.s
    have ht : LD p1 = some (.lst [a, b, a, a, b, a, a, a, a, b, a, a, a, b, a, a]) := nD.s _ _ n1.e
    have hqp : q ≠ p1 := fun w => nD.n p1 _ n1.e w.symm
    refine go_seq (go_drop ⟨_, rfl, .inl ⟨rfl, _, SqL.of ht⟩, go_cons (go_rd (rd_exf (rd_var rfl) e13 lk1) (go_nil ⟨p1, _, _, rfl, rfl, ht, by show 16 < sizeLine; decide, fun LE oE eE => go_nx ?_⟩))⟩)
    replace e0 := e0.off oE ht
    replace e1 := e1.off oE ht
    replace e2 := e2.off oE ht
    replace e3 := e3.off oE ht
    replace e4 := e4.off oE ht
    replace e5 := e5.off oE ht
    replace e6 := e6.off oE ht
    replace e7 := e7.off oE ht
    replace e8 := e8.off oE ht
    replace e9 := e9.off oE ht
    replace e10 := e10.off oE ht
    replace e11 := e11.off oE ht
    replace e12 := e12.off oE ht
    replace e13 := e13.off oE ht
    replace ta := ta.keep (Nat.le_refl _) fun x u w h => (oE x fun w2 => fa1 (by rw [w, w2])).trans h
    replace tb := tb.keep (Nat.le_refl _) fun x u w h => (oE x fun w2 => fb1 (by rw [w, w2])).trans h
    replace ht : LE p1 = some (.lst [a, b, a, a, b, a, a, a, a, b, a, a, a, b, a, a, a]) := eE
    have hq : LE q = some (.lst [a, b, a, a, b, a, a, a, a, b, a, a, a, b, a, a, a]) := (oE q hqp).trans nD.e
    have hv : ∀ v ∈ ([a, b, a, a, b, a, a, a, a, b, a, a, a, b, a, a, a] : List V), v = a ∨ v = b := by
      intro v hv
      simp only [List.mem_cons, List.mem_nil_iff, or_false] at hv
      rcases hv with h | h | h | h | h | h | h | h | h | h | h | h | h | h | h | h | h <;> simp [h]
    obtain ⟨t1, w1, w2, w3, w4, w5⟩ := shows_two (X := _) ta tb (by omega) hv (by show 17 ≤ 20; decide) ht hq
    refine go_reprs rfl rfl w1 w2 w3 w4 w5 ?_
    refine go_grow rfl ta tb (by omega) fun LG d' e' ta' tb' kp kx => ?_
    replace ht := kp _ _ fa1 ht
    replace hq := kp _ _ fqa hq
    replace e0 := kx _ _ _ e0
    replace e1 := kx _ _ _ e1
    replace e2 := kx _ _ _ e2
    replace e3 := kx _ _ _ e3
    replace e4 := kx _ _ _ e4
    replace e5 := kx _ _ _ e5
    replace e6 := kx _ _ _ e6
    replace e7 := kx _ _ _ e7
    replace e8 := kx _ _ _ e8
    replace e9 := kx _ _ _ e9
    replace e10 := kx _ _ _ e10
    replace e11 := kx _ _ _ e11
    replace e12 := kx _ _ _ e12
    replace e13 := kx _ _ _ e13
    obtain ⟨t2, w1, w2, w3, w4, w5⟩ := shows_two (X := _) ta' tb' (by omega) hv (by show 17 ≤ 20; decide) ht hq
    refine go_reprs rfl rfl w1 w2 w3 w4 w5 ?_
    refine go_seq (go_asg (go_lst (rda_cons (rd_var rfl) (rda_cons (rd_var rfl) (rda_cons (rd_var rfl) (rda_cons (rd_var rfl) (rda_cons (rd_var rfl) (rda_cons (rd_var rfl) (rda_cons (rd_var rfl) (rda_cons (rd_var rfl) (rda_cons (rd_var rfl) (rda_cons (rd_var rfl) (rda_cons (rd_var rfl) (rda_cons (rd_var rfl) (rda_cons (rd_var rfl) (rda_cons (rd_var rfl) rda_nil)))))))))))))) (by show 14 ≤ sizeLine; decide) fun pm LM nM => go_name (σ' := [some a, some b, some (.ref z0), some (.ref z1), some (.ref z2), some (.ref z3), some (.ref z4), some (.ref z5), some (.ref z6), some (.ref z7), some (.ref z8), some (.ref z9), some (.ref z10), some (.ref z11), some (.ref z12), some (.ref z13), some (.ref p1), some (.ref q), some (.ref pm)]) rfl (go_nx ?_)))
    have hm : ∀ i, i < 14 → ∃ z fs, ([.ref z0, .ref z1, .ref z2, .ref z3, .ref z4, .ref z5, .ref z6, .ref z7, .ref z8, .ref z9, .ref z10, .ref z11, .ref z12, .ref z13] : List V)[i]? = some (.ref z) ∧ ExcAt LM z (c (14 + i)) fs
      | 0, _ => ⟨_, _, rfl, e0.same nM.s⟩
      | 1, _ => ⟨_, _, rfl, e1.same nM.s⟩
      | 2, _ => ⟨_, _, rfl, e2.same nM.s⟩
      | 3, _ => ⟨_, _, rfl, e3.same nM.s⟩
      | 4, _ => ⟨_, _, rfl, e4.same nM.s⟩
      | 5, _ => ⟨_, _, rfl, e5.same nM.s⟩
      | 6, _ => ⟨_, _, rfl, e6.same nM.s⟩
      | 7, _ => ⟨_, _, rfl, e7.same nM.s⟩
      | 8, _ => ⟨_, _, rfl, e8.same nM.s⟩
      | 9, _ => ⟨_, _, rfl, e9.same nM.s⟩
      | 10, _ => ⟨_, _, rfl, e10.same nM.s⟩
      | 11, _ => ⟨_, _, rfl, e11.same nM.s⟩
      | 12, _ => ⟨_, _, rfl, e12.same nM.s⟩
      | 13, _ => ⟨_, _, rfl, e13.same nM.s⟩
      | n + 14, h => absurd h (by omega)
    refine go_ret (go_op (go_none_range (n := 14) (fvs := [some (.ref pm)]) (rda_cons rd_c rda_nil) (by decide) rfl (fun i H' R hi sm kR => ?_) fun p9 H9 n9 => go_lst rda_nil (by show 0 ≤ sizeLine; decide) fun p10 H10 n10 => ?_))
    · obtain ⟨zi, fs, hz, hx⟩ := hm i hi
      refine ⟨.ref pm, rfl, .int i, rfl, pm, _, i, .ref zi, rfl, rfl, SqL.of (sm _ _ nM.e), atI_nat hz, _, rfl, _, _, rfl, rfl, zi, 14 + i, fs, rfl, by omega, hx.same sm, fun H2 s2 => ⟨true, rfl, kR H2 s2⟩⟩
    · refine ⟨.lst [], .lst [], rep_nil (n10.s _ _ n9.e), rep_nil n10.e, by decide, ?_⟩
      rw [eqDt_refl]
      exact k H10 _ _ (ta'.same (nM.s.trans (n9.s.trans n10.s))) (tb'.same (nM.s.trans (n9.s.trans n10.s)))
end
end K17
set_option Elab.async false
set_option linter.all false
set_option maxRecDepth 100000
set_option maxHeartbeats 8000000
namespace K17
open PySem L2 PyProof.Rows
section
variable {P : Program} {w : World} {K : PySem.W.Frag} {mg : Str → Option Value} {base : Heap} {c : Nat → Addr} {R : Addr}
def rNeD (K : PySem.W.Frag) : R2 := fun x y H Q => ∃ d d', Rep K H d x ∧ Rep K H d' y ∧ depD d ≤ 100 ∧ Q (.bl (!eqDt d d')) H
theorem op_neD {X : Cx} {k : Nat} (hr : Room k X.A) : OpR X (compareOp .NotEq) (rNeD X.K) := op_ne_d hr
theorem go_first {H : Hp} {u : TS} {E : Ends} {a : Addr} {ns : List Int} (hS : SqL K H a (ns.map V.int)) (k : ∀ (cell : Int) (H' : Hp), Same H H' → u E [some (.ref a), some (.int cell), none, none, none] H') :
    tSeq (tIfS (tTest (tOp (rNeD K) (tVar 0) (tLstA tNil))) (tAsg (tOp (rIxL K) (tVar 0) (tC (.int 0))) (gName 1)) tNext) u E [some (.ref a), some (.int 0), none, none, none] H := by
  refine go_seq (go_if (go_test (go_op (go_rd (rd_var rfl) (go_lst rda_nil (by show 0 ≤ sizeLine; decide) fun pe He ne => ?_)))))
  refine ⟨.lst (ns.map Dt.int), .lst [], by simp only [Rep]; exact ⟨a, _, rfl, ne.s.seq hS, reps_ints _⟩, rep_nil ne.e, by simp only [depD]; rw [deps_ints]; decide, _, rfl, ?_⟩
  cases ns with
  | nil => exact iteF (k 0 He ne.s)
  | cons m ms =>
    refine iteT ⟨_, rfl, a, _, _, .int m, rfl, rfl, ne.s.seq hS, ?_, k m He ne.s⟩
    exact atI_0
theorem mul9 (m : Int) (h0 : 0 ≤ m) (h1 : m < 9) : MulOk "a" m ∧ (Txt.mul "a" m).length ≤ 8 ∧ ∀ c ∈ (Txt.mul "a" m).cps.toList, c < 16 ^ 8 := by
  obtain h | h | h | h | h | h | h | h | h : m = 0 ∨ m = 1 ∨ m = 2 ∨ m = 3 ∨ m = 4 ∨ m = 5 ∨ m = 6 ∨ m = 7 ∨ m = 8 := by omega
  all_goals (subst h; exact ⟨by unfold MulOk; decide +kernel, by decide +kernel, by decide +kernel⟩)
theorem small60 (m : Int) : (m % 10 ^ 60).natAbs < 10 ^ 60 := by
  have h1 := Int.emod_nonneg m (show (10 : Int) ^ 60 ≠ 0 by decide)
  have h2 := Int.emod_lt_of_pos m (show (0 : Int) < 10 ^ 60 by decide)
  omega
theorem ok_law (T : Txt K mg c R) {f : Addr} {fd : FuncData} (F : Fun K "law" "law" s_law f fd) : FnOk P w K mg base CX0 4 f fd ["_law_script"] (sp_law K) := by
  have D_half1 := D_half1 (P := P) (w := w) (base := base) T
  have D_half2 := D_half2 (P := P) (w := w) (base := base) T
  refine fnok_of F sc_law (fun vs H Q E h => ?_) (fun cdv A outer s H vs Q E hr h => ?_)
  · obtain ⟨a, ns, rfl, _⟩ := h
    rfl
  · obtain ⟨a, ns, rfl, hS, hlen, k⟩ := h
    have nd := sc_law.nd
    refine ⟨_, (pss_cons (ps_set (i := 1) nd rfl (Or.inl rfl) pe_int)
      (pss_cons (ps_if (pt_cmpR (op_neD hr) (pv 0) (pe_lstA pa_nil) (nomark _)) (pss_one (ps_set (i := 1) nd rfl (Or.inl rfl) (pe_ix ix_list (pv 0) pe_int (fun _ _ => rfl)))) pss_nil)
      (pss_cons (ps_set (i := 2) nd rfl (Or.inl rfl) (pe_lstA (pa_cons (pe_op op_mod (pv 1) (pe_op op_pow pe_int pe_int)) (pa_cons (pe_op op_mul_str pe_str (pe_op op_mod (pv 1) pe_int)) (pa_cons pe_non (pa_cons (pe_lstA (pa_cons (pe_op op_mod (pv 1) pe_int) pa_nil)) (pa_cons (pe_tupA (pa_cons pe_str (pa_cons (pe_op op_mod (pv 1) pe_int) pa_nil))) (pa_cons pe_bl pa_nil))))))))
      (pss_cons (ps_set (i := 3) nd rfl (Or.inl rfl) (pe_ix ix_list (pv 2) (pe_op op_mod (pe_op op_fdiv (pv 1) pe_int) pe_int) (fun _ _ => rfl)))
      (pss_cons (ps_set (i := 4) nd rfl (Or.inl rfl) (pe_ix ix_list (pv 2) (pe_op op_mod (pe_op op_fdiv (pv 1) pe_int) pe_int) (fun _ _ => rfl)))
      (pss_one (ps_ret (pe_and (pe_def D_half1 hr (pa_cons (pv 3) (pa_cons (pv 4) pa_nil))) (pe_one (pe_def D_half2 hr (pa_cons (pv 3) (pa_cons (pv 4) pa_nil)))))))))))), ?_⟩
    refine go_seq (go_asg (go_rd rd_c (go_name (σ' := [some (.ref a), some (.int 0), none, none, none]) rfl (go_nx ?_))))
    refine go_first hS fun cell H0 s0 => ?_
    obtain ⟨mo, ml, mc⟩ := mul9 (cell % 9) (by omega) (by omega)
    refine go_seq (go_asg ⟨_, rfl, _, _, rfl, rfl, ⟨by decide, by decide, by decide⟩, _, _, rfl, rfl, by show (0 : Int) < 10 ^ 60; decide, _, rfl, _, _, rfl, rfl, by show (0 : Int) < 9; decide, _, _, rfl, rfl, mo,
      _, rfl, _, _, rfl, rfl, by show (0 : Int) < 7; decide, by show 1 ≤ sizeLine; decide, fun pl Hl nl => ⟨_, rfl, _, _, rfl, rfl, by show (0 : Int) < 5; decide, by show 2 ≤ sizeLine; decide, fun pt Ht nt => ⟨by show 6 ≤ sizeLine; decide, fun p3 H3 n3 => go_name (σ' := [some (.ref a), some (.int cell), some (.ref p3), none, none]) rfl (go_nx ?_)⟩⟩⟩)
    have th : ∀ v ∈ ([.int (cell % 10 ^ 60), .str (Txt.mul "a" (cell % 9)), .non, .ref pl, .ref pt, .bl true] : List V), ∃ d, Thing H3 1 v d := by
      intro v hv
      simp only [List.mem_cons, List.mem_nil_iff, or_false] at hv
      rcases hv with h | h | h | h | h | h <;> subst h
      · exact ⟨_, .int _ (small60 cell)⟩
      · exact ⟨_, .str _ ml mc⟩
      · exact ⟨_, .non⟩
      · exact ⟨_, .lst pl [cell % 7] (n3.s _ _ (nt.s _ _ nl.e)) (Nat.le_refl _) fun x hx => by rw [List.mem_singleton.mp hx]; omega⟩
      · exact ⟨_, .tup pt "a" (cell % 5) (n3.s _ _ nt.e) (by decide) (by decide) (by omega)⟩
      · exact ⟨_, .bl true⟩
    have hl : H3 p3 = some (.lst [.int (cell % 10 ^ 60), .str (Txt.mul "a" (cell % 9)), .non, .ref pl, .ref pt, .bl true]) := n3.e
    obtain ⟨va, h1, m1⟩ := atI_lt (xs := ([.int (cell % 10 ^ 60), .str (Txt.mul "a" (cell % 9)), .non, .ref pl, .ref pt, .bl true] : List V)) (i := cell / 7 % 6) (by omega) (by show _ < ((6 : Nat) : Int); omega)
    obtain ⟨vb, h2, m2⟩ := atI_lt (xs := ([.int (cell % 10 ^ 60), .str (Txt.mul "a" (cell % 9)), .non, .ref pl, .ref pt, .bl true] : List V)) (i := cell / 42 % 6) (by omega) (by show _ < ((6 : Nat) : Int); omega)
    obtain ⟨da, ta⟩ := th va m1
    obtain ⟨db, tb⟩ := th vb m2
    refine go_seq (go_asg ⟨_, rfl, _, rfl, _, _, rfl, rfl, ⟨by decide, by decide⟩, _, _, rfl, rfl, by show (0 : Int) < 6; decide, p3, _, _, va, rfl, rfl, SqL.of hl, h1, go_name (σ' := [some (.ref a), some (.int cell), some (.ref p3), some va, none]) rfl (go_nx ?_)⟩)
    refine go_seq (go_asg ⟨_, rfl, _, rfl, _, _, rfl, rfl, ⟨by decide, by decide⟩, _, _, rfl, rfl, by show (0 : Int) < 6; decide, p3, _, _, vb, rfl, rfl, SqL.of hl, h2, go_name (σ' := [some (.ref a), some (.int cell), some (.ref p3), some va, some vb]) rfl (go_nx ?_)⟩)
    exact ⟨_, rfl, _, rfl, va, vb, da, db, 1, rfl, ta, tb, by decide, fun H' d' e' ta' tb' => ⟨true, rfl, iteT ⟨_, rfl, _, rfl, va, vb, d', e', 2, rfl, ta', tb', by decide, fun H2 _ _ _ _ => k H2⟩⟩⟩
theorem dis_of {l : List Addr} (nd : l.Nodup) {i j : Nat} (hi : i < l.length) (hj : j < l.length) (e : l.getD i 0 = l.getD j 0) : i = j := by
  rw [← List.getElem_eq_getD (h := hi), ← List.getElem_eq_getD (h := hj)] at e
  have pw := List.pairwise_iff_getElem.mp nd
  rcases Nat.lt_trichotomy i j with h | h | h
  · exact absurd e (pw i j hi hj h)
  · exact h
  · exact absurd e.symm (pw j i hj hi h)
theorem nR_of {l : List Addr} {R : Addr} (h : R ∉ l) {i : Nat} (hi : i < l.length) : l.getD i 0 ≠ R := by
  rw [← List.getElem_eq_getD (h := hi)]
  exact fun z => h (z ▸ List.getElem_mem hi)
end
theorem all_mk {l : PySem.W.OpenLaw} {w : World} {K : PySem.W.Frag} {h : Heap} {mg : Str → Option Value} {fa g0_ g1_ g2_ g3_ g4_ g5_ : Addr} (X : K.In h) (G : h.Ns mainGlobals mg) (hfa : mg "law" = some (.ref fa))
    {R : Addr}
    (eR : PySem.W.nsIn K mainGlobals "RoomError" = some (some (.ref R)))
    (eh : PySem.W.specialIn K (.builtin "object.__class__") "__get__" = some (some (.builtin "getset_descriptor.__get__")))
    (et : PySem.W.takesIn K (.builtin "object.__class__") = some true)
    {C0 N0 x0 : Addr} {nm0 q0 : Str} {bs0 : List Value} {sn0 : List Str} {sub0 : List Value} {ab0 : Bool} {col0 : Option Bool} {dd0 : Option Addr} {k00_ k10_ k20_ k30_ k50_ : Option Value}
    (ea0 : PySem.W.nsIn K mainGlobals "NoMany" = some (some (.ref C0)))
    (el0 : K.lookup C0 = some (excClassObj nm0 q0 C0 N0 bs0 [.ref R, .type "ValueError", .type "Exception", .type "BaseException", .type "object"] true sn0 sub0 ab0 col0 dd0 k00_ k10_ k20_ k30_ k50_ "ValueError.__new__"))
    {xd0 xn0 : Option Addr} {xs0 : Array (Option Value)} {xk0 xo0 xp0 xc0 xt0 : Value}
    (ei0 : PySem.W.findIn K (.ref C0) "__init__" = some (some (.ref x0)))
    (ef0 : K.lookup x0 = some ⟨.type "function", xd0, .func (PySem.W.fnOf "__init__" "NoMany.__init__" (defArgs i_NoMany) (defBody i_NoMany) (defScope i_NoMany) .none xk0 xo0 xp0 xn0 xc0 xt0), xs0⟩)
    (ec0 : PySem.W.codeIn K xc0 "NoMany.__init__" = true) (ek0 : PySem.W.keepIn K (.ref x0) = true) (es0 : PySem.W.findIn K (.ref C0) "__setattr__" = some (some (.builtin "object.__setattr__")))
    (em0 : PySem.W.keepIn K (.ref C0) = true) (eg0 : PySem.W.findIn K (.ref C0) "__getattribute__" = some (some (.builtin "BaseException.__getattribute__"))) (eb0 : PySem.W.findIn K (.ref C0) "__getattr__" = some none) (ej0 : PySem.W.findIn K (.ref C0) "__class__" = some (some (.builtin "object.__class__")))
    (en0_0 : PySem.W.findIn K (.ref C0) "many" = some none)
    {C1 N1 x1 : Addr} {nm1 q1 : Str} {bs1 : List Value} {sn1 : List Str} {sub1 : List Value} {ab1 : Bool} {col1 : Option Bool} {dd1 : Option Addr} {k01_ k11_ k21_ k31_ k51_ : Option Value}
    (ea1 : PySem.W.nsIn K mainGlobals "NoName" = some (some (.ref C1)))
    (el1 : K.lookup C1 = some (excClassObj nm1 q1 C1 N1 bs1 [.ref R, .type "ValueError", .type "Exception", .type "BaseException", .type "object"] true sn1 sub1 ab1 col1 dd1 k01_ k11_ k21_ k31_ k51_ "ValueError.__new__"))
    {xd1 xn1 : Option Addr} {xs1 : Array (Option Value)} {xk1 xo1 xp1 xc1 xt1 : Value}
    (ei1 : PySem.W.findIn K (.ref C1) "__init__" = some (some (.ref x1)))
    (ef1 : K.lookup x1 = some ⟨.type "function", xd1, .func (PySem.W.fnOf "__init__" "NoName.__init__" (defArgs i_NoName) (defBody i_NoName) (defScope i_NoName) .none xk1 xo1 xp1 xn1 xc1 xt1), xs1⟩)
    (ec1 : PySem.W.codeIn K xc1 "NoName.__init__" = true) (ek1 : PySem.W.keepIn K (.ref x1) = true) (es1 : PySem.W.findIn K (.ref C1) "__setattr__" = some (some (.builtin "object.__setattr__")))
    (em1 : PySem.W.keepIn K (.ref C1) = true) (eg1 : PySem.W.findIn K (.ref C1) "__getattribute__" = some (some (.builtin "BaseException.__getattribute__"))) (eb1 : PySem.W.findIn K (.ref C1) "__getattr__" = some none) (ej1 : PySem.W.findIn K (.ref C1) "__class__" = some (some (.builtin "object.__class__")))
    (en1_0 : PySem.W.findIn K (.ref C1) "name" = some none)
    {C2 N2 x2 : Addr} {nm2 q2 : Str} {bs2 : List Value} {sn2 : List Str} {sub2 : List Value} {ab2 : Bool} {col2 : Option Bool} {dd2 : Option Addr} {k02_ k12_ k22_ k32_ k52_ : Option Value}
    (ea2 : PySem.W.nsIn K mainGlobals "NoSize" = some (some (.ref C2)))
    (el2 : K.lookup C2 = some (excClassObj nm2 q2 C2 N2 bs2 [.ref R, .type "ValueError", .type "Exception", .type "BaseException", .type "object"] true sn2 sub2 ab2 col2 dd2 k02_ k12_ k22_ k32_ k52_ "ValueError.__new__"))
    {xd2 xn2 : Option Addr} {xs2 : Array (Option Value)} {xk2 xo2 xp2 xc2 xt2 : Value}
    (ei2 : PySem.W.findIn K (.ref C2) "__init__" = some (some (.ref x2)))
    (ef2 : K.lookup x2 = some ⟨.type "function", xd2, .func (PySem.W.fnOf "__init__" "NoSize.__init__" (defArgs i_NoSize) (defBody i_NoSize) (defScope i_NoSize) .none xk2 xo2 xp2 xn2 xc2 xt2), xs2⟩)
    (ec2 : PySem.W.codeIn K xc2 "NoSize.__init__" = true) (ek2 : PySem.W.keepIn K (.ref x2) = true) (es2 : PySem.W.findIn K (.ref C2) "__setattr__" = some (some (.builtin "object.__setattr__")))
    (em2 : PySem.W.keepIn K (.ref C2) = true) (eg2 : PySem.W.findIn K (.ref C2) "__getattribute__" = some (some (.builtin "BaseException.__getattribute__"))) (eb2 : PySem.W.findIn K (.ref C2) "__getattr__" = some none) (ej2 : PySem.W.findIn K (.ref C2) "__class__" = some (some (.builtin "object.__class__")))
    (en2_0 : PySem.W.findIn K (.ref C2) "size" = some none)
    {C3 N3 x3 : Addr} {nm3 q3 : Str} {bs3 : List Value} {sn3 : List Str} {sub3 : List Value} {ab3 : Bool} {col3 : Option Bool} {dd3 : Option Addr} {k03_ k13_ k23_ k33_ k53_ : Option Value}
    (ea3 : PySem.W.nsIn K mainGlobals "NoPlace" = some (some (.ref C3)))
    (el3 : K.lookup C3 = some (excClassObj nm3 q3 C3 N3 bs3 [.ref R, .type "ValueError", .type "Exception", .type "BaseException", .type "object"] true sn3 sub3 ab3 col3 dd3 k03_ k13_ k23_ k33_ k53_ "ValueError.__new__"))
    {xd3 xn3 : Option Addr} {xs3 : Array (Option Value)} {xk3 xo3 xp3 xc3 xt3 : Value}
    (ei3 : PySem.W.findIn K (.ref C3) "__init__" = some (some (.ref x3)))
    (ef3 : K.lookup x3 = some ⟨.type "function", xd3, .func (PySem.W.fnOf "__init__" "NoPlace.__init__" (defArgs i_NoPlace) (defBody i_NoPlace) (defScope i_NoPlace) .none xk3 xo3 xp3 xn3 xc3 xt3), xs3⟩)
    (ec3 : PySem.W.codeIn K xc3 "NoPlace.__init__" = true) (ek3 : PySem.W.keepIn K (.ref x3) = true) (es3 : PySem.W.findIn K (.ref C3) "__setattr__" = some (some (.builtin "object.__setattr__")))
    (em3 : PySem.W.keepIn K (.ref C3) = true) (eg3 : PySem.W.findIn K (.ref C3) "__getattribute__" = some (some (.builtin "BaseException.__getattribute__"))) (eb3 : PySem.W.findIn K (.ref C3) "__getattr__" = some none) (ej3 : PySem.W.findIn K (.ref C3) "__class__" = some (some (.builtin "object.__class__")))
    (en3_0 : PySem.W.findIn K (.ref C3) "at" = some none)
    {C4 N4 x4 : Addr} {nm4 q4 : Str} {bs4 : List Value} {sn4 : List Str} {sub4 : List Value} {ab4 : Bool} {col4 : Option Bool} {dd4 : Option Addr} {k04_ k14_ k24_ k34_ k54_ : Option Value}
    (ea4 : PySem.W.nsIn K mainGlobals "NoValue" = some (some (.ref C4)))
    (el4 : K.lookup C4 = some (excClassObj nm4 q4 C4 N4 bs4 [.ref R, .type "ValueError", .type "Exception", .type "BaseException", .type "object"] true sn4 sub4 ab4 col4 dd4 k04_ k14_ k24_ k34_ k54_ "ValueError.__new__"))
    {xd4 xn4 : Option Addr} {xs4 : Array (Option Value)} {xk4 xo4 xp4 xc4 xt4 : Value}
    (ei4 : PySem.W.findIn K (.ref C4) "__init__" = some (some (.ref x4)))
    (ef4 : K.lookup x4 = some ⟨.type "function", xd4, .func (PySem.W.fnOf "__init__" "NoValue.__init__" (defArgs i_NoValue) (defBody i_NoValue) (defScope i_NoValue) .none xk4 xo4 xp4 xn4 xc4 xt4), xs4⟩)
    (ec4 : PySem.W.codeIn K xc4 "NoValue.__init__" = true) (ek4 : PySem.W.keepIn K (.ref x4) = true) (es4 : PySem.W.findIn K (.ref C4) "__setattr__" = some (some (.builtin "object.__setattr__")))
    (em4 : PySem.W.keepIn K (.ref C4) = true) (eg4 : PySem.W.findIn K (.ref C4) "__getattribute__" = some (some (.builtin "BaseException.__getattribute__"))) (eb4 : PySem.W.findIn K (.ref C4) "__getattr__" = some none) (ej4 : PySem.W.findIn K (.ref C4) "__class__" = some (some (.builtin "object.__class__")))
    (en4_0 : PySem.W.findIn K (.ref C4) "value" = some none)
    {C5 N5 x5 : Addr} {nm5 q5 : Str} {bs5 : List Value} {sn5 : List Str} {sub5 : List Value} {ab5 : Bool} {col5 : Option Bool} {dd5 : Option Addr} {k05_ k15_ k25_ k35_ k55_ : Option Value}
    (ea5 : PySem.W.nsIn K mainGlobals "NoRow" = some (some (.ref C5)))
    (el5 : K.lookup C5 = some (excClassObj nm5 q5 C5 N5 bs5 [.ref R, .type "ValueError", .type "Exception", .type "BaseException", .type "object"] true sn5 sub5 ab5 col5 dd5 k05_ k15_ k25_ k35_ k55_ "ValueError.__new__"))
    {xd5 xn5 : Option Addr} {xs5 : Array (Option Value)} {xk5 xo5 xp5 xc5 xt5 : Value}
    (ei5 : PySem.W.findIn K (.ref C5) "__init__" = some (some (.ref x5)))
    (ef5 : K.lookup x5 = some ⟨.type "function", xd5, .func (PySem.W.fnOf "__init__" "NoRow.__init__" (defArgs i_NoRow) (defBody i_NoRow) (defScope i_NoRow) .none xk5 xo5 xp5 xn5 xc5 xt5), xs5⟩)
    (ec5 : PySem.W.codeIn K xc5 "NoRow.__init__" = true) (ek5 : PySem.W.keepIn K (.ref x5) = true) (es5 : PySem.W.findIn K (.ref C5) "__setattr__" = some (some (.builtin "object.__setattr__")))
    (em5 : PySem.W.keepIn K (.ref C5) = true) (eg5 : PySem.W.findIn K (.ref C5) "__getattribute__" = some (some (.builtin "BaseException.__getattribute__"))) (eb5 : PySem.W.findIn K (.ref C5) "__getattr__" = some none) (ej5 : PySem.W.findIn K (.ref C5) "__class__" = some (some (.builtin "object.__class__")))
    (en5_0 : PySem.W.findIn K (.ref C5) "row" = some none)
    {C6 N6 x6 : Addr} {nm6 q6 : Str} {bs6 : List Value} {sn6 : List Str} {sub6 : List Value} {ab6 : Bool} {col6 : Option Bool} {dd6 : Option Addr} {k06_ k16_ k26_ k36_ k56_ : Option Value}
    (ea6 : PySem.W.nsIn K mainGlobals "Twice" = some (some (.ref C6)))
    (el6 : K.lookup C6 = some (excClassObj nm6 q6 C6 N6 bs6 [.ref R, .type "ValueError", .type "Exception", .type "BaseException", .type "object"] true sn6 sub6 ab6 col6 dd6 k06_ k16_ k26_ k36_ k56_ "ValueError.__new__"))
    {xd6 xn6 : Option Addr} {xs6 : Array (Option Value)} {xk6 xo6 xp6 xc6 xt6 : Value}
    (ei6 : PySem.W.findIn K (.ref C6) "__init__" = some (some (.ref x6)))
    (ef6 : K.lookup x6 = some ⟨.type "function", xd6, .func (PySem.W.fnOf "__init__" "Twice.__init__" (defArgs i_Twice) (defBody i_Twice) (defScope i_Twice) .none xk6 xo6 xp6 xn6 xc6 xt6), xs6⟩)
    (ec6 : PySem.W.codeIn K xc6 "Twice.__init__" = true) (ek6 : PySem.W.keepIn K (.ref x6) = true) (es6 : PySem.W.findIn K (.ref C6) "__setattr__" = some (some (.builtin "object.__setattr__")))
    (em6 : PySem.W.keepIn K (.ref C6) = true) (eg6 : PySem.W.findIn K (.ref C6) "__getattribute__" = some (some (.builtin "BaseException.__getattribute__"))) (eb6 : PySem.W.findIn K (.ref C6) "__getattr__" = some none) (ej6 : PySem.W.findIn K (.ref C6) "__class__" = some (some (.builtin "object.__class__")))
    (en6_0 : PySem.W.findIn K (.ref C6) "name" = some none)
    {C7 N7 x7 : Addr} {nm7 q7 : Str} {bs7 : List Value} {sn7 : List Str} {sub7 : List Value} {ab7 : Bool} {col7 : Option Bool} {dd7 : Option Addr} {k07_ k17_ k27_ k37_ k57_ : Option Value}
    (ea7 : PySem.W.nsIn K mainGlobals "Outside" = some (some (.ref C7)))
    (el7 : K.lookup C7 = some (excClassObj nm7 q7 C7 N7 bs7 [.ref R, .type "ValueError", .type "Exception", .type "BaseException", .type "object"] true sn7 sub7 ab7 col7 dd7 k07_ k17_ k27_ k37_ k57_ "ValueError.__new__"))
    {xd7 xn7 : Option Addr} {xs7 : Array (Option Value)} {xk7 xo7 xp7 xc7 xt7 : Value}
    (ei7 : PySem.W.findIn K (.ref C7) "__init__" = some (some (.ref x7)))
    (ef7 : K.lookup x7 = some ⟨.type "function", xd7, .func (PySem.W.fnOf "__init__" "Outside.__init__" (defArgs i_Outside) (defBody i_Outside) (defScope i_Outside) .none xk7 xo7 xp7 xn7 xc7 xt7), xs7⟩)
    (ec7 : PySem.W.codeIn K xc7 "Outside.__init__" = true) (ek7 : PySem.W.keepIn K (.ref x7) = true) (es7 : PySem.W.findIn K (.ref C7) "__setattr__" = some (some (.builtin "object.__setattr__")))
    (em7 : PySem.W.keepIn K (.ref C7) = true) (eg7 : PySem.W.findIn K (.ref C7) "__getattribute__" = some (some (.builtin "BaseException.__getattribute__"))) (eb7 : PySem.W.findIn K (.ref C7) "__getattr__" = some none) (ej7 : PySem.W.findIn K (.ref C7) "__class__" = some (some (.builtin "object.__class__")))
    (en7_0 : PySem.W.findIn K (.ref C7) "name" = some none)
    {C8 N8 x8 : Addr} {nm8 q8 : Str} {bs8 : List Value} {sn8 : List Str} {sub8 : List Value} {ab8 : Bool} {col8 : Option Bool} {dd8 : Option Addr} {k08_ k18_ k28_ k38_ k58_ : Option Value}
    (ea8 : PySem.W.nsIn K mainGlobals "Overlap" = some (some (.ref C8)))
    (el8 : K.lookup C8 = some (excClassObj nm8 q8 C8 N8 bs8 [.ref R, .type "ValueError", .type "Exception", .type "BaseException", .type "object"] true sn8 sub8 ab8 col8 dd8 k08_ k18_ k28_ k38_ k58_ "ValueError.__new__"))
    {xd8 xn8 : Option Addr} {xs8 : Array (Option Value)} {xk8 xo8 xp8 xc8 xt8 : Value}
    (ei8 : PySem.W.findIn K (.ref C8) "__init__" = some (some (.ref x8)))
    (ef8 : K.lookup x8 = some ⟨.type "function", xd8, .func (PySem.W.fnOf "__init__" "Overlap.__init__" (defArgs i_Overlap) (defBody i_Overlap) (defScope i_Overlap) .none xk8 xo8 xp8 xn8 xc8 xt8), xs8⟩)
    (ec8 : PySem.W.codeIn K xc8 "Overlap.__init__" = true) (ek8 : PySem.W.keepIn K (.ref x8) = true) (es8 : PySem.W.findIn K (.ref C8) "__setattr__" = some (some (.builtin "object.__setattr__")))
    (em8 : PySem.W.keepIn K (.ref C8) = true) (eg8 : PySem.W.findIn K (.ref C8) "__getattribute__" = some (some (.builtin "BaseException.__getattribute__"))) (eb8 : PySem.W.findIn K (.ref C8) "__getattr__" = some none) (ej8 : PySem.W.findIn K (.ref C8) "__class__" = some (some (.builtin "object.__class__")))
    (en8_0 : PySem.W.findIn K (.ref C8) "name" = some none)
    (en8_1 : PySem.W.findIn K (.ref C8) "other" = some none)
    {C9 N9 x9 : Addr} {nm9 q9 : Str} {bs9 : List Value} {sn9 : List Str} {sub9 : List Value} {ab9 : Bool} {col9 : Option Bool} {dd9 : Option Addr} {k09_ k19_ k29_ k39_ k59_ : Option Value}
    (ea9 : PySem.W.nsIn K mainGlobals "TooMany" = some (some (.ref C9)))
    (el9 : K.lookup C9 = some (excClassObj nm9 q9 C9 N9 bs9 [.ref R, .type "ValueError", .type "Exception", .type "BaseException", .type "object"] true sn9 sub9 ab9 col9 dd9 k09_ k19_ k29_ k39_ k59_ "ValueError.__new__"))
    {xd9 xn9 : Option Addr} {xs9 : Array (Option Value)} {xk9 xo9 xp9 xc9 xt9 : Value}
    (ei9 : PySem.W.findIn K (.ref C9) "__init__" = some (some (.ref x9)))
    (ef9 : K.lookup x9 = some ⟨.type "function", xd9, .func (PySem.W.fnOf "__init__" "TooMany.__init__" (defArgs i_TooMany) (defBody i_TooMany) (defScope i_TooMany) .none xk9 xo9 xp9 xn9 xc9 xt9), xs9⟩)
    (ec9 : PySem.W.codeIn K xc9 "TooMany.__init__" = true) (ek9 : PySem.W.keepIn K (.ref x9) = true) (es9 : PySem.W.findIn K (.ref C9) "__setattr__" = some (some (.builtin "object.__setattr__")))
    (em9 : PySem.W.keepIn K (.ref C9) = true) (eg9 : PySem.W.findIn K (.ref C9) "__getattribute__" = some (some (.builtin "BaseException.__getattribute__"))) (eb9 : PySem.W.findIn K (.ref C9) "__getattr__" = some none) (ej9 : PySem.W.findIn K (.ref C9) "__class__" = some (some (.builtin "object.__class__")))
    (en9_0 : PySem.W.findIn K (.ref C9) "many" = some none)
    {C10 N10 x10 : Addr} {nm10 q10 : Str} {bs10 : List Value} {sn10 : List Str} {sub10 : List Value} {ab10 : Bool} {col10 : Option Bool} {dd10 : Option Addr} {k010_ k110_ k210_ k310_ k510_ : Option Value}
    (ea10 : PySem.W.nsIn K mainGlobals "NoBlock" = some (some (.ref C10)))
    (el10 : K.lookup C10 = some (excClassObj nm10 q10 C10 N10 bs10 [.ref R, .type "ValueError", .type "Exception", .type "BaseException", .type "object"] true sn10 sub10 ab10 col10 dd10 k010_ k110_ k210_ k310_ k510_ "ValueError.__new__"))
    {xd10 xn10 : Option Addr} {xs10 : Array (Option Value)} {xk10 xo10 xp10 xc10 xt10 : Value}
    (ei10 : PySem.W.findIn K (.ref C10) "__init__" = some (some (.ref x10)))
    (ef10 : K.lookup x10 = some ⟨.type "function", xd10, .func (PySem.W.fnOf "__init__" "NoBlock.__init__" (defArgs i_NoBlock) (defBody i_NoBlock) (defScope i_NoBlock) .none xk10 xo10 xp10 xn10 xc10 xt10), xs10⟩)
    (ec10 : PySem.W.codeIn K xc10 "NoBlock.__init__" = true) (ek10 : PySem.W.keepIn K (.ref x10) = true) (es10 : PySem.W.findIn K (.ref C10) "__setattr__" = some (some (.builtin "object.__setattr__")))
    (em10 : PySem.W.keepIn K (.ref C10) = true) (eg10 : PySem.W.findIn K (.ref C10) "__getattribute__" = some (some (.builtin "BaseException.__getattribute__"))) (eb10 : PySem.W.findIn K (.ref C10) "__getattr__" = some none) (ej10 : PySem.W.findIn K (.ref C10) "__class__" = some (some (.builtin "object.__class__")))
    (en10_0 : PySem.W.findIn K (.ref C10) "name" = some none)
    {C11 N11 x11 : Addr} {nm11 q11 : Str} {bs11 : List Value} {sn11 : List Str} {sub11 : List Value} {ab11 : Bool} {col11 : Option Bool} {dd11 : Option Addr} {k011_ k111_ k211_ k311_ k511_ : Option Value}
    (ea11 : PySem.W.nsIn K mainGlobals "NoText" = some (some (.ref C11)))
    (el11 : K.lookup C11 = some (excClassObj nm11 q11 C11 N11 bs11 [.ref R, .type "ValueError", .type "Exception", .type "BaseException", .type "object"] true sn11 sub11 ab11 col11 dd11 k011_ k111_ k211_ k311_ k511_ "ValueError.__new__"))
    {xd11 xn11 : Option Addr} {xs11 : Array (Option Value)} {xk11 xo11 xp11 xc11 xt11 : Value}
    (ei11 : PySem.W.findIn K (.ref C11) "__init__" = some (some (.ref x11)))
    (ef11 : K.lookup x11 = some ⟨.type "function", xd11, .func (PySem.W.fnOf "__init__" "NoText.__init__" (defArgs i_NoText) (defBody i_NoText) (defScope i_NoText) .none xk11 xo11 xp11 xn11 xc11 xt11), xs11⟩)
    (ec11 : PySem.W.codeIn K xc11 "NoText.__init__" = true) (ek11 : PySem.W.keepIn K (.ref x11) = true) (es11 : PySem.W.findIn K (.ref C11) "__setattr__" = some (some (.builtin "object.__setattr__")))
    (em11 : PySem.W.keepIn K (.ref C11) = true) (eg11 : PySem.W.findIn K (.ref C11) "__getattribute__" = some (some (.builtin "BaseException.__getattribute__"))) (eb11 : PySem.W.findIn K (.ref C11) "__getattr__" = some none) (ej11 : PySem.W.findIn K (.ref C11) "__class__" = some (some (.builtin "object.__class__")))
    (en11_0 : PySem.W.findIn K (.ref C11) "row" = some none)
    {C12 N12 x12 : Addr} {nm12 q12 : Str} {bs12 : List Value} {sn12 : List Str} {sub12 : List Value} {ab12 : Bool} {col12 : Option Bool} {dd12 : Option Addr} {k012_ k112_ k212_ k312_ k512_ : Option Value}
    (ea12 : PySem.W.nsIn K mainGlobals "NotFree" = some (some (.ref C12)))
    (el12 : K.lookup C12 = some (excClassObj nm12 q12 C12 N12 bs12 [.ref R, .type "ValueError", .type "Exception", .type "BaseException", .type "object"] true sn12 sub12 ab12 col12 dd12 k012_ k112_ k212_ k312_ k512_ "ValueError.__new__"))
    {xd12 xn12 : Option Addr} {xs12 : Array (Option Value)} {xk12 xo12 xp12 xc12 xt12 : Value}
    (ei12 : PySem.W.findIn K (.ref C12) "__init__" = some (some (.ref x12)))
    (ef12 : K.lookup x12 = some ⟨.type "function", xd12, .func (PySem.W.fnOf "__init__" "NotFree.__init__" (defArgs i_NotFree) (defBody i_NotFree) (defScope i_NotFree) .none xk12 xo12 xp12 xn12 xc12 xt12), xs12⟩)
    (ec12 : PySem.W.codeIn K xc12 "NotFree.__init__" = true) (ek12 : PySem.W.keepIn K (.ref x12) = true) (es12 : PySem.W.findIn K (.ref C12) "__setattr__" = some (some (.builtin "object.__setattr__")))
    (em12 : PySem.W.keepIn K (.ref C12) = true) (eg12 : PySem.W.findIn K (.ref C12) "__getattribute__" = some (some (.builtin "BaseException.__getattribute__"))) (eb12 : PySem.W.findIn K (.ref C12) "__getattr__" = some none) (ej12 : PySem.W.findIn K (.ref C12) "__class__" = some (some (.builtin "object.__class__")))
    (en12_0 : PySem.W.findIn K (.ref C12) "start" = some none)
    (en12_1 : PySem.W.findIn K (.ref C12) "size" = some none)
    {C13 N13 x13 : Addr} {nm13 q13 : Str} {bs13 : List Value} {sn13 : List Str} {sub13 : List Value} {ab13 : Bool} {col13 : Option Bool} {dd13 : Option Addr} {k013_ k113_ k213_ k313_ k513_ : Option Value}
    (ea13 : PySem.W.nsIn K mainGlobals "NotTaken" = some (some (.ref C13)))
    (el13 : K.lookup C13 = some (excClassObj nm13 q13 C13 N13 bs13 [.ref R, .type "ValueError", .type "Exception", .type "BaseException", .type "object"] true sn13 sub13 ab13 col13 dd13 k013_ k113_ k213_ k313_ k513_ "ValueError.__new__"))
    {xd13 xn13 : Option Addr} {xs13 : Array (Option Value)} {xk13 xo13 xp13 xc13 xt13 : Value}
    (ei13 : PySem.W.findIn K (.ref C13) "__init__" = some (some (.ref x13)))
    (ef13 : K.lookup x13 = some ⟨.type "function", xd13, .func (PySem.W.fnOf "__init__" "NotTaken.__init__" (defArgs i_NotTaken) (defBody i_NotTaken) (defScope i_NotTaken) .none xk13 xo13 xp13 xn13 xc13 xt13), xs13⟩)
    (ec13 : PySem.W.codeIn K xc13 "NotTaken.__init__" = true) (ek13 : PySem.W.keepIn K (.ref x13) = true) (es13 : PySem.W.findIn K (.ref C13) "__setattr__" = some (some (.builtin "object.__setattr__")))
    (em13 : PySem.W.keepIn K (.ref C13) = true) (eg13 : PySem.W.findIn K (.ref C13) "__getattribute__" = some (some (.builtin "BaseException.__getattribute__"))) (eb13 : PySem.W.findIn K (.ref C13) "__getattr__" = some none) (ej13 : PySem.W.findIn K (.ref C13) "__class__" = some (some (.builtin "object.__class__")))
    (en13_0 : PySem.W.findIn K (.ref C13) "start" = some none)
    (en13_1 : PySem.W.findIn K (.ref C13) "size" = some none)
    {C14 N14 x14 : Addr} {nm14 q14 : Str} {bs14 : List Value} {sn14 : List Str} {sub14 : List Value} {ab14 : Bool} {col14 : Option Bool} {dd14 : Option Addr} {k014_ k114_ k214_ k314_ k514_ : Option Value}
    (ea14 : PySem.W.nsIn K mainGlobals "NoHole" = some (some (.ref C14)))
    (el14 : K.lookup C14 = some (excClassObj nm14 q14 C14 N14 bs14 [.ref R, .type "ValueError", .type "Exception", .type "BaseException", .type "object"] true sn14 sub14 ab14 col14 dd14 k014_ k114_ k214_ k314_ k514_ "ValueError.__new__"))
    {xd14 xn14 : Option Addr} {xs14 : Array (Option Value)} {xk14 xo14 xp14 xc14 xt14 : Value}
    (ei14 : PySem.W.findIn K (.ref C14) "__init__" = some (some (.ref x14)))
    (ef14 : K.lookup x14 = some ⟨.type "function", xd14, .func (PySem.W.fnOf "__init__" "NoHole.__init__" (defArgs i_NoHole) (defBody i_NoHole) (defScope i_NoHole) .none xk14 xo14 xp14 xn14 xc14 xt14), xs14⟩)
    (ec14 : PySem.W.codeIn K xc14 "NoHole.__init__" = true) (ek14 : PySem.W.keepIn K (.ref x14) = true) (es14 : PySem.W.findIn K (.ref C14) "__setattr__" = some (some (.builtin "object.__setattr__")))
    (em14 : PySem.W.keepIn K (.ref C14) = true) (eg14 : PySem.W.findIn K (.ref C14) "__getattribute__" = some (some (.builtin "BaseException.__getattribute__"))) (eb14 : PySem.W.findIn K (.ref C14) "__getattr__" = some none) (ej14 : PySem.W.findIn K (.ref C14) "__class__" = some (some (.builtin "object.__class__")))
    (en14_0 : PySem.W.findIn K (.ref C14) "size" = some none)
    (en14_1 : PySem.W.findIn K (.ref C14) "largest" = some none)
    {C15 N15 x15 : Addr} {nm15 q15 : Str} {bs15 : List Value} {sn15 : List Str} {sub15 : List Value} {ab15 : Bool} {col15 : Option Bool} {dd15 : Option Addr} {k015_ k115_ k215_ k315_ k515_ : Option Value}
    (ea15 : PySem.W.nsIn K mainGlobals "NoRule" = some (some (.ref C15)))
    (el15 : K.lookup C15 = some (excClassObj nm15 q15 C15 N15 bs15 [.ref R, .type "ValueError", .type "Exception", .type "BaseException", .type "object"] true sn15 sub15 ab15 col15 dd15 k015_ k115_ k215_ k315_ k515_ "ValueError.__new__"))
    {xd15 xn15 : Option Addr} {xs15 : Array (Option Value)} {xk15 xo15 xp15 xc15 xt15 : Value}
    (ei15 : PySem.W.findIn K (.ref C15) "__init__" = some (some (.ref x15)))
    (ef15 : K.lookup x15 = some ⟨.type "function", xd15, .func (PySem.W.fnOf "__init__" "NoRule.__init__" (defArgs i_NoRule) (defBody i_NoRule) (defScope i_NoRule) .none xk15 xo15 xp15 xn15 xc15 xt15), xs15⟩)
    (ec15 : PySem.W.codeIn K xc15 "NoRule.__init__" = true) (ek15 : PySem.W.keepIn K (.ref x15) = true) (es15 : PySem.W.findIn K (.ref C15) "__setattr__" = some (some (.builtin "object.__setattr__")))
    (em15 : PySem.W.keepIn K (.ref C15) = true) (eg15 : PySem.W.findIn K (.ref C15) "__getattribute__" = some (some (.builtin "BaseException.__getattribute__"))) (eb15 : PySem.W.findIn K (.ref C15) "__getattr__" = some none) (ej15 : PySem.W.findIn K (.ref C15) "__class__" = some (some (.builtin "object.__class__")))
    (en15_0 : PySem.W.findIn K (.ref C15) "word" = some none)
    {C16 N16 x16 : Addr} {nm16 q16 : Str} {bs16 : List Value} {sn16 : List Str} {sub16 : List Value} {ab16 : Bool} {col16 : Option Bool} {dd16 : Option Addr} {k016_ k116_ k216_ k316_ k516_ : Option Value}
    (ea16 : PySem.W.nsIn K mainGlobals "Pinned" = some (some (.ref C16)))
    (el16 : K.lookup C16 = some (excClassObj nm16 q16 C16 N16 bs16 [.ref R, .type "ValueError", .type "Exception", .type "BaseException", .type "object"] true sn16 sub16 ab16 col16 dd16 k016_ k116_ k216_ k316_ k516_ "ValueError.__new__"))
    {xd16 xn16 : Option Addr} {xs16 : Array (Option Value)} {xk16 xo16 xp16 xc16 xt16 : Value}
    (ei16 : PySem.W.findIn K (.ref C16) "__init__" = some (some (.ref x16)))
    (ef16 : K.lookup x16 = some ⟨.type "function", xd16, .func (PySem.W.fnOf "__init__" "Pinned.__init__" (defArgs i_Pinned) (defBody i_Pinned) (defScope i_Pinned) .none xk16 xo16 xp16 xn16 xc16 xt16), xs16⟩)
    (ec16 : PySem.W.codeIn K xc16 "Pinned.__init__" = true) (ek16 : PySem.W.keepIn K (.ref x16) = true) (es16 : PySem.W.findIn K (.ref C16) "__setattr__" = some (some (.builtin "object.__setattr__")))
    (em16 : PySem.W.keepIn K (.ref C16) = true) (eg16 : PySem.W.findIn K (.ref C16) "__getattribute__" = some (some (.builtin "BaseException.__getattribute__"))) (eb16 : PySem.W.findIn K (.ref C16) "__getattr__" = some none) (ej16 : PySem.W.findIn K (.ref C16) "__class__" = some (some (.builtin "object.__class__")))
    (en16_0 : PySem.W.findIn K (.ref C16) "name" = some none)
    (en16_1 : PySem.W.findIn K (.ref C16) "pins" = some none)
    {C17 N17 x17 : Addr} {nm17 q17 : Str} {bs17 : List Value} {sn17 : List Str} {sub17 : List Value} {ab17 : Bool} {col17 : Option Bool} {dd17 : Option Addr} {k017_ k117_ k217_ k317_ k517_ : Option Value}
    (ea17 : PySem.W.nsIn K mainGlobals "NotPinned" = some (some (.ref C17)))
    (el17 : K.lookup C17 = some (excClassObj nm17 q17 C17 N17 bs17 [.ref R, .type "ValueError", .type "Exception", .type "BaseException", .type "object"] true sn17 sub17 ab17 col17 dd17 k017_ k117_ k217_ k317_ k517_ "ValueError.__new__"))
    {xd17 xn17 : Option Addr} {xs17 : Array (Option Value)} {xk17 xo17 xp17 xc17 xt17 : Value}
    (ei17 : PySem.W.findIn K (.ref C17) "__init__" = some (some (.ref x17)))
    (ef17 : K.lookup x17 = some ⟨.type "function", xd17, .func (PySem.W.fnOf "__init__" "NotPinned.__init__" (defArgs i_NotPinned) (defBody i_NotPinned) (defScope i_NotPinned) .none xk17 xo17 xp17 xn17 xc17 xt17), xs17⟩)
    (ec17 : PySem.W.codeIn K xc17 "NotPinned.__init__" = true) (ek17 : PySem.W.keepIn K (.ref x17) = true) (es17 : PySem.W.findIn K (.ref C17) "__setattr__" = some (some (.builtin "object.__setattr__")))
    (em17 : PySem.W.keepIn K (.ref C17) = true) (eg17 : PySem.W.findIn K (.ref C17) "__getattribute__" = some (some (.builtin "BaseException.__getattribute__"))) (eb17 : PySem.W.findIn K (.ref C17) "__getattr__" = some none) (ej17 : PySem.W.findIn K (.ref C17) "__class__" = some (some (.builtin "object.__class__")))
    (en17_0 : PySem.W.findIn K (.ref C17) "name" = some none)
    {C18 N18 x18 : Addr} {nm18 q18 : Str} {bs18 : List Value} {sn18 : List Str} {sub18 : List Value} {ab18 : Bool} {col18 : Option Bool} {dd18 : Option Addr} {k018_ k118_ k218_ k318_ k518_ : Option Value}
    (ea18 : PySem.W.nsIn K mainGlobals "Gone" = some (some (.ref C18)))
    (el18 : K.lookup C18 = some (excClassObj nm18 q18 C18 N18 bs18 [.ref R, .type "ValueError", .type "Exception", .type "BaseException", .type "object"] true sn18 sub18 ab18 col18 dd18 k018_ k118_ k218_ k318_ k518_ "ValueError.__new__"))
    {xd18 xn18 : Option Addr} {xs18 : Array (Option Value)} {xk18 xo18 xp18 xc18 xt18 : Value}
    (ei18 : PySem.W.findIn K (.ref C18) "__init__" = some (some (.ref x18)))
    (ef18 : K.lookup x18 = some ⟨.type "function", xd18, .func (PySem.W.fnOf "__init__" "Gone.__init__" (defArgs i_Gone) (defBody i_Gone) (defScope i_Gone) .none xk18 xo18 xp18 xn18 xc18 xt18), xs18⟩)
    (ec18 : PySem.W.codeIn K xc18 "Gone.__init__" = true) (ek18 : PySem.W.keepIn K (.ref x18) = true) (es18 : PySem.W.findIn K (.ref C18) "__setattr__" = some (some (.builtin "object.__setattr__")))
    (em18 : PySem.W.keepIn K (.ref C18) = true) (eg18 : PySem.W.findIn K (.ref C18) "__getattribute__" = some (some (.builtin "BaseException.__getattribute__"))) (eb18 : PySem.W.findIn K (.ref C18) "__getattr__" = some none) (ej18 : PySem.W.findIn K (.ref C18) "__class__" = some (some (.builtin "object.__class__")))
    (en18_0 : PySem.W.findIn K (.ref C18) "name" = some none)
    {C19 N19 x19 : Addr} {nm19 q19 : Str} {bs19 : List Value} {sn19 : List Str} {sub19 : List Value} {ab19 : Bool} {col19 : Option Bool} {dd19 : Option Addr} {k019_ k119_ k219_ k319_ k519_ : Option Value}
    (ea19 : PySem.W.nsIn K mainGlobals "NoMoves" = some (some (.ref C19)))
    (el19 : K.lookup C19 = some (excClassObj nm19 q19 C19 N19 bs19 [.ref R, .type "ValueError", .type "Exception", .type "BaseException", .type "object"] true sn19 sub19 ab19 col19 dd19 k019_ k119_ k219_ k319_ k519_ "ValueError.__new__"))
    {xd19 xn19 : Option Addr} {xs19 : Array (Option Value)} {xk19 xo19 xp19 xc19 xt19 : Value}
    (ei19 : PySem.W.findIn K (.ref C19) "__init__" = some (some (.ref x19)))
    (ef19 : K.lookup x19 = some ⟨.type "function", xd19, .func (PySem.W.fnOf "__init__" "NoMoves.__init__" (defArgs i_NoMoves) (defBody i_NoMoves) (defScope i_NoMoves) .none xk19 xo19 xp19 xn19 xc19 xt19), xs19⟩)
    (ec19 : PySem.W.codeIn K xc19 "NoMoves.__init__" = true) (ek19 : PySem.W.keepIn K (.ref x19) = true) (es19 : PySem.W.findIn K (.ref C19) "__setattr__" = some (some (.builtin "object.__setattr__")))
    (em19 : PySem.W.keepIn K (.ref C19) = true) (eg19 : PySem.W.findIn K (.ref C19) "__getattribute__" = some (some (.builtin "BaseException.__getattribute__"))) (eb19 : PySem.W.findIn K (.ref C19) "__getattr__" = some none) (ej19 : PySem.W.findIn K (.ref C19) "__class__" = some (some (.builtin "object.__class__")))
    (en19_0 : PySem.W.findIn K (.ref C19) "moves" = some none)
    {C20 N20 x20 : Addr} {nm20 q20 : Str} {bs20 : List Value} {sn20 : List Str} {sub20 : List Value} {ab20 : Bool} {col20 : Option Bool} {dd20 : Option Addr} {k020_ k120_ k220_ k320_ k520_ : Option Value}
    (ea20 : PySem.W.nsIn K mainGlobals "NoSlide" = some (some (.ref C20)))
    (el20 : K.lookup C20 = some (excClassObj nm20 q20 C20 N20 bs20 [.ref R, .type "ValueError", .type "Exception", .type "BaseException", .type "object"] true sn20 sub20 ab20 col20 dd20 k020_ k120_ k220_ k320_ k520_ "ValueError.__new__"))
    {xd20 xn20 : Option Addr} {xs20 : Array (Option Value)} {xk20 xo20 xp20 xc20 xt20 : Value}
    (ei20 : PySem.W.findIn K (.ref C20) "__init__" = some (some (.ref x20)))
    (ef20 : K.lookup x20 = some ⟨.type "function", xd20, .func (PySem.W.fnOf "__init__" "NoSlide.__init__" (defArgs i_NoSlide) (defBody i_NoSlide) (defScope i_NoSlide) .none xk20 xo20 xp20 xn20 xc20 xt20), xs20⟩)
    (ec20 : PySem.W.codeIn K xc20 "NoSlide.__init__" = true) (ek20 : PySem.W.keepIn K (.ref x20) = true) (es20 : PySem.W.findIn K (.ref C20) "__setattr__" = some (some (.builtin "object.__setattr__")))
    (em20 : PySem.W.keepIn K (.ref C20) = true) (eg20 : PySem.W.findIn K (.ref C20) "__getattribute__" = some (some (.builtin "BaseException.__getattribute__"))) (eb20 : PySem.W.findIn K (.ref C20) "__getattr__" = some none) (ej20 : PySem.W.findIn K (.ref C20) "__class__" = some (some (.builtin "object.__class__")))
    (en20_0 : PySem.W.findIn K (.ref C20) "name" = some none)
    (en20_1 : PySem.W.findIn K (.ref C20) "to" = some none)
    {C21 N21 x21 : Addr} {nm21 q21 : Str} {bs21 : List Value} {sn21 : List Str} {sub21 : List Value} {ab21 : Bool} {col21 : Option Bool} {dd21 : Option Addr} {k021_ k121_ k221_ k321_ k521_ : Option Value}
    (ea21 : PySem.W.nsIn K mainGlobals "Sliding" = some (some (.ref C21)))
    (el21 : K.lookup C21 = some (excClassObj nm21 q21 C21 N21 bs21 [.ref R, .type "ValueError", .type "Exception", .type "BaseException", .type "object"] true sn21 sub21 ab21 col21 dd21 k021_ k121_ k221_ k321_ k521_ "ValueError.__new__"))
    {xd21 xn21 : Option Addr} {xs21 : Array (Option Value)} {xk21 xo21 xp21 xc21 xt21 : Value}
    (ei21 : PySem.W.findIn K (.ref C21) "__init__" = some (some (.ref x21)))
    (ef21 : K.lookup x21 = some ⟨.type "function", xd21, .func (PySem.W.fnOf "__init__" "Sliding.__init__" (defArgs i_Sliding) (defBody i_Sliding) (defScope i_Sliding) .none xk21 xo21 xp21 xn21 xc21 xt21), xs21⟩)
    (ec21 : PySem.W.codeIn K xc21 "Sliding.__init__" = true) (ek21 : PySem.W.keepIn K (.ref x21) = true) (es21 : PySem.W.findIn K (.ref C21) "__setattr__" = some (some (.builtin "object.__setattr__")))
    (em21 : PySem.W.keepIn K (.ref C21) = true) (eg21 : PySem.W.findIn K (.ref C21) "__getattribute__" = some (some (.builtin "BaseException.__getattribute__"))) (eb21 : PySem.W.findIn K (.ref C21) "__getattr__" = some none) (ej21 : PySem.W.findIn K (.ref C21) "__class__" = some (some (.builtin "object.__class__")))
    (en21_0 : PySem.W.findIn K (.ref C21) "copied" = some none)
    {C22 N22 : Addr} {nm22 q22 : Str} {bs22 : List Value} {sn22 : List Str} {sub22 : List Value} {ab22 : Bool} {col22 : Option Bool} {dd22 : Option Addr} {k022_ k122_ k222_ k322_ k522_ : Option Value}
    (ea22 : PySem.W.nsIn K mainGlobals "NotSliding" = some (some (.ref C22)))
    (el22 : K.lookup C22 = some (excClassObj nm22 q22 C22 N22 bs22 [.ref R, .type "ValueError", .type "Exception", .type "BaseException", .type "object"] true sn22 sub22 ab22 col22 dd22 k022_ k122_ k222_ k322_ k522_ "ValueError.__new__"))
    (ei22 : PySem.W.findIn K (.ref C22) "__init__" = some (some (.builtin "ValueError.__init__")))
    (em22 : PySem.W.keepIn K (.ref C22) = true) (eg22 : PySem.W.findIn K (.ref C22) "__getattribute__" = some (some (.builtin "BaseException.__getattribute__"))) (eb22 : PySem.W.findIn K (.ref C22) "__getattr__" = some none) (ej22 : PySem.W.findIn K (.ref C22) "__class__" = some (some (.builtin "object.__class__")))
    {C23 N23 x23 : Addr} {nm23 q23 : Str} {bs23 : List Value} {sn23 : List Str} {sub23 : List Value} {ab23 : Bool} {col23 : Option Bool} {dd23 : Option Addr} {k023_ k123_ k223_ k323_ k523_ : Option Value}
    (ea23 : PySem.W.nsIn K mainGlobals "Fixed" = some (some (.ref C23)))
    (el23 : K.lookup C23 = some (excClassObj nm23 q23 C23 N23 bs23 [.ref R, .type "ValueError", .type "Exception", .type "BaseException", .type "object"] true sn23 sub23 ab23 col23 dd23 k023_ k123_ k223_ k323_ k523_ "ValueError.__new__"))
    {xd23 xn23 : Option Addr} {xs23 : Array (Option Value)} {xk23 xo23 xp23 xc23 xt23 : Value}
    (ei23 : PySem.W.findIn K (.ref C23) "__init__" = some (some (.ref x23)))
    (ef23 : K.lookup x23 = some ⟨.type "function", xd23, .func (PySem.W.fnOf "__init__" "Fixed.__init__" (defArgs i_Fixed) (defBody i_Fixed) (defScope i_Fixed) .none xk23 xo23 xp23 xn23 xc23 xt23), xs23⟩)
    (ec23 : PySem.W.codeIn K xc23 "Fixed.__init__" = true) (ek23 : PySem.W.keepIn K (.ref x23) = true) (es23 : PySem.W.findIn K (.ref C23) "__setattr__" = some (some (.builtin "object.__setattr__")))
    (em23 : PySem.W.keepIn K (.ref C23) = true) (eg23 : PySem.W.findIn K (.ref C23) "__getattribute__" = some (some (.builtin "BaseException.__getattribute__"))) (eb23 : PySem.W.findIn K (.ref C23) "__getattr__" = some none) (ej23 : PySem.W.findIn K (.ref C23) "__class__" = some (some (.builtin "object.__class__")))
    (en23_0 : PySem.W.findIn K (.ref C23) "word" = some none)
    {C24 N24 x24 : Addr} {nm24 q24 : Str} {bs24 : List Value} {sn24 : List Str} {sub24 : List Value} {ab24 : Bool} {col24 : Option Bool} {dd24 : Option Addr} {k024_ k124_ k224_ k324_ k524_ : Option Value}
    (ea24 : PySem.W.nsIn K mainGlobals "NoRoom" = some (some (.ref C24)))
    (el24 : K.lookup C24 = some (excClassObj nm24 q24 C24 N24 bs24 [.ref R, .type "ValueError", .type "Exception", .type "BaseException", .type "object"] true sn24 sub24 ab24 col24 dd24 k024_ k124_ k224_ k324_ k524_ "ValueError.__new__"))
    {xd24 xn24 : Option Addr} {xs24 : Array (Option Value)} {xk24 xo24 xp24 xc24 xt24 : Value}
    (ei24 : PySem.W.findIn K (.ref C24) "__init__" = some (some (.ref x24)))
    (ef24 : K.lookup x24 = some ⟨.type "function", xd24, .func (PySem.W.fnOf "__init__" "NoRoom.__init__" (defArgs i_NoRoom) (defBody i_NoRoom) (defScope i_NoRoom) .none xk24 xo24 xp24 xn24 xc24 xt24), xs24⟩)
    (ec24 : PySem.W.codeIn K xc24 "NoRoom.__init__" = true) (ek24 : PySem.W.keepIn K (.ref x24) = true) (es24 : PySem.W.findIn K (.ref C24) "__setattr__" = some (some (.builtin "object.__setattr__")))
    (em24 : PySem.W.keepIn K (.ref C24) = true) (eg24 : PySem.W.findIn K (.ref C24) "__getattribute__" = some (some (.builtin "BaseException.__getattribute__"))) (eb24 : PySem.W.findIn K (.ref C24) "__getattr__" = some none) (ej24 : PySem.W.findIn K (.ref C24) "__class__" = some (some (.builtin "object.__class__")))
    (en24_0 : PySem.W.findIn K (.ref C24) "size" = some none)
    (en24_1 : PySem.W.findIn K (.ref C24) "stretches" = some none)
    {C25 N25 x25 : Addr} {nm25 q25 : Str} {bs25 : List Value} {sn25 : List Str} {sub25 : List Value} {ab25 : Bool} {col25 : Option Bool} {dd25 : Option Addr} {k025_ k125_ k225_ k325_ k525_ : Option Value}
    (ea25 : PySem.W.nsIn K mainGlobals "NoWay" = some (some (.ref C25)))
    (el25 : K.lookup C25 = some (excClassObj nm25 q25 C25 N25 bs25 [.ref R, .type "ValueError", .type "Exception", .type "BaseException", .type "object"] true sn25 sub25 ab25 col25 dd25 k025_ k125_ k225_ k325_ k525_ "ValueError.__new__"))
    {xd25 xn25 : Option Addr} {xs25 : Array (Option Value)} {xk25 xo25 xp25 xc25 xt25 : Value}
    (ei25 : PySem.W.findIn K (.ref C25) "__init__" = some (some (.ref x25)))
    (ef25 : K.lookup x25 = some ⟨.type "function", xd25, .func (PySem.W.fnOf "__init__" "NoWay.__init__" (defArgs i_NoWay) (defBody i_NoWay) (defScope i_NoWay) .none xk25 xo25 xp25 xn25 xc25 xt25), xs25⟩)
    (ec25 : PySem.W.codeIn K xc25 "NoWay.__init__" = true) (ek25 : PySem.W.keepIn K (.ref x25) = true) (es25 : PySem.W.findIn K (.ref C25) "__setattr__" = some (some (.builtin "object.__setattr__")))
    (em25 : PySem.W.keepIn K (.ref C25) = true) (eg25 : PySem.W.findIn K (.ref C25) "__getattribute__" = some (some (.builtin "BaseException.__getattribute__"))) (eb25 : PySem.W.findIn K (.ref C25) "__getattr__" = some none) (ej25 : PySem.W.findIn K (.ref C25) "__class__" = some (some (.builtin "object.__class__")))
    (en25_0 : PySem.W.findIn K (.ref C25) "way" = some none)
    {C26 N26 x26 : Addr} {nm26 q26 : Str} {bs26 : List Value} {sn26 : List Str} {sub26 : List Value} {ab26 : Bool} {col26 : Option Bool} {dd26 : Option Addr} {k026_ k126_ k226_ k326_ k526_ : Option Value}
    (ea26 : PySem.W.nsIn K mainGlobals "NoAsks" = some (some (.ref C26)))
    (el26 : K.lookup C26 = some (excClassObj nm26 q26 C26 N26 bs26 [.ref R, .type "ValueError", .type "Exception", .type "BaseException", .type "object"] true sn26 sub26 ab26 col26 dd26 k026_ k126_ k226_ k326_ k526_ "ValueError.__new__"))
    {xd26 xn26 : Option Addr} {xs26 : Array (Option Value)} {xk26 xo26 xp26 xc26 xt26 : Value}
    (ei26 : PySem.W.findIn K (.ref C26) "__init__" = some (some (.ref x26)))
    (ef26 : K.lookup x26 = some ⟨.type "function", xd26, .func (PySem.W.fnOf "__init__" "NoAsks.__init__" (defArgs i_NoAsks) (defBody i_NoAsks) (defScope i_NoAsks) .none xk26 xo26 xp26 xn26 xc26 xt26), xs26⟩)
    (ec26 : PySem.W.codeIn K xc26 "NoAsks.__init__" = true) (ek26 : PySem.W.keepIn K (.ref x26) = true) (es26 : PySem.W.findIn K (.ref C26) "__setattr__" = some (some (.builtin "object.__setattr__")))
    (em26 : PySem.W.keepIn K (.ref C26) = true) (eg26 : PySem.W.findIn K (.ref C26) "__getattribute__" = some (some (.builtin "BaseException.__getattribute__"))) (eb26 : PySem.W.findIn K (.ref C26) "__getattr__" = some none) (ej26 : PySem.W.findIn K (.ref C26) "__class__" = some (some (.builtin "object.__class__")))
    (en26_0 : PySem.W.findIn K (.ref C26) "at" = some none)
    {C27 N27 x27 : Addr} {nm27 q27 : Str} {bs27 : List Value} {sn27 : List Str} {sub27 : List Value} {ab27 : Bool} {col27 : Option Bool} {dd27 : Option Addr} {k027_ k127_ k227_ k327_ k527_ : Option Value}
    (ea27 : PySem.W.nsIn K mainGlobals "NoLine" = some (some (.ref C27)))
    (el27 : K.lookup C27 = some (excClassObj nm27 q27 C27 N27 bs27 [.ref R, .type "ValueError", .type "Exception", .type "BaseException", .type "object"] true sn27 sub27 ab27 col27 dd27 k027_ k127_ k227_ k327_ k527_ "ValueError.__new__"))
    {xd27 xn27 : Option Addr} {xs27 : Array (Option Value)} {xk27 xo27 xp27 xc27 xt27 : Value}
    (ei27 : PySem.W.findIn K (.ref C27) "__init__" = some (some (.ref x27)))
    (ef27 : K.lookup x27 = some ⟨.type "function", xd27, .func (PySem.W.fnOf "__init__" "NoLine.__init__" (defArgs i_NoLine) (defBody i_NoLine) (defScope i_NoLine) .none xk27 xo27 xp27 xn27 xc27 xt27), xs27⟩)
    (ec27 : PySem.W.codeIn K xc27 "NoLine.__init__" = true) (ek27 : PySem.W.keepIn K (.ref x27) = true) (es27 : PySem.W.findIn K (.ref C27) "__setattr__" = some (some (.builtin "object.__setattr__")))
    (em27 : PySem.W.keepIn K (.ref C27) = true) (eg27 : PySem.W.findIn K (.ref C27) "__getattribute__" = some (some (.builtin "BaseException.__getattribute__"))) (eb27 : PySem.W.findIn K (.ref C27) "__getattr__" = some none) (ej27 : PySem.W.findIn K (.ref C27) "__class__" = some (some (.builtin "object.__class__")))
    (en27_0 : PySem.W.findIn K (.ref C27) "line" = some none)
    {od0_ an0_ : Option Addr} {sl0_ : Array (Option Value)} {oc0_ kV0_ dc0_ pm0_ cd0_ ct0_ : Value}
    {od1_ an1_ : Option Addr} {sl1_ : Array (Option Value)} {oc1_ kV1_ dc1_ pm1_ cd1_ ct1_ : Value}
    {od2_ an2_ : Option Addr} {sl2_ : Array (Option Value)} {oc2_ kV2_ dc2_ pm2_ cd2_ ct2_ : Value}
    {od3_ an3_ : Option Addr} {sl3_ : Array (Option Value)} {oc3_ kV3_ dc3_ pm3_ cd3_ ct3_ : Value}
    {od4_ an4_ : Option Addr} {sl4_ : Array (Option Value)} {oc4_ kV4_ dc4_ pm4_ cd4_ ct4_ : Value}
    {od5_ an5_ : Option Addr} {sl5_ : Array (Option Value)} {oc5_ kV5_ dc5_ pm5_ cd5_ ct5_ : Value}
    (a0_ : PySem.W.nsIn K mainGlobals "_law_first" = some (some (.ref g0_))) (l0_ : K.lookup g0_ = some ⟨oc0_, od0_, .func (PySem.W.fnOf "_law_first" "_law_first" (defArgs s_first) (defBody s_first) (defScope s_first) .none kV0_ dc0_ pm0_ an0_ cd0_ ct0_), sl0_⟩) (c0_ : PySem.W.codeIn K cd0_ "_law_first" = true) (k0_ : PySem.W.keepIn K (.ref g0_) = true)
    (a1_ : PySem.W.nsIn K mainGlobals "_law_second" = some (some (.ref g1_))) (l1_ : K.lookup g1_ = some ⟨oc1_, od1_, .func (PySem.W.fnOf "_law_second" "_law_second" (defArgs s_second) (defBody s_second) (defScope s_second) .none kV1_ dc1_ pm1_ an1_ cd1_ ct1_), sl1_⟩) (c1_ : PySem.W.codeIn K cd1_ "_law_second" = true) (k1_ : PySem.W.keepIn K (.ref g1_) = true)
    (a2_ : PySem.W.nsIn K mainGlobals "_law_right" = some (some (.ref g2_))) (l2_ : K.lookup g2_ = some ⟨oc2_, od2_, .func (PySem.W.fnOf "_law_right" "_law_right" (defArgs s_right) (defBody s_right) (defScope s_right) .none kV2_ dc2_ pm2_ an2_ cd2_ ct2_), sl2_⟩) (c2_ : PySem.W.codeIn K cd2_ "_law_right" = true) (k2_ : PySem.W.keepIn K (.ref g2_) = true)
    (a3_ : PySem.W.nsIn K mainGlobals "_law_first_half" = some (some (.ref g3_))) (l3_ : K.lookup g3_ = some ⟨oc3_, od3_, .func (PySem.W.fnOf "_law_first_half" "_law_first_half" (defArgs s_half1) (defBody s_half1) (defScope s_half1) .none kV3_ dc3_ pm3_ an3_ cd3_ ct3_), sl3_⟩) (c3_ : PySem.W.codeIn K cd3_ "_law_first_half" = true) (k3_ : PySem.W.keepIn K (.ref g3_) = true)
    (a4_ : PySem.W.nsIn K mainGlobals "_law_second_half" = some (some (.ref g4_))) (l4_ : K.lookup g4_ = some ⟨oc4_, od4_, .func (PySem.W.fnOf "_law_second_half" "_law_second_half" (defArgs s_half2) (defBody s_half2) (defScope s_half2) .none kV4_ dc4_ pm4_ an4_ cd4_ ct4_), sl4_⟩) (c4_ : PySem.W.codeIn K cd4_ "_law_second_half" = true) (k4_ : PySem.W.keepIn K (.ref g4_) = true)
    (a5_ : PySem.W.nsIn K mainGlobals "law" = some (some (.ref g5_))) (l5_ : K.lookup g5_ = some ⟨oc5_, od5_, .func (PySem.W.fnOf "law" "law" (defArgs s_law) (defBody s_law) (defScope s_law) .none kV5_ dc5_ pm5_ an5_ cd5_ ct5_), sl5_⟩) (c5_ : PySem.W.codeIn K cd5_ "law" = true) (k5_ : PySem.W.keepIn K (.ref g5_) = true)
    (nb0 : PySem.W.nsIn K mainGlobals "isinstance" = some none)
    (nb1 : PySem.W.nsIn K mainGlobals "repr" = some none)
    (nb2 : PySem.W.nsIn K mainGlobals "range" = some none)
    (nb3 : PySem.W.nsIn K mainGlobals "list" = some none)
    (nb4 : PySem.W.nsIn K mainGlobals "ValueError" = some none)
    {nmR qR : Str} {NR : Addr} {bsR bmR : List Value} {hdR : Bool} {snR : List Str} {subR : List Value} {abR : Bool} {colR : Option Bool} {ddR : Option Addr} {k0R k1R k2R k3R k5R : Option Value} {newR : String}
    (zc : K.lookup R = some (excClassObj nmR qR R NR bsR bmR hdR snR subR abR colR ddR k0R k1R k2R k3R k5R newR)) (zt : PySem.W.typeIn K (.ref R) = some (.type "type"))
    (zn : ([C0, C1, C2, C3, C4, C5, C6, C7, C8, C9, C10, C11, C12, C13, C14, C15, C16, C17, C18, C19, C20, C21, C22, C23, C24, C25, C26, C27] : List Addr).Nodup ∧ R ∉ ([C0, C1, C2, C3, C4, C5, C6, C7, C8, C9, C10, C11, C12, C13, C14, C15, C16, C17, C18, C19, C20, C21, C22, C23, C24, C25, C26, C27] : List Addr))
    : ∃ fd : FuncData, (∀ (s : Shared) (v : Value), BindsTo s fd ⟨[v], []⟩ [("_law_script", v)]) ∧ ∀ base : Heap, K.In base → base.Ns mainGlobals mg → FnOk l.prog w K mg base CX0 4 fa fd ["_law_script"] (sp_law K) := by
  have e := hfa.symm.trans (PySem.W.mg_of X G a5_)
  cases e
  have T : Txt K mg (fun i => ([C0, C1, C2, C3, C4, C5, C6, C7, C8, C9, C10, C11, C12, C13, C14, C15, C16, C17, C18, C19, C20, C21, C22, C23, C24, C25, C26, C27] : List Addr).getD i 0) R := {
    e_NoMany := HasExc.mk1 (PySem.W.mg_of X G ea0) el0 ei0 ef0 ec0 ek0 em0 (excS_mk el0 es0) (excI_mk el0 eg0 eb0 ej0 eh et)
    a_NoMany_many := en0_0
    e_NoName := HasExc.mk1 (PySem.W.mg_of X G ea1) el1 ei1 ef1 ec1 ek1 em1 (excS_mk el1 es1) (excI_mk el1 eg1 eb1 ej1 eh et)
    a_NoName_name := en1_0
    e_NoSize := HasExc.mk1 (PySem.W.mg_of X G ea2) el2 ei2 ef2 ec2 ek2 em2 (excS_mk el2 es2) (excI_mk el2 eg2 eb2 ej2 eh et)
    a_NoSize_size := en2_0
    e_NoPlace := HasExc.mk1 (PySem.W.mg_of X G ea3) el3 ei3 ef3 ec3 ek3 em3 (excS_mk el3 es3) (excI_mk el3 eg3 eb3 ej3 eh et)
    a_NoPlace_at := en3_0
    e_NoValue := HasExc.mk1 (PySem.W.mg_of X G ea4) el4 ei4 ef4 ec4 ek4 em4 (excS_mk el4 es4) (excI_mk el4 eg4 eb4 ej4 eh et)
    a_NoValue_value := en4_0
    e_NoRow := HasExc.mk1 (PySem.W.mg_of X G ea5) el5 ei5 ef5 ec5 ek5 em5 (excS_mk el5 es5) (excI_mk el5 eg5 eb5 ej5 eh et)
    a_NoRow_row := en5_0
    e_Twice := HasExc.mk1 (PySem.W.mg_of X G ea6) el6 ei6 ef6 ec6 ek6 em6 (excS_mk el6 es6) (excI_mk el6 eg6 eb6 ej6 eh et)
    a_Twice_name := en6_0
    e_Outside := HasExc.mk1 (PySem.W.mg_of X G ea7) el7 ei7 ef7 ec7 ek7 em7 (excS_mk el7 es7) (excI_mk el7 eg7 eb7 ej7 eh et)
    a_Outside_name := en7_0
    e_Overlap := HasExc.mk1 (PySem.W.mg_of X G ea8) el8 ei8 ef8 ec8 ek8 em8 (excS_mk el8 es8) (excI_mk el8 eg8 eb8 ej8 eh et)
    a_Overlap_name := en8_0
    a_Overlap_other := en8_1
    e_TooMany := HasExc.mk1 (PySem.W.mg_of X G ea9) el9 ei9 ef9 ec9 ek9 em9 (excS_mk el9 es9) (excI_mk el9 eg9 eb9 ej9 eh et)
    a_TooMany_many := en9_0
    e_NoBlock := HasExc.mk1 (PySem.W.mg_of X G ea10) el10 ei10 ef10 ec10 ek10 em10 (excS_mk el10 es10) (excI_mk el10 eg10 eb10 ej10 eh et)
    a_NoBlock_name := en10_0
    e_NoText := HasExc.mk1 (PySem.W.mg_of X G ea11) el11 ei11 ef11 ec11 ek11 em11 (excS_mk el11 es11) (excI_mk el11 eg11 eb11 ej11 eh et)
    a_NoText_row := en11_0
    e_NotFree := HasExc.mk1 (PySem.W.mg_of X G ea12) el12 ei12 ef12 ec12 ek12 em12 (excS_mk el12 es12) (excI_mk el12 eg12 eb12 ej12 eh et)
    a_NotFree_start := en12_0
    a_NotFree_size := en12_1
    e_NotTaken := HasExc.mk1 (PySem.W.mg_of X G ea13) el13 ei13 ef13 ec13 ek13 em13 (excS_mk el13 es13) (excI_mk el13 eg13 eb13 ej13 eh et)
    a_NotTaken_start := en13_0
    a_NotTaken_size := en13_1
    e_NoHole := HasExc.mk1 (PySem.W.mg_of X G ea14) el14 ei14 ef14 ec14 ek14 em14 (excS_mk el14 es14) (excI_mk el14 eg14 eb14 ej14 eh et)
    a_NoHole_size := en14_0
    a_NoHole_largest := en14_1
    e_NoRule := HasExc.mk1 (PySem.W.mg_of X G ea15) el15 ei15 ef15 ec15 ek15 em15 (excS_mk el15 es15) (excI_mk el15 eg15 eb15 ej15 eh et)
    a_NoRule_word := en15_0
    e_Pinned := HasExc.mk1 (PySem.W.mg_of X G ea16) el16 ei16 ef16 ec16 ek16 em16 (excS_mk el16 es16) (excI_mk el16 eg16 eb16 ej16 eh et)
    a_Pinned_name := en16_0
    a_Pinned_pins := en16_1
    e_NotPinned := HasExc.mk1 (PySem.W.mg_of X G ea17) el17 ei17 ef17 ec17 ek17 em17 (excS_mk el17 es17) (excI_mk el17 eg17 eb17 ej17 eh et)
    a_NotPinned_name := en17_0
    e_Gone := HasExc.mk1 (PySem.W.mg_of X G ea18) el18 ei18 ef18 ec18 ek18 em18 (excS_mk el18 es18) (excI_mk el18 eg18 eb18 ej18 eh et)
    a_Gone_name := en18_0
    e_NoMoves := HasExc.mk1 (PySem.W.mg_of X G ea19) el19 ei19 ef19 ec19 ek19 em19 (excS_mk el19 es19) (excI_mk el19 eg19 eb19 ej19 eh et)
    a_NoMoves_moves := en19_0
    e_NoSlide := HasExc.mk1 (PySem.W.mg_of X G ea20) el20 ei20 ef20 ec20 ek20 em20 (excS_mk el20 es20) (excI_mk el20 eg20 eb20 ej20 eh et)
    a_NoSlide_name := en20_0
    a_NoSlide_to := en20_1
    e_Sliding := HasExc.mk1 (PySem.W.mg_of X G ea21) el21 ei21 ef21 ec21 ek21 em21 (excS_mk el21 es21) (excI_mk el21 eg21 eb21 ej21 eh et)
    a_Sliding_copied := en21_0
    e_NotSliding := ⟨⟨_, _, _, _, _, _, _, _, _, _, _, _, _, _, _, el22⟩, ei22, em22, PySem.W.mg_of X G ea22, (excI_mk el22 eg22 eb22 ej22 eh et)⟩
    e_Fixed := HasExc.mk1 (PySem.W.mg_of X G ea23) el23 ei23 ef23 ec23 ek23 em23 (excS_mk el23 es23) (excI_mk el23 eg23 eb23 ej23 eh et)
    a_Fixed_word := en23_0
    e_NoRoom := HasExc.mk1 (PySem.W.mg_of X G ea24) el24 ei24 ef24 ec24 ek24 em24 (excS_mk el24 es24) (excI_mk el24 eg24 eb24 ej24 eh et)
    a_NoRoom_size := en24_0
    a_NoRoom_stretches := en24_1
    e_NoWay := HasExc.mk1 (PySem.W.mg_of X G ea25) el25 ei25 ef25 ec25 ek25 em25 (excS_mk el25 es25) (excI_mk el25 eg25 eb25 ej25 eh et)
    a_NoWay_way := en25_0
    e_NoAsks := HasExc.mk1 (PySem.W.mg_of X G ea26) el26 ei26 ef26 ec26 ek26 em26 (excS_mk el26 es26) (excI_mk el26 eg26 eb26 ej26 eh et)
    a_NoAsks_at := en26_0
    e_NoLine := HasExc.mk1 (PySem.W.mg_of X G ea27) el27 ei27 ef27 ec27 ek27 em27 (excS_mk el27 es27) (excI_mk el27 eg27 eb27 ej27 eh et)
    a_NoLine_line := en27_0
    d_first := HasDef.mk (PySem.W.mg_of X G a0_) l0_ c0_ k0_
    d_second := HasDef.mk (PySem.W.mg_of X G a1_) l1_ c1_ k1_
    d_right := HasDef.mk (PySem.W.mg_of X G a2_) l2_ c2_ k2_
    d_half1 := HasDef.mk (PySem.W.mg_of X G a3_) l3_ c3_ k3_
    d_half2 := HasDef.mk (PySem.W.mg_of X G a4_) l4_ c4_ k4_
    n_isinstance := PySem.W.mg_none_of X G nb0
    n_repr := PySem.W.mg_none_of X G nb1
    n_range := PySem.W.mg_none_of X G nb2
    n_list := PySem.W.mg_none_of X G nb3
    n_ValueError := PySem.W.mg_none_of X G nb4
    g_R := PySem.W.mg_of X G eR
    c_R := by unfold PySem.W.clsIn; rw [zc]; rfl
    t_R := zt
    dis := fun i j hi hj z => dis_of zn.1 hi hj z
    nR := fun i hi => nR_of zn.2 hi }
  refine ⟨PySem.W.fnOf "law" "law" (defArgs s_law) (defBody s_law) (defScope s_law) .none kV5_ dc5_ pm5_ an5_ cd5_ ct5_, fun s v => .of_eq rfl, fun base _ _ => ?_⟩
  exact ok_law T (fun_mk (st := s_law) l5_ c5_ k5_)
theorem walk {l : PySem.W.OpenLaw} {q : Program} {loose : List Str} {XP : (Str → Option Value) → Heap → Prop} {YP : World → Heap → Prop} {d : DefRec} {K : Params → PySem.W.Frag} (hn : l.most = some 63) (hdf : d.params.defaults = [])
    (hY : ∀ (w : World) (h : Heap), YP w h → (K w.params).In h)
    (F : ∀ (w : World) (mg : Str → Option Value) (fa : Addr) (h : Heap), (K w.params).In h → h.Ns mainGlobals mg → mg d.name = some (.ref fa) →
      ∃ fd : FuncData, (∀ (s : Shared) (u : Value), BindsTo s fd ⟨[u], []⟩ [("_law_script", u)]) ∧ ∀ base : Heap, (K w.params).In base → base.Ns mainGlobals mg → FnOk l.prog w (K w.params) mg base CX0 4 fa fd ["_law_script"] (sp_law (K w.params))) :
    PySem.W.WalkO q loose XP YP l.row.toRowW d [] (fun f vs => PySem.call f vs) :=
  L2.walk_of (n := 63) (k := 4) (x := "_law_script") (CX := fun _ => CX0) (sp := fun w => sp_law (K w.params)) hn (by decide) hdf ⟨rfl, by decide, by decide, rfl⟩ hY F (fun _ _ a ns hl _ hS => ⟨a, ns, rfl, hS, hl, fun _ => rfl⟩) fun _ _ _ _ _ z => z
end K17
def PySem.W.Fast.tw11595429588074545005 : Unit := ()
def PySem.W.Fast.tw14681612214232000316 : Unit := ()
def PySem.W.Fast.tw9005246910608056484 : Unit := ()
def PySem.W.Fast.tw10029455521741432553 : Unit := ()
def PySem.W.Fast.tw10038227818564448709 : Unit := ()
def PySem.W.Fast.tw10181755501524123220 : Unit := ()
def PySem.W.Fast.tw10279113186662565935 : Unit := ()
def PySem.W.Fast.tw10308471907048759397 : Unit := ()
def PySem.W.Fast.tw10336598227702447466 : Unit := ()
def PySem.W.Fast.tw10356374221873071304 : Unit := ()
def PySem.W.Fast.tw10359694280617776998 : Unit := ()
def PySem.W.Fast.tw10380481110367607667 : Unit := ()
def PySem.W.Fast.tw10394197105212021228 : Unit := ()
def PySem.W.Fast.tw10396679329845531428 : Unit := ()
def PySem.W.Fast.tw10411433171194289584 : Unit := ()
def PySem.W.Fast.tw10445029423656642182 : Unit := ()
def PySem.W.Fast.tw10458440896016574186 : Unit := ()
def PySem.W.Fast.tw10505881511393748439 : Unit := ()
def PySem.W.Fast.tw10509956753469886294 : Unit := ()
def PySem.W.Fast.tw10522568953339223410 : Unit := ()
def PySem.W.Fast.tw10536846450401789242 : Unit := ()
def PySem.W.Fast.tw10581034999006287298 : Unit := ()
def PySem.W.Fast.tw10589685202088676887 : Unit := ()
def PySem.W.Fast.tw10590890882914852016 : Unit := ()
def PySem.W.Fast.tw10596164956017457803 : Unit := ()
def PySem.W.Fast.tw10620891313621804102 : Unit := ()
def PySem.W.Fast.tw10663960605595011685 : Unit := ()
def PySem.W.Fast.tw10681634032321137915 : Unit := ()
def PySem.W.Fast.tw10725800118586125005 : Unit := ()
def PySem.W.Fast.tw10736149147717266420 : Unit := ()
def PySem.W.Fast.tw1074261666070532865 : Unit := ()
def PySem.W.Fast.tw10751025442438749353 : Unit := ()
def PySem.W.Fast.tw1076365400640330634 : Unit := ()
def PySem.W.Fast.tw10813557887752973534 : Unit := ()
def PySem.W.Fast.tw10814566514365449633 : Unit := ()
def PySem.W.Fast.tw10829330482358269324 : Unit := ()
def PySem.W.Fast.tw10834432556070936406 : Unit := ()
def PySem.W.Fast.tw1084025930327913043 : Unit := ()
def PySem.W.Fast.tw10849811874891456825 : Unit := ()
def PySem.W.Fast.tw10856634883762720487 : Unit := ()
def PySem.W.Fast.tw1085853675577588728 : Unit := ()
def PySem.W.Fast.tw109438999610115770 : Unit := ()
def PySem.W.Fast.tw10948253977428096602 : Unit := ()
def PySem.W.Fast.tw10963123646348620095 : Unit := ()
def PySem.W.Fast.tw10964871052623334223 : Unit := ()
def PySem.W.Fast.tw11015044612456171292 : Unit := ()
def PySem.W.Fast.tw11021731774059841209 : Unit := ()
def PySem.W.Fast.tw11043661331893967173 : Unit := ()
def PySem.W.Fast.tw11058963351609670113 : Unit := ()
def PySem.W.Fast.tw11071963728952997574 : Unit := ()
def PySem.W.Fast.tw11096916014037429262 : Unit := ()
def PySem.W.Fast.tw11129632335427171719 : Unit := ()
def PySem.W.Fast.tw11146751163891805035 : Unit := ()
def PySem.W.Fast.tw11170136988923197110 : Unit := ()
def PySem.W.Fast.tw11212227131472681833 : Unit := ()
def PySem.W.Fast.tw11220907187042220713 : Unit := ()
def PySem.W.Fast.tw11292209355698274474 : Unit := ()
def PySem.W.Fast.tw11295899686528496235 : Unit := ()
def PySem.W.Fast.tw11301899263897666223 : Unit := ()
def PySem.W.Fast.tw11440448161831751714 : Unit := ()
def PySem.W.Fast.tw11466091366618054620 : Unit := ()
def PySem.W.Fast.tw11503064772569083244 : Unit := ()
def PySem.W.Fast.tw11706511710579036475 : Unit := ()
def PySem.W.Fast.tw1173851002454567939 : Unit := ()
def PySem.W.Fast.tw11762476876799286740 : Unit := ()
def PySem.W.Fast.tw11763310361209464090 : Unit := ()
def PySem.W.Fast.tw11870036567434775839 : Unit := ()
def PySem.W.Fast.tw11929026713931854876 : Unit := ()
def PySem.W.Fast.tw11929525453825957756 : Unit := ()
def PySem.W.Fast.tw12023933911222371085 : Unit := ()
def PySem.W.Fast.tw12043214397740971265 : Unit := ()
def PySem.W.Fast.tw12078643651480182661 : Unit := ()
def PySem.W.Fast.tw12101330899744128546 : Unit := ()
def PySem.W.Fast.tw12116425860485103095 : Unit := ()
def PySem.W.Fast.tw12119106384314575610 : Unit := ()
def PySem.W.Fast.tw1211993587678772010 : Unit := ()
def PySem.W.Fast.tw1212704624862908012 : Unit := ()
def PySem.W.Fast.tw12132283538553600841 : Unit := ()
def PySem.W.Fast.tw12160538071367224584 : Unit := ()
def PySem.W.Fast.tw12172921805157952522 : Unit := ()
def PySem.W.Fast.tw12206420457757833855 : Unit := ()
def PySem.W.Fast.tw12236933915403788732 : Unit := ()
def PySem.W.Fast.tw12259295917781713376 : Unit := ()
def PySem.W.Fast.tw12294386363219665896 : Unit := ()
def PySem.W.Fast.tw12318688708792024971 : Unit := ()
def PySem.W.Fast.tw12386061707004493044 : Unit := ()
def PySem.W.Fast.tw12392110043478018559 : Unit := ()
def PySem.W.Fast.tw12434359384351416553 : Unit := ()
def PySem.W.Fast.tw12442908181363114548 : Unit := ()
def PySem.W.Fast.tw1248699678568734969 : Unit := ()
def PySem.W.Fast.tw12552091393918948791 : Unit := ()
def PySem.W.Fast.tw12557115092540936585 : Unit := ()
def PySem.W.Fast.tw12569762240453899466 : Unit := ()
def PySem.W.Fast.tw12571721980406273272 : Unit := ()
def PySem.W.Fast.tw12629922505249790316 : Unit := ()
def PySem.W.Fast.tw12661037461294718373 : Unit := ()
def PySem.W.Fast.tw12662832198018192350 : Unit := ()
def PySem.W.Fast.tw12664155790286329424 : Unit := ()
def PySem.W.Fast.tw12673348008727896022 : Unit := ()
def PySem.W.Fast.tw12712599158222538710 : Unit := ()
def PySem.W.Fast.tw12713332926965293247 : Unit := ()
def PySem.W.Fast.tw12743514926305918337 : Unit := ()
def PySem.W.Fast.tw12769300372522273121 : Unit := ()
def PySem.W.Fast.tw12783182260785985405 : Unit := ()
def PySem.W.Fast.tw1282935980358401213 : Unit := ()
def PySem.W.Fast.tw12869778373953320211 : Unit := ()
def PySem.W.Fast.tw1287895304529944355 : Unit := ()
def PySem.W.Fast.tw12935525962164929767 : Unit := ()
def PySem.W.Fast.tw12966599334040773410 : Unit := ()
def PySem.W.Fast.tw12980816330456294879 : Unit := ()
def PySem.W.Fast.tw12981444216543670209 : Unit := ()
def PySem.W.Fast.tw12988841215102867568 : Unit := ()
def PySem.W.Fast.tw13085429096827455346 : Unit := ()
def PySem.W.Fast.tw13092272973379411120 : Unit := ()
def PySem.W.Fast.tw13096882982830148054 : Unit := ()
def PySem.W.Fast.tw13136236832357628784 : Unit := ()
def PySem.W.Fast.tw13137612122954895457 : Unit := ()
def PySem.W.Fast.tw131421676714896033 : Unit := ()
def PySem.W.Fast.tw13153065425378270908 : Unit := ()
def PySem.W.Fast.tw13195758534673164148 : Unit := ()
def PySem.W.Fast.tw13202652495362045869 : Unit := ()
def PySem.W.Fast.tw13206817510449166099 : Unit := ()
def PySem.W.Fast.tw1322048529779393859 : Unit := ()
def PySem.W.Fast.tw13244642244380297112 : Unit := ()
def PySem.W.Fast.tw1325567515834441364 : Unit := ()
def PySem.W.Fast.tw1327130237162150866 : Unit := ()
def PySem.W.Fast.tw13289655689416754575 : Unit := ()
def PySem.W.Fast.tw13296622351799823165 : Unit := ()
def PySem.W.Fast.tw13321151998692804024 : Unit := ()
def PySem.W.Fast.tw13359779400634217416 : Unit := ()
def PySem.W.Fast.tw13380525616142716073 : Unit := ()
def PySem.W.Fast.tw13383829781758597118 : Unit := ()
def PySem.W.Fast.tw13386667138324447599 : Unit := ()
def PySem.W.Fast.tw13453253183633925547 : Unit := ()
def PySem.W.Fast.tw1356006331225694931 : Unit := ()
def PySem.W.Fast.tw13571080151810071997 : Unit := ()
def PySem.W.Fast.tw13579203563824300616 : Unit := ()
def PySem.W.Fast.tw13592990400199030806 : Unit := ()
def PySem.W.Fast.tw13642735891000966759 : Unit := ()
def PySem.W.Fast.tw13644637260864223301 : Unit := ()
def PySem.W.Fast.tw1369969495242414927 : Unit := ()
def PySem.W.Fast.tw13702944964715412952 : Unit := ()
def PySem.W.Fast.tw13704364633185254177 : Unit := ()
def PySem.W.Fast.tw13704463573100352342 : Unit := ()
def PySem.W.Fast.tw13710585892942119160 : Unit := ()
def PySem.W.Fast.tw13711330429168534644 : Unit := ()
def PySem.W.Fast.tw13715233260923522600 : Unit := ()
def PySem.W.Fast.tw13721322009897814968 : Unit := ()
def PySem.W.Fast.tw13733937785727298751 : Unit := ()
def PySem.W.Fast.tw13760667461844754120 : Unit := ()
def PySem.W.Fast.tw1376914572983511626 : Unit := ()
def PySem.W.Fast.tw13781643347530651806 : Unit := ()
def PySem.W.Fast.tw13796508085052454449 : Unit := ()
def PySem.W.Fast.tw1385795858460256441 : Unit := ()
def PySem.W.Fast.tw13865103373938072538 : Unit := ()
def PySem.W.Fast.tw13891678881724953838 : Unit := ()
def PySem.W.Fast.tw13903263185397032020 : Unit := ()
def PySem.W.Fast.tw13909025180626367470 : Unit := ()
def PySem.W.Fast.tw13943059251018848273 : Unit := ()
def PySem.W.Fast.tw13981604732034181567 : Unit := ()
def PySem.W.Fast.tw13985157002514138557 : Unit := ()
def PySem.W.Fast.tw14009889329275203969 : Unit := ()
def PySem.W.Fast.tw14018506380597078226 : Unit := ()
def PySem.W.Fast.tw14049206488456625063 : Unit := ()
def PySem.W.Fast.tw14126824856633346203 : Unit := ()
def PySem.W.Fast.tw14130275574792409926 : Unit := ()
def PySem.W.Fast.tw14136280791844021935 : Unit := ()
def PySem.W.Fast.tw14148174979596542095 : Unit := ()
def PySem.W.Fast.tw14182005167995196291 : Unit := ()
def PySem.W.Fast.tw14209023783244549318 : Unit := ()
def PySem.W.Fast.tw14232784134555843564 : Unit := ()
def PySem.W.Fast.tw14265371596382246514 : Unit := ()
def PySem.W.Fast.tw14311273190974555865 : Unit := ()
def PySem.W.Fast.tw14317589658472253622 : Unit := ()
def PySem.W.Fast.tw14414999173389360282 : Unit := ()
def PySem.W.Fast.tw14428508667411646274 : Unit := ()
def PySem.W.Fast.tw14451530830629098708 : Unit := ()
def PySem.W.Fast.tw14459101221890630184 : Unit := ()
def PySem.W.Fast.tw14471272028777943810 : Unit := ()
def PySem.W.Fast.tw144761698205907101 : Unit := ()
def PySem.W.Fast.tw14502359281714611324 : Unit := ()
def PySem.W.Fast.tw14527184511057631600 : Unit := ()
def PySem.W.Fast.tw14545397559767462619 : Unit := ()
def PySem.W.Fast.tw14548184526669752769 : Unit := ()
def PySem.W.Fast.tw14563413754040731237 : Unit := ()
def PySem.W.Fast.tw14563909888448260475 : Unit := ()
def PySem.W.Fast.tw14568662774766165751 : Unit := ()
def PySem.W.Fast.tw14569000986280305405 : Unit := ()
def PySem.W.Fast.tw1461401012323677636 : Unit := ()
def PySem.W.Fast.tw1461650061382335232 : Unit := ()
def PySem.W.Fast.tw14620109793859424940 : Unit := ()
def PySem.W.Fast.tw14657193886886607226 : Unit := ()
def PySem.W.Fast.tw14680292719105552826 : Unit := ()
def PySem.W.Fast.tw14691188093100001492 : Unit := ()
def PySem.W.Fast.tw14697096668232004384 : Unit := ()
def PySem.W.Fast.tw14698785681982018809 : Unit := ()
def PySem.W.Fast.tw14699594306393919869 : Unit := ()
def PySem.W.Fast.tw1470222695675277952 : Unit := ()
def PySem.W.Fast.tw14703178839056450189 : Unit := ()
def PySem.W.Fast.tw14746908857118921289 : Unit := ()
def PySem.W.Fast.tw14784311230715151039 : Unit := ()
def PySem.W.Fast.tw14795174837177092017 : Unit := ()
def PySem.W.Fast.tw149042489813178385 : Unit := ()
def PySem.W.Fast.tw14915078643160253543 : Unit := ()
def PySem.W.Fast.tw14916495546827259065 : Unit := ()
def PySem.W.Fast.tw14940969869129510100 : Unit := ()
def PySem.W.Fast.tw14955065596043807471 : Unit := ()
def PySem.W.Fast.tw14965757432656248452 : Unit := ()
def PySem.W.Fast.tw1497427336538034699 : Unit := ()
def PySem.W.Fast.tw14982459089182664409 : Unit := ()
def PySem.W.Fast.tw15059974436205227173 : Unit := ()
def PySem.W.Fast.tw15099287468129373761 : Unit := ()
def PySem.W.Fast.tw15103414135237721082 : Unit := ()
def PySem.W.Fast.tw1511001431411716186 : Unit := ()
def PySem.W.Fast.tw15250024762323273735 : Unit := ()
def PySem.W.Fast.tw15252747644413916286 : Unit := ()
def PySem.W.Fast.tw15252950006033479622 : Unit := ()
def PySem.W.Fast.tw15264938774783778707 : Unit := ()
def PySem.W.Fast.tw15274461113200302747 : Unit := ()
def PySem.W.Fast.tw1528927417993159607 : Unit := ()
def PySem.W.Fast.tw15309708824053159320 : Unit := ()
def PySem.W.Fast.tw15327281629291401921 : Unit := ()
def PySem.W.Fast.tw15338138147977743634 : Unit := ()
def PySem.W.Fast.tw15383149660589578605 : Unit := ()
def PySem.W.Fast.tw15406973949737220046 : Unit := ()
def PySem.W.Fast.tw1541862949863664826 : Unit := ()
def PySem.W.Fast.tw15446688801212894602 : Unit := ()
def PySem.W.Fast.tw1545337456647696959 : Unit := ()
def PySem.W.Fast.tw15472786814855437761 : Unit := ()
def PySem.W.Fast.tw15502849686120443423 : Unit := ()
def PySem.W.Fast.tw15557027463591751120 : Unit := ()
def PySem.W.Fast.tw15559522768985422316 : Unit := ()
def PySem.W.Fast.tw1558699507360987958 : Unit := ()
def PySem.W.Fast.tw15594006588538147200 : Unit := ()
def PySem.W.Fast.tw15646018324541068527 : Unit := ()
def PySem.W.Fast.tw15667528630182414680 : Unit := ()
def PySem.W.Fast.tw15691394402715444497 : Unit := ()
def PySem.W.Fast.tw15704566479809554709 : Unit := ()
def PySem.W.Fast.tw157099883881411921 : Unit := ()
def PySem.W.Fast.tw15719992259341802777 : Unit := ()
def PySem.W.Fast.tw15743059350780052044 : Unit := ()
def PySem.W.Fast.tw1575251266732769444 : Unit := ()
def PySem.W.Fast.tw15775084723769914216 : Unit := ()
def PySem.W.Fast.tw15787200754462475462 : Unit := ()
def PySem.W.Fast.tw15789737405855857334 : Unit := ()
def PySem.W.Fast.tw158288139851411086 : Unit := ()
def PySem.W.Fast.tw15879370360394646716 : Unit := ()
def PySem.W.Fast.tw15974991363133689892 : Unit := ()
def PySem.W.Fast.tw1602043998893581337 : Unit := ()
def PySem.W.Fast.tw16025885874162344422 : Unit := ()
def PySem.W.Fast.tw16118643475891573368 : Unit := ()
def PySem.W.Fast.tw16121137113918441066 : Unit := ()
def PySem.W.Fast.tw16133222275905976980 : Unit := ()
def PySem.W.Fast.tw16142170436909858690 : Unit := ()
def PySem.W.Fast.tw16168196018573444239 : Unit := ()
def PySem.W.Fast.tw16191176538816018608 : Unit := ()
def PySem.W.Fast.tw16239420637020586051 : Unit := ()
def PySem.W.Fast.tw16239613336673857418 : Unit := ()
def PySem.W.Fast.tw16257316460011354941 : Unit := ()
def PySem.W.Fast.tw16298397651933329924 : Unit := ()
def PySem.W.Fast.tw16330129436127460542 : Unit := ()
def PySem.W.Fast.tw16394922873134693404 : Unit := ()
def PySem.W.Fast.tw16405710204164935300 : Unit := ()
def PySem.W.Fast.tw16446832098716876781 : Unit := ()
def PySem.W.Fast.tw1646001282251720064 : Unit := ()
def PySem.W.Fast.tw16495025668820399348 : Unit := ()
def PySem.W.Fast.tw16497677592003105004 : Unit := ()
def PySem.W.Fast.tw1659025039994384564 : Unit := ()
def PySem.W.Fast.tw16612599255490191686 : Unit := ()
def PySem.W.Fast.tw16676620138986719257 : Unit := ()
def PySem.W.Fast.tw16687650019464817063 : Unit := ()
def PySem.W.Fast.tw1669561516405214307 : Unit := ()
def PySem.W.Fast.tw16703407392819018426 : Unit := ()
def PySem.W.Fast.tw16706003011677873046 : Unit := ()
def PySem.W.Fast.tw1672566320805117495 : Unit := ()
def PySem.W.Fast.tw16728604615344286239 : Unit := ()
def PySem.W.Fast.tw16729376793671585086 : Unit := ()
def PySem.W.Fast.tw16743379126713787390 : Unit := ()
def PySem.W.Fast.tw16744396982669820965 : Unit := ()
def PySem.W.Fast.tw16750750637252880911 : Unit := ()
def PySem.W.Fast.tw16755492571982189530 : Unit := ()
def PySem.W.Fast.tw16813270794305668611 : Unit := ()
def PySem.W.Fast.tw16834346560040742778 : Unit := ()
def PySem.W.Fast.tw16837995703552992169 : Unit := ()
def PySem.W.Fast.tw16891808671614567049 : Unit := ()
def PySem.W.Fast.tw16899362261718908996 : Unit := ()
def PySem.W.Fast.tw16905864746801651919 : Unit := ()
def PySem.W.Fast.tw16971650712538300535 : Unit := ()
def PySem.W.Fast.tw16982131292253501310 : Unit := ()
def PySem.W.Fast.tw16997286347163967922 : Unit := ()
def PySem.W.Fast.tw17000517712725557901 : Unit := ()
def PySem.W.Fast.tw17015750771515915464 : Unit := ()
def PySem.W.Fast.tw17042514920426807689 : Unit := ()
def PySem.W.Fast.tw17044155661263326259 : Unit := ()
def PySem.W.Fast.tw17064225201000516651 : Unit := ()
def PySem.W.Fast.tw1712524989244496848 : Unit := ()
def PySem.W.Fast.tw17159404419588165970 : Unit := ()
def PySem.W.Fast.tw17248953502119165398 : Unit := ()
def PySem.W.Fast.tw17260764177007778027 : Unit := ()
def PySem.W.Fast.tw17261180185854262748 : Unit := ()
def PySem.W.Fast.tw17272157424486120624 : Unit := ()
def PySem.W.Fast.tw17276598392211694750 : Unit := ()
def PySem.W.Fast.tw17290153142797420084 : Unit := ()
def PySem.W.Fast.tw17328069426089616923 : Unit := ()
def PySem.W.Fast.tw17385380216929707099 : Unit := ()
def PySem.W.Fast.tw17398644783417283716 : Unit := ()
def PySem.W.Fast.tw17408036195650015630 : Unit := ()
def PySem.W.Fast.tw17457144426503655577 : Unit := ()
def PySem.W.Fast.tw17485251658611573823 : Unit := ()
def PySem.W.Fast.tw17488853198470303381 : Unit := ()
def PySem.W.Fast.tw17514527615891231658 : Unit := ()
def PySem.W.Fast.tw17519048609831721786 : Unit := ()
def PySem.W.Fast.tw17521731932340224370 : Unit := ()
def PySem.W.Fast.tw17522050403406343565 : Unit := ()
def PySem.W.Fast.tw17550642871192262818 : Unit := ()
def PySem.W.Fast.tw1757762031736340343 : Unit := ()
def PySem.W.Fast.tw17578079225037537406 : Unit := ()
def PySem.W.Fast.tw17595742814497320910 : Unit := ()
def PySem.W.Fast.tw17603962898504985374 : Unit := ()
def PySem.W.Fast.tw17613145371497015238 : Unit := ()
def PySem.W.Fast.tw17639264075871065947 : Unit := ()
def PySem.W.Fast.tw17644623051476395770 : Unit := ()
def PySem.W.Fast.tw17665416425436654041 : Unit := ()
def PySem.W.Fast.tw1768821980622420679 : Unit := ()
def PySem.W.Fast.tw17691722768350002361 : Unit := ()
def PySem.W.Fast.tw17744769903052976775 : Unit := ()
def PySem.W.Fast.tw17775708407443846554 : Unit := ()
def PySem.W.Fast.tw17779106450248786647 : Unit := ()
def PySem.W.Fast.tw17802077101057202556 : Unit := ()
def PySem.W.Fast.tw17855936183166939498 : Unit := ()
def PySem.W.Fast.tw17948996108318330491 : Unit := ()
def PySem.W.Fast.tw17971975516689156275 : Unit := ()
def PySem.W.Fast.tw17972112446082794848 : Unit := ()
def PySem.W.Fast.tw17977559367317842967 : Unit := ()
def PySem.W.Fast.tw17981225709515011839 : Unit := ()
def PySem.W.Fast.tw1803769709244273795 : Unit := ()
def PySem.W.Fast.tw18046190630766500757 : Unit := ()
def PySem.W.Fast.tw18097131469081109171 : Unit := ()
def PySem.W.Fast.tw18107535653154227977 : Unit := ()
def PySem.W.Fast.tw18140511597852088164 : Unit := ()
def PySem.W.Fast.tw18175055724946903278 : Unit := ()
def PySem.W.Fast.tw18187046178173725963 : Unit := ()
def PySem.W.Fast.tw18249399076780620759 : Unit := ()
def PySem.W.Fast.tw18303847515641860196 : Unit := ()
def PySem.W.Fast.tw18305815931972848917 : Unit := ()
def PySem.W.Fast.tw18328793057252718504 : Unit := ()
def PySem.W.Fast.tw18329781912849040639 : Unit := ()
def PySem.W.Fast.tw18381145314226483616 : Unit := ()
def PySem.W.Fast.tw18405436902428731682 : Unit := ()
def PySem.W.Fast.tw18419103786857816940 : Unit := ()
def PySem.W.Fast.tw18431728183836283783 : Unit := ()
def PySem.W.Fast.tw1846183886128010665 : Unit := ()
def PySem.W.Fast.tw1848706106528871870 : Unit := ()
def PySem.W.Fast.tw1892314843158384063 : Unit := ()
def PySem.W.Fast.tw1930321285895685777 : Unit := ()
def PySem.W.Fast.tw1964614310833038554 : Unit := ()
def PySem.W.Fast.tw1998925527855308857 : Unit := ()
def PySem.W.Fast.tw2025068191543753053 : Unit := ()
def PySem.W.Fast.tw2032782737460887550 : Unit := ()
def PySem.W.Fast.tw203538742256157480 : Unit := ()
def PySem.W.Fast.tw2050107945074906367 : Unit := ()
def PySem.W.Fast.tw2086043465509846614 : Unit := ()
def PySem.W.Fast.tw210500141703993473 : Unit := ()
def PySem.W.Fast.tw213181670718573299 : Unit := ()
def PySem.W.Fast.tw2180628017712891508 : Unit := ()
def PySem.W.Fast.tw2186709393499839174 : Unit := ()
def PySem.W.Fast.tw2187443482380583470 : Unit := ()
def PySem.W.Fast.tw2232928278972952768 : Unit := ()
def PySem.W.Fast.tw2242047830000693397 : Unit := ()
def PySem.W.Fast.tw2243710713757507187 : Unit := ()
def PySem.W.Fast.tw2290521814560382075 : Unit := ()
def PySem.W.Fast.tw2329288461540363903 : Unit := ()
def PySem.W.Fast.tw233397605002056192 : Unit := ()
def PySem.W.Fast.tw2388974202587613721 : Unit := ()
def PySem.W.Fast.tw2406068136046776227 : Unit := ()
def PySem.W.Fast.tw2451312755670264471 : Unit := ()
def PySem.W.Fast.tw2485791803679155520 : Unit := ()
def PySem.W.Fast.tw2497719323326053117 : Unit := ()
def PySem.W.Fast.tw2532752817518790681 : Unit := ()
def PySem.W.Fast.tw2539569149355075664 : Unit := ()
def PySem.W.Fast.tw2544480385605734516 : Unit := ()
def PySem.W.Fast.tw2634451480251509787 : Unit := ()
def PySem.W.Fast.tw2686215169117611433 : Unit := ()
def PySem.W.Fast.tw2687778773274802289 : Unit := ()
def PySem.W.Fast.tw268809895759152598 : Unit := ()
def PySem.W.Fast.tw2702008538969161844 : Unit := ()
def PySem.W.Fast.tw2708206990287401764 : Unit := ()
def PySem.W.Fast.tw2713135515348919719 : Unit := ()
def PySem.W.Fast.tw2730671116997789084 : Unit := ()
def PySem.W.Fast.tw273342464522761988 : Unit := ()
def PySem.W.Fast.tw273496306098559062 : Unit := ()
def PySem.W.Fast.tw2758932570016602824 : Unit := ()
def PySem.W.Fast.tw2769891636214413196 : Unit := ()
def PySem.W.Fast.tw2788320710784586118 : Unit := ()
def PySem.W.Fast.tw2792861841727305926 : Unit := ()
def PySem.W.Fast.tw284898157577505874 : Unit := ()
def PySem.W.Fast.tw2854597469853436443 : Unit := ()
def PySem.W.Fast.tw2866556990674199296 : Unit := ()
def PySem.W.Fast.tw2916421527163926053 : Unit := ()
def PySem.W.Fast.tw2925436937189983587 : Unit := ()
def PySem.W.Fast.tw2963071789132301292 : Unit := ()
def PySem.W.Fast.tw2980694908418958543 : Unit := ()
def PySem.W.Fast.tw2994695182376015680 : Unit := ()
def PySem.W.Fast.tw3078569347872779333 : Unit := ()
def PySem.W.Fast.tw3087877811284643743 : Unit := ()
def PySem.W.Fast.tw3091755000517326789 : Unit := ()
def PySem.W.Fast.tw3114508567855571268 : Unit := ()
def PySem.W.Fast.tw3122606736135192507 : Unit := ()
def PySem.W.Fast.tw312334829670787804 : Unit := ()
def PySem.W.Fast.tw3127992143774946365 : Unit := ()
def PySem.W.Fast.tw3179467891060573610 : Unit := ()
def PySem.W.Fast.tw3183941445986621673 : Unit := ()
def PySem.W.Fast.tw3314635465752915538 : Unit := ()
def PySem.W.Fast.tw3374234463854419334 : Unit := ()
def PySem.W.Fast.tw33843462439982420 : Unit := ()
def PySem.W.Fast.tw3408656948470443124 : Unit := ()
def PySem.W.Fast.tw340923443392870549 : Unit := ()
def PySem.W.Fast.tw3479180633307238875 : Unit := ()
def PySem.W.Fast.tw3521216147162204981 : Unit := ()
def PySem.W.Fast.tw353434449827287274 : Unit := ()
def PySem.W.Fast.tw3569025725513736681 : Unit := ()
def PySem.W.Fast.tw3569748461108879801 : Unit := ()
def PySem.W.Fast.tw3606604188517728932 : Unit := ()
def PySem.W.Fast.tw3607183832045866897 : Unit := ()
def PySem.W.Fast.tw3627781036800466129 : Unit := ()
def PySem.W.Fast.tw3630135174868809856 : Unit := ()
def PySem.W.Fast.tw3642296336301750909 : Unit := ()
def PySem.W.Fast.tw3700974328716926749 : Unit := ()
def PySem.W.Fast.tw3733609813620231376 : Unit := ()
def PySem.W.Fast.tw3749231927933117892 : Unit := ()
def PySem.W.Fast.tw3788962078527381994 : Unit := ()
def PySem.W.Fast.tw3803935909277678657 : Unit := ()
def PySem.W.Fast.tw3810603207900230980 : Unit := ()
def PySem.W.Fast.tw3817013105360544539 : Unit := ()
def PySem.W.Fast.tw3855761033687280271 : Unit := ()
def PySem.W.Fast.tw3857401002737800644 : Unit := ()
def PySem.W.Fast.tw3936256772623626641 : Unit := ()
def PySem.W.Fast.tw3962453483391610606 : Unit := ()
def PySem.W.Fast.tw3971939008577850843 : Unit := ()
def PySem.W.Fast.tw4007970152801702618 : Unit := ()
def PySem.W.Fast.tw4020576912341399859 : Unit := ()
def PySem.W.Fast.tw4072041304443033358 : Unit := ()
def PySem.W.Fast.tw4092021603949580633 : Unit := ()
def PySem.W.Fast.tw4163860939278579979 : Unit := ()
def PySem.W.Fast.tw421095715046041649 : Unit := ()
def PySem.W.Fast.tw4221399984721723600 : Unit := ()
def PySem.W.Fast.tw4270309030327389323 : Unit := ()
def PySem.W.Fast.tw4315611690088178376 : Unit := ()
def PySem.W.Fast.tw4321500138521503622 : Unit := ()
def PySem.W.Fast.tw4372935636651260788 : Unit := ()
def PySem.W.Fast.tw4423019126725143153 : Unit := ()
def PySem.W.Fast.tw4426490934077858406 : Unit := ()
def PySem.W.Fast.tw4431721056123157421 : Unit := ()
def PySem.W.Fast.tw444808481324465941 : Unit := ()
def PySem.W.Fast.tw4465556058801784337 : Unit := ()
def PySem.W.Fast.tw4475423207912433565 : Unit := ()
def PySem.W.Fast.tw449983999698088267 : Unit := ()
def PySem.W.Fast.tw452718436544890800 : Unit := ()
def PySem.W.Fast.tw4567793053928259307 : Unit := ()
def PySem.W.Fast.tw4572588834421714735 : Unit := ()
def PySem.W.Fast.tw4672251168586186585 : Unit := ()
def PySem.W.Fast.tw4682569748206634276 : Unit := ()
def PySem.W.Fast.tw4688497144095128101 : Unit := ()
def PySem.W.Fast.tw4702433778525817014 : Unit := ()
def PySem.W.Fast.tw4727300350111516809 : Unit := ()
def PySem.W.Fast.tw4778050242031321637 : Unit := ()
def PySem.W.Fast.tw4783039788182210424 : Unit := ()
def PySem.W.Fast.tw4795143272031561484 : Unit := ()
def PySem.W.Fast.tw4813359611615098772 : Unit := ()
def PySem.W.Fast.tw4816371358710555533 : Unit := ()
def PySem.W.Fast.tw4828214477925751161 : Unit := ()
def PySem.W.Fast.tw4846343297192738828 : Unit := ()
def PySem.W.Fast.tw4864055727739807902 : Unit := ()
def PySem.W.Fast.tw4930181906029767480 : Unit := ()
def PySem.W.Fast.tw4933336913233363640 : Unit := ()
def PySem.W.Fast.tw4963169518756772368 : Unit := ()
def PySem.W.Fast.tw4969799431281614737 : Unit := ()
def PySem.W.Fast.tw5041567698386503314 : Unit := ()
def PySem.W.Fast.tw506124496965572327 : Unit := ()
def PySem.W.Fast.tw5061980649066304296 : Unit := ()
def PySem.W.Fast.tw5098203376986379331 : Unit := ()
def PySem.W.Fast.tw5134867644990953800 : Unit := ()
def PySem.W.Fast.tw5149793516507743920 : Unit := ()
def PySem.W.Fast.tw5168735352402571729 : Unit := ()
def PySem.W.Fast.tw5176109044708395309 : Unit := ()
def PySem.W.Fast.tw5209586792125202559 : Unit := ()
def PySem.W.Fast.tw5225465313358998406 : Unit := ()
def PySem.W.Fast.tw5244337611122616906 : Unit := ()
def PySem.W.Fast.tw5270321566181454583 : Unit := ()
def PySem.W.Fast.tw5296186810746269628 : Unit := ()
def PySem.W.Fast.tw5314245077236442545 : Unit := ()
def PySem.W.Fast.tw5326298092177768635 : Unit := ()
def PySem.W.Fast.tw5340052105723946128 : Unit := ()
def PySem.W.Fast.tw5351016707461188490 : Unit := ()
def PySem.W.Fast.tw5365199745600942006 : Unit := ()
def PySem.W.Fast.tw5435938538888793726 : Unit := ()
def PySem.W.Fast.tw544981928110789156 : Unit := ()
def PySem.W.Fast.tw5474318606480392802 : Unit := ()
def PySem.W.Fast.tw5483113455406801342 : Unit := ()
def PySem.W.Fast.tw5492705170735548729 : Unit := ()
def PySem.W.Fast.tw5527990998891253424 : Unit := ()
def PySem.W.Fast.tw5530455226995299381 : Unit := ()
def PySem.W.Fast.tw5549447847191824798 : Unit := ()
def PySem.W.Fast.tw5556737385937093953 : Unit := ()
def PySem.W.Fast.tw5563151238923683341 : Unit := ()
def PySem.W.Fast.tw560278985166680674 : Unit := ()
def PySem.W.Fast.tw5605489659199346762 : Unit := ()
def PySem.W.Fast.tw5625777439317017999 : Unit := ()
def PySem.W.Fast.tw5640262551794472880 : Unit := ()
def PySem.W.Fast.tw5657170368235308476 : Unit := ()
def PySem.W.Fast.tw5720670312879306663 : Unit := ()
def PySem.W.Fast.tw5730494529363693630 : Unit := ()
def PySem.W.Fast.tw5777348531258265625 : Unit := ()
def PySem.W.Fast.tw5906342117573951517 : Unit := ()
def PySem.W.Fast.tw6000042937499875989 : Unit := ()
def PySem.W.Fast.tw6011005913455112831 : Unit := ()
def PySem.W.Fast.tw6096561484604139552 : Unit := ()
def PySem.W.Fast.tw6103904017725864225 : Unit := ()
def PySem.W.Fast.tw6111742503746932574 : Unit := ()
def PySem.W.Fast.tw61308222518715194 : Unit := ()
def PySem.W.Fast.tw6157965163403797431 : Unit := ()
def PySem.W.Fast.tw6165835706798807056 : Unit := ()
def PySem.W.Fast.tw6178073126101450284 : Unit := ()
def PySem.W.Fast.tw618452209033382684 : Unit := ()
def PySem.W.Fast.tw6188778296985122041 : Unit := ()
def PySem.W.Fast.tw6224681219567151269 : Unit := ()
def PySem.W.Fast.tw6234441392956391240 : Unit := ()
def PySem.W.Fast.tw6253612593571664655 : Unit := ()
def PySem.W.Fast.tw6276084509724426145 : Unit := ()
def PySem.W.Fast.tw6277093194443637373 : Unit := ()
def PySem.W.Fast.tw6280700616445546614 : Unit := ()
def PySem.W.Fast.tw6300834206522220198 : Unit := ()
def PySem.W.Fast.tw6322278379817224854 : Unit := ()
def PySem.W.Fast.tw6325271446171712436 : Unit := ()
def PySem.W.Fast.tw6338124962743223079 : Unit := ()
def PySem.W.Fast.tw6362691277045219669 : Unit := ()
def PySem.W.Fast.tw6395492850673364178 : Unit := ()
def PySem.W.Fast.tw6405682175441558957 : Unit := ()
def PySem.W.Fast.tw6413012170361367314 : Unit := ()
def PySem.W.Fast.tw6430101428395255672 : Unit := ()
def PySem.W.Fast.tw6439276811717382741 : Unit := ()
def PySem.W.Fast.tw6442720285274234637 : Unit := ()
def PySem.W.Fast.tw6464684583954378272 : Unit := ()
def PySem.W.Fast.tw6482704889200008466 : Unit := ()
def PySem.W.Fast.tw6493702399020346082 : Unit := ()
def PySem.W.Fast.tw6504617499396612320 : Unit := ()
def PySem.W.Fast.tw6523344873405188214 : Unit := ()
def PySem.W.Fast.tw6544538751551598183 : Unit := ()
def PySem.W.Fast.tw6616701669952882995 : Unit := ()
def PySem.W.Fast.tw663065710504444952 : Unit := ()
def PySem.W.Fast.tw6640671822869611060 : Unit := ()
def PySem.W.Fast.tw6669450430916212995 : Unit := ()
def PySem.W.Fast.tw667113494731398897 : Unit := ()
def PySem.W.Fast.tw6684782144601114712 : Unit := ()
def PySem.W.Fast.tw6691694127223134958 : Unit := ()
def PySem.W.Fast.tw6726560488060779330 : Unit := ()
def PySem.W.Fast.tw6731623560008217316 : Unit := ()
def PySem.W.Fast.tw6770121154973364200 : Unit := ()
def PySem.W.Fast.tw6896169691393079488 : Unit := ()
def PySem.W.Fast.tw6902119404489327408 : Unit := ()
def PySem.W.Fast.tw6986418753352981221 : Unit := ()
def PySem.W.Fast.tw7010920647668747321 : Unit := ()
def PySem.W.Fast.tw7035773760086470468 : Unit := ()
def PySem.W.Fast.tw7041519807977401933 : Unit := ()
def PySem.W.Fast.tw7076557868175652714 : Unit := ()
def PySem.W.Fast.tw7101152847958973816 : Unit := ()
def PySem.W.Fast.tw7119822495469951626 : Unit := ()
def PySem.W.Fast.tw7125561576877680881 : Unit := ()
def PySem.W.Fast.tw7131528389520619114 : Unit := ()
def PySem.W.Fast.tw7133541039626845281 : Unit := ()
def PySem.W.Fast.tw7150506858518274521 : Unit := ()
def PySem.W.Fast.tw7205981267461779564 : Unit := ()
def PySem.W.Fast.tw725693403602609497 : Unit := ()
def PySem.W.Fast.tw7288650015625161808 : Unit := ()
def PySem.W.Fast.tw7325153259887480574 : Unit := ()
def PySem.W.Fast.tw7401882057527892018 : Unit := ()
def PySem.W.Fast.tw741426150446344768 : Unit := ()
def PySem.W.Fast.tw7426923968539829252 : Unit := ()
def PySem.W.Fast.tw7432918478277761407 : Unit := ()
def PySem.W.Fast.tw7460265011379734179 : Unit := ()
def PySem.W.Fast.tw7473369223293611355 : Unit := ()
def PySem.W.Fast.tw7495428954703965415 : Unit := ()
def PySem.W.Fast.tw7506382554473047090 : Unit := ()
def PySem.W.Fast.tw7515614197753064859 : Unit := ()
def PySem.W.Fast.tw7534522676331534393 : Unit := ()
def PySem.W.Fast.tw7568698869714738427 : Unit := ()
def PySem.W.Fast.tw7659339498372725746 : Unit := ()
def PySem.W.Fast.tw7667796557721917435 : Unit := ()
def PySem.W.Fast.tw7682977509971426517 : Unit := ()
def PySem.W.Fast.tw7730214518799984907 : Unit := ()
def PySem.W.Fast.tw7752538528939021701 : Unit := ()
def PySem.W.Fast.tw7780869691767495010 : Unit := ()
def PySem.W.Fast.tw7843223166568816711 : Unit := ()
def PySem.W.Fast.tw7867135659206720646 : Unit := ()
def PySem.W.Fast.tw7871920337597191216 : Unit := ()
def PySem.W.Fast.tw7873150726463086872 : Unit := ()
def PySem.W.Fast.tw7884231786230045802 : Unit := ()
def PySem.W.Fast.tw7905301442209642142 : Unit := ()
def PySem.W.Fast.tw7929066483474327845 : Unit := ()
def PySem.W.Fast.tw7939071896489792568 : Unit := ()
def PySem.W.Fast.tw7993984244460288901 : Unit := ()
def PySem.W.Fast.tw8013873937091401657 : Unit := ()
def PySem.W.Fast.tw8020692989171241476 : Unit := ()
def PySem.W.Fast.tw8067946892705789765 : Unit := ()
def PySem.W.Fast.tw8104545610078946526 : Unit := ()
def PySem.W.Fast.tw8202555280969981681 : Unit := ()
def PySem.W.Fast.tw8229039183443987542 : Unit := ()
def PySem.W.Fast.tw8239094566848769229 : Unit := ()
def PySem.W.Fast.tw8307246342164379832 : Unit := ()
def PySem.W.Fast.tw8313244189021852371 : Unit := ()
def PySem.W.Fast.tw8389247399022997116 : Unit := ()
def PySem.W.Fast.tw8401465971952198898 : Unit := ()
def PySem.W.Fast.tw8458227671245190265 : Unit := ()
def PySem.W.Fast.tw8686011759904714963 : Unit := ()
def PySem.W.Fast.tw8735226205619193993 : Unit := ()
def PySem.W.Fast.tw8749187853236648728 : Unit := ()
def PySem.W.Fast.tw8758677378435375432 : Unit := ()
def PySem.W.Fast.tw8805024896493162401 : Unit := ()
def PySem.W.Fast.tw8812466605291747111 : Unit := ()
def PySem.W.Fast.tw8816300613579938317 : Unit := ()
def PySem.W.Fast.tw8859453369369081041 : Unit := ()
def PySem.W.Fast.tw893963219821780964 : Unit := ()
def PySem.W.Fast.tw8944607942396718262 : Unit := ()
def PySem.W.Fast.tw8971188855045799923 : Unit := ()
def PySem.W.Fast.tw8973170939539062618 : Unit := ()
def PySem.W.Fast.tw9043390758481819207 : Unit := ()
def PySem.W.Fast.tw9045149059084972517 : Unit := ()
def PySem.W.Fast.tw907101850503044140 : Unit := ()
def PySem.W.Fast.tw9079801058034498327 : Unit := ()
def PySem.W.Fast.tw9097496806455914939 : Unit := ()
def PySem.W.Fast.tw9145799394169231446 : Unit := ()
def PySem.W.Fast.tw9180077505968954703 : Unit := ()
def PySem.W.Fast.tw9212596593170083492 : Unit := ()
def PySem.W.Fast.tw9263454399321736047 : Unit := ()
def PySem.W.Fast.tw9272501060097929880 : Unit := ()
def PySem.W.Fast.tw9281857854377595012 : Unit := ()
def PySem.W.Fast.tw9335977202004281589 : Unit := ()
def PySem.W.Fast.tw9348898186404205842 : Unit := ()
def PySem.W.Fast.tw9360736131026972810 : Unit := ()
def PySem.W.Fast.tw9371017887212257049 : Unit := ()
def PySem.W.Fast.tw9473950598353284976 : Unit := ()
def PySem.W.Fast.tw9520741642933183794 : Unit := ()
def PySem.W.Fast.tw9525359223408658978 : Unit := ()
def PySem.W.Fast.tw9537696451182049445 : Unit := ()
def PySem.W.Fast.tw9537765694153493305 : Unit := ()
def PySem.W.Fast.tw9551821618020929167 : Unit := ()
def PySem.W.Fast.tw9593989095070469472 : Unit := ()
def PySem.W.Fast.tw9651896232869528422 : Unit := ()
def PySem.W.Fast.tw9663839582210571073 : Unit := ()
def PySem.W.Fast.tw9719327976031772267 : Unit := ()
def PySem.W.Fast.tw9721913922264704943 : Unit := ()
def PySem.W.Fast.tw972556947045947375 : Unit := ()
def PySem.W.Fast.tw973704114201847229 : Unit := ()
def PySem.W.Fast.tw9793571356866784771 : Unit := ()
def PySem.W.Fast.tw9830090276092620981 : Unit := ()
def PySem.W.Fast.tw9833962173705120608 : Unit := ()
def PySem.W.Fast.tw9866318895522806499 : Unit := ()
def PySem.W.Fast.tw9878618523766507624 : Unit := ()
def PySem.W.Fast.tw9888077240277375206 : Unit := ()
def PySem.W.Fast.tw9894944032284861661 : Unit := ()
def PySem.W.Fast.tw9912554353068607217 : Unit := ()
def PySem.W.Fast.tw9914495232918470493 : Unit := ()
def PySem.W.Fast.tw9921306118547558047 : Unit := ()
def PySem.W.Fast.tw9929486128548204177 : Unit := ()
def PySem.W.Fast.tw9932254997768001316 : Unit := ()
def PySem.W.Fast.tw9941135702076359551 : Unit := ()
def PySem.W.Fast.tw9945622869001091284 : Unit := ()
def PySem.W.Fast.tw9984653055835542540 : Unit := ()
def PySem.W.Fast.tw9993760767923168293 : Unit := ()
def PySem.W.Fast.tw10116951410174223340 : Unit := ()
def PySem.W.Fast.tw10816516228240621012 : Unit := ()
def PySem.W.Fast.tw11006927389988443837 : Unit := ()
def PySem.W.Fast.tw11050050508906473056 : Unit := ()
def PySem.W.Fast.tw11959263751820064622 : Unit := ()
def PySem.W.Fast.tw12405706970712615907 : Unit := ()
def PySem.W.Fast.tw13217977714377731318 : Unit := ()
def PySem.W.Fast.tw14317505341907335348 : Unit := ()
def PySem.W.Fast.tw14378385715569136358 : Unit := ()
def PySem.W.Fast.tw14968784990803706596 : Unit := ()
def PySem.W.Fast.tw16999570052459387426 : Unit := ()
def PySem.W.Fast.tw2021567007744002119 : Unit := ()
def PySem.W.Fast.tw2357431179725573362 : Unit := ()
def PySem.W.Fast.tw2652866578914285828 : Unit := ()
def PySem.W.Fast.tw2857095322107264798 : Unit := ()
def PySem.W.Fast.tw4092572156789610841 : Unit := ()
def PySem.W.Fast.tw467737440623955098 : Unit := ()
def PySem.W.Fast.tw4897973789877297505 : Unit := ()
def PySem.W.Fast.tw5063176547366315890 : Unit := ()
def PySem.W.Fast.tw5927875214766658022 : Unit := ()
def PySem.W.Fast.tw6017119677593374430 : Unit := ()
def PySem.W.Fast.tw6643632129379987180 : Unit := ()
def PySem.W.Fast.tw7024412233514478006 : Unit := ()
def PySem.W.Fast.tw7320955934306027911 : Unit := ()
def PySem.W.Fast.tw8355500450089096463 : Unit := ()
def PySem.W.Fast.tw8378053041063138021 : Unit := ()
def PySem.W.Fast.tw8498547856886073848 : Unit := ()
def PySem.W.Fast.tw9197242457511766422 : Unit := ()
def PySem.W.Fast.tw9308528098811706155 : Unit := ()
def PySem.W.Fast.tw951877925238126087 : Unit := ()
def PySem.W.Fast.tw10478857465877467941 : Unit := ()
def PySem.W.Fast.tw11726931471602065868 : Unit := ()
def PySem.W.Fast.tw12181722910020910843 : Unit := ()
def PySem.W.Fast.tw12789168060023170611 : Unit := ()
def PySem.W.Fast.tw13263772249644989919 : Unit := ()
def PySem.W.Fast.tw13347814629241008445 : Unit := ()
def PySem.W.Fast.tw13618143839550692783 : Unit := ()
def PySem.W.Fast.tw13908211572007597754 : Unit := ()
def PySem.W.Fast.tw14761248932093152415 : Unit := ()
def PySem.W.Fast.tw14880706478307168805 : Unit := ()
def PySem.W.Fast.tw14906661063730482467 : Unit := ()
def PySem.W.Fast.tw15159731072452407360 : Unit := ()
def PySem.W.Fast.tw1767350090044887451 : Unit := ()
def PySem.W.Fast.tw17908577930146594301 : Unit := ()
def PySem.W.Fast.tw2836237903816609784 : Unit := ()
def PySem.W.Fast.tw4326856306899794096 : Unit := ()
def PySem.W.Fast.tw439682942319846920 : Unit := ()
def PySem.W.Fast.tw5110071314440294958 : Unit := ()
def PySem.W.Fast.tw5362982715071775011 : Unit := ()
def PySem.W.Fast.tw5470199461028536815 : Unit := ()
def PySem.W.Fast.tw5819319274352755946 : Unit := ()
def PySem.W.Fast.tw6000122822524171912 : Unit := ()
def PySem.W.Fast.tw6207402168025756837 : Unit := ()
def PySem.W.Fast.tw6762849259043432155 : Unit := ()
def PySem.W.Fast.tw6894292975764523693 : Unit := ()
def PySem.W.Fast.tw8456787244115995288 : Unit := ()
def PySem.W.Fast.tw8633410975247189851 : Unit := ()
def PySem.W.Fast.tw8639152861881091412 : Unit := ()
def PySem.W.Fast.tw9068588350694143293 : Unit := ()
def PySem.W.Fast.tw9112215164587869836 : Unit := ()
def PySem.W.Fast.tw9130436710463714683 : Unit := ()
def PySem.W.Fast.tw10476477014694233225 : Unit := ()
open PySem PySem.W PyProof.Rows
set_option maxRecDepth 100000 in
set_option maxHeartbeats 0 in
theorem PySem.Challenge.cw_slideroom_k17_refusals_apart_holds : PySem.Challenge.rw_slideroom_k17_refusals_apart.Holds := by
  w_on; o_law; k_head; (case hw => w_witness2)
  k_fill
  refine K17.walk (l := PySem.Challenge.rw_slideroom_k17_refusals_apart) rfl rfl (fun w h Y => PySem.W.kIn_of Y) ?F
  case F =>
    intro w mg fa h KX G hmg
    refine' K17.all_mk KX G hmg ?eR ?eh ?et ?ea0 ?el0 ?ei0 ?ef0 ?ec0 ?ek0 ?es0 ?em0 ?eg0 ?eb0 ?ej0 ?en0_0 ?ea1 ?el1 ?ei1 ?ef1 ?ec1 ?ek1 ?es1 ?em1 ?eg1 ?eb1 ?ej1 ?en1_0 ?ea2 ?el2 ?ei2 ?ef2 ?ec2 ?ek2 ?es2 ?em2 ?eg2 ?eb2 ?ej2 ?en2_0 ?ea3 ?el3 ?ei3 ?ef3 ?ec3 ?ek3 ?es3 ?em3 ?eg3 ?eb3 ?ej3 ?en3_0 ?ea4 ?el4 ?ei4 ?ef4 ?ec4 ?ek4 ?es4 ?em4 ?eg4 ?eb4 ?ej4 ?en4_0 ?ea5 ?el5 ?ei5 ?ef5 ?ec5 ?ek5 ?es5 ?em5 ?eg5 ?eb5 ?ej5 ?en5_0 ?ea6 ?el6 ?ei6 ?ef6 ?ec6 ?ek6 ?es6 ?em6 ?eg6 ?eb6 ?ej6 ?en6_0 ?ea7 ?el7 ?ei7 ?ef7 ?ec7 ?ek7 ?es7 ?em7 ?eg7 ?eb7 ?ej7 ?en7_0 ?ea8 ?el8 ?ei8 ?ef8 ?ec8 ?ek8 ?es8 ?em8 ?eg8 ?eb8 ?ej8 ?en8_0 ?en8_1 ?ea9 ?el9 ?ei9 ?ef9 ?ec9 ?ek9 ?es9 ?em9 ?eg9 ?eb9 ?ej9 ?en9_0 ?ea10 ?el10 ?ei10 ?ef10 ?ec10 ?ek10 ?es10 ?em10 ?eg10 ?eb10 ?ej10 ?en10_0 ?ea11 ?el11 ?ei11 ?ef11 ?ec11 ?ek11 ?es11 ?em11 ?eg11 ?eb11 ?ej11 ?en11_0 ?ea12 ?el12 ?ei12 ?ef12 ?ec12 ?ek12 ?es12 ?em12 ?eg12 ?eb12 ?ej12 ?en12_0 ?en12_1 ?ea13 ?el13 ?ei13 ?ef13 ?ec13 ?ek13 ?es13 ?em13 ?eg13 ?eb13 ?ej13 ?en13_0 ?en13_1 ?ea14 ?el14 ?ei14 ?ef14 ?ec14 ?ek14 ?es14 ?em14 ?eg14 ?eb14 ?ej14 ?en14_0 ?en14_1 ?ea15 ?el15 ?ei15 ?ef15 ?ec15 ?ek15 ?es15 ?em15 ?eg15 ?eb15 ?ej15 ?en15_0 ?ea16 ?el16 ?ei16 ?ef16 ?ec16 ?ek16 ?es16 ?em16 ?eg16 ?eb16 ?ej16 ?en16_0 ?en16_1 ?ea17 ?el17 ?ei17 ?ef17 ?ec17 ?ek17 ?es17 ?em17 ?eg17 ?eb17 ?ej17 ?en17_0 ?ea18 ?el18 ?ei18 ?ef18 ?ec18 ?ek18 ?es18 ?em18 ?eg18 ?eb18 ?ej18 ?en18_0 ?ea19 ?el19 ?ei19 ?ef19 ?ec19 ?ek19 ?es19 ?em19 ?eg19 ?eb19 ?ej19 ?en19_0 ?ea20 ?el20 ?ei20 ?ef20 ?ec20 ?ek20 ?es20 ?em20 ?eg20 ?eb20 ?ej20 ?en20_0 ?en20_1 ?ea21 ?el21 ?ei21 ?ef21 ?ec21 ?ek21 ?es21 ?em21 ?eg21 ?eb21 ?ej21 ?en21_0 ?ea22 ?el22 ?ei22 ?em22 ?eg22 ?eb22 ?ej22 ?ea23 ?el23 ?ei23 ?ef23 ?ec23 ?ek23 ?es23 ?em23 ?eg23 ?eb23 ?ej23 ?en23_0 ?ea24 ?el24 ?ei24 ?ef24 ?ec24 ?ek24 ?es24 ?em24 ?eg24 ?eb24 ?ej24 ?en24_0 ?en24_1 ?ea25 ?el25 ?ei25 ?ef25 ?ec25 ?ek25 ?es25 ?em25 ?eg25 ?eb25 ?ej25 ?en25_0 ?ea26 ?el26 ?ei26 ?ef26 ?ec26 ?ek26 ?es26 ?em26 ?eg26 ?eb26 ?ej26 ?en26_0 ?ea27 ?el27 ?ei27 ?ef27 ?ec27 ?ek27 ?es27 ?em27 ?eg27 ?eb27 ?ej27 ?en27_0 ?a0_ ?l0_ ?c0_ ?k0_ ?a1_ ?l1_ ?c1_ ?k1_ ?a2_ ?l2_ ?c2_ ?k2_ ?a3_ ?l3_ ?c3_ ?k3_ ?a4_ ?l4_ ?c4_ ?k4_ ?a5_ ?l5_ ?c5_ ?k5_ ?nb0 ?nb1 ?nb2 ?nb3 ?nb4 ?zc ?zt ?zn
    (case eR => k_is)
    (case eh => k_is)
    (case et => k_is)
    (case ea0 => k_is)
    (case el0 => k_is)
    (case ei0 => k_is)
    (case ef0 => k_is)
    (case ec0 => k_is)
    (case ek0 => k_is)
    (case es0 => k_is)
    (case em0 => k_is)
    (case eg0 => k_is)
    (case eb0 => k_is)
    (case ej0 => k_is)
    (case en0_0 => k_is)
    (case ea1 => k_is)
    (case el1 => k_is)
    (case ei1 => k_is)
    (case ef1 => k_is)
    (case ec1 => k_is)
    (case ek1 => k_is)
    (case es1 => k_is)
    (case em1 => k_is)
    (case eg1 => k_is)
    (case eb1 => k_is)
    (case ej1 => k_is)
    (case en1_0 => k_is)
    (case ea2 => k_is)
    (case el2 => k_is)
    (case ei2 => k_is)
    (case ef2 => k_is)
    (case ec2 => k_is)
    (case ek2 => k_is)
    (case es2 => k_is)
    (case em2 => k_is)
    (case eg2 => k_is)
    (case eb2 => k_is)
    (case ej2 => k_is)
    (case en2_0 => k_is)
    (case ea3 => k_is)
    (case el3 => k_is)
    (case ei3 => k_is)
    (case ef3 => k_is)
    (case ec3 => k_is)
    (case ek3 => k_is)
    (case es3 => k_is)
    (case em3 => k_is)
    (case eg3 => k_is)
    (case eb3 => k_is)
    (case ej3 => k_is)
    (case en3_0 => k_is)
    (case ea4 => k_is)
    (case el4 => k_is)
    (case ei4 => k_is)
    (case ef4 => k_is)
    (case ec4 => k_is)
    (case ek4 => k_is)
    (case es4 => k_is)
    (case em4 => k_is)
    (case eg4 => k_is)
    (case eb4 => k_is)
    (case ej4 => k_is)
    (case en4_0 => k_is)
    (case ea5 => k_is)
    (case el5 => k_is)
    (case ei5 => k_is)
    (case ef5 => k_is)
    (case ec5 => k_is)
    (case ek5 => k_is)
    (case es5 => k_is)
    (case em5 => k_is)
    (case eg5 => k_is)
    (case eb5 => k_is)
    (case ej5 => k_is)
    (case en5_0 => k_is)
    (case ea6 => k_is)
    (case el6 => k_is)
    (case ei6 => k_is)
    (case ef6 => k_is)
    (case ec6 => k_is)
    (case ek6 => k_is)
    (case es6 => k_is)
    (case em6 => k_is)
    (case eg6 => k_is)
    (case eb6 => k_is)
    (case ej6 => k_is)
    (case en6_0 => k_is)
    (case ea7 => k_is)
    (case el7 => k_is)
    (case ei7 => k_is)
    (case ef7 => k_is)
    (case ec7 => k_is)
    (case ek7 => k_is)
    (case es7 => k_is)
    (case em7 => k_is)
    (case eg7 => k_is)
    (case eb7 => k_is)
    (case ej7 => k_is)
    (case en7_0 => k_is)
    (case ea8 => k_is)
    (case el8 => k_is)
    (case ei8 => k_is)
    (case ef8 => k_is)
    (case ec8 => k_is)
    (case ek8 => k_is)
    (case es8 => k_is)
    (case em8 => k_is)
    (case eg8 => k_is)
    (case eb8 => k_is)
    (case ej8 => k_is)
    (case en8_0 => k_is)
    (case en8_1 => k_is)
    (case ea9 => k_is)
    (case el9 => k_is)
    (case ei9 => k_is)
    (case ef9 => k_is)
    (case ec9 => k_is)
    (case ek9 => k_is)
    (case es9 => k_is)
    (case em9 => k_is)
    (case eg9 => k_is)
    (case eb9 => k_is)
    (case ej9 => k_is)
    (case en9_0 => k_is)
    (case ea10 => k_is)
    (case el10 => k_is)
    (case ei10 => k_is)
    (case ef10 => k_is)
    (case ec10 => k_is)
    (case ek10 => k_is)
    (case es10 => k_is)
    (case em10 => k_is)
    (case eg10 => k_is)
    (case eb10 => k_is)
    (case ej10 => k_is)
    (case en10_0 => k_is)
    (case ea11 => k_is)
    (case el11 => k_is)
    (case ei11 => k_is)
    (case ef11 => k_is)
    (case ec11 => k_is)
    (case ek11 => k_is)
    (case es11 => k_is)
    (case em11 => k_is)
    (case eg11 => k_is)
    (case eb11 => k_is)
    (case ej11 => k_is)
    (case en11_0 => k_is)
    (case ea12 => k_is)
    (case el12 => k_is)
    (case ei12 => k_is)
    (case ef12 => k_is)
    (case ec12 => k_is)
    (case ek12 => k_is)
    (case es12 => k_is)
    (case em12 => k_is)
    (case eg12 => k_is)
    (case eb12 => k_is)
    (case ej12 => k_is)
    (case en12_0 => k_is)
    (case en12_1 => k_is)
    (case ea13 => k_is)
    (case el13 => k_is)
    (case ei13 => k_is)
    (case ef13 => k_is)
    (case ec13 => k_is)
    (case ek13 => k_is)
    (case es13 => k_is)
    (case em13 => k_is)
    (case eg13 => k_is)
    (case eb13 => k_is)
    (case ej13 => k_is)
    (case en13_0 => k_is)
    (case en13_1 => k_is)
    (case ea14 => k_is)
    (case el14 => k_is)
    (case ei14 => k_is)
    (case ef14 => k_is)
    (case ec14 => k_is)
    (case ek14 => k_is)
    (case es14 => k_is)
    (case em14 => k_is)
    (case eg14 => k_is)
    (case eb14 => k_is)
    (case ej14 => k_is)
    (case en14_0 => k_is)
    (case en14_1 => k_is)
    (case ea15 => k_is)
    (case el15 => k_is)
    (case ei15 => k_is)
    (case ef15 => k_is)
    (case ec15 => k_is)
    (case ek15 => k_is)
    (case es15 => k_is)
    (case em15 => k_is)
    (case eg15 => k_is)
    (case eb15 => k_is)
    (case ej15 => k_is)
    (case en15_0 => k_is)
    (case ea16 => k_is)
    (case el16 => k_is)
    (case ei16 => k_is)
    (case ef16 => k_is)
    (case ec16 => k_is)
    (case ek16 => k_is)
    (case es16 => k_is)
    (case em16 => k_is)
    (case eg16 => k_is)
    (case eb16 => k_is)
    (case ej16 => k_is)
    (case en16_0 => k_is)
    (case en16_1 => k_is)
    (case ea17 => k_is)
    (case el17 => k_is)
    (case ei17 => k_is)
    (case ef17 => k_is)
    (case ec17 => k_is)
    (case ek17 => k_is)
    (case es17 => k_is)
    (case em17 => k_is)
    (case eg17 => k_is)
    (case eb17 => k_is)
    (case ej17 => k_is)
    (case en17_0 => k_is)
    (case ea18 => k_is)
    (case el18 => k_is)
    (case ei18 => k_is)
    (case ef18 => k_is)
    (case ec18 => k_is)
    (case ek18 => k_is)
    (case es18 => k_is)
    (case em18 => k_is)
    (case eg18 => k_is)
    (case eb18 => k_is)
    (case ej18 => k_is)
    (case en18_0 => k_is)
    (case ea19 => k_is)
    (case el19 => k_is)
    (case ei19 => k_is)
    (case ef19 => k_is)
    (case ec19 => k_is)
    (case ek19 => k_is)
    (case es19 => k_is)
    (case em19 => k_is)
    (case eg19 => k_is)
    (case eb19 => k_is)
    (case ej19 => k_is)
    (case en19_0 => k_is)
    (case ea20 => k_is)
    (case el20 => k_is)
    (case ei20 => k_is)
    (case ef20 => k_is)
    (case ec20 => k_is)
    (case ek20 => k_is)
    (case es20 => k_is)
    (case em20 => k_is)
    (case eg20 => k_is)
    (case eb20 => k_is)
    (case ej20 => k_is)
    (case en20_0 => k_is)
    (case en20_1 => k_is)
    (case ea21 => k_is)
    (case el21 => k_is)
    (case ei21 => k_is)
    (case ef21 => k_is)
    (case ec21 => k_is)
    (case ek21 => k_is)
    (case es21 => k_is)
    (case em21 => k_is)
    (case eg21 => k_is)
    (case eb21 => k_is)
    (case ej21 => k_is)
    (case en21_0 => k_is)
    (case ea22 => k_is)
    (case el22 => k_is)
    (case ei22 => k_is)
    (case em22 => k_is)
    (case eg22 => k_is)
    (case eb22 => k_is)
    (case ej22 => k_is)
    (case ea23 => k_is)
    (case el23 => k_is)
    (case ei23 => k_is)
    (case ef23 => k_is)
    (case ec23 => k_is)
    (case ek23 => k_is)
    (case es23 => k_is)
    (case em23 => k_is)
    (case eg23 => k_is)
    (case eb23 => k_is)
    (case ej23 => k_is)
    (case en23_0 => k_is)
    (case ea24 => k_is)
    (case el24 => k_is)
    (case ei24 => k_is)
    (case ef24 => k_is)
    (case ec24 => k_is)
    (case ek24 => k_is)
    (case es24 => k_is)
    (case em24 => k_is)
    (case eg24 => k_is)
    (case eb24 => k_is)
    (case ej24 => k_is)
    (case en24_0 => k_is)
    (case en24_1 => k_is)
    (case ea25 => k_is)
    (case el25 => k_is)
    (case ei25 => k_is)
    (case ef25 => k_is)
    (case ec25 => k_is)
    (case ek25 => k_is)
    (case es25 => k_is)
    (case em25 => k_is)
    (case eg25 => k_is)
    (case eb25 => k_is)
    (case ej25 => k_is)
    (case en25_0 => k_is)
    (case ea26 => k_is)
    (case el26 => k_is)
    (case ei26 => k_is)
    (case ef26 => k_is)
    (case ec26 => k_is)
    (case ek26 => k_is)
    (case es26 => k_is)
    (case em26 => k_is)
    (case eg26 => k_is)
    (case eb26 => k_is)
    (case ej26 => k_is)
    (case en26_0 => k_is)
    (case ea27 => k_is)
    (case el27 => k_is)
    (case ei27 => k_is)
    (case ef27 => k_is)
    (case ec27 => k_is)
    (case ek27 => k_is)
    (case es27 => k_is)
    (case em27 => k_is)
    (case eg27 => k_is)
    (case eb27 => k_is)
    (case ej27 => k_is)
    (case en27_0 => k_is)
    (case a0_ => k_is)
    (case l0_ => k_is)
    (case c0_ => k_is)
    (case k0_ => k_is)
    (case a1_ => k_is)
    (case l1_ => k_is)
    (case c1_ => k_is)
    (case k1_ => k_is)
    (case a2_ => k_is)
    (case l2_ => k_is)
    (case c2_ => k_is)
    (case k2_ => k_is)
    (case a3_ => k_is)
    (case l3_ => k_is)
    (case c3_ => k_is)
    (case k3_ => k_is)
    (case a4_ => k_is)
    (case l4_ => k_is)
    (case c4_ => k_is)
    (case k4_ => k_is)
    (case a5_ => k_is)
    (case l5_ => k_is)
    (case c5_ => k_is)
    (case k5_ => k_is)
    (case nb0 => k_is)
    (case nb1 => k_is)
    (case nb2 => k_is)
    (case nb3 => k_is)
    (case nb4 => k_is)
    (case zc => k_is)
    (case zt => k_is)
    (case zn => decide)
