import PyProof.Rows.All
import Wide.All
import OpenK.AllK
import Wide.FinOn
import Lean
import PyProof.EqAt
import PyProof.EqKinds
import PyProof.TupleCall
import PyProof.NeKinds
import PyProof.ExcInit
import PyProof.StationsW
import PyProof.ExcBaseAll.ValueError
import PyProof.ExcArgs
import KE.KIsAll
import PyProof.ReprRoads
import PyProof.CallFns
import PyProof.ExcClass3
import PyProof.StrBlock2
import PyProof.FitsInt
import PyProof.StrLawsRepr
import KE.KTryMore
import PyProof.RulesAs
import KE.KIntText
import PyProof.StrLawsChain
import PyProof.StrCalls2
import PySem.Challenge.RW_slideroom_k23_books_refused
-- CHANGE: your row's module here, as the last of these rows
set_option Elab.async false
set_option linter.all false
set_option maxRecDepth 100000
namespace L2
open PySem PySem.Spec PyProof.Rows
/-- a key: an int or a str -/
abbrev Key := Sum Int Str
def keyIs : Key → Value → Bool
  | .inl k, v => Value.isInt k v
  | .inr x, v => Value.isStrOf x v
def keyH (w : World) : Key → Int
  | .inl k => hashInt k
  | .inr x => hashStr w x
theorem keyIs_shape : ∀ {k : Key} {v : Value}, keyIs k v = true → (∃ i t, k = Sum.inl i ∧ v = Value.int i t) ∨ (∃ x t, k = Sum.inr x ∧ v = Value.str x t)
  | .inl i, v, h => by
    obtain ⟨t, e⟩ := Value.isInt_shape (k := i) (v := v) h
    exact .inl ⟨i, t, rfl, e⟩
  | .inr x, v, h => by
    obtain ⟨t, e⟩ := Value.isStrOf_shape (x := x) (v := v) h
    exact .inr ⟨x, t, rfl, e⟩
theorem key_ll (a b : Int) : decide ((Sum.inl a : Key) = Sum.inl b) = (a == b) := by
  by_cases e : a = b
  · subst e; simp
  · have h : ¬ (Sum.inl a : Key) = Sum.inl b := fun q => e (Sum.inl.inj q)
    rw [decide_eq_false h]
    exact (beq_eq_false_iff_ne.mpr e).symm
theorem key_rr (a b : Str) : decide ((Sum.inr a : Key) = Sum.inr b) = decide (a = b) := by
  by_cases e : a = b
  · subst e; simp
  · have h : ¬ (Sum.inr a : Key) = Sum.inr b := fun q => e (Sum.inr.inj q)
    rw [decide_eq_false h, decide_eq_false e]
theorem key_lr (a : Int) (b : Str) : decide ((Sum.inl a : Key) = Sum.inr b) = false := decide_eq_false (fun q => nomatch q)
theorem key_rl (a : Str) (b : Int) : decide ((Sum.inr a : Key) = Sum.inl b) = false := decide_eq_false (fun q => nomatch q)
def mixKind (prog : Program) (w : World) : PySem.KeyKind prog w Key where
  is := keyIs
  hash := keyH w
  inj := fun v a b ha hb => by
    rcases keyIs_shape ha with ⟨i, t, rfl, rfl⟩ | ⟨x, t, rfl, rfl⟩
    · rcases keyIs_shape hb with ⟨j, u, rfl, e⟩ | ⟨y, u, rfl, e⟩
      · injection e with e1 _; rw [e1]
      · exact nomatch e
    · rcases keyIs_shape hb with ⟨j, u, rfl, e⟩ | ⟨y, u, rfl, e⟩
      · exact nomatch e
      · injection e with e1 _; rw [e1]
  byValue := fun k v h => by
    rcases keyIs_shape h with ⟨i, t, rfl, rfl⟩ | ⟨x, t, rfl, rfl⟩ <;> rfl
  pyHash := fun hv h => by
    rcases keyIs_shape hv with ⟨i, t, rfl, rfl⟩ | ⟨x, t, rfl, rfl⟩
    · exact wpAny_pyHash_int h
    · exact wpAny_pyHash_str h
  eqBool := fun hu hv h => by
    rcases keyIs_shape hu with ⟨i, t, rfl, rfl⟩ | ⟨x, t, rfl, rfl⟩
    · rcases keyIs_shape hv with ⟨j, u, rfl, rfl⟩ | ⟨y, u, rfl, rfl⟩
      · rw [key_ll] at h; exact wpAny_eqBool_int h
      · rw [key_lr] at h; exact SeqAt.EqAt.int_str i t y u _ _ _ _ h
    · rcases keyIs_shape hv with ⟨j, u, rfl, rfl⟩ | ⟨y, u, rfl, rfl⟩
      · rw [key_rl] at h; exact SeqAt.EqAt.str_int x t j u _ _ _ _ h
      · rw [key_rr] at h; exact wpAny_eqBool_str h
  «strs» := fun k x t v h => by
    rcases keyIs_shape h with ⟨i, u, rfl, e⟩ | ⟨y, u, rfl, e⟩
    · exact nomatch e
    · injection e with e1 _
      subst e1
      cases v <;> rfl
end L2
namespace L2
open PySem PySem.Spec PyProof.Rows
/-- a value, without the heap -/
inductive V where
  | non | bl (b : Bool) | int (i : Int) | str (x : Str) | byt (b : Array UInt8) | flt (b : UInt64) | ref (a : Addr) | ty (n : String)
  deriving DecidableEq
def RelV : V → Value → Prop
  | .non, u => u = Value.none
  | .bl b, u => u = Value.bool b
  | .int i, u => ∃ t, u = Value.int i t
  | .str x, u => ∃ t, u = Value.str x t
  | .byt b, u => ∃ t, u = Value.bytes b t
  | .flt b, u => ∃ t, u = Value.float b t
  | .ref a, u => u = Value.ref a
  | .ty n, u => u = Value.type n
abbrev Vals : List V → List Value → Prop := Paired RelV
theorem Vals.length {xs : List V} {us : List Value} (r : Vals xs us) : xs.length = us.length := Paired.length r
theorem Vals.get : ∀ {xs : List V} {us : List Value} {i : Nat} {x : V}, Vals xs us → xs[i]? = some x → ∃ u, us[i]? = some u ∧ RelV x u
  | _, _, _, _, .nil, e => by simp at e
  | _, _, 0, _, .cons r _, e => by simp at e; subst e; exact ⟨_, rfl, r⟩
  | _, _, i + 1, x, .cons _ t, e => by
    obtain ⟨u, h1, h2⟩ := Vals.get (i := i) (x := x) t (by simpa using e)
    exact ⟨u, by simpa using h1, h2⟩
theorem Vals.set {x : V} {u : Value} (r : RelV x u) : ∀ {xs : List V} {us : List Value} (i : Nat), Vals xs us → Vals (xs.set i x) (us.set i u)
  | _, _, _, .nil => .nil
  | _, _, 0, .cons _ t => .cons r t
  | _, _, i + 1, .cons q t => .cons q (Vals.set r i t)
theorem Vals.append : ∀ {xs ys : List V} {us ws : List Value}, Vals xs us → Vals ys ws → Vals (xs ++ ys) (us ++ ws)
  | _, _, _, _, .nil, s => s
  | _, _, _, _, .cons r t, s => .cons r (Vals.append t s)
theorem Vals.take : ∀ {xs : List V} {us : List Value} (n : Nat), Vals xs us → Vals (xs.take n) (us.take n)
  | _, _, 0, _ => .nil
  | _, _, _ + 1, .nil => .nil
  | _, _, n + 1, .cons r t => .cons r (Vals.take n t)
theorem Vals.drop : ∀ {xs : List V} {us : List Value} (n : Nat), Vals xs us → Vals (xs.drop n) (us.drop n)
  | _, _, 0, r => r
  | _, _, _ + 1, .nil => .nil
  | _, _, n + 1, .cons _ t => Vals.drop n t
theorem Vals.none_of : ∀ {xs : List V} {us : List Value} {i : Nat}, Vals xs us → xs[i]? = none → us[i]? = none := fun {xs us i} r e => by
  have h1 := r.length
  have h2 : xs.length ≤ i := List.getElem?_eq_none_iff.mp e
  exact List.getElem?_eq_none_iff.mpr (by omega)
def RelO : Option V → Option Value → Prop
  | some v, some u => RelV v u
  | none, none => True
  | _, _ => False
def KV {κ : Type} : List (κ × V) → List (κ × Value) → Prop := Paired fun (p : κ × V) (q : κ × Value) => p.1 = q.1 ∧ RelV p.2 q.2
/-- a key of a dict (00_mix): an int or a text -/
def kV : Key → V
  | .inl i => .int i
  | .inr x => .str x
/-- what stands at a tracked address -/
inductive HO where
  /-- a list -/
  | lst (xs : List V)
  /-- a tuple (never changes) -/
  | tup (xs : List V)
  /-- a dict whose keys are ints and texts; one whose keys are tuples of ints and texts (the empty one is both) -/
  | dK (kvs : List (Key × V)) | dT (kvs : List (List Key × V))
  /-- a set of ints: its members, its size -/
  | set (S : Int → Bool) (n : Nat)
  /-- an instance of the class at C, its dict at dx, its attributes -/
  | ins (C dx : Addr) (fs : List (Str × V))
  /-- the dict of the instance at x -/
  | own (x : Addr)
  /-- the dict of an exception -/
  | xd (fs : List (Str × V))
  /-- a bound method, f of x -/
  | met (f x : Addr)
  /-- a range object lo, lo + 1, .. below hi -/
  | rng (lo hi : Int)
  /-- a thing that is known to the object (the script; a dict while a loop walks it): read, never written while it is so -/
  | frz (o : Obj) (u : HO)
  /-- a code object's table -/
  | tbl (ps : Array Value)
  /-- any other thing, by what is true of its one object (a def of one's own: SetO a S n := HO.ext fun h => ..) -/
  | ext (φ : Heap → Prop)
abbrev Hp := Addr → Option HO
def upd (H : Hp) (a : Addr) (o : HO) : Hp := fun b => if b = a then some o else H b
theorem upd_same {H : Hp} {a : Addr} {o : HO} : upd H a o a = some o := by unfold upd; rw [if_pos rfl]
theorem upd_ne {H : Hp} {a b : Addr} {o : HO} (h : b ≠ a) : upd H a o b = H b := by unfold upd; rw [if_neg h]
/-- two objects of different content stand apart -/
theorem ne_of {H : Hp} {a b : Addr} {o u : HO} (h : H a = some o) (h' : H b = some u) (d : o ≠ u) : a ≠ b := by
  intro e; subst e; rw [h] at h'; exact d (Option.some.inj h')
theorem ne_of_none {H : Hp} {a b : Addr} {o : HO} (h : H a = some o) (h' : H b = none) : a ≠ b := by
  intro e; subst e; rw [h] at h'; cases h'
section
variable (P : Program) (w : World)
def ObjOk (H : Hp) (h : Heap) (a : Addr) : HO → Prop
  | .lst xs => xs.length ≤ sizeLine ∧ ∃ (its : List Value) (n : Nat), Vals xs its ∧ h.get? a = some { cls := .type "list", data := .seq its.toArray n }
  | .tup xs => xs.length ≤ sizeLine ∧ ∃ its : List Value, Vals xs its ∧ IsTup h a its.toArray
  | .dK kvs => kvs.length ≤ sizeLine ∧ (a == sysModules) = false ∧ ∃ vs, KV kvs vs ∧ h.DictOf (mixKind P w) a vs
  | .dT kvs => kvs.length ≤ sizeLine ∧ (a == sysModules) = false ∧ ∃ xs : List (List Key × Addr × Value),
      Paired (fun (p : List Key × V) (q : List Key × Addr × Value) => p.1 = q.1 ∧ H q.2.1 = some (.tup (p.1.map kV)) ∧ RelV p.2 q.2.2) kvs xs ∧
      ∃ o es ep, h.get? a = some o ∧ o.ExactDict ∧ o.data = .dict es ep ∧ es.toList = xs.map (entryOfKey (tupleKind (mixKind P w))) ∧ (xs.map (·.1)).Nodup
  | .set S n => h.SetOf (intKind P w) a S n
  | .ins C dx fs => H dx = some (.own a) ∧ fs.length ≤ 1000 ∧ dx ≠ a ∧ h.get? a = some (PySem.W.instObj C dx) ∧
      ∃ mA, h.Ns1 dx mA ∧ (∀ f, RelO (fs.lookup f) (mA f)) ∧ PySem.Within mA (fs.map (·.1))
  | .own _ => ∃ o, h.get? a = some o
  | .xd fs => ∃ mA, h.Ns1 a mA ∧ ∀ f, RelO (fs.lookup f) (mA f)
  | .rng lo hi => ∃ t u v, h.get? a = some { cls := .type "range", data := .fields #[.int lo t, .int hi u, .int 1 v] }
  | .frz o u => h.get? a = some o ∧ ObjOk H h a u
  | .tbl ps => h.get? a = some { cls := .none, data := .fields ps }
  | .met f x => h.get? a = some (PySem.W.methodObj (.ref f) (.ref x))
  | .ext φ => φ h ∧ (∃ o, h.get? a = some o) ∧ ∀ h1 h2 : Heap, φ h1 → (∀ o, h1.get? a = some o → h2.get? a = some o) → φ h2
/-- the abstract heap is held -/
def HOk (H : Hp) (h : Heap) : Prop := ∀ a o, H a = some o → ObjOk P w H h a o
end
section
variable {P : Program} {w : World} {H H' : Hp} {h h' : Heap} {a : Addr} {o : HO}
theorem ObjOk.lt (x : ObjOk P w H h a o) : a < h.objs.size := by
  cases o with
  | lst xs => obtain ⟨_, _, _, _, e⟩ := x; exact Heap.lt_size e
  | tup xs => obtain ⟨_, _, _, p⟩ := x; exact p.lt
  | dK kvs => obtain ⟨_, _, _, _, o, _, _, e, _⟩ := x; exact Heap.lt_size e
  | dT kvs => obtain ⟨_, _, _, _, o, _, _, e, _⟩ := x; exact Heap.lt_size e
  | set S n => obtain ⟨o, _, _, _, e, _⟩ := x; exact Heap.lt_size e
  | ins C dx fs => obtain ⟨_, _, _, e, _⟩ := x; exact Heap.lt_size e
  | own y => obtain ⟨_, e⟩ := x; exact Heap.lt_size e
  | xd fs => obtain ⟨_, ⟨_, _, _, e, _⟩, _⟩ := x; exact Heap.lt_size e
  | rng lo hi => obtain ⟨_, _, _, e⟩ := x; exact Heap.lt_size e
  | frz ob u => obtain ⟨e, _⟩ := x; exact Heap.lt_size e
  | tbl ps => exact Heap.lt_size (show h.get? a = some _ from x)
  | met f y => exact Heap.lt_size (show h.get? a = some _ from x)
  | ext φ => obtain ⟨_, ⟨_, e⟩, _⟩ := x; exact Heap.lt_size e
theorem Paired.mapP {α β : Type} {F G : α → β → Prop} : ∀ {l₁ : List α} {l₂ : List β}, Paired F l₁ l₂ → (∀ a b, F a b → G a b) → Paired G l₁ l₂
  | _, _, .nil, _ => .nil
  | _, _, .cons r t, f => .cons (f _ _ r) (Paired.mapP t f)
/-- what an object's description leans on: its own object, its own dict, the tuples -/
theorem ObjOk.stay (x : ObjOk P w H h a o) (k : ∀ b u, (b = a ∨ H b = some (.own a)) → h.get? b = some u → h'.get? b = some u)
    (ho : ∀ b, H b = some (.own a) → H' b = some (.own a)) (ht : ∀ b xs, H b = some (.tup xs) → H' b = some (.tup xs)) : ObjOk P w H' h' a o := by
  induction o with
  | lst xs => obtain ⟨z, its, n, r, e⟩ := x; exact ⟨z, its, n, r, k _ _ (.inl rfl) e⟩
  | tup xs => obtain ⟨z, its, r, ob, e, c⟩ := x; exact ⟨z, its, r, ob, k _ _ (.inl rfl) e, c⟩
  | dK kvs => obtain ⟨z, y, vs, r, ob, es, ep, e, c⟩ := x; exact ⟨z, y, vs, r, ob, es, ep, k _ _ (.inl rfl) e, c⟩
  | dT kvs =>
    obtain ⟨z, y, xs, r, ob, es, ep, e, c⟩ := x
    exact ⟨z, y, xs, Paired.mapP r fun p q z => ⟨z.1, ht _ _ z.2.1, z.2.2⟩, ob, es, ep, k _ _ (.inl rfl) e, c⟩
  | set S n => obtain ⟨ob, es, ep, t, e, c⟩ := x; exact ⟨ob, es, ep, t, k _ _ (.inl rfl) e, c⟩
  | ins C dx fs =>
    obtain ⟨d, z, ne, e, mA, ⟨od, es, ep, e2, c⟩, r⟩ := x
    exact ⟨ho _ d, z, ne, k _ _ (.inl rfl) e, mA, ⟨od, es, ep, k _ _ (.inr d) e2, c⟩, r⟩
  | own y => obtain ⟨ob, e⟩ := x; exact ⟨ob, k _ _ (.inl rfl) e⟩
  | xd fs => obtain ⟨mA, ⟨od, es, ep, e, c⟩, r⟩ := x; exact ⟨mA, ⟨od, es, ep, k _ _ (.inl rfl) e, c⟩, r⟩
  | rng lo hi => obtain ⟨t, u, v, e⟩ := x; exact ⟨t, u, v, k _ _ (.inl rfl) e⟩
  | frz ob u ih => obtain ⟨e, q⟩ := x; exact ⟨k _ _ (.inl rfl) e, ih q⟩
  | tbl ps =>
    have e : h.get? a = some { cls := .none, data := .fields ps } := x
    show h'.get? a = some { cls := .none, data := .fields ps }
    exact k a _ (.inl rfl) e
  | met f y =>
    have e : h.get? a = some (PySem.W.methodObj (.ref f) (.ref y)) := x
    show h'.get? a = some (PySem.W.methodObj (.ref f) (.ref y))
    exact k a _ (.inl rfl) e
  | ext φ => obtain ⟨p, ⟨o, e⟩, st⟩ := x; exact ⟨st _ _ p fun o q => k _ _ (.inl rfl) q, ⟨o, k _ _ (.inl rfl) e⟩, st⟩
theorem HOk.lt (x : HOk P w H h) (e : H a = some o) : a < h.objs.size := (x a o e).lt
theorem HOk.fresh (x : HOk P w H h) (e : h.objs.size ≤ a) : H a = none := by
  cases q : H a with
  | none => rfl
  | some u => exact absurd (Nat.lt_of_lt_of_le (x.lt q) e) (Nat.lt_irrefl _)
/-- every object of the heap is kept -/
theorem HOk.kept (x : HOk P w H h) (k : ∀ b u, h.get? b = some u → h'.get? b = some u) : HOk P w H h' := fun a o e =>
  (x a o e).stay (fun b u _ q => k b u q) (fun _ q => q) fun _ _ q => q
/-- a new object is laid and tracked -/
theorem HOk.laid (x : HOk P w H h) (k : ∀ b u, h.get? b = some u → h'.get? b = some u) (hp : h.objs.size ≤ a) (new : ObjOk P w (upd H a o) h' a o) : HOk P w (upd H a o) h' := fun b u e => by
  have hn := x.fresh hp
  by_cases hb : b = a
  · subst hb; rw [upd_same] at e; cases e; exact new
  · rw [upd_ne hb] at e
    exact (x b u e).stay (fun c v _ q => k c v q) (fun c q => by rw [upd_ne (ne_of_none q hn)]; exact q) fun c xs q => by rw [upd_ne (ne_of_none q hn)]; exact q
end
/-- what may be read as u: it is u, or a known u -/
def Rd (H : Hp) (a : Addr) (u : HO) : Prop := H a = some u ∨ ∃ o, H a = some (.frz o u)
theorem Rd.of {H : Hp} {a : Addr} {u : HO} (h : H a = some u) : Rd H a u := .inl h
theorem Rd.ok {P : Program} {w : World} {H : Hp} {h : Heap} {a : Addr} {u : HO} (r : Rd H a u) (x : HOk P w H h) : ObjOk P w H h a u := by
  rcases r with r | ⟨o, r⟩
  · exact x a u r
  · obtain ⟨_, q⟩ := x a _ r
    exact q
/-- what may be written -/
def Mut : Option HO → Prop
  | some (.lst _) => True
  | some (.dK _) => True
  | some (.dT _) => True
  | some (.set _ _) => True
  | some (.ins _ _ _) => True
  | some (.ext _) => True
  | _ => False
section
variable {P : Program} {w : World} {H : Hp} {h h' : Heap} {x e : Addr} {o' : HO}
/-- the object at e is changed: x itself, or the dict of the instance x -/
theorem HOk.write (ok : HOk P w H h) (mu : Mut (H x)) (he : e = x ∨ H e = some (.own x)) (k : ∀ b u, b ≠ e → h.get? b = some u → h'.get? b = some u) (heo : ∃ u, h'.get? e = some u)
    (new : ObjOk P w (upd H x o') h' x o') : HOk P w (upd H x o') h' := fun b u q => by
  have nown : ∀ c y, H c = some (.own y) → c ≠ x := fun c y r z => by subst z; rw [r] at mu; exact mu
  have ntup : ∀ c xs, H c = some (.tup xs) → c ≠ x := fun c xs r z => by subst z; rw [r] at mu; exact mu
  by_cases hb : b = x
  · subst hb; rw [upd_same] at q; cases q; exact new
  · rw [upd_ne hb] at q
    by_cases hbe : b = e
    · have q' : H b = some (.own x) := by
        rcases he with z | z
        · exact absurd (hbe.trans z) hb
        · rw [hbe]; exact z
      rw [q] at q'; cases q'
      obtain ⟨v, hv⟩ := heo
      exact ⟨v, by rw [hbe]; exact hv⟩
    · refine (ok b u q).stay (fun c v hc r => k c v ?_ r) (fun c r => by rw [upd_ne (nown c b r)]; exact r) fun c xs r => by rw [upd_ne (ntup c xs r)]; exact r
      rcases hc with rfl | hc
      · exact hbe
      · rintro rfl
        rcases he with z | z
        · exact nown c b hc z
        · rw [hc] at z; cases z; exact hb rfl
end
structure Un (fs ex : List Addr) (H H' : Hp) (h h' : Heap) : Prop where
  keep : ∀ b o, h.get? b = some o → H b = none → b ∉ fs → b ∉ ex → h'.get? b = some o
  slot : ∀ b o, h.get? b = some o → H b = none → b ∈ fs → b ∉ ex → ∃ sl, h'.get? b = some { o with slots := sl }
  free : ∀ b o, h.get? b = some o → H b = none → b ∉ ex → H' b = none
  there : ∀ b o, h.get? b = some o → b ∉ ex → ∃ o', h'.get? b = some o'
  tups : ∀ b xs, H b = some (.tup xs) → H' b = some (.tup xs)
  frzs : ∀ b o u, H b = some (.frz o u) → H' b = some (.frz o u)
  tbls : ∀ b ps, H b = some (.tbl ps) → ∃ more, H' b = some (.tbl (ps ++ more))
section
variable {fs fs' ex ex' : List Addr} {H H1 H2 : Hp} {h h1 h2 h' : Heap} {a x e : Addr} {o : HO}
theorem Un.any (u : Un fs ex H H1 h h1) {b : Addr} {ob : Obj} (q : h.get? b = some ob) (n : H b = none) (hx : b ∉ ex) : ∃ sl, h1.get? b = some { ob with slots := sl } := by
  by_cases hb : b ∈ fs
  · exact u.slot b ob q n hb hx
  · exact ⟨ob.slots, u.keep b ob q n hb hx⟩
theorem Un.trans (a : Un fs ex H H1 h h1) (b : Un fs ex H1 H2 h1 h2) : Un fs ex H H2 h h2 where
  keep := fun c ob q n hc hx => b.keep c ob (a.keep c ob q n hc hx) (a.free c ob q n hx) hc hx
  slot := fun c ob q n hc hx => by
    obtain ⟨sl, e1⟩ := a.slot c ob q n hc hx
    obtain ⟨sl', e2⟩ := b.slot c _ e1 (a.free c ob q n hx) hc hx
    exact ⟨sl', e2⟩
  free := fun c ob q n hx => by
    obtain ⟨o', e1⟩ := a.there c ob q hx
    exact b.free c o' e1 (a.free c ob q n hx) hx
  there := fun c ob q hx => by
    obtain ⟨o', e1⟩ := a.there c ob q hx
    exact b.there c o' e1 hx
  tups := fun c xs q => b.tups c xs (a.tups c xs q)
  frzs := fun c ob xs q => b.frzs c ob xs (a.frzs c ob xs q)
  tbls := fun c ps q => by
    obtain ⟨m1, e1⟩ := a.tbls c ps q
    obtain ⟨m2, e2⟩ := b.tbls c _ e1
    exact ⟨m1 ++ m2, by rw [e2, Array.append_assoc]⟩
theorem Un.kept (k : ∀ b u, h.get? b = some u → h'.get? b = some u) : Un fs ex H H h h' :=
  ⟨fun b ob q _ _ _ => k b ob q, fun b ob q _ _ _ => ⟨ob.slots, k b ob q⟩, fun _ _ _ n _ => n, fun b ob q _ => ⟨ob, k b ob q⟩, fun _ _ q => q, fun _ _ _ q => q, fun _ ps q => ⟨#[], by rw [q]; simp⟩⟩
theorem Un.refl : Un fs ex H H h h := Un.kept fun _ _ q => q
theorem Un.laid (k : ∀ b u, h.get? b = some u → h'.get? b = some u) (hp : h.objs.size ≤ a) (hn : H a = none) : Un fs ex H (upd H a o) h h' where
  keep := fun b u q _ _ _ => k b u q
  slot := fun b u q _ _ _ => ⟨u.slots, k b u q⟩
  free := fun b u q n _ => by rw [upd_ne (Nat.ne_of_lt (Nat.lt_of_lt_of_le (Heap.lt_size q) hp))]; exact n
  there := fun b u q _ => ⟨u, k b u q⟩
  tups := fun b xs q => by rw [upd_ne (ne_of_none q hn)]; exact q
  frzs := fun b u xs q => by rw [upd_ne (ne_of_none q hn)]; exact q
  tbls := fun b ps q => ⟨#[], by rw [upd_ne (ne_of_none q hn), q]; simp⟩
theorem Un.write (mu : Mut (H x)) (he : e = x ∨ H e = some (.own x)) (k : ∀ b u, b ≠ e → h.get? b = some u → h'.get? b = some u) (heo : ∃ u, h'.get? e = some u) : Un fs ex H (upd H x o) h h' := by
  have hx : ∀ b, H b = none → b ≠ x := fun b n z => by subst z; rw [n] at mu; exact mu
  have hb : ∀ b, H b = none → b ≠ e := fun b n z => by
    subst z
    rcases he with r | r
    · exact hx b n r
    · rw [n] at r; cases r
  have hm : ∀ b u, H b = some u → ¬ Mut (some u) → b ≠ x := fun b u q nm z => by subst z; rw [q] at mu; exact nm mu
  refine ⟨fun b u q n _ _ => k b u (hb b n) q, fun b u q n _ _ => ⟨u.slots, k b u (hb b n) q⟩, fun b u q n _ => by rw [upd_ne (hx b n)]; exact n, fun b u q _ => ?_,
    fun b xs q => by rw [upd_ne (hm b _ q fun z => z)]; exact q, fun b u xs q => by rw [upd_ne (hm b _ q fun z => z)]; exact q, fun b ps q => ⟨#[], by rw [upd_ne (hm b _ q fun z => z), q]; simp⟩⟩
  by_cases hbe : b = e
  · subst hbe; exact heo
  · exact ⟨u, k b u hbe q⟩
theorem Un.mono (u : Un fs ex H H1 h h1) (hs : ∀ b ∈ fs, b ∈ fs') (hx : ∀ b ∈ ex, b ∈ ex') : Un fs' ex' H H1 h h1 :=
  ⟨fun b ob q n hb he => u.keep b ob q n (fun z => hb (hs b z)) fun z => he (hx b z), fun _ _ q n _ he => u.any q n fun z => he (hx _ z), fun b ob q n he => u.free b ob q n fun z => he (hx b z), fun b ob q he => u.there b ob q fun z => he (hx b z), u.tups, u.frzs, u.tbls⟩
end
def trk (h : Heap) (H : Hp) : List Addr := (List.range h.objs.size).filter fun a => (H a).isSome
def hidT (h : Heap) (H : Hp) : Heap := PySem.W.hideAll h (trk h H)
theorem hidT_size (h : Heap) (H : Hp) : (hidT h H).objs.size = h.objs.size := PySem.W.hideAll_size _ _
theorem hidT_get {h : Heap} {H : Hp} {b : Addr} {o : Obj} (e : h.get? b = some o) (n : H b = none) : (hidT h H).get? b = some o :=
  PySem.W.hideAll_get _ e fun hm => by
    have q : (H b).isSome = true := (List.mem_filter.mp hm).2
    rw [n] at q; simp at q
theorem of_hidT {h : Heap} {H : Hp} {b : Addr} {o : Obj} (e : (hidT h H).get? b = some o) : h.get? b = some o ∧ H b = none := by
  have e' : h.get? b = some o := PySem.W.of_hideAll (trk h H) e
  refine ⟨e', ?_⟩
  cases q : H b with
  | none => rfl
  | some x =>
    have hm : b ∈ trk h H := List.mem_filter.mpr ⟨List.mem_range.mpr (Heap.lt_size e'), by simp [q]⟩
    have z : (hidT h H).get? b = none := PySem.W.hideAll_none (trk h H) hm
    rw [z] at e; cases e
def allNews (g h : Heap) (L : Addr) : List (Addr × Obj) := (List.range h.objs.size).filterMap fun a => if a = L ∨ (g.get? a).isSome = true then none else (h.get? a).map fun o => (a, o)
def rest (g h : Heap) (L d : Addr) : List (Addr × Obj) := (allNews g h L).filter fun p => decide (p.1 ≠ d)
end L2
namespace L2
open PySem PySem.Spec PyProof.Rows
/-- the module's facts, over the base: the heap at the law's entry without what is tracked there -/
structure Mod (K : PySem.W.Frag) (mg : Str → Option Value) (base : Heap) : Prop where
  kin : K.In base
  glob : base.Ns mainGlobals mg
  blt : ∃ mb, base.Ns builtinsNs mb ∧ ∀ x : Str, x ≠ "__name__" → mb x = bootBuiltins x
  nolimit : base.NoLimit
/-- the context: a def's body (or a comprehension's block) running. base: fixed through the whole law; s₀, H₀: the entry; outer: the frames whose slots others may change (a def's callers); stack: all frames that run;
   ex: iterators that were made ahead of the entry and are walked here (a comprehension's); fn: the names whose cells were made at the entry (a def: all; a comprehension's block: its own); calm: not within an except suite; pn: pins that every state bears; xe: what is wanted of an exception that leaves the code -/
structure Cx where
  prog : Program
  w : World
  K : PySem.W.Frag
  mg : Str → Option Value
  base : Heap
  A : Around
  N : List Str
  s₀ : Shared
  H₀ : Hp
  env : Env
  outer : List Env
  stack : List Env
  ex : List Addr
  fn : Str → Bool
  calm : Bool
  pn : List (Addr × Obj)
  xe : Value → Shared → Prop
/-- the callers' frames -/
def frs (l : List Env) : List Addr := l.filterMap (·.frame)
abbrev Cx.fs (X : Cx) : List Addr := frs X.outer
def Vis (sc : Scope) (x : Str) : Prop := sc.names.lookup x = some .local ∨ sc.names.lookup x = some .cell ∨ sc.names.lookup x = some .free
def Loc (sc : Scope) (x : Str) : Prop := sc.names.lookup x = some .local ∨ sc.names.lookup x = some .cell
def Look (env : Env) (h : Heap) (m : Str → Option Value) (x : Str) (u : Value) : Prop :=
  (env.kindOf x = some .local ∧ m x = some u) ∨ ((env.kindOf x = some .cell ∨ env.kindOf x = some .free) ∧ ∃ c, env.cells.lookup x = some c ∧ h.IsCell c (some u))
structure Cx.Ok (X : Cx) : Prop where
  mod : Mod X.K X.mg X.base
  kind : X.env.scope.kind = .function
  glob : X.env.globals = mainGlobals
  blt : X.env.builtins = builtinsNs
  above : X.s₀.heap.objs.size ≤ X.env.locals
  inj : ∀ x y c, X.env.cells.lookup x = some c → X.env.cells.lookup y = some c → x = y
  has : ∀ x, (X.env.kindOf x = some .cell ∨ X.env.kindOf x = some .free) → ∃ c, X.env.cells.lookup x = some c
  cab : ∀ x c, X.fn x = true → X.env.cells.lookup x = some c → X.s₀.heap.objs.size ≤ c
  hd : X.calm = true → X.A.handled = none
  frames : X.A.frames = some X.stack
  stk : X.stack = X.outer ∨ (X.stack = X.env :: X.outer ∧ X.env.frame = some X.env.locals)
  exf : ∀ b ∈ X.ex, b ≠ X.env.locals ∧ ∀ x c, X.env.cells.lookup x = some c → c ≠ b
  bs : ∀ b o, X.base.get? b = some o → X.s₀.heap.get? b = some o ∧ X.H₀ b = none
  bsz : X.base.objs.size ≤ X.s₀.heap.objs.size
  noex : ∀ b o, X.base.get? b = some o → b ∉ X.ex
  exfs : ∀ b ∈ X.ex, b ∉ X.fs
  funs : X.s₀.heap.FunFrames X.base X.outer
  frf : ∀ b ∈ X.fs, X.H₀ b = none
structure Inv (X : Cx) (pins : List (Addr × Obj)) (σ : List (Option V)) (H : Hp) (s : Shared) : Prop where
  ok : X.Ok
  os : s.os = X.s₀.os
  bare : AllBare s.gens
  base : Un X.fs X.ex X.H₀ H X.s₀.heap s.heap
  loc : ∃ m, s.heap.Ns X.env.locals m ∧ ∀ (i : Nat) (x : Str) (v : V), X.N[i]? = some x → σ[i]? = some (some v) → Vis X.env.scope x → ∃ u, RelV v u ∧ Look X.env s.heap m x u
  cell : ∀ x c, X.env.cells.lookup x = some c → ∃ v, s.heap.IsCell c v
  free : H X.env.locals = none
  freeC : ∀ x c, X.env.cells.lookup x = some c → H c = none
  pin : ∀ p ∈ X.pn ++ pins, s.heap.get? p.1 = some p.2 ∧ H p.1 = none ∧ p.1 ≠ X.env.locals ∧ p.1 ∉ X.fs ∧ ∀ v, p.2.data ≠ .cell v
  hok : HOk X.prog X.w H s.heap
  len : σ.length = X.N.length
section
variable {X : Cx} {pins : List (Addr × Obj)} {σ : List (Option V)} {H H' : Hp} {s : Shared} {h' : Heap}
theorem Cx.Ok.nofr (ok : X.Ok) {b : Addr} {o : Obj} (e : X.base.get? b = some o) : b ∉ X.fs := fun hb => by
  have := (ok.funs.mem hb).1
  rw [e] at this; cases this
theorem Inv.bs (I : Inv X pins σ H s) : ∀ b o, X.base.get? b = some o → s.heap.get? b = some o ∧ H b = none := fun b o e =>
  ⟨I.base.keep b o (I.ok.bs b o e).1 (I.ok.bs b o e).2 (I.ok.nofr e) (I.ok.noex b o e), I.base.free b o (I.ok.bs b o e).1 (I.ok.bs b o e).2 (I.ok.noex b o e)⟩
theorem Inv.bk (I : Inv X pins σ H s) : ∀ b o, X.base.get? b = some o → s.heap.get? b = some o := fun b o e => (I.bs b o e).1
theorem Inv.mod (I : Inv X pins σ H s) : Mod X.K X.mg X.base := I.ok.mod
theorem Inv.kIn (I : Inv X pins σ H s) : X.K.In s.heap := I.ok.mod.kin.keeps I.bk
theorem Inv.nolimit (I : Inv X pins σ H s) : s.heap.NoLimit := I.ok.mod.nolimit.keeps I.bk
/-- the frame over the base: for OpenK's rules (K.In X.base is I.mod.kin) -/
theorem Inv.fr (I : Inv X pins σ H s) : ∃ m, Fr X.base X.env.locals s.heap m :=
  let ⟨m, hn, _⟩ := I.loc
  ⟨m, hn, I.bk, Nat.le_trans I.ok.bsz I.ok.above⟩
theorem Inv.lt (I : Inv X pins σ H s) : X.env.locals < s.heap.objs.size := let ⟨_, hn, _⟩ := I.loc; hn.lt
theorem Inv.sz (I : Inv X pins σ H s) : X.s₀.heap.objs.size ≤ s.heap.objs.size := Nat.le_trans I.ok.above (Nat.le_of_lt I.lt)
theorem Inv.nofs (I : Inv X pins σ H s) {a : Addr} (h : s.heap.objs.size ≤ a) : a ∉ X.fs := fun hb => by
  obtain ⟨_, o, ho, _⟩ := I.ok.funs.mem hb
  exact absurd (Nat.lt_of_lt_of_le (Heap.lt_size ho) (Nat.le_trans I.sz h)) (Nat.lt_irrefl _)
theorem Inv.cne (I : Inv X pins σ H s) : ∀ x c, X.env.cells.lookup x = some c → c ≠ X.env.locals := fun x c e z => by
  obtain ⟨v, o, ho, hd⟩ := I.cell x c e
  obtain ⟨m, ⟨o', es, ep, ho', hd', _⟩, _⟩ := I.loc
  rw [z, ho'] at ho; cases ho; rw [hd'] at hd; cases hd
theorem Inv.funs (I : Inv X pins σ H s) : s.heap.FunFrames X.base X.outer := by
  have all : ∀ (l : List Env), (∀ b ∈ frs l, b ∈ X.fs) → X.s₀.heap.FunFrames X.base l → s.heap.FunFrames X.base l := by
    intro l
    induction l with
    | nil => intro _ _; trivial
    | cons env r ih =>
      intro hs hl
      obtain ⟨hk, ⟨L, o, hf, hn, ho, hd⟩, hr⟩ := hl
      have hL : L ∈ X.fs := hs L (by unfold frs; rw [List.filterMap_cons, hf]; exact List.mem_cons_self)
      obtain ⟨sl, e⟩ := I.base.slot L o ho (I.ok.frf L hL) hL fun z => I.ok.exfs L z hL
      exact ⟨hk, ⟨L, _, hf, hn, e, hd⟩, ih (fun b hb => hs b (by unfold frs; rw [List.filterMap_cons, hf]; exact List.mem_cons_of_mem _ hb)) hr⟩
  exact all X.outer (fun _ hb => hb) I.ok.funs
/-- the frames that run, for a call -/
theorem Inv.stack (I : Inv X pins σ H s) : s.heap.FunFrames X.base X.stack := by
  rcases I.ok.stk with e | ⟨e, hf⟩
  · rw [e]; exact I.funs
  · rw [e]
    obtain ⟨m, hn, _⟩ := I.loc
    refine .cons (by rw [I.ok.kind]; decide) hf hn ?_ I.funs
    exact Heap.get?_none_of_le (Nat.le_trans I.ok.bsz I.ok.above)
theorem Inv.stkSub (I : Inv X pins σ H s) : ∀ b ∈ frs X.stack, b ∈ X.env.locals :: X.fs := fun b hb => by
  rcases I.ok.stk with e | ⟨e, hf⟩
  · rw [e] at hb; exact List.mem_cons_of_mem _ hb
  · rw [e] at hb
    unfold frs at hb
    rw [List.filterMap_cons, hf] at hb
    exact hb
theorem Inv.stkFree (I : Inv X pins σ H s) : ∀ b ∈ frs X.stack, H b = none := fun b hb => by
  rcases List.mem_cons.mp (I.stkSub b hb) with e | hb
  · rw [e]; exact I.free
  · obtain ⟨_, o, ho, _⟩ := I.ok.funs.mem hb
    exact I.base.free b o ho (I.ok.frf b hb) fun z => I.ok.exfs b z hb
/-- THE STEP: the untracked objects but the frame and the records at ch are kept (the callers' frames up to slots), the frame's map is kept, the new abstract heap is held -/
theorem Inv.step {g' : Array GenState} {t' : Nat} {d' : Drawn} {ch : List Addr} (I : Inv X pins σ H s)
    (hch : ∀ b ∈ ch, (b ∈ X.ex ∨ X.s₀.heap.objs.size ≤ b) ∧ b ≠ X.env.locals ∧ (∀ x c, X.env.cells.lookup x = some c → c ≠ b) ∧ ∀ p ∈ X.pn ++ pins, p.1 ≠ b)
    (keep : ∀ b o, b ≠ X.env.locals → b ∉ X.fs → b ∉ ch → s.heap.get? b = some o → H b = none → h'.get? b = some o)
    (slot : ∀ b o, b ≠ X.env.locals → b ∈ X.fs → b ∉ ch → s.heap.get? b = some o → H b = none → ∃ sl, h'.get? b = some { o with slots := sl }) (free : ∀ b o, b ∉ ch → s.heap.get? b = some o → H b = none → H' b = none)
    (there : ∀ b o, b ∉ ch → s.heap.get? b = some o → ∃ o', h'.get? b = some o')
    (tups : ∀ b xs, H b = some (.tup xs) → H' b = some (.tup xs)) (frzs : ∀ b o u, H b = some (.frz o u) → H' b = some (.frz o u)) (tbls : ∀ b ps, H b = some (.tbl ps) → ∃ more, H' b = some (.tbl (ps ++ more)))
    (ns : ∀ m, s.heap.Ns X.env.locals m → h'.Ns X.env.locals m) (hok : HOk X.prog X.w H' h') (hg : AllBare g') :
    Inv X pins σ H' { s with heap := h', gens := g', drawn := d', toks := t' } := by
  have neL : ∀ b o, X.s₀.heap.get? b = some o → b ≠ X.env.locals := fun b o e => Nat.ne_of_lt (Nat.lt_of_lt_of_le (Heap.lt_size e) I.ok.above)
  have neC : ∀ b o, X.s₀.heap.get? b = some o → b ∉ X.ex → b ∉ ch := fun b o e hx hb => by
    rcases (hch b hb).1 with z | z
    · exact hx z
    · exact absurd (Nat.lt_of_lt_of_le (Heap.lt_size e) z) (Nat.lt_irrefl _)
  have cellK : ∀ x c, X.env.cells.lookup x = some c → ∀ v, s.heap.IsCell c v → h'.IsCell c v := fun x c e v ⟨o, ho, hd⟩ => by
    have nch : c ∉ ch := fun z => (hch c z).2.2.1 x c e rfl
    by_cases hc : c ∈ X.fs
    · obtain ⟨sl, q⟩ := slot c o (I.cne x c e) hc nch ho (I.freeC x c e)
      exact ⟨_, q, hd⟩
    · exact ⟨o, keep c o (I.cne x c e) hc nch ho (I.freeC x c e), hd⟩
  refine ⟨I.ok, I.os, hg, ⟨fun b o e n hb hx => ?_, fun b o e n hb hx => ?_, fun b o e n hx => ?_, fun b o e hx => ?_, fun b xs e => tups b xs (I.base.tups b xs e), fun b o xs e => frzs b o xs (I.base.frzs b o xs e), fun b ps e => ?_⟩, ?_, fun x c e => ?_, ?_, fun x c e => ?_, fun p hp => ?_, hok, I.len⟩
  · exact keep b o (neL b o e) hb (neC b o e hx) (I.base.keep b o e n hb hx) (I.base.free b o e n hx)
  · obtain ⟨sl, e1⟩ := I.base.slot b o e n hb hx
    obtain ⟨sl', e2⟩ := slot b _ (neL b o e) hb (neC b o e hx) e1 (I.base.free b o e n hx)
    exact ⟨sl', e2⟩
  · obtain ⟨o', e1⟩ := I.base.there b o e hx
    exact free b o' (neC b o e hx) e1 (I.base.free b o e n hx)
  · obtain ⟨o', e1⟩ := I.base.there b o e hx
    exact there b o' (neC b o e hx) e1
  · obtain ⟨m1, e1⟩ := I.base.tbls b ps e
    obtain ⟨m2, e2⟩ := tbls b _ e1
    exact ⟨m1 ++ m2, by rw [e2, Array.append_assoc]⟩
  · obtain ⟨m, hn, hl⟩ := I.loc
    refine ⟨m, ns m hn, fun i x v e1 e2 e3 => ?_⟩
    obtain ⟨u, r, l⟩ := hl i x v e1 e2 e3
    refine ⟨u, r, ?_⟩
    rcases l with l | ⟨k, c, e, z⟩
    · exact .inl l
    · exact .inr ⟨k, c, e, cellK x c e _ z⟩
  · obtain ⟨v, z⟩ := I.cell x c e
    exact ⟨v, cellK x c e v z⟩
  · obtain ⟨m, ⟨o, _, _, ho, _⟩, _⟩ := I.loc
    exact free _ o (fun z => (hch _ z).2.1 rfl) ho I.free
  · obtain ⟨v, o, ho, hd⟩ := I.cell x c e
    exact free c o (fun z => (hch c z).2.2.1 x c e rfl) ho (I.freeC x c e)
  · obtain ⟨e, n, ne, nf, d⟩ := I.pin p hp
    have nch : p.1 ∉ ch := fun z => (hch p.1 z).2.2.2 p hp rfl
    exact ⟨keep p.1 p.2 ne nf nch e n, free p.1 p.2 nch e n, ne, nf, d⟩
/-- .. where the frame's own object is kept too -/
theorem Inv.un {t' : Nat} (I : Inv X pins σ H s) (u : Un X.fs [] H H' s.heap h') (hok : HOk X.prog X.w H' h') : Inv X pins σ H' { s with heap := h', toks := t' } := by
  obtain ⟨m, ⟨o, es, ep, ho, r⟩, _⟩ := id I.loc
  obtain ⟨sl, hL⟩ := u.any ho I.free (by simp)
  exact I.step (g' := s.gens) (d' := s.drawn) (ch := []) (fun _ z => nomatch z) (fun b o _ hb _ e n => u.keep b o e n hb (by simp)) (fun b o _ hb _ e n => u.slot b o e n hb (by simp)) (fun b o _ e n => u.free b o e n (by simp)) (fun b o _ e => u.there b o e (by simp)) u.tups u.frzs u.tbls (fun m' hm => by
    obtain ⟨o', es', ep', ho', r'⟩ := hm
    rw [ho] at ho'; cases ho'
    exact ⟨_, es', ep', hL, r'⟩) hok I.bare
/-- behind a call (or a comprehension's block): the slots of this frame may have changed too, the records at ch may have turned -/
theorem Inv.call {g' : Array GenState} {t' : Nat} {d' : Drawn} {ch : List Addr} (I : Inv X pins σ H s) (u : Un (frs X.stack) ch H H' s.heap h') (hok : HOk X.prog X.w H' h') (hg : AllBare g')
    (hch : ∀ b ∈ ch, (b ∈ X.ex ∨ X.s₀.heap.objs.size ≤ b) ∧ b ≠ X.env.locals ∧ (∀ x c, X.env.cells.lookup x = some c → c ≠ b) ∧ ∀ p ∈ X.pn ++ pins, p.1 ≠ b) :
    Inv X pins σ H' { s with heap := h', gens := g', drawn := d', toks := t' } := by
  obtain ⟨m, ⟨o, es, ep, ho, r⟩, _⟩ := id I.loc
  obtain ⟨sl, hL⟩ := u.any ho I.free fun z => (hch _ z).2.1 rfl
  exact I.step (ch := ch) hch (fun b o hL hb hc e n => u.keep b o e n (fun z => (List.mem_cons.mp (I.stkSub b z)).elim hL hb) hc) (fun b o _ _ hc e n => u.any e n hc) (fun b o hc e n => u.free b o e n hc) (fun b o hc e => u.there b o e hc) u.tups u.frzs u.tbls (fun m' hm => by
    obtain ⟨o', es', ep', ho', r'⟩ := hm
    rw [ho] at ho'; cases ho'
    exact ⟨_, es', ep', hL, r'⟩) hok hg
/-- an untracked record of ours (an iterator) has turned -/
theorem Inv.turned {t' : Nat} {it : Addr} (I : Inv X pins σ H s) (k : ∀ b o, b ≠ it → s.heap.get? b = some o → h'.get? b = some o) (hn : H it = none) (hL : it ≠ X.env.locals)
    (h1 : it ∈ X.ex ∨ X.s₀.heap.objs.size ≤ it) (h2 : ∀ x c, X.env.cells.lookup x = some c → c ≠ it) (h3 : ∀ p ∈ X.pn ++ pins, p.1 ≠ it) : Inv X pins σ H { s with heap := h', toks := t' } := by
  have nit : ∀ b u, H b = some u → b ≠ it := fun b u e z => by rw [z, hn] at e; cases e
  refine I.step (g' := s.gens) (d' := s.drawn) (ch := [it]) (fun b hb => ?_) (fun b o _ _ hc e _ => k b o (fun z => hc (by simp [z])) e) (fun b o _ _ hc e _ => ⟨o.slots, k b o (fun z => hc (by simp [z])) e⟩) (fun _ _ _ _ n => n)
    (fun b o hc e => ⟨o, k b o (fun z => hc (by simp [z])) e⟩) (fun _ _ e => e) (fun _ _ _ e => e) (fun b ps e => ⟨#[], by rw [e]; simp⟩) (fun m hm => ?_) (fun b u e => ?_) I.bare
  · have e : b = it := by simpa using hb
    subst e
    exact ⟨h1, hL, h2, h3⟩
  · obtain ⟨o, es, ep, ho, r⟩ := hm
    exact ⟨o, es, ep, k _ o (Ne.symm hL) ho, r⟩
  · refine (I.hok b u e).stay (fun c v hc q => k c v ?_ q) (fun _ q => q) fun _ _ q => q
    rcases hc with z | z
    · rw [z]; exact nit b u e
    · exact nit c _ z
theorem Inv.tok (I : Inv X pins σ H s) (t : Nat) : Inv X pins σ H { s with toks := t } := I.un (h' := s.heap) (t' := t) Un.refl I.hok
/-- all objects kept -/
theorem Inv.kept {t' : Nat} (I : Inv X pins σ H s) (k : ∀ b u, s.heap.get? b = some u → h'.get? b = some u) : Inv X pins σ H { s with heap := h', toks := t' } := I.un (Un.kept k) (I.hok.kept k)
/-- a new object laid and tracked -/
theorem Inv.laid {a : Addr} {o : HO} {t' : Nat} (I : Inv X pins σ H s) (k : ∀ b u, s.heap.get? b = some u → h'.get? b = some u) (hp : s.heap.objs.size ≤ a) (new : ObjOk X.prog X.w (upd H a o) h' a o) :
    Inv X pins σ (upd H a o) { s with heap := h', toks := t' } := I.un (Un.laid k hp (I.hok.fresh hp)) (I.hok.laid k hp new)
/-- an object written -/
theorem Inv.write {x e : Addr} {o : HO} {t' : Nat} (I : Inv X pins σ H s) (mu : Mut (H x)) (he : e = x ∨ H e = some (.own x)) (k : ∀ b u, b ≠ e → s.heap.get? b = some u → h'.get? b = some u) (heo : ∃ u, h'.get? e = some u)
    (new : ObjOk X.prog X.w (upd H x o) h' x o) : Inv X pins σ (upd H x o) { s with heap := h', toks := t' } := I.un (Un.write mu he k heo) (I.hok.write mu he k heo new)
theorem Inv.pins_of {pins' : List (Addr × Obj)} (I : Inv X pins σ H s) (h : ∀ p ∈ pins', s.heap.get? p.1 = some p.2 ∧ H p.1 = none ∧ p.1 ≠ X.env.locals ∧ p.1 ∉ X.fs ∧ ∀ v, p.2.data ≠ .cell v) : Inv X pins' σ H s :=
  ⟨I.ok, I.os, I.bare, I.base, I.loc, I.cell, I.free, I.freeC, fun p hp => (List.mem_append.mp hp).elim (fun z => I.pin p (List.mem_append_left _ z)) (h p), I.hok, I.len⟩
theorem nodup_ix {N : List Str} (hN : N.Nodup) {i j : Nat} {x : Str} (a : N[i]? = some x) (b : N[j]? = some x) : i = j := by
  obtain ⟨h1, e1⟩ := List.getElem?_eq_some_iff.mp a
  obtain ⟨h2, e2⟩ := List.getElem?_eq_some_iff.mp b
  exact (List.getElem_inj hN).mp (e1.trans e2.symm)
/-- a name is stored; what changed -/
theorem store_ok2 {M : Model} {A : Around} {E : Value → Shared → Prop} {i : Nat} {x : Str} {v : V} {u : Value} {Q : Unit → Shared → Prop} (I : Inv X pins σ H s) (hN : X.N.Nodup) (hi : X.N[i]? = some x) (hx : Loc X.env.scope x) (r : RelV v u)
    (h : ∀ s', Inv X pins (σ.set i (some v)) H s' → (∃ a, Heap.SameBut a s.heap s'.heap ∧ (a = X.env.locals ∨ X.env.cells.lookup x = some a)) → Q () s') (hf : X.fn x = true ∨ X.env.scope.names.lookup x = some .local := by first | exact .inl rfl | exact .inr rfl | assumption) : wpAny M A (storeName X.env x u) Q E s := by
  obtain ⟨m, hn, hl⟩ := id I.loc
  have hcls : (X.env.scope.kind == .class || (X.env.scope.kind == .module && X.env.locals != X.env.globals)) = false := by rw [I.ok.kind]; rfl
  have hiσ : i < σ.length := by rw [I.len]; exact (List.getElem?_eq_some_iff.mp hi).1
  have cne := I.cne
  have tracked : ∀ {a : Addr} {h' : Heap}, (∃ o, s.heap.get? a = some o ∧ H a = none) → Heap.SameBut a s.heap h' → HOk X.prog X.w H h' := fun {a h'} ha hs b ob e => by
    obtain ⟨_, _, hfree⟩ := ha
    refine (I.hok b ob e).stay (fun c w' hc q => (hs.2 c ?_).trans q) (fun _ q => q) fun _ _ q => q
    rintro rfl
    rcases hc with rfl | hc
    · rw [hfree] at e; cases e
    · rw [hfree] at hc; cases hc
  rcases hx with hk | hk
  · refine wpAny_storeName_local hk hn (fun h' hn' hs => ?_) hcls
    obtain ⟨oL, _, _, hoL, _⟩ := id hn
    refine h _ ⟨I.ok, I.os, I.bare, ⟨fun b o e n hb hx => ?_, fun b o e n hb hx => ?_, I.base.free, fun b o e hx => ?_, I.base.tups, I.base.frzs, I.base.tbls⟩, ⟨_, hn', fun j y v' e1 e2 e3 => ?_⟩, fun y c e => ?_, I.free, I.freeC, fun p hp => ?_, tracked ⟨oL, hoL, I.free⟩ hs, by simpa using I.len⟩ ⟨_, hs, .inl rfl⟩
    · exact (hs.2 b (Nat.ne_of_lt (Nat.lt_of_lt_of_le (Heap.lt_size e) I.ok.above))).trans (I.base.keep b o e n hb hx)
    · obtain ⟨sl, e1⟩ := I.base.slot b o e n hb hx
      exact ⟨sl, (hs.2 b (Nat.ne_of_lt (Nat.lt_of_lt_of_le (Heap.lt_size e) I.ok.above))).trans e1⟩
    · obtain ⟨o', e1⟩ := I.base.there b o e hx
      exact ⟨o', (hs.2 b (Nat.ne_of_lt (Nat.lt_of_lt_of_le (Heap.lt_size e) I.ok.above))).trans e1⟩
    · by_cases hj : j = i
      · subst hj
        rw [hi] at e1; cases e1
        rw [List.getElem?_set_self hiσ] at e2
        cases e2
        exact ⟨u, r, .inl ⟨hk, by simp⟩⟩
      · rw [List.getElem?_set_ne (Ne.symm hj)] at e2
        obtain ⟨u', r', q⟩ := hl j y v' e1 e2 e3
        refine ⟨u', r', ?_⟩
        rcases q with ⟨k, e⟩ | ⟨k, c, e, z⟩
        · refine .inl ⟨k, ?_⟩
          have : y ≠ x := fun e => hj (nodup_ix hN e1 (e ▸ hi))
          simp [this, e]
        · exact .inr ⟨k, c, e, z.sameBut hs (cne y c e)⟩
    · obtain ⟨w', z⟩ := I.cell y c e
      exact ⟨w', z.sameBut hs (cne y c e)⟩
    · obtain ⟨e, n, ne, nf, d⟩ := I.pin p hp
      exact ⟨(hs.2 p.1 ne).trans e, n, ne, nf, d⟩
  · have hfn : X.fn x = true := by
      rcases hf with z | z
      · exact z
      · rw [z] at hk; cases hk
    obtain ⟨c, hc⟩ := I.ok.has x (.inl hk)
    obtain ⟨w', z⟩ := I.cell x c hc
    refine wpAny_storeName_cell I.ok.kind hk hc z (fun h' hc' hs => ?_)
    obtain ⟨oc, hoc, hocd⟩ := id z
    refine h { s with heap := h' } ⟨I.ok, I.os, I.bare, ⟨fun b o e n hb hx => ?_, fun b o e n hb hx => ?_, I.base.free, fun b o e hx => ?_, I.base.tups, I.base.frzs, I.base.tbls⟩, ⟨m, hn.sameBut hs (Ne.symm (cne x c hc)), fun j y v' e1 e2 e3 => ?_⟩, fun y c' e => ?_, I.free, I.freeC, fun p hp => ?_, tracked ⟨oc, hoc, I.freeC x c hc⟩ hs, by simpa using I.len⟩ ⟨c, hs, .inr hc⟩
    · exact (hs.2 b (Nat.ne_of_lt (Nat.lt_of_lt_of_le (Heap.lt_size e) (I.ok.cab x c hfn hc)))).trans (I.base.keep b o e n hb hx)
    · obtain ⟨sl, e1⟩ := I.base.slot b o e n hb hx
      exact ⟨sl, (hs.2 b (Nat.ne_of_lt (Nat.lt_of_lt_of_le (Heap.lt_size e) (I.ok.cab x c hfn hc)))).trans e1⟩
    · obtain ⟨o', e1⟩ := I.base.there b o e hx
      exact ⟨o', (hs.2 b (Nat.ne_of_lt (Nat.lt_of_lt_of_le (Heap.lt_size e) (I.ok.cab x c hfn hc)))).trans e1⟩
    · by_cases hj : j = i
      · subst hj
        rw [hi] at e1; cases e1
        rw [List.getElem?_set_self hiσ] at e2
        cases e2
        exact ⟨u, r, .inr ⟨.inl hk, c, hc, hc'⟩⟩
      · rw [List.getElem?_set_ne (Ne.symm hj)] at e2
        obtain ⟨u', r', q⟩ := hl j y v' e1 e2 e3
        refine ⟨u', r', ?_⟩
        rcases q with q | ⟨k, c', e, z'⟩
        · exact .inl q
        · refine .inr ⟨k, c', e, z'.sameBut hs ?_⟩
          rintro rfl
          exact hj (nodup_ix hN e1 (I.ok.inj _ _ _ e hc ▸ hi))
    · by_cases hcc : c' = c
      · subst hcc; exact ⟨_, hc'⟩
      · obtain ⟨w2, z2⟩ := I.cell y c' e
        exact ⟨w2, z2.sameBut hs hcc⟩
    · obtain ⟨e, n, ne, nf, d⟩ := I.pin p hp
      refine ⟨(hs.2 p.1 ?_).trans e, n, ne, nf, d⟩
      intro q
      rw [q, hoc] at e
      have q' : oc = p.2 := Option.some.inj e
      exact d w' (by rw [← q']; exact hocd)
theorem store_ok {M : Model} {A : Around} {E : Value → Shared → Prop} {i : Nat} {x : Str} {v : V} {u : Value} {Q : Unit → Shared → Prop} (I : Inv X pins σ H s) (hN : X.N.Nodup) (hi : X.N[i]? = some x) (hx : Loc X.env.scope x) (r : RelV v u)
    (h : ∀ s', Inv X pins (σ.set i (some v)) H s' → Q () s') (hf : X.fn x = true ∨ X.env.scope.names.lookup x = some .local := by first | exact .inl rfl | exact .inr rfl | assumption) : wpAny M A (storeName X.env x u) Q E s :=
  store_ok2 I hN hi hx r (fun s' I' _ => h s' I') hf
/-- behind a call or a block, the state as it is -/
theorem Inv.call' {s' : Shared} {ch : List Addr} (I : Inv X pins σ H s) (ho : s'.os = s.os) (u : Un (frs X.stack) ch H H' s.heap s'.heap) (hok : HOk X.prog X.w H' s'.heap) (hg : AllBare s'.gens)
    (hch : ∀ b ∈ ch, (b ∈ X.ex ∨ X.s₀.heap.objs.size ≤ b) ∧ b ≠ X.env.locals ∧ (∀ x c, X.env.cells.lookup x = some c → c ≠ b) ∧ ∀ p ∈ X.pn ++ pins, p.1 ≠ b) : Inv X pins σ H' s' := by
  obtain ⟨h', g', d', t', o'⟩ := s'
  have e : o' = s.os := ho
  subst e
  exact I.call (g' := g') (t' := t') (d' := d') u hok hg hch
end
/-- an exception: its class, its own dict's address (where it has one), the abstract heap behind it -/
abbrev XK := Value → Option Addr → Hp → Prop
abbrev St := List (Option V)
abbrev VK := V → Hp → Prop
/-- an expression's reading; a test's; an argument list's -/
abbrev TE := St → Hp → VK → Prop
abbrev TT := St → Hp → (Bool → Hp → Prop) → Prop
abbrev TA := St → Hp → (List V → Hp → Prop) → Prop
/-- what is wanted behind a statement -/
structure Ends where
  nx : St → Hp → Prop
  rt : VK
  bk : St → Hp → Prop := fun _ _ => False
  ct : St → Hp → Prop := fun _ _ => False
abbrev TS := Ends → St → Hp → Prop
def EP (X : Cx) (pins : List (Addr × Obj)) (σ : St) (Q : VK) (u : Value) (s' : Shared) : Prop := ∃ v H', Inv X pins σ H' s' ∧ RelV v u ∧ Q v H'
def TP (X : Cx) (pins : List (Addr × Obj)) (σ : St) (Q : Bool → Hp → Prop) (b : Bool) (s' : Shared) : Prop := ∃ H', Inv X pins σ H' s' ∧ Q b H'
def AP (X : Cx) (pins : List (Addr × Obj)) (σ : St) (Q : List V → Hp → Prop) (us : List Value) (s' : Shared) : Prop := ∃ vs H', Inv X pins σ H' s' ∧ Vals vs us ∧ Q vs H'
def SP (X : Cx) (pins : List (Addr × Obj)) (D : Ends) (f : Flow) (s' : Shared) : Prop :=
  match f with
  | .next => ∃ σ' H', Inv X pins σ' H' s' ∧ D.nx σ' H'
  | .brk => ∃ σ' H', Inv X pins σ' H' s' ∧ D.bk σ' H'
  | .cont => ∃ σ' H', Inv X pins σ' H' s' ∧ D.ct σ' H'
  | .ret u => ∃ v σ' H', Inv X pins σ' H' s' ∧ RelV v u ∧ D.rt v H'
def PE (X : Cx) (e : Expr) (t : TE) : Prop :=
  ∀ (pins : List (Addr × Obj)) (s : Shared) (σ : St) (H : Hp) (Q : VK), Inv X pins σ H s → t σ H Q → wpAny (model X.prog X.w) X.A (eval e X.env) (EP X pins σ Q) X.xe s
def PT (X : Cx) (e : Expr) (t : TT) : Prop :=
  ∀ (pins : List (Addr × Obj)) (s : Shared) (σ : St) (H : Hp) (Q : Bool → Hp → Prop), Inv X pins σ H s → t σ H Q → wpAny (model X.prog X.w) X.A (isTrue e X.env (eval e X.env)) (TP X pins σ Q) X.xe s
/-- a test whatever its 'whole' is (and, or) -/
def PW (X : Cx) (e : Expr) (t : TT) : Prop :=
  ∀ (whole : Sem Value) (pins : List (Addr × Obj)) (s : Shared) (σ : St) (H : Hp) (Q : Bool → Hp → Prop), Inv X pins σ H s → t σ H Q → wpAny (model X.prog X.w) X.A (isTrue e X.env whole) (TP X pins σ Q) X.xe s
theorem PW.pt {X : Cx} {e : Expr} {t : TT} (h : PW X e t) : PT X e t := h _
/-- an argument list (no star), from the left -/
def PA (X : Cx) (es : List Expr) (t : TA) : Prop :=
  ∀ (pos : Pos) (pins : List (Addr × Obj)) (s : Shared) (σ : St) (H : Hp) (Q : List V → Hp → Prop), Inv X pins σ H s → t σ H Q → wpAny (model X.prog X.w) X.A (spliced (backTo pos (starEach es X.env))) (AP X pins σ Q) X.xe s
def PS (X : Cx) (st : Stmt) (t : TS) : Prop :=
  ∀ (pins : List (Addr × Obj)) (s : Shared) (σ : St) (H : Hp) (D : Ends), Inv X pins σ H s → t D σ H → wpAny (model X.prog X.w) X.A (exec st X.env) (SP X pins D) X.xe s
def PSs (X : Cx) (st : List Stmt) (t : TS) : Prop :=
  ∀ (pins : List (Addr × Obj)) (s : Shared) (σ : St) (H : Hp) (D : Ends), Inv X pins σ H s → t D σ H → wpAny (model X.prog X.w) X.A (execs st X.env) (SP X pins D) X.xe s
/-- weaken the end -/
theorem thn {α : Type} {t : Sem α} {Q Q' : α → Shared → Prop} {M : Model} {A : Around} {E : Value → Shared → Prop} {s : Shared} (h : wpAny M A t Q E s) (hQ : ∀ a s, Q a s → Q' a s) : wpAny M A t Q' E s := wpAny_mono h hQ fun _ _ x => x
end L2
namespace L2
open PySem PySem.Spec PyProof.Rows
section
variable {X : Cx}
def tVar (i : Nat) : TE := fun σ H Q => ∃ v, σ[i]? = some (some v) ∧ Q v H
def tC (v : V) : TE := fun _ H Q => Q v H
theorem pe_var {i : Nat} {x : Str} {pos : Pos} (hN : X.N[i]? = some x) (hv : Vis X.env.scope x) (hd : (x == ("__debug__" : Str)) = false := by decide) (hcd : (x == ("__classdict__" : Str)) = false := by decide) : PE X (.Name x pos) (tVar i) := by
  intro pins s σ H Q I h
  obtain ⟨v, e, h⟩ := h
  obtain ⟨m, hn, hl⟩ := I.loc
  obtain ⟨u, r, l⟩ := hl i x v hN e hv
  have fin : EP X pins σ Q u s := ⟨v, H, I, r, h⟩
  rcases l with ⟨hk, hm⟩ | ⟨hk, c, hc, hcell⟩
  · exact wpAny_Name (wpAny_loadName_local I.ok.kind hk hn hm fin) hd
  · rcases hk with hk | hk
    · exact wpAny_Name (wpAny_loadName_cell I.ok.kind hk hc hcell fin) hd
    · exact wpAny_Name (wpAny_loadName_free I.ok.kind hk hc hcell fin hcd) hd
theorem pe_int {i j pos} : PE X (.Constant (.int i) j pos) (tC (.int i)) := fun _ _ _ H _ I h => wpAny_Constant_int ⟨.int i, H, I.tok _, ⟨_, rfl⟩, h⟩
theorem pe_bl {b j pos} : PE X (.Constant (.bool b) j pos) (tC (.bl b)) := fun _ _ _ H _ I h => Constant_bool ⟨.bl b, H, I, rfl, h⟩
theorem pe_non {j pos} : PE X (.Constant .none j pos) (tC .non) := fun _ _ _ H _ I h => Constant_none ⟨.non, H, I, rfl, h⟩
theorem pe_str {x j pos} : PE X (.Constant (.str x) j pos) (tC (.str x)) := fun _ _ _ H _ I h => Calls.Constant_str ⟨.str x, H, I.tok _, ⟨_, rfl⟩, h⟩
/-- a global name of the def -/
def Gl (X : Cx) (x : Str) : Prop := X.env.kindOf x = some .globalImplicit
theorem ld_glob {E : Value → Shared → Prop} {pins : List (Addr × Obj)} {s : Shared} {σ : St} {H : Hp} {x : Str} {u : Value} {pos : Pos} {Q : Value → Shared → Prop} (I : Inv X pins σ H s) (hg : Gl X x) (hm : X.mg x = some u) (h : Q u s)
    (hd : (x == ("__debug__" : Str)) = false := by decide) : wpAny (model X.prog X.w) X.A (eval (.Name x pos) X.env) Q E s :=
  Calls.Name_function_global I.ok.kind hg (Calls.loadGlobal_global (by rw [I.ok.glob]; exact I.mod.glob.keeps I.bk) hm h) hd
theorem ld_blt {E : Value → Shared → Prop} {pins : List (Addr × Obj)} {s : Shared} {σ : St} {H : Hp} {x : Str} {u : Value} {pos : Pos} {Q : Value → Shared → Prop} (I : Inv X pins σ H s) (hg : Gl X x) (hm : X.mg x = none) (hv : bootBuiltins x = some u) (h : Q u s)
    (hn : x ≠ "__name__" := by decide) (hd : (x == ("__debug__" : Str)) = false := by decide) : wpAny (model X.prog X.w) X.A (eval (.Name x pos) X.env) Q E s := by
  obtain ⟨mb, h1, h2⟩ := I.mod.blt
  exact Calls.Name_function_global I.ok.kind hg (Calls.loadGlobal_builtin (by rw [I.ok.glob]; exact I.mod.glob.keeps I.bk) hm (by rw [I.ok.blt]; exact h1.keeps I.bk) ((h2 x hn).trans hv) h) hd
/-- a module's constant, a class, a function, as a value -/
theorem pe_glob {x : Str} {v : V} {u : Value} {pos : Pos} (hg : Gl X x) (hm : X.mg x = some u) (r : RelV v u) (hd : (x == ("__debug__" : Str)) = false := by decide) : PE X (.Name x pos) (tC v) :=
  fun _ _ _ H _ I h => ld_glob I hg hm ⟨v, H, I, r, h⟩ hd
theorem pe_bltn {x : Str} {v : V} {u : Value} {pos : Pos} (hg : Gl X x) (hm : X.mg x = none) (hv : bootBuiltins x = some u) (r : RelV v u) (hn : x ≠ "__name__" := by decide) (hd : (x == ("__debug__" : Str)) = false := by decide) : PE X (.Name x pos) (tC v) :=
  fun _ _ _ H _ I h => ld_blt I hg hm hv ⟨v, H, I, r, h⟩ hn hd
variable {a b : Expr} {ta tb : TE} {pos : Pos}
/-- a comparison as a value, as a test -/
def tB (t : TE) : TT := fun σ H Q => t σ H fun x H1 => ∃ c, x = .bl c ∧ Q c H1
/-- an expression whose value is a bool, as a test -/
theorem pt_val {e : Expr} {t : TE} (h : PE X e t) (he : ∀ whole, isTrue e X.env whole = (do let v ← whole; standAt e.pos; holding [v] (truthy v)) := by intro _; rfl) : PT X e (tB t) := by
  intro pins s σ H Q I hw
  refine isTrue_plain (thn (h pins s σ H _ I hw) fun v s1 ⟨x, H1, I1, r1, q1⟩ => ?_) (he _)
  obtain ⟨d, rfl, q⟩ := q1
  cases r1
  exact wpAny_truthy_bool ⟨H1, I1, q⟩
variable {tA tB' : TT} {rest : List Expr}
def tAnd (t u : TT) : TT := fun σ H Q => t σ H fun c H1 => if c = true then u σ H1 Q else Q false H1
def tOr (t u : TT) : TT := fun σ H Q => t σ H fun c H1 => if c = true then Q true H1 else u σ H1 Q
def tNot (t : TT) : TT := fun σ H Q => t σ H fun c H1 => Q (!c) H1
theorem pw_and1 (ha : PT X a tA) : PW X (.BoolOp .And [a] pos) tA := by
  intro wh pins s σ H Q I h
  refine isTrue_and (thn (ha pins s σ H Q I h) fun c s1 e => ?_)
  cases c with
  | true => exact isTrue_and_nil e
  | false => exact e
theorem pw_or1 (ha : PT X a tA) : PW X (.BoolOp .Or [a] pos) tA := by
  intro wh pins s σ H Q I h
  refine isTrue_or (thn (ha pins s σ H Q I h) fun c s1 e => ?_)
  cases c with
  | false => exact isTrue_or_nil e
  | true => exact e
theorem pw_and (ha : PT X a tA) (hb : PW X (.BoolOp .And (b :: rest) pos) tB') : PW X (.BoolOp .And (a :: b :: rest) pos) (tAnd tA tB') := by
  intro wh pins s σ H Q I h
  refine isTrue_and (thn (ha pins s σ H _ I h) fun c s1 ⟨H1, I1, q1⟩ => ?_)
  cases c with
  | true => exact hb wh pins s1 σ H1 Q I1 q1
  | false => exact ⟨H1, I1, q1⟩
theorem pw_or (ha : PT X a tA) (hb : PW X (.BoolOp .Or (b :: rest) pos) tB') : PW X (.BoolOp .Or (a :: b :: rest) pos) (tOr tA tB') := by
  intro wh pins s σ H Q I h
  refine isTrue_or (thn (ha pins s σ H _ I h) fun c s1 ⟨H1, I1, q1⟩ => ?_)
  cases c with
  | true => exact ⟨H1, I1, q1⟩
  | false => exact hb wh pins s1 σ H1 Q I1 q1
theorem pt_not (ha : PT X a tA) : PT X (.UnaryOp .Not a pos) (tNot tA) := by
  intro pins s σ H Q I h
  exact isTrue_not (ha pins s σ H (fun c H1 => Q (!c) H1) I h)
/-- .. as values (bools) -/
def tAndV (ta tb : TE) : TE := fun σ H Q => ta σ H fun x H1 => ∃ c, x = .bl c ∧ if c = true then tb σ H1 Q else Q (.bl false) H1
def tOrV (ta tb : TE) : TE := fun σ H Q => ta σ H fun x H1 => ∃ c, x = .bl c ∧ if c = true then Q (.bl true) H1 else tb σ H1 Q
def tNotV (ta : TE) : TE := fun σ H Q => ta σ H fun x H1 => ∃ c, x = .bl c ∧ Q (.bl (!c)) H1
theorem pe_one {op} {t : TE} (h : PE X a t) : PE X (.BoolOp op [a] pos) t := fun pins s σ H Q I hw => BoolOp_one (h pins s σ H Q I hw)
theorem pe_and (ha : PE X a ta) (hb : PE X (.BoolOp .And (b :: rest) pos) tb) : PE X (.BoolOp .And (a :: b :: rest) pos) (tAndV ta tb) := by
  intro pins s σ H Q I h
  refine BoolOp_and (thn (ha pins s σ H _ I h) fun v s1 ⟨x, H1, I1, r1, q1⟩ => ?_)
  obtain ⟨c, rfl, q1⟩ := q1
  cases r1
  refine wpAny_truthy_bool ?_
  cases c with
  | true => exact hb pins s1 σ H1 Q I1 q1
  | false => exact ⟨.bl false, H1, I1, rfl, q1⟩
theorem pe_not (ha : PE X a ta) : PE X (.UnaryOp .Not a pos) (tNotV ta) := by
  intro pins s σ H Q I h
  refine UnaryOp_ (thn (ha pins s σ H _ I h) fun v s1 ⟨x, H1, I1, r1, q1⟩ => ?_)
  obtain ⟨c, rfl, q1⟩ := q1
  cases r1
  exact not_of (wpAny_truthy_bool ⟨.bl (!c), H1, I1, rfl, q1⟩)
/-- a if t else b -/
def tIf (t : TT) (ta tb : TE) : TE := fun σ H Q => t σ H fun c H1 => if c = true then ta σ H1 Q else tb σ H1 Q
end
end L2
namespace L2
open PySem PySem.Spec PyProof.Rows
def SqL (K : PySem.W.Frag) (H : Hp) (a : Addr) (xs : List V) : Prop :=
  Rd H a (.lst xs) ∨
    ∃ (o : Obj) (its : Array Value) (n : Nat), K.lookup a = some o ∧ o.cls = .type "list" ∧ o.dict = none ∧ o.data = .seq its n ∧ its.size ≤ sizeLine ∧ Vals xs its.toList
def SqT (K : PySem.W.Frag) (H : Hp) (a : Addr) (xs : List V) : Prop :=
  Rd H a (.tup xs) ∨
    ∃ (o : Obj) (its : Array Value) (n : Nat), K.lookup a = some o ∧ o.cls = .type "tuple" ∧ o.data = .seq its n ∧ its.size ≤ sizeLine ∧ Vals xs its.toList
def absV : Value → Option V
  | .none => some .non
  | .bool b => some (.bl b)
  | .int i _ => some (.int i)
  | .str x _ => some (.str x)
  | .bytes b _ => some (.byt b)
  | .float b _ => some (.flt b)
  | .ref a => some (.ref a)
  | .type n => some (.ty n)
  | _ => none
theorem RelV.abs {x : V} {u : Value} (r : RelV x u) : absV u = some x := by
  cases x with
  | non => cases r; rfl
  | bl _ => cases r; rfl
  | int _ => obtain ⟨t, rfl⟩ := r; rfl
  | str _ => obtain ⟨t, rfl⟩ := r; rfl
  | byt _ => obtain ⟨t, rfl⟩ := r; rfl
  | flt _ => obtain ⟨t, rfl⟩ := r; rfl
  | ref _ => cases r; rfl
  | ty _ => cases r; rfl
theorem RelV.inj {x y : V} {u : Value} (r : RelV x u) (q : RelV y u) : x = y := Option.some.inj (r.abs.symm.trans q.abs)
theorem Vals.inj : ∀ {xs ys : List V} {us : List Value}, Vals xs us → Vals ys us → xs = ys
  | _, _, _, .nil, .nil => rfl
  | _, _, _, .cons r t, .cons r' t' => by rw [r.inj r', Vals.inj t t']
section
variable {X : Cx} {pins : List (Addr × Obj)} {σ : St} {H : Hp} {s : Shared} {a : Addr} {xs ys : List V}
theorem SqL.of {K : PySem.W.Frag} (h : H a = some (.lst xs)) : SqL K H a xs := .inl (.inl h)
theorem SqT.of {K : PySem.W.Frag} (h : H a = some (.tup xs)) : SqT K H a xs := .inl (.inl h)
theorem Inv.list (I : Inv X pins σ H s) (h : SqL X.K H a xs) : ∃ its : List Value, Vals xs its ∧ PlainL s.heap a its.toArray ∧ xs.length ≤ sizeLine := by
  rcases h with h | ⟨o, its, n, hk, hc, hd, hs, hz, r⟩
  · obtain ⟨z, its, n, r, e⟩ := h.ok I.hok
    exact ⟨its, r, ⟨_, n, e, rfl, rfl, rfl⟩, z⟩
  · refine ⟨its.toList, r, ⟨o, n, I.kIn a o hk, hc, hd, by simpa using hs⟩, ?_⟩
    have e := r.length
    simp only [Array.length_toList] at e
    omega
theorem Inv.tuple (I : Inv X pins σ H s) (h : SqT X.K H a xs) : ∃ its : List Value, Vals xs its ∧ IsTup s.heap a its.toArray ∧ xs.length ≤ sizeLine := by
  rcases h with h | ⟨o, its, n, hk, hc, hs, hz, r⟩
  · obtain ⟨z, its, r, p⟩ := h.ok I.hok
    exact ⟨its, r, p, z⟩
  · refine ⟨its.toList, r, ⟨o, I.kIn a o hk, hc, n, by simpa using hs⟩, ?_⟩
    have e := r.length
    simp only [Array.length_toList] at e
    omega
theorem Inv.list_inj (I : Inv X pins σ H s) (h : SqL X.K H a xs) (h' : SqL X.K H a ys) : xs = ys := by
  obtain ⟨its, r, ⟨o, n, e, _, _, d⟩, _⟩ := I.list h
  obtain ⟨its', r', ⟨o', n', e', _, _, d'⟩, _⟩ := I.list h'
  rw [e] at e'; cases e'
  rw [d] at d'
  injection d' with d1 _
  have : its = its' := by simpa using congrArg Array.toList d1
  subst this
  exact r.inj r'
theorem Inv.tuple_inj (I : Inv X pins σ H s) (h : SqT X.K H a xs) (h' : SqT X.K H a ys) : xs = ys := by
  obtain ⟨its, r, ⟨o, e, _, n, d⟩, _⟩ := I.tuple h
  obtain ⟨its', r', ⟨o', e', _, n', d'⟩, _⟩ := I.tuple h'
  rw [e] at e'; cases e'
  rw [d] at d'
  injection d' with d1 _
  have : its = its' := by simpa using congrArg Array.toList d1
  subst this
  exact r.inj r'
end
abbrev Cx.wish (X : Cx) (E : Value → Shared → Prop) : Cx := { X with xe := E }
/-- no exception leaves -/
abbrev Cx.nox (X : Cx) : Cx := X.wish fun _ _ => False
theorem Cx.Ok.wish {X : Cx} (ok : X.Ok) (E : Value → Shared → Prop) : (X.wish E).Ok :=
  ⟨ok.mod, ok.kind, ok.glob, ok.blt, ok.above, ok.inj, ok.has, ok.cab, ok.hd, ok.frames, ok.stk, ok.exf, ok.bs, ok.bsz, ok.noex, ok.exfs, ok.funs, ok.frf⟩
theorem Cx.Ok.unwish {X : Cx} {E : Value → Shared → Prop} (ok : (X.wish E).Ok) : X.Ok :=
  ⟨ok.mod, ok.kind, ok.glob, ok.blt, ok.above, ok.inj, ok.has, ok.cab, ok.hd, ok.frames, ok.stk, ok.exf, ok.bs, ok.bsz, ok.noex, ok.exfs, ok.funs, ok.frf⟩
section
variable {X : Cx} {pins : List (Addr × Obj)} {σ : St} {H : Hp} {s : Shared} {E : Value → Shared → Prop}
theorem Inv.wish (I : Inv X pins σ H s) (E : Value → Shared → Prop) : Inv (X.wish E) pins σ H s := ⟨I.ok.wish E, I.os, I.bare, I.base, I.loc, I.cell, I.free, I.freeC, I.pin, I.hok, I.len⟩
theorem Inv.unwish (I : Inv (X.wish E) pins σ H s) : Inv X pins σ H s := ⟨I.ok.unwish, I.os, I.bare, I.base, I.loc, I.cell, I.free, I.freeC, I.pin, I.hok, I.len⟩
theorem SP.unwish {D : Ends} {f : Flow} {s' : Shared} (h : SP (X.wish E) pins D f s') : SP X pins D f s' := by
  cases f with
  | next => obtain ⟨σ', H', I, q⟩ := h; exact ⟨σ', H', I.unwish, q⟩
  | brk => obtain ⟨σ', H', I, q⟩ := h; exact ⟨σ', H', I.unwish, q⟩
  | cont => obtain ⟨σ', H', I, q⟩ := h; exact ⟨σ', H', I.unwish, q⟩
  | ret u => obtain ⟨v, σ', H', I, r, q⟩ := h; exact ⟨v, σ', H', I.unwish, r, q⟩
theorem PE.nox {e : Expr} {t : TE} (h : PE X.nox e t) : PE X e t := fun pins s σ H Q I hw =>
  wpAny_mono (h pins s σ H Q (I.wish _) hw) (fun _ _ ⟨v, H', I', r, q⟩ => ⟨v, H', I'.unwish, r, q⟩) fun _ _ z => False.elim z
theorem PT.nox {e : Expr} {t : TT} (h : PT X.nox e t) : PT X e t := fun pins s σ H Q I hw =>
  wpAny_mono (h pins s σ H Q (I.wish _) hw) (fun _ _ ⟨H', I', q⟩ => ⟨H', I'.unwish, q⟩) fun _ _ z => False.elim z
theorem PSs.nox {st : List Stmt} {t : TS} (h : PSs X.nox st t) : PSs X st t := fun pins s σ H D I hw =>
  wpAny_mono (h pins s σ H D (I.wish _) hw) (fun _ _ q => q.unwish) fun _ _ z => False.elim z
end
section
variable {X : Cx} {st : Stmt} {rest : List Stmt} {t u : TS} {e : Expr} {te : TE} {pos : Pos}
def tNext : TS := fun D σ H => D.nx σ H
def tSeq (t u : TS) : TS := fun D σ H => t { D with nx := u D } σ H
theorem pss_nil : PSs X [] tNext := fun _ _ σ H _ I h => wpAny_execs_nil ⟨σ, H, I, h⟩
theorem pss_cons (h1 : PS X st t) (h2 : PSs X rest u) : PSs X (st :: rest) (tSeq t u) := by
  intro pins s σ H D I h
  refine wpAny_execs_cons (thn (h1 pins s σ H { D with nx := u D } I h) fun f s1 q => ?_)
  cases f with
  | next =>
    obtain ⟨σ', H', I', q⟩ := q
    exact h2 pins s1 σ' H' D I' q
  | ret v => exact q
  | brk => exact q
  | cont => exact q
theorem pss_one (h1 : PS X st t) : PSs X [st] t := by
  intro pins s σ H D I h
  refine wpAny_execs_cons (thn (h1 pins s σ H D I h) fun f s1 q => ?_)
  cases f with
  | next => exact wpAny_execs_nil q
  | ret v => exact q
  | brk => exact q
  | cont => exact q
/-- in a def's body nothing is shown -/
theorem Inv.quiet {pins : List (Addr × Obj)} {σ : St} {H : Hp} {s : Shared} (I : Inv X pins σ H s) : interactive X.env = false := by simp [interactive, I.ok.kind]
/-- an expression whose value is dropped -/
def tDrop (te : TE) : TS := fun D σ H => te σ H fun _ H1 => D.nx σ H1
theorem ps_expr (he : PE X e te) (hs : swapsWith e none pos.line X.env = pure false := by rfl) : PS X (.Expr e pos) (tDrop te) := by
  intro pins s σ H D I h
  exact wpAny_Expr_any (thn (he pins s σ H _ I h) fun v s1 ⟨x, H1, I1, r1, q1⟩ => ⟨σ, H1, I1, q1⟩) I.quiet hs
def tRet (te : TE) : TS := fun D σ H => te σ H D.rt
theorem ps_ret (he : PE X e te) : PS X (.Return (some e) pos) (tRet te) := by
  intro pins s σ H D I h
  exact wpAny_Return_some (thn (he pins s σ H _ I h) fun v s1 ⟨x, H1, I1, r1, q1⟩ => ⟨x, σ, H1, I1, r1, q1⟩)
def tIfS (c : TT) (t u : TS) : TS := fun D σ H => c σ H fun b H1 => if b = true then t D σ H1 else u D σ H1
theorem ps_if {c : Expr} {a b : List Stmt} {tc : TT} (hc : PT X c tc) (ha : PSs X a t) (hb : PSs X b u) : PS X (.If c a b pos) (tIfS tc t u) := by
  intro pins s σ H D I h
  refine wpAny_If (thn (hc pins s σ H _ I h) fun d s1 ⟨H1, I1, q1⟩ => ?_)
  cases d with
  | true => exact ha pins s1 σ H1 D I1 q1
  | false => exact hb pins s1 σ H1 D I1 q1
end
abbrev TG := V → St → Hp → (St → Hp → Prop) → Prop
abbrev TGs := List V → St → Hp → (St → Hp → Prop) → Prop
def PG (X : Cx) (target : Expr) (t : TG) : Prop :=
  ∀ (pins : List (Addr × Obj)) (s : Shared) (σ : St) (H : Hp) (v : V) (u : Value) (Q : St → Hp → Prop), Inv X pins σ H s → RelV v u → t v σ H Q →
    wpAny (model X.prog X.w) X.A (assign target X.env u) (fun _ s' => ∃ σ' H', Inv X pins σ' H' s' ∧ Q σ' H') X.xe s
/-- several targets, one after another -/
def PGs (X : Cx) (ts : List Expr) (t : TGs) : Prop :=
  ∀ (pins : List (Addr × Obj)) (s : Shared) (σ : St) (H : Hp) (vs : List V) (us : List Value) (Q : St → Hp → Prop), Inv X pins σ H s → Vals vs us → t vs σ H Q →
    wpAny (model X.prog X.w) X.A (assignInOrder ((assignEach ts X.env).map (·.2)) us) (fun _ s' => ∃ σ' H', Inv X pins σ' H' s' ∧ Q σ' H') X.xe s
/-- o[i] = v, by values -/
abbrev TSet := V → V → V → Hp → (Hp → Prop) → Prop
def PSet (X : Cx) (t : TSet) : Prop :=
  ∀ (pins : List (Addr × Obj)) (s : Shared) (σ : St) (H : Hp) (o i v : V) (ov iv u : Value) (Q : Hp → Prop), Inv X pins σ H s → RelV o ov → RelV i iv → RelV v u → t o i v H Q →
    wpAny (model X.prog X.w) X.A (setItem ov iv u) (fun _ s' => ∃ H', Inv X pins σ H' s' ∧ Q H') X.xe s
/-- a op= b, by values -/
abbrev TIp := V → V → Hp → VK → Prop
def PIp (X : Cx) (op : Operator) (t : TIp) : Prop :=
  ∀ (pins : List (Addr × Obj)) (s : Shared) (σ : St) (H : Hp) (x y : V) (v u : Value) (Q : VK), Inv X pins σ H s → RelV x v → RelV y u → t x y H Q →
    wpAny (model X.prog X.w) X.A (inplaceOp op v u) (EP X pins σ Q) X.xe s
section
variable {X : Cx} {pos : Pos}
def gName (i : Nat) : TG := fun v σ H Q => Q (σ.set i (some v)) H
theorem pg_name {i : Nat} {x : Str} (hN : X.N.Nodup) (hi : X.N[i]? = some x) (hx : Loc X.env.scope x) (hf : X.fn x = true ∨ X.env.scope.names.lookup x = some .local := by first | exact .inl rfl | exact .inr rfl | assumption) : PG X (.Name x pos) (gName i) := by
  intro pins s σ H v u Q I r h
  exact wpAny_assign_Name (store_ok I hN hi hx r (fun s' I' => ⟨_, H, I', h⟩) hf)
def gNil : TGs := fun vs σ H Q => vs = [] ∧ Q σ H
def gCons (t : TG) (u : TGs) : TGs := fun vs σ H Q => ∃ v r, vs = v :: r ∧ t v σ H fun σ' H' => u r σ' H' Q
theorem pgs_nil : PGs X [] gNil := by
  intro pins s σ H vs us Q I r h
  obtain ⟨e, h⟩ := h
  subst e
  cases r
  exact assignInOrder_nil ⟨σ, H, I, h⟩
theorem pgs_cons {e : Expr} {es : List Expr} {t : TG} {u : TGs} (h1 : PG X e t) (h2 : PGs X es u)
    (hs : (assignEach (e :: es) X.env).map (·.2) = assign e X.env :: (assignEach es X.env).map (·.2) := by rfl) : PGs X (e :: es) (gCons t u) := by
  intro pins s σ H vs us Q I r h
  obtain ⟨v, vr, e1, h⟩ := h
  subst e1
  cases r with
  | cons r rr =>
    rw [hs]
    refine assignInOrder_cons (thn (h1 pins s σ H _ _ _ I r h) fun _ s1 ⟨σ1, H1, I1, q1⟩ => ?_)
    exact h2 pins s1 σ1 H1 _ _ Q I1 rr q1
/-- (a, b, ..) = a tuple of that length -/
def gTup (K : PySem.W.Frag) (n : Nat) (t : TGs) : TG := fun v σ H Q => ∃ a xs, v = .ref a ∧ SqT K H a xs ∧ xs.length = n ∧ t xs σ H Q
theorem pg_tup {es : List Expr} {k : Nat} {t : TGs} {n : Nat} (hc : X.calm = true) (h : PGs X es t)
    (hn : (assignEach es X.env).length = n := by rfl) (hst : (assignEach es X.env).findIdx? (·.1) = none := by rfl) : PG X (.Tuple es k pos) (gTup X.K n t) := by
  intro pins s σ H v u Q I r hw
  obtain ⟨a, xs, e1, hq, hl, hw⟩ := hw
  subst e1
  cases r
  obtain ⟨its, rv, ht, hz⟩ := I.tuple hq
  refine assign_Tuple_tuple (I.ok.hd hc) ht (by simp [hn, ← hl, rv.length]) hst fun h' hx => ?_
  have I1 : Inv X pins σ H { s with heap := h' } := I.kept (t' := s.toks) fun b o e => hx b o (Nat.ne_of_lt (Heap.lt_size e)) e
  exact h pins _ σ H xs _ Q I1 (by simpa using rv) hw
/-- o[i] = .. -/
def gSub (to ti : TE) (t : TSet) : TG := fun v σ H Q => to σ H fun o H1 => ti σ H1 fun i H2 => t o i v H2 fun H3 => Q σ H3
theorem pg_sub {o i : Expr} {to ti : TE} {t : TSet} (ho : PE X o to) (hi : PE X i ti) (hs : PSet X t)
    (ha : ∀ v, assign (.Subscript o i pos) X.env v = (do
      let ov ← holding [v] (eval o X.env)
      let iv ← holding [v, ov] (eval i X.env)
      standAt pos
      holding [v, ov, iv] (setItem ov iv v)
      release [v, ov, iv] []) := by intro _; rfl) : PG X (.Subscript o i pos) (gSub to ti t) := by
  intro pins s σ H v u Q I r h
  rw [ha]
  refine wpAny_bind (wpAny_holding (thn (ho pins s σ H _ I h) fun ov s1 ⟨x, H1, I1, r1, q1⟩ => ?_))
  refine wpAny_bind (wpAny_holding (thn (hi pins s1 σ H1 _ I1 q1) fun iv s2 ⟨y, H2, I2, r2, q2⟩ => ?_))
  refine wpAny_bind (wpAny_standAt (wpAny_bind (wpAny_holding (thn (hs pins s2 σ H2 x y v ov iv u _ I2 r1 r2 r q2) fun _ s3 ⟨H3, I3, q3⟩ => ?_))))
  exact wpAny_release ⟨σ, H3, I3, q3⟩
/-- target = value -/
def tAsg (te : TE) (g : TG) : TS := fun D σ H => te σ H fun x H1 => g x σ H1 D.nx
theorem ps_asg {tg e : Expr} {te : TE} {g : TG} (he : PE X e te) (hg : PG X tg g) (hs : swapsWithSole [tg] e pos.line X.env = pure false := by rfl) (hw : swappedStores [tg] e X.env = pure none := by rfl)
    (h1 : (assignEach [tg] X.env).map (·.2) = [assign tg X.env] := by rfl) : PS X (.Assign [tg] e pos) (tAsg te g) := by
  intro pins s σ H D I h
  refine wpAny_Assign_stores (thn (he pins s σ H _ I h) fun v s1 ⟨x, H1, I1, r1, q1⟩ => ?_) hs hw
  rw [h1]
  exact thn (hg pins s1 σ H1 x v _ I1 r1 q1) fun _ s2 q => q
/-- name = value -/
theorem ps_set {i : Nat} {x : Str} {e : Expr} {te : TE} {pos' : Pos} (hN : X.N.Nodup) (hi : X.N[i]? = some x) (hx : Loc X.env.scope x) (he : PE X e te) (hs : swapsWith e (some (.Name x pos')) pos.line X.env = pure false := by rfl) (hf : X.fn x = true ∨ X.env.scope.names.lookup x = some .local := by first | exact .inl rfl | exact .inr rfl | assumption) :
    PS X (.Assign [.Name x pos'] e pos) (tAsg te (gName i)) := by
  intro pins s σ H D I h
  refine wpAny_Assign_Name (thn (he pins s σ H _ I h) fun v s1 ⟨y, H1, I1, r1, q1⟩ => ?_) hs
  exact store_ok I1 hN hi hx r1 (fun s2 I2 => ⟨_, H1, I2, q1⟩) hf
/-- name op= e -/
def tAug (i : Nat) (te : TE) (ti : TIp) : TS := fun D σ H => ∃ x, σ[i]? = some (some x) ∧ te σ H fun y H1 => ti x y H1 fun z H2 => D.nx (σ.set i (some z)) H2
theorem ps_aug {i : Nat} {x : Str} {e : Expr} {te : TE} {op : Operator} {ti : TIp} {pos' : Pos} (hN : X.N.Nodup) (hi : X.N[i]? = some x) (hx : Loc X.env.scope x) (he : PE X e te) (ho : PIp X op ti) (hf : X.fn x = true ∨ X.env.scope.names.lookup x = some .local := by first | exact .inl rfl | exact .inr rfl | assumption) :
    PS X (.AugAssign (.Name x pos') op e pos) (tAug i te ti) := by
  intro pins s σ H D I h
  obtain ⟨v, e1, h⟩ := h
  obtain ⟨m, hn, hl⟩ := I.loc
  have vis : Vis X.env.scope x := by rcases hx with k | k; exact .inl k; exact .inr (.inl k)
  obtain ⟨u, r, l⟩ := hl i x v hi e1 vis
  refine wpAny_AugAssign_Name ?_
  have go : wpAny (model X.prog X.w) X.A (eval e X.env) (fun w s₂ => wpAny (model X.prog X.w) X.A (inplaceOp op u w) (fun r s₃ => wpAny (model X.prog X.w) X.A (storeName X.env x r) (fun _ => SP X pins D .next) X.xe s₃) X.xe s₂) X.xe s := by
    refine thn (he pins s σ H _ I h) fun w s1 ⟨y, H1, I1, r1, q1⟩ => ?_
    refine thn (ho pins s1 σ H1 v y u w _ I1 r r1 q1) fun z s2 ⟨zv, H2, I2, r2, q2⟩ => ?_
    exact store_ok I2 hN hi hx r2 (fun s3 I3 => ⟨_, H2, I3, q2⟩) hf
  rcases l with ⟨hk, hm⟩ | ⟨hk, c, hc, hcell⟩
  · exact wpAny_loadName_local I.ok.kind hk hn hm go
  · rcases hk with hk | hk
    · exact wpAny_loadName_cell I.ok.kind hk hc hcell go
    · rcases hx with k | k
      · have : X.env.scope.names.lookup x = some .free := hk
        rw [k] at this; cases this
      · have : X.env.scope.names.lookup x = some .free := hk
        rw [k] at this; cases this
end
section
variable {X : Cx} {pos : Pos}
end
/-- at turn i: it yields x (the heap may grow), or it stops -/
structure It where
  go : Nat → Hp → Prop
  yld : Nat → Hp → V → Hp → Prop
  stop : Nat → Hp → Prop
/-- the iterator's own objects may turn: they are not the frame's, not pinned, younger than the entry (or a comprehension's own) -/
def FpOk (X : Cx) (pins : List (Addr × Obj)) (H : Hp) (b : Addr) : Prop :=
  H b = none ∧ b ≠ X.env.locals ∧ b ∉ X.fs ∧ (b ∈ X.ex ∨ X.s₀.heap.objs.size ≤ b) ∧ (∀ x c, X.env.cells.lookup x = some c → c ≠ b) ∧ ∀ p ∈ X.pn ++ pins, p.1 ≠ b
theorem Inv.fpOk {X : Cx} {pins : List (Addr × Obj)} {σ : St} {H H' : Hp} {s : Shared} {b : Addr} (I : Inv X pins σ H s) (hb : s.heap.objs.size ≤ b) (hn : H' b = none) : FpOk X pins H' b := by
  refine ⟨hn, Nat.ne_of_gt (Nat.lt_of_lt_of_le I.lt hb), I.nofs hb, .inr (Nat.le_trans I.sz hb), fun x c e z => ?_, fun p hp z => ?_⟩
  · obtain ⟨v, q⟩ := I.cell x c e
    exact absurd (Nat.lt_of_lt_of_le q.lt (by rw [z]; exact hb)) (Nat.lt_irrefl _)
  · exact absurd (Nat.lt_of_lt_of_le (Heap.lt_size (I.pin p hp).1) (by rw [z]; exact hb)) (Nat.lt_irrefl _)
structure Turn (P : Program) (w : World) (K : PySem.W.Frag) (tg : Expr) (J : It) (fp : List Addr) (it : Addr) (tn : Nat → Heap → Prop) : Prop where
  mem : it ∈ fp
  obj : ∀ i h, tn i h → ∀ b ∈ fp, ∃ o, h.get? b = some o ∧ ∀ v, o.data ≠ .cell v
  keep : ∀ i h h', tn i h → (∀ b ∈ fp, ∀ o, h.get? b = some o → h'.get? b = some o) → tn i h'
  item : ∀ (X : Cx), X.prog = P → X.w = w → X.K = K → X.calm = true → ∀ (i : Nat) (pins : List (Addr × Obj)) (s : Shared) (σ : St) (H : Hp) (E : Value → Shared → Prop), Inv X pins σ H s → (∀ b ∈ fp, FpOk X pins H b) → tn i s.heap → J.go i H →
    wpAny (model P w) X.A (pyNext (.ref it)) (fun r s1 => ∃ u, r = some u ∧
      wpAny (model P w) X.A (letOwnedTupleGo tg (.ref it) u) (fun _ s2 => ∃ x H', Inv X pins σ H' s2 ∧ RelV x u ∧ J.yld i H x H' ∧ tn (i + 1) s2.heap ∧ ∀ b ∈ fp, H' b = none) E s1) E s
  done : ∀ (X : Cx), X.prog = P → X.w = w → X.K = K → X.calm = true → ∀ (i : Nat) (pins : List (Addr × Obj)) (s : Shared) (σ : St) (H : Hp) (E : Value → Shared → Prop), Inv X pins σ H s → (∀ b ∈ fp, FpOk X pins H b) → tn i s.heap → J.stop i H →
    wpAny (model P w) X.A (pyNext (.ref it)) (fun r s1 => r = none ∧ Inv X pins σ H s1) E s
  self : ∀ (A : Around) (i : Nat) (s : Shared) (Q : Value → Shared → Prop) (E : Value → Shared → Prop), tn i s.heap → Q (.ref it) s → wpAny (model P w) A (pyIter (.ref it)) Q E s
abbrev TI := St → Hp → (It → Hp → Prop) → Prop
/-- an iterator has come -/
def PIE (X : Cx) (pins : List (Addr × Obj)) (σ : St) (tg : Expr) (R : It → Hp → Prop) (itv : Value) (s2 : Shared) : Prop :=
  ∃ (it : Addr) (fp : List Addr) (tn : Nat → Heap → Prop) (J : It) (H' : Hp), itv = .ref it ∧ Inv X pins σ H' s2 ∧ Turn X.prog X.w X.K tg J fp it tn ∧ tn 0 s2.heap ∧ (∀ b ∈ fp, FpOk X pins H' b) ∧ R J H'
def PI (X : Cx) (tg iter : Expr) (wi : TI) : Prop :=
  ∀ (pins : List (Addr × Obj)) (s : Shared) (σ : St) (H : Hp) (R : It → Hp → Prop), Inv X pins σ H s → wi σ H R →
    wpAny (model X.prog X.w) X.A (eval iter X.env) (fun v s1 => wpAny (model X.prog X.w) X.A (pyIter v) (PIE X pins σ tg R) X.xe s1) X.xe s
/-- the step ahead of the store is nothing for an iterator that keeps no tuple -/
theorem go_of {M : Model} {A : Around} {E : Value → Shared → Prop} {s : Shared} {tg : Expr} {it : Addr} {u : Value} {o : Obj} {n : String} {vs : Array Value} {Q : Unit → Shared → Prop} (ho : s.heap.get? it = some o) (hc : o.cls = .type n) (hd : o.data = .fields vs)
    (hn : ["enumerate", "zip", "dict_itemiterator", "dict_reverseitemiterator", "odict_iterator", "itertools.zip_longest", "itertools.pairwise"].contains n = false) (hQ : Q () s) : wpAny M A (letOwnedTupleGo tg (.ref it) u) Q E s := by
  unfold letOwnedTupleGo
  cases tg <;> first
    | exact wpAny_pure hQ
    | (cases u <;> first
        | exact wpAny_pure hQ
        | (refine wpAny_bind (wpAny_load ho ?_)
           rw [hc, hd]
           show wpAny M A (if (["enumerate", "zip", "dict_itemiterator", "dict_reverseitemiterator", "odict_iterator", "itertools.zip_longest", "itertools.pairwise"].contains n && vs[0]? == some (rawInt _)) = true then _ else _) Q E s
           rw [if_neg (by intro h; rw [hn, Bool.false_and] at h; cases h)]
           exact wpAny_pure hQ))
/-- the list at a, as it stands at each turn (a loop may append to it) -/
def Itl (K : PySem.W.Frag) (a : Addr) : It :=
  ⟨fun i H => ∃ xs x, SqL K H a xs ∧ xs[i]? = some x, fun i H x H' => H' = H ∧ ∀ xs, SqL K H a xs → xs[i]? = some x, fun i H => ∃ xs, SqL K H a xs ∧ xs.length ≤ i⟩
def Itt (K : PySem.W.Frag) (a : Addr) : It :=
  ⟨fun i H => ∃ xs x, SqT K H a xs ∧ xs[i]? = some x, fun i H x H' => H' = H ∧ ∀ xs, SqT K H a xs → xs[i]? = some x, fun i H => ∃ xs, SqT K H a xs ∧ xs.length ≤ i⟩
/-- lo, lo + 1, .. (n of them) -/
def Itr (lo : Int) (n : Nat) : It := ⟨fun i _ => i < n, fun i H x H' => H' = H ∧ x = .int (lo + i), fun i _ => n ≤ i⟩
theorem turn_list {P : Program} {w : World} {K : PySem.W.Frag} {tg : Expr} (a it : Addr) : Turn P w K tg (Itl K a) [it] it (fun i h => h.IsListIter it a i) where
  mem := by simp
  obj := fun i h st b hb => by
    have e : b = it := by simpa using hb
    subst e
    obtain ⟨o, e, c, d⟩ := st
    exact ⟨o, e, fun v z => by rw [d] at z; cases z⟩
  keep := fun i h h' st k => st.at fun o e => k it (by simp) o e
  item := by
    intro X hP hw hK hc i pins s σ H E I hf st hg
    subst hP hw hK
    obtain ⟨xs, x, hq, hx⟩ := hg
    obtain ⟨its, rv, p, hz⟩ := I.list hq
    obtain ⟨u, hu, ru⟩ := rv.get hx
    obtain ⟨f0, f1, f2, f3, f4, f5⟩ := hf it (by simp)
    refine wpAny_pyNext_list_item st p.isList (x := u) (by simpa using hu) fun h' st' sb => ?_
    have I1 : Inv X pins σ H { s with heap := h' } := I.turned (t' := s.toks) (fun b o hb e => (sb.2 b hb).trans e) f0 f1 f3 f4 f5
    obtain ⟨o, e, c, d⟩ := id st'
    exact ⟨u, rfl, go_of (s := { s with heap := h' }) e c d (by decide) ⟨x, H, I1, ru, ⟨rfl, fun ys hy => by rw [I.list_inj hy hq]; exact hx⟩, st', fun b hb => (hf b hb).1⟩⟩
  done := by
    intro X hP hw hK hc i pins s σ H E I hf st hg
    subst hP hw hK
    obtain ⟨xs, hq, hx⟩ := hg
    obtain ⟨its, rv, p, hz⟩ := I.list hq
    obtain ⟨f0, f1, f2, f3, f4, f5⟩ := hf it (by simp)
    have hl := rv.length
    exact wpAny_pyNext_list_end (I.ok.hd hc) st p.isList (by simp; omega) fun h' eb => ⟨rfl, I.turned (t' := s.toks) (fun b o hb e => eb b o hb e) f0 f1 f3 f4 f5⟩
  self := fun _ _ _ _ _ st h => wpAny_pyIter_listiter st h
theorem turn_range {P : Program} {w : World} {K : PySem.W.Frag} {tg : Expr} (it : Addr) (lo : Int) (n : Nat) : Turn P w K tg (Itr lo n) [it] it (fun i h => IsRangeIter h it (lo + (i : Nat) * 1) ((n : Int) - (i : Nat)) 1) where
  mem := by simp
  obj := fun i h st b hb => by
    have e : b = it := by simpa using hb
    subst e
    exact ⟨_, st, fun v z => by
      have z' : Data.fields _ = Data.cell v := z
      cases z'⟩
  keep := fun i h h' st k => k it (by simp) _ st
  item := by
    intro X hP hw hK hc i pins s σ H E I hf st hg
    subst hP hw hK
    obtain ⟨f0, f1, f2, f3, f4, f5⟩ := hf it (by simp)
    have W := Walks.range (prog := X.prog) (w := X.w) (I.ok.hd hc) it lo 1 n
    refine W.item i s _ _ hg st fun v h' tk hv st' kk => ?_
    obtain ⟨t, rfl⟩ := hv
    have I1 : Inv X pins σ H { s with heap := h', toks := tk } := I.turned (fun b o hb e => kk b o (by simpa using hb) e) f0 f1 f3 f4 f5
    refine ⟨_, rfl, go_of (s := { s with heap := h', toks := tk }) (n := "range_iterator") st' rfl rfl (by decide) ⟨.int (lo + i), H, I1, ⟨t, ?_⟩, ⟨rfl, rfl⟩, st', fun b hb => (hf b hb).1⟩⟩
    rw [Int.mul_one]
  done := by
    intro X hP hw hK hc i pins s σ H E I hf st hg
    subst hP hw hK
    obtain ⟨f0, f1, f2, f3, f4, f5⟩ := hf it (by simp)
    exact wpAny_pyNext_range_end (I.ok.hd hc) st (by have : n ≤ i := hg; omega) fun h' eb => ⟨rfl, I.turned (t' := s.toks) (fun b o hb e => eb b o hb e) f0 f1 f3 f4 f5⟩
  self := fun _ _ _ _ _ st h => wpAny_pyIter_rangeiter st h
end L2
namespace L2
open PySem PySem.Spec PyProof.Rows
section
variable {X : Cx} {tg : Expr}
def iList (K : PySem.W.Frag) (tl : TE) : TI := fun σ H R => tl σ H fun x H1 => ∃ a, x = .ref a ∧ (∃ xs, SqL K H1 a xs) ∧ R (Itl K a) H1
def iTup (K : PySem.W.Frag) (tl : TE) : TI := fun σ H R => tl σ H fun x H1 => ∃ a, x = .ref a ∧ (∃ xs, SqT K H1 a xs) ∧ R (Itt K a) H1
theorem pi_list {l : Expr} {tl : TE} (hl : PE X l tl) : PI X tg l (iList X.K tl) := by
  intro pins s σ H R I h
  refine thn (hl pins s σ H _ I h) fun v s1 ⟨x, H1, I1, r1, q1⟩ => ?_
  obtain ⟨a, e, ⟨xs, hq⟩, q⟩ := q1
  subst e
  cases r1
  obtain ⟨its, rv, p, hz⟩ := I1.list hq
  refine wpAny_pyIter_list p.isList ?_
  refine ⟨s1.heap.objs.size, [s1.heap.objs.size], _, _, H1, rfl, I1.kept (t' := s1.toks) fun b o e => Heap.get?_push_of_some _ e, turn_list a _, ⟨_, Heap.get?_push_size _ rfl, rfl, rfl⟩, fun b hb => ?_, q⟩
  have e : b = s1.heap.objs.size := by simpa using hb
  subst e
  exact I1.fpOk (Nat.le_refl _) (I1.hok.fresh (Nat.le_refl _))
/-- a range object just made, walked -/
theorem range_it {pins : List (Addr × Obj)} {σ : St} {H : Hp} {s : Shared} {R : It → Hp → Prop} {E : Value → Shared → Prop} {lo hi : Int} {t u v : Tok} {tk : Nat} (I : Inv X pins σ H s) (h1 : -(2 ^ 62) ≤ lo) (h2 : lo < 2 ^ 62) (h3 : -(2 ^ 62) ≤ hi) (h4 : hi < 2 ^ 62)
    (q : R (Itr lo (hi - lo).toNat) H) : wpAny (model X.prog X.w) X.A (pyIter (.ref s.heap.objs.size)) (PIE X pins σ tg R) E { s with heap := s.heap.push { cls := .type "range", data := .fields #[.int lo t, .int hi u, .int 1 v] }, toks := tk } := by
  refine wpAny_pyIter_range (IsRange.new ..) (small_one h1 h2 h3 h4) ?_
  have I1 : Inv X pins σ H { s with heap := s.heap.push { cls := .type "range", data := .fields #[.int lo t, .int hi u, .int 1 v] }, toks := tk } := I.kept fun b o e => Heap.get?_push_of_some _ e
  refine ⟨(s.heap.push { cls := .type "range", data := .fields #[.int lo t, .int hi u, .int 1 v] }).objs.size, [(s.heap.push { cls := .type "range", data := .fields #[.int lo t, .int hi u, .int 1 v] }).objs.size], _, _, H, rfl,
    I1.kept (t' := tk) fun b o e => Heap.get?_push_of_some _ e, turn_range _ lo (hi - lo).toNat, ?_, fun b hb => ?_, q⟩
  · have e1 : lo + ((0 : Nat) : Int) * 1 = lo := by simp
    have e2 : (((hi - lo).toNat : Nat) : Int) - ((0 : Nat) : Int) = Builtin.Range.rangeSize lo hi 1 := by rw [rangeSize_one]; split <;> omega
    show IsRangeIter _ _ (lo + ((0 : Nat) : Int) * 1) ((((hi - lo).toNat : Nat) : Int) - ((0 : Nat) : Int)) 1
    rw [e1, e2]
    exact Heap.get?_push_size _ rfl
  · have e : b = (s.heap.push { cls := .type "range", data := .fields #[.int lo t, .int hi u, .int 1 v] }).objs.size := by simpa using hb
    subst e
    exact I1.fpOk (Nat.le_refl _) (I1.hok.fresh (Nat.le_refl _))
def iRng1 (ta : TA) : TI := fun σ H R => ta σ H fun vs H1 => ∃ j : Int, vs = [.int j] ∧ -(2 ^ 62) ≤ j ∧ j < 2 ^ 62 ∧ R (Itr 0 j.toNat) H1
def iRng2 (ta : TA) : TI := fun σ H R => ta σ H fun vs H1 => ∃ i j : Int, vs = [.int i, .int j] ∧ (-(2 ^ 62) ≤ i ∧ i < 2 ^ 62 ∧ -(2 ^ 62) ≤ j ∧ j < 2 ^ 62) ∧ R (Itr i (j - i).toNat) H1
theorem pi_range1 {a : Expr} {ta : TA} {p pos : Pos} (hg : Gl X "range") (hm : X.mg "range" = none) (ha : PA X [a] ta) (hs : starEach [a] X.env = [(false, eval a X.env)] := by rfl) : PI X tg (.Call (.Name "range" p) [a] [] pos) (iRng1 ta) := by
  intro pins s σ H R I h
  refine Call_ (ld_blt I hg hm boot_range (PyProof.Rows.callWith_type1 (thn (ha pos pins s σ H _ I h) fun us s1 ⟨vs, H1, I1, r1, q1⟩ => ?_) hs rfl))
  obtain ⟨j, e, q1, q2, q⟩ := q1
  subst e
  cases r1 with
  | cons r rr =>
    cases rr
    obtain ⟨t, rfl⟩ := r
    exact call_range_1 (range_it I1 (by omega) (by omega) q1 q2 (by simpa using q))
theorem pi_range2 {a b : Expr} {ta : TA} {p pos : Pos} (hg : Gl X "range") (hm : X.mg "range" = none) (ha : PA X [a, b] ta) (hs : starEach [a, b] X.env = [(false, eval a X.env), (false, eval b X.env)] := by rfl) (hs2 : starEach [b] X.env = [(false, eval b X.env)] := by rfl) :
    PI X tg (.Call (.Name "range" p) [a, b] [] pos) (iRng2 ta) := by
  intro pins s σ H R I h
  refine Call_ (ld_blt I hg hm boot_range (PyProof.Rows.callWith_type1 (thn (ha pos pins s σ H _ I h) fun us s1 ⟨vs, H1, I1, r1, q1⟩ => ?_) (by rw [hs, hs2]) (by rw [hs2]; rfl)))
  obtain ⟨i, j, e, ⟨q1, q2, q3, q4⟩, q⟩ := q1
  subst e
  cases r1 with
  | cons r rr =>
    cases rr with
    | cons r' rr =>
      cases rr
      obtain ⟨t, rfl⟩ := r
      obtain ⟨t', rfl⟩ := r'
      exact call_range_2 (range_it I1 q1 q2 q3 q4 q)
/-- W: the invariant by the turn and a measure; N: what the body is to reach -/
def tFor (wi : TI) (g : TG) (tb : TS) : TS := fun D σ H => wi σ H fun J H1 => ∃ W : Nat → Nat → St → Hp → Prop, (∃ m, W 0 m σ H1) ∧ ∀ i m σ H, W i m σ H →
  (J.stop i H ∧ D.nx σ H) ∨ (J.go i H ∧ ∃ N : St → Hp → Prop, (∀ σ' H', N σ' H' → ∃ m', m' < m ∧ W (i + 1) m' σ' H') ∧ ∀ x H', J.yld i H x H' → g x σ H' fun σ2 H2 => tb { D with nx := N, ct := N, bk := D.nx } σ2 H2)
/-- the records at fp as they stand -/
def pinsAt (fp : List Addr) (h : Heap) : List (Addr × Obj) := fp.filterMap fun b => (h.get? b).map fun o => (b, o)
theorem mem_pinsAt {fp : List Addr} {h : Heap} {b : Addr} {o : Obj} (hb : b ∈ fp) (e : h.get? b = some o) : (b, o) ∈ pinsAt fp h := List.mem_filterMap.mpr ⟨b, hb, by rw [e]; rfl⟩
theorem of_pinsAt {fp : List Addr} {h : Heap} {p : Addr × Obj} (hp : p ∈ pinsAt fp h) : p.1 ∈ fp ∧ h.get? p.1 = some p.2 := by
  obtain ⟨b, hb, e⟩ := List.mem_filterMap.mp hp
  cases q : h.get? b with
  | none => rw [q] at e; cases e
  | some o =>
    rw [q] at e
    have e' : (b, o) = p := Option.some.inj e
    subst e'
    exact ⟨hb, q⟩
theorem Inv.pinned {pins : List (Addr × Obj)} {σ : St} {H : Hp} {s : Shared} {fp : List Addr} (I : Inv X pins σ H s) (hf : ∀ b ∈ fp, FpOk X pins H b) (ho : ∀ b ∈ fp, ∃ o, s.heap.get? b = some o ∧ ∀ v, o.data ≠ .cell v) : Inv X (pins ++ pinsAt fp s.heap) σ H s :=
  I.pins_of fun p hp => (List.mem_append.mp hp).elim (fun z => I.pin p (List.mem_append_right _ z)) fun z => by
    obtain ⟨hb, e⟩ := of_pinsAt z
    obtain ⟨f0, f1, f2, _⟩ := hf p.1 hb
    obtain ⟨o, e', d⟩ := ho p.1 hb
    rw [e] at e'; cases e'
    exact ⟨e, f0, f1, f2, d⟩
theorem Inv.unpinned {pins pl : List (Addr × Obj)} {σ : St} {H : Hp} {s : Shared} (I : Inv X (pins ++ pl) σ H s) : Inv X pins σ H s := I.pins_of fun p hp => I.pin p (List.mem_append_right _ (List.mem_append_left _ hp))
theorem ps_for {iter : Expr} {body : List Stmt} {wi : TI} {g : TG} {tb : TS} {pos : Pos} (hp : PassesOwn (model X.prog X.w) X.A X.env X.xe) (hc : X.calm = true) (hi : PI X tg iter wi) (hg : PG X tg g) (hb : PSs X body tb)
    (hs : ∀ x, foldedSetIterable iter X.env x = pure x := by intro _; rfl) : PS X (.For tg iter body [] pos) (tFor wi g tb) := by
  intro pins s σ H D I h
  refine wpAny_For (thn (hi pins s σ H _ I h) fun v s1 h1 => thn h1 fun itv s2 h2 => ?_) hs
  obtain ⟨it, fp, tn, J, H2, e, I2, T, st2, f2, W, ⟨m0, w0⟩, turn⟩ := h2
  subst e
  -- what stays true of the iterator's objects through the loop
  have stat : ∀ {H' : Hp}, (∀ b ∈ fp, H' b = none) → ∀ b ∈ fp, FpOk X pins H' b := fun hn b hb => ⟨hn b hb, (f2 b hb).2⟩
  refine codeAny_forLoop_any (fun n s' => ∃ i σ' H', Inv X pins σ' H' s' ∧ tn i s'.heap ∧ (∀ b ∈ fp, H' b = none) ∧ W i n σ' H') ?_ m0 ⟨0, σ, H2, I2, st2, fun b hb => (f2 b hb).1, w0⟩
  rintro n s3 ⟨i, σ3, H3, I3, st3, fr3, w3⟩
  rcases turn i n σ3 H3 w3 with ⟨stop, qn⟩ | ⟨go, N, hN, step⟩
  · refine wpAny_passesOwn hp (thn (T.done X rfl rfl rfl hc i pins s3 σ3 H3 X.xe I3 (stat fr3) st3 stop) fun r s4 ⟨hr, I4⟩ => ?_)
    subst hr
    exact wpAny_execs_nil ⟨σ3, H3, I4, qn⟩
  · refine wpAny_passesOwn hp (thn (T.item X rfl rfl rfl hc i pins s3 σ3 H3 X.xe I3 (stat fr3) st3 go) fun r s4 ⟨u, hr, h4⟩ => ?_)
    subst hr
    refine wpAny_passesOwn hp (thn h4 fun _ s5 ⟨x, H5, I5, r5, y5, st5, fr5⟩ => ?_)
    have I5' := I5.pinned (stat fr5) (T.obj _ _ st5)
    refine wpAny_passesOwn hp (thn (hg _ s5 σ3 H5 x u _ I5' r5 (step x H5 y5)) fun _ s6 ⟨σ6, H6, I6, q6⟩ => ?_)
    refine wpAny_passesOwn hp (thn (hb _ s6 σ6 H6 _ I6 q6) fun f s7 q7 => ?_)
    have again : ∀ {σ7 : St} {H7 : Hp}, Inv X (pins ++ pinsAt fp s5.heap) σ7 H7 s7 → N σ7 H7 → ∃ m, m < n ∧ ∃ i σ' H', Inv X pins σ' H' s7 ∧ tn i s7.heap ∧ (∀ b ∈ fp, H' b = none) ∧ W i m σ' H' := fun {σ7 H7} I7 n7 => by
      obtain ⟨m', hm, w7⟩ := hN σ7 H7 n7
      refine ⟨m', hm, i + 1, σ7, H7, I7.unpinned, T.keep _ _ _ st5 fun b hb o e => (I7.pin (b, o) (List.mem_append_right _ (List.mem_append_right _ (mem_pinsAt hb e)))).1, fun b hb => ?_, w7⟩
      obtain ⟨o, e, d⟩ := T.obj _ _ st5 b hb
      exact (I7.pin (b, o) (List.mem_append_right _ (List.mem_append_right _ (mem_pinsAt hb e)))).2.1
    cases f with
    | next => obtain ⟨σ7, H7, I7, n7⟩ := q7; exact again I7 n7
    | cont => obtain ⟨σ7, H7, I7, n7⟩ := q7; exact again I7 n7
    | brk => obtain ⟨σ7, H7, I7, q7⟩ := q7; exact ⟨σ7, H7, I7.unpinned, q7⟩
    | ret v => obtain ⟨x7, σ7, H7, I7, r7, q7⟩ := q7; exact ⟨x7, σ7, H7, I7.unpinned, r7, q7⟩
end
/-- over a list that the body leaves as it is -/
theorem for_list {K : PySem.W.Frag} {a : Addr} {xs : List V} {g : TG} {tb : TS} {D : Ends} {σ : St} {H : Hp} (Pv : Nat → St → Hp → Prop) (h0 : Pv 0 σ H) (hl : ∀ i σ H, i ≤ xs.length → Pv i σ H → SqL K H a xs)
    (hs : ∀ i x σ H, xs[i]? = some x → Pv i σ H → g x σ H fun σ2 H2 => tb { D with nx := Pv (i + 1), ct := Pv (i + 1), bk := D.nx } σ2 H2) (hd : ∀ σ H, Pv xs.length σ H → D.nx σ H) :
    ∃ W : Nat → Nat → St → Hp → Prop, (∃ m, W 0 m σ H) ∧ ∀ i m σ H, W i m σ H →
      ((Itl K a).stop i H ∧ D.nx σ H) ∨ ((Itl K a).go i H ∧ ∃ N : St → Hp → Prop, (∀ σ' H', N σ' H' → ∃ m', m' < m ∧ W (i + 1) m' σ' H') ∧ ∀ x H', (Itl K a).yld i H x H' → g x σ H' fun σ2 H2 => tb { D with nx := N, ct := N, bk := D.nx } σ2 H2) := by
  refine ⟨fun i m σ H => m = xs.length - i ∧ i ≤ xs.length ∧ Pv i σ H, ⟨xs.length, by simp, Nat.zero_le _, h0⟩, ?_⟩
  rintro i m σ H ⟨rfl, hi, p⟩
  have q := hl i σ H hi p
  by_cases hlt : i < xs.length
  · refine .inr ⟨⟨xs, xs[i], q, by simp [hlt]⟩, Pv (i + 1), fun σ' H' p' => ⟨xs.length - (i + 1), by omega, rfl, hlt, p'⟩, fun x H' y => ?_⟩
    obtain ⟨e, y⟩ := y
    subst e
    exact hs i x σ _ (y xs q) p
  · have e : i = xs.length := by omega
    subst e
    exact .inl ⟨⟨xs, q, Nat.le_refl _⟩, hd σ H p⟩
theorem for_range {lo : Int} {n : Nat} {g : TG} {tb : TS} {D : Ends} {σ : St} {H : Hp} (Pv : Nat → St → Hp → Prop) (h0 : Pv 0 σ H)
    (hs : ∀ i σ H, i < n → Pv i σ H → g (.int (lo + i)) σ H fun σ2 H2 => tb { D with nx := Pv (i + 1), ct := Pv (i + 1), bk := D.nx } σ2 H2) (hd : ∀ σ H, Pv n σ H → D.nx σ H) :
    ∃ W : Nat → Nat → St → Hp → Prop, (∃ m, W 0 m σ H) ∧ ∀ i m σ H, W i m σ H →
      ((Itr lo n).stop i H ∧ D.nx σ H) ∨ ((Itr lo n).go i H ∧ ∃ N : St → Hp → Prop, (∀ σ' H', N σ' H' → ∃ m', m' < m ∧ W (i + 1) m' σ' H') ∧ ∀ x H', (Itr lo n).yld i H x H' → g x σ H' fun σ2 H2 => tb { D with nx := N, ct := N, bk := D.nx } σ2 H2) := by
  refine ⟨fun i m σ H => m = n - i ∧ i ≤ n ∧ Pv i σ H, ⟨n, by simp, Nat.zero_le _, h0⟩, ?_⟩
  rintro i m σ H ⟨rfl, hi, p⟩
  by_cases hlt : i < n
  · refine .inr ⟨hlt, Pv (i + 1), fun σ' H' p' => ⟨n - (i + 1), by omega, rfl, hlt, p'⟩, fun x H' y => ?_⟩
    obtain ⟨e, y⟩ := y
    subst e y
    exact hs i σ _ hlt p
  · have e : i = n := by omega
    subst e
    exact .inl ⟨Nat.le_refl _, hd σ H p⟩
end L2
namespace L2
open PySem PySem.Spec PyProof.Rows
abbrev R2 := V → V → Hp → VK → Prop
/-- a two-place operation on values: f is binaryOp op, inplaceOp op or compareOp op -/
def OpR (X : Cx) (f : Value → Value → Sem Value) (r : R2) : Prop :=
  ∀ (pins : List (Addr × Obj)) (s : Shared) (σ : St) (H : Hp) (x y : V) (v u : Value) (Q : VK), Inv X pins σ H s → RelV x v → RelV y u → r x y H Q →
    wpAny (model X.prog X.w) X.A (f v u) (EP X pins σ Q) X.xe s
/-- a one-place operation -/
def UnR (X : Cx) (f : Value → Sem Value) (r : V → Hp → VK → Prop) : Prop :=
  ∀ (pins : List (Addr × Obj)) (s : Shared) (σ : St) (H : Hp) (x : V) (v : Value) (Q : VK), Inv X pins σ H s → RelV x v → r x H Q →
    wpAny (model X.prog X.w) X.A (f v) (EP X pins σ Q) X.xe s
/-- a call of a value that is known (a builtin, a type) with values -/
def CallR (X : Cx) (f : Value) (r : List V → Hp → VK → Prop) : Prop :=
  ∀ (pins : List (Addr × Obj)) (s : Shared) (σ : St) (H : Hp) (xs : List V) (us : List Value) (Q : VK), Inv X pins σ H s → Vals xs us → r xs H Q →
    wpAny (model X.prog X.w) X.A (call f us) (EP X pins σ Q) X.xe s
def tOp (r : R2) (ta tb : TE) : TE := fun σ H Q => ta σ H fun x H1 => tb σ H1 fun y H2 => r x y H2 Q
def tUn (r : V → Hp → VK → Prop) (ta : TE) : TE := fun σ H Q => ta σ H fun x H1 => r x H1 Q
/-- ints in, under C, and a value out -/
def rI (C : Int → Int → Prop) (g : Int → Int → V) : R2 := fun x y H Q => ∃ i j, x = .int i ∧ y = .int j ∧ C i j ∧ Q (g i j) H
def rI0 (g : Int → Int → V) : R2 := fun x y H Q => ∃ i j, x = .int i ∧ y = .int j ∧ Q (g i j) H
def rU (g : Int → V) : V → Hp → VK → Prop := fun x H Q => ∃ i, x = .int i ∧ Q (g i) H
section
variable {X : Cx} {a b c : Expr} {ta tb tc : TE} {pos : Pos}
theorem binT (ha : PE X a ta) (hb : PE X b tb) {pins : List (Addr × Obj)} {s : Shared} {σ : St} {H : Hp} {R : V → V → Hp → Prop} (I : Inv X pins σ H s)
    (h : ta σ H fun x H1 => tb σ H1 fun y H2 => R x y H2) {Q : Value → Shared → Prop} {f : Value → Value → Sem Value}
    (hf : ∀ v u s2 x y H2, Inv X pins σ H2 s2 → RelV x v → RelV y u → R x y H2 → wpAny (model X.prog X.w) X.A (f v u) Q X.xe s2) :
    wpAny (model X.prog X.w) X.A (eval a X.env) (fun v s₁ => wpAny (model X.prog X.w) X.A (eval b X.env) (fun u s₂ => wpAny (model X.prog X.w) X.A (f v u) Q X.xe s₂) X.xe s₁) X.xe s := by
  refine thn (ha pins s σ H _ I h) fun v s1 ⟨x, H1, I1, r1, q1⟩ => ?_
  refine thn (hb pins s1 σ H1 _ I1 q1) fun u s2 ⟨y, H2, I2, r2, q2⟩ => ?_
  exact hf v u s2 x y H2 I2 r1 r2 q2
theorem pe_op {op : Operator} {r : R2} (ho : OpR X (binaryOp op) r) (ha : PE X a ta) (hb : PE X b tb) : PE X (.BinOp a op b pos) (tOp r ta tb) := by
  intro pins s σ H Q I h
  exact wpAny_BinOp (binT ha hb I h fun v u s2 x y H2 I2 rx ry q => ho pins s2 σ H2 x y v u Q I2 rx ry q)
theorem pe_un {op : UnaryOp} {r : V → Hp → VK → Prop} (ho : UnR X (unaryOp op) r) (ha : PE X a ta) : PE X (.UnaryOp op a pos) (tUn r ta) := by
  intro pins s σ H Q I h
  exact UnaryOp_ (thn (ha pins s σ H _ I h) fun v s1 ⟨x, H1, I1, r1, q1⟩ => ho pins s1 σ H1 x v Q I1 r1 q1)
theorem opI {f : Value → Value → Sem Value} {C : Int → Int → Prop} {g : Int → Int → Int}
    (rule : ∀ (i j : Int) (t u : Tok) (s : Shared) (Q : Value → Shared → Prop) (E : Value → Shared → Prop), C i j → Q (.int (g i j) s.toks) { s with toks := s.toks + 1 } → wpAny (model X.prog X.w) X.A (f (.int i t) (.int j u)) Q E s) :
    OpR X f (rI C fun i j => .int (g i j)) := by
  intro pins s σ H x y v u Q I rx ry h
  obtain ⟨i, j, rfl, rfl, hc, q⟩ := h
  obtain ⟨t, rfl⟩ := rx
  obtain ⟨t', rfl⟩ := ry
  exact rule i j t t' s _ _ hc ⟨.int (g i j), H, I.tok _, ⟨_, rfl⟩, q⟩
theorem opI0 {f : Value → Value → Sem Value} {g : Int → Int → Int}
    (rule : ∀ (i j : Int) (t u : Tok) (s : Shared) (Q : Value → Shared → Prop) (E : Value → Shared → Prop), Q (.int (g i j) s.toks) { s with toks := s.toks + 1 } → wpAny (model X.prog X.w) X.A (f (.int i t) (.int j u)) Q E s) :
    OpR X f (rI0 fun i j => .int (g i j)) := by
  intro pins s σ H x y v u Q I rx ry h
  obtain ⟨i, j, rfl, rfl, q⟩ := h
  obtain ⟨t, rfl⟩ := rx
  obtain ⟨t', rfl⟩ := ry
  exact rule i j t t' s _ _ ⟨.int (g i j), H, I.tok _, ⟨_, rfl⟩, q⟩
theorem opB0 {f : Value → Value → Sem Value} {g : Int → Int → Bool}
    (rule : ∀ (i j : Int) (t u : Tok) (s : Shared) (Q : Value → Shared → Prop) (E : Value → Shared → Prop), Q (.bool (g i j)) s → wpAny (model X.prog X.w) X.A (f (.int i t) (.int j u)) Q E s) :
    OpR X f (rI0 fun i j => .bl (g i j)) := by
  intro pins s σ H x y v u Q I rx ry h
  obtain ⟨i, j, rfl, rfl, q⟩ := h
  obtain ⟨t, rfl⟩ := rx
  obtain ⟨t', rfl⟩ := ry
  exact rule i j t t' s _ _ ⟨.bl (g i j), H, I, rfl, q⟩
def CDiv (i j : Int) : Prop := 0 < j ∧ j < 1073741824
def CPow (i j : Int) : Prop := 0 ≤ j ∧ j ≤ 1000000 ∧ i.natAbs < 2 ^ 64
def CMul (i j : Int) : Prop := (-(2 ^ 64) < i ∧ i < 2 ^ 64) ∨ (-(2 ^ 64) < j ∧ j < 2 ^ 64)
theorem CMul.ok {i j : Int} (h : CMul i j) : IntMulOk i j := by
  rcases h with ⟨h1, h2⟩ | ⟨h1, h2⟩
  · exact .of_left (intBits_le_64 h1 h2)
  · exact .of_right (intBits_le_64 h1 h2)
theorem op_add : OpR X (binaryOp .Add) (rI0 fun i j => .int (i + j)) := opI0 fun _ _ _ _ _ _ _ q => add_int q
theorem op_sub : OpR X (binaryOp .Sub) (rI0 fun i j => .int (i - j)) := opI0 fun _ _ _ _ _ _ _ q => sub_int q
theorem op_mul : OpR X (binaryOp .Mult) (rI CMul fun i j => .int (i * j)) := opI fun _ _ _ _ _ _ _ hc q => mul_int q hc.ok
/-- // by a positive divisor -/
theorem op_fdiv : OpR X (binaryOp .FloorDiv) (rI CDiv fun i j => .int (i / j)) := opI fun i j _ _ _ _ _ hc q => by
  have h1 : (0 : Int) < j := hc.1
  have h2 : j < 1073741824 := hc.2
  exact floordiv_int (by omega) (by rw [Int.fdiv_eq_ediv_of_nonneg i (by omega)]; exact q) (.inl (PyProof.noPylong_small (by omega)))
/-- % by a positive divisor of any size -/
theorem op_mod : OpR X (binaryOp .Mod) (rI (fun _ j => 0 < j) fun i j => .int (i % j)) := opI fun i j _ _ _ _ _ hc q => by
  have h1 : (0 : Int) < j := hc
  exact mod_int' (by omega) (by rw [Int.fmod_eq_emod_of_nonneg i (by omega)]; exact q)
theorem op_pow : OpR X (binaryOp .Pow) (rI CPow fun i j => .int (i ^ j.toNat)) := opI fun _ _ _ _ _ _ _ hc q => pow_int_small hc.1 hc.2.1 hc.2.2 q
theorem iop_add : OpR X (inplaceOp .Add) (rI0 fun i j => .int (i + j)) := opI0 fun _ _ _ _ _ _ _ q => iadd_int q
theorem unI {f : Value → Sem Value} {g : Int → Int}
    (rule : ∀ (i : Int) (t : Tok) (s : Shared) (Q : Value → Shared → Prop) (E : Value → Shared → Prop), Q (.int (g i) s.toks) { s with toks := s.toks + 1 } → wpAny (model X.prog X.w) X.A (f (.int i t)) Q E s) :
    UnR X f (rU fun i => .int (g i)) := by
  intro pins s σ H x v Q I rx h
  obtain ⟨i, rfl, q⟩ := h
  obtain ⟨t, rfl⟩ := rx
  exact rule i t s _ _ ⟨.int (g i), H, I.tok _, ⟨_, rfl⟩, q⟩
theorem un_neg : UnR X (unaryOp .USub) (rU fun i => .int (-i)) := unI fun _ _ _ _ _ q => neg_int q
end
/-- the scalars that == tells apart as data does -/
def scal : V → V → Bool
  | .non, .non => true | .non, .int _ => true | .int _, .non => true | .non, .bl _ => true | .bl _, .non => true | .non, .str _ => true | .str _, .non => true
  | .int _, .int _ => true | .bl _, .bl _ => true | .str _, .str _ => true | .byt _, .byt _ => true
  | .int _, .str _ => true | .str _, .int _ => true | .bl _, .str _ => true | .str _, .bl _ => true
  | _, _ => false
def rEq : R2 := fun x y H Q => scal x y = true ∧ Q (.bl (decide (x = y))) H
def rNe : R2 := fun x y H Q => scal x y = true ∧ Q (.bl (!decide (x = y))) H
theorem dec_int {i j : Int} : decide (V.int i = V.int j) = (i == j) := by
  rw [Bool.eq_iff_iff]
  simp
theorem dec_bl {i j : Bool} : decide (V.bl i = V.bl j) = (i == j) := by
  rw [Bool.eq_iff_iff]
  simp
theorem dec_str {i j : Str} : decide (V.str i = V.str j) = (i == j) := by
  rw [Bool.eq_iff_iff]
  simp
theorem dec_byt {i j : Array UInt8} : decide (V.byt i = V.byt j) = (i.toList == j.toList) := by
  rw [Bool.eq_iff_iff]
  cases i
  cases j
  simp
section
variable {X : Cx} {a b c : Expr} {ta tb tc : TE} {pos : Pos}
theorem fin_bl {pins : List (Addr × Obj)} {σ : St} {H : Hp} {s : Shared} {Q : VK} {k k' : Bool} (I : Inv X pins σ H s) (q : Q (.bl k) H) (e : k = k') : EP X pins σ Q (.bool k') s := by
  subst e
  exact ⟨.bl k, H, I, rfl, q⟩
theorem op_eq : OpR X (compareOp .Eq) rEq := by
  intro pins s σ H x y v u Q I rx ry h
  obtain ⟨hs, q⟩ := h
  cases x with
  | non =>
    cases rx
    cases y with
    | non => cases ry; exact PySem.EqNone.eq_none_none (fin_bl I q (by simp))
    | bl j => cases ry; exact PySem.EqNone.eq_none_bool (fin_bl I q (by simp))
    | int j => obtain ⟨t', rfl⟩ := ry; exact PySem.EqNone.eq_none_int (fin_bl I q (by simp))
    | str j => obtain ⟨t', rfl⟩ := ry; exact PySem.EqNone.eq_none_str (fin_bl I q (by simp))
    | _ => exact absurd (show false = true from hs) Bool.false_ne_true
  | bl i =>
    cases rx
    cases y with
    | non => cases ry; exact PySem.EqNone.eq_bool_none (fin_bl I q (by simp))
    | bl j => cases ry; exact eq_bool (fin_bl I q dec_bl)
    | str j => obtain ⟨t', rfl⟩ := ry; exact PySem.EqMixed.eq_bool_str (fin_bl I q (by simp))
    | _ => exact absurd (show false = true from hs) Bool.false_ne_true
  | int i =>
    obtain ⟨t, rfl⟩ := rx
    cases y with
    | non => cases ry; exact PySem.EqNone.eq_int_none (fin_bl I q (by simp))
    | int j => obtain ⟨t', rfl⟩ := ry; exact eq_int (fin_bl I q dec_int)
    | str j => obtain ⟨t', rfl⟩ := ry; exact PySem.EqMixed.eq_int_str (fin_bl I q (by simp))
    | _ => exact absurd (show false = true from hs) Bool.false_ne_true
  | str i =>
    obtain ⟨t, rfl⟩ := rx
    cases y with
    | non => cases ry; exact PySem.EqNone.eq_str_none (fin_bl I q (by simp))
    | bl j => cases ry; exact PySem.EqMixed.eq_str_bool (fin_bl I q (by simp))
    | int j => obtain ⟨t', rfl⟩ := ry; exact PySem.EqMixed.eq_str_int (fin_bl I q (by simp))
    | str j => obtain ⟨t', rfl⟩ := ry; exact eq_str (fin_bl I q dec_str)
    | _ => exact absurd (show false = true from hs) Bool.false_ne_true
  | byt i =>
    obtain ⟨t, rfl⟩ := rx
    cases y with
    | byt j => obtain ⟨t', rfl⟩ := ry; exact PySem.W.eq_bytes (fin_bl I q dec_byt)
    | _ => exact absurd (show false = true from hs) Bool.false_ne_true
  | _ => cases y <;> exact absurd (show false = true from hs) Bool.false_ne_true
theorem op_ne : OpR X (compareOp .NotEq) rNe := by
  intro pins s σ H x y v u Q I rx ry h
  obtain ⟨hs, q⟩ := h
  cases x with
  | non =>
    cases rx
    cases y with
    | non => cases ry; exact PySem.EqNone.ne_none_none (fin_bl I q (by simp))
    | bl j => cases ry; exact PySem.EqNone.ne_none_bool (fin_bl I q (by simp))
    | int j => obtain ⟨t', rfl⟩ := ry; exact PySem.EqNone.ne_none_int (fin_bl I q (by simp))
    | str j => obtain ⟨t', rfl⟩ := ry; exact PySem.EqNone.ne_none_str (fin_bl I q (by simp))
    | _ => exact absurd (show false = true from hs) Bool.false_ne_true
  | bl i =>
    cases rx
    cases y with
    | non => cases ry; exact PySem.EqNone.ne_bool_none (fin_bl I q (by simp))
    | bl j => cases ry; exact ne_bool (fin_bl I q (congrArg not dec_bl))
    | str j => obtain ⟨t', rfl⟩ := ry; exact PySem.EqMixed.ne_bool_str (fin_bl I q (by simp))
    | _ => exact absurd (show false = true from hs) Bool.false_ne_true
  | int i =>
    obtain ⟨t, rfl⟩ := rx
    cases y with
    | non => cases ry; exact PySem.EqNone.ne_int_none (fin_bl I q (by simp))
    | int j => obtain ⟨t', rfl⟩ := ry; exact ne_int (fin_bl I q (congrArg not dec_int))
    | str j => obtain ⟨t', rfl⟩ := ry; exact PySem.EqMixed.ne_int_str (fin_bl I q (by simp))
    | _ => exact absurd (show false = true from hs) Bool.false_ne_true
  | str i =>
    obtain ⟨t, rfl⟩ := rx
    cases y with
    | non => cases ry; exact PySem.EqNone.ne_str_none (fin_bl I q (by simp))
    | bl j => cases ry; exact PySem.EqMixed.ne_str_bool (fin_bl I q (by simp))
    | int j => obtain ⟨t', rfl⟩ := ry; exact PySem.EqMixed.ne_str_int (fin_bl I q (by simp))
    | str j => obtain ⟨t', rfl⟩ := ry; exact ne_str (fin_bl I q (congrArg not dec_str))
    | _ => exact absurd (show false = true from hs) Bool.false_ne_true
  | byt i =>
    obtain ⟨t, rfl⟩ := rx
    cases y with
    | byt j => obtain ⟨t', rfl⟩ := ry; exact PySem.W.ne_bytes (fin_bl I q (congrArg not dec_byt))
    | _ => exact absurd (show false = true from hs) Bool.false_ne_true
  | _ => cases y <;> exact absurd (show false = true from hs) Bool.false_ne_true
theorem op_lt : OpR X (compareOp .Lt) (rI0 fun i j => .bl (decide (i < j))) := opB0 fun _ _ _ _ _ _ _ q => lt_int q
theorem op_le : OpR X (compareOp .LtE) (rI0 fun i j => .bl (decide (i ≤ j))) := opB0 fun _ _ _ _ _ _ _ q => le_int q
theorem op_gt : OpR X (compareOp .Gt) (rI0 fun i j => .bl (decide (j < i))) := opB0 fun _ _ _ _ _ _ _ q => gt_int q
theorem op_ge : OpR X (compareOp .GtE) (rI0 fun i j => .bl (decide (j ≤ i))) := opB0 fun _ _ _ _ _ _ _ q => ge_int q
theorem op_notN : OpR X (compareOp .IsNot) (fun x y H Q => y = .non ∧ Q (.bl (!decide (x = .non))) H) := by
  intro pins s σ H x y v u Q I rx ry h
  obtain ⟨rfl, q⟩ := h
  cases ry
  refine isnot_none_gen (fin_bl I q ?_)
  cases x <;> first
    | (cases rx; rfl)
    | (obtain ⟨t, rfl⟩ := rx; rfl)
/-- two rules for one operation: by cases -/
theorem OpR.or {f : Value → Value → Sem Value} {r r' : R2} (h : OpR X f r) (h' : OpR X f r') : OpR X f (fun x y H Q => r x y H Q ∨ r' x y H Q) := by
  intro pins s σ H x y v u Q I rx ry q
  rcases q with q | q
  · exact h pins s σ H x y v u Q I rx ry q
  · exact h' pins s σ H x y v u Q I rx ry q
theorem nomark (b : Expr) {op : CmpOp} (h : op ≠ .In := by decide) (h2 : op ≠ .NotIn := by decide) : behindInMarks op b = false := by
  have e1 : (op == CmpOp.In) = false := by cases op <;> first | rfl | exact absurd rfl h
  have e2 : (op == CmpOp.NotIn) = false := by cases op <;> first | rfl | exact absurd rfl h2
  cases b <;> simp [behindInMarks, e1, e2]
/-- a comparison as a value; hm: nomark b, or (for in, not in) by with_unfolding_all rfl -/
theorem pe_cmpR {op : CmpOp} {r : R2} (ho : OpR X (compareOp op) r) (ha : PE X a ta) (hb : PE X b tb) (hm : behindInMarks op b = false) : PE X (.Compare a [op] [b] pos) (tOp r ta tb) := by
  intro pins s σ H Q I h
  exact wpAny_Compare1 (binT ha hb I h fun v u s2 x y H2 I2 rx ry q => ho pins s2 σ H2 x y v u Q I2 rx ry q) hm
/-- a reading of a value as a test -/
def tTest (t : TE) : TT := fun σ H Q => t σ H fun x H' => ∃ k, x = .bl k ∧ Q k H'
theorem pt_cmpR {op : CmpOp} {r : R2} (ho : OpR X (compareOp op) r) (ha : PE X a ta) (hb : PE X b tb) (hm : behindInMarks op b = false) : PT X (.Compare a [op] [b] pos) (tTest (tOp r ta tb)) := by
  intro pins s σ H Q I h
  refine wpAny_isTrue_Compare1 (thn (ha pins s σ H _ I h) fun v s1 ⟨x, H1, I1, r1, q1⟩ => thn (hb pins s1 σ H1 _ I1 q1) fun u s2 ⟨y, H2, I2, r2, q2⟩ =>
    thn (ho pins s2 σ H2 x y v u _ I2 r1 r2 q2) fun c s3 ⟨z, H3, I3, r3, k, e, q3⟩ => ?_) hm
  subst e
  cases r3
  exact wpAny_truthy_bool ⟨H3, I3, q3⟩
/-- a op1 b op2 c -/
def tChain (r r' : R2) (ta tb tc : TE) : TE := fun σ H Q => ta σ H fun x H1 => tb σ H1 fun y H2 => r x y H2 fun z H3 => ∃ k, z = .bl k ∧
  (if k = true then tc σ H3 fun w' H4 => r' y w' H4 Q else Q (.bl false) H3)
theorem pe_chain {op op' : CmpOp} {r r' : R2} (ho : OpR X (compareOp op) r) (ho' : OpR X (compareOp op') r') (ha : PE X a ta) (hb : PE X b tb) (hc : PE X c tc)
    (hm : lastMarks [op, op'] [b, c] = false := by with_unfolding_all rfl) : PE X (.Compare a [op, op'] [b, c] pos) (tChain r r' ta tb tc) := by
  intro pins s σ H Q I h
  refine Compare_chain (thn (ha pins s σ H _ I h) fun v s1 ⟨x, H1, I1, r1, q1⟩ => chain_link (thn (hb pins s1 σ H1 _ I1 q1) fun u s2 ⟨y, H2, I2, r2, q2⟩ =>
    thn (ho pins s2 σ H2 x y v u _ I2 r1 r2 q2) fun d s3 ⟨z, H3, I3, r3, k, e, q3⟩ => ?_)) hm
  subst e
  cases r3
  refine wpAny_truthy_bool ?_
  cases k with
  | false => exact ite_ff ⟨.bl false, H3, I3, rfl, q3⟩
  | true => exact ite_tt (chain_last (thn (hc pins s3 σ H3 _ I3 q3) fun w' s4 ⟨z', H4, I4, r4, q4⟩ => ho' pins s4 σ H4 y z' u w' Q I4 r2 r4 q4))
theorem pt_chain {op op' : CmpOp} {r r' : R2} (ho : OpR X (compareOp op) r) (ho' : OpR X (compareOp op') r') (ha : PE X a ta) (hb : PE X b tb) (hc : PE X c tc)
    (hm : lastMarks [op, op'] [b, c] = false := by with_unfolding_all rfl) : PT X (.Compare a [op, op'] [b, c] pos) (tTest (tChain r r' ta tb tc)) := by
  intro pins s σ H Q I h
  refine isTrue_chain (thn (ha pins s σ H _ I h) fun v s1 ⟨x, H1, I1, r1, q1⟩ => test_link (thn (hb pins s1 σ H1 _ I1 q1) fun u s2 ⟨y, H2, I2, r2, q2⟩ =>
    thn (ho pins s2 σ H2 x y v u _ I2 r1 r2 q2) fun d s3 ⟨z, H3, I3, r3, k, e, q3⟩ => ?_)) hm
  subst e
  cases r3
  refine wpAny_truthy_bool ?_
  cases k with
  | false =>
    obtain ⟨k', e', q'⟩ := q3
    cases e'
    exact ite_ff ⟨H3, I3, q'⟩
  | true =>
    refine ite_tt (test_last (thn (hc pins s3 σ H3 _ I3 q3) fun w' s4 ⟨z', H4, I4, r4, q4⟩ => thn (ho' pins s4 σ H4 y z' u w' _ I4 r2 r4 q4) fun d' s5 ⟨z2, H5, I5, r5, k2, e2, q5⟩ => ?_))
    subst e2
    cases r5
    exact wpAny_truthy_bool ⟨H5, I5, q5⟩
/-- a value's truth by the abstract heap -/
def TruV (K : PySem.W.Frag) (x : V) (H : Hp) (k : Bool) : Prop :=
  match x with
  | .non => k = false
  | .bl b => k = b
  | .int i => k = (i != 0)
  | .str y => y.length ≤ sizeLine ∧ k = ((y.length : Int) != 0)
  | .byt y => y.size ≤ sizeLine ∧ k = ((y.size : Int) != 0)
  | .ref p => (∃ xs, SqL K H p xs ∧ k = !xs.isEmpty) ∨ (∃ xs, SqT K H p xs ∧ k = !xs.isEmpty) ∨ ∃ kvs, H p = some (.dK kvs) ∧ k = !kvs.isEmpty
  | _ => False
theorem line63 : (sizeLine : Nat) < 2 ^ 63 := by rw [sizeLine_eq]; decide
theorem vals1 {x : V} {us : List Value} (r : Vals [x] us) : ∃ u, us = [u] ∧ RelV x u := by
  cases r with
  | cons r1 r2 => cases r2; exact ⟨_, rfl, r1⟩
theorem vals2 {x y : V} {us : List Value} (r : Vals [x, y] us) : ∃ u w', us = [u, w'] ∧ RelV x u ∧ RelV y w' := by
  cases r with
  | cons r1 r2 =>
    cases r2 with
    | cons r3 r4 => cases r4; exact ⟨_, _, rfl, r1, r3⟩
theorem call_max2 (hc : X.calm = true) : CallR X (.builtin "max") (fun xs H Q => ∃ i j, xs = [.int i, .int j] ∧ Q (.int (if j > i then j else i)) H) := by
  intro pins s σ H xs us Q I r h
  obtain ⟨i, j, rfl, q⟩ := h
  obtain ⟨u, w', rfl, ⟨t, rfl⟩, ⟨t', rfl⟩⟩ := vals2 r
  refine max_two_ints (I.ok.hd hc) fun h' tk k => ⟨_, H, I.kept k, ?_, q⟩
  by_cases hj : j > i
  · rw [if_pos hj, if_pos hj]; exact ⟨_, rfl⟩
  · rw [if_neg hj, if_neg hj]; exact ⟨_, rfl⟩
theorem call_min2 (hc : X.calm = true) : CallR X (.builtin "min") (fun xs H Q => ∃ i j, xs = [.int i, .int j] ∧ Q (.int (if j < i then j else i)) H) := by
  intro pins s σ H xs us Q I r h
  obtain ⟨i, j, rfl, q⟩ := h
  obtain ⟨u, w', rfl, ⟨t, rfl⟩, ⟨t', rfl⟩⟩ := vals2 r
  refine min_two_ints (I.ok.hd hc) fun h' tk k => ⟨_, H, I.kept k, ?_, q⟩
  by_cases hj : j < i
  · rw [if_pos hj, if_pos hj]; exact ⟨_, rfl⟩
  · rw [if_neg hj, if_neg hj]; exact ⟨_, rfl⟩
/-- len of a str, a bytes, a list, a tuple -/
def LenV (K : PySem.W.Frag) (x : V) (H : Hp) (n : Nat) : Prop :=
  match x with
  | .str y => y.length ≤ sizeLine ∧ n = y.length
  | .byt y => y.size ≤ sizeLine ∧ n = y.size
  | .ref p => (∃ xs, SqL K H p xs ∧ n = xs.length) ∨ ∃ xs, SqT K H p xs ∧ n = xs.length
  | _ => False
theorem call_len : CallR X (.builtin "len") (fun xs H Q => ∃ x n, xs = [x] ∧ LenV X.K x H n ∧ Q (.int n) H) := by
  intro pins s σ H xs us Q I r h
  obtain ⟨x, n, rfl, e, q⟩ := h
  obtain ⟨u, rfl, rx⟩ := vals1 r
  have hl := line63
  have hs : sizeLine = 16777216 := sizeLine_eq
  cases x with
  | str y =>
    obtain ⟨t, rfl⟩ := rx
    obtain ⟨hy, e'⟩ : y.length ≤ sizeLine ∧ n = y.length := e
    subst e'
    exact len_str (by omega) ⟨.int _, H, I.tok _, ⟨_, rfl⟩, q⟩
  | byt y =>
    obtain ⟨t, rfl⟩ := rx
    obtain ⟨hy, e'⟩ : y.size ≤ sizeLine ∧ n = y.size := e
    subst e'
    exact PySem.W.len_bytes (by omega) ⟨.int _, H, I.tok _, ⟨_, rfl⟩, q⟩
  | ref p =>
    cases rx
    have e' : (∃ xs, SqL X.K H p xs ∧ n = xs.length) ∨ ∃ xs, SqT X.K H p xs ∧ n = xs.length := e
    rcases e' with ⟨xs, hx, e'⟩ | ⟨xs, hx, e'⟩
    · subst e'
      obtain ⟨its, r', pl, hz⟩ := I.list hx
      have hlen := r'.length
      exact Calls.call_len_list pl.isList (by simp only [List.size_toArray]; omega) ⟨.int xs.length, H, I.tok _, ⟨_, by simp only [List.size_toArray]; rw [hlen]⟩, q⟩
    · subst e'
      obtain ⟨its, r', pl, hz⟩ := I.tuple hx
      have hlen := r'.length
      exact len_tuple pl (by simp only [List.size_toArray]; omega) ⟨.int xs.length, H, I.tok _, ⟨_, by simp only [List.size_toArray]; rw [hlen]⟩, q⟩
  | _ => exact (show False from e).elim
end
end L2
namespace L2
open PySem PySem.Spec PyProof.Rows
structure ObjM (h : Heap) (x dx C : Addr) (mA : Str → Option Value) : Prop where
  obj : h.get? x = some (PySem.W.instObj C dx)
  ns : h.Ns1 dx mA
  ne : dx ≠ x
theorem lookIn_ns {h : Heap} {dx : Addr} {mA : Str → Option Value} (n : h.Ns1 dx mA) : ∃ od, h.get? dx = some od ∧ ∀ name, PySem.W.lookIn name od = some (mA name) := by
  obtain ⟨o, es, ep, ho, hd, hk, _, hm⟩ := n
  refine ⟨o, ho, fun name => ?_⟩
  have e := hm name
  unfold nsFind findBy at e
  rw [← Array.find?_toList] at e
  unfold PySem.W.lookIn
  rw [hd]
  dsimp only
  split
  · rename_i y q
    rw [q] at e
    exact congrArg some e
  · rename_i q
    rw [q] at e
    have a : es.toList.any (·.refKey) = false := by
      rw [List.any_eq_false]
      intro y hy
      obtain ⟨z, t, hkey⟩ := hk y (Array.mem_toList_iff.mp hy)
      simp [DictEntry.refKey, hkey]
    have a' : ¬ es.toList.any (·.refKey) = true := by rw [a]; exact Bool.false_ne_true
    rw [if_neg a']
    exact congrArg some e
theorem ObjM.look {h : Heap} {x dx C : Addr} {mA : Str → Option Value} (I : ObjM h x dx C mA) : ∃ od, PySem.W.InstAt h x (PySem.W.instObj C dx) C (some od) ∧ ∀ name, PySem.W.lookIn name od = some (mA name) :=
  let ⟨od, ho, hl⟩ := lookIn_ns I.ns
  ⟨od, ⟨I.obj, rfl, rfl, ho⟩, hl⟩
section
variable {prog : Program} {w : World} {A : Around} {E : Value → Shared → Prop} {s : Shared} {K : PySem.W.Frag} {x dx C f : Addr} {mA : Str → Option Value} {name : Str} {v : Value}
theorem get_map {expr : Bool} {Q : Value → Shared → Prop} (X : K.In s.heap) (I : ObjM s.heap x dx C mA) (hg : PySem.W.plainGet K C name = true) (hh : PySem.W.hasDictIn K C = true)
    (ha : PySem.W.findIn K (.ref C) name = some none) (hv : mA name = some v) (hv' : PySem.W.handedIn v = true) (h : Q v { s with toks := s.toks + 1 }) :
    wpAny (model prog w) A (getAttr (.ref x) name expr) Q E s := by
  obtain ⟨od, J, hl⟩ := I.look
  exact PySem.W.get_value X J (PySem.W.plainGet_of hg).1 (PySem.W.findObj_own hh ha rfl (by rw [hl, hv])) hv' h
theorem get_meth {pl : Sem Bool} {Q : Value × List Value → Shared → Prop} (X : K.In s.heap) (I : ObjM s.heap x dx C mA) (hg : PySem.W.plainGet K C name = true)
    (hf : PySem.W.findIn K (.ref C) name = some (some (.ref f))) (ht : PySem.W.isFn K (.ref f) = true) (hv : mA name = none) (h : Q (.ref f, [.ref x]) s) :
    wpAny (model prog w) A (getMethod (.ref x) name pl) Q E s := by
  obtain ⟨od, J, hl⟩ := I.look
  exact PySem.W.method_fn X J (PySem.W.plainGet_of hg).1 (PySem.W.plainGet_of hg).2 hf (beq_iff_eq.mp ht) (by show (PySem.W.lookIn name od).map (·.isSome) = some false; rw [hl, hv]; rfl) h
theorem set_map {ns : List Str} {Q : Unit → Shared → Prop} (X : K.In s.heap) (I : ObjM s.heap x dx C mA)
    (hs : PySem.W.findIn K (.ref C) "__setattr__" = some (some (.builtin "object.__setattr__"))) (hp : PySem.W.plainOver K C = true) (ht : PySem.W.takerIn K C name = some none) (hh : PySem.W.hasDictIn K C = true)
    (hw : PySem.Within mA ns) (hsz : ns.length ≤ sizeLine)
    (h : ∀ h', ObjM h' x dx C (fun y => if y = name then some v else mA y) → Heap.SameBut dx s.heap h' → Q () { s with heap := h', toks := s.toks + 2 }) :
    wpAny (model prog w) A (setAttr (.ref x) name v) Q E s := by
  obtain ⟨od, J, hl⟩ := I.look
  refine PySem.W.set_plain X J hs (PySem.W.osa_open (s := { s with toks := s.toks + 1 }) (r := none) X J hp ht fun b => ?_)
  obtain ⟨cd, hc, hd'⟩ := PySem.W.any_some hh
  have hx : s.heap.get? x = some ⟨.ref C, some dx, .plain, #[]⟩ := I.obj
  refine wpAny_bind (wpAny_pure (wpAny_bind (wpAny_bind (wpAny_loadPart hx (wpAny_bind (PySem.W.Looks.here (s := { s with toks := s.toks + 1 }) (PySem.W.looks_clsIn X hc) ?_))))))
  rw [hd']
  refine wpAny_pure (a := some dx) (wpAny_bind (wpAny_pure (wpAny_bind ?_)))
  refine wpAny_nsSet1 (s := { s with toks := s.toks + 1 }) I.ns fun h' hn2 hs2 => ?_
  obtain ⟨oD, esD, epD, hoD, hdD, hcD⟩ := hn2.count (PySem.Within.cons name v hw)
  refine wpAny_bind (wpAny_lookBehind hoD (by rw [hdD]; exact pastItsLine_dict (Nat.le_trans hcD (by rw [List.length_cons]; omega))) ?_)
  exact wpAny_pure (h _ ⟨(hs2.2 _ (Ne.symm I.ne)).trans I.obj, hn2, I.ne⟩ hs2)
/-- C(..): the dict at the heap's end, the instance behind it; then its __init__ -/
theorem make_map {R : Result → Shared → Prop} {vs : List Value} {kw : List (Str × Value)} (X : K.In s.heap) (hm : PySem.W.makesIn K C = true)
    (hi : PySem.W.findIn K (.ref C) "__init__" = some (some (.ref f))) (hf : PySem.W.typeIn K (.ref f) = some (.type "function"))
    (h : codeAny (model prog w) (A.under (.builtin "type.__call__" ⟨.ref C :: vs, kw⟩)) (.call (.ref f) ⟨.ref (s.heap.objs.size + 1) :: vs, kw⟩) (PySem.W.InitBack (s.heap.objs.size + 1) R)
      { s with heap := (s.heap.push PySem.W.emptyDict).push (PySem.W.instObj C s.heap.objs.size) }) :
    codeAny (model prog w) A (.call (.ref C) ⟨vs, kw⟩) R s := by
  obtain ⟨hh, g, d, t, os⟩ := s
  exact PySem.W.make_core (PySem.W.makes_of X hm) (PySem.W.looks_findIn X hi) (fun self => PySem.W.bind_fn X self hf) (.inl rfl) h
end
def putF (f : Str) (v : V) : List (Str × V) → List (Str × V)
  | [] => [(f, v)]
  | (g, x) :: r => if g = f then (g, v) :: r else (g, x) :: putF f v r
theorem lookup_putF (f g : Str) (v : V) : ∀ fs : List (Str × V), (putF f v fs).lookup g = if g = f then some v else fs.lookup g
  | [] => by
    show List.lookup g [(f, v)] = _
    by_cases h : g = f
    · have hb : (g == f) = true := beq_iff_eq.mpr h
      simp only [List.lookup, hb, if_pos h]
    · have hb : (g == f) = false := beq_eq_false_iff_ne.mpr h
      simp only [List.lookup, hb, if_neg h]
  | (k, x) :: r => by
    have ih := lookup_putF f g v r
    rw [show putF f v ((k, x) :: r) = (if k = f then (k, v) :: r else (k, x) :: putF f v r) from rfl]
    by_cases hk : k = f
    · rw [if_pos hk]
      by_cases h : g = k
      · have hb : (g == k) = true := beq_iff_eq.mpr h
        simp only [List.lookup, hb, if_pos (h.trans hk)]
      · have hb : (g == k) = false := beq_eq_false_iff_ne.mpr h
        simp only [List.lookup, hb, if_neg (fun e : g = f => h (e.trans hk.symm))]
    · rw [if_neg hk]
      by_cases h : g = k
      · have hb : (g == k) = true := beq_iff_eq.mpr h
        simp only [List.lookup, hb, if_neg (fun e : g = f => hk (h.symm.trans e))]
      · have hb : (g == k) = false := beq_eq_false_iff_ne.mpr h
        simp only [List.lookup, hb]
        exact ih
theorem keys_putF (f : Str) (v : V) : ∀ fs : List (Str × V), f ∈ (putF f v fs).map (·.1) ∧ ∀ g, g ∈ fs.map (·.1) → g ∈ (putF f v fs).map (·.1)
  | [] => ⟨by simp [putF], fun g h => by simp at h⟩
  | (k, x) :: r => by
    obtain ⟨i1, i2⟩ := keys_putF f v r
    rw [show putF f v ((k, x) :: r) = (if k = f then (k, v) :: r else (k, x) :: putF f v r) from rfl]
    by_cases hk : k = f
    · rw [if_pos hk]
      subst hk
      exact ⟨by simp, fun g h => by simpa using h⟩
    · rw [if_neg hk]
      refine ⟨?_, fun g h => ?_⟩
      · rw [List.map_cons]
        exact List.mem_cons_of_mem _ i1
      · rw [List.map_cons] at h ⊢
        rcases List.mem_cons.mp h with e | e
        · exact List.mem_cons.mpr (.inl e)
        · exact List.mem_cons_of_mem _ (i2 g e)
theorem length_putF (f : Str) (v : V) : ∀ fs : List (Str × V), (putF f v fs).length ≤ fs.length + 1
  | [] => by simp [putF]
  | (k, x) :: r => by
    have ih := length_putF f v r
    rw [show putF f v ((k, x) :: r) = (if k = f then (k, v) :: r else (k, x) :: putF f v r) from rfl]
    by_cases hk : k = f
    · rw [if_pos hk, List.length_cons, List.length_cons]; omega
    · rw [if_neg hk, List.length_cons, List.length_cons]; omega
theorem RelO.some_of {v : V} {o : Option Value} (r : RelO (some v) o) : ∃ u, o = some u ∧ RelV v u := by
  cases o with
  | none => exact (show False from r).elim
  | some u => exact ⟨u, rfl, r⟩
theorem RelO.none_of {o : Option Value} (r : RelO none o) : o = none := by
  cases o with
  | none => rfl
  | some u => exact (show False from r).elim
theorem handed_of {v : V} {u : Value} (r : RelV v u) : PySem.W.handedIn u = true := by
  cases v with
  | non => cases (show u = Value.none from r); rfl
  | bl b => cases (show u = Value.bool b from r); rfl
  | int i => obtain ⟨t, e⟩ := (show ∃ t, u = Value.int i t from r); cases e; rfl
  | str x => obtain ⟨t, e⟩ := (show ∃ t, u = Value.str x t from r); cases e; rfl
  | byt b => obtain ⟨t, e⟩ := (show ∃ t, u = Value.bytes b t from r); cases e; rfl
  | flt b => obtain ⟨t, e⟩ := (show ∃ t, u = Value.float b t from r); cases e; rfl
  | ref a => cases (show u = Value.ref a from r); rfl
  | ty n => cases (show u = Value.type n from r); rfl
section
variable {P : Program} {w : World} {H H' : Hp} {h h' : Heap} {a C dx : Addr} {fs fs' : List (Str × V)}
theorem ins_get (hok : HOk P w H h) (e : H a = some (.ins C dx fs)) : ∃ mA, ObjM h a dx C mA ∧ (∀ f, RelO (fs.lookup f) (mA f)) ∧ PySem.Within mA (fs.map (·.1)) ∧ fs.length ≤ 1000 ∧ H dx = some (.own a) := by
  obtain ⟨d, z, ne, ob, mA, n, r, q⟩ := (show ObjOk P w H h a (.ins C dx fs) from hok a _ e)
  exact ⟨mA, ⟨ob, n, ne⟩, r, q, z, d⟩
end
structure Cls (K : PySem.W.Frag) (C : Addr) : Prop where
  pg : PySem.W.plainGet K C Str.empty = true
  hd : PySem.W.hasDictIn K C = true
  po : PySem.W.plainOver K C = true
  sa : PySem.W.findIn K (.ref C) "__setattr__" = some (some (.builtin "object.__setattr__"))
theorem Cls.get {K : PySem.W.Frag} {C : Addr} (c : Cls K C) (f : Str) : PySem.W.plainGet K C f = true := c.pg
/-- no class of it has the name -/
def NoAttr (K : PySem.W.Frag) (C : Addr) (f : Str) : Prop := PySem.W.findIn K (.ref C) f = some none
theorem NoAttr.taker {K : PySem.W.Frag} {C : Addr} {f : Str} (n : NoAttr K C f) : PySem.W.takerIn K C f = some none := by
  unfold PySem.W.takerIn
  rw [show PySem.W.findIn K (.ref C) f = some none from n]
  rfl
/-- a method: a plain def of the class or of one above it -/
structure Meth (K : PySem.W.Frag) (C : Addr) (m : Str) (f : Addr) : Prop where
  at_ : PySem.W.findIn K (.ref C) m = some (some (.ref f))
  fn : PySem.W.isFn K (.ref f) = true
  kp : PySem.W.keepIn K (.ref f) = true
section
variable {X : Cx} {pins : List (Addr × Obj)} {σ : St} {H : Hp} {s : Shared} {a C dx : Addr} {fs : List (Str × V)} {f : Str} {v : V} {A : Around} {E : Value → Shared → Prop}
theorem getattr_ok {b : Bool} {Q : Value → Shared → Prop} (I : Inv X pins σ H s) (e : H a = some (.ins C dx fs)) (c : Cls X.K C) (n : NoAttr X.K C f) (l : fs.lookup f = some v)
    (h : ∀ u s', Inv X pins σ H s' → RelV v u → Q u s') : wpAny (model X.prog X.w) A (getAttr (.ref a) f b) Q E s := by
  obtain ⟨mA, O, r, _, _, _⟩ := ins_get I.hok e
  obtain ⟨u, hu, ru⟩ := RelO.some_of (v := v) (o := mA f) (by rw [← l]; exact r f)
  exact get_map I.kIn O (c.get f) c.hd n hu (handed_of ru) (h u _ (I.tok _) ru)
theorem getmeth_ok {m : Str} {g : Addr} {pl : Sem Bool} {Q : Value × List Value → Shared → Prop} (I : Inv X pins σ H s) (e : H a = some (.ins C dx fs)) (c : Cls X.K C) (k : Meth X.K C m g) (l : fs.lookup m = none)
    (h : Q (.ref g, [.ref a]) s) : wpAny (model X.prog X.w) A (getMethod (.ref a) m pl) Q E s := by
  obtain ⟨mA, O, r, _, _, _⟩ := ins_get I.hok e
  have hn : mA m = none := RelO.none_of (by rw [← l]; exact r m)
  exact get_meth I.kIn O (c.get m) k.at_ k.fn hn h
theorem setattr_ok {y : V} {u : Value} {Q : Unit → Shared → Prop} (I : Inv X pins σ H s) (e : H a = some (.ins C dx fs)) (c : Cls X.K C) (n : NoAttr X.K C f) (hl : fs.length < 1000) (ry : RelV y u)
    (h : ∀ s', Inv X pins σ (upd H a (.ins C dx (putF f y fs))) s' → Q () s') : wpAny (model X.prog X.w) A (setAttr (.ref a) f u) Q E s := by
  obtain ⟨mA, O, r, wi, _, ho⟩ := ins_get I.hok e
  have hz : (fs.map (·.1)).length ≤ sizeLine := by rw [List.length_map, sizeLine_eq]; omega
  refine set_map I.kIn O c.sa c.po n.taker c.hd wi hz fun h' O' sb => h _ ?_
  have hd : ∃ o, h'.get? dx = some o := let ⟨o, _, _, e', _⟩ := O'.ns; ⟨o, e'⟩
  refine I.write (x := a) (e := dx) (by rw [e]; exact True.intro) (.inr ho) (fun b q hb z => (sb.2 b hb).trans z) hd ?_
  refine ⟨by rw [upd_ne O.ne]; exact ho, ?_, O.ne, O'.obj, _, O'.ns, fun g => ?_, fun g hg => ?_⟩
  · have := length_putF f y fs; omega
  · show RelO ((putF f y fs).lookup g) (if g = f then some u else mA g)
    rw [lookup_putF]
    by_cases q : g = f
    · rw [if_pos q, if_pos q]; exact ry
    · rw [if_neg q, if_neg q]; exact r g
  · by_cases q : g = f
    · rw [q]; exact (keys_putF f y fs).1
    · refine (keys_putF f y fs).2 g (wi g fun z => hg ?_)
      show (if g = f then some u else mA g) = none
      rw [if_neg q]; exact z
/-- a new instance, tracked, without attributes -/
theorem Inv.made (I : Inv X pins σ H s) : Inv X pins σ (upd (upd H s.heap.objs.size (.own (s.heap.objs.size + 1))) (s.heap.objs.size + 1) (.ins C s.heap.objs.size []))
    { s with heap := (s.heap.push PySem.W.emptyDict).push (PySem.W.instObj C s.heap.objs.size) } := by
  have e1 : (s.heap.push PySem.W.emptyDict).get? s.heap.objs.size = some PySem.W.emptyDict := Heap.get?_push_size s.heap rfl
  have e2 : ((s.heap.push PySem.W.emptyDict).push (PySem.W.instObj C s.heap.objs.size)).get? (s.heap.objs.size + 1) = some (PySem.W.instObj C s.heap.objs.size) := by
    have := Heap.get?_push_size (s.heap.push PySem.W.emptyDict) (o := PySem.W.instObj C s.heap.objs.size) rfl
    rwa [Heap.size_push] at this
  have e3 : (s.heap.push PySem.W.emptyDict).Ns s.heap.objs.size (fun _ => none) := ⟨PySem.W.emptyDict, #[], _, e1, rfl, (fun e he => absurd he (by simp)), fun _ => rfl⟩
  have I1 := I.laid (a := s.heap.objs.size) (o := .own (s.heap.objs.size + 1)) (h' := s.heap.push PySem.W.emptyDict) (t' := s.toks) (fun b u q => Heap.get?_push_of_some _ q) (Nat.le_refl _) ⟨_, e1⟩
  refine I1.laid (a := s.heap.objs.size + 1) (o := .ins C s.heap.objs.size []) (t' := s.toks) (fun b u q => Heap.get?_push_of_some _ q) (Nat.le_of_eq (Heap.size_push _ _)) ?_
  have ne : s.heap.objs.size ≠ s.heap.objs.size + 1 := Nat.ne_of_lt (Nat.lt_succ_self _)
  refine ⟨by rw [upd_ne ne, upd_same], Nat.zero_le _, ne, e2, fun _ => none, (Heap.Ns1.of_empty e3).at fun o q => Heap.get?_push_of_some _ q, fun _ => True.intro, fun y hy => absurd rfl hy⟩
/-- e.f where nothing but the object is asked: through attributeBase (super) and the last hold -/
theorem attr_of {prog : Program} {w : World} {env : Env} {e : Expr} {f : Str} {pos : Pos} {s : Shared} {Q : Value → Shared → Prop} (hb : attributeBase e f env (eval e env) = eval e env)
    (h : wpAny (model prog w) A (eval e env) (fun o s₁ => wpAny (model prog w) A (getAttr o f true) Q E s₁) E s) : wpAny (model prog w) A (eval (.Attribute e f pos) env) Q E s :=
  Attribute_any_ h (by rw [arm_eval_Attribute, hb])
end
/-- e.f, an attribute of the instance -/
def tFld (K : PySem.W.Frag) (ta : TE) (f : Str) : TE := fun σ H Q => ta σ H fun x H1 => ∃ a C dx fs v, x = .ref a ∧ H1 a = some (.ins C dx fs) ∧ Cls K C ∧ NoAttr K C f ∧ fs.lookup f = some v ∧ Q v H1
/-- e.f = value -/
def sFld (K : PySem.W.Frag) (ta tv : TE) (f : Str) : TS := fun D σ H => tv σ H fun y H1 => ta σ H1 fun x H2 => ∃ a C dx fs, x = .ref a ∧ H2 a = some (.ins C dx fs) ∧ Cls K C ∧ NoAttr K C f ∧ fs.length < 1000 ∧
  D.nx σ (upd H2 a (.ins C dx (putF f y fs)))
section
variable {X : Cx} {o e value : Expr} {f : Str} {pos pos' tpos : Pos} {ta tv : TE}
theorem pe_fld (he : PE X e ta) (hb : attributeBase e f X.env (eval e X.env) = eval e X.env) : PE X (.Attribute e f pos) (tFld X.K ta f) := by
  intro pins s σ H Q I h
  refine attr_of hb (thn (he pins s σ H _ I h) fun u s1 ⟨x, H1, I1, rx, a, C, dx, fs, v, ex, ea, c, n, l, q⟩ => ?_)
  subst ex
  obtain rfl : u = Value.ref a := rx
  exact getattr_ok I1 ea c n l fun u' s2 I2 ru => ⟨v, H1, I2, ru, q⟩
theorem ps_fld (ha : PE X o ta) (hv : PE X value tv) (hs : swapsWith value (some (.Attribute o f pos')) pos.line X.env = pure false) : PS X (.Assign [.Attribute o f pos'] value pos) (sFld X.K ta tv f) := by
  intro pins s σ H D I h
  refine plainObj_wpAny_Assign_Attribute (thn (hv pins s σ H _ I h) fun u s1 ⟨y, H1, I1, ry, q⟩ => thn (ha pins s1 σ H1 _ I1 q) fun ov s2 ⟨x, H2, I2, rx, a, C, dx, fs, ex, ea, c, n, l, q2⟩ => ?_) hs
  subst ex
  obtain rfl : ov = Value.ref a := rx
  exact setattr_ok I2 ea c n l ry fun s3 I3 => ⟨σ, _, I3, q2⟩
end
section
variable {X : Cx} {pins : List (Addr × Obj)} {σ : St} {H : Hp} {s : Shared} {A : Around} {E : Value → Shared → Prop} {Q : Value → Shared → Prop} {c : Value} {b : Bool}
/-- the type of a value, as the fragment's deciders take it; for an instance its class -/
inductive TyOf (K : PySem.W.Frag) (H : Hp) : V → Value → Prop where
  | non : TyOf K H .non (.type "NoneType")
  | bl (x : Bool) : TyOf K H (.bl x) (.type "bool")
  | int (i : Int) : TyOf K H (.int i) (.type "int")
  | str (x : Str) : TyOf K H (.str x) (.type "str")
  | flt (x : UInt64) : TyOf K H (.flt x) (.type "float")
  | lst {a : Addr} {xs : List V} (e : H a = some (.lst xs)) : TyOf K H (.ref a) (.type "list")
  | frz {a : Addr} {o : Obj} {xs : List V} (e : H a = some (.frz o (.lst xs))) : TyOf K H (.ref a) (.type "list")
  | tup {a : Addr} {xs : List V} (e : H a = some (.tup xs)) : TyOf K H (.ref a) (.type "tuple")
  | dK {a : Addr} {kvs : List (Key × V)} (e : H a = some (.dK kvs)) : TyOf K H (.ref a) (.type "dict")
  | dT {a : Addr} {kvs : List (List Key × V)} (e : H a = some (.dT kvs)) : TyOf K H (.ref a) (.type "dict")
  | ins {a C dx : Addr} {fs : List (Str × V)} (e : H a = some (.ins C dx fs)) (cl : Cls K C) (ha : PySem.W.findIn K (.ref C) "__class__" = some (some (.builtin "object.__class__")))
      (hn : PySem.W.specialIn K (.builtin "object.__class__") "__get__" = some (some (.builtin "getset_descriptor.__get__"))) (htk : PySem.W.takesIn K (.builtin "object.__class__") = some true)
      (hm : PySem.W.mroIn K C (.type "object") = some true) : TyOf K H (.ref a) (.ref C)
/-- isinstance(x, c) for one class c, a built-in or an own one: kitOne's answer -/
theorem isinst_ok {x : V} {u t : Value} (I : Inv X pins σ H s) (rx : RelV x u) (ty : TyOf X.K H x t) (e : PySem.W.kitOne X.K t c = some b) (h : ∀ tk, Q (.bool b) { s with toks := tk }) :
    wpAny (model X.prog X.w) A (call (.builtin "isinstance") [u, c]) Q E s := by
  cases ty with
  | non => cases (show u = Value.none from rx); exact PySem.W.kia_one PySem.W.kitx_none I.kIn True.intro e (fun z => nomatch z) h
  | bl y => cases (show u = Value.bool y from rx); exact PySem.W.kia_one PySem.W.kitx_bool I.kIn True.intro e (fun z => nomatch z) h
  | int i => obtain ⟨t, q⟩ := (show ∃ t, u = Value.int i t from rx); cases q; exact PySem.W.kia_one PySem.W.kitx_int I.kIn True.intro e (fun z => nomatch z) h
  | str y => obtain ⟨t, q⟩ := (show ∃ t, u = Value.str y t from rx); cases q; exact PySem.W.kia_one PySem.W.kitx_str I.kIn True.intro e (fun z => nomatch z) h
  | flt y => obtain ⟨t, q⟩ := (show ∃ t, u = Value.float y t from rx); cases q; exact PySem.W.kia_one PySem.W.kitx_float I.kIn True.intro e (fun z => nomatch z) h
  | @lst a xs ea =>
    cases (show u = Value.ref a from rx)
    obtain ⟨_, _, n, _, h1⟩ := (show ObjOk X.prog X.w H s.heap a (.lst xs) from I.hok a _ ea)
    exact PySem.W.kia_one PySem.W.kitx_list I.kIn ⟨_, h1, rfl⟩ e (fun z => nomatch z) h
  | @frz a ob xs ea =>
    cases (show u = Value.ref a from rx)
    obtain ⟨_, _, _, n, _, h1⟩ := (show ObjOk X.prog X.w H s.heap a (.frz ob (.lst xs)) from I.hok a _ ea)
    exact PySem.W.kia_one PySem.W.kitx_list I.kIn ⟨_, h1, rfl⟩ e (fun z => nomatch z) h
  | @tup a xs ea =>
    cases (show u = Value.ref a from rx)
    obtain ⟨_, _, _, p⟩ := (show ObjOk X.prog X.w H s.heap a (.tup xs) from I.hok a _ ea)
    obtain ⟨o, h1, h2, _⟩ := p
    exact PySem.W.kia_one PySem.W.kitx_tuple I.kIn ⟨o, h1, h2⟩ e (fun z => nomatch z) h
  | @dK a kvs ea =>
    cases (show u = Value.ref a from rx)
    obtain ⟨_, _, vs, _, p⟩ := (show ObjOk X.prog X.w H s.heap a (.dK kvs) from I.hok a _ ea)
    obtain ⟨o, es, ep, h1, h2, _⟩ := p
    exact PySem.W.kia_one PySem.W.kitx_dict I.kIn ⟨o, h1, h2.1⟩ e (fun z => nomatch z) h
  | @dT a kvs ea =>
    cases (show u = Value.ref a from rx)
    obtain ⟨_, _, xs, _, o, es, ep, h1, h2, _⟩ := (show ObjOk X.prog X.w H s.heap a (.dT kvs) from I.hok a _ ea)
    exact PySem.W.kia_one PySem.W.kitx_dict I.kIn ⟨o, h1, h2.1⟩ e (fun z => nomatch z) h
  | @ins a C dx fs ea cl ha hn htk hm =>
    cases (show u = Value.ref a from rx)
    obtain ⟨mA, O, _⟩ := ins_get I.hok ea
    obtain ⟨od, J, _⟩ := O.look
    exact PySem.W.kia_one (PySem.W.kitx_own (cl.get _) cl.hd ha hn htk hm) I.kIn J e (fun z => nomatch z) h
end
end L2
namespace L2
open PySem PySem.Spec PyProof.Rows
structure Room (k : Nat) (A : Around) : Prop where
  hd : A.handled = none
  dp : A.depth + 3 * k + 5 < recursionLimit
  un : A.units + 16 * k + 200 < cLine
  gd : A.guards = some []
theorem Room.mono {j k : Nat} {A : Around} (r : Room k A) (h : j ≤ k) : Room j A := ⟨r.hd, by have := r.dp; omega, by have := r.un; omega, r.gd⟩
theorem Room.deeper {k : Nat} {A : Around} (r : Room (k + 1) A) (env : Env) : Room k (A.deeper env) :=
  ⟨r.hd, by have := r.dp; show A.depth + 1 + 3 * k + 5 < _; omega, by have := r.un; show A.units + 3 + 16 * k + 200 < _; omega, r.gd⟩
theorem Room.in1 {k : Nat} {A : Around} (r : Room (k + 1) A) : Room k A.in1 :=
  ⟨r.hd, by have := r.dp; show A.depth + 3 * k + 5 < _; omega, by have := r.un; show A.units + 1 + 16 * k + 200 < _; omega, r.gd⟩
theorem make_depth {A : Around} {C : Addr} {us : List Value} {kw : List (Str × Value)} : (A.under (.builtin "type.__call__" ⟨.ref C :: us, kw⟩)).depth = A.depth + 1 := by
  first | rfl | simp [Around.under, Code.weight, Code.isCreation, Code.isGuard, Code.isCaller, Code.frames, Code.isFrame, guardIds]
theorem make_units {A : Around} {C : Addr} {us : List Value} {kw : List (Str × Value)} : (A.under (.builtin "type.__call__" ⟨.ref C :: us, kw⟩)).units = A.units + 1 := by
  first | rfl | simp [Around.under, Code.cUnits, Code.frames, Code.isFrame]
theorem Room.make {k : Nat} {A : Around} (r : Room (k + 1) A) (C : Addr) (us : List Value) (kw : List (Str × Value)) : Room k (A.under (.builtin "type.__call__" ⟨.ref C :: us, kw⟩)) :=
  ⟨r.hd, by have := r.dp; rw [make_depth]; omega, by have := r.un; rw [make_units]; omega, by first | exact r.gd | (simp [Around.under, Code.guards, Code.isGuard, guardIds, pushGuards]; exact r.gd)⟩
theorem Room.depth {k : Nat} {A : Around} (r : Room k A) : A.depth < recursionLimit := by have := r.dp; omega
theorem Room.units {k : Nat} {A : Around} (r : Room k A) : A.units + 64 < cLine := by have := r.un; omega
def tNil : TA := fun _ H Q => Q [] H
def tCons (ta : TE) (tr : TA) : TA := fun σ H Q => ta σ H fun x H1 => tr σ H1 fun xs H2 => Q (x :: xs) H2
section
variable {X : Cx} {e : Expr} {es : List Expr} {te : TE} {t : TA} {pos : Pos}
theorem pa_nil : PA X [] tNil := fun _ _ _ _ H Q I h => Calls.spliced_nil ⟨[], H, I, .nil, h⟩
theorem pa_cons (ha : PE X e te) (hr : PA X es t) (hs : starEach (e :: es) X.env = (false, eval e X.env) :: starEach es X.env := by rfl) : PA X (e :: es) (tCons te t) := by
  intro pos pins s σ H Q I h
  rw [hs]
  show wpAny _ _ (spliced ((false, eval e X.env) :: backTo pos (starEach es X.env))) _ _ s
  refine Calls.spliced_cons (thn (ha pins s σ H _ I h) fun u s1 ⟨x, H1, I1, r1, q1⟩ => ?_)
  exact thn (hr pos pins s1 σ H1 _ I1 q1) fun us s2 ⟨xs, H2, I2, r2, q2⟩ => ⟨x :: xs, H2, I2, .cons r1 r2, q2⟩
end
/-- a def's promise: the bound arguments in the parameters' order, the heap, the wanted end, the wanted exception -/
abbrev Sp := List V → Hp → VK → XK → Prop
/-- how an exception lies behind a call (file 08 gives it): the callers' frames, abstract heap and state ahead of the call, the wish, the exception, the state -/
abbrev CXT := List Env → Hp → Shared → XK → Value → Shared → Prop
/-- the state at a call -/
structure Env0 (P : Program) (w : World) (K : PySem.W.Frag) (mg : Str → Option Value) (base : Heap) (A : Around) (outer : List Env) (s : Shared) (H : Hp) : Prop where
  frames : A.frames = some outer
  mod : Mod K mg base
  bs : ∀ b o, base.get? b = some o → s.heap.get? b = some o ∧ H b = none
  bsz : base.objs.size ≤ s.heap.objs.size
  funs : s.heap.FunFrames base outer
  frf : ∀ b ∈ frs outer, H b = none
  hok : HOk P w H s.heap
  bare : AllBare s.gens
/-- a call's end -/
def CE (outer : List Env) (P : Program) (w : World) (H : Hp) (s : Shared) (Q : VK) (u : Value) (s' : Shared) : Prop :=
  ∃ v H', s'.os = s.os ∧ AllBare s'.gens ∧ Un (frs outer) [] H H' s.heap s'.heap ∧ HOk P w H' s'.heap ∧ RelV v u ∧ Q v H'
def CR (CX : CXT) (outer : List Env) (P : Program) (w : World) (H : Hp) (s : Shared) (Q : VK) (E : XK) (r : Result) (s' : Shared) : Prop :=
  match r with
  | .ok (.ret u) => CE outer P w H s Q u s'
  | .ok _ => False
  | .error e => CX outer H s E e s'
structure FnOk (P : Program) (w : World) (K : PySem.W.Frag) (mg : Str → Option Value) (base : Heap) (CX : CXT) (k : Nat) (f : Addr) (fd : FuncData) (ps : List Str) (sp : Sp) : Prop where
  len : ∀ vs H Q E, sp vs H Q E → vs.length = ps.length
  run : ∀ (A : Around) (outer : List Env) (s : Shared) (H : Hp) (args : Args) (us : List Value) (vs : List V) (Q : VK) (E : XK), Room k A → Env0 P w K mg base A outer s H → BindsTo s fd args (ps.zip us) → Vals vs us → sp vs H Q E →
    codeAny (model P w) A (.call (.ref f) args) (CR CX outer P w H s Q E) s
theorem FnOk.mono {P : Program} {w : World} {K : PySem.W.Frag} {mg : Str → Option Value} {base : Heap} {CX : CXT} {j k : Nat} {f : Addr} {fd : FuncData} {ps : List Str} {sp : Sp} (F : FnOk P w K mg base CX j f fd ps sp) (h : j ≤ k) :
    FnOk P w K mg base CX k f fd ps sp := ⟨F.len, fun A outer s H args us vs Q E hr => F.run A outer s H args us vs Q E (hr.mono h)⟩
theorem Env0.make {P : Program} {w : World} {K : PySem.W.Frag} {mg : Str → Option Value} {base : Heap} {A : Around} {outer : List Env} {s : Shared} {H : Hp} (e : Env0 P w K mg base A outer s H) (C : Addr) (us : List Value) (kw : List (Str × Value)) :
    Env0 P w K mg base (A.under (.builtin "type.__call__" ⟨.ref C :: us, kw⟩)) outer s H := ⟨by first | exact e.frames | (simpa [Around.under, Code.envs, Code.isFrame, pushEnvs] using e.frames), e.mod, e.bs, e.bsz, e.funs, e.frf, e.hok, e.bare⟩
theorem Env0.in1 {P : Program} {w : World} {K : PySem.W.Frag} {mg : Str → Option Value} {base : Heap} {A : Around} {outer : List Env} {s : Shared} {H : Hp} (e : Env0 P w K mg base A outer s H) :
    Env0 P w K mg base A.in1 outer s H := ⟨e.frames, e.mod, e.bs, e.bsz, e.funs, e.frf, e.hok, e.bare⟩
section
variable {X : Cx} {pins : List (Addr × Obj)} {σ : St} {H : Hp} {s s' : Shared}
/-- from a body: what a callee wants -/
theorem Inv.env0 (I : Inv X pins σ H s) : Env0 X.prog X.w X.K X.mg X.base X.A X.stack s H :=
  ⟨I.ok.frames, I.ok.mod, I.bs, Nat.le_trans I.ok.bsz I.sz, I.stack, I.stkFree, I.hok, I.bare⟩
/-- behind a call -/
theorem Inv.after {Q : VK} {u : Value} (I : Inv X pins σ H s) (h : CE X.stack X.prog X.w H s Q u s') : EP X pins σ Q u s' := by
  obtain ⟨v, H', os, bare, un, hok, r, q⟩ := h
  obtain ⟨hh, g, d, t, os'⟩ := s'
  obtain rfl : os' = s.os := os
  exact ⟨v, H', I.call (h' := hh) (g' := g) (d' := d) (t' := t) (ch := []) un hok bare (fun b z => absurd z (by simp)), r, q⟩
end
/-- f(..): the written arguments, then the defaults dvs; E: what is wanted of an exception -/
def tCall (sp : Sp) (dvs : List V) (E : XK) (t : TA) : TE := fun σ H Q => t σ H fun vs H1 => sp (vs ++ dvs) H1 Q E
/-- o.m(..) of an instance of the class at C -/
def tMeth (C : Addr) (m : Str) (sp : Sp) (dvs : List V) (E : XK) (ta : TE) (t : TA) : TE := fun σ H Q => ta σ H fun x H1 => ∃ a dx fs, x = .ref a ∧ H1 a = some (.ins C dx fs) ∧ fs.lookup m = none ∧
  t σ H1 fun vs H2 => sp (x :: (vs ++ dvs)) H2 Q E
/-- how the parameters are bound: us the positional arguments, kw the keywords' values by name, ds the defaults that fill up -/
def Binds (K : PySem.W.Frag) (fd : FuncData) (ps : List Str) (ds : List Value) : Prop :=
  ∀ (s : Shared) (us : List Value), K.In s.heap → (us ++ ds).length = ps.length → BindsTo s fd ⟨us, []⟩ (ps.zip (us ++ ds))
/-- every parameter is given -/
theorem Binds.all {K : PySem.W.Frag} {fd : FuncData} {ps : List Str} (h : ∀ us : List Value, us.length = ps.length → bindArgs fd ⟨us, []⟩ = pure (ps.zip us)) : Binds K fd ps [] := fun s us _ hl => by
  rw [List.append_nil] at hl ⊢
  exact .of_eq (h us hl)
/-- an exception of a callee reaches what this body wants of exceptions -/
def Passes (CX : CXT) (X : Cx) (E : XK) : Prop := ∀ (pins : List (Addr × Obj)) (σ : St) (H : Hp) (s : Shared) (e : Value) (s' : Shared), Inv X pins σ H s → CX X.stack H s E e s' → X.xe e s'
section
variable {X : Cx} {CX : CXT} {k : Nat} {f C : Addr} {fd : FuncData} {ps : List Str} {sp : Sp} {dvs : List V} {ds : List Value} {E : XK} {x m : Str} {p pos apos : Pos} {e o : Expr} {es : List Expr} {ta : TE} {t : TA}
/-- the callee runs -/
theorem run_fn {pins : List (Addr × Obj)} {σ : St} {H : Hp} {s : Shared} {Q : VK} {us : List Value} {vs : List V} (F : FnOk X.prog X.w X.K X.mg X.base CX k f fd ps sp) (hr : Room k X.A) (hb : Binds X.K fd ps ds) (hd : Vals dvs ds) (hx : Passes CX X E)
    (I : Inv X pins σ H s) (r : Vals vs us) (h : sp (vs ++ dvs) H Q E) : wpAny (model X.prog X.w) X.A (call (.ref f) us) (EP X pins σ Q) X.xe s := by
  have r2 : Vals (vs ++ dvs) (us ++ ds) := r.append hd
  have hl : (us ++ ds).length = ps.length := by rw [← r2.length]; exact F.len _ _ _ _ h
  refine wpAny_call (codeAny_mono (F.run X.A X.stack s H ⟨us, []⟩ (us ++ ds) (vs ++ dvs) Q E hr I.env0 (hb s us I.kIn hl) r2 h) fun r s' hq => ?_)
  cases r with
  | error e => exact hx pins σ H s e s' I hq
  | ok fl =>
    cases fl with
    | ret u => exact I.after hq
    | next => exact False.elim hq
    | brk => exact False.elim hq
    | cont => exact False.elim hq
theorem pe_call (F : FnOk X.prog X.w X.K X.mg X.base CX k f fd ps sp) (hr : Room k X.A) (hg : Gl X x) (hm : X.mg x = some (.ref f)) (hk : PySem.W.keepIn X.K (.ref f) = true) (hb : Binds X.K fd ps ds) (hd : Vals dvs ds) (hx : Passes CX X E)
    (ha : PA X (e :: es) t) (hdb : (x == ("__debug__" : Str)) = false := by decide) (he : starEach (e :: es) X.env = (false, eval e X.env) :: starEach es X.env := by rfl) (hpl : (backTo pos (starEach es X.env)).any (·.1) = false := by rfl) :
    PE X (.Call (.Name x p) (e :: es) [] pos) (tCall sp dvs E t) := by
  intro pins s σ H Q I h
  refine wpAny_Call_Name_kw (ld_glob I hg hm ?_ hdb)
  refine PySem.W.callWith_K (h₀ := X.base) I.ok.mod.kin hk (thn (ha pos pins s σ H _ I h) fun us s1 ⟨vs, H1, I1, r, q⟩ => ⟨I1.kIn, ?_⟩) he hpl
  exact run_fn F hr hb hd hx I1 r q
/-- o.m(e, ..) -/
theorem pe_meth {pl : Sem Bool} (he : PE X o ta) (c : Cls X.K C) (hm : Meth X.K C m f) (F : FnOk X.prog X.w X.K X.mg X.base CX k f fd ps sp) (hr : Room k X.A) (hb : Binds X.K fd ps ds) (hd : Vals dvs ds) (hx : Passes CX X E) (ha : PA X (e :: es) t)
    (hst : starEach (e :: es) X.env = (false, eval e X.env) :: starEach es X.env := by rfl) (hpl : (backTo pos (starEach es X.env)).any (·.1) = false := by rfl)
    (ht : eval (.Call (.Attribute o m apos) (e :: es) [] pos) X.env = (do
      let ov ← eval o X.env
      standAt apos.atName
      let (f, first) ← holding [ov] (getMethod ov m pl)
      callWith pos f first (backTo pos (starEach (e :: es) X.env)) (backToKw pos (keywordEach [] X.env))) := by rfl) :
    PE X (.Call (.Attribute o m apos) (e :: es) [] pos) (tMeth C m sp dvs E ta t) := by
  intro pins s σ H Q I h
  refine PySem.W.methodCall_KW (pl := pl) (thn (he pins s σ H _ I h) fun u s1 ⟨x, H1, I1, rx, a, dx, fs, ex, ea, l, q⟩ => ?_) ht
  subst ex
  obtain rfl : u = Value.ref a := rx
  refine getmeth_ok I1 ea c hm l ?_
  refine PySem.W.callWith_K (first := [.ref a]) (h₀ := X.base) I.ok.mod.kin hm.kp (thn (ha pos pins s1 σ H1 _ I1 q) fun us s2 ⟨vs, H2, I2, r, q2⟩ => ⟨I2.kIn, ?_⟩) hst hpl
  exact run_fn (us := .ref a :: us) (vs := .ref a :: vs) F hr hb hd hx I2 (.cons rfl r) q2
/-- o.m() -/
theorem pe_meth0 {pl : Sem Bool} (he : PE X o ta) (c : Cls X.K C) (hm : Meth X.K C m f) (F : FnOk X.prog X.w X.K X.mg X.base CX k f fd ps sp) (hr : Room k X.A) (hb : Binds X.K fd ps ds) (hd : Vals dvs ds) (hx : Passes CX X E)
    (ht : eval (.Call (.Attribute o m apos) [] [] pos) X.env = (do
      let ov ← eval o X.env
      standAt apos.atName
      let (f, first) ← holding [ov] (getMethod ov m pl)
      callWith pos f first (backTo pos (starEach [] X.env)) (backToKw pos (keywordEach [] X.env))) := by rfl) :
    PE X (.Call (.Attribute o m apos) [] [] pos) (tMeth C m sp dvs E ta tNil) := by
  intro pins s σ H Q I h
  refine PySem.W.methodCall_KW (pl := pl) (thn (he pins s σ H _ I h) fun u s1 ⟨x, H1, I1, rx, a, dx, fs, ex, ea, l, q⟩ => ?_) ht
  subst ex
  obtain rfl : u = Value.ref a := rx
  refine getmeth_ok I1 ea c hm l ?_
  exact PySem.W.callWith_K0 (first := [.ref a]) I1.kIn hm.kp (run_fn (us := [.ref a]) (vs := [.ref a]) F hr hb hd hx I1 (.cons rfl .nil) q)
/-- what a class must have to be made -/
structure Mk (K : PySem.W.Frag) (C f : Addr) : Prop where
  makes : PySem.W.makesIn K C = true
  init : PySem.W.findIn K (.ref C) "__init__" = some (some (.ref f))
  fn : PySem.W.isFn K (.ref f) = true
  kp : PySem.W.keepIn K (.ref C) = true
theorem run_make {pins : List (Addr × Obj)} {σ : St} {H : Hp} {s : Shared} {Q : VK} {us : List Value} {vs : List V} (M : Mk X.K C f) (F : FnOk X.prog X.w X.K X.mg X.base CX k f fd ps sp) (hr : Room (k + 1) X.A) (hb : Binds X.K fd ps ds) (hd : Vals dvs ds)
    (hx : Passes CX X E) (I : Inv X pins σ H s) (r : Vals vs us)
    (h : ∀ x dx, H x = none → H dx = none → dx ≠ x → sp (.ref x :: (vs ++ dvs)) (upd (upd H dx (.own x)) x (.ins C dx [])) (fun v H2 => v = .non ∧ Q (.ref x) H2) E) :
    wpAny (model X.prog X.w) X.A (call (.ref C) us) (EP X pins σ Q) X.xe s := by
  have hq := h (s.heap.objs.size + 1) s.heap.objs.size (I.hok.fresh (Nat.le_succ _)) (I.hok.fresh (Nat.le_refl _)) (Nat.ne_of_lt (Nat.lt_succ_self _))
  have I2 := Inv.made (C := C) I
  have r2 : Vals (V.ref (s.heap.objs.size + 1) :: (vs ++ dvs)) (Value.ref (s.heap.objs.size + 1) :: (us ++ ds)) := .cons rfl (r.append hd)
  have hl : (Value.ref (s.heap.objs.size + 1) :: us ++ ds).length = ps.length := by
    have e := r2.length
    rw [F.len _ _ _ _ hq] at e
    exact e.symm
  refine wpAny_call (make_map (f := f) I.kIn M.makes M.init (beq_iff_eq.mp M.fn) (codeAny_mono (F.run _ X.stack _ _ ⟨Value.ref (s.heap.objs.size + 1) :: us, []⟩ (Value.ref (s.heap.objs.size + 1) :: (us ++ ds)) _ _ E (hr.make C us [])
    (I2.env0.make C us []) (hb _ (Value.ref (s.heap.objs.size + 1) :: us) I2.kIn hl) r2 hq) fun r s' hq' => ?_))
  cases r with
  | error e => exact hx pins σ _ _ e s' I2 hq'
  | ok fl =>
    cases fl with
    | ret u =>
      obtain ⟨v, H', I3, rv, ev, q3⟩ := I2.after hq'
      subst ev
      exact ⟨rv, ⟨V.ref (s.heap.objs.size + 1), H', I3, rfl, q3⟩⟩
    | next => exact False.elim hq'
    | brk => exact False.elim hq'
    | cont => exact False.elim hq'
end
section
variable {X : Cx} {CX : CXT} {k : Nat} {f C : Addr} {fd : FuncData} {ps ks : List Str} {sp : Sp} {E : XK} {x m : Str} {p pos apos kpos : Pos} {e o : Expr} {es : List Expr} {kws : List Keyword} {te ta : TE} {t tk : TA} {nm : Option Str}
variable {g : List Value → List Value → List Value} {gV : List V → List V → List V}
end
/-- names: the parameters first -/
structure FnScope (N P : List Str) (sc : Scope) : Prop where
  kind : sc.kind = .function
  co : sc.isCoroutine = false
  gen : sc.isGenerator = false
  nd : N.Nodup
  pre : N.take P.length = P
  par : ∀ x ∈ P, sc.names.lookup x = some .local ∨ sc.names.lookup x = some .cell
  nofree : ∀ y ∈ sc.names, y.2 ≠ .free
theorem bindL_out {kindOf : Str → Option NameKind} {x : Str} : ∀ {binds : List (Str × Value)} {m : Str → Option Value}, (∀ v, (x, v) ∉ binds) → bindL kindOf binds m x = m x
  | [], _, _ => rfl
  | (n, v) :: r, m, h => by
    unfold bindL
    rw [bindL_out fun w hw => h w (List.mem_cons_of_mem _ hw)]
    split
    · have : x ≠ n := by rintro rfl; exact h v List.mem_cons_self
      simp [this]
    · rfl
theorem bindC_out {kindOf : Str → Option NameKind} {x : Str} : ∀ {binds : List (Str × Value)} {m : Str → Option Value}, (∀ v, (x, v) ∉ binds) → bindC kindOf binds m x = m x
  | [], _, _ => rfl
  | (n, v) :: r, m, h => by
    unfold bindC
    rw [bindC_out fun w hw => h w (List.mem_cons_of_mem _ hw)]
    split
    · rfl
    · have : x ≠ n := by rintro rfl; exact h v List.mem_cons_self
      simp [this]
theorem bindL_get {kindOf : Str → Option NameKind} {x : Str} {v : Value} : ∀ {P : List Str} {vs : List Value} {i : Nat} {m : Str → Option Value}, P.Nodup → P[i]? = some x → vs[i]? = some v → kindOf x = some .local →
    bindL kindOf (P.zip vs) m x = some v
  | [], _, _, _, _, h, _, _ => by simp at h
  | _ :: _, [], _, _, _, _, h, _ => by simp at h
  | p :: P, w :: vs, 0, m, nd, h1, h2, hk => by
    simp at h1 h2; subst h1; subst h2
    show bindL kindOf ((p, w) :: P.zip vs) m p = _
    unfold bindL
    rw [bindL_out fun v hv => (List.nodup_cons.mp nd).1 (List.of_mem_zip hv).1, if_pos hk]
    simp
  | p :: P, w :: vs, i + 1, m, nd, h1, h2, hk => by
    show bindL kindOf ((p, w) :: P.zip vs) m x = _
    unfold bindL
    exact bindL_get (i := i) (List.nodup_cons.mp nd).2 (by simpa using h1) (by simpa using h2) hk
theorem bindC_get {kindOf : Str → Option NameKind} {x : Str} {v : Value} : ∀ {P : List Str} {vs : List Value} {i : Nat} {m : Str → Option Value}, P.Nodup → P[i]? = some x → vs[i]? = some v → kindOf x ≠ some .local →
    bindC kindOf (P.zip vs) m x = some v
  | [], _, _, _, _, h, _, _ => by simp at h
  | _ :: _, [], _, _, _, _, h, _ => by simp at h
  | p :: P, w :: vs, 0, m, nd, h1, h2, hk => by
    simp at h1 h2; subst h1; subst h2
    show bindC kindOf ((p, w) :: P.zip vs) m p = _
    unfold bindC
    rw [bindC_out fun v hv => (List.nodup_cons.mp nd).1 (List.of_mem_zip hv).1, if_neg hk]
    simp
  | p :: P, w :: vs, i + 1, m, nd, h1, h2, hk => by
    show bindC kindOf ((p, w) :: P.zip vs) m x = _
    unfold bindC
    exact bindC_get (i := i) (List.nodup_cons.mp nd).2 (by simpa using h1) (by simpa using h2) hk
/-- the names' values at the entry -/
def start (N : List Str) (vs : List V) : St := vs.map some ++ List.replicate (N.length - vs.length) none
/-- the context of a def's body, at its entry; an exception leaves the frame, then lies as CX says -/
def cxOf (CX : CXT) (P : Program) (w : World) (K : PySem.W.Frag) (mg : Str → Option Value) (base : Heap) (N : List Str) (qual : Str) (scope : Scope) (f : Addr) (cd : Value) (A : Around) (outer : List Env) (s : Shared) (H : Hp) (E : XK) : Cx where
  prog := P
  w := w
  K := K
  mg := mg
  base := base
  A := A.deeper (envOfC qual scope s.heap.objs.size f cd)
  N := N
  s₀ := s
  H₀ := H
  env := envOfC qual scope s.heap.objs.size f cd
  outer := outer
  stack := envOfC qual scope s.heap.objs.size f cd :: outer
  ex := []
  calm := true
  fn := fun _ => true
  pn := []
  xe := fun e s' => wpAny (model P w) (A.deeper (envOfC qual scope s.heap.objs.size f cd)) (leaving (envOfC qual scope s.heap.objs.size f cd) e) (fun _ s'' => CX outer H s E e s'') (fun e' s'' => CX outer H s E e' s'') s'
theorem cell_has {sc : Scope} {n : Nat} {x : Str} (h : sc.names.lookup x = some .cell) : ∃ c, (cellsFrom n sc.names []).lookup x = some c := by
  have q := PySem.W.cellsFrom_some sc.names n [] (.inl h)
  exact Option.isSome_iff_exists.mp q
theorem inv_start {CX : CXT} {P : Program} {w : World} {K : PySem.W.Frag} {mg : Str → Option Value} {base : Heap} {N ps : List Str} {qual : Str} {scope : Scope} {f : Addr} {cd : Value} {A : Around} {outer : List Env} {s s1 : Shared} {H : Hp} {E : XK} {us : List Value} {vs : List V}
    (S : FnScope N ps scope) (hd : A.handled = none) (e0 : Env0 P w K mg base A outer s H) (hl : vs.length = ps.length) (r : Vals vs us)
    (x : InCallC s s.heap.objs.size (bindL (envOfC qual scope s.heap.objs.size f cd).kindOf (ps.zip us) fun _ => none) (cellsFrom (s.heap.objs.size + 1) scope.names []) (bindC (envOfC qual scope s.heap.objs.size f cd).kindOf (ps.zip us) fun _ => none) s1) :
    Inv (cxOf CX P w K mg base N qual scope f cd A outer s H E) [] (start N vs) H s1 := by
  have hpl : ps.length ≤ N.length := by have := congrArg List.length S.pre; rw [List.length_take] at this; omega
  obtain ⟨h1, tk, rfl, hk⟩ := x.done
  have noA : ∀ b : Addr, b ∉ (cxOf CX P w K mg base N qual scope f cd A outer s H E).ex := fun b z => absurd (show b ∈ ([] : List Addr) from z) (by simp)
  refine ⟨⟨e0.mod, S.kind, rfl, rfl, Nat.le_refl _, fun y z c h1 h2 => ?_, fun y hy => ?_, fun y c _ h => ?_, fun _ => hd, Around.frames_deeper e0.frames, .inr ⟨rfl, rfl⟩, fun b z => absurd z (noA b), e0.bs, e0.bsz, fun b _ _ => noA b, fun b z => absurd z (noA b), e0.funs, e0.frf⟩,
    rfl, e0.bare, Un.kept hk, ⟨_, x.toInCall.ns, fun i y v h1 h2 h3 => ?_⟩, fun y c h => ⟨_, x.cell y c h⟩, e0.hok.fresh (Nat.le_refl _), fun y c h => ?_, fun p hp => absurd (show p ∈ ([] : List (Addr × Obj)) from hp) (by simp), e0.hok.kept hk, ?_⟩
  · exact name_of_addr x.apart (PySem.mem_of_lookup h1) (PySem.mem_of_lookup h2)
  · have hy : scope.names.lookup y = some .cell ∨ scope.names.lookup y = some .free := hy
    rcases hy with hy | hy
    · exact cell_has hy
    · exact absurd rfl (S.nofree _ (PySem.mem_of_lookup hy))
  · exact Nat.le_of_lt (x.above y c (PySem.mem_of_lookup h))
  · have hi : i < vs.length := by
      unfold start at h2
      by_cases hi : i < vs.length
      · exact hi
      · rw [List.getElem?_append_right (by simpa using hi)] at h2
        rw [List.getElem?_replicate] at h2
        split at h2 <;> cases h2
    have ha : vs[i]? = some v := by
      unfold start at h2
      rw [List.getElem?_append_left (by simpa using hi), List.getElem?_map] at h2
      cases e : vs[i]? with
      | none => rw [e] at h2; cases h2
      | some a => rw [e] at h2; cases h2; rfl
    obtain ⟨u, hu, rv⟩ := r.get ha
    have hp : ps[i]? = some y := by
      rw [← S.pre, List.getElem?_take_of_lt (by omega)]; exact h1
    have ndP : ps.Nodup := by rw [← S.pre]; exact S.nd.sublist (List.take_sublist _ _)
    refine ⟨u, rv, ?_⟩
    rcases S.par y (List.mem_of_getElem? hp) with k | k
    · exact .inl ⟨k, bindL_get ndP hp hu k⟩
    · obtain ⟨c, e⟩ := cell_has (n := s.heap.objs.size + 1) k
      refine .inr ⟨.inl k, c, e, ?_⟩
      have q := x.cell y c e
      rw [bindC_get ndP hp hu (by show scope.names.lookup y ≠ _; rw [k]; decide)] at q
      exact q
  · exact e0.hok.fresh (Nat.le_of_lt (x.above y c (PySem.mem_of_lookup h)))
  · unfold start
    show _ = N.length
    rw [List.length_append, List.length_map, List.length_replicate]
    omega
/-- THE RULE: a def (or a method) of the text, by its body. The body's reading t is chosen for each entry; it is run at the parameters' values -/
theorem fn_of {CX : CXT} {P : Program} {w : World} {K : PySem.W.Frag} {mg : Str → Option Value} {base : Heap} {k : Nat} {f : Addr} {name qual : Str} {params : Arguments} {body : List Stmt} {scope : Scope} {dV kV doc pm cdv ct oc : Value} {an od : Option Addr}
    {osl : Array (Option Value)} {N ps : List Str} {sp : Sp} (lk : K.lookup f = some ⟨oc, od, .func (PySem.W.fnOf name qual params body scope dV kV doc pm an cdv ct), osl⟩) (hcd : PySem.W.codeIn K cdv qual = true) (S : FnScope N ps scope)
    (len : ∀ vs H Q E, sp vs H Q E → vs.length = ps.length)
    (hbody : ∀ (A : Around) (outer : List Env) (s : Shared) (H : Hp) (vs : List V) (Q : VK) (E : XK), Room k (A.deeper (envOfC qual scope s.heap.objs.size f cdv)) → sp vs H Q E →
      ∃ t, PSs (cxOf CX P w K mg base N qual scope f cdv A outer s H E) body t ∧ t { nx := fun _ H' => Q .non H', rt := Q } (start N vs) H) :
    FnOk P w K mg base CX (k + 1) f (PySem.W.fnOf name qual params body scope dV kV doc pm an cdv ct) ps sp := by
  refine ⟨len, fun A outer s H args us vs Q E hr e0 hb r hsp => ?_⟩
  have hl := len _ _ _ _ hsp
  have KX : K.In s.heap := e0.mod.kin.keeps fun b o e => (e0.bs b o e).1
  have lim : s.heap.NoLimit := e0.mod.nolimit.keeps fun b o e => (e0.bs b o e).1
  have hkind : ∀ y ∈ ps.zip us, scope.names.lookup y.1 = some .local ∨ (scope.names.lookup y.1 = some .cell ∧ ((cellsFrom (s.heap.objs.size + 1) scope.names []).lookup y.1).isSome = true) := fun ⟨n, v⟩ hy => by
    rcases S.par n (List.of_mem_zip hy).1 with q | q
    · exact .inl q
    · exact .inr ⟨q, PySem.W.cellsFrom_some _ _ _ (.inl q)⟩
  refine codeAny_call_function hr.depth (KX _ _ lk) rfl S.co S.gen rfl (PySem.W.codeRec_of KX hcd) (hb _ _ _ _ ?_)
  refine wpAny_newFunctionEnv_cells S.kind hkind fun env he s1 x => ?_
  subst he
  refine ⟨lim.keeps x.toInCall.keep, codeAny_func ?_⟩
  obtain ⟨t, ht, hq⟩ := hbody A outer s H vs Q E (hr.deeper _) hsp
  have I : Inv (cxOf CX P w K mg base N qual scope f cdv A outer s H E) [] (start N vs) H s1 := inv_start S hr.hd e0 hl r x
  refine wpAny_mono (ht [] s1 (start N vs) H _ I hq) (fun fl s' hs => ?_) fun e s' hs => hs
  have fin : ∀ {σ' : St} {H' : Hp} {v : V} {u : Value}, Inv (cxOf CX P w K mg base N qual scope f cdv A outer s H E) [] σ' H' s' → RelV v u → Q v H' → CE outer P w H s Q u s' :=
    fun {σ' H' v u} J rv q => ⟨v, H', J.os, J.bare, J.base, J.hok, rv, q⟩
  cases fl with
  | ret u =>
    obtain ⟨v, σ', H', J, rv, q⟩ := hs
    exact fin J rv q
  | next =>
    obtain ⟨σ', H', J, q⟩ := hs
    exact fin (v := V.non) (u := Value.none) J rfl q
  | brk =>
    obtain ⟨_, _, _, q⟩ := hs
    exact False.elim q
  | cont =>
    obtain ⟨_, _, _, q⟩ := hs
    exact False.elim q
end L2
namespace L2
open PySem PySem.Spec PyProof.Rows
section
variable {X : Cx} {x : Str} {p pos : Pos} {e : Expr} {es : List Expr} {t : TA} {id T : String} {r : List V → Hp → VK → Prop}
def tCB (r : List V → Hp → VK → Prop) (t : TA) : TE := fun σ H Q => t σ H fun vs H1 => r vs H1 Q
/-- f(e, ..), f a built-in function -/
theorem pe_callB (hc : CallR X (.builtin id) r) (hg : Gl X x) (hm : X.mg x = none) (hv : bootBuiltins x = some (.builtin id)) (ha : PA X (e :: es) t) (hn : x ≠ "__name__" := by decide) (hdb : (x == ("__debug__" : Str)) = false := by decide)
    (he : starEach (e :: es) X.env = (false, eval e X.env) :: starEach es X.env := by rfl) (hpl : (backTo pos (starEach es X.env)).any (·.1) = false := by rfl) : PE X (.Call (.Name x p) (e :: es) [] pos) (tCB r t) := by
  intro pins s σ H Q I h
  refine wpAny_Call_Name_kw (ld_blt I hg hm hv ?_ hn hdb)
  exact PyProof.Rows.callWith_builtin1 (thn (ha pos pins s σ H _ I h) fun us s1 ⟨vs, H1, I1, r1, q1⟩ => hc pins s1 σ H1 vs us Q I1 r1 q1) he hpl
end
end L2
namespace HT
open PySem PyProof.Rows
section
open PySem.SeqAt
open PySem.AutoSeq1 (wpAny_loadPart')
open PySem.MeetsSeq PySem.MeetsSeq2 PySem.MeetsSeq3
end
section
variable {prog : Program} {w : World} {A : Around} {E : Value → Shared → Prop} {s : Shared}
/-- a slice's bound as a place among n (d where it is left out) -/
def sIx (n d : Nat) : Option Int → Nat
  | none => d
  | some v => if v < 0 then (v + (n : Int)).toNat else min v.toNat n
theorem sIx_nat (n d k : Nat) : sIx n d (some (k : Int)) = min k n := by
  show (if (k : Int) < 0 then ((k : Int) + (n : Int)).toNat else min (k : Int).toNat n) = min k n
  rw [if_neg (by omega), Int.toNat_natCast]
end
end HT
namespace L2
open PySem PySem.Spec PyProof.Rows
abbrev TO := St → Hp → (Option Int → Hp → Prop) → Prop
/-- a slice's part (left out, or an int) -/
def PO (X : Cx) (e : Option Expr) (t : TO) : Prop :=
  ∀ (pins : List (Addr × Obj)) (s : Shared) (σ : St) (H : Hp) (Q : Option Int → Hp → Prop), Inv X pins σ H s → t σ H Q →
    wpAny (model X.prog X.w) X.A (evalPart e X.env) (fun u s' => ∃ o H', Inv X pins σ H' s' ∧ IsPart u o ∧ Q o H') X.xe s
def tNoPart : TO := fun _ H Q => Q none H
def tPart (t : TE) : TO := fun σ H Q => t σ H fun x H1 => ∃ i, x = .int i ∧ Q (some i) H1
section
variable {X : Cx} {e : Expr} {te : TE} {lo hi : Option Expr} {tl th : TO} {pos p2 : Pos}
theorem po_some (h : PE X e te) : PO X (some e) (tPart te) := by
  intro pins s σ H Q I hw
  rw [evalPart_some]
  refine thn (h pins s σ H _ I hw) fun u s1 ⟨x, H1, I1, r1, q1⟩ => ?_
  obtain ⟨i, rfl, q⟩ := q1
  obtain ⟨t, rfl⟩ := r1
  exact ⟨some i, H1, I1, .int i t, q⟩
/-- what a slice of a value is, by values: the slice object stands at sl -/
def SlR (X : Cx) (r : V → Option Int → Option Int → Hp → VK → Prop) : Prop :=
  ∀ (pins : List (Addr × Obj)) (s : Shared) (σ : St) (H : Hp) (x : V) (v vl vu : Value) (lo hi : Option Int) (sl : Addr) (Q : VK), Inv X pins σ H s → RelV x v → s.heap.IsSliceOf sl vl vu .none → IsPart vl lo → IsPart vu hi → r x lo hi H Q →
    ∃ T id, typeLookup (.type T) "__getitem__" = pure (some (.builtin id)) ∧ s.TypeIs v T ∧ wpAny (model X.prog X.w) X.A (getItem v (.ref sl)) (EP X pins σ Q) X.xe s
theorem SlR.or {r r' : V → Option Int → Option Int → Hp → VK → Prop} (h : SlR X r) (h' : SlR X r') : SlR X (fun x lo hi H Q => r x lo hi H Q ∨ r' x lo hi H Q) := by
  intro pins s σ H x v vl vu lo hi sl Q I rx hs pl pu q
  rcases q with q | q
  · exact h pins s σ H x v vl vu lo hi sl Q I rx hs pl pu q
  · exact h' pins s σ H x v vl vu lo hi sl Q I rx hs pl pu q
def tSl (r : V → Option Int → Option Int → Hp → VK → Prop) (te : TE) (tl th : TO) : TE := fun σ H Q => te σ H fun x H1 => tl σ H1 fun l H2 => th σ H2 fun u H3 => r x l u H3 Q
/-- a[lo:hi], any a -/
theorem pe_slice {r : V → Option Int → Option Int → Hp → VK → Prop} (hr : SlR X r) (he : PE X e te) (hl : PO X lo tl) (hu : PO X hi th) : PE X (.Subscript e (.Slice lo hi none p2) pos) (tSl r te tl th) := by
  intro pins s σ H Q I h
  refine Subscript_ (thn (he pins s σ H _ I h) fun v s1 ⟨x, H1, I1, r1, q1⟩ => ?_)
  refine wpAny_Slice (thn (hl pins s1 σ H1 _ I1 q1) fun vl s2 ⟨l, H2, I2, pl, q2⟩ => thn (hu pins s2 σ H2 _ I2 q2) fun vu s3 ⟨u, H3, I3, pu, q3⟩ => ?_)
  rw [evalPart_none]
  refine wpAny_pure ?_
  have I4 : Inv X pins σ H3 { s3 with heap := s3.heap.push { cls := .type "slice", data := .fields #[vl, vu, .none] } } := I3.kept (t' := s3.toks) fun b ob q => Heap.get?_push_of_some _ q
  obtain ⟨T, id, hT, ht, hg⟩ := hr pins { s3 with heap := s3.heap.push { cls := .type "slice", data := .fields #[vl, vu, .none] } } σ H3 x v vl vu l u s3.heap.objs.size Q I4 r1 (Heap.IsSliceOf.new ..) pl pu q3
  show wpAny (model X.prog X.w) X.A (subscriptTail e (.Slice lo hi none p2) v (.ref s3.heap.objs.size)) (EP X pins σ Q) X.xe { s3 with heap := s3.heap.push { cls := .type "slice", data := .fields #[vl, vu, .none] } }
  exact tail_any (ops := [.ref s3.heap.objs.size, v]) ht hT hg (by with_unfolding_all rfl)
/-- the items of xs[lo:hi] -/
def cutV (xs : List V) (lo hi : Option Int) : List V := (xs.drop (HT.sIx xs.length 0 lo)).take (HT.sIx xs.length xs.length hi - HT.sIx xs.length 0 lo)
theorem cutV_length (xs : List V) (lo hi : Option Int) : (cutV xs lo hi).length ≤ xs.length := by
  unfold cutV
  rw [List.length_take, List.length_drop]
  omega
/-- t[lo:hi], not the whole of it (the whole would be t itself) -/
def rSlT (K : PySem.W.Frag) : V → Option Int → Option Int → Hp → VK → Prop := fun x lo hi H Q => ∃ a xs, x = .ref a ∧ SqT K H a xs ∧
  ¬ (HT.sIx xs.length 0 lo = 0 ∧ HT.sIx xs.length xs.length hi = xs.length) ∧ ∀ p, H p = none → Q (.ref p) (upd H p (.tup (cutV xs lo hi)))
end
end L2
namespace L2
open PySem PySem.Spec PyProof.Rows
/-- the place that an index of any sign means -/
def ixN (n : Nat) (i : Int) : Option Nat := if 0 ≤ i then (if i < n then some i.toNat else none) else if -(n : Int) ≤ i then some (i + n).toNat else none
def atI {α : Type} (xs : List α) (i : Int) : Option α := (ixN xs.length i).bind fun j => xs[j]?
theorem ixN_seq {n : Nat} {i : Int} {j : Nat} (h : ixN n i = some j) : seqIndex? i n = some j ∧ j < n ∧ -(n : Int) ≤ i ∧ i < n := by
  unfold ixN at h
  by_cases h0 : 0 ≤ i
  · rw [if_pos h0] at h
    by_cases h1 : i < n
    · rw [if_pos h1] at h
      have e : i.toNat = j := Option.some.inj h
      exact ⟨by rw [seqIndex_of h0 h1, e], by omega, by omega, h1⟩
    · rw [if_neg h1] at h; cases h
  · rw [if_neg h0] at h
    by_cases h1 : -(n : Int) ≤ i
    · rw [if_pos h1] at h
      have e : (i + n).toNat = j := Option.some.inj h
      exact ⟨by rw [seqIndex_neg (by omega) h1, e], by omega, h1, by omega⟩
    · rw [if_neg h1] at h; cases h
theorem atI_get {α : Type} {xs : List α} {i : Int} {v : α} (h : atI xs i = some v) : ∃ j, seqIndex? i xs.length = some j ∧ xs[j]? = some v ∧ j < xs.length ∧ -(xs.length : Int) ≤ i ∧ i < xs.length := by
  unfold atI at h
  cases e : ixN xs.length i with
  | none => rw [e] at h; cases h
  | some j =>
    rw [e] at h
    obtain ⟨h1, h2, h3, h4⟩ := ixN_seq e
    exact ⟨j, h1, h, h2, h3, h4⟩
theorem atI_nat {α : Type} {xs : List α} {j : Nat} {v : α} (h : xs[j]? = some v) : atI xs (j : Int) = some v := by
  have hj : j < xs.length := (List.getElem?_eq_some_iff.mp h).1
  have e : ixN xs.length (j : Int) = some j := by
    unfold ixN
    rw [if_pos (by omega), if_pos (by omega)]; simp
  unfold atI; rw [e]; exact h
theorem atI_last {α : Type} (xs : List α) (v : α) : atI (xs ++ [v]) (-1) = some v := by
  have hl : (xs ++ [v]).length = xs.length + 1 := by simp
  have e : ixN (xs ++ [v]).length (-1) = some xs.length := by
    unfold ixN
    rw [hl, if_neg (by decide), if_pos (by omega)]
    congr 1
    omega
  unfold atI
  rw [e]
  show (xs ++ [v])[xs.length]? = some v
  simp
/-- what stands as an index of a plain subscript -/
def PlainIx (b : Expr) : Prop := ∀ o i, subscripted b false o i = operate [o, i] (getItem o i)
/-- a subscript by values -/
def IxR (X : Cx) (r : R2) : Prop :=
  ∀ (value slice : Expr) (pins : List (Addr × Obj)) (s : Shared) (σ : St) (H : Hp) (x y : V) (v u : Value) (Q : VK), Inv X pins σ H s → RelV x v → RelV y u → r x y H Q →
    subscripted slice false v u = operate [v, u] (getItem v u) → wpAny (model X.prog X.w) X.A (subscriptTail value slice v u) (EP X pins σ Q) X.xe s
/-- a call of a builtin's method by values: the receiver, the arguments -/
def MtR (X : Cx) (id : String) (r : V → List V → Hp → VK → Prop) : Prop :=
  ∀ (pins : List (Addr × Obj)) (s : Shared) (σ : St) (H : Hp) (x : V) (xs : List V) (v : Value) (us : List Value) (Q : VK), Inv X pins σ H s → RelV x v → Vals xs us → r x xs H Q →
    wpAny (model X.prog X.w) X.A (call (.builtin id) (v :: us)) (EP X pins σ Q) X.xe s
section
variable {X : Cx} {a b : Expr} {ta tb : TE} {pos : Pos}
theorem IxR.or {r r' : R2} (h : IxR X r) (h' : IxR X r') : IxR X (fun x y H Q => r x y H Q ∨ r' x y H Q) := by
  intro value slice pins s σ H x y v u Q I rx ry q hs
  rcases q with q | q
  · exact h value slice pins s σ H x y v u Q I rx ry q hs
  · exact h' value slice pins s σ H x y v u Q I rx ry q hs
theorem MtR.or {id : String} {r r' : V → List V → Hp → VK → Prop} (h : MtR X id r) (h' : MtR X id r') : MtR X id (fun x xs H Q => r x xs H Q ∨ r' x xs H Q) := by
  intro pins s σ H x xs v us Q I rx rs q
  rcases q with q | q
  · exact h pins s σ H x xs v us Q I rx rs q
  · exact h' pins s σ H x xs v us Q I rx rs q
/-- a[b] -/
theorem pe_ix {r : R2} (hr : IxR X r) (ha : PE X a ta) (hb : PE X b tb) (hs : PlainIx b) : PE X (.Subscript a b pos) (tOp r ta tb) := by
  intro pins s σ H Q I h
  exact Subscript_ (binT ha hb I h fun v u s2 x y H2 I2 rx ry q => hr a b pins s2 σ H2 x y v u Q I2 rx ry q (hs _ _))
def rIxL (K : PySem.W.Frag) : R2 := fun x y H Q => ∃ p xs i v, x = .ref p ∧ y = .int i ∧ SqL K H p xs ∧ atI xs i = some v ∧ Q v H
def rIxT (K : PySem.W.Frag) : R2 := fun x y H Q => ∃ p xs i v, x = .ref p ∧ y = .int i ∧ SqT K H p xs ∧ atI xs i = some v ∧ Q v H
def rIxS : R2 := fun x y H Q => ∃ z i c, x = .str z ∧ y = .int i ∧ z.length ≤ sizeLine ∧ atI z.cps.toList i = some c ∧ Q (.str ⟨#[c]⟩) H
theorem ix_list : IxR X (rIxL X.K) := by
  intro value slice pins s σ H x y v u Q I rx ry h hs
  obtain ⟨p, xs, i, z, rfl, rfl, hq, he, q⟩ := h
  cases rx
  obtain ⟨t, rfl⟩ := ry
  obtain ⟨its, r, pl, hz⟩ := I.list hq
  obtain ⟨j, h1, h2, h3, h4, h5⟩ := atI_get he
  obtain ⟨w, ew, rw'⟩ := r.get h2
  have hl := r.length
  have hn := line63
  have fin : EP X pins σ Q w s := ⟨z, H, I, rw', q⟩
  by_cases h0 : 0 ≤ i
  · have hj : i.toNat = j := by
      rw [seqIndex_of h0 h5] at h1
      exact Option.some.inj h1
    exact item_listR pl.isList h0 (by omega) (by rw [hj]; simpa using ew) fin hs
  · have hj : (i + (its.toArray.size : Int)).toNat = j := by
      rw [seqIndex_neg (by omega) h4] at h1
      rw [List.size_toArray, ← hl]
      exact Option.some.inj h1
    exact subscriptTail_builtinR (x := w) pl.isList.typeIs slot_list_getitem.lookup
      (wpAny_getItem_list_neg (Q := fun r s' => r = w ∧ EP X pins σ Q r s') pl.isList (by omega) (by rw [List.size_toArray] <;> omega) (by omega) (by rw [hj]; simpa using ew) ⟨rfl, fin⟩) hs
theorem ix_tup : IxR X (rIxT X.K) := by
  intro value slice pins s σ H x y v u Q I rx ry h hs
  obtain ⟨p, xs, i, z, rfl, rfl, hq, he, q⟩ := h
  cases rx
  obtain ⟨t, rfl⟩ := ry
  obtain ⟨its, r, pl, hz⟩ := I.tuple hq
  obtain ⟨j, h1, h2, h3, h4, h5⟩ := atI_get he
  obtain ⟨w, ew, rw'⟩ := r.get h2
  have hl := r.length
  have hn := line63
  have fin : EP X pins σ Q w s := ⟨z, H, I, rw', q⟩
  exact subscriptTail_builtinR (x := w) pl.typeIs slot_tuple_getitem.lookup
    (getItem_tuple (j := j) (Q := fun r s' => r = w ∧ EP X pins σ Q r s') pl (by omega) (by omega) (by rw [List.size_toArray, ← hl]; exact h1) (by simpa using ew) ⟨rfl, fin⟩) hs
/-- the list's object behind a store -/
theorem mapSeq_set (its : List Value) (n j : Nat) (u : Value) : Obj.mapSeq (·.setIfInBounds j u) { cls := .type "list", data := .seq its.toArray n } = { cls := .type "list", data := .seq (its.set j u).toArray n } := by
  simp [Obj.mapSeq]
theorem Inv.lst {pins : List (Addr × Obj)} {σ : St} {H : Hp} {s : Shared} {p : Addr} {xs : List V} (I : Inv X pins σ H s) (h : H p = some (.lst xs)) :
    ∃ (its : List Value) (n : Nat), Vals xs its ∧ s.heap.get? p = some { cls := .type "list", data := .seq its.toArray n } ∧ xs.length ≤ sizeLine := by
  obtain ⟨z, its, n, r, e⟩ := I.hok p _ h
  exact ⟨its, n, r, e, z⟩
/-- the list at p is written by an update of its object -/
theorem Inv.lstUpd {pins : List (Addr × Obj)} {σ : St} {H : Hp} {s : Shared} {p : Addr} {xs ys : List V} {its its' : List Value} {n n' : Nat} {f : Obj → Obj} (I : Inv X pins σ H s) (h : H p = some (.lst xs))
    (ho : s.heap.get? p = some { cls := .type "list", data := .seq its.toArray n }) (hf : f { cls := .type "list", data := .seq its.toArray n } = { cls := .type "list", data := .seq its'.toArray n' }) (r : Vals ys its') (hz : ys.length ≤ sizeLine) (t : Nat) :
    Inv X pins σ (upd H p (.lst ys)) { s with heap := s.heap.update p f, toks := t } := by
  have e : (s.heap.update p f).get? p = some { cls := .type "list", data := .seq its'.toArray n' } := by
    rw [Heap.get?_update_self f ho (by rw [hf] <;> rfl), hf]
  refine I.write (x := p) (e := p) (by rw [h]; trivial) (.inl rfl) (fun b u hb q => (Heap.get?_update_other _ _ (Ne.symm hb)).trans q) ⟨_, e⟩ ?_
  exact ⟨hz, its', n', r, e⟩
def rSetL : V → V → V → Hp → (Hp → Prop) → Prop := fun o i v H Q => ∃ p xs k j, o = .ref p ∧ i = .int k ∧ H p = some (.lst xs) ∧ ixN xs.length k = some j ∧ Q (upd H p (.lst (xs.set j v)))
theorem set_list : PSet X rSetL := by
  intro pins s σ H o i v ov iv u Q I ro ri rv h
  obtain ⟨p, xs, k, j, rfl, rfl, hp, hj, q⟩ := h
  cases ro
  obtain ⟨t, rfl⟩ := ri
  obtain ⟨its, n, r, ho, hz⟩ := I.lst hp
  obtain ⟨h1, h2, h3, h4⟩ := ixN_seq hj
  have hl := r.length
  have hn := line63
  have I' : Inv X pins σ (upd H p (.lst (xs.set j v))) { s with heap := s.heap.update p (Obj.mapSeq (·.setIfInBounds j u)) } :=
    I.lstUpd hp ho (mapSeq_set its n j u) (r.set rv j) (by rw [List.length_set]; exact hz) s.toks
  by_cases h0 : 0 ≤ k
  · have hk : k.toNat = j := by
      rw [seqIndex_of h0 h4] at h1
      exact Option.some.inj h1
    exact PySem.W.ki_setAt ho h0 (by omega) (by rw [List.size_toArray, ← hl]; exact h4) (by rw [hk]; exact ⟨_, I', q⟩)
  · have hk : (k + (its.toArray.size : Int)).toNat = j := by
      rw [seqIndex_neg (by omega) h3] at h1
      rw [List.size_toArray, ← hl]
      exact Option.some.inj h1
    exact PySem.W.ki_setBack ho (by omega) (by rw [List.size_toArray, ← hl]; exact h3) (by omega) (by rw [hk]; exact ⟨_, I', q⟩)
theorem slice_bounds (lo hi : Option Int) (n : Nat) : (sliceBounds lo hi none n).1 = ((HT.sIx n 0 lo : Nat) : Int) ∧ (sliceBounds lo hi none n).2.1 = ((HT.sIx n n hi : Nat) : Int) ∧ (sliceBounds lo hi none n).2.2 = 1 := by
  refine ⟨?_, ?_, rfl⟩
  · cases lo with
    | none => simp [sliceBounds, HT.sIx]
    | some i =>
      simp only [sliceBounds, HT.sIx, Option.getD_none, show (1 : Int) > 0 by decide, if_true]
      by_cases h : i < 0
      · simp only [h, if_true] <;> omega
      · simp only [h, if_false] <;> omega
  · cases hi with
    | none => simp [sliceBounds, HT.sIx]
    | some i =>
      simp only [sliceBounds, HT.sIx, Option.getD_none, show (1 : Int) > 0 by decide, if_true]
      by_cases h : i < 0
      · simp only [h, if_true] <;> omega
      · simp only [h, if_false] <;> omega
theorem slicePick_cut (its : List Value) (lo hi : Option Int) : slicePick its.toArray lo hi none = ((its.drop (HT.sIx its.length 0 lo)).take (HT.sIx its.length its.length hi - HT.sIx its.length 0 lo)).toArray := by
  obtain ⟨h1, h2, h3⟩ := slice_bounds lo hi its.toArray.size
  unfold slicePick
  rw [h1, h2, h3]
  simp only [sliceRange_one, pick_run, List.size_toArray] <;> rfl
/-- xs[lo:hi] of a list: a new list -/
def rSlL (K : PySem.W.Frag) : V → Option Int → Option Int → Hp → VK → Prop := fun x lo hi H Q => ∃ a xs, x = .ref a ∧ SqL K H a xs ∧ ∀ p, H p = none → Q (.ref p) (upd H p (.lst (cutV xs lo hi)))
theorem sl_list : SlR X (rSlL X.K) := by
  intro pins s σ H x v vl vu lo hi sl Q I rx hs pl pu h
  obtain ⟨a, xs, rfl, hx, q⟩ := h
  cases rx
  obtain ⟨its, r, ht, hz⟩ := I.list hx
  have hlen := r.length
  refine ⟨"list", _, slot_list_getitem.lookup, ht.isList.typeIs, ?_⟩
  refine wpAny_getItem_list_slice ht.isList hs pl pu .none (by simp) ?_ (by rw [List.size_toArray] <;> omega)
  rw [slicePick_cut, ← hlen]
  refine ⟨.ref s.heap.objs.size, _, I.laid (t' := s.toks) (o := .lst (cutV xs lo hi)) (fun b ob q => Heap.get?_push_of_some _ q) (Nat.le_refl _) ?_, rfl, q _ (I.hok.fresh (Nat.le_refl _))⟩
  exact ⟨Nat.le_trans (cutV_length xs lo hi) hz, _, 0, (r.drop (HT.sIx xs.length 0 lo)).take (HT.sIx xs.length xs.length hi - HT.sIx xs.length 0 lo), Heap.get?_push_size _ rfl⟩
def flatV : V → Bool
  | .non => true
  | .bl _ => true
  | .int _ => true
  | .str _ => true
  | _ => false
/-- == of flat values -/
def eqV : V → V → Bool
  | .non, .non => true
  | .bl a, .bl b => a == b
  | .bl a, .int b => (if a then 1 else 0) == b
  | .int a, .bl b => a == (if b then 1 else 0)
  | .int a, .int b => a == b
  | .str a, .str b => a == b
  | _, _ => false
theorem eqAt_V {A : Around} {s : Shared} {y x : V} {u v : Value} (ry : RelV y u) (rx : RelV x v) (fy : flatV y = true) (fx : flatV x = true) : SeqAt.EqAt A s u v (eqV y x) := by
  cases y with
  | non =>
    cases ry
    cases x with
    | non => cases rx; exact SeqAt.EqAt.same _
    | bl b => cases rx; exact SeqAt.EqAt.none_bool b
    | int b => obtain ⟨t, rfl⟩ := rx; exact SeqAt.EqAt.none_int b t
    | str b => obtain ⟨t, rfl⟩ := rx; exact SeqAt.EqAt.none_str b t
    | _ => exact absurd (show false = true from fx) Bool.false_ne_true
  | bl a =>
    cases ry
    cases x with
    | non => cases rx; exact SeqAt.EqAt.bool_none a
    | bl b => cases rx; exact SeqAt.EqAt.bool_bool a b
    | int b => obtain ⟨t, rfl⟩ := rx; exact SeqAt.EqAt.bool_int a b t
    | str b => obtain ⟨t, rfl⟩ := rx; exact SeqAt.EqAt.bool_str a b t
    | _ => exact absurd (show false = true from fx) Bool.false_ne_true
  | int a =>
    obtain ⟨t', rfl⟩ := ry
    cases x with
    | non => cases rx; exact SeqAt.EqAt.int_none a t'
    | bl b => cases rx; exact SeqAt.EqAt.int_bool a t' b
    | int b => obtain ⟨t, rfl⟩ := rx; exact SeqAt.EqAt.int_int a t' b t
    | str b => obtain ⟨t, rfl⟩ := rx; exact SeqAt.EqAt.int_str a t' b t
    | _ => exact absurd (show false = true from fx) Bool.false_ne_true
  | str a =>
    obtain ⟨t', rfl⟩ := ry
    cases x with
    | non => cases rx; exact SeqAt.EqAt.str_none a t'
    | bl b => cases rx; exact SeqAt.EqAt.str_bool a t' b
    | int b => obtain ⟨t, rfl⟩ := rx; exact SeqAt.EqAt.str_int a t' b t
    | str b => obtain ⟨t, rfl⟩ := rx; exact SeqAt.EqAt.str_str a t' b t
    | _ => exact absurd (show false = true from fx) Bool.false_ne_true
  | _ => exact absurd (show false = true from fy) Bool.false_ne_true
/-- the items' answers, read off the values (a value's own answer does not lean on its token) -/
def eqU (x : V) (u : Value) : Bool := match u with
  | .none => eqV .non x
  | .bool b => eqV (.bl b) x
  | .int i _ => eqV (.int i) x
  | .str z _ => eqV (.str z) x
  | _ => false
theorem eqU_of {x y : V} {u : Value} (r : RelV y u) (f : flatV y = true) : eqU x u = eqV y x := by
  cases y with
  | non => cases r; rfl
  | bl b => cases r; rfl
  | int i => obtain ⟨t, rfl⟩ := r; rfl
  | str z => obtain ⟨t, rfl⟩ := r; rfl
  | _ => exact absurd (show false = true from f) Bool.false_ne_true
theorem any_eqU {x : V} : ∀ {xs : List V} {us : List Value}, Vals xs us → xs.all flatV = true → us.any (eqU x) = xs.any fun y => eqV y x
  | _, _, .nil, _ => rfl
  | y :: xs, u :: us, .cons r t, f => by
    rw [List.all_cons, Bool.and_eq_true] at f
    rw [List.any_cons, List.any_cons, eqU_of r f.1, any_eqU t f.2]
theorem mem_eqAt {A : Around} {s : Shared} {x : V} {v : Value} (rx : RelV x v) (fx : flatV x = true) : ∀ {xs : List V} {us : List Value}, Vals xs us → xs.all flatV = true → ∀ u ∈ us, SeqAt.EqAt A s u v (eqU x u)
  | _, _, .nil, _ => fun u hu => by cases hu
  | y :: xs, u :: us, .cons r t, f => fun u' hu => by
    rw [List.all_cons, Bool.and_eq_true] at f
    rcases List.mem_cons.mp hu with rfl | hu
    · rw [eqU_of r f.1]; exact eqAt_V r rx f.1 fx
    · exact mem_eqAt rx fx t f.2 u' hu
def inV (x : V) (xs : List V) : Bool := xs.any fun y => eqV y x
/-- x in a list or tuple of flat items -/
def rIn (K : PySem.W.Frag) (neg : Bool) : R2 := fun x y H Q => ∃ p xs, y = .ref p ∧ (SqL K H p xs ∨ SqT K H p xs) ∧ flatV x = true ∧ xs.all flatV = true ∧ Q (.bl (if neg then !inV x xs else inV x xs)) H
theorem op_in_seq : OpR X (compareOp .In) (rIn X.K false) := by
  intro pins s σ H x y v u Q I rx ry h
  obtain ⟨p, xs, rfl, hq, fx, fs, q⟩ := h
  cases ry
  rcases hq with hq | hq
  · obtain ⟨its, r, pl, hz⟩ := I.list hq
    refine SeqAt.in_listAt (eqU x) pl.isList (fun w hw => mem_eqAt rx fx r fs w (by simpa using hw)) ⟨.bl _, H, I, rfl, ?_⟩
    rw [show its.toArray.any (eqU x) = its.any (eqU x) by simp, any_eqU r fs]
    exact q
  · obtain ⟨its, r, pl, hz⟩ := I.tuple hq
    refine SeqAt.in_tupleAt (eqU x) pl (fun w hw => mem_eqAt rx fx r fs w (by simpa using hw)) ⟨.bl _, H, I, rfl, ?_⟩
    rw [show its.toArray.any (eqU x) = its.any (eqU x) by simp, any_eqU r fs]
    exact q
theorem CallR.or {f : Value} {r r' : List V → Hp → VK → Prop} (h : CallR X f r) (h' : CallR X f r') : CallR X f (fun xs H Q => r xs H Q ∨ r' xs H Q) := by
  intro pins s σ H xs us Q I rs q
  rcases q with q | q
  · exact h pins s σ H xs us Q I rs q
  · exact h' pins s σ H xs us Q I rs q
/-- the value is of that builtin type -/
def tyV (K : PySem.W.Frag) (T : String) (x : V) (H : Hp) : Prop := match x with
  | .str _ => T = "str"
  | .int _ => T = "int"
  | .ref p => (T = "list" ∧ ∃ xs, SqL K H p xs) ∨ (T = "tuple" ∧ ∃ o, K.lookup p = some o ∧ o.cls = .type "tuple" ∧ o.dict = none) ∨
      (T = "dict" ∧ ((∃ kvs, H p = some (.dK kvs)) ∨ ∃ kvs, H p = some (.dT kvs))) ∨ (T = "set" ∧ ∃ S n, H p = some (.set S n))
  | _ => False
theorem tyV_is {pins : List (Addr × Obj)} {σ : St} {H : Hp} {s : Shared} {T : String} {x : V} {v : Value} (I : Inv X pins σ H s) (r : RelV x v) (ty : tyV X.K T x H) :
    s.TypeIs v T ∧ ∀ a, v = .ref a → ∃ ob, s.heap.get? a = some ob ∧ ob.dict = none := by
  cases x with
  | str z =>
    obtain ⟨t, rfl⟩ := r
    cases (show T = "str" from ty)
    exact ⟨typeIs_str s z t, fun _ e => nomatch e⟩
  | int i =>
    obtain ⟨t, rfl⟩ := r
    cases (show T = "int" from ty)
    exact ⟨typeIs_int s i t, fun _ e => nomatch e⟩
  | ref p =>
    cases r
    rcases ty with ⟨rfl, xs, hq⟩ | ⟨rfl, o, hk, hc, hd⟩ | ⟨rfl, hk⟩ | ⟨rfl, S, n, hk⟩
    · obtain ⟨its, _, pl, _⟩ := I.list hq
      refine ⟨pl.isList.typeIs, fun a e => ?_⟩
      cases e
      obtain ⟨o, n, e, c, hd, _⟩ := pl
      exact ⟨o, e, hd⟩
    · refine ⟨⟨o, I.kIn p o hk, hc⟩, fun a e => ?_⟩
      cases e
      exact ⟨o, I.kIn _ o hk, hd⟩
    · have z : ∃ o, s.heap.get? p = some o ∧ o.ExactDict := by
        rcases hk with ⟨kvs, hk⟩ | ⟨kvs, hk⟩
        · obtain ⟨_, _, _, _, o, _, _, e, ex, _⟩ := I.hok p _ hk
          exact ⟨o, e, ex⟩
        · obtain ⟨_, _, _, _, o, _, _, e, ex, _⟩ := I.hok p _ hk
          exact ⟨o, e, ex⟩
      obtain ⟨o, e, ex⟩ := z
      refine ⟨⟨o, e, ex.1⟩, fun a e2 => ?_⟩
      cases e2
      exact ⟨o, e, ex.2.1⟩
    · obtain ⟨o, _, _, _, e, ex, _⟩ := I.hok p _ hk
      refine ⟨⟨o, e, ex.1⟩, fun a e2 => ?_⟩
      cases e2
      exact ⟨o, e, ex.2.1⟩
  | _ => exact False.elim ty
def tBM0 (K : PySem.W.Frag) (T : String) (r : V → List V → Hp → VK → Prop) (to : TE) : TE := fun σ H Q => to σ H fun x H1 => tyV K T x H1 ∧ r x [] H1 Q
def tBM (K : PySem.W.Frag) (T : String) (r : V → List V → Hp → VK → Prop) (to : TE) (t : TA) : TE := fun σ H Q => to σ H fun x H1 => tyV K T x H1 ∧ t σ H1 fun xs H2 => r x xs H2 Q
variable {o e : Expr} {es : List Expr} {to : TE} {t : TA} {name : Str} {apos cpos : Pos} {T id : String} {r : V → List V → Hp → VK → Prop}
theorem pe_bm (pa : PlainAttrs T) (slot : Slot T name id) (hty : typeOf (.builtin id) = pure (.type "method_descriptor")) (hm : MtR X id r) (ho : PE X o to) (ha : PA X (e :: es) t)
    (hbase : attributeBase o name X.env (eval o X.env) = eval o X.env := by rfl)
    (hfew : ((backTo cpos (starEach (e :: es) X.env)).all (fun x => !x.1) && (backToKw cpos (keywordEach [] X.env)).all (fun x => x.1.isSome)
      && decide ((e :: es).length + ([] : List Keyword).length + (if ([] : List Keyword).isEmpty then 0 else 1) < 30)) = true := by rfl)
    (hline : (apos.endLine == cpos.line) = true := by rfl) (hs : starEach (e :: es) X.env = (false, eval e X.env) :: starEach es X.env := by rfl) (hplain : (backTo cpos (starEach es X.env)).any (·.1) = false := by rfl) :
    PE X (.Call (.Attribute o name apos) (e :: es) [] cpos) (tBM X.K T r to t) := by
  intro pins s σ H Q I h
  refine wpAny_Call_method_late hbase hfew hline rfl (thn (ho pins s σ H _ I h) fun v s1 ⟨x, H1, I1, r1, ty, q1⟩ => ?_)
  obtain ⟨h1, h2⟩ := tyV_is I1 r1 ty
  refine ⟨T, id, pa, slot, hty, h1, h2, ?_⟩
  have hA := ha cpos pins s1 σ H1 _ I1 q1
  rw [hs] at hA ⊢
  refine Calls.callWith_builtin (by show (false || (backTo cpos (starEach es X.env)).any (·.1)) = false; rw [hplain] <;> rfl) (Calls.evalArgs_plain ?_)
  exact thn hA fun us s2 ⟨vs, H2, I2, r2, q2⟩ => hm pins s2 σ H2 x vs v us Q I2 r1 r2 q2
end
end L2
namespace L2
open PySem PySem.Spec PyProof.Rows
def MtM (X : Cx) (id : String) (r : V → List V → Hp → VK → Prop) : Prop :=
  ∀ (pins : List (Addr × Obj)) (s : Shared) (σ : St) (H : Hp) (x : V) (xs : List V) (v : Value) (us : List Value) (Q : VK), Inv X pins σ H s → RelV x v → Vals xs us → r x xs H Q →
    wpAny (model X.prog X.w) X.A (call (.builtin id) (v :: us)) (EP X pins σ Q) X.xe s
theorem Vals.one : ∀ {x : V} {us : List Value}, Vals [x] us → ∃ u, us = [u] ∧ RelV x u
  | _, _, .cons r .nil => ⟨_, rfl, r⟩
theorem Vals.two : ∀ {x y : V} {us : List Value}, Vals [x, y] us → ∃ u v, us = [u, v] ∧ RelV x u ∧ RelV y v
  | _, _, _, .cons r (.cons q .nil) => ⟨_, _, rfl, r, q⟩
theorem Vals.zero : ∀ {us : List Value}, Vals [] us → us = []
  | _, .nil => rfl
theorem Vals.eraseIdx : ∀ {xs : List V} {us : List Value} (i : Nat), Vals xs us → Vals (xs.eraseIdx i) (us.eraseIdx i)
  | _, _, _, .nil => .nil
  | _, _, 0, .cons _ t => t
  | _, _, i + 1, .cons r t => .cons r (Vals.eraseIdx i t)
theorem Vals.reverse {xs : List V} {us : List Value} (h : Vals xs us) : Vals xs.reverse us.reverse := by
  induction h with
  | nil => exact .nil
  | cons r t ih => rw [List.reverse_cons, List.reverse_cons]; exact Vals.append ih (.cons r .nil)
theorem Vals.rep {xs : List V} {us : List Value} (h : Vals xs us) : ∀ k : Nat, Vals (List.replicate k xs).flatten (List.replicate k us).flatten
  | 0 => .nil
  | k + 1 => by
    rw [List.replicate_succ, List.replicate_succ, List.flatten_cons, List.flatten_cons]
    exact Vals.append h (Vals.rep h k)
theorem foldl_rep (its : List Value) : ∀ (k : Nat) (acc : List Value),
    List.foldl (fun x1 x2 => x1 ++ x2) acc.toArray (List.replicate k its.toArray) = (acc ++ (List.replicate k its).flatten).toArray
  | 0, acc => by simp
  | k + 1, acc => by
    have e : acc.toArray ++ its.toArray = (acc ++ its).toArray := by simp
    have e2 : (acc ++ its) ++ (List.replicate k its).flatten = acc ++ (List.replicate (k + 1) its).flatten := by
      rw [List.replicate_succ, List.flatten_cons, List.append_assoc]
    rw [← e2, ← foldl_rep its k (acc ++ its), ← e, List.replicate_succ, List.foldl_cons]
section
variable {X : Cx} {pins : List (Addr × Obj)} {σ : St} {H : Hp} {s : Shared} {l b : Addr} {xs ys zs : List V}
theorem Inv.lset {its its' : List Value} {n : Nat} {f : Array Value → Array Value} {t' : Nat} (I : Inv X pins σ H s) (hH : H l = some (.lst xs))
    (e : s.heap.get? l = some { cls := .type "list", data := .seq its.toArray n }) (hf : f its.toArray = its'.toArray) (hv : Vals ys its') (hz : ys.length ≤ sizeLine) :
    Inv X pins σ (upd H l (.lst ys)) { s with heap := s.heap.update l (Obj.mapSeq f), toks := t' } := by
  have q := PySem.IsL.update e f
  rw [hf] at q
  refine I.write (x := l) (e := l) (by rw [hH]; exact trivial) (.inl rfl) (fun b' u hb hu => (Heap.get?_update_other s.heap (Obj.mapSeq f) (Ne.symm hb)).trans hu) ⟨_, q⟩ ?_
  exact ⟨hz, its', _, hv, q⟩
theorem Inv.lnew {its : List Value} {t' : Nat} (I : Inv X pins σ H s) (hv : Vals ys its) (hz : ys.length ≤ sizeLine) :
    Inv X pins σ (upd H s.heap.objs.size (.lst ys)) { s with heap := s.heap.push { cls := .type "list", data := .seq its.toArray }, toks := t' } :=
  I.laid (fun _ _ q => Heap.get?_push_of_some _ q) (Nat.le_refl _) ⟨hz, its, 0, hv, Heap.get?_push_size _ rfl⟩
theorem Inv.fresh (I : Inv X pins σ H s) : H s.heap.objs.size = none := I.hok.fresh (Nat.le_refl _)
theorem Inv.lstM (I : Inv X pins σ H s) (hH : H l = some (.lst xs)) : xs.length ≤ sizeLine ∧ ∃ (its : List Value) (n : Nat), Vals xs its ∧ xs.length = its.length ∧ s.heap.get? l = some { cls := .type "list", data := .seq its.toArray n } := by
  obtain ⟨z, its, n, r, e⟩ := I.hok l _ hH
  exact ⟨z, its, n, r, r.length, e⟩
theorem notLongL {n : Nat} (h : n ≤ sizeLine) : Builtin.List.listTooLong n = false := by
  unfold Builtin.List.listTooLong
  exact decide_eq_false (by omega)
end
section
variable {X : Cx}
def rAppend : V → List V → Hp → VK → Prop := fun x vs H Q => ∃ l xs y, x = .ref l ∧ vs = [y] ∧ H l = some (.lst xs) ∧ xs.length < sizeLine ∧ Q .non (upd H l (.lst (xs ++ [y])))
theorem mt_append : MtM X "list.append" rAppend := by
  intro pins s σ H x vs v us Q I rx rv h
  obtain ⟨l, xs, y, rfl, rfl, hH, hz, q⟩ := h
  cases rx
  obtain ⟨u, rfl, ru⟩ := rv.one
  obtain ⟨z, its, n, r, hl, e⟩ := I.lstM hH
  refine call_meets F.slot_list_append ⟨_, e, rfl⟩ F.entry_list_append (F.args_list_append_2 _ _) (PySem.list_append l its.toArray n u (by rw [List.size_toArray]; omega)) ⟨e, ?_⟩
  refine ⟨.non, _, I.lset (its' := its ++ [u]) hH e (by simp) (r.append (.cons ru .nil)) ?_, rfl, q⟩
  rw [List.length_append, List.length_singleton]
  omega
def rCat : R2 := fun x y H Q => ∃ l b xs zs, x = .ref l ∧ y = .ref b ∧ H l = some (.lst xs) ∧ H b = some (.lst zs) ∧ xs.length + zs.length ≤ sizeLine ∧ ∀ p, H p = none → Q (.ref p) (upd H p (.lst (xs ++ zs)))
theorem op_cat : OpR X (binaryOp .Add) rCat := by
  intro pins s σ H x y v u Q I rx ry h
  obtain ⟨l, b, xs, zs, rfl, rfl, hH, hB, hz, q⟩ := h
  cases rx
  cases ry
  obtain ⟨z, its, n, r, hl, e⟩ := I.lstM hH
  obtain ⟨z2, its2, n2, r2, hl2, e2⟩ := I.lstM hB
  refine PySem.P.add_list e e2 ?_ (by rw [List.size_toArray, List.size_toArray]; omega)
  have ea : its.toArray ++ its2.toArray = (its ++ its2).toArray := by simp
  rw [ea]
  exact ⟨.ref _, _, I.lnew (t' := s.toks) (r.append r2) (by rw [List.length_append]; omega), rfl, q _ I.fresh⟩
/-- a list times an int (a negative one is nothing) -/
def rRep : R2 := fun x y H Q => ∃ l k xs, x = .ref l ∧ y = .int k ∧ H l = some (.lst xs) ∧ -(2 ^ 63) ≤ k ∧ k < 2 ^ 63 ∧ xs.length * k.toNat ≤ sizeLine ∧
  ∀ p, H p = none → Q (.ref p) (upd H p (.lst (List.replicate k.toNat xs).flatten))
theorem len_rep {α : Type} (xs : List α) (k : Nat) : (List.replicate k xs).flatten.length = k * xs.length := by
  induction k with
  | zero => simp
  | succ k ih => rw [List.replicate_succ, List.flatten_cons, List.length_append, ih, Nat.succ_mul, Nat.add_comm]
theorem op_rep : OpR X (binaryOp .Mult) rRep := by
  intro pins s σ H x y v u Q I rx ry h
  obtain ⟨l, k, xs, rfl, rfl, hH, h1, h2, hz, q⟩ := h
  cases rx
  obtain ⟨t, rfl⟩ := ry
  obtain ⟨z, its, n, r, hl, e⟩ := I.lstM hH
  have hlen : its.toArray.size * k.toNat ≤ sizeLine := by rw [List.size_toArray, ← hl]; exact hz
  have hcap : ¬ its.toArray.size * k.toNat > (2 ^ 63 - 1) / 8 := by
    have : (sizeLine : Nat) ≤ (2 ^ 63 - 1) / 8 := by decide
    omega
  have hfit : ¬ (!Builtin.List.listFitsIndex k) = true := by
    rw [fitsIndex_both h1 h2]
    exact Bool.false_ne_true
  have hlong : ¬ Builtin.List.listTooLong (its.toArray.size * k.toNat) = true := by
    rw [notLongL hlen]
    exact Bool.false_ne_true
  have hnew : List.foldl (fun x1 x2 => x1 ++ x2) #[] (List.replicate (if its.toArray.isEmpty = true then 0 else k.toNat) its.toArray) = (List.replicate k.toNat its).flatten.toArray := by
    have f0 : ∀ m : Nat, List.foldl (fun x1 x2 => x1 ++ x2) #[] (List.replicate m its.toArray) = (List.replicate m its).flatten.toArray := fun m => by
      have := foldl_rep its m []
      rw [List.nil_append] at this
      exact this
    rw [f0]
    cases its with
    | nil => simp
    | cons a r' => rw [if_neg (by simp)]
  refine wpAny_binaryOp_repeat_ref (T := "list") (U := "int") (by decide) ⟨_, e, rfl⟩ (fun s' => typeIs_int s' k t) noFill_list_mul F.fills_int_mul F.slot_int_rmul repeat_list F.slot_int_index.lookup
    (call_meets F.slot_int_rmul (typeIs_int s k t) F.entry_int_rmul (F.args_int_rmul_2 _ _) (int___rmul___int_list k t l its.toArray n)
      ⟨e, rfl, ⟨_, e, rfl⟩, call_meets F.slot_list_mul ⟨_, e, rfl⟩ F.entry_list_mul (F.args_list_mul_2 _ _) (AutoListH.list___mul___list_int_3 l its.toArray n k t hfit hcap hlong) ⟨e, ?_⟩⟩)
  rw [hnew]
  exact ⟨.ref _, _, I.lnew (t' := s.toks) (r.rep k.toNat) (by rw [len_rep, Nat.mul_comm]; exact hz), rfl, q _ I.fresh⟩
end
section
variable {prog : Program} {w : World} {A : Around} {E : Value → Shared → Prop} {s : Shared}
theorem splice_eq (its its2 : List Value) (a c : Nat) : its.toArray.extract 0 a ++ its2.toArray ++ its.toArray.extract c its.toArray.size = (its.take a ++ its2 ++ its.drop c).toArray := by
  apply Array.toList_inj.mp
  first
    | (simp
       exact List.take_of_length_le (by simp))
    | simp [List.take_of_length_le]
    | simp
theorem bounds_run {a c n : Nat} (hac : a ≤ c) (hc : c ≤ n) : sliceBounds (some (a : Int)) (some (c : Int)) none n = ((a : Int), (c : Int), 1) := by
  simp only [sliceBounds, Option.getD_none]
  have h1 : ¬ ((a : Int) < 0) := by omega
  have h2 : ¬ ((c : Int) < 0) := by omega
  simp only [h1, h2, if_false, show (1 : Int) > 0 by decide, if_true]
  congr 1
  · omega
  · congr 1; omega
set_option maxRecDepth 100000 in
/-- list.__setitem__ with a slice of step one and another list -/
theorem setItem_slice {l b sl : Addr} {items new : Array Value} {n n2 : Nat} {vl vu : Value} {a c : Nat} {Q : Unit → Shared → Prop}
    (e : s.heap.get? l = some { cls := .type "list", data := .seq items n }) (e2 : s.heap.get? b = some { cls := .type "list", data := .seq new n2 }) (hne : l ≠ b)
    (hs : s.heap.IsSliceOf sl vl vu .none) (pl : IsPart vl (some (a : Int))) (pu : IsPart vu (some (c : Int))) (hac : a ≤ c) (hc : c ≤ items.size)
    (hsz : items.size + new.size ≤ sizeLine) (h : Q () { s with heap := s.heap.update l (Obj.mapSeq fun xs => xs.extract 0 a ++ new ++ xs.extract c xs.size) }) :
    wpAny (model prog w) A (setItem (.ref l) (.ref sl) (.ref b)) Q E s := by
  have hl : s.heap.IsList l items := PySem.IsL.isList e
  have hb : s.heap.IsList b new := PySem.IsL.isList e2
  obtain ⟨os, hos, hcs, hds⟩ := id hs
  have hTs : s.TypeIs (.ref sl) "slice" := ⟨os, hos, hcs⟩
  have hstep : ¬ ((rawPart none == rawInt 0) = true) := Bool.false_ne_true
  have hsame : Builtin.List.listSameRef (.ref l) (.ref b) = false := by
    unfold Builtin.List.listSameRef
    exact beq_eq_false_iff_ne.mpr hne
  have hmax : (max (a : Int) (c : Int)).toNat = c := by omega
  have hz' : ((fun xs : Array Value => xs.extract 0 a ++ new ++ xs.extract c xs.size) items).size ≤ sizeLine + 1 := by
    simp only [Array.size_append, Array.size_extract]
    omega
  unfold setItem
  try with_reducible refine wpAny_holding ?_
  first | refine wpAny_bind (wpAny_pure ?_) | skip
  refine wpAny_bind (wpAny_sequenceKey hl.typeIs (by decide) ?_)
  refine wpAny_bind (wpAny_callSpecial?_slot (name := Str.ofString "__setitem__") hl.typeIs slot_list_setitem
    (wpAny_call_entry slot_list_setitem hl.typeIs entry_list_setitem ?_ (args_list_setitem _ _ _)))
  show wpAny _ _ (Builtin.List.listSubscript? (.ref sl) >>= _) _ _ s
  refine wpAny_bind ?_
  unfold Builtin.List.listSubscript?
  refine wpAny_bind (wpAny_specialOf hTs slice_no_index ?_)
  simp only [Option.isNone_none, if_true]
  refine wpAny_pure ?_
  show wpAny _ _ (typeOf (.ref sl) >>= _) _ _ s
  refine wpAny_bind (wpAny_typeOf hTs ?_)
  first
    | rw [if_neg (by decide)]
    | refine PySem.W.KFB.if_not (by decide) ?_
  rw [listSliceParts_eq]
  refine wpAny_bind (wpAny_bind (wpAny_field hos hds (x := .none) rfl (wpAny_bind (wpAny_listPart .none ?_))))
  rw [if_neg hstep]
  refine wpAny_bind (wpAny_field hos hds (x := vl) rfl (wpAny_bind (wpAny_listPart pl ?_)))
  refine wpAny_bind (wpAny_field hos hds (x := vu) rfl (wpAny_bind (wpAny_listPart pu (wpAny_pure ?_))))
  first
    | simp only [hsame, Bool.false_eq_true, if_false]
    | refine PySem.W.KFB.if_not hsame ?_
    | (dsimp only
       rw [if_neg (by rw [hsame]; exact Bool.false_ne_true)])
  refine wpAny_bind (m := Builtin.List.listAllItems (.ref b) "must assign iterable to extended slice") ?_
  unfold Builtin.List.listAllItems
  refine wpAny_bind (wpAny_typeOf hb.typeIs ?_)
  first
    | refine PySem.W.KFB.if_so (by decide) ?_
    | rw [if_pos (by decide)]
    | simp only [beq_self_eq_true, Bool.true_or, if_true]
  unfold Builtin.List.listItems
  refine wpAny_bind (wpAny_seqItems e2 rfl (wpAny_pure ?_))
  refine wpAny_bind (wpAny_bind (wpAny_seqItems e rfl (wpAny_pure ?_)))
  refine wpAny_bind (wpAny_of_eq ((sliceIndices_raw (some (a : Int)) (some (c : Int)) none items.size (by simp)).trans (congrArg (pure : Int × Int × Int → Sem (Int × Int × Int)) (bounds_run hac hc))) ?_)
  show wpAny _ _ (if ((1 : Int) == 1) = true then _ else _) _ _ s
  rw [if_pos (by decide)]
  refine wpAny_bind (wpAny_rule ?_)
  first
    | simp only [notLongL hsz, Bool.false_eq_true, if_false]
    | refine PySem.W.KFB.if_not (notLongL hsz) ?_
  first | refine wpAny_bind (wpAny_pure ?_) | skip
  show wpAny _ _ (updateSeq l (fun xs => xs.extract 0 ((a : Int)).toNat ++ new ++ xs.extract (max (a : Int) (c : Int)).toNat xs.size) >>= _) _ _ s
  rw [hmax, Int.toNat_natCast]
  refine wpAny_bind (wpAny_updateSeq (hz := Nat.le_trans (Nat.le_add_right _ _) hsz) (_hz' := hz') e rfl ?_)
  refine wpAny_bind (wpAny_letGo ?_)
  first
    | exact wpAny_bind (wpAny_pure (wpAny_pure ⟨.none, rfl, wpAny_pure h⟩))
    | exact wpAny_pure ⟨.none, rfl, wpAny_pure h⟩
end
section
variable {X : Cx}
/-- xs[a:c] = ys of another list, at the value level: sl is the slice object that was just made -/
theorem set_slice {pins : List (Addr × Obj)} {s : Shared} {σ : St} {H : Hp} {l b sl : Addr} {xs ys : List V} {a c : Int} {vl vu : Value} {Q : Unit → Shared → Prop} (I : Inv X pins σ H s)
    (hH : H l = some (.lst xs)) (hB : H b = some (.lst ys)) (hne : l ≠ b) (hs : s.heap.IsSliceOf sl vl vu .none) (ra : RelV (.int a) vl) (rc : RelV (.int c) vu) (h0 : 0 ≤ a) (hac : a ≤ c) (hc : c ≤ xs.length)
    (hz : xs.length + ys.length ≤ sizeLine) (h : ∀ s', Inv X pins σ (upd H l (.lst (xs.take a.toNat ++ ys ++ xs.drop c.toNat))) s' → Q () s') :
    wpAny (model X.prog X.w) X.A (setItem (.ref l) (.ref sl) (.ref b)) Q X.xe s := by
  obtain ⟨ta, rfl⟩ := ra
  obtain ⟨tc, rfl⟩ := rc
  obtain ⟨z, its, n, r, hl, e⟩ := I.lstM hH
  obtain ⟨z2, its2, n2, r2, hl2, e2⟩ := I.lstM hB
  obtain ⟨a', rfl⟩ := Int.eq_ofNat_of_zero_le h0
  obtain ⟨c', rfl⟩ := Int.eq_ofNat_of_zero_le (Int.le_trans h0 hac)
  simp only [Int.toNat_natCast] at h
  refine setItem_slice (a := a') (c := c') e e2 hne hs (.int _ _) (.int _ _) (by omega) (by rw [List.size_toArray]; omega) (by rw [List.size_toArray, List.size_toArray]; omega) (h _ ?_)
  refine I.lset (its' := its.take a' ++ its2 ++ its.drop c') (t' := s.toks) hH e ?_ (Vals.append (Vals.append (r.take _) r2) (r.drop _)) ?_
  · exact splice_eq its its2 a' c'
  · rw [List.length_append, List.length_append, List.length_take, List.length_drop]
    omega
end
end L2
namespace Att
open PySem PySem.W PySem.Calls PyProof.Rows
theorem ints_of_wellAll {P : Params} {h : Heap} : ∀ (ns : List Int) (vs : List Value), WellAll P h vs (ns.map WData.int) → IntsAre vs ns := by
  intro ns
  induction ns with
  | nil =>
    intro vs w
    rw [List.map_nil] at w
    cases w
    exact .nil
  | cons n ns ih =>
    intro vs w
    rw [List.map_cons] at w
    cases w with
    | cons a b =>
      cases a
      exact .cons _ _ (ih _ b)
theorem script_of {l : OpenLaw} {n : Nat} (hn : l.most = some n) {P : Params} {h : Heap} {args : List WData} {vals : List Value}
    (hpre : l.row.toRowW.claim.pre args = true) (hwl : WellAll P h vals args) :
    ∃ a vs ns, vals = [Value.ref a] ∧ args = [WData.list (ns.map WData.int)] ∧ h.get? a = some { cls := .type "list", data := .seq vs.toArray } ∧ IntsAre vs ns ∧ ns.length ≤ n := by
  have hsh : WShape.hasAll [] args [.list .int] = true := (pre_splitW hpre).1
  have hc : l.pre.holds [] { args := args } = true := (pre_splitW hpre).2
  obtain ⟨d, r, rfl, h1, h2⟩ := hasAllW_cons hsh
  obtain rfl := hasAllW_nil h2
  obtain ⟨xs, rfl, h3⟩ := hasW_list h1
  obtain ⟨ns, rfl⟩ := items_int h3
  have hlen : ns.length ≤ n := by
    unfold OpenLaw.pre at hc
    have h4 : (WTm.not (.lt (.lit (.int (n : Int))) (.len (.arg 0)))).holds [] { args := [.list (ns.map .int)] } = true := by
      have h4 := (holds_andW hc).1
      rw [hn] at h4
      exact h4
    have h5 := condW_of h4 (w_not (w_lt w_lit (w_len_list (w_arg rfl))))
    rw [List.length_map] at h5
    refine Nat.le_of_not_lt fun q => ?_
    have q' : (n : Int) < ((ns.length : Nat) : Int) := by omega
    first
      | (rw [decide_eq_true q'] at h5; exact absurd h5 (by decide))
      | (simp at h5; omega)
  cases hwl with
  | cons w1 w2 =>
    cases w2
    cases w1 with
    | list ho hall => exact ⟨_, _, ns, rfl, rfl, ho, ints_of_wellAll ns _ hall, hlen⟩
theorem post_true (l : OpenLaw) (args : List WData) : l.row.toRowW.claim.post args (.bool true) args = true :=
  postW_of (r := l.row.toRowW) (X := (true == true))
    (show WShape.has [] (.bool true) .bool = true by first | rfl | decide | simp [WShape.has, WShape.arms, WShape.armsAll])
    (show (WTm.eq .res (.lit (.bool true))).value [] { args := args, res := some (.bool true), after := args } = some (.bool (true == true)) from w_eq_bool (w_res rfl) w_lit) rfl
/-- the same from a codeAny of the CALL (for a layer whose function contracts speak of calls) -/
theorem attach_call {l : OpenLaw} {n : Nat} {q : Program} {loose : List Str} {XP : (Str → Option Value) → Heap → Prop} {YP : World → Heap → Prop} {d : DefRec}
    (hn : l.most = some n) (hdf : d.params.defaults = [])
    (call : ∀ (w : World) (s₀ s₁ : Shared) (mg mb : Str → Option Value) (fa : Addr) (o : Obj) (pm cd doc : Value) (a : Addr) (vs : List Value) (ns : List Int),
      Ground q loose [] XP w s₀ mg mb s₁.heap → YP w s₁.heap →
      s₁.heap.get? fa = some o → o.data = .func (docDef d.name d.params d.body d.scope pm cd doc) → s₁.heap.CodeRec cd d.name → mg d.name = some (.ref fa) →
      s₁.heap.get? a = some { cls := .type "list", data := .seq vs.toArray } → IntsAre vs ns → ns.length ≤ n → s₁.gens = #[] →
      codeAny (model l.prog w) callerA (.call (.ref fa) ⟨[.ref a], []⟩) (fun r s' => r = .ok (.ret (.bool true)) ∧ OldK s₁.heap s'.heap ∧ s'.os = s₁.os ∧ AllBare s'.gens) s₁) :
    WalkO q loose XP YP l.row.toRowW d [] (fun f vs => PySem.call f vs) := by
  intro w s₀ s₁ mg mb G Y fa o pm cd doc dV kV ho hd hcd hD hmg hg args vals as hpre hlay hrd hwl hlo
  obtain rfl : dV = .none := Dflts.none hD hdf
  obtain rfl : kV = .none := Dflts.noKw hD
  obtain ⟨a, vs, ns, rfl, rfl, hobj, hints, hlen⟩ := script_of hn hpre hwl
  refine enter_call (codeAny_mono (call w s₀ s₁ mg mb fa o pm cd doc a vs ns G Y ho (fd_plain hd) hcd hmg hobj hints hlen hg) fun r s' hq => ?_)
  obtain ⟨rfl, h2, h3, h4⟩ := hq
  exact ⟨.inl ⟨.bool true, .bool true, [], rfl, fun _ => rfl, .bool true, post_true l _, fun _ => ⟨List.Pairwise.nil, fun _ hm => (nomatch hm)⟩⟩, h2, h3, h4⟩
section
variable {prog : Program} {w : World} {A : Around} {E : Value → Shared → Prop} {s : Shared} {K : Frag}
end
end Att
namespace L2
open PySem PySem.Spec PyProof.Rows
theorem vals_ints : ∀ {vs : List Value} {ns : List Int}, IntsAre vs ns → Vals (ns.map V.int) vs
  | _, _, .nil => .nil
  | _, _, .cons n t h => .cons ⟨t, rfl⟩ (vals_ints h)
/-- nothing is tracked but the script, known to the object (or it is an object of the module) -/
def Only (H : Hp) : Prop := ∀ b, H b = none ∨ ∃ o xs, H b = some (.frz o (.lst xs))
/-- THE HEAD: the law's promise, at the heap behind the top. F, the promise of the law's def, may use that base is part of the heap (so K.In base, base.Ns mainGlobals mg stand in Mod) -/
theorem law_call {P : Program} {w : World} {K : PySem.W.Frag} {mg mb : Str → Option Value} {CX : CXT} {k : Nat} {fa a : Addr} {fd : FuncData} {x : Str} {sp : Sp} {s₁ : Shared} {vs : List Value} {ns : List Int}
    (KX : K.In s₁.heap) (hns : s₁.heap.Ns mainGlobals mg) (hb : s₁.heap.Ns builtinsNs mb) (hbb : ∀ x : Str, x ≠ "__name__" → mb x = bootBuiltins x) (hlim : s₁.heap.NoLimit) (hg : s₁.gens = #[])
    (ha : s₁.heap.get? a = some { cls := .type "list", data := .seq vs.toArray }) (hi : IntsAre vs ns) (hl : ns.length ≤ sizeLine) (hr : Room k callerA)
    (F : ∀ base : Heap, K.In base → base.Ns mainGlobals mg → FnOk P w K mg base CX k fa fd [x] sp) (hbind : ∀ (s : Shared) (u : Value), BindsTo s fd ⟨[u], []⟩ [(x, u)])
    (hsp : ∀ H : Hp, Only H → SqL K H a (ns.map V.int) → sp [.ref a] H (fun v _ => v = .bl true) fun _ _ _ => False)
    (hCX : ∀ H e s', CX [] H s₁ (fun _ _ _ => False) e s' → False) :
    codeAny (model P w) callerA (.call (.ref fa) ⟨[.ref a], []⟩) (fun r s' => r = .ok (.ret (.bool true)) ∧ OldK s₁.heap s'.heap ∧ s'.os = s₁.os ∧ AllBare s'.gens) s₁ := by
  have rv := vals_ints hi
  have lenV := hi.length
  -- from an abstract heap in which nothing but the script may be tracked
  have core : ∀ H : Hp, Only H → SqL K H a (ns.map V.int) → HOk P w H s₁.heap → (∀ b, H b ≠ none → b = a) → (H a ≠ none → K.lookup a = none) →
      codeAny (model P w) callerA (.call (.ref fa) ⟨[.ref a], []⟩) (fun r s' => r = .ok (.ret (.bool true)) ∧ OldK s₁.heap s'.heap ∧ s'.os = s₁.os ∧ AllBare s'.gens) s₁ := by
    intro H hO hS hok hA hK
    have base_of : ∀ {b : Addr} {o : Obj}, s₁.heap.get? b = some o → H b = none → (hidT s₁.heap H).get? b = some o := fun e n => hidT_get e n
    have noA : ∀ {b : Addr} {o : Obj} {es : Array DictEntry} {ep : Nat}, s₁.heap.get? b = some o → o.data = .dict es ep → H b = none := fun {b o es ep} e d => by
      cases q : H b with
      | none => rfl
      | some u =>
        have e' : b = a := hA b (by rw [q]; simp)
        subst e'
        rw [ha] at e; cases e
        have d' : Data.seq vs.toArray _ = Data.dict es ep := d
        cases d'
    have nsK : ∀ {b : Addr} {m : Str → Option Value}, s₁.heap.Ns b m → (hidT s₁.heap H).Ns b m := fun {b m} ⟨o, es, ep, e, d, r⟩ => ⟨o, es, ep, base_of e (noA e d), d, r⟩
    have hKb : K.In (hidT s₁.heap H) := fun b o e => base_of (KX b o e) (by
      cases q : H b with
      | none => rfl
      | some u =>
        have e' : b = a := hA b (by rw [q]; simp)
        subst e'
        rw [hK (by rw [q]; simp)] at e; cases e)
    have hM : Mod K mg (hidT s₁.heap H) := ⟨hKb, nsK hns, ⟨mb, nsK hb, hbb⟩, let ⟨mc, h1, h2⟩ := hlim; ⟨mc, nsK h1, h2⟩⟩
    have e0 : Env0 P w K mg (hidT s₁.heap H) callerA [] s₁ H := ⟨rfl, hM, fun b o e => of_hidT e, Nat.le_of_eq (hidT_size _ _), trivial, fun b hb => absurd (show b ∈ ([] : List Addr) from hb) (by simp), hok, .of_eq hg⟩
    refine codeAny_mono ((F _ hKb (nsK hns)).run callerA [] s₁ H ⟨[.ref a], []⟩ [.ref a] [.ref a] _ _ hr e0 (hbind s₁ (.ref a)) (.cons rfl .nil) (hsp H hO hS)) fun r s' h => ?_
    cases r with
    | error e => exact (hCX H e s' h).elim
    | ok fl =>
      cases fl with
      | next => exact False.elim h
      | brk => exact False.elim h
      | cont => exact False.elim h
      | ret u =>
        obtain ⟨v, H', os, bare, un, hok', r', q⟩ := h
        have q' : v = .bl true := q
        subst q'
        obtain rfl : u = Value.bool true := r'
        refine ⟨rfl, OldK.of_keep fun b o e => ?_, os, bare⟩
        cases q : H b with
        | none => exact un.keep b o e q (by intro z; exact absurd (show b ∈ ([] : List Addr) from z) (by simp)) (by simp)
        | some u =>
          rcases hO b with z | ⟨ob, xs, z⟩
          · rw [q] at z; cases z
          · have z2 := un.frzs b ob _ z
            obtain ⟨e1, _⟩ := hok b _ z
            obtain ⟨e2, _⟩ := hok' b _ z2
            rw [e] at e1; cases e1
            exact e2
  cases hk : K.lookup a with
  | some o =>
    -- the script is one of the module's own objects
    have e := KX a o hk
    rw [ha] at e
    cases e
    refine core (fun _ => none) (fun _ => .inl rfl) (.inr ⟨_, vs.toArray, _, hk, rfl, rfl, rfl, by rw [List.size_toArray, lenV]; exact hl, by simpa using rv⟩) (fun b u z => by have z' : (none : Option HO) = some u := z; cases z') (fun b z => absurd rfl z) fun z => absurd rfl z
  | none =>
    refine core (fun b => if b = a then some (.frz { cls := .type "list", data := .seq vs.toArray } (.lst (ns.map V.int))) else none) (fun b => ?_) (.inl (.inr ⟨{ cls := .type "list", data := .seq vs.toArray }, if_pos rfl⟩)) (fun b u z => ?_) (fun b z => ?_) fun _ => hk
    · by_cases hb : b = a
      · exact .inr ⟨_, _, if_pos hb⟩
      · exact .inl (if_neg hb)
    · by_cases hb : b = a
      · have z' := (if_pos hb).symm.trans z
        cases z'
        subst hb
        exact ⟨ha, by rw [List.length_map]; exact hl, vs, _, rv, ha⟩
      · have z' := (if_neg hb).symm.trans z
        cases z'
    · by_cases hb : b = a
      · exact hb
      · exact absurd (if_neg hb) z
end L2
namespace L2
open PySem PySem.Spec PyProof.Rows
/-- the goal that k_head leaves (case hc), from the law's promise. F gives the function object fd (K's own) once, then the promise over every base -/
theorem walk_of {l : PySem.W.OpenLaw} {n k : Nat} {q : Program} {loose : List Str} {XP : (Str → Option Value) → Heap → Prop} {YP : World → Heap → Prop} {d : DefRec} {K : Params → PySem.W.Frag} {CX : World → CXT} {sp : World → Sp} {x : Str}
    (hn : l.most = some n) (hn2 : n ≤ sizeLine) (hdf : d.params.defaults = []) (hr : Room k callerA)
    (hY : ∀ (w : World) (h : Heap), YP w h → (K w.params).In h)
    (F : ∀ (w : World) (mg : Str → Option Value) (fa : Addr) (h : Heap), (K w.params).In h → h.Ns mainGlobals mg → mg d.name = some (.ref fa) →
      ∃ fd : FuncData, (∀ (s : Shared) (u : Value), BindsTo s fd ⟨[u], []⟩ [(x, u)]) ∧
        ∀ base : Heap, (K w.params).In base → base.Ns mainGlobals mg → FnOk l.prog w (K w.params) mg base (CX w) k fa fd [x] (sp w))
    (hsp : ∀ (w : World) (H : Hp) (a : Addr) (ns : List Int), ns.length ≤ n → Only H → SqL (K w.params) H a (ns.map V.int) → sp w [.ref a] H (fun v _ => v = .bl true) fun _ _ _ => False)
    (hCX : ∀ (w : World) (H : Hp) (s : Shared) (e : Value) (s' : Shared), CX w [] H s (fun _ _ _ => False) e s' → False) :
    PySem.W.WalkO q loose XP YP l.row.toRowW d [] (fun f vs => PySem.call f vs) := by
  refine Att.attach_call hn hdf fun w s₀ s₁ mg mb fa o pm cd doc a vs ns G Y ho hd hcd hmg hobj hints hlen hg => ?_
  have KX := hY w _ Y
  obtain ⟨fd, hb, hF⟩ := F w mg fa _ KX G.T.g hmg
  exact law_call KX G.T.g G.T.b G.T.builtins G.T.nolimit hg hobj hints (Nat.le_trans hlen hn2) hr hF hb (fun H hO hS => hsp w H a ns hlen hO hS) fun H e s' => hCX w H s₁ e s'
end L2
namespace L2
open PySem PySem.Spec PyProof.Rows
/-- the j-th statement of a class's body -/
def inClass (s : Stmt) (j : Nat) : Stmt := match s with
  | .ClassDef _ _ _ body _ _ _ _ _ _ _ => body.getD j (.Pass ⟨0, 0, 0, 0⟩)
  | _ => .Pass ⟨0, 0, 0, 0⟩
def defArgs (s : Stmt) : Arguments := match s with
  | .FunctionDef _ a _ _ _ _ _ _ _ _ => a
  | _ => { posonlyargs := [], args := [], vararg := none, kwonlyargs := [], kw_defaults := [], kwarg := none, defaults := [] }
def defBody (s : Stmt) : List Stmt := match s with
  | .FunctionDef _ _ b _ _ _ _ _ _ _ => b
  | _ => []
def defScope (s : Stmt) : Scope := match s with
  | .FunctionDef _ _ _ _ _ _ sc _ _ _ => sc
  | _ => { kind := .function, names := [], isGenerator := false, isCoroutine := false }
abbrev CX0 : CXT := fun _ _ _ _ _ _ => False
abbrev E0 : XK := fun _ _ _ => False
theorem pass0 {X : Cx} : Passes CX0 X E0 := fun _ _ _ _ _ _ _ h => h.elim
structure Fun (K : PySem.W.Frag) (x qual : Str) (st : Stmt) (f : Addr) (fd : FuncData) : Prop where
  ex : ∃ (oc : Value) (od : Option Addr) (kV doc pm : Value) (an : Option Addr) (cdv ct : Value) (osl : Array (Option Value)),
    fd = PySem.W.fnOf x qual (defArgs st) (defBody st) (defScope st) .none kV doc pm an cdv ct ∧ K.lookup f = some ⟨oc, od, .func fd, osl⟩ ∧ PySem.W.codeIn K cdv qual = true
  kp : PySem.W.keepIn K (.ref f) = true
section
variable {P : Program} {w : World} {K : PySem.W.Frag} {mg : Str → Option Value} {base : Heap}
/-- THE RULE for a def: its body as a term of rules, and the reading of that term -/
theorem Fun.ok {x qual : Str} {st : Stmt} {f : Addr} {fd : FuncData} {N ps : List Str} {k : Nat} {sp : Sp} (F : Fun K x qual st f fd) (S : FnScope N ps (defScope st)) (len : ∀ vs H Q E, sp vs H Q E → vs.length = ps.length)
    (hbody : ∀ (cdv : Value) (A : Around) (outer : List Env) (s : Shared) (H : Hp) (vs : List V) (Q : VK) (E : XK), Room k (A.deeper (envOfC qual (defScope st) s.heap.objs.size f cdv)) → sp vs H Q E →
      ∃ t, PSs (cxOf CX0 P w K mg base N qual (defScope st) f cdv A outer s H E).nox (defBody st) t ∧ t { nx := fun _ H' => Q .non H', rt := Q } (start N vs) H) : FnOk P w K mg base CX0 (k + 1) f fd ps sp := by
  obtain ⟨oc, od, kV, doc, pm, an, cdv, ct, osl, rfl, lk, hcd⟩ := F.ex
  refine fn_of lk hcd S len fun A outer s H vs Q E hr hsp => ?_
  obtain ⟨t, h, q⟩ := hbody cdv A outer s H vs Q E hr hsp
  exact ⟨t, h.nox, q⟩
/-- how its arguments bind (no defaults): h is «fun _ _ _ _ _ _ us hl => match us, hl with | [_, _], _ => rfl», one _ a parameter -/
theorem Fun.binds {x qual : Str} {st : Stmt} {f : Addr} {fd : FuncData} {ps : List Str} (F : Fun K x qual st f fd)
    (h : ∀ (kV doc pm : Value) (an : Option Addr) (cdv ct : Value) (us : List Value), us.length = ps.length → bindArgs (PySem.W.fnOf x qual (defArgs st) (defBody st) (defScope st) .none kV doc pm an cdv ct) ⟨us, []⟩ = pure (ps.zip us)) : Binds K fd ps [] := by
  obtain ⟨oc, od, kV, doc, pm, an, cdv, ct, osl, rfl, lk, hcd⟩ := F.ex
  exact .all (h kV doc pm an cdv ct)
theorem fun_mk {x qual : Str} {st : Stmt} {f : Addr} {oc : Value} {od an : Option Addr} {osl : Array (Option Value)} {kV doc pm cdv ct : Value} (l : K.lookup f = some ⟨oc, od, .func (PySem.W.fnOf x qual (defArgs st) (defBody st) (defScope st) .none kV doc pm an cdv ct), osl⟩)
    (c : PySem.W.codeIn K cdv qual = true) (k : PySem.W.keepIn K (.ref f) = true) : Fun K x qual st f (PySem.W.fnOf x qual (defArgs st) (defBody st) (defScope st) .none kV doc pm an cdv ct) := ⟨⟨oc, od, kV, doc, pm, an, cdv, ct, osl, rfl, l, c⟩, k⟩
end
section
variable {X : Cx}
theorem pv (i : Nat) {x : Str} {pos : Pos} (hN : X.N[i]? = some x := by rfl) (hv : Vis X.env.scope x := by first | exact Or.inl rfl | exact Or.inr (Or.inl rfl) | exact Or.inr (Or.inr rfl)) (hd : (x == ("__debug__" : Str)) = false := by decide)
    (hcd : (x == ("__classdict__" : Str)) = false := by decide) : PE X (.Name x pos) (tVar i) := pe_var hN hv hd hcd
end
theorem iteF {A B : Prop} (h : B) : if false = true then A else B := by
  rw [if_neg Bool.false_ne_true]
  exact h
theorem iteT {A B : Prop} (h : A) : if true = true then A else B := by
  rw [if_pos rfl]
  exact h
/-- all that was tracked is as it was -/
def Same (H H' : Hp) : Prop := ∀ b o, H b = some o → H' b = some o
theorem Same.refl (H : Hp) : Same H H := fun _ _ h => h
theorem Same.trans {H H1 H2 : Hp} (a : Same H H1) (b : Same H1 H2) : Same H H2 := fun c o h => b c o (a c o h)
theorem Same.free {H H' : Hp} (e : Same H H') {l : Addr} (h : H' l = Option.none) : H l = Option.none := by
  cases q : H l with
  | none => rfl
  | some o =>
    rw [e l o q] at h
    cases h
theorem Same.seq {K : PySem.W.Frag} {H H' : Hp} {a : Addr} {xs : List V} (e : Same H H') (h : SqL K H a xs) : SqL K H' a xs := by
  rcases h with (h | ⟨o, h⟩) | h
  · exact .inl (.inl (e _ _ h))
  · exact .inl (.inr ⟨o, e _ _ h⟩)
  · exact .inr h
end L2
namespace L2
open PySem PySem.Spec PyProof.Rows
section
variable {κ : Type} [DecidableEq κ]
def valV (kvs : List (κ × V)) (k : κ) : Option V := (kvs.find? fun kv => decide (kv.1 = k)).map (·.2)
/-- in its place, or at the end -/
def putK (kvs : List (κ × V)) (k : κ) (v : V) : List (κ × V) :=
  if (kvs.any fun kv => decide (kv.1 = k)) = true then kvs.map (fun kv => if kv.1 = k then (kv.1, v) else kv) else kvs ++ [(k, v)]
def dropK (kvs : List (κ × V)) (k : κ) : List (κ × V) := kvs.filter fun kv => decide (kv.1 ≠ k)
theorem valV_pos {p : κ × V} {r : List (κ × V)} {k : κ} (e : p.1 = k) : valV (p :: r) k = some p.2 := by simp [valV, List.find?_cons, e]
theorem valV_neg {p : κ × V} {r : List (κ × V)} {k : κ} (e : ¬ p.1 = k) : valV (p :: r) k = valV r k := by simp [valV, List.find?_cons, e]
theorem valV_any (k : κ) : ∀ kvs : List (κ × V), (kvs.any fun kv => decide (kv.1 = k)) = (valV kvs k).isSome
  | [] => rfl
  | p :: r => by
    rw [List.any_cons]
    by_cases e : p.1 = k
    · simp only [valV_pos e, decide_eq_true e, Bool.true_or, Option.isSome_some]
    · rw [valV_neg e, decide_eq_false e, Bool.false_or]; exact valV_any k r
theorem RelO.isSome_eq {o : Option V} {u : Option Value} (r : RelO o u) : o.isSome = u.isSome := by
  cases o with
  | none => cases u with
    | none => rfl
    | some _ => exact (show False from r).elim
  | some _ => cases u with
    | none => exact (show False from r).elim
    | some _ => rfl
theorem RelO.getD {o : Option V} {u : Option Value} {d : V} {d' : Value} (r : RelO o u) (rd : RelV d d') : RelV (o.getD d) (u.getD d') := by
  cases o with
  | none => cases u with
    | none => exact rd
    | some _ => exact (show False from r).elim
  | some _ => cases u with
    | none => exact (show False from r).elim
    | some _ => exact r
/-- raw tables of the same keys -/
theorem KV.val {kvs : List (κ × V)} {vs : List (κ × Value)} (r : KV kvs vs) (k : κ) : RelO (valV kvs k) (valueAt vs k) := by
  unfold KV at r
  induction r with
  | nil => exact True.intro
  | @cons p q ps qs h t ih =>
    obtain ⟨h1, h2⟩ := h
    by_cases e : p.1 = k
    · have e' : q.1 = k := h1.symm.trans e
      have b : valueAt (q :: qs) k = some q.2 := by simp [valueAt, List.find?_cons, e']
      rw [valV_pos e, b]; exact h2
    · have e' : ¬ q.1 = k := fun z => e (h1.trans z)
      have b : valueAt (q :: qs) k = valueAt qs k := by simp [valueAt, List.find?_cons, e']
      rw [valV_neg e, b]; exact ih
theorem KV.any {kvs : List (κ × V)} {vs : List (κ × Value)} (r : KV kvs vs) (k : κ) : (kvs.any fun kv => decide (kv.1 = k)) = vs.any fun kv => decide (kv.1 = k) := by
  unfold KV at r
  induction r with
  | nil => rfl
  | cons h t ih => rw [List.any_cons, List.any_cons, ih, h.1]
theorem KV.repl {kvs : List (κ × V)} {vs : List (κ × Value)} (r : KV kvs vs) (k : κ) {y : V} {u : Value} (ry : RelV y u) :
    KV (kvs.map fun kv => if kv.1 = k then (kv.1, y) else kv) (vs.map fun kv => if kv.1 = k then (kv.1, u) else kv) := by
  unfold KV at r ⊢
  induction r with
  | nil => exact .nil
  | @cons p q ps qs h t ih =>
    rw [List.map_cons, List.map_cons]
    refine .cons ?_ ih
    obtain ⟨h1, h2⟩ := h
    by_cases e : p.1 = k
    · rw [if_pos e, if_pos (h1.symm.trans e)]; exact ⟨h1, ry⟩
    · rw [if_neg e, if_neg (fun z => e (h1.trans z))]; exact ⟨h1, h2⟩
theorem KV.put {kvs : List (κ × V)} {vs : List (κ × Value)} (r : KV kvs vs) (k : κ) {y : V} {u : Value} (ry : RelV y u) : KV (putK kvs k y) (stored vs k u) := by
  unfold putK stored
  rw [r.any k]
  by_cases e : (vs.any fun kv => decide (kv.1 = k)) = true
  · rw [if_pos e, if_pos e]; exact r.repl k ry
  · rw [if_neg e, if_neg e]; exact Paired.snoc r ⟨rfl, ry⟩
theorem KV.drop {kvs : List (κ × V)} {vs : List (κ × Value)} (r : KV kvs vs) (k : κ) : KV (dropK kvs k) (without vs k) := by
  unfold KV at r ⊢
  unfold dropK without
  induction r with
  | nil => exact .nil
  | @cons p q ps qs h t ih =>
    obtain ⟨h1, h2⟩ := h
    rw [List.filter_cons, List.filter_cons]
    by_cases e : p.1 = k
    · have a : ¬ decide (p.1 ≠ k) = true := by simp [e]
      have b : ¬ decide (q.1 ≠ k) = true := by simp [h1.symm.trans e]
      rw [if_neg a, if_neg b]; exact ih
    · have e' : ¬ q.1 = k := fun z => e (h1.trans z)
      have a : decide (p.1 ≠ k) = true := by simp [e]
      have b : decide (q.1 ≠ k) = true := by simp [e']
      rw [if_pos a, if_pos b]; exact .cons ⟨h1, h2⟩ ih
theorem KV.keys {kvs : List (κ × V)} {vs : List (κ × Value)} (r : KV kvs vs) : kvs.map (·.1) = vs.map (·.1) := by
  unfold KV at r
  induction r with
  | nil => rfl
  | cons h t ih => rw [List.map_cons, List.map_cons, ih, h.1]
theorem KV.length {kvs : List (κ × V)} {vs : List (κ × Value)} (r : KV kvs vs) : kvs.length = vs.length := Paired.length r
end
/-- raw entries of a dict with tuple keys -/
abbrev KT (H : Hp) : List (List Key × V) → List (List Key × Addr × Value) → Prop := Paired fun p q => p.1 = q.1 ∧ H q.2.1 = some (.tup (p.1.map kV)) ∧ RelV p.2 q.2.2
theorem KT.val {H : Hp} {kvs : List (List Key × V)} {xs : List (List Key × Addr × Value)} (r : KT H kvs xs) (k : List Key) : RelO (valV kvs k) ((atKey xs k).map (·.2)) := by
  induction r with
  | nil => exact True.intro
  | @cons p q ps qs h t ih =>
    obtain ⟨h1, _, h2⟩ := h
    by_cases e : p.1 = k
    · have e' : q.1 = k := h1.symm.trans e
      have b : atKey (q :: qs) k = some q.2 := by simp [atKey, List.find?_cons, e']
      rw [valV_pos e, b]; exact h2
    · have e' : ¬ q.1 = k := fun z => e (h1.trans z)
      have b : atKey (q :: qs) k = atKey qs k := by simp [atKey, List.find?_cons, e']
      rw [valV_neg e, b]; exact ih
theorem KT.repl {H : Hp} {kvs : List (List Key × V)} {xs : List (List Key × Addr × Value)} (r : KT H kvs xs) (k : List Key) {y : V} {u : Value} (ry : RelV y u) :
    KT H (kvs.map fun kv => if kv.1 = k then (kv.1, y) else kv) (xs.map (putAt k u)) := by
  induction r with
  | nil => exact .nil
  | @cons p q ps qs h t ih =>
    rw [List.map_cons, List.map_cons]
    refine .cons ?_ ih
    obtain ⟨h1, h2, h3⟩ := h
    unfold putAt
    by_cases e : p.1 = k
    · rw [if_pos e, if_pos (h1.symm.trans e)]; exact ⟨h1, h2, ry⟩
    · rw [if_neg e, if_neg (fun z => e (h1.trans z))]; exact ⟨h1, h2, h3⟩
theorem KT.put {H : Hp} {kvs : List (List Key × V)} {xs : List (List Key × Addr × Value)} (r : KT H kvs xs) (k : List Key) {b : Addr} {y : V} {u : Value} (hb : H b = some (.tup (k.map kV))) (ry : RelV y u) :
    KT H (putK kvs k y) (storedH xs k b u) := by
  have e : (kvs.any fun kv => decide (kv.1 = k)) = (atKey xs k).isSome := by
    rw [valV_any, (r.val k).isSome_eq, Option.isSome_map]
  unfold putK storedH
  rw [e]
  by_cases q : (atKey xs k).isSome = true
  · rw [if_pos q, if_pos q]; exact r.repl k ry
  · rw [if_neg q, if_neg q]; exact Paired.snoc r ⟨rfl, hb, ry⟩
theorem KT.keeps {H H' : Hp} {kvs : List (List Key × V)} {xs : List (List Key × Addr × Value)} (r : KT H kvs xs) (ht : ∀ b ys, H b = some (.tup ys) → H' b = some (.tup ys)) : KT H' kvs xs :=
  Paired.mapP r fun _ _ z => ⟨z.1, ht _ _ z.2.1, z.2.2⟩
section
variable {P : Program} {w : World} {H : Hp} {h : Heap} {a : Addr}
end
/-- what the dict at a holds at the key y -/
def DGet (H : Hp) (a : Addr) (y : V) (r : Option V) : Prop :=
  (∃ kvs k, Rd H a (.dK kvs) ∧ y = kV k ∧ r = valV kvs k) ∨ ∃ kvs k b, Rd H a (.dT kvs) ∧ y = .ref b ∧ H b = some (.tup (k.map kV)) ∧ r = valV kvs k
/-- the heap behind a[y] = v -/
def DPut (H : Hp) (a : Addr) (y v : V) (H' : Hp) : Prop :=
  (∃ kvs k, H a = some (.dK kvs) ∧ y = kV k ∧ kvs.length < sizeLine ∧ H' = upd H a (.dK (putK kvs k v))) ∨
  ∃ kvs k b, H a = some (.dT kvs) ∧ y = .ref b ∧ H b = some (.tup (k.map kV)) ∧ kvs.length < sizeLine ∧ H' = upd H a (.dT (putK kvs k v))
theorem DGet.k {H : Hp} {a : Addr} {kvs : List (Key × V)} {k : Key} (e : H a = some (.dK kvs)) : DGet H a (kV k) (valV kvs k) := .inl ⟨kvs, k, .inl e, rfl, rfl⟩
theorem DGet.t {H : Hp} {a b : Addr} {kvs : List (List Key × V)} {k : List Key} (e : H a = some (.dT kvs)) (eb : H b = some (.tup (k.map kV))) : DGet H a (.ref b) (valV kvs k) := .inr ⟨kvs, k, b, .inl e, rfl, eb, rfl⟩
theorem DPut.k {H : Hp} {a : Addr} {kvs : List (Key × V)} {k : Key} {v : V} (e : H a = some (.dK kvs)) (hl : kvs.length < sizeLine) : DPut H a (kV k) v (upd H a (.dK (putK kvs k v))) := .inl ⟨kvs, k, e, rfl, hl, rfl⟩
theorem DPut.t {H : Hp} {a b : Addr} {kvs : List (List Key × V)} {k : List Key} {v : V} (e : H a = some (.dT kvs)) (eb : H b = some (.tup (k.map kV))) (hl : kvs.length < sizeLine) :
    DPut H a (.ref b) v (upd H a (.dT (putK kvs k v))) := .inr ⟨kvs, k, b, e, rfl, eb, hl, rfl⟩
section
variable {X : Cx} {pins : List (Addr × Obj)} {σ : St} {H : Hp} {s : Shared} {a : Addr} {y v : V} {u r : Value} {o : Option V} {A : Around} {E : Value → Shared → Prop}
theorem Inv.big (I : Inv X pins σ H s) : sysModules < s.heap.objs.size := by
  have h : mainGlobals < s.heap.objs.size := (I.mod.glob.keeps I.bk).lt
  exact Nat.lt_trans (by decide) h
end
section
variable {X : Cx} {pins : List (Addr × Obj)} {σ : St} {H : Hp} {s : Shared} {a : Addr} {kvs : List (Key × V)} {k : Key} {u : Value} {A : Around} {E : Value → Shared → Prop}
end
/-- y in d, y not in d -/
def tDIn (ty td : TE) : TE := fun σ H Q => ty σ H fun y H1 => td σ H1 fun x H2 => ∃ a o, x = .ref a ∧ DGet H2 a y o ∧ Q (.bl o.isSome) H2
/-- d[y] = v -/
def sDPut (td ty tv : TE) : TS := fun D σ H => tv σ H fun v H1 => td σ H1 fun x H2 => ty σ H2 fun y H3 => ∃ a H4, x = .ref a ∧ DPut H3 a y v H4 ∧ D.nx σ H4
section
variable {X : Cx} {o i e value : Expr} {pos pos' tpos : Pos} {td ty tv : TE}
end
theorem dk_empty {P : Program} {w : World} {H : Hp} (h : Heap) (hb : sysModules < h.objs.size) : ObjOk P w H (h.push { cls := .type "dict", data := .dict #[] }) h.objs.size (.dK []) :=
  ⟨Nat.zero_le _, beq_eq_false_iff_ne.mpr (Ne.symm (Nat.ne_of_lt hb)), [], .nil, Heap.DictOf.new h⟩
/-- {}, to be a dict of the kind that is wanted -/
def tDNewK : TE := fun _ H Q => ∀ p, H p = none → Q (.ref p) (upd H p (.dK []))
section
variable {X : Cx} {pos : Pos}
theorem pe_dnewK : PE X (.Dict [] [] pos) tDNewK := fun pins s σ H Q I h =>
  wpAny_Dict_empty ⟨.ref s.heap.objs.size, _, I.laid (a := s.heap.objs.size) (o := .dK []) (t' := s.toks) (fun _ _ q => Heap.get?_push_of_some _ q) (Nat.le_refl _) (dk_empty s.heap I.big), rfl, h _ (I.hok.fresh (Nat.le_refl _))⟩
end
structure M2 (X : Cx) (o : Expr) (m : Str) (apos : Pos) (e f : Expr) (cpos : Pos) : Prop where
  base : attributeBase o m X.env (eval o X.env) = eval o X.env
  few : ((backTo cpos (starEach [e, f] X.env)).all (fun x => !x.1) && (backToKw cpos (keywordEach [] X.env)).all (fun x => x.1.isSome)
    && decide (([e, f] : List Expr).length + ([] : List Keyword).length + (if ([] : List Keyword).isEmpty then 0 else 1) < 30)) = true
  line : (apos.endLine == cpos.line) = true
  trees : backTo cpos (starEach [e, f] X.env) = [(false, eval e X.env), (false, eval f X.env)]
section
variable {X : Cx} {pins : List (Addr × Obj)} {σ : St} {H : Hp} {s : Shared} {a : Addr} {y d : V} {u r : Value} {o : Option V} {A : Around} {E : Value → Shared → Prop}
end
section
variable {X : Cx} {o e f : Expr} {apos cpos : Pos} {td ty tx : TE}
end
section
variable {X : Cx} {pins : List (Addr × Obj)} {σ : St} {H : Hp} {s : Shared} {a : Addr} {kvs : List (Key × V)} {A : Around} {E : Value → Shared → Prop}
end
section
variable {X : Cx} {pins : List (Addr × Obj)} {σ : St} {H : Hp} {s : Shared} {a : Addr} {y : V} {u : Value} {A : Around} {E : Value → Shared → Prop}
end
end L2
namespace L2
open PySem PySem.Spec PyProof.Rows
section
variable {X : Cx}
end
section
variable {κ : Type} [DecidableEq κ]
end
end L2
set_option Elab.async false
set_option linter.all false
set_option maxRecDepth 100000
set_option maxHeartbeats 4000000
namespace L2
open PySem PySem.Spec PyProof.Rows
section
variable {P : Program} {w : World} {K : PySem.W.Frag} {mg : Str → Option Value} {base : Heap} {CX : CXT} {x : Str} {ps : List Str} {sp : Sp} {j k : Nat}
structure Def (P : Program) (w : World) (K : PySem.W.Frag) (mg : Str → Option Value) (base : Heap) (CX : CXT) (k : Nat) (x : Str) (ps : List Str) (sp : Sp) : Prop where
  ex : ∃ (f : Addr) (fd : FuncData), FnOk P w K mg base CX k f fd ps sp ∧ mg x = some (.ref f) ∧ PySem.W.keepIn K (.ref f) = true ∧ Binds K fd ps []
theorem Def.mono (D : Def P w K mg base CX j x ps sp) (h : j ≤ k) : Def P w K mg base CX k x ps sp :=
  let ⟨f, fd, F, a, b, c⟩ := D.ex
  ⟨f, fd, F.mono h, a, b, c⟩
def HasDef (K : PySem.W.Frag) (mg : Str → Option Value) (x : Str) (st : Stmt) : Prop := ∃ (f : Addr) (fd : FuncData), Fun K x x st f fd ∧ mg x = some (.ref f)
theorem HasDef.mk {st : Stmt} {f : Addr} {oc : Value} {od an : Option Addr} {osl : Array (Option Value)} {kV doc pm cdv ct : Value} (m : mg x = some (.ref f))
    (l : K.lookup f = some ⟨oc, od, .func (PySem.W.fnOf x x (defArgs st) (defBody st) (defScope st) .none kV doc pm an cdv ct), osl⟩)
    (c : PySem.W.codeIn K cdv x = true) (k : PySem.W.keepIn K (.ref f) = true) : HasDef K mg x st := ⟨f, _, fun_mk l c k, m⟩
/-- THE RULE for a def from which no exception leaves, whatever CX -/
theorem def_of {st : Stmt} {N : List Str} (h : HasDef K mg x st) (S : FnScope N ps (defScope st)) (len : ∀ vs H Q E, sp vs H Q E → vs.length = ps.length)
    (hb : ∀ (kV doc pm : Value) (an : Option Addr) (cdv ct : Value) (us : List Value), us.length = ps.length → bindArgs (PySem.W.fnOf x x (defArgs st) (defBody st) (defScope st) .none kV doc pm an cdv ct) ⟨us, []⟩ = pure (ps.zip us))
    (hbody : ∀ (f : Addr) (cdv : Value) (A : Around) (outer : List Env) (s : Shared) (H : Hp) (vs : List V) (Q : VK) (E : XK), Room k (A.deeper (envOfC x (defScope st) s.heap.objs.size f cdv)) → sp vs H Q E →
      ∃ t, PSs (cxOf CX P w K mg base N x (defScope st) f cdv A outer s H E).nox (defBody st) t ∧ t { nx := fun _ H' => Q .non H', rt := Q } (start N vs) H) : Def P w K mg base CX (k + 1) x ps sp := by
  obtain ⟨f, fd, F, m⟩ := h
  refine ⟨f, fd, ?_, m, F.kp, F.binds hb⟩
  obtain ⟨oc, od, kV, doc, pm, an, cdv, ct, osl, rfl, lk, hcd⟩ := F.ex
  refine fn_of lk hcd S len fun A outer s H vs Q E hr hsp => ?_
  obtain ⟨t, h, q⟩ := hbody f cdv A outer s H vs Q E hr hsp
  exact ⟨t, h.nox, q⟩
end
section
variable {X : Cx} {CX : CXT} {k m : Nat} {x : Str} {ps : List Str} {sp : Sp} {E : XK} {p pos : Pos} {e : Expr} {es : List Expr} {t : TA}
theorem pe_def (D : Def X.prog X.w X.K X.mg X.base CX k x ps sp) (hr : Room m X.A) (ha : PA X (e :: es) t) (hk : k ≤ m := by decide) (hx : Passes CX X E := by exact pass0) (hg : Gl X x := by rfl)
    (hdb : (x == ("__debug__" : Str)) = false := by decide) (he : starEach (e :: es) X.env = (false, eval e X.env) :: starEach es X.env := by rfl) (hpl : (backTo pos (starEach es X.env)).any (·.1) = false := by rfl) :
    PE X (.Call (.Name x p) (e :: es) [] pos) (tCall sp [] E t) := by
  obtain ⟨f, fd, F, hm, kp, b⟩ := D.ex
  exact pe_call F (hr.mono hk) hg hm kp b .nil hx ha hdb he hpl
end
def GlobIs (mg : Str → Option Value) (x : Str) (v : V) : Prop := ∃ u, mg x = some u ∧ RelV v u
theorem pe_gl {X : Cx} {x : Str} {v : V} {pos : Pos} (h : GlobIs X.mg x v) (hg : Gl X x := by rfl) (hd : (x == ("__debug__" : Str)) = false := by decide) : PE X (.Name x pos) (tC v) :=
  let ⟨_, e, r⟩ := h
  pe_glob hg e r hd
section
variable {X : Cx} {T : String} {pos : Pos}
theorem pe_ty {x : Str} (hg : Gl X x) (hm : X.mg x = none) (hv : bootBuiltins x = some (.type T)) (hn : x ≠ "__name__" := by decide) (hd : (x == ("__debug__" : Str)) = false := by decide) : PE X (.Name x pos) (tC (.ty T)) :=
  pe_bltn hg hm hv rfl hn hd
/-- the answer of isinstance for a class that is a value -/
def clsIs (K : PySem.W.Frag) (t : Value) : V → Option Bool
  | .ty T => PySem.W.kitOne K t (.type T)
  | .ref C => PySem.W.kitOne K t (.ref C)
  | _ => none
theorem call_isinstance : CallR X (.builtin "isinstance") (fun xs H Q => ∃ x c t b, xs = [x, c] ∧ TyOf X.K H x t ∧ clsIs X.K t c = some b ∧ Q (.bl b) H) := by
  intro pins s σ H xs us Q I r h
  obtain ⟨x, c, t, b, rfl, ty, e, q⟩ := h
  obtain ⟨u, v, rfl, ru, rv⟩ := vals2 r
  cases c with
  | ty T =>
    obtain rfl : v = Value.type T := rv
    exact isinst_ok I ru ty e fun tk => ⟨.bl b, H, I.tok _, rfl, q⟩
  | ref C =>
    obtain rfl : v = Value.ref C := rv
    exact isinst_ok I ru ty e fun tk => ⟨.bl b, H, I.tok _, rfl, q⟩
  | _ => cases e
end
section
variable {X : Cx}
theorem vals_bools : ∀ {bs : List Bool} {us : List Value}, Vals (bs.map V.bl) us → LSm.BoolsAre us bs
  | [], _, .nil => .nil
  | b :: bs, _, .cons r t => by
    cases (show _ = Value.bool b from r)
    exact .cons b (vals_bools t)
theorem call_all (hc : X.calm = true) : CallR X (.builtin "all") (fun xs H Q => ∃ (p : Addr) (bs : List Bool), xs = [.ref p] ∧ SqL X.K H p (bs.map V.bl) ∧ Q (.bl (bs.all id)) H) := by
  intro pins s σ H xs us Q I r h
  obtain ⟨p, bs, rfl, hq, q⟩ := h
  obtain ⟨u, rfl, rx⟩ := vals1 r
  cases rx
  obtain ⟨its, rv, pl, hz⟩ := I.list hq
  have hb := vals_bools rv
  have hl := pl.isList
  have hlt : p < s.heap.objs.size := by obtain ⟨_, e, _⟩ := hl; exact Heap.lt_size e
  refine call_all_walk (wpAny_pyIter_list hl ?_)
  refine ⟨s.heap.objs.size, [s.heap.objs.size, p], [s.heap.objs.size], its.toArray.size, _, _, fun i => (bs[i]?).getD true, rfl, Walks.list (A := X.A.in1) (I.ok.hd hc) _ p (Nat.ne_of_lt hlt) its.toArray,
    ⟨⟨_, Heap.get?_push_size _ rfl, rfl, rfl⟩, hl.push _⟩, fun i v s' Q' E' hP hQ => ?_, fun h' tk hk => ?_⟩
  · obtain ⟨b, e, rfl⟩ := hb.get i v (by simpa using hP)
    simp only [e, Option.getD_some] at hQ
    exact wpAny_truthy_bool hQ
  · have e : ((List.range its.toArray.size).all fun i => (bs[i]?).getD true) = bs.all id := by
      rw [List.size_toArray, hb.length]; exact LSm.range_all bs
    rw [e]
    exact ⟨.bl _, H, I.kept (LSm.kept_iter hk), rfl, q⟩
theorem call_any (hc : X.calm = true) : CallR X (.builtin "any") (fun xs H Q => ∃ (p : Addr) (bs : List Bool), xs = [.ref p] ∧ SqL X.K H p (bs.map V.bl) ∧ Q (.bl (bs.any id)) H) := by
  intro pins s σ H xs us Q I r h
  obtain ⟨p, bs, rfl, hq, q⟩ := h
  obtain ⟨u, rfl, rx⟩ := vals1 r
  cases rx
  obtain ⟨its, rv, pl, hz⟩ := I.list hq
  have hb := vals_bools rv
  have hl := pl.isList
  have hlt : p < s.heap.objs.size := by obtain ⟨_, e, _⟩ := hl; exact Heap.lt_size e
  refine call_any_walk (wpAny_pyIter_list hl ?_)
  refine ⟨s.heap.objs.size, [s.heap.objs.size, p], [s.heap.objs.size], its.toArray.size, _, _, fun i => (bs[i]?).getD false, rfl, Walks.list (A := X.A.in1) (I.ok.hd hc) _ p (Nat.ne_of_lt hlt) its.toArray,
    ⟨⟨_, Heap.get?_push_size _ rfl, rfl, rfl⟩, hl.push _⟩, fun i v s' Q' E' hP hQ => ?_, fun h' tk hk => ?_⟩
  · obtain ⟨b, e, rfl⟩ := hb.get i v (by simpa using hP)
    simp only [e, Option.getD_some] at hQ
    exact wpAny_truthy_bool hQ
  · have e : ((List.range its.toArray.size).any fun i => (bs[i]?).getD false) = bs.any id := by
      rw [List.size_toArray, hb.length]; exact LSm.range_any bs
    rw [e]
    exact ⟨.bl _, H, I.kept (LSm.kept_iter hk), rfl, q⟩
end
section
variable {X : Cx}
/-- the signs of a text, one by one -/
def Its (z : Str) : It := ⟨fun i _ => i < z.cps.size, fun i H x H' => H' = H ∧ ∃ c, z.cps[i]? = some c ∧ x = .str ⟨#[c]⟩, fun i _ => z.cps.size ≤ i⟩
section
variable {P : Program} {w : World} {K : PySem.W.Frag} {tg : Expr}
end
def iStr (tl : TE) : TI := fun σ H R => tl σ H fun x H1 => ∃ z, x = .str z ∧ R (Its z) H1
end
end L2
set_option Elab.async false
set_option linter.all false
set_option maxRecDepth 100000
set_option maxHeartbeats 4000000
namespace L2
open PySem PySem.Spec PyProof.Rows
def closOf (env : Env) : List (Str × NameKind) → Option (List (Str × Addr))
  | [] => some []
  | (n, k) :: r => if k = .free then (env.cells.lookup n).bind fun c => (closOf env r).map fun cl => cl ++ [(n, c)] else closOf env r
theorem closOf_lookup {env : Env} : ∀ {names : List (Str × NameKind)} {cl : List (Str × Addr)}, closOf env names = some cl → ∀ x c, cl.lookup x = some c → env.cells.lookup x = some c
  | [], cl, h, x, c, e => by
    cases (Option.some.inj h)
    cases e
  | (n, k) :: r, cl, h, x, c, e => by
    unfold closOf at h
    by_cases hk : k = .free
    · rw [if_pos hk] at h
      cases hc : env.cells.lookup n with
      | none => rw [hc] at h; cases h
      | some c' =>
        rw [hc] at h
        have h : (closOf env r).map (fun cl => cl ++ [(n, c')]) = some cl := h
        cases hr : closOf env r with
        | none => rw [hr] at h; cases h
        | some cl' =>
          rw [hr] at h
          have h : cl' ++ [(n, c')] = cl := Option.some.inj h
          subst h
          rw [List.lookup_append] at e
          cases h2 : cl'.lookup x with
          | some c2 =>
            rw [h2] at e
            have e : c2 = c := by simpa using e
            subst e
            exact closOf_lookup hr x c2 h2
          | none =>
            rw [h2] at e
            have e : List.lookup x [(n, c')] = some c := by simpa using e
            by_cases hx : x = n
            · subst hx
              have : c' = c := by simpa using e
              subst this
              exact hc
            · have hb : (x == n) = false := by simpa using hx
              simp [List.lookup_cons, hb] at e
    · rw [if_neg hk] at h
      exact closOf_lookup h x c e
/-- the values of the block's names at its entry: nt of its own, none yet; then those of the block around, by their places there -/
def compStart0 (nt : Nat) (fr : List Nat) (σ : St) : St := List.replicate nt none ++ fr.map fun i => (σ[i]?).getD none
/-- how the block's names N stand to the names of the code around: nt own ones, then free ones, the i-th of which is the fr i-th there -/
structure CompNames (X : Cx) (N : List Str) (nt : Nat) (fr : List Nat) (scope : Scope) (cl : List (Str × Addr)) : Prop where
  len : N.length = nt + fr.length
  free : ∀ (j : Nat) (i : Nat) (x : Str), fr[j]? = some i → N[nt + j]? = some x → X.N[i]? = some x ∧ (∃ c, cl.lookup x = some c) ∧ (X.env.kindOf x = some .cell ∨ X.env.kindOf x = some .free) ∧
    ((relabel scope X.env).names.lookup x = some .cell ∨ (relabel scope X.env).names.lookup x = some .free)
  cells : ∀ x c, cl.lookup x = some c → X.env.cells.lookup x = some c
  has : ∀ x, ((relabel scope X.env).names.lookup x = some .cell ∨ (relabel scope X.env).names.lookup x = some .free) → ∃ c, cl.lookup x = some c
  kind : scope.kind = .function
section
variable {X : Cx} {N : List Str} {nt : Nat} {fr : List Nat} {scope : Scope} {cl : List (Str × Addr)} {pins : List (Addr × Obj)} {σ : St} {H : Hp} {s : Shared} {fp : List Addr}
end
def freeB (X : Cx) (N : List Str) (nt : Nat) (scope : Scope) : List Nat → Nat → Bool
  | [], _ => true
  | i :: r, j => (match N[nt + j]? with
    | some x => decide (X.N[i]? = some x) && decide (scope.names.lookup x = some .free) && (decide (X.env.kindOf x = some .cell) || decide (X.env.kindOf x = some .free))
    | none => false) && freeB X N nt scope r (j + 1)
theorem freeB_at {X : Cx} {N : List Str} {nt : Nat} {scope : Scope} : ∀ {fr : List Nat} {k : Nat}, freeB X N nt scope fr k = true → ∀ (j i : Nat) (x : Str), fr[j]? = some i → N[nt + (k + j)]? = some x →
    X.N[i]? = some x ∧ scope.names.lookup x = some .free ∧ (X.env.kindOf x = some .cell ∨ X.env.kindOf x = some .free)
  | [], _, _, j, i, x, e, _ => by simp at e
  | i0 :: r, k, h, j, i, x, e1, e2 => by
    unfold freeB at h
    rw [Bool.and_eq_true] at h
    obtain ⟨h1, h2⟩ := h
    cases j with
    | zero =>
      have e1 : i0 = i := by simpa using e1
      subst e1
      rw [Nat.add_zero] at e2
      rw [e2] at h1
      simp only [Bool.and_eq_true, Bool.or_eq_true, decide_eq_true_eq] at h1
      exact ⟨h1.1.1, h1.1.2, h1.2⟩
    | succ j =>
      exact freeB_at h2 j i x (by simpa using e1) (by rw [show nt + (k + 1 + j) = nt + (k + (j + 1)) by omega]; exact e2)
theorem lookup_relabel {env : Env} : ∀ {names : List (Str × NameKind)} {x : Str} {k' : NameKind},
    (names.map fun (n, k) => if (k == NameKind.free && env.scope.kind == .function && env.kindOf n == some .cell) then (n, NameKind.cell) else (n, k)).lookup x = some k' →
    ∃ k, names.lookup x = some k ∧ (k = k' ∨ (k = .free ∧ k' = .cell))
  | [], _, _, h => by simp at h
  | (n, k) :: r, x, k', h => by
    have h : List.lookup x ((if (k == NameKind.free && env.scope.kind == .function && env.kindOf n == some .cell) = true then (n, NameKind.cell) else (n, k)) :: r.map _) = some k' := h
    cases hx : x == n with
    | true =>
      by_cases hc : (k == NameKind.free && env.scope.kind == .function && env.kindOf n == some .cell) = true
      · rw [if_pos hc] at h
        simp only [List.lookup_cons, hx] at h
        have hk : k = .free := by
          simp only [Bool.and_eq_true, beq_iff_eq] at hc
          exact hc.1.1
        exact ⟨k, by simp [List.lookup_cons, hx], .inr ⟨hk, (Option.some.inj h).symm⟩⟩
      · rw [if_neg hc] at h
        simp only [List.lookup_cons, hx] at h
        exact ⟨k, by simp [List.lookup_cons, hx], .inl (Option.some.inj h)⟩
    | false =>
      have h2 : List.lookup x (r.map fun (n, k) => if (k == NameKind.free && env.scope.kind == .function && env.kindOf n == some .cell) then (n, NameKind.cell) else (n, k)) = some k' := by
        by_cases hc : (k == NameKind.free && env.scope.kind == .function && env.kindOf n == some .cell) = true
        · rw [if_pos hc] at h; simpa only [List.lookup_cons, hx] using h
        · rw [if_neg hc] at h; simpa only [List.lookup_cons, hx] using h
      obtain ⟨k2, e2, o2⟩ := lookup_relabel h2
      exact ⟨k2, by simp only [List.lookup_cons, hx]; exact e2, o2⟩
theorem relabel_free {env : Env} : ∀ {names : List (Str × NameKind)} {x : Str}, names.lookup x = some .free →
    (names.map fun (n, k) => if (k == NameKind.free && env.scope.kind == .function && env.kindOf n == some .cell) then (n, NameKind.cell) else (n, k)).lookup x = some .cell ∨
    (names.map fun (n, k) => if (k == NameKind.free && env.scope.kind == .function && env.kindOf n == some .cell) then (n, NameKind.cell) else (n, k)).lookup x = some .free
  | [], _, h => by simp at h
  | (n, k) :: r, x, h => by
    show List.lookup x ((if (k == NameKind.free && env.scope.kind == .function && env.kindOf n == some .cell) = true then (n, NameKind.cell) else (n, k)) :: r.map _) = some .cell ∨ List.lookup x ((if (k == NameKind.free && env.scope.kind == .function && env.kindOf n == some .cell) = true then (n, NameKind.cell) else (n, k)) :: r.map _) = some .free
    cases hx : x == n with
    | true =>
      simp only [List.lookup_cons, hx] at h
      cases h
      by_cases hc : (NameKind.free == NameKind.free && env.scope.kind == .function && env.kindOf n == some .cell) = true
      · rw [if_pos hc]; left; simp [List.lookup_cons, hx]
      · rw [if_neg hc]; right; simp [List.lookup_cons, hx]
    | false =>
      simp only [List.lookup_cons, hx] at h
      have ih := relabel_free (env := env) h
      by_cases hc : (k == NameKind.free && env.scope.kind == .function && env.kindOf n == some .cell) = true
      · rw [if_pos hc]; simpa only [List.lookup_cons, hx] using ih
      · rw [if_neg hc]; simpa only [List.lookup_cons, hx] using ih
theorem closOf_has {env : Env} : ∀ {names : List (Str × NameKind)} {cl : List (Str × Addr)}, closOf env names = some cl → ∀ x, names.lookup x = some .free → ∃ c, cl.lookup x = some c
  | [], _, _, x, e => by simp at e
  | (n, k) :: r, cl, h, x, e => by
    unfold closOf at h
    by_cases hk : k = .free
    · rw [if_pos hk] at h
      cases hc : env.cells.lookup n with
      | none => rw [hc] at h; cases h
      | some c' =>
        rw [hc] at h
        have h : (closOf env r).map (fun cl => cl ++ [(n, c')]) = some cl := h
        cases hr : closOf env r with
        | none => rw [hr] at h; cases h
        | some cl' =>
          rw [hr] at h
          have h : cl' ++ [(n, c')] = cl := Option.some.inj h
          subst h
          rw [List.lookup_append]
          cases h2 : cl'.lookup x with
          | some c2 => exact ⟨c2, by simp⟩
          | none =>
            cases hx : x == n with
            | true => exact ⟨c', by simp [List.lookup_cons, hx]⟩
            | false =>
              simp only [List.lookup_cons, hx] at e
              obtain ⟨c3, e3⟩ := closOf_has hr x e
              rw [h2] at e3; cases e3
    · rw [if_neg hk] at h
      cases hx : x == n with
      | true =>
        simp only [List.lookup_cons, hx] at e
        exact absurd (Option.some.inj e) hk
      | false =>
        simp only [List.lookup_cons, hx] at e
        exact closOf_has h x e
theorem CompNames.of {X : Cx} {N : List Str} {nt : Nat} {fr : List Nat} {scope : Scope} {cl : List (Str × Addr)} (hcl : closOf X.env scope.names = some cl) (hlen : N.length = nt + fr.length) (hB : freeB X N nt scope fr 0 = true)
    (hcell : ∀ y ∈ scope.names, y.2 ≠ .cell) (hkind : scope.kind = .function) : CompNames X N nt fr scope cl where
  len := hlen
  free := fun j i x e1 e2 => by
    obtain ⟨h1, h2, h3⟩ := freeB_at hB j i x e1 (by rw [Nat.zero_add]; exact e2)
    exact ⟨h1, closOf_has hcl x h2, h3, relabel_free h2⟩
  cells := closOf_lookup hcl
  has := fun x hx => by
    have : scope.names.lookup x = some .free := by
      rcases hx with hx | hx
      · obtain ⟨k, e, o⟩ := lookup_relabel (names := scope.names) (env := X.env) hx
        rcases o with rfl | ⟨rfl, _⟩
        · exact absurd rfl (hcell _ (PySem.mem_of_lookup e))
        · exact e
      · obtain ⟨k, e, o⟩ := lookup_relabel (names := scope.names) (env := X.env) hx
        rcases o with rfl | ⟨rfl, _⟩
        · exact e
        · exact e
    exact closOf_has hcl x this
  kind := hkind
/-- W: turn, measure, the block's names, the list so far, the heap -/
def CompGoal (J : It) (nt : Nat) (fr : List Nat) (g : TG) (c : TT) (te : TE) (σ : St) (H1 : Hp) (Q : VK) (acc : Addr) : Prop :=
  ∃ W : Nat → Nat → St → List V → Hp → Prop, (∃ m, W 0 m (compStart0 nt fr σ) [] (upd H1 acc (.lst []))) ∧ ∀ i m σ' ys H', W i m σ' ys H' → H' acc = some (.lst ys) ∧
    ((J.stop i H' ∧ Q (.ref acc) H') ∨ (J.go i H' ∧ ∀ x H2, J.yld i H' x H2 → g x σ' H2 fun σ2 H3 => c σ2 H3 fun b H4 => if b = true then
      te σ2 H4 fun y H5 => ys.length < sizeLine ∧ H5 acc = some (.lst ys) ∧ ∃ m', m' < m ∧ W (i + 1) m' σ2 (ys ++ [y]) (upd H5 acc (.lst (ys ++ [y])))
      else ∃ m', m' < m ∧ W (i + 1) m' σ2 ys H4))
def tComp (wi : TI) (nt : Nat) (fr : List Nat) (g : TG) (c : TT) (te : TE) : TE := fun σ H Q => wi σ H fun J H1 => ∀ acc, H1 acc = none → CompGoal J nt fr g c te σ H1 Q acc
section
variable {X : Cx} {target iter elt : Expr} {ifs : List Expr} {scope : Scope} {pos : Pos} {N : List Str} {nt : Nat} {fr : List Nat} {cl : List (Str × Addr)} {wi : TI} {g : TG} {c : TT} {te : TE}
end
/-- what stands between two turns: Pv (turn, the list so far, the heap); nt own names, the others are fvs -/
def CompW (xs : List V) (nt : Nat) (fvs : St) (Pv : Nat → List V → Hp → Prop) : Nat → Nat → St → List V → Hp → Prop := fun i m σ' ys H' =>
  m = xs.length - i ∧ i ≤ xs.length ∧ Pv i ys H' ∧ ∃ tv : List (Option V), tv.length = nt ∧ σ' = tv ++ fvs
theorem CompW.next {xs : List V} {nt : Nat} {fvs : St} {Pv : Nat → List V → Hp → Prop} {i : Nat} {tv : List (Option V)} {ys : List V} {H : Hp} (hi : i < xs.length) (p : Pv (i + 1) ys H) (ht : tv.length = nt) :
    ∃ m', m' < xs.length - i ∧ CompW xs nt fvs Pv (i + 1) m' (tv ++ fvs) ys H := ⟨xs.length - (i + 1), by omega, rfl, hi, p, tv, ht, rfl⟩
end L2
set_option Elab.async false
set_option linter.all false
set_option maxRecDepth 100000
set_option maxHeartbeats 4000000
namespace L2
open PySem PySem.Spec PyProof.Rows PySem.SeqAt
inductive Dt where
  | non | bl (b : Bool) | int (i : Int) | str (x : Str) | lst (xs : List Dt) | tup (xs : List Dt)
mutual
def Rep (K : PySem.W.Frag) (H : Hp) : Dt → V → Prop
  | .non, v => v = .non
  | .bl b, v => v = .bl b
  | .int i, v => v = .int i
  | .str x, v => v = .str x
  | .lst ds, v => ∃ p xs, v = .ref p ∧ SqL K H p xs ∧ Reps K H ds xs
  | .tup ds, v => ∃ p xs, v = .ref p ∧ SqT K H p xs ∧ Reps K H ds xs
def Reps (K : PySem.W.Frag) (H : Hp) : List Dt → List V → Prop
  | [], xs => xs = []
  | d :: ds, xs => ∃ x r, xs = x :: r ∧ Rep K H d x ∧ Reps K H ds r
end
mutual
def eqDt : Dt → Dt → Bool
  | .non, .non => true
  | .bl a, .bl b => a == b
  | .bl a, .int b => (if a then 1 else 0) == b
  | .int a, .bl b => a == (if b then 1 else 0)
  | .int a, .int b => a == b
  | .str a, .str b => a == b
  | .lst xs, .lst ys => eqDts xs ys
  | .tup xs, .tup ys => eqDts xs ys
  | _, _ => false
def eqDts : List Dt → List Dt → Bool
  | [], [] => true
  | x :: xs, y :: ys => eqDt x y && eqDts xs ys
  | _, _ => false
end
mutual
def depD : Dt → Nat
  | .lst xs => depDs xs + 1
  | .tup xs => depDs xs + 1
  | _ => 0
def depDs : List Dt → Nat
  | [] => 0
  | x :: xs => max (depD x) (depDs xs)
end
theorem Reps.length {K : PySem.W.Frag} {H : Hp} : ∀ {ds : List Dt} {xs : List V}, Reps K H ds xs → ds.length = xs.length
  | [], xs, h => by rw [show xs = [] from by simpa [Reps] using h]; rfl
  | d :: ds, xs, h => by
    obtain ⟨x, r, rfl, _, h2⟩ : ∃ x r, xs = x :: r ∧ Rep K H d x ∧ Reps K H ds r := by simpa [Reps] using h
    simp [Reps.length h2]
theorem Reps.get {K : PySem.W.Frag} {H : Hp} : ∀ {ds : List Dt} {xs : List V} {j : Nat} {d : Dt}, Reps K H ds xs → ds[j]? = some d → ∃ x, xs[j]? = some x ∧ Rep K H d x
  | [], _, _, _, _, e => by simp at e
  | d0 :: ds, xs, j, d, h, e => by
    obtain ⟨x, r, rfl, h1, h2⟩ : ∃ x r, xs = x :: r ∧ Rep K H d0 x ∧ Reps K H ds r := by simpa [Reps] using h
    cases j with
    | zero =>
      have e : d0 = d := by simpa using e
      subst e
      exact ⟨x, rfl, h1⟩
    | succ j =>
      obtain ⟨y, e1, e2⟩ := Reps.get (j := j) h2 (by simpa using e)
      exact ⟨y, by simpa using e1, e2⟩
theorem depDs_get : ∀ {ds : List Dt} {j : Nat} {d : Dt}, ds[j]? = some d → depD d ≤ depDs ds
  | [], _, _, e => by simp at e
  | d0 :: ds, j, d, e => by
    cases j with
    | zero =>
      have e : d0 = d := by simpa using e
      subst e
      simp only [depDs]; omega
    | succ j =>
      have := depDs_get (ds := ds) (j := j) (d := d) (by simpa using e)
      simp only [depDs]; omega
theorem eqDts_all : ∀ (ds es : List Dt), ds.length = es.length → ((List.range ds.length).all fun j => eqDt (ds.getD j .non) (es.getD j .non)) = eqDts ds es
  | [], [], _ => rfl
  | [], _ :: _, h => by simp at h
  | _ :: _, [], h => by simp at h
  | d :: ds, e :: es, h => by
    have h : ds.length = es.length := by simpa using h
    rw [List.length_cons, List.range_succ_eq_map, List.all_cons, List.all_map]
    have := eqDts_all ds es h
    simp only [eqDts]
    rw [← this]
    rfl
theorem eqDts_length : ∀ (ds es : List Dt), ds.length ≠ es.length → eqDts ds es = false
  | [], [], h => by simp at h
  | [], _ :: _, _ => rfl
  | _ :: _, [], _ => rfl
  | d :: ds, e :: es, h => by
    have h : ds.length ≠ es.length := fun z => h (by simp [z])
    simp only [eqDts, eqDts_length ds es h, Bool.and_false]
mutual
theorem eqDt_refl : ∀ d : Dt, eqDt d d = true
  | .non => rfl
  | .bl b => by simp [eqDt]
  | .int i => by simp [eqDt]
  | .str x => by simp [eqDt]
  | .lst xs => by simp only [eqDt]; exact eqDts_refl xs
  | .tup xs => by simp only [eqDt]; exact eqDts_refl xs
theorem eqDts_refl : ∀ ds : List Dt, eqDts ds ds = true
  | [] => rfl
  | d :: ds => by simp only [eqDts, eqDt_refl d, eqDts_refl ds, Bool.and_true]
end
section
variable {X : Cx} {pins : List (Addr × Obj)} {σ : St} {H : Hp} {s : Shared}
theorem lst_not_tup {a : Addr} {xs ys : List V} (I : Inv X pins σ H s) (h : SqL X.K H a xs) (h' : SqT X.K H a ys) : False := by
  obtain ⟨its, _, pl, _⟩ := I.list h
  obtain ⟨its', _, pt, _⟩ := I.tuple h'
  obtain ⟨o, n, e, c, _, _⟩ := pl
  obtain ⟨o', e', c', _⟩ := pt
  rw [e] at e'; cases e'
  rw [c] at c'
  exact absurd c' (by decide)
mutual
theorem rep_inj (I : Inv X pins σ H s) : ∀ (d d' : Dt) (v : V), Rep X.K H d v → Rep X.K H d' v → d = d'
  | .non, d', v, h, h' => by
    have h : v = .non := by simpa [Rep] using h
    subst h
    cases d' <;> simp [Rep] at h' <;> rfl
  | .bl b, d', v, h, h' => by
    have h : v = .bl b := by simpa [Rep] using h
    subst h
    cases d' <;> simp [Rep] at h'
    rw [h']
  | .int b, d', v, h, h' => by
    have h : v = .int b := by simpa [Rep] using h
    subst h
    cases d' <;> simp [Rep] at h'
    rw [h']
  | .str b, d', v, h, h' => by
    have h : v = .str b := by simpa [Rep] using h
    subst h
    cases d' <;> simp [Rep] at h'
    rw [h']
  | .lst ds, d', v, h, h' => by
    obtain ⟨p, xs, rfl, hq, hr⟩ : ∃ p xs, v = .ref p ∧ SqL X.K H p xs ∧ Reps X.K H ds xs := by simpa only [Rep] using h
    cases d' with
    | lst es =>
      obtain ⟨p', ys, e, hq', hr'⟩ : ∃ p' ys, V.ref p = .ref p' ∧ SqL X.K H p' ys ∧ Reps X.K H es ys := by simpa only [Rep] using h'
      cases e
      rw [I.list_inj hq' hq] at hr'
      rw [reps_inj I ds es xs hr hr']
    | tup es =>
      obtain ⟨p', ys, e, hq', hr'⟩ : ∃ p' ys, V.ref p = .ref p' ∧ SqT X.K H p' ys ∧ Reps X.K H es ys := by simpa only [Rep] using h'
      cases e
      exact (lst_not_tup I hq hq').elim
    | _ => simp [Rep] at h'
  | .tup ds, d', v, h, h' => by
    obtain ⟨p, xs, rfl, hq, hr⟩ : ∃ p xs, v = .ref p ∧ SqT X.K H p xs ∧ Reps X.K H ds xs := by simpa only [Rep] using h
    cases d' with
    | tup es =>
      obtain ⟨p', ys, e, hq', hr'⟩ : ∃ p' ys, V.ref p = .ref p' ∧ SqT X.K H p' ys ∧ Reps X.K H es ys := by simpa only [Rep] using h'
      cases e
      rw [I.tuple_inj hq' hq] at hr'
      rw [reps_inj I ds es xs hr hr']
    | lst es =>
      obtain ⟨p', ys, e, hq', hr'⟩ : ∃ p' ys, V.ref p = .ref p' ∧ SqL X.K H p' ys ∧ Reps X.K H es ys := by simpa only [Rep] using h'
      cases e
      exact (lst_not_tup I hq' hq).elim
    | _ => simp [Rep] at h'
theorem reps_inj (I : Inv X pins σ H s) : ∀ (ds es : List Dt) (xs : List V), Reps X.K H ds xs → Reps X.K H es xs → ds = es
  | [], es, xs, h, h' => by
    have h : xs = [] := by simpa [Reps] using h
    subst h
    cases es with
    | nil => rfl
    | cons e es => simp [Reps] at h'
  | d :: ds, es, xs, h, h' => by
    obtain ⟨x, r, rfl, h1, h2⟩ : ∃ x r, xs = x :: r ∧ Rep X.K H d x ∧ Reps X.K H ds r := by simpa only [Reps] using h
    cases es with
    | nil => simp [Reps] at h'
    | cons e es =>
      obtain ⟨x', r', e', h1', h2'⟩ : ∃ x' r', x :: r = x' :: r' ∧ Rep X.K H e x' ∧ Reps X.K H es r' := by simpa only [Reps] using h'
      cases e'
      rw [rep_inj I d e x h1 h1', reps_inj I ds es r h2 h2']
end
/-- the two answers, for == and for !=, and eqBool -/
structure Eq3 (A : Around) (s : Shared) (u v : Value) (b : Bool) : Prop where
  eq : EqAt A s u v b
  rc : RcAt A s u v b
  ne : RcNeAt A s u v (!b)
theorem items_eq (I : Inv X pins σ H s) {n : Nat} {A : Around} (ih : ∀ (d d' : Dt) (x y : V) (u v : Value), depD d ≤ n → Rep X.K H d x → Rep X.K H d' y → RelV x u → RelV y v → Eq3 A.in1 s u v (eqDt d d'))
    {ds es : List Dt} {xs ys : List V} {us vs : List Value} (hd : depDs ds ≤ n) (hx : Reps X.K H ds xs) (hy : Reps X.K H es ys) (ru : Vals xs us) (rv : Vals ys vs) :
    ∀ j (h1 : j < us.toArray.size) (h2 : j < vs.toArray.size), EqAt A.in1 s us.toArray[j] vs.toArray[j] (eqDt (ds.getD j .non) (es.getD j .non)) := by
  intro j h1 h2
  have l1 : j < ds.length := by rw [hx.length, ru.length]; simpa using h1
  have l2 : j < es.length := by rw [hy.length, rv.length]; simpa using h2
  have e1 : ds[j]? = some ds[j] := by simp [l1]
  have e2 : es[j]? = some es[j] := by simp [l2]
  obtain ⟨x, ex, rx⟩ := hx.get e1
  obtain ⟨y, ey, ry⟩ := hy.get e2
  obtain ⟨u, eu, qu⟩ := ru.get ex
  obtain ⟨v, ev, qv⟩ := rv.get ey
  have h1' : j < us.length := by simpa using h1
  have h2' : j < vs.length := by simpa using h2
  have z1 : us.toArray[j] = u := by
    have : us[j]? = some us[j] := by simp [h1']
    rw [this] at eu
    simpa using eu
  have z2 : vs.toArray[j] = v := by
    have : vs[j]? = some vs[j] := by simp [h2']
    rw [this] at ev
    simpa using ev
  rw [z1, z2]
  have g1 : ds.getD j .non = ds[j] := by simp [List.getD, l1]
  have g2 : es.getD j .non = es[j] := by simp [List.getD, l2]
  rw [g1, g2]
  exact (ih _ _ x y u v (Nat.le_trans (depDs_get e1) hd) rx ry qu qv).eq
theorem eq3_lists (I : Inv X pins σ H s) {n : Nat} {A : Around} (hu : A.units < cLine) (ih : ∀ (d d' : Dt) (x y : V) (u v : Value), depD d ≤ n → Rep X.K H d x → Rep X.K H d' y → RelV x u → RelV y v → Eq3 A.in1 s u v (eqDt d d'))
    {ds es : List Dt} {p q : Addr} (hd : depDs ds ≤ n) (hp : Rep X.K H (.lst ds) (.ref p)) (hq : Rep X.K H (.lst es) (.ref q)) : Eq3 A s (.ref p) (.ref q) (eqDts ds es) := by
  obtain ⟨p', xs, e, lx, hx⟩ : ∃ p' xs, V.ref p = .ref p' ∧ SqL X.K H p' xs ∧ Reps X.K H ds xs := by simpa only [Rep] using hp
  cases e
  obtain ⟨q', ys, e, ly, hy⟩ : ∃ q' ys, V.ref q = .ref q' ∧ SqL X.K H q' ys ∧ Reps X.K H es ys := by simpa only [Rep] using hq
  cases e
  obtain ⟨us, ru, pu, _⟩ := I.list lx
  obtain ⟨vs, rv, pv', _⟩ := I.list ly
  have both : RcAt A s (.ref p) (.ref q) (eqDts ds es) ∧ RcNeAt A s (.ref p) (.ref q) (!eqDts ds es) := by
    by_cases hl : ds.length = es.length
    · have hsz : us.toArray.size = vs.toArray.size := by simp [← ru.length, ← rv.length, ← hx.length, ← hy.length, hl]
      have hz : us.toArray.size = ds.length := by simp [← ru.length, ← hx.length]
      have a := RcAt.lists pu.isList pv'.isList hsz hu (items_eq I ih hd hx hy ru rv)
      have b := RcNeAt.lists pu.isList pv'.isList hsz hu (items_eq I ih hd hx hy ru rv)
      rw [hz, eqDts_all ds es hl] at a b
      exact ⟨a, b⟩
    · have hsz : (us.toArray.size != vs.toArray.size) = true := by simp [← ru.length, ← rv.length, ← hx.length, ← hy.length, hl]
      rw [eqDts_length ds es hl]
      exact ⟨RcAt.lists_lengths pu.isList pv'.isList hsz hu, RcNeAt.lists_lengths pu.isList pv'.isList hsz hu⟩
  refine ⟨?_, both.1, both.2⟩
  by_cases hpq : p = q
  · subst hpq
    have : ds = es := by
      rw [I.list_inj ly lx] at hy
      exact reps_inj I ds es xs hx hy
    subst this
    rw [eqDts_refl]
    exact EqAt.same _
  · exact EqAt.of_refs hpq both.1
theorem eq3_tups (I : Inv X pins σ H s) {n : Nat} {A : Around} (hu : A.units < cLine) (ih : ∀ (d d' : Dt) (x y : V) (u v : Value), depD d ≤ n → Rep X.K H d x → Rep X.K H d' y → RelV x u → RelV y v → Eq3 A.in1 s u v (eqDt d d'))
    {ds es : List Dt} {p q : Addr} (hd : depDs ds ≤ n) (hp : Rep X.K H (.tup ds) (.ref p)) (hq : Rep X.K H (.tup es) (.ref q)) : Eq3 A s (.ref p) (.ref q) (eqDts ds es) := by
  obtain ⟨p', xs, e, lx, hx⟩ : ∃ p' xs, V.ref p = .ref p' ∧ SqT X.K H p' xs ∧ Reps X.K H ds xs := by simpa only [Rep] using hp
  cases e
  obtain ⟨q', ys, e, ly, hy⟩ : ∃ q' ys, V.ref q = .ref q' ∧ SqT X.K H q' ys ∧ Reps X.K H es ys := by simpa only [Rep] using hq
  cases e
  obtain ⟨us, ru, pu, _⟩ := I.tuple lx
  obtain ⟨vs, rv, pv', _⟩ := I.tuple ly
  have hz : us.toArray.size = ds.length := by simp [← ru.length, ← hx.length]
  have hz' : vs.toArray.size = es.length := by simp [← rv.length, ← hy.length]
  have key : ((List.range (min us.toArray.size vs.toArray.size)).all (fun j => eqDt (ds.getD j .non) (es.getD j .non)) && us.toArray.size == vs.toArray.size) = eqDts ds es := by
    rw [hz, hz']
    by_cases hl : ds.length = es.length
    · rw [← hl, Nat.min_self, eqDts_all ds es hl]; simp
    · rw [eqDts_length ds es hl]; simp [hl]
  have a := RcAt.tuples pu pv' hu (items_eq I ih hd hx hy ru rv)
  have b := RcNeAt.tuples pu pv' hu (items_eq I ih hd hx hy ru rv)
  rw [key] at a b
  refine ⟨?_, a, b⟩
  by_cases hpq : p = q
  · subst hpq
    have : ds = es := by
      rw [I.tuple_inj ly lx] at hy
      exact reps_inj I ds es xs hx hy
    subst this
    rw [eqDts_refl]
    exact EqAt.same _
  · exact EqAt.of_refs hpq a
end
section
variable {X : Cx} {pins : List (Addr × Obj)} {σ : St} {H : Hp} {s : Shared}
theorem rep_ref_l {ds : List Dt} {x : V} (h : Rep X.K H (.lst ds) x) : ∃ p xs, x = .ref p ∧ SqL X.K H p xs := by
  obtain ⟨p, xs, e, l, _⟩ : ∃ p xs, x = .ref p ∧ SqL X.K H p xs ∧ Reps X.K H ds xs := by simpa only [Rep] using h
  exact ⟨p, xs, e, l⟩
theorem rep_ref_t {ds : List Dt} {x : V} (h : Rep X.K H (.tup ds) x) : ∃ p xs, x = .ref p ∧ SqT X.K H p xs := by
  obtain ⟨p, xs, e, l, _⟩ : ∃ p xs, x = .ref p ∧ SqT X.K H p xs ∧ Reps X.K H ds xs := by simpa only [Rep] using h
  exact ⟨p, xs, e, l⟩
theorem eq3_step (I : Inv X pins σ H s) {n : Nat} {A : Around} (ih : ∀ (d d' : Dt) (x y : V) (u v : Value), depD d < n → Rep X.K H d x → Rep X.K H d' y → RelV x u → RelV y v → Eq3 A.in1 s u v (eqDt d d'))
    {d d' : Dt} {x y : V} {u v : Value} (hu : A.units + n < cLine) (hd : depD d ≤ n) (hx : Rep X.K H d x) (hy : Rep X.K H d' y) (rx : RelV x u) (ry : RelV y v) : Eq3 A s u v (eqDt d d') := by
  have hu0 : A.units < cLine := by omega
  cases d with
  | non =>
    have e : x = V.non := by simpa [Rep] using hx
    subst e
    cases rx
    cases d' with
    | non =>
      have e : y = V.non := by simpa [Rep] using hy
      subst e
      cases ry
      exact ⟨(EqAt.same _), RcAt.none_none , RcNeAt.none_none ⟩
    | bl b =>
      have e : y = V.bl b := by simpa [Rep] using hy
      subst e
      cases ry
      exact ⟨(EqAt.none_bool b), RcAt.none_bool b, RcNeAt.none_bool b⟩
    | int b =>
      have e : y = V.int b := by simpa [Rep] using hy
      subst e
      obtain ⟨u, rfl⟩ := ry
      exact ⟨(EqAt.none_int b u), RcAt.none_int b u, RcNeAt.none_int b u⟩
    | str b =>
      have e : y = V.str b := by simpa [Rep] using hy
      subst e
      obtain ⟨u, rfl⟩ := ry
      exact ⟨(EqAt.none_str b u), RcAt.none_str b u, RcNeAt.none_str b u⟩
    | lst b =>
      obtain ⟨pW, xsW, rfl, lW⟩ := rep_ref_l hy
      cases ry
      obtain ⟨itW, _, plW, _⟩ := I.list lW
      exact ⟨EqAt.none_list  plW.isList hu0, RcAt.none_list  plW.isList hu0, RcNeAt.none_list  plW.isList hu0⟩
    | tup b =>
      obtain ⟨pW, xsW, rfl, lW⟩ := rep_ref_t hy
      cases ry
      obtain ⟨itW, _, plW, _⟩ := I.tuple lW
      exact ⟨EqAt.none_tuple  plW hu0, RcAt.none_tuple  plW hu0, RcNeAt.none_tuple  plW hu0⟩
  | bl a =>
    have e : x = V.bl a := by simpa [Rep] using hx
    subst e
    cases rx
    cases d' with
    | non =>
      have e : y = V.non := by simpa [Rep] using hy
      subst e
      cases ry
      exact ⟨(EqAt.bool_none a), RcAt.bool_none a, RcNeAt.bool_none a⟩
    | bl b =>
      have e : y = V.bl b := by simpa [Rep] using hy
      subst e
      cases ry
      exact ⟨(EqAt.bool_bool a b), RcAt.bool_bool a b, RcNeAt.bool_bool a b⟩
    | int b =>
      have e : y = V.int b := by simpa [Rep] using hy
      subst e
      obtain ⟨u, rfl⟩ := ry
      exact ⟨(EqAt.bool_int a b u), RcAt.bool_int a b u, RcNeAt.bool_int a b u⟩
    | str b =>
      have e : y = V.str b := by simpa [Rep] using hy
      subst e
      obtain ⟨u, rfl⟩ := ry
      exact ⟨(EqAt.bool_str a b u), RcAt.bool_str a b u, RcNeAt.bool_str a b u⟩
    | lst b =>
      obtain ⟨pW, xsW, rfl, lW⟩ := rep_ref_l hy
      cases ry
      obtain ⟨itW, _, plW, _⟩ := I.list lW
      exact ⟨EqAt.bool_list a plW.isList hu0, RcAt.bool_list a plW.isList hu0, RcNeAt.bool_list a plW.isList hu0⟩
    | tup b =>
      obtain ⟨pW, xsW, rfl, lW⟩ := rep_ref_t hy
      cases ry
      obtain ⟨itW, _, plW, _⟩ := I.tuple lW
      exact ⟨EqAt.bool_tuple a plW hu0, RcAt.bool_tuple a plW hu0, RcNeAt.bool_tuple a plW hu0⟩
  | int a =>
    have e : x = V.int a := by simpa [Rep] using hx
    subst e
    obtain ⟨t, rfl⟩ := rx
    cases d' with
    | non =>
      have e : y = V.non := by simpa [Rep] using hy
      subst e
      cases ry
      exact ⟨(EqAt.int_none a t), RcAt.int_none a t, RcNeAt.int_none a t⟩
    | bl b =>
      have e : y = V.bl b := by simpa [Rep] using hy
      subst e
      cases ry
      exact ⟨(EqAt.int_bool a t b), RcAt.int_bool a t b, RcNeAt.int_bool a t b⟩
    | int b =>
      have e : y = V.int b := by simpa [Rep] using hy
      subst e
      obtain ⟨u, rfl⟩ := ry
      exact ⟨(EqAt.int_int a t b u), RcAt.int_int a t b u, RcNeAt.int_int a t b u⟩
    | str b =>
      have e : y = V.str b := by simpa [Rep] using hy
      subst e
      obtain ⟨u, rfl⟩ := ry
      exact ⟨(EqAt.int_str a t b u), RcAt.int_str a t b u, RcNeAt.int_str a t b u⟩
    | lst b =>
      obtain ⟨pW, xsW, rfl, lW⟩ := rep_ref_l hy
      cases ry
      obtain ⟨itW, _, plW, _⟩ := I.list lW
      exact ⟨EqAt.int_list a t plW.isList hu0, RcAt.int_list a t plW.isList hu0, RcNeAt.int_list a t plW.isList hu0⟩
    | tup b =>
      obtain ⟨pW, xsW, rfl, lW⟩ := rep_ref_t hy
      cases ry
      obtain ⟨itW, _, plW, _⟩ := I.tuple lW
      exact ⟨EqAt.int_tuple a t plW hu0, RcAt.int_tuple a t plW hu0, RcNeAt.int_tuple a t plW hu0⟩
  | str a =>
    have e : x = V.str a := by simpa [Rep] using hx
    subst e
    obtain ⟨t, rfl⟩ := rx
    cases d' with
    | non =>
      have e : y = V.non := by simpa [Rep] using hy
      subst e
      cases ry
      exact ⟨(EqAt.str_none a t), RcAt.str_none a t, RcNeAt.str_none a t⟩
    | bl b =>
      have e : y = V.bl b := by simpa [Rep] using hy
      subst e
      cases ry
      exact ⟨(EqAt.str_bool a t b), RcAt.str_bool a t b, RcNeAt.str_bool a t b⟩
    | int b =>
      have e : y = V.int b := by simpa [Rep] using hy
      subst e
      obtain ⟨u, rfl⟩ := ry
      exact ⟨(EqAt.str_int a t b u), RcAt.str_int a t b u, RcNeAt.str_int a t b u⟩
    | str b =>
      have e : y = V.str b := by simpa [Rep] using hy
      subst e
      obtain ⟨u, rfl⟩ := ry
      exact ⟨(EqAt.str_str a t b u), RcAt.str_str a t b u, RcNeAt.str_str a t b u⟩
    | lst b =>
      obtain ⟨pW, xsW, rfl, lW⟩ := rep_ref_l hy
      cases ry
      obtain ⟨itW, _, plW, _⟩ := I.list lW
      exact ⟨EqAt.str_list a t plW.isList hu0, RcAt.str_list a t plW.isList hu0, RcNeAt.str_list a t plW.isList hu0⟩
    | tup b =>
      obtain ⟨pW, xsW, rfl, lW⟩ := rep_ref_t hy
      cases ry
      obtain ⟨itW, _, plW, _⟩ := I.tuple lW
      exact ⟨EqAt.str_tuple a t plW hu0, RcAt.str_tuple a t plW hu0, RcNeAt.str_tuple a t plW hu0⟩
  | lst a =>
    obtain ⟨pU, xsU, rfl, lU⟩ := rep_ref_l hx
    cases rx
    obtain ⟨itU, _, plU, _⟩ := I.list lU
    cases d' with
    | non =>
      have e : y = V.non := by simpa [Rep] using hy
      subst e
      cases ry
      exact ⟨EqAt.list_none  plU.isList hu0, RcAt.list_none  plU.isList hu0, RcNeAt.list_none  plU.isList hu0⟩
    | bl b =>
      have e : y = V.bl b := by simpa [Rep] using hy
      subst e
      cases ry
      exact ⟨EqAt.list_bool b plU.isList hu0, RcAt.list_bool b plU.isList hu0, RcNeAt.list_bool b plU.isList hu0⟩
    | int b =>
      have e : y = V.int b := by simpa [Rep] using hy
      subst e
      obtain ⟨u, rfl⟩ := ry
      exact ⟨EqAt.list_int b u plU.isList hu0, RcAt.list_int b u plU.isList hu0, RcNeAt.list_int b u plU.isList hu0⟩
    | str b =>
      have e : y = V.str b := by simpa [Rep] using hy
      subst e
      obtain ⟨u, rfl⟩ := ry
      exact ⟨EqAt.list_str b u plU.isList hu0, RcAt.list_str b u plU.isList hu0, RcNeAt.list_str b u plU.isList hu0⟩
    | lst b =>
      obtain ⟨pW, xsW, rfl, lW⟩ := rep_ref_l hy
      cases ry
      obtain ⟨itW, _, plW, _⟩ := I.list lW
      have hd : depDs a + 1 ≤ n := by simpa only [depD] using hd
      exact eq3_lists I (n := n - 1) hu0 (fun d d' x y u v h => ih d d' x y u v (by omega)) (by omega) hx hy
    | tup b =>
      obtain ⟨pW, xsW, rfl, lW⟩ := rep_ref_t hy
      cases ry
      obtain ⟨itW, _, plW, _⟩ := I.tuple lW
      exact ⟨EqAt.list_tuple plU.isList plW hu0, RcAt.list_tuple plU.isList plW hu0, RcNeAt.list_tuple plU.isList plW hu0⟩
  | tup a =>
    obtain ⟨pU, xsU, rfl, lU⟩ := rep_ref_t hx
    cases rx
    obtain ⟨itU, _, plU, _⟩ := I.tuple lU
    cases d' with
    | non =>
      have e : y = V.non := by simpa [Rep] using hy
      subst e
      cases ry
      exact ⟨EqAt.tuple_none  plU hu0, RcAt.tuple_none  plU hu0, RcNeAt.tuple_none  plU hu0⟩
    | bl b =>
      have e : y = V.bl b := by simpa [Rep] using hy
      subst e
      cases ry
      exact ⟨EqAt.tuple_bool b plU hu0, RcAt.tuple_bool b plU hu0, RcNeAt.tuple_bool b plU hu0⟩
    | int b =>
      have e : y = V.int b := by simpa [Rep] using hy
      subst e
      obtain ⟨u, rfl⟩ := ry
      exact ⟨EqAt.tuple_int b u plU hu0, RcAt.tuple_int b u plU hu0, RcNeAt.tuple_int b u plU hu0⟩
    | str b =>
      have e : y = V.str b := by simpa [Rep] using hy
      subst e
      obtain ⟨u, rfl⟩ := ry
      exact ⟨EqAt.tuple_str b u plU hu0, RcAt.tuple_str b u plU hu0, RcNeAt.tuple_str b u plU hu0⟩
    | lst b =>
      obtain ⟨pW, xsW, rfl, lW⟩ := rep_ref_l hy
      cases ry
      obtain ⟨itW, _, plW, _⟩ := I.list lW
      exact ⟨EqAt.tuple_list plU plW.isList hu0, RcAt.tuple_list plU plW.isList hu0, RcNeAt.tuple_list plU plW.isList hu0⟩
    | tup b =>
      obtain ⟨pW, xsW, rfl, lW⟩ := rep_ref_t hy
      cases ry
      obtain ⟨itW, _, plW, _⟩ := I.tuple lW
      have hd : depDs a + 1 ≤ n := by simpa only [depD] using hd
      exact eq3_tups I (n := n - 1) hu0 (fun d d' x y u v h => ih d d' x y u v (by omega)) (by omega) hx hy
end
section
variable {X : Cx} {pins : List (Addr × Obj)} {σ : St} {H : Hp} {s : Shared}
theorem eq3 (I : Inv X pins σ H s) : ∀ (n : Nat) (A : Around) (d d' : Dt) (x y : V) (u v : Value), A.units + n < cLine → depD d ≤ n → Rep X.K H d x → Rep X.K H d' y → RelV x u → RelV y v → Eq3 A s u v (eqDt d d') := by
  intro n
  induction n with
  | zero => exact fun A d d' x y u v hu hd hx hy rx ry => eq3_step I (n := 0) (fun _ _ _ _ _ _ h => absurd h (Nat.not_lt_zero _)) hu hd hx hy rx ry
  | succ n ih => exact fun A d d' x y u v hu hd hx hy rx ry => eq3_step I (n := n + 1) (fun d d' x y u v h hx hy rx ry => ih A.in1 d d' x y u v (by show A.units + 1 + n < cLine; omega) (Nat.le_of_lt_succ h) hx hy rx ry) hu hd hx hy rx ry
end
section
variable {X : Cx}
/-- == of two trees; at most a hundred deep -/
theorem op_eq_d {k : Nat} (hr : Room k X.A) : OpR X (compareOp .Eq) (fun x y H Q => ∃ d d', Rep X.K H d x ∧ Rep X.K H d' y ∧ depD d ≤ 100 ∧ Q (.bl (eqDt d d')) H) := by
  intro pins s σ H x y v u Q I rx ry h
  obtain ⟨d, d', h1, h2, hd, q⟩ := h
  exact (eq3 I 100 X.A d d' x y v u (by have := hr.un; omega) hd h1 h2 rx ry).rc X.prog X.w X.xe _ ⟨.bl _, H, I, rfl, q⟩
theorem op_ne_d {k : Nat} (hr : Room k X.A) : OpR X (compareOp .NotEq) (fun x y H Q => ∃ d d', Rep X.K H d x ∧ Rep X.K H d' y ∧ depD d ≤ 100 ∧ Q (.bl (!eqDt d d')) H) := by
  intro pins s σ H x y v u Q I rx ry h
  obtain ⟨d, d', h1, h2, hd, q⟩ := h
  exact (eq3 I 100 X.A d d' x y v u (by have := hr.un; omega) hd h1 h2 rx ry).ne X.prog X.w X.xe _ ⟨.bl _, H, I, rfl, q⟩
end
end L2
set_option Elab.async false
set_option linter.all false
set_option maxRecDepth 100000
set_option maxHeartbeats 4000000
namespace L2
open PySem PySem.Spec PyProof.Rows
def isW : V → Bool
  | .int _ => true
  | _ => false
def isIB : V → Bool
  | .int _ => true
  | .bl _ => true
  | _ => false
def isB : V → Bool
  | .bl _ => true
  | _ => false
def isS : V → Bool
  | .str _ => true
  | _ => false
theorem isW_eq (x : V) : isW x = (isIB x && !isB x) := by cases x <;> rfl
section
variable {K : PySem.W.Frag} {H H' : Hp} {x : V} {n : String}
theorem bt_int (h : TyOf K H x (.type n)) : clsIs K (.type n) (.ty "int") = some (isIB x) := by cases h <;> rfl
theorem bt_bool (h : TyOf K H x (.type n)) : clsIs K (.type n) (.ty "bool") = some (isB x) := by cases h <;> rfl
theorem bt_str (h : TyOf K H x (.type n)) : clsIs K (.type n) (.ty "str") = some (isS x) := by cases h <;> rfl
theorem bt_list (h : TyOf K H x (.type n)) : clsIs K (.type n) (.ty "list") = some (n == "list") := by cases h <;> rfl
theorem bt_tuple (h : TyOf K H x (.type n)) : clsIs K (.type n) (.ty "tuple") = some (n == "tuple") := by cases h <;> rfl
theorem TyOf.same {t : Value} (e : Same H H') (h : TyOf K H x t) : TyOf K H' x t := by
  cases h with
  | non => exact .non
  | bl b => exact .bl b
  | int i => exact .int i
  | str y => exact .str y
  | flt y => exact .flt y
  | lst q => exact .lst (e _ _ q)
  | frz q => exact .frz (e _ _ q)
  | tup q => exact .tup (e _ _ q)
  | dK q => exact .dK (e _ _ q)
  | dT q => exact .dT (e _ _ q)
  | ins q c a b d m => exact .ins (e _ _ q) c a b d m
end
theorem atI_0 {α : Type} {c : α} {cs : List α} : atI (c :: cs) (0 : Int) = some c := atI_nat (j := 0) rfl
theorem atI_lt {α : Type} {xs : List α} {i : Int} (h0 : 0 ≤ i) (h1 : i < xs.length) : ∃ v, atI xs i = some v ∧ v ∈ xs := by
  obtain ⟨j, rfl⟩ : ∃ j : Nat, i = (j : Int) := ⟨i.toNat, by omega⟩
  have hj : j < xs.length := by omega
  exact ⟨xs[j], atI_nat (by simp [hj]), List.getElem_mem hj⟩
theorem Same.new {H : Hp} {p : Addr} {o : HO} (h : H p = none) : Same H (upd H p o) := fun b u e => by
  rw [upd_ne (ne_of_none e h)]
  exact e
theorem Same.tup {K : PySem.W.Frag} {H H' : Hp} {a : Addr} {xs : List V} (e : Same H H') (h : SqT K H a xs) : SqT K H' a xs := by
  rcases h with (h | ⟨o, h⟩) | h
  · exact .inl (.inl (e _ _ h))
  · exact .inl (.inr ⟨o, e _ _ h⟩)
  · exact .inr h
/-- all but the object at p is as it was -/
def Off (p : Addr) (H H' : Hp) : Prop := ∀ b, b ≠ p → H' b = H b
theorem Off.refl (p : Addr) (H : Hp) : Off p H H := fun _ _ => rfl
theorem Off.trans {p : Addr} {H H1 H2 : Hp} (a : Off p H H1) (b : Off p H1 H2) : Off p H H2 := fun c h => (b c h).trans (a c h)
theorem Off.upd {p : Addr} {H : Hp} {o : HO} : Off p H (upd H p o) := fun _ h => upd_ne h
theorem Off.seq {K : PySem.W.Frag} {p a : Addr} {H H' : Hp} {xs : List V} (e : Off p H H') (ne : a ≠ p) (h : SqL K H a xs) : SqL K H' a xs := by
  rcases h with (h | ⟨o, h⟩) | h
  · exact .inl (.inl (by rw [e a ne]; exact h))
  · exact .inl (.inr ⟨o, by rw [e a ne]; exact h⟩)
  · exact .inr h
theorem small_line {n : Nat} (h : n ≤ 1000000) : n ≤ sizeLine := Nat.le_trans h (by decide)
end L2
namespace L2
open PySem PySem.Spec PyProof.Rows
/-- as def_of, for a function that is known by its address (the law's own) -/
theorem fnok_of {P : Program} {w : World} {K : PySem.W.Frag} {mg : Str → Option Value} {base : Heap} {CX : CXT} {x : Str} {ps : List Str} {sp : Sp} {k : Nat} {st : Stmt} {N : List Str} {f : Addr} {fd : FuncData}
    (F : Fun K x x st f fd) (S : FnScope N ps (defScope st)) (len : ∀ vs H Q E, sp vs H Q E → vs.length = ps.length)
    (hbody : ∀ (cdv : Value) (A : Around) (outer : List Env) (s : Shared) (H : Hp) (vs : List V) (Q : VK) (E : XK), Room k (A.deeper (envOfC x (defScope st) s.heap.objs.size f cdv)) → sp vs H Q E →
      ∃ t, PSs (cxOf CX P w K mg base N x (defScope st) f cdv A outer s H E).nox (defBody st) t ∧ t { nx := fun _ H' => Q .non H', rt := Q } (start N vs) H) : FnOk P w K mg base CX (k + 1) f fd ps sp := by
  obtain ⟨oc, od, kV, doc, pm, an, cdv, ct, osl, rfl, lk, hcd⟩ := F.ex
  refine fn_of lk hcd S len fun A outer s H vs Q E hr hsp => ?_
  obtain ⟨t, h, q⟩ := hbody cdv A outer s H vs Q E hr hsp
  exact ⟨t, h.nox, q⟩
end L2
set_option Elab.async false
set_option linter.all false
set_option maxRecDepth 100000
set_option maxHeartbeats 4000000
namespace L2
open PySem PySem.Spec PyProof.Rows
/-- what is asked of the built-in class under which own exception classes stand, bm being what stands above the class itself (own classes too) -/
structure ExcF (B newId initId : String) (bm : List Value) : Prop where
  call : ExcCallFacts B newId initId
  split : splitId newId = some (B, "__new__")
  kind : builtinKind newId = some .builtinFn
  row : Manifest.signature? newId = some ⟨.any, B, B, .cls, [⟨"args", .varPos, false⟩, ⟨"kwargs", .varKw, false⟩]⟩
  hasB : bm.contains (.type B) = true
  hasE : bm.contains (.type "BaseException") = true
  noA : bm.contains (.type "AttributeError") = false
  noN : bm.contains (.type "NameError") = false
  canon : Manifest.canonical newId = Manifest.canonical "BaseException.__new__"
theorem excF_ValueError : ExcF "ValueError" "ValueError.__new__" "ValueError.__init__" [.type "ValueError", .type "Exception", .type "BaseException", .type "object"] :=
  ⟨PySem.F.excBase_ValueError.toExcCallFacts, PySem.F.excBase_ValueError.newSplit, PySem.F.excBase_ValueError.newKind, PySem.F.excBase_ValueError.newRow, PySem.F.excBase_ValueError.hasB, PySem.F.excBase_ValueError.hasBase, PySem.F.excBase_ValueError.noAttr, PySem.F.excBase_ValueError.noName, PySem.F.excBase_ValueError.canon⟩
theorem ExcF.under {B newId initId : String} {bm : List Value} (F : ExcF B newId initId bm) (R : Addr) : ExcF B newId initId (.ref R :: bm) :=
  ⟨F.call, F.split, F.kind, F.row, by rw [List.contains_cons, F.hasB, Bool.or_true], by rw [List.contains_cons, F.hasE, Bool.or_true], by rw [List.contains_cons, F.noA]; rfl, by rw [List.contains_cons, F.noN]; rfl, F.canon⟩
section
variable {prog : Program} {w : World} {M : Model} {A : Around} {E : Value → Shared → Prop} {R : Result → Shared → Prop} {h : Heap} {g : Array GenState} {d : Drawn} {t : Nat} {os : OsState}
variable {nm q : Str} {C N : Addr} {bs bm : List Value} {hdct : Bool} {sn : List Str} {sub : List Value} {ab : Bool} {col : Option Bool} {dd : Option Addr} {k0 k1 k2 k3 k5 : Option Value} {B newId initId : String}
theorem ExcF.has (F : ExcF B newId initId bm) : (Value.ref C :: bm).contains (.type B) = true := by rw [List.contains_cons, F.hasB, Bool.or_true]
theorem exc_check_new (F : ExcF B newId initId bm) {rest : List Value} {Q : Unit → Shared → Prop} (hC : h.get? C = some (excClassObj nm q C N bs bm hdct sn sub ab col dd k0 k1 k2 k3 k5 newId)) (hq : Q () ⟨h, g, d, t, os⟩) :
    wpAny M A (checkBuiltinCall newId ⟨.ref C :: rest, []⟩) Q E ⟨h, g, d, t, os⟩ := by
  have e1 : (Value.ref C :: bm).contains (.type B) = true := F.has
  have e2 := F.call.noStar
  simp only [checkBuiltinCall, F.kind, F.split, F.row]
  repeat (first | refine wpAny_loadPart_at hC ?_ | (refine wpAny_isSubtype_exc hC ?_; rw [e1]) | refine wpAny_staticBase_exc hC ?_ | refine wpAny_madeBy_exc hC ?_ | simp only [bne_self_eq_false, Bool.false_eq_true, if_false] | wp_step)
  exact hq
theorem exc_new (F : ExcF B newId initId bm) {rest : List Value} (hC : h.get? C = some (excClassObj nm q C N bs bm hdct sn sub ab col dd k0 k1 k2 k3 k5 newId))
    (hq : R (.ok (.ret (.ref (h.objs.size + 1)))) ⟨(h.push { cls := .type "tuple", data := .seq rest.toArray }).push { cls := .ref C, data := .fields #[.ref h.objs.size, .none, .none, .none, .bool false, .none] }, g, d, t, os⟩) (hz : rest.length ≤ sizeLine) :
    codeAny (model prog w) A (.builtin newId ⟨.ref C :: rest, []⟩) R ⟨h, g, d, t, os⟩ := by
  have e0 := F.call.ends
  have e1 : (Value.ref C :: bm).contains (.type B) = true := F.has
  have e2 : (Value.ref C :: bm).contains (.type "AttributeError") = false := by rw [List.contains_cons, F.noA]; rfl
  have e3 : (Value.ref C :: bm).contains (.type "NameError") = false := by rw [List.contains_cons, F.noN]; rfl
  refine codeAny_builtinAt F.call.entry ?_
  unfold Builtin.«BaseException.__new__»; refine PySem.wpAt_bind ?_
  show PySem.wpAt _ _ _ (stack >>= _) _ _ _; refine PySem.wpAt_bind (PySem.wpAt_stack fun p below => PySem.wpAt_of_wpAny ?_)
  wp_walk; refine PySem.wpAt_of_wpAny ?_
  rw [F.call.owner]
  repeat (first | with_reducible refine wpAny_madeHere_exc F.canon hC ?_ | with_reducible refine wpAny_loadPart_at hC ?_ | (with_reducible refine wpAny_isSubtype_exc hC ?_; first | rw [e1] | rw [e2] | rw [e3]) | wp_step)
  show R _ _; rw [Heap.size_push]; exact hq
/-- C(..) by its own __init__ -/
theorem exc_make (F : ExcF B newId initId bm) {rest : List Value} {fI : Addr} {oI : Obj} {Q : Value → Shared → Prop} (hC : h.get? C = some (excClassObj nm q C N bs bm hdct sn sub ab col dd k0 k1 k2 k3 k5 newId))
    (hi : PySem.W.Looks (model prog w) h (typeLookup (.ref C) "__init__") (some (.ref fI))) (hfI : h.get? fI = some oI) (hfc : oI.cls = .type "function")
    (hq : ∀ h', (∀ b o, h.get? b = some o → h'.get? b = some o) → h'.get? (h.objs.size + 1) = some { cls := .ref C, data := .fields #[.ref h.objs.size, .none, .none, .none, .bool false, .none] } → wpAny (model prog w) (A.under (.builtin "type.__call__" ⟨.ref C :: rest, []⟩)) (PySem.call (.ref fI) (.ref (h.objs.size + 1) :: rest)) (fun r s' => r = .none ∧ Q (.ref (h.objs.size + 1)) s') E ⟨h', g, d, t, os⟩) (hz : rest.length ≤ sizeLine) :
    wpAny (model prog w) A (PySem.call (.ref C) rest) Q E ⟨h, g, d, t, os⟩ := by
  have f1 := tc_lookup
  have f2 := tc_bind (.ref C)
  have hT : (⟨h, g, d, t, os⟩ : Shared).TypeIs (.ref C) "type" := ⟨_, hC, rfl⟩
  refine wpAny_call (codeAny_of_tree ?_)
  show wpAny _ _ (callAny (.ref C) _) _ _ _
  repeat (any_goals (first | assumption | with_reducible refine wpAny_loadPart_at hC ?_ | wp_step))
  refine ⟨rfl, codeAny_call_builtin_at (Code.quiet_builtin _ (by decide +kernel)) entry_typeCall (wpAny_check_type_call_sub hC ?_)⟩
  repeat (first | with_reducible refine wpAny_loadPart_at hC ?_ | with_reducible refine wpAny_madeBy_exc hC ?_ | wp_step)
  refine codeAny_call_builtin_code (Code.quiet_builtin _ F.call.quiet) (exc_check_new F hC (exc_new F hC ?_ hz))
  show wpAny _ _ _ _ _ (⟨(h.push { cls := .type "tuple", data := .seq rest.toArray }).push { cls := .ref C, data := .fields #[.ref h.objs.size, .none, .none, .none, .bool false, .none] }, g, d, t, os⟩ : Shared)
  generalize hh2 : (h.push { cls := .type "tuple", data := .seq rest.toArray }).push { cls := .ref C, data := .fields #[.ref h.objs.size, .none, .none, .none, .bool false, .none] } = h2
  have kp : ∀ b o, h.get? b = some o → h2.get? b = some o := fun b o e => by rw [← hh2]; exact Heap.get?_push_of_some _ (Heap.get?_push_of_some _ e)
  have hget : h2.get? (h.objs.size + 1) = some { cls := .ref C, data := .fields #[.ref h.objs.size, .none, .none, .none, .bool false, .none] } := by rw [← hh2]; heap_get
  have htup : h2.get? h.objs.size = some { cls := .type "tuple", data := .seq rest.toArray } := by rw [← hh2]; exact Heap.get?_push_of_some _ (Heap.get?_push_at rfl rfl)
  have hcC : (Value.ref C :: bm).contains (.ref C) = true := by simp
  unfold isInstance
  repeat (first | with_reducible refine wpAny_loadPart_at hget ?_ | (with_reducible refine wpAny_isSubtype_exc (kp _ _ hC) ?_; rw [hcC]) | wp_step)
  show wpAny _ _ (typeLookup (.ref C) _) _ _ _
  refine hi _ _ _ _ kp ?_
  refine wpAny_holding (wpAny_bind ?_)
  unfold bindSpecial; refine wpAny_bind (wpAny_typeOf (T := "function") ⟨_, kp _ _ hfI, hfc⟩ ?_)
  rw [if_pos (by decide)]
  refine wpAny_pure (wpAny_bind (wpAny_mono (hq h2 kp hget) (fun r s' hr => ?_) fun _ _ x => x))
  obtain ⟨rfl, hQ⟩ := hr
  wp_walk
  exact hQ
end
end L2
set_option Elab.async false
set_option linter.all false
set_option maxRecDepth 100000
set_option maxHeartbeats 4000000
namespace L2
open PySem PySem.Spec PyProof.Rows
section
variable {prog : Program} {w : World} {A : Around} {E : Value → Shared → Prop} {s : Shared} {K : PySem.W.Frag} {e C : Addr} {oe : Obj} {vs : Array Value} {name : Str} {v : Value}
theorem exc_notCls (hf : oe.data = .fields vs) : PySem.W.notCls oe = true := by
  unfold PySem.W.notCls
  rw [hf]
/-- the classes above: own ones, then ValueError's -/
def exOnly : List Value → Bool
  | .ref _ :: r => exOnly r
  | l => l == [.type "ValueError", .type "Exception", .type "BaseException", .type "object"]
theorem refuse_ve (self : Value) : refuseLoop self "__setattr__" [.type "ValueError", .type "Exception", .type "BaseException", .type "object"] = pure () := by kernel_rfl
theorem refuse_ex (self : Value) : ∀ {l : List Value}, exOnly l = true → refuseLoop self "__setattr__" l = pure ()
  | .ref c :: r, h => by
    rw [refuseLoop_ref]
    exact refuse_ex self h
  | [], h => by cases h
  | .type n :: r, h => by
    have z : (Value.type n :: r) = [.type "ValueError", .type "Exception", .type "BaseException", .type "object"] := eq_of_beq h
    rw [z]
    exact refuse_ve self
  | .none :: r, h => by cases (eq_of_beq h : (Value.none :: r) = _)
  | .bool _ :: r, h => by cases (eq_of_beq h : (_ :: r) = _)
  | .int _ _ :: r, h => by cases (eq_of_beq h : (_ :: r) = _)
  | .str _ _ :: r, h => by cases (eq_of_beq h : (_ :: r) = _)
  | .bytes _ _ :: r, h => by cases (eq_of_beq h : (_ :: r) = _)
  | .float _ _ :: r, h => by cases (eq_of_beq h : (_ :: r) = _)
  | .builtin _ :: r, h => by cases (eq_of_beq h : (_ :: r) = _)
  | .ellipsis :: r, h => by cases (eq_of_beq h : (_ :: r) = _)
  | .notImplemented :: r, h => by cases (eq_of_beq h : (_ :: r) = _)
theorem exOnly_has : ∀ {l : List Value}, exOnly l = true → l.contains (.type "object") = true ∧ l.isEmpty = false
  | .ref c :: r, h => ⟨by rw [List.contains_cons, (exOnly_has (l := r) h).1, Bool.or_true], rfl⟩
  | [], h => by cases h
  | .type n :: r, h => by
    have z : (Value.type n :: r) = [.type "ValueError", .type "Exception", .type "BaseException", .type "object"] := eq_of_beq h
    rw [z]
    exact ⟨by decide, rfl⟩
  | .none :: r, h => by cases (eq_of_beq h : (Value.none :: r) = _)
  | .bool _ :: r, h => by cases (eq_of_beq h : (_ :: r) = _)
  | .int _ _ :: r, h => by cases (eq_of_beq h : (_ :: r) = _)
  | .str _ _ :: r, h => by cases (eq_of_beq h : (_ :: r) = _)
  | .bytes _ _ :: r, h => by cases (eq_of_beq h : (_ :: r) = _)
  | .float _ _ :: r, h => by cases (eq_of_beq h : (_ :: r) = _)
  | .builtin _ :: r, h => by cases (eq_of_beq h : (_ :: r) = _)
  | .ellipsis :: r, h => by cases (eq_of_beq h : (_ :: r) = _)
  | .notImplemented :: r, h => by cases (eq_of_beq h : (_ :: r) = _)
def excOver (K : PySem.W.Frag) (C : Addr) : Bool := (PySem.W.clsIn K C).any fun cd => exOnly cd.mro
/-- object.__setattr__ on an exception: up to the store -/
theorem osa_exc {ox : Obj} {od : Option Obj} {tk : Tok} {R : Result → Shared → Prop} (X : K.In s.heap) (I : PySem.W.InstAt s.heap e ox C od) (hp : excOver K C = true) (ht : PySem.W.takerIn K C name = some none)
    (h : ∀ b, wpAny (model prog w) A.in1 (Builtin.ObjectAttr.storeInOwnDict (.ref e) (.ref C) (.str name tk) name v b)
      (fun fin s' => match fin with | .done f => R (.ok f) s' | .again c' => c'.quiet = true ∧ codeAny (model prog w) A c' R s') (fun x s' => R (.error x) s') s) :
    codeAny (model prog w) A (.call (.builtin "object.__setattr__") ⟨[.ref e, .str name tk, v], []⟩) R s := by
  have SF := PySem.F.store_object
  obtain ⟨cd, hc, ho⟩ := PySem.W.any_some hp
  obtain ⟨hasO, ne⟩ := exOnly_has ho
  have sub : PySem.W.Looks (model prog w) s.heap (isInstance (.ref e) (.type "object")) true := I.type.andThen (PySem.W.looks_mroIn X (by unfold PySem.W.mroIn; rw [hc, Option.bind_some, if_neg (by rw [ne]; decide), hasO]))
  refine codeAny_call_builtin SF.slot.plain SF.entry (@PySem.W.check_slot (model prog w) _ _ s "object.__setattr__" "object" "__setattr__" (.ref e) [.str name tk, v] [] _ SF.kind SF.split sub (SF.args (.ref e) (.str name tk) v) ?_)
  obtain ⟨attr, ha, hr⟩ := Option.bind_eq_some_iff.mp ht
  have hm : PySem.W.Looks (model prog w) s.heap (mroOf (.ref C)) cd.mro := (PySem.W.looks_clsIn X hc).andThen .now
  have L3 : PySem.W.Looks (model prog w) s.heap (Builtin.ObjectAttr.storeTaker? attr) none := by
    cases attr with
    | none => exact .now
    | some a =>
      obtain ⟨b, hb, q⟩ := Option.map_eq_some_iff.mp hr
      refine (PySem.W.looks_takesIn X hb).andThen ?_
      cases b with
      | true => cases q
      | false => exact .now
  rw [PySem.W.osa_eq, refuse_eq]
  refine wpAny_bind (wpAny_bind (I.type.here (wpAny_bind (hm.here ?_))))
  rw [refuse_ex _ ho]
  refine wpAny_pure (wpAny_bind (I.type.here (wpAny_bind ((PySem.W.looks_findIn X ha).here (wpAny_bind (L3.here ?_))))))
  exact h _
/-- the first field that is stored: the exception gets its dict -/
theorem exc_set0 {Q : Unit → Shared → Prop} (X : K.In s.heap) (he : s.heap.get? e = some oe) (hc : oe.cls = .ref C) (hd : oe.dict = none) (hf : oe.data = .fields vs)
    (hs : PySem.W.findIn K (.ref C) "__setattr__" = some (some (.builtin "object.__setattr__"))) (hp : excOver K C = true) (ht : PySem.W.takerIn K C name = some none) (hh : PySem.W.hasDictIn K C = true)
    (h : ∀ h', (∀ b o, b ≠ e → s.heap.get? b = some o → h'.get? b = some o) → h'.get? e = some { oe with dict := some s.heap.objs.size } → h'.Ns1 s.heap.objs.size (fun y => if y = name then some v else none) → Q () { s with heap := h', toks := s.toks + 2 }) :
    wpAny (model prog w) A (setAttr (.ref e) name v) Q E s := by
  have J : PySem.W.InstAt s.heap e oe C none := ⟨he, hc, exc_notCls hf, by rw [hd]; trivial⟩
  refine PySem.W.set_plain X J hs (osa_exc (s := { s with toks := s.toks + 1 }) X J hp ht fun b => ?_)
  obtain ⟨cd, hcd, hdd⟩ := PySem.W.any_some hh
  obtain ⟨oc, od, odt, osl⟩ := oe
  simp only at hc hd hf
  subst hc hd hf
  refine wpAny_bind (wpAny_pure (wpAny_bind (wpAny_bind (wpAny_loadPart he (wpAny_bind (PySem.W.Looks.here (s := { s with toks := s.toks + 1 }) (PySem.W.looks_clsIn X hcd) ?_))))))
  rw [hdd]
  show wpAny (model prog w) A.in1 (alloc { cls := .type "dict", data := .dict #[] } >>= fun d => (update e fun o => { o with dict := some d }) >>= fun _ => dictMade (.ref C) e d) _ _ _
  have hlt : e < s.heap.objs.size := Heap.lt_size he
  have hne : e ≠ s.heap.objs.size := Nat.ne_of_lt hlt
  refine wpAny_bind (wpAny_alloc (wpAny_bind (wpAny_update (Heap.get?_push_of_some _ he) ?_)))
  show wpAny (model prog w) A.in1 (pure (some s.heap.objs.size)) _ _ _
  refine wpAny_pure (wpAny_bind (wpAny_pure (wpAny_bind ?_)))
  have e0 : ((s.heap.push { cls := .type "dict", data := .dict #[] }).update e fun o => { o with dict := some s.heap.objs.size }).get? s.heap.objs.size = some { cls := .type "dict", data := .dict #[] } :=
    (Heap.get?_update_other _ _ hne).trans (Heap.get?_push_size s.heap rfl)
  have e1 : ((s.heap.push { cls := .type "dict", data := .dict #[] }).update e fun o => { o with dict := some s.heap.objs.size }).get? e = some { cls := .ref C, dict := some s.heap.objs.size, data := .fields vs, slots := osl } :=
    Heap.get?_update_self _ (Heap.get?_push_of_some _ he) rfl
  have n0 : ((s.heap.push { cls := .type "dict", data := .dict #[] }).update e fun o => { o with dict := some s.heap.objs.size }).Ns s.heap.objs.size (fun _ => none) :=
    ⟨_, #[], _, e0, rfl, (fun y hy => absurd hy (by simp)), fun _ => rfl⟩
  refine wpAny_nsSet1 (Heap.Ns1.of_empty n0) fun h' hn2 hs2 => ?_
  obtain ⟨oD, esD, epD, hoD, hdD, hcD⟩ := hn2.count (PySem.Within.cons (ns := []) name v (fun y hy => absurd rfl hy))
  refine wpAny_bind (wpAny_lookBehind hoD (by rw [hdD]; exact pastItsLine_dict (Nat.le_trans hcD (by show 1 ≤ _; decide))) ?_)
  refine wpAny_pure (h h' (fun b o hb q => ?_) ((hs2.2 _ hne).trans e1) hn2)
  rw [hs2.2 b (Nat.ne_of_lt (Heap.lt_size q))]
  exact (Heap.get?_update_other _ _ (Ne.symm hb)).trans (Heap.get?_push_of_some _ q)
/-- a further field -/
theorem exc_set1 {dx : Addr} {mA : Str → Option Value} {ns : List Str} {Q : Unit → Shared → Prop} (X : K.In s.heap) (he : s.heap.get? e = some oe) (hc : oe.cls = .ref C) (hd : oe.dict = some dx) (hf : oe.data = .fields vs) (hn : s.heap.Ns1 dx mA) (hne : dx ≠ e)
    (hs : PySem.W.findIn K (.ref C) "__setattr__" = some (some (.builtin "object.__setattr__"))) (hp : excOver K C = true) (ht : PySem.W.takerIn K C name = some none) (hh : PySem.W.hasDictIn K C = true) (hw : PySem.Within mA ns) (hsz : ns.length ≤ 1000)
    (h : ∀ h', Heap.SameBut dx s.heap h' → h'.Ns1 dx (fun y => if y = name then some v else mA y) → Q () { s with heap := h', toks := s.toks + 2 }) :
    wpAny (model prog w) A (setAttr (.ref e) name v) Q E s := by
  obtain ⟨od, ho, _⟩ := lookIn_ns hn
  have J : PySem.W.InstAt s.heap e oe C (some od) := ⟨he, hc, exc_notCls hf, by rw [hd]; exact ho⟩
  refine PySem.W.set_plain X J hs (osa_exc (s := { s with toks := s.toks + 1 }) X J hp ht fun b => ?_)
  obtain ⟨cd, hcd, hdd⟩ := PySem.W.any_some hh
  obtain ⟨oc, od', odt, osl⟩ := oe
  simp only at hc hd hf
  subst hc hd hf
  refine wpAny_bind (wpAny_pure (wpAny_bind (wpAny_bind (wpAny_loadPart he (wpAny_bind (PySem.W.Looks.here (s := { s with toks := s.toks + 1 }) (PySem.W.looks_clsIn X hcd) ?_))))))
  rw [hdd]
  refine wpAny_pure (a := some dx) (wpAny_bind (wpAny_pure (wpAny_bind (wpAny_nsSet1 (s := { s with toks := s.toks + 1 }) hn fun h' hn2 hs2 => ?_))))
  obtain ⟨oD, esD, epD, hoD, hdD, hcD⟩ := hn2.count (PySem.Within.cons name v hw)
  refine wpAny_bind (wpAny_lookBehind hoD (by rw [hdD]; exact pastItsLine_dict (Nat.le_trans hcD (by rw [List.length_cons]; have := sizeLine_eq; omega))) ?_)
  exact wpAny_pure (h h' hs2 hn2)
/-- e.f -/
theorem exc_get {dx : Addr} {mA : Str → Option Value} {expr : Bool} {Q : Value → Shared → Prop} (X : K.In s.heap) (he : s.heap.get? e = some oe) (hc : oe.cls = .ref C) (hd : oe.dict = some dx) (hf : oe.data = .fields vs) (hn : s.heap.Ns1 dx mA)
    (hga : PySem.W.findIn K (.ref C) "__getattribute__" = some (some (.builtin "BaseException.__getattribute__"))) (hgb : PySem.W.findIn K (.ref C) "__getattr__" = some none) (hmb : PySem.W.mroIn K C (.type "BaseException") = some true)
    (hh : PySem.W.hasDictIn K C = true) (ha : PySem.W.findIn K (.ref C) name = some none) (hv : mA name = some v) (hv' : PySem.W.handedIn v = true) (h : Q v { s with toks := s.toks + 1 }) :
    wpAny (model prog w) A (getAttr (.ref e) name expr) Q E s := by
  obtain ⟨od, ho, hl⟩ := lookIn_ns hn
  have J : PySem.W.InstAt s.heap e oe C (some od) := ⟨he, hc, exc_notCls hf, by rw [hd]; exact ho⟩
  have hfo : PySem.W.findObj K C (some od) name = some (.value v) := PySem.W.findObj_own hh ha rfl (by rw [hl, hv])
  obtain ⟨hp, g, d, t, os⟩ := s
  have L0 := J.type (M := model prog w)
  have L1 := PySem.W.looks_findIn (M := model prog w) X hga
  have L2 := PySem.W.looks_find (M := model prog w) X J hfo
  have L3 := PySem.W.looks_findIn (M := model prog w) X hgb
  have hx0 : (expr && onTheHeap (Value.builtin "BaseException.__getattribute__")) = false := by cases expr <;> rfl
  have sub : PySem.W.Looks (model prog w) hp (isInstance (.ref e) (.type "BaseException")) true := J.type.andThen (PySem.W.looks_mroIn X hmb)
  unfold getAttr getAttrBy
  refine wpAny_bind (wpAny_mkText (wpAny_holding (wpAny_bind (L0.at (wpAny_bind (L1.at ?_))))))
  show wpAny _ _ (getAttrByItsOwn (.ref e) (.str name t) (.ref C) (.builtin "BaseException.__getattribute__") true expr) _ _ _
  unfold getAttrByItsOwn
  refine wpAny_bind (show wpAny _ _ (typeLookup (.ref C) "__getattr__") _ _ _ from L3.at ?_)
  refine wpAny_bind (wpAny_attempt (wpAny_holding ?_))
  unfold callGetattribute
  rw [hx0, if_neg Bool.false_ne_true]
  unfold boundAndCalled
  rw [PySem.F.excAttr_ValueError.ga.bind (.ref e)]
  refine wpAny_bind (wpAny_pure (wpAny_call (codeAny_call_builtin PySem.F.excAttr_ValueError.ga.plain PySem.F.entry_bexc_ga (@PySem.W.check_slot (model prog w) _ _ _ "BaseException.__getattribute__" "BaseException" "__getattribute__" (.ref e) [.str name t] [] _ (by decide +kernel) (by decide +kernel) sub (PySem.F.args_bexc_ga _ _) ?_))))
  refine wpAny_bind (wpAny_pure (wpAny_bind (wpAny_pure (wpAny_bind (L0.at (wpAny_bind (L2.at (wpAny_pure ?_))))))))
  show wpAny _ _ (handedOut v) _ _ _
  rw [PySem.W.handedOut_of hv']; exact wpAny_pure h
end
end L2
set_option Elab.async false
set_option linter.all false
set_option maxRecDepth 100000
set_option maxHeartbeats 4000000
namespace L2
open PySem PySem.Spec PyProof.Rows
/-- an exception of the class at C that was made and not raised yet; dx: its dict, once it has one -/
def excO (e C : Addr) (dx : Option Addr) : HO := .ext fun h => ∃ t sl, h.get? e = some { cls := .ref C, dict := dx, data := .fields #[.ref t, .none, .none, .none, .bool false, .none], slots := sl }
/-- its dict -/
def dctO (dx : Addr) (fs : List (Str × V)) : HO := .ext fun h => ∃ mA, h.Ns1 dx mA ∧ (∀ f, RelO (fs.lookup f) (mA f)) ∧ PySem.Within mA (fs.map (·.1)) ∧ fs.length ≤ 100
section
variable {P : Program} {w : World} {H : Hp} {h : Heap} {e C dx : Addr}
theorem excO_ok {do' : Option Addr} {t : Addr} {sl : Array (Option Value)} (q : h.get? e = some { cls := .ref C, dict := do', data := .fields #[.ref t, .none, .none, .none, .bool false, .none], slots := sl }) : ObjOk P w H h e (excO e C do') :=
  ⟨⟨t, sl, q⟩, ⟨_, q⟩, fun h1 h2 ⟨t, sl, z⟩ k => ⟨t, sl, k _ z⟩⟩
theorem dctO_ok {fs : List (Str × V)} {mA : Str → Option Value} (n : h.Ns1 dx mA) (r : ∀ f, RelO (fs.lookup f) (mA f)) (wi : PySem.Within mA (fs.map (·.1))) (hl : fs.length ≤ 100) : ObjOk P w H h dx (dctO dx fs) := by
  refine ⟨⟨mA, n, r, wi, hl⟩, ?_, fun h1 h2 ⟨mA, n, r, wi, hl⟩ k => ⟨mA, n.at k, r, wi, hl⟩⟩
  obtain ⟨o, _, _, q, _⟩ := n
  exact ⟨o, q⟩
end
/-- what of the text an exception class must have -/
structure ExcC (K : PySem.W.Frag) (C f : Addr) (bm : List Value) : Prop where
  obj : ∃ nm q N bs hdct sn sub ab col dd k0 k1 k2 k3 k5, K.lookup C = some (excClassObj nm q C N bs bm hdct sn sub ab col dd k0 k1 k2 k3 k5 "ValueError.__new__")
  bm_ok : ExcF "ValueError" "ValueError.__new__" "ValueError.__init__" bm
  init : PySem.W.findIn K (.ref C) "__init__" = some (some (.ref f))
  fn : ∃ o, K.lookup f = some o ∧ o.cls = .type "function"
  kp : PySem.W.keepIn K (.ref C) = true
/-- what of the text its fields ask -/
structure ExcS (K : PySem.W.Frag) (C : Addr) : Prop where
  sa : PySem.W.findIn K (.ref C) "__setattr__" = some (some (.builtin "object.__setattr__"))
  po : excOver K C = true
  hd : PySem.W.hasDictIn K C = true
section
variable {X : Cx} {CX : CXT} {k m : Nat} {f C : Addr} {fd : FuncData} {ps : List Str} {sp : Sp} {E : XK} {x : Str} {p pos : Pos} {e : Expr} {es : List Expr} {t : TA} {bm : List Value}
/-- self.f = value, self an exception of the class at C -/
def sExc (K : PySem.W.Frag) (ta tv : TE) (f : Str) : TS := fun D σ H => tv σ H fun y H1 => ta σ H1 fun x H2 => ∃ a C, x = .ref a ∧ ExcS K C ∧ PySem.W.takerIn K C f = some none ∧
  ((H2 a = some (excO a C none) ∧ ∀ dx, H2 dx = none → D.nx σ (upd (upd H2 dx (dctO dx [(f, y)])) a (excO a C (some dx)))) ∨
   ∃ dx fs, H2 a = some (excO a C (some dx)) ∧ H2 dx = some (dctO dx fs) ∧ dx ≠ a ∧ fs.length < 100 ∧ D.nx σ (upd H2 dx (dctO dx (putF f y fs))))
theorem ps_exc {o value : Expr} {f : Str} {ta tv : TE} {pos' : Pos} (ha : PE X o ta) (hv : PE X value tv) (hs : swapsWith value (some (.Attribute o f pos')) pos.line X.env = pure false := by rfl) : PS X (.Assign [.Attribute o f pos'] value pos) (sExc X.K ta tv f) := by
  intro pins s σ H D I h
  refine plainObj_wpAny_Assign_Attribute (thn (hv pins s σ H _ I h) fun u s1 ⟨y, H1, I1, ry, q⟩ => thn (ha pins s1 σ H1 _ I1 q) fun ov s2 ⟨x, H2, I2, rx, a, C, ex, S, tk, q2⟩ => ?_) hs
  subst ex
  obtain rfl : ov = Value.ref a := rx
  rcases q2 with ⟨ho, q3⟩ | ⟨dx, fs, ho, hd, hne, hl, q3⟩
  · obtain ⟨⟨t, sl, ge⟩, _, _⟩ : ObjOk X.prog X.w H2 s2.heap a (excO a C none) := I2.hok a _ ho
    refine exc_set0 I2.kIn ge rfl rfl rfl S.sa S.po tk S.hd fun h' kp ge' n' => ?_
    have hfr : H2 s2.heap.objs.size = none := I2.hok.fresh (Nat.le_refl _)
    have nas : a ≠ s2.heap.objs.size := ne_of_none ho hfr
    have other : ∀ b, b ≠ a → b ≠ s2.heap.objs.size → (upd (upd H2 s2.heap.objs.size (dctO s2.heap.objs.size [(f, y)])) a (excO a C (some s2.heap.objs.size))) b = H2 b := fun b h1 h2 => by rw [upd_ne h1, upd_ne h2]
    have nlt : ∀ b o, s2.heap.get? b = some o → b ≠ s2.heap.objs.size := fun b o z => Nat.ne_of_lt (Heap.lt_size z)
    have na : ∀ b, H2 b = none → b ≠ a := fun b z q => by rw [q, ho] at z; cases z
    have ext_ne : ∀ b u, H2 b = some u → u ≠ excO a C none → b ≠ a := fun b u z d q => by
      rw [q, ho] at z
      exact d (Option.some.inj z).symm
    refine ⟨σ, _, I2.un ⟨fun b o z n _ _ => kp b o (na b n) z, fun b o z n _ _ => ⟨o.slots, kp b o (na b n) z⟩, fun b o z n _ => by rw [other b (na b n) (nlt b o z)]; exact n, fun b o z _ => ?_, fun b xs z => ?_, fun b o u z => ?_, fun b ps z => ⟨#[], ?_⟩⟩ (fun b u z => ?_), q3 _ hfr⟩
    · by_cases hb : b = a
      · exact ⟨_, by rw [hb]; exact ge'⟩
      · exact ⟨o, kp b o hb z⟩
    · rw [other b (ext_ne b _ z (by intro q; cases q)) (ne_of_none z hfr)]; exact z
    · rw [other b (ext_ne b _ z (by intro q; cases q)) (ne_of_none z hfr)]; exact z
    · rw [other b (ext_ne b _ z (by intro q; cases q)) (ne_of_none z hfr), z]; simp
    · by_cases hb : b = a
      · subst hb
        rw [upd_same] at z
        cases z
        exact excO_ok ge'
      · by_cases hb2 : b = s2.heap.objs.size
        · subst hb2
          rw [upd_ne hb, upd_same] at z
          cases z
          refine dctO_ok n' (fun g => ?_) (fun g hg => ?_) (by simp)
          · show RelO ([(f, y)].lookup g) (if g = f then some u else none)
            by_cases zz : g = f
            · rw [if_pos zz, zz]; simpa [List.lookup_cons, RelO] using ry
            · have : (g == f) = false := by simpa using zz
              rw [if_neg zz]
              simp [List.lookup_cons, this, RelO]
          · by_cases zz : g = f
            · simp [zz]
            · exact absurd (show (if g = f then some u else none) = none by rw [if_neg zz]) hg
        · rw [other b hb hb2] at z
          refine (I2.hok b u z).stay (fun c v hc q => kp c v ?_ q) (fun c q => ?_) fun c xs q => ?_
          · rcases hc with rfl | hc
            · exact hb
            · exact ext_ne c _ hc (by intro q; cases q)
          · rw [other c (ext_ne c _ q (by intro q; cases q)) (ne_of_none q hfr)]; exact q
          · rw [other c (ext_ne c _ q (by intro q; cases q)) (ne_of_none q hfr)]; exact q
  · obtain ⟨⟨t, sl, ge⟩, _, _⟩ : ObjOk X.prog X.w H2 s2.heap a (excO a C (some dx)) := I2.hok a _ ho
    obtain ⟨⟨mA, n, r, wi, hl'⟩, _, _⟩ : ObjOk X.prog X.w H2 s2.heap dx (dctO dx fs) := I2.hok dx _ hd
    refine exc_set1 I2.kIn ge rfl rfl rfl n hne S.sa S.po tk S.hd wi (by rw [List.length_map]; omega) fun h' sb n' => ?_
    refine ⟨σ, _, I2.write (x := dx) (e := dx) (by rw [hd]; trivial) (.inl rfl) (fun b o hb z => (sb.2 b hb).trans z) (let ⟨o, _, _, z, _⟩ := n'; ⟨o, z⟩) (dctO_ok n' (fun g => ?_) (fun g hg => ?_) ?_), q3⟩
    · show RelO ((putF f y fs).lookup g) (if g = f then some u else mA g)
      rw [lookup_putF]
      by_cases z : g = f
      · rw [if_pos z, if_pos z]; exact ry
      · rw [if_neg z, if_neg z]; exact r g
    · by_cases z : g = f
      · rw [z]; exact (keys_putF f y fs).1
      · refine (keys_putF f y fs).2 g (wi g fun z2 => hg ?_)
        show (if g = f then some u else mA g) = none
        rw [if_neg z]; exact z2
    · have := length_putF f y fs; omega
/-- what of the text reading its fields asks -/
structure ExcG (K : PySem.W.Frag) (C : Addr) : Prop where
  ga : PySem.W.findIn K (.ref C) "__getattribute__" = some (some (.builtin "BaseException.__getattribute__"))
  gb : PySem.W.findIn K (.ref C) "__getattr__" = some none
  mb : PySem.W.mroIn K C (.type "BaseException") = some true
  hd : PySem.W.hasDictIn K C = true
end
end L2
set_option Elab.async false
set_option linter.all false
set_option maxRecDepth 100000
set_option maxHeartbeats 4000000
namespace L2
open PySem PySem.Spec PyProof.Rows
section
variable {M : Model} {A : Around} {E : Value → Shared → Prop} {s : Shared} {base : Heap} {env : Env} {outer : List Env} {L e : Addr} {oe : Obj} {vs : Array Value}
/-- what a frame's leaving does to the heap: the frames' slots, the exception's traceback, a new entry T -/
structure Left (fr : List Addr) (h h' : Heap) (e : Addr) (oe : Obj) (vs : Array Value) (T : Addr) : Prop where
  keep : ∀ b o, b ≠ e → b ∉ fr → h.get? b = some o → (∀ z, vs[1]? = some (.ref z) → b ≠ z) → h'.get? b = some o
  slot : ∀ b o, b ∈ fr → h.get? b = some o → ∃ sl, h'.get? b = some { o with slots := sl }
  new : h.objs.size ≤ T
  ent : ∃ oT ts, h'.get? T = some oT ∧ oT.data = .fields ts ∧ ts[3]? = some .none
  obj : h'.get? e = some { oe with data := .fields (vs.setIfInBounds 1 (.ref T)) }
theorem noFrame (hl : s.heap.FunFrames base (env :: outer)) (he : s.heap.get? e = some oe) (hd : oe.data = .fields vs) : e ∉ frs (env :: outer) := fun hm => by
  obtain ⟨_, o, ho, hn⟩ := hl.mem hm
  rw [he] at ho; cases ho
  exact hn vs hd
theorem leave_tail {head : Value} {hadNext : Bool} {Q : Unit → Shared → Prop} (hfr : A.frames = some (env :: outer)) (hl : s.heap.FunFrames base (env :: outer)) (hf : env.frame = some L) (he : s.heap.get? e = some oe) (hd : oe.data = .fields vs) (hsz : 1 < vs.size)
    (h : ∀ h' T, Left (frs (env :: outer)) s.heap h' e oe vs T → Q () { s with heap := h' }) :
    wpAny M A (do let a ← frameOf env; let pl ← entryPlaceOf L hadNext; let b ← EntryCells.newEntry head a .none (rawInt L) .none pl; setField (.ref e) 1 b) (fun _ s' => wpAny M A (setFlight (.ref e) none) Q E s') E s := by
  have hne := noFrame hl he hd
  refine wpAny_bind (wpAny_frameOf_fun hfr hl hf fun g hg => wpAny_bind (wpAny_entryPlaceOf fun pl hpl => ?_))
  unfold EntryCells.newEntry newFields
  refine wpAny_bind (wpAny_newObj_type ?_ (hpl.sizeOk5 _ _ _ _ _))
  have he1 : g.get? e = some oe := (hg.2.1 e hne).trans he
  have gsz : s.heap.objs.size ≤ g.objs.size := by
    have := hg.1
    omega
  generalize hT : ({ cls := .type "traceback", data := .fields ([head, .ref L, .none, rawInt L, .none] ++ (if pl.isEmpty then List.replicate 6 Value.none else pl)).toArray } : Obj) = oT
  obtain ⟨ts, hts, h4⟩ : ∃ ts : Array Value, oT.data = .fields ts ∧ 3 < ts.size := by
    rw [← hT]
    exact ⟨_, rfl, by simp only [List.size_toArray, List.length_append, List.length_cons, List.length_nil]; omega⟩
  have fresh : ∀ b o, g.get? b = some o → g.objs.size ≠ b := fun b o z => Nat.ne_of_gt (Heap.lt_size z)
  have he2 : (g.push oT).get? e = some oe := Heap.get?_push_of_some _ he1
  have hTe : g.objs.size ≠ e := fresh e oe he1
  refine wpAny_setField he2 hd hsz ?_
  have hd3 := Obj.data_mapFields hd (·.setIfInBounds 1 (Value.ref g.objs.size))
  have he3 := Heap.get?_update_self (Obj.mapFields (·.setIfInBounds 1 (Value.ref g.objs.size))) he2 (Obj.isFreed_of_fields hd3)
  have hfr' : oT.isFreed = false := Obj.isFreed_of_fields hts
  have hT3 : ((g.push oT).update e (Obj.mapFields (·.setIfInBounds 1 (Value.ref g.objs.size)))).get? g.objs.size = some oT := (Heap.get?_update_other _ _ (Ne.symm hTe)).trans (Heap.get?_push_size g hfr')
  unfold setFlight
  refine wpAny_bind (wpAny_field he3 hd3 (x := .ref g.objs.size) (by simp [hsz]) ?_)
  rw [if_pos (show (Value.ref g.objs.size != Value.none) = true from by simp)]
  have keepAll : ∀ b o, b ≠ e → g.get? b = some o → (((g.push oT).update e (Obj.mapFields (·.setIfInBounds 1 (Value.ref g.objs.size)))).update g.objs.size (Obj.mapFields (·.setIfInBounds 3 ((none : Option Addr).elim Value.none fun f => rawInt f)))).get? b = some o := fun b o hb z => by
    rw [Heap.get?_update_other _ _ (fresh b o z), Heap.get?_update_other _ _ (Ne.symm hb)]
    exact Heap.get?_push_of_some _ z
  refine wpAny_setField hT3 hts h4 (h _ g.objs.size ⟨fun b o hb hn z _ => keepAll b o hb ((hg.2.1 b hn).trans z), fun b o hb z => ?_, gsz, ?_, ?_⟩)
  · obtain ⟨sl, z2⟩ := hg.2.2 b o z
    exact ⟨sl, keepAll b _ (fun q => hne (by rw [← q]; exact hb)) z2⟩
  · exact ⟨_, _, Heap.get?_update_self _ hT3 (Obj.isFreed_of_fields (Obj.data_mapFields hts _)), Obj.data_mapFields hts _, by simp [h4]⟩
  · rw [Heap.get?_update_other _ _ hTe, he3]
    obtain ⟨c1, d1, t1, s1⟩ := oe
    simp only at hd
    subst hd
    rfl
theorem leave_first {Q : Unit → Shared → Prop} (hfr : A.frames = some (env :: outer)) (hl : s.heap.FunFrames base (env :: outer)) (hf : env.frame = some L) (he : s.heap.get? e = some oe) (hd : oe.data = .fields vs) (h1 : vs[1]? = some .none)
    (h : ∀ h' T, Left (frs (env :: outer)) s.heap h' e oe vs T → Q () { s with heap := h' }) : wpAny M A (leaving env (.ref e)) Q E s := by
  unfold leaving noteFrame
  simp only [hf]
  refine wpAny_bind (wpAny_bind (wpAny_field he hd h1 ?_))
  rw [if_neg (by decide)]
  exact leave_tail hfr hl hf he hd (Array.getElem?_eq_some_iff.mp h1).1 h
end
end L2
set_option Elab.async false
set_option linter.all false
set_option maxRecDepth 100000
set_option maxHeartbeats 4000000
namespace L2
open PySem PySem.Spec PyProof.Rows
/-- an exception of the class at C in flight, made since the heap had n objects; dx: its dict -/
def Flown (n : Nat) (h : Heap) (a C : Addr) (dx : Option Addr) (H : Hp) : Prop :=
  ∃ oe vs T oT ts, h.get? a = some oe ∧ oe.cls = .ref C ∧ oe.dict = dx ∧ oe.data = .fields vs ∧ vs[1]? = some (.ref T) ∧ T ≠ a ∧ h.get? T = some oT ∧ oT.data = .fields ts ∧ ts[3]? = some .none ∧ H a = none ∧ H T = none ∧ n ≤ a ∧ n ≤ T
def CX1 (P : Program) (w : World) : CXT := fun outer H s E ev s' =>
  ∃ a C dx H', ev = .ref a ∧ s'.os = s.os ∧ AllBare s'.gens ∧ Un (frs outer) [] H H' s.heap s'.heap ∧ HOk P w H' s'.heap ∧ Flown s.heap.objs.size s'.heap a C dx H' ∧ E (.ref C) dx H'
theorem pass10 {P : Program} {w : World} {X : Cx} : Passes (CX1 P w) X E0 := fun _ _ _ _ _ _ _ ⟨_, _, _, _, _, _, _, _, _, _, z⟩ => z.elim
/-- the tracked objects stand behind a leaving -/
theorem left_hok {P : Program} {w : World} {H : Hp} {h h' : Heap} {fr : List Addr} {e T : Addr} {oe : Obj} {vs : Array Value} (ok : HOk P w H h) (lf : Left fr h h' e oe vs T) (he : H e = none) (hT : ∀ z, vs[1]? = some (.ref z) → H z = none) (hfr : ∀ b ∈ fr, H b = none) : HOk P w H h' := fun b u z => by
  refine (ok b u z).stay (fun c v hc q => ?_) (fun _ q => q) fun _ _ q => q
  have hcs : ∃ x, H c = some x := by
    rcases hc with rfl | hc
    · exact ⟨_, z⟩
    · exact ⟨_, hc⟩
  obtain ⟨x, hx⟩ := hcs
  exact lf.keep c v (ne_of_none hx he) (fun m => by rw [hfr c m] at hx; cases hx) q fun y hy => ne_of_none hx (hT y hy)
theorem left_un {H0 H : Hp} {h0 h h' : Heap} {fs fr : List Addr} {e T : Addr} {oe : Obj} {vs : Array Value} (u : Un fs [] H0 H h0 h) (lf : Left fr h h' e oe vs T) (hfs : ∀ b, b ∈ fs → b ∈ fr) (hfr : ∀ b o, h0.get? b = some o → b ∈ fr → b ∈ fs)
    (he : h0.objs.size ≤ e) (hT : ∀ z, vs[1]? = some (.ref z) → h0.objs.size ≤ z) : Un fs [] H0 H h0 h' := by
  have ne : ∀ b o, h0.get? b = some o → b ≠ e ∧ ∀ z, vs[1]? = some (.ref z) → b ≠ z := fun b o q =>
    ⟨Nat.ne_of_lt (Nat.lt_of_lt_of_le (Heap.lt_size q) he), fun z hz => Nat.ne_of_lt (Nat.lt_of_lt_of_le (Heap.lt_size q) (hT z hz))⟩
  refine ⟨fun b o q n hb hx => lf.keep b o (ne b o q).1 (fun m => hb (hfr b o q m)) (u.keep b o q n hb hx) (ne b o q).2, fun b o q n hb hx => ?_, u.free, fun b o q hx => ?_, u.tups, u.frzs, u.tbls⟩
  · obtain ⟨sl, z⟩ := u.slot b o q n hb hx
    obtain ⟨sl2, z2⟩ := lf.slot b _ (hfs b hb) z
    exact ⟨sl2, z2⟩
  · obtain ⟨o2, z⟩ := u.there b o q hx
    by_cases m : b ∈ fr
    · obtain ⟨sl, z2⟩ := lf.slot b o2 m z
      exact ⟨_, z2⟩
    · exact ⟨o2, lf.keep b o2 (ne b o q).1 m z (ne b o q).2⟩
section
variable {P : Program} {w : World} {K : PySem.W.Frag} {mg : Str → Option Value} {base : Heap} {N : List Str} {qual : Str} {scope : Scope} {f : Addr} {cd : Value} {A : Around} {outer : List Env} {s : Shared} {H : Hp} {E : XK}
end
end L2
set_option Elab.async false
set_option linter.all false
set_option maxRecDepth 100000
set_option maxHeartbeats 4000000
namespace L2
open PySem PySem.Spec PyProof.Rows
section
variable {X : Cx} {pins : List (Addr × Obj)} {σ : St} {H : Hp} {s : Shared}
end
/-- what of the text it asks -/
structure ExcI (K : PySem.W.Frag) (C R : Addr) : Prop where
  g : ExcG K C
  mro : (PySem.W.clsIn K C).map (·.mro) = some [.ref C, .ref R, .type "ValueError", .type "Exception", .type "BaseException", .type "object"]
  ty : PySem.W.typeIn K (.ref C) = some (.type "type")
  ha : PySem.W.findIn K (.ref C) "__class__" = some (some (.builtin "object.__class__"))
  hn : PySem.W.specialIn K (.builtin "object.__class__") "__get__" = some (some (.builtin "getset_descriptor.__get__"))
  tk : PySem.W.takesIn K (.builtin "object.__class__") = some true
section
variable {prog : Program} {w : World} {A : Around} {E : Value → Shared → Prop} {s : Shared} {K : PySem.W.Frag} {e C R D : Addr} {oe : Obj} {odo : Option Obj}
theorem ExcI.in (G : ExcI K C R) (b : Value) : PySem.W.mroIn K C b = some ([Value.ref C, .ref R, .type "ValueError", .type "Exception", .type "BaseException", .type "object"].contains b) := by
  obtain ⟨cd, hc, hm⟩ := Option.map_eq_some_iff.mp G.mro
  unfold PySem.W.mroIn
  rw [hc, Option.bind_some, hm]
  rfl
end
/-- an exception made, with its fields; none: it has none -/
def ExcAt (H : Hp) (x C : Addr) (fs : List (Str × V)) : Prop := (fs = [] ∧ H x = some (excO x C none)) ∨ ∃ dx, H x = some (excO x C (some dx)) ∧ H dx = some (dctO dx fs) ∧ dx ≠ x
theorem ExcAt.same {H H' : Hp} {x C : Addr} {fs : List (Str × V)} (e : Same H H') (h : ExcAt H x C fs) : ExcAt H' x C fs := by
  rcases h with ⟨a, b⟩ | ⟨dx, a, b, c⟩
  · exact .inl ⟨a, e _ _ b⟩
  · exact .inr ⟨dx, e _ _ a, e _ _ b, c⟩
section
variable {X : Cx}
end
end L2
set_option Elab.async false
set_option linter.all false
set_option maxRecDepth 100000
set_option maxHeartbeats 4000000
namespace L2
open PySem PySem.Spec PyProof.Rows
section
variable {prog : Program} {w : World} {A : Around} {E : Value → Shared → Prop} {R : Result → Shared → Prop} {h : Heap} {g : Array GenState} {d : Drawn} {t : Nat} {os : OsState}
variable {nm q : Str} {C N : Addr} {bs bm : List Value} {hdct : Bool} {sn : List Str} {sub : List Value} {ab : Bool} {col : Option Bool} {dd : Option Addr} {k0 k1 k2 k3 k5 : Option Value} {B newId initId : String}
end
/-- the contracts of __init__ -/
def spI1 (C : Addr) (f : Str) : Sp := fun vs H Q _ => ∃ x v, vs = [.ref x, v] ∧ H x = some (excO x C none) ∧ ∀ dx, H dx = none → Q .non (upd (upd H dx (dctO dx [(f, v)])) x (excO x C (some dx)))
def spI2 (C : Addr) (f g : Str) : Sp := fun vs H Q _ => ∃ x v y, vs = [.ref x, v, y] ∧ H x = some (excO x C none) ∧ ∀ dx, H dx = none → Q .non (upd (upd (upd H dx (dctO dx [(f, v)])) x (excO x C (some dx))) dx (dctO dx (putF g y [(f, v)])))
/-- a class of refusals, with its __init__ -/
structure HasExc (K : PySem.W.Frag) (mg : Str → Option Value) (x qual : Str) (st : Stmt) (C R : Addr) : Prop where
  ex : ∃ f fd, ExcC K C f [.ref R, .type "ValueError", .type "Exception", .type "BaseException", .type "object"] ∧ Fun K "__init__" qual st f fd
  gl : mg x = some (.ref C)
  S : ExcS K C
  I : ExcI K C R
theorem bm_ok (R : Addr) : ExcF "ValueError" "ValueError.__new__" "ValueError.__init__" [.ref R, .type "ValueError", .type "Exception", .type "BaseException", .type "object"] := excF_ValueError.under R
section
variable {P : Program} {w : World} {K : PySem.W.Frag} {mg : Str → Option Value} {base : Heap} {CX : CXT} {X : Cx} {k m : Nat} {C R : Addr} {E : XK} {x qual f g : Str} {st : Stmt} {p pos : Pos} {e : Expr} {es : List Expr} {t : TA}
/-- the __init__ keeps its contract -/
def InitOk (P : Program) (w : World) (K : PySem.W.Frag) (mg : Str → Option Value) (base : Heap) (CX : CXT) (qual : Str) (st : Stmt) (ps : List Str) (sp : Sp) : Prop := ∀ f fd, Fun K "__init__" qual st f fd → FnOk P w K mg base CX 1 f fd ps sp ∧ Binds K fd ps []
end
section
variable {K : PySem.W.Frag} {mg : Str → Option Value} {x qual : Str} {st : Stmt} {C R f : Addr} {nm q : Str} {N : Addr} {bs : List Value} {sn : List Str} {sub : List Value} {ab : Bool} {col : Option Bool} {dd : Option Addr} {k0 k1 k2 k3 k5 : Option Value} {od an : Option Addr} {osl : Array (Option Value)} {kV doc pm cdv ct : Value}
theorem excS_mk (l : K.lookup C = some (excClassObj nm q C N bs [.ref R, .type "ValueError", .type "Exception", .type "BaseException", .type "object"] true sn sub ab col dd k0 k1 k2 k3 k5 "ValueError.__new__"))
    (sa : PySem.W.findIn K (.ref C) "__setattr__" = some (some (.builtin "object.__setattr__"))) : ExcS K C := by
  have hc : ∃ cd, PySem.W.clsIn K C = some cd ∧ cd.mro = [.ref C, .ref R, .type "ValueError", .type "Exception", .type "BaseException", .type "object"] ∧ cd.hasDict = true := by
    unfold PySem.W.clsIn
    rw [l]
    exact ⟨_, rfl, rfl, rfl⟩
  obtain ⟨cd, h1, h2, h3⟩ := hc
  refine ⟨sa, ?_, ?_⟩
  · unfold excOver
    rw [h1, Option.any_some, h2]
    rfl
  · unfold PySem.W.hasDictIn
    rw [h1, Option.any_some, h3]
theorem excI_mk (l : K.lookup C = some (excClassObj nm q C N bs [.ref R, .type "ValueError", .type "Exception", .type "BaseException", .type "object"] true sn sub ab col dd k0 k1 k2 k3 k5 "ValueError.__new__"))
    (ga : PySem.W.findIn K (.ref C) "__getattribute__" = some (some (.builtin "BaseException.__getattribute__"))) (gb : PySem.W.findIn K (.ref C) "__getattr__" = some none)
    (ha : PySem.W.findIn K (.ref C) "__class__" = some (some (.builtin "object.__class__"))) (hn : PySem.W.specialIn K (.builtin "object.__class__") "__get__" = some (some (.builtin "getset_descriptor.__get__"))) (tk : PySem.W.takesIn K (.builtin "object.__class__") = some true) : ExcI K C R := by
  have hc : ∃ cd, PySem.W.clsIn K C = some cd ∧ cd.mro = [.ref C, .ref R, .type "ValueError", .type "Exception", .type "BaseException", .type "object"] ∧ cd.hasDict = true := by
    unfold PySem.W.clsIn
    rw [l]
    exact ⟨_, rfl, rfl, rfl⟩
  obtain ⟨cd, h1, h2, h3⟩ := hc
  refine ⟨⟨ga, gb, ?_, ?_⟩, ?_, ?_, ha, hn, tk⟩
  · unfold PySem.W.mroIn
    rw [h1, Option.bind_some, h2]
    rfl
  · unfold PySem.W.hasDictIn
    rw [h1, Option.any_some, h3]
  · rw [h1, Option.map_some, h2]
  · show (List.lookup C K).map (·.cls) = _
    rw [l]
    rfl
theorem HasExc.mk1 (m : mg x = some (.ref C)) (l : K.lookup C = some (excClassObj nm q C N bs [.ref R, .type "ValueError", .type "Exception", .type "BaseException", .type "object"] true sn sub ab col dd k0 k1 k2 k3 k5 "ValueError.__new__"))
    (i : PySem.W.findIn K (.ref C) "__init__" = some (some (.ref f))) (lf : K.lookup f = some ⟨.type "function", od, .func (PySem.W.fnOf "__init__" qual (defArgs st) (defBody st) (defScope st) .none kV doc pm an cdv ct), osl⟩)
    (c : PySem.W.codeIn K cdv qual = true) (kf : PySem.W.keepIn K (.ref f) = true) (kc : PySem.W.keepIn K (.ref C) = true) (S : ExcS K C) (I : ExcI K C R) : HasExc K mg x qual st C R :=
  ⟨⟨f, _, ⟨⟨nm, q, N, bs, true, sn, sub, ab, col, dd, k0, k1, k2, k3, k5, l⟩, bm_ok R, i, ⟨_, lf, rfl⟩, kc⟩, fun_mk lf c kf⟩, m, S, I⟩
end
end L2
set_option Elab.async false
set_option linter.all false
set_option maxRecDepth 100000
set_option maxHeartbeats 4000000
namespace L2
open PySem PySem.Spec PyProof.Rows
section
variable {X : Cx}
end
/-- a tree that is shown in m signs at most, of depth d at most -/
structure Shm (m d : Nat) (x : PyData) : Prop where
  sh : x.showable = true
  ln : x.shown.length ≤ m
  dp : x.depth ≤ d
theorem Shm.mono {m m' d d' : Nat} {x : PyData} (h : Shm m d x) (a : m ≤ m') (b : d ≤ d') : Shm m' d' x := ⟨h.sh, Nat.le_trans h.ln a, Nat.le_trans h.dp b⟩
end L2
set_option Elab.async false
set_option linter.all false
set_option maxRecDepth 100000
set_option maxHeartbeats 4000000
namespace L2
open PySem PySem.Spec PyProof.Rows
/-- a new object o at p: all that was stays, and p was not tracked -/
structure New (H H' : Hp) (p : Addr) (o : HO) : Prop where
  s : Same H H'
  e : H' p = some o
  n : ∀ a u, H a = some u → a ≠ p
theorem New.mk' {H : Hp} {p : Addr} {o : HO} (h : H p = none) : New H (upd H p o) p o := ⟨Same.new h, upd_same, fun a u q => ne_of_none q h⟩
section
variable {X : Cx} {es : List Expr} {t : TA} {pos : Pos}
def tTupA (t : TA) : TE := fun σ H Q => t σ H fun xs H1 => xs.length ≤ sizeLine ∧ ∀ p H', New H1 H' p (.tup xs) → Q (.ref p) H'
def tLstA (t : TA) : TE := fun σ H Q => t σ H fun xs H1 => xs.length ≤ sizeLine ∧ ∀ p H', New H1 H' p (.lst xs) → Q (.ref p) H'
theorem pe_tupA {x1} (h : PA X es t) : PE X (.Tuple es x1 pos) (tTupA t) := by
  intro pins s σ H Q I hq
  refine wpAny_Tuple_spliced (thn (h pos pins s σ H _ I hq) fun us s1 ⟨xs, H1, I1, r, z, q⟩ => ⟨by rw [← r.length]; exact z, ?_⟩)
  have hf : H1 s1.heap.objs.size = none := I1.hok.fresh (Nat.le_refl _)
  refine ⟨.ref s1.heap.objs.size, upd H1 s1.heap.objs.size (.tup xs), I1.laid (t' := s1.toks) (fun b u e => Heap.get?_push_of_some _ e) (Nat.le_refl _) ?_, rfl, q _ _ (.mk' hf)⟩
  exact ⟨z, us, r, ⟨_, Heap.get?_push_size _ rfl, rfl, _, rfl⟩⟩
theorem pe_lstA (h : PA X es t) : PE X (.List es pos) (tLstA t) := by
  intro pins s σ H Q I hq
  refine wpAny_List_spliced (thn (h pos pins s σ H _ I hq) fun us s1 ⟨xs, H1, I1, r, z, q⟩ => ⟨by rw [← r.length]; exact z, ?_⟩)
  have hf : H1 s1.heap.objs.size = none := I1.hok.fresh (Nat.le_refl _)
  refine ⟨.ref s1.heap.objs.size, upd H1 s1.heap.objs.size (.lst xs), I1.laid (t' := s1.toks) (fun b u e => Heap.get?_push_of_some _ e) (Nat.le_refl _) ?_, rfl, q _ _ (.mk' hf)⟩
  exact ⟨z, us, 0, r, Heap.get?_push_size _ rfl⟩
def rCatA : R2 := fun x y H Q => ∃ l b xs zs, x = .ref l ∧ y = .ref b ∧ H l = some (.lst xs) ∧ H b = some (.lst zs) ∧ xs.length + zs.length ≤ sizeLine ∧ ∀ p H', New H H' p (.lst (xs ++ zs)) → Q (.ref p) H'
theorem op_catA : OpR X (binaryOp .Add) rCatA := by
  intro pins s σ H x y v u Q I rx ry h
  obtain ⟨l, b, xs, zs, e1, e2, hH, hB, hz, q⟩ := h
  exact op_cat pins s σ H x y v u Q I rx ry ⟨l, b, xs, zs, e1, e2, hH, hB, hz, fun p hp => q p _ (.mk' hp)⟩
def rRepA : R2 := fun x y H Q => ∃ l k xs, x = .ref l ∧ y = .int k ∧ H l = some (.lst xs) ∧ -(2 ^ 63) ≤ k ∧ k < 2 ^ 63 ∧ xs.length * k.toNat ≤ sizeLine ∧ ∀ p H', New H H' p (.lst (List.replicate k.toNat xs).flatten) → Q (.ref p) H'
theorem op_repA : OpR X (binaryOp .Mult) rRepA := by
  intro pins s σ H x y v u Q I rx ry h
  obtain ⟨l, k, xs, e1, e2, hH, h1, h2, hz, q⟩ := h
  exact op_rep pins s σ H x y v u Q I rx ry ⟨l, k, xs, e1, e2, hH, h1, h2, hz, fun p hp => q p _ (.mk' hp)⟩
/-- xs.append(e): that list alone is turned -/
def rAppA : V → List V → Hp → VK → Prop := fun x vs H Q => ∃ l xs y, x = .ref l ∧ vs = [y] ∧ H l = some (.lst xs) ∧ xs.length < sizeLine ∧ ∀ H', Off l H H' → H' l = some (.lst (xs ++ [y])) → Q .non H'
theorem mt_appendA : MtM X "list.append" rAppA := by
  intro pins s σ H x vs v us Q I rx rv h
  obtain ⟨l, xs, y, e1, e2, hH, hz, q⟩ := h
  exact mt_append pins s σ H x vs v us Q I rx rv ⟨l, xs, y, e1, e2, hH, hz, q _ Off.upd upd_same⟩
theorem pe_appendA {o e : Expr} {to te : TE} {apos cpos : Pos} (ho : PE X o to) (he : PE X e te) (hbase : attributeBase o "append" X.env (eval o X.env) = eval o X.env := by rfl)
    (hfew : ((backTo cpos (starEach [e] X.env)).all (fun x => !x.1) && (backToKw cpos (keywordEach [] X.env)).all (fun x => x.1.isSome)
      && decide (([e] : List Expr).length + ([] : List Keyword).length + (if ([] : List Keyword).isEmpty then 0 else 1) < 30)) = true := by rfl)
    (hline : (apos.endLine == cpos.line) = true := by rfl) (hs : starEach [e] X.env = (false, eval e X.env) :: starEach [] X.env := by rfl) :
    PE X (.Call (.Attribute o "append" apos) [e] [] cpos) (tBM X.K "list" rAppA to (tCons te tNil)) :=
  pe_bm PySem.F.plainAttrs_list PySem.F.slot_list_append PySem.F.type_list_append mt_appendA ho (pa_cons he pa_nil hs) hbase hfew hline hs (by rfl)
end
theorem ExcAt.off {H H' : Hp} {l x C : Addr} {fs : List (Str × V)} {xs : List V} (o : Off l H H') (hl : H l = some (.lst xs)) (h : ExcAt H x C fs) : ExcAt H' x C fs := by
  have ne : ∀ {a : Addr} {r : Heap → Prop}, H a = some (.ext r) → a ≠ l := fun {a r} ha q => by
    rw [q, hl] at ha
    cases ha
  rcases h with ⟨a, b⟩ | ⟨dx, a, b, c⟩
  · exact .inl ⟨a, by rw [o x (ne b)]; exact b⟩
  · exact .inr ⟨dx, by rw [o x (ne a)]; exact a, by rw [o dx (ne b)]; exact b, c⟩
end L2
set_option Elab.async false
set_option linter.all false
set_option maxRecDepth 100000
set_option maxHeartbeats 4000000
namespace L2
open PySem PySem.Spec PyProof.Rows
section
variable {σ σ' : St} {H : Hp} {v x y : V} {vs : List V} {t ta tb : TE} {tr : TA} {i j : Nat} {a C : Addr} {f g : Str} {fs : List (Str × V)} {Q : VK} {D : Ends} {s u : TS} {K : PySem.W.Frag} {tg : TG} {c : TT}
theorem go_cons {Q : List V → Hp → Prop} (h : t σ H fun x H1 => tr σ H1 fun xs H2 => Q (x :: xs) H2) : tCons t tr σ H Q := h
theorem go_nil {Q : List V → Hp → Prop} (h : Q [] H) : tNil σ H Q := h
theorem go_seq (h : s { D with nx := u D } σ H) : tSeq s u D σ H := h
theorem go_nx {nx bk ct : St → Hp → Prop} {rt : VK} (h : nx σ H) : (Ends.mk nx rt bk ct).nx σ H := h
theorem go_next (h : D.nx σ H) : tNext D σ H := h
theorem go_asg (h : t σ H fun x H1 => tg x σ H1 D.nx) : tAsg t tg D σ H := h
theorem go_tupA (h : tr σ H fun xs H1 => xs.length ≤ sizeLine ∧ ∀ p H', New H1 H' p (.tup xs) → Q (.ref p) H') : tTupA tr σ H Q := h
theorem go_lstA (h : tr σ H fun xs H1 => xs.length ≤ sizeLine ∧ ∀ p H', New H1 H' p (.lst xs) → Q (.ref p) H') : tLstA tr σ H Q := h
theorem go_op {r : R2} (h : ta σ H fun x H1 => tb σ H1 fun y H2 => r x y H2 Q) : tOp r ta tb σ H Q := h
theorem go_ret (h : t σ H D.rt) : tRet t D σ H := h
theorem go_drop (h : t σ H fun _ H1 => D.nx σ H1) : tDrop t D σ H := h
theorem go_if (h : c σ H fun b H1 => if b = true then s D σ H1 else u D σ H1) : tIfS c s u D σ H := h
theorem go_test {Q : Bool → Hp → Prop} (h : t σ H fun x H' => ∃ k, x = .bl k ∧ Q k H') : tTest t σ H Q := h
theorem go_b {Q : Bool → Hp → Prop} (h : t σ H fun x H' => ∃ k, x = .bl k ∧ Q k H') : tB t σ H Q := h
theorem go_cb {r : List V → Hp → VK → Prop} (h : tr σ H fun vs H1 => r vs H1 Q) : tCB r tr σ H Q := h
end
section
variable {σ : St} {H : Hp} {te : TE} {tr : TA} {Q : VK} {c : TT} {fr : List Nat} {fvs : St} {n : Nat}
end
end L2
set_option Elab.async false
set_option linter.all false
set_option maxRecDepth 100000
set_option maxHeartbeats 4000000
namespace L2
open PySem PySem.Spec PyProof.Rows
def del (H : Hp) (a : Addr) : Hp := fun b => if b = a then none else H b
section
variable {P : Program} {w : World} {H : Hp} {h : Heap} {a b : Addr} {φ : Heap → Prop} {o : HO}
theorem del_same : del H a a = none := by unfold del; rw [if_pos rfl]
theorem del_ne (h : b ≠ a) : del H a b = H b := by unfold del; rw [if_neg h]
theorem del_none (h : H b = none) : del H a b = none := by
  unfold del
  split
  · rfl
  · exact h
theorem HOk.del (ok : HOk P w H h) (ha : H a = some (.ext φ)) : HOk P w (del H a) h := fun b u z => by
  by_cases hb : b = a
  · rw [hb, del_same] at z
    cases z
  · rw [del_ne hb] at z
    refine (ok b u z).stay (fun _ _ _ q => q) (fun c q => ?_) fun c xs q => ?_
    · rw [del_ne fun e => by rw [e, ha] at q; cases q]
      exact q
    · rw [del_ne fun e => by rw [e, ha] at q; cases q]
      exact q
theorem HOk.track (ok : HOk P w H h) (ha : H a = none) (new : ObjOk P w (upd H a o) h a o) : HOk P w (upd H a o) h := fun b u z => by
  by_cases hb : b = a
  · subst hb
    rw [upd_same] at z
    cases z
    exact new
  · rw [upd_ne hb] at z
    refine (ok b u z).stay (fun _ _ _ q => q) (fun c q => ?_) fun c xs q => ?_
    · rw [upd_ne (ne_of_none q ha)]
      exact q
    · rw [upd_ne (ne_of_none q ha)]
      exact q
end
section
variable {X : Cx} {pins : List (Addr × Obj)} {σ : St} {H H1 : Hp} {s s1 : Shared} {a : Addr} {φ : Heap → Prop} {o : HO}
theorem Inv.del (I : Inv X pins σ H s) (ha : H a = some (.ext φ)) (h0 : X.H₀ a = none) : Inv X pins σ (del H a) s := by
  have ne : ∀ {b : Addr} {u : HO}, X.H₀ b = some u → b ≠ a := fun {b u} z => ne_of_none z h0
  refine ⟨I.ok, I.os, I.bare, ⟨I.base.keep, I.base.slot, fun b o e n hx => del_none (I.base.free b o e n hx), I.base.there, fun b xs e => ?_, fun b o u e => ?_, fun b ps e => ?_⟩, I.loc, I.cell, del_none I.free, fun x c e => del_none (I.freeC x c e), fun p hp => ?_, I.hok.del ha, I.len⟩
  · rw [del_ne (ne e)]; exact I.base.tups b xs e
  · rw [del_ne (ne e)]; exact I.base.frzs b o u e
  · rw [del_ne (ne e)]; exact I.base.tbls b ps e
  · obtain ⟨q1, q2, q3, q4, q5⟩ := I.pin p hp
    exact ⟨q1, del_none q2, q3, q4, q5⟩
/-- an object above all that the frame holds is tracked -/
theorem Inv.track (I : Inv X pins σ H s) (I0 : Inv X pins σ H1 s1) (na : s1.heap.objs.size ≤ a) (ha : H a = none) (new : ObjOk X.prog X.w (upd H a o) s.heap a o) : Inv X pins σ (upd H a o) s := by
  have s0 : X.s₀.heap.objs.size ≤ s1.heap.objs.size := I0.sz
  have ne : ∀ b ob, s1.heap.get? b = some ob → b ≠ a := fun b ob q => Nat.ne_of_lt (Nat.lt_of_lt_of_le (Heap.lt_size q) na)
  refine ⟨I.ok, I.os, I.bare, ⟨I.base.keep, I.base.slot, fun b o e n hx => ?_, I.base.there, fun b xs e => ?_, fun b o u e => ?_, fun b ps e => ?_⟩, I.loc, I.cell, ?_, fun x c e => ?_, fun p hp => ?_, I.hok.track ha new, I.len⟩
  · rw [upd_ne (Nat.ne_of_lt (Nat.lt_of_lt_of_le (Heap.lt_size e) (Nat.le_trans s0 na)))]
    exact I.base.free b o e n hx
  · have z := I.base.tups b xs e
    rw [upd_ne (ne_of_none z ha)]; exact z
  · have z := I.base.frzs b o u e
    rw [upd_ne (ne_of_none z ha)]; exact z
  · obtain ⟨m, z⟩ := I.base.tbls b ps e
    exact ⟨m, by rw [upd_ne (ne_of_none z ha)]; exact z⟩
  · rw [upd_ne (Nat.ne_of_lt (Nat.lt_of_lt_of_le I0.lt na))]
    exact I.free
  · obtain ⟨v, ob, ho, _⟩ := I0.cell x c e
    rw [upd_ne (ne c ob ho)]
    exact I.freeC x c e
  · obtain ⟨q1, q2, q3, q4, q5⟩ := I.pin p hp
    obtain ⟨r1, _⟩ := I0.pin p hp
    exact ⟨q1, by rw [upd_ne (ne _ _ r1)]; exact q2, q3, q4, q5⟩
end
section
variable {M : Model} {A : Around} {E : Value → Shared → Prop} {env : Env}
variable {nm q : Str} {C N : Addr} {bs bm : List Value} {hdct : Bool} {sn : List Str} {sub : List Value} {ab : Bool} {col : Option Bool} {dd : Option Addr} {k0 k1 k2 k3 k5 : Option Value} {newId : String}
theorem raise_own {s : Shared} {x : Sem Value} {Q : Flow → Shared → Prop} (hbase : bm.contains (.type "BaseException") = true) (hh : A.handled = none)
    (h : wpAny M A x (fun v s₁ => ∃ e t dx sl, v = .ref e ∧ s₁.heap.get? C = some (excClassObj nm q C N bs bm hdct sn sub ab col dd k0 k1 k2 k3 k5 newId) ∧
      s₁.heap.get? e = some { cls := .ref C, dict := dx, data := .fields #[.ref t, .none, .none, .none, .bool false, .none], slots := sl } ∧ E (.ref e) s₁) E s) :
    wpAny M A (raiseStmt env (some x) none) Q E s := by
  have hcB : (Value.ref C :: bm).contains (.type "BaseException") = true := by rw [List.contains_cons, hbase, Bool.or_true]
  unfold raiseStmt
  refine wpAny_bind (wpAny_mono h (fun v s₁ h₁ => ?_) fun _ _ x => x)
  obtain ⟨e, t, dx, sl, rfl, hC, he, hE⟩ := h₁
  obtain ⟨hp, g, d, tk, os⟩ := s₁
  repeat (first | with_reducible refine wpAny_loadPart_at he ?_ | with_reducible refine wpAny_loadPart_at hC ?_ | (with_reducible refine wpAny_isSubtype_exc hC ?_; rw [hcB]) | wp_step)
  exact wpAny_raiseNew_none hh hE
end
/-- the class at C is an own refusal under R -/
def ExcK (K : PySem.W.Frag) (C R : Addr) : Prop := ∃ nm q N bs hdct sn sub ab col dd k0 k1 k2 k3 k5, K.lookup C = some (excClassObj nm q C N bs [.ref R, .type "ValueError", .type "Exception", .type "BaseException", .type "object"] hdct sn sub ab col dd k0 k1 k2 k3 k5 "ValueError.__new__")
/-- raise e; H0, n: the heap and its size at the def's entry -/
def tRaise (C : Addr) (H0 : Hp) (n : Nat) (E : XK) (te : TE) : TS := fun D σ H => te σ H fun x H1 => ∃ a dx, x = .ref a ∧ n ≤ a ∧ H0 a = none ∧ H1 a = some (excO a C dx) ∧ E (.ref C) dx (del H1 a)
section
variable {P : Program} {w : World} {K : PySem.W.Frag} {mg : Str → Option Value} {base : Heap} {N : List Str} {qual : Str} {scope : Scope} {f : Addr} {cd : Value} {A : Around} {outer : List Env} {s : Shared} {H : Hp} {E : XK}
theorem ps_raise {C R : Addr} {e : Expr} {te : TE} {pos : Pos} (hC : ExcK K C R) (he : PE (cxOf (CX1 P w) P w K mg base N qual scope f cd A outer s H E) e te) :
    PS (cxOf (CX1 P w) P w K mg base N qual scope f cd A outer s H E) (.Raise (some e) none pos) (tRaise C H s.heap.objs.size E te) := by
  intro pins s1 σ H1 D I h
  obtain ⟨nm, q, N', bs, hdct, sn, sub, ab, col, dd, k0, k1, k2, k3, k5, ho⟩ := hC
  rw [arm_exec_Raise]
  show wpAny (model P w) (A.deeper (envOfC qual scope s.heap.objs.size f cd)) (do standAt pos; raiseStmt (envOfC qual scope s.heap.objs.size f cd) (some (do let v ← eval e (envOfC qual scope s.heap.objs.size f cd); standAt pos; pure v)) none) _ _ s1
  refine wpAny_bind (wpAny_standAt (raise_own (C := C) (nm := nm) (q := q) (N := N') (bs := bs) (bm := [.ref R, .type "ValueError", .type "Exception", .type "BaseException", .type "object"]) (hdct := hdct) (sn := sn) (sub := sub) (ab := ab) (col := col) (dd := dd) (k0 := k0) (k1 := k1) (k2 := k2) (k3 := k3) (k5 := k5) (newId := "ValueError.__new__") (bm_ok R).hasE (I.ok.hd rfl) (wpAny_bind (thn (he pins s1 σ H1 _ I h) fun v s2 ⟨x, H2, I2, rx, a, dx, ex, na, h0, ha, q2⟩ => wpAny_bind (wpAny_standAt (wpAny_pure ?_))))))
  subst ex
  obtain rfl : v = Value.ref a := rx
  obtain ⟨⟨t, sl, ge⟩, _, _⟩ : ObjOk P w H2 s2.heap a (excO a C dx) := I2.hok a _ ha
  refine ⟨a, t, dx, sl, rfl, I2.kIn C _ ho, ge, ?_⟩
  have I3 : Inv (cxOf (CX1 P w) P w K mg base N qual scope f cd A outer s H E) pins σ (del H2 a) s2 := I2.del ha h0
  show wpAny (model P w) (A.deeper (envOfC qual scope s.heap.objs.size f cd)) (leaving (envOfC qual scope s.heap.objs.size f cd) (.ref a)) _ _ s2
  refine leave_first (base := base) I.ok.frames I3.stack rfl ge rfl rfl fun h' T' lf => ?_
  have hz : ∀ z, (#[Value.ref t, .none, .none, .none, .bool false, .none] : Array Value)[1]? = some (.ref z) → False := fun z q => by
    simp at q
  have hstk : ∀ b ∈ frs (envOfC qual scope s.heap.objs.size f cd :: outer), del H2 a b = none := I3.stkFree
  obtain ⟨oT', ts', gT', gt', g3'⟩ := lf.ent
  refine ⟨a, C, dx, del H2 a, rfl, I3.os, I3.bare, left_un I3.base lf (fun b hb => ?_) (fun b o q m => ?_) na (fun z q => (hz z q).elim), left_hok I3.hok lf del_same (fun z q => (hz z q).elim) hstk, ?_, q2⟩
  · show b ∈ frs (envOfC qual scope s.heap.objs.size f cd :: outer)
    unfold frs
    rw [List.filterMap_cons]
    exact List.mem_cons_of_mem _ hb
  · have m : b ∈ frs (envOfC qual scope s.heap.objs.size f cd :: outer) := m
    unfold frs at m
    rw [List.filterMap_cons] at m
    rcases List.mem_cons.mp m with z | z
    · exact absurd (Heap.lt_size q) (by rw [z]; exact Nat.lt_irrefl _)
    · exact z
  · have hsz2 : s.heap.objs.size ≤ s2.heap.objs.size := I2.sz
    have nTa : T' ≠ a := fun z => absurd (Heap.lt_size ge) (by rw [← z]; exact Nat.not_lt.mpr lf.new)
    exact ⟨_, _, T', oT', ts', lf.obj, rfl, rfl, rfl, by simp, nTa, gT', gt', g3', del_same, I3.hok.fresh lf.new, na, Nat.le_trans hsz2 lf.new⟩
end
section
variable {X : Cx} {CX : CXT} {k m : Nat} {f C R : Addr} {fd : FuncData} {ps : List Str} {sp : Sp} {E : XK} {p pos : Pos} {e : Expr} {es : List Expr} {t : TA} {bm : List Value}
theorem run_excN {pins : List (Addr × Obj)} {σ : St} {H : Hp} {s : Shared} {Q : VK} {us : List Value} {vs : List V} (M : ExcC X.K C f bm) (F : FnOk X.prog X.w X.K X.mg X.base CX k f fd ps sp) (hr : Room (k + 1) X.A) (hb : Binds X.K fd ps [])
    (hx : Passes CX X E) (I : Inv X pins σ H s) (r : Vals vs us) (hz : vs.length ≤ sizeLine)
    (h : ∀ x, H x = none → s.heap.objs.size ≤ x → sp (.ref x :: vs) (upd H x (excO x C none)) (fun v H2 => v = .non ∧ Q (.ref x) H2) E) :
    wpAny (model X.prog X.w) X.A (call (.ref C) us) (EP X pins σ Q) X.xe s := by
  obtain ⟨nm, q, N, bs, hdct, sn, sub, ab, col, dd, k0, k1, k2, k3, k5, ho⟩ := M.obj
  obtain ⟨oI, hoI, hcI⟩ := M.fn
  have hsz : us.length ≤ sizeLine := by rw [← r.length]; exact hz
  refine exc_make (h := s.heap) (g := s.gens) (d := s.drawn) (t := s.toks) (os := s.os) M.bm_ok (I.kIn C _ ho) (PySem.W.looks_findIn I.kIn M.init) (I.kIn f _ hoI) hcI (fun h' kp hget => ?_) hsz
  have hfr : H (s.heap.objs.size + 1) = none := I.hok.fresh (Nat.le_succ _)
  have hq := h (s.heap.objs.size + 1) hfr (Nat.le_succ _)
  have I2 : Inv X pins σ (upd H (s.heap.objs.size + 1) (excO (s.heap.objs.size + 1) C none)) { s with heap := h' } := I.laid (t' := s.toks) kp (Nat.le_succ _) (excO_ok hget)
  have r2 : Vals (V.ref (s.heap.objs.size + 1) :: vs) (Value.ref (s.heap.objs.size + 1) :: us) := .cons rfl r
  have hl : (Value.ref (s.heap.objs.size + 1) :: us ++ []).length = ps.length := by
    rw [List.append_nil, ← r2.length]
    exact F.len _ _ _ _ hq
  refine wpAny_call (codeAny_mono (F.run _ X.stack _ _ ⟨Value.ref (s.heap.objs.size + 1) :: us, []⟩ (Value.ref (s.heap.objs.size + 1) :: us) _ _ E (hr.make C us []) (I2.env0.make C us []) (by
    have := hb { s with heap := h' } (Value.ref (s.heap.objs.size + 1) :: us) I2.kIn hl
    rwa [List.append_nil] at this) r2 hq) fun r s' hq' => ?_)
  cases r with
  | error e => exact hx pins σ _ _ e s' I2 hq'
  | ok fl =>
    cases fl with
    | ret u =>
      obtain ⟨v, H', I3, rv, ev, q3⟩ := I2.after hq'
      subst ev
      exact ⟨rv, ⟨V.ref (s.heap.objs.size + 1), H', I3, rfl, q3⟩⟩
    | next => exact False.elim hq'
    | brk => exact False.elim hq'
    | cont => exact False.elim hq'
end
def tEx1N (n : Nat) (C : Addr) (f : Str) (t : TA) : TE := fun σ H Q => t σ H fun vs H1 => ∃ v, vs = [v] ∧ ∀ z H', n ≤ z → H1 z = none → Same H1 H' → ExcAt H' z C [(f, v)] → Q (.ref z) H'
def tEx2N (n : Nat) (C : Addr) (f g : Str) (t : TA) : TE := fun σ H Q => t σ H fun vs H1 => ∃ v y, vs = [v, y] ∧ ∀ z H', n ≤ z → H1 z = none → Same H1 H' → ExcAt H' z C (putF g y [(f, v)]) → Q (.ref z) H'
section
variable {CX : CXT} {X : Cx} {k m : Nat} {C R : Addr} {E : XK} {x qual f g : Str} {st : Stmt} {p pos : Pos} {e : Expr} {es : List Expr} {t : TA}
theorem pe_ex1N (M : HasExc X.K X.mg x qual st C R) (F : InitOk X.prog X.w X.K X.mg X.base CX qual st ["self", f] (spI1 C f)) (hr : Room m X.A) (ha : PA X (e :: es) t) (hk : 2 ≤ m := by decide) (hx : Passes CX X E := by exact pass0) (hg : Gl X x := by rfl)
    (hdb : (x == ("__debug__" : Str)) = false := by decide) (he : starEach (e :: es) X.env = (false, eval e X.env) :: starEach es X.env := by rfl) (hpl : (backTo pos (starEach es X.env)).any (·.1) = false := by rfl) :
    PE X (.Call (.Name x p) (e :: es) [] pos) (tEx1N X.s₀.heap.objs.size C f t) := by
  intro pins s σ H Q I h
  obtain ⟨fa, fd, C1, Fn⟩ := M.ex
  obtain ⟨ok, hb⟩ := F fa fd Fn
  refine wpAny_Call_Name_kw (ld_glob I hg M.gl ?_ hdb)
  refine PySem.W.callWith_K (h₀ := X.base) I.ok.mod.kin C1.kp (thn (ha pos pins s σ H _ I h) fun us s1 ⟨vs, H1, I1, r, v, ev, q⟩ => ⟨I1.kIn, ?_⟩) he hpl
  subst ev
  refine run_excN C1 ok (hr.mono hk) hb hx I1 r (small_line (show (_ : Nat) ≤ _ by simp only [List.length_cons, List.length_nil]; decide)) fun z hz hn => ⟨z, v, rfl, upd_same, fun dx hd => ⟨rfl, q z _ (Nat.le_trans I1.sz hn) hz (fun b u eb => ?_) ?_⟩⟩
  · have hzx : dx ≠ z := fun q => by rw [q, upd_same] at hd; cases hd
    rw [upd_ne hzx] at hd
    rw [upd_ne (ne_of_none eb hz), upd_ne (ne_of_none eb hd), upd_ne (ne_of_none eb hz)]
    exact eb
  · have hzx : dx ≠ z := fun q => by rw [q, upd_same] at hd; cases hd
    exact .inr ⟨dx, upd_same, by rw [upd_ne hzx, upd_same], hzx⟩
theorem pe_ex2N (M : HasExc X.K X.mg x qual st C R) (F : InitOk X.prog X.w X.K X.mg X.base CX qual st ["self", f, g] (spI2 C f g)) (hr : Room m X.A) (ha : PA X (e :: es) t) (hk : 2 ≤ m := by decide) (hx : Passes CX X E := by exact pass0) (hg : Gl X x := by rfl)
    (hdb : (x == ("__debug__" : Str)) = false := by decide) (he : starEach (e :: es) X.env = (false, eval e X.env) :: starEach es X.env := by rfl) (hpl : (backTo pos (starEach es X.env)).any (·.1) = false := by rfl) :
    PE X (.Call (.Name x p) (e :: es) [] pos) (tEx2N X.s₀.heap.objs.size C f g t) := by
  intro pins s σ H Q I h
  obtain ⟨fa, fd, C1, Fn⟩ := M.ex
  obtain ⟨ok, hb⟩ := F fa fd Fn
  refine wpAny_Call_Name_kw (ld_glob I hg M.gl ?_ hdb)
  refine PySem.W.callWith_K (h₀ := X.base) I.ok.mod.kin C1.kp (thn (ha pos pins s σ H _ I h) fun us s1 ⟨vs, H1, I1, r, v, y, ev, q⟩ => ⟨I1.kIn, ?_⟩) he hpl
  subst ev
  refine run_excN C1 ok (hr.mono hk) hb hx I1 r (small_line (show (_ : Nat) ≤ _ by simp only [List.length_cons, List.length_nil]; decide)) fun z hz hn => ⟨z, v, y, rfl, upd_same, fun dx hd => ⟨rfl, q z _ (Nat.le_trans I1.sz hn) hz (fun b u eb => ?_) ?_⟩⟩
  · have hzx : dx ≠ z := fun q => by rw [q, upd_same] at hd; cases hd
    rw [upd_ne hzx] at hd
    rw [upd_ne (ne_of_none eb hd), upd_ne (ne_of_none eb hz), upd_ne (ne_of_none eb hd), upd_ne (ne_of_none eb hz)]
    exact eb
  · have hzx : dx ≠ z := fun q => by rw [q, upd_same] at hd; cases hd
    exact .inr ⟨dx, by rw [upd_ne (Ne.symm hzx), upd_same], upd_same, hzx⟩
end
/-- raise C(v): what is left of it in flight is its dict -/
theorem go_raise {n : Nat} {H0 H1 H' : Hp} {E : XK} {C z : Addr} {fs : List (Str × V)} (hfs : fs ≠ []) (hn : n ≤ z) (hz : H1 z = none) (h0 : H0 z = none) (s : Same H1 H') (e : ExcAt H' z C fs) (k : ∀ dx H2, Same H1 H2 → H2 dx = some (dctO dx fs) → E (.ref C) (some dx) H2) :
    ∃ a dx, V.ref z = .ref a ∧ n ≤ a ∧ H0 a = none ∧ H' a = some (excO a C dx) ∧ E (.ref C) dx (del H' a) := by
  rcases e with ⟨w, _⟩ | ⟨dx, a, b, c⟩
  · exact absurd w hfs
  · exact ⟨z, some dx, rfl, hn, h0, a, k dx _ (fun b u q => by rw [del_ne (ne_of_none q hz)]; exact s b u q) (by rw [del_ne c]; exact b)⟩
section
variable {σ : St} {H H0 : Hp} {tr : TA} {v y : V} {C : Addr} {f g : Str} {D : Ends} {n : Nat} {E : XK}
end
section
variable {P : Program} {w : World} {K : PySem.W.Frag} {mg : Str → Option Value} {base : Heap} {k : Nat} {x : Str} {ps : List Str} {sp : Sp}
end
end L2
set_option Elab.async false
set_option linter.all false
set_option maxRecDepth 100000
set_option maxHeartbeats 4000000
namespace L2
open PySem PySem.Spec PyProof.Rows
theorem nsFind_drop {es : Array DictEntry} {name x : Str} {i : Nat} (h : x ≠ name) (hi : es.findIdx? (·.key.isStr name) = some i) : nsFind (es.eraseIdxIfInBounds i) x = nsFind es x := by
  obtain ⟨l⟩ := es
  have h1 := find?_drop (·.key.isStr x) (·.key.isStr name) (isStr_other h) l
  rw [List.findIdx?_toArray] at hi
  simp only [hi] at h1
  have e1 : (l.toArray.eraseIdxIfInBounds i).find? (·.key.isStr x) = l.toArray.find? (·.key.isStr x) := by simpa using h1
  unfold nsFind findBy
  rw [e1]
section
variable {M : Model} {A : Around} {E : Value → Shared → Prop} {s : Shared}
theorem wpAny_nsDelK {a : Addr} {m} {name : Str} {Q : Bool → Shared → Prop} (hn : s.heap.Ns a m)
    (hQ : ∀ h' m', h'.Ns a m' → (∀ x, x ≠ name → m' x = m x) → Heap.SameBut a s.heap h' → Q (m name).isSome { s with heap := h' }) : wpAny M A (nsDel a name) Q E s := by
  obtain ⟨o, es, ep, ho, hd, hk, hm⟩ := id hn
  have hany : es.any (·.refKey) = false := by
    rw [Array.any_eq_false']; intro e he; obtain ⟨n, t, h⟩ := hk e he; simp [DictEntry.refKey, h]
  have hsome : (m name).isSome = es.any (·.key.isStr name) := by
    rw [← hm name]; simp only [nsFind, findBy, Option.isSome_map]
    rw [Bool.eq_iff_iff]; simp only [Array.find?_isSome, Array.any_eq_true]
    constructor
    · rintro ⟨x, hx, hp⟩; obtain ⟨i, hi, rfl⟩ := Array.mem_iff_getElem.mp hx; exact ⟨i, hi, hp⟩
    · rintro ⟨i, hi, hp⟩; exact ⟨_, Array.getElem_mem hi, hp⟩
  have hhas : nsHas name o = pure (es.any (·.key.isStr name)) := by
    rw [nsHas_eq]; unfold nsHasByArray; rw [hd]
    show (if (es.any fun x => x.key.isStr name) = true then _ else _) = _
    generalize (es.any fun x => x.key.isStr name) = b
    cases b <;> simp [hany]
  unfold nsDel
  refine wpAny_bind (wpAny_loadPart ho ?_)
  rw [hhas]
  refine wpAny_bind (wpAny_pure ?_)
  rw [← hsome]
  cases hmn : (m name).isSome
  · have := hQ s.heap m hn (fun _ _ => rfl) (.refl ..)
    rw [hmn] at this
    exact wpAny_pure this
  · refine wpAny_bind (wpAny_updatePart ho (wpAny_pure ?_))
    have key : ∃ m', (s.heap.update a (Obj.dropName name)).Ns a m' ∧ ∀ x, x ≠ name → m' x = m x := by
      obtain ⟨cl, d, dt, sl⟩ := o
      subst hd
      cases hi : es.findIdx? (·.key.isStr name) with
      | some i => exact ⟨_, ⟨_, _, ep + 1, Heap.get?_update_self _ ho (by simp only [Obj.dropName_eq, Obj.dropNameByArray, hi] <;> rfl), (by simp only [Obj.dropName_eq, Obj.dropNameByArray, hi] <;> rfl), hk.erase i, fun _ => rfl⟩, fun x hx => (nsFind_drop hx hi).trans (hm x)⟩
      | none => exact ⟨_, ⟨_, _, ep, Heap.get?_update_self _ ho (by simp only [Obj.dropName_eq, Obj.dropNameByArray, hi] <;> rfl), (by simp only [Obj.dropName_eq, Obj.dropNameByArray, hi] <;> rfl), hk, fun _ => rfl⟩, fun x hx => hm x⟩
    obtain ⟨m', hm', hx'⟩ := key
    have := hQ _ m' hm' hx' (Heap.SameBut.update ..)
    rw [hmn] at this
    exact this
end
section
variable {X : Cx} {pins : List (Addr × Obj)} {σ : St} {H : Hp} {s : Shared}
theorem name_goes {M : Model} {A : Around} {E : Value → Shared → Prop} {i : Nat} {n : Str} {pos : Pos} {Q : Unit → Shared → Prop} (I : Inv X pins σ H s) (hN : X.N.Nodup) (hi : X.N[i]? = some n) (hl : X.env.scope.names.lookup n = some .local)
    (h : ∀ s', Inv X pins (σ.set i none) H s' → Q () s') : wpAny M A (do bindName X.env n .none; unbindBehindTheSuite X.env n pos) Q E s := by
  have hp : (X.env.scope.kind == .class || (X.env.scope.kind == .module && X.env.locals != X.env.globals)) = false := by rw [I.ok.kind]; rfl
  have hl' : X.env.kindOf n = some .local := hl
  have hiσ : i < σ.length := by rw [I.len]; exact (List.getElem?_eq_some_iff.mp hi).1
  refine wpAny_bind (wpAny_bindName (store_ok (v := V.non) (u := Value.none) I hN hi (.inl hl) rfl (fun s1 I1 => ?_) (.inr hl)))
  unfold unbindBehindTheSuite
  refine wpAny_onRaise ?_
  unfold unbindName
  refine wpAny_bind (wpAny_point (wpAny_bind ?_))
  unfold deleteName
  simp only [hl', hp]
  rw [if_neg (by decide)]
  obtain ⟨m, hn, hm⟩ := id I1.loc
  have hmn : (m n).isSome = true := by
    obtain ⟨u, _, q⟩ := hm i n .non hi (by rw [List.getElem?_set_self hiσ]) (.inl hl)
    rcases q with ⟨_, e⟩ | ⟨k, _⟩
    · rw [e]; rfl
    · rw [hl'] at k
      rcases k with k | k <;> cases k
  have cne := I1.cne
  refine wpAny_bind (wpAny_nsDelK hn fun h₂ m₂ hn₂ hk hs => ?_)
  rw [hmn]
  simp only [if_true, Bool.not_true, Bool.false_eq_true, if_false]
  refine wpAny_pure (wpAny_point (h _ ?_))
  obtain ⟨oL, _, _, hoL, _⟩ := id hn
  refine ⟨I1.ok, I1.os, I1.bare, ⟨fun b o e n hb hx => ?_, fun b o e n hb hx => ?_, I1.base.free, fun b o e hx => ?_, I1.base.tups, I1.base.frzs, I1.base.tbls⟩, ⟨_, hn₂, fun j y v' e1 e2 e3 => ?_⟩, fun y c e => ?_, I1.free, I1.freeC, fun p hp => ?_, fun b ob e => ?_, by rw [List.length_set]; exact I.len⟩
  · exact (hs.2 b (Nat.ne_of_lt (Nat.lt_of_lt_of_le (Heap.lt_size e) I1.ok.above))).trans (I1.base.keep b o e n hb hx)
  · obtain ⟨sl, e1⟩ := I1.base.slot b o e n hb hx
    exact ⟨sl, (hs.2 b (Nat.ne_of_lt (Nat.lt_of_lt_of_le (Heap.lt_size e) I1.ok.above))).trans e1⟩
  · obtain ⟨o', e1⟩ := I1.base.there b o e hx
    exact ⟨o', (hs.2 b (Nat.ne_of_lt (Nat.lt_of_lt_of_le (Heap.lt_size e) I1.ok.above))).trans e1⟩
  · by_cases hj : j = i
    · subst hj
      rw [List.getElem?_set_self hiσ] at e2
      cases e2
    · rw [List.getElem?_set_ne (Ne.symm hj)] at e2
      obtain ⟨u', r', q⟩ := hm j y v' e1 (by rw [List.getElem?_set_ne (Ne.symm hj)]; exact e2) e3
      refine ⟨u', r', ?_⟩
      rcases q with ⟨k, e⟩ | ⟨k, c, e, z⟩
      · refine .inl ⟨k, ?_⟩
        have : y ≠ n := fun e => hj (nodup_ix hN e1 (e ▸ hi))
        rw [hk y this]
        exact e
      · exact .inr ⟨k, c, e, z.sameBut hs (cne y c e)⟩
  · obtain ⟨w', z⟩ := I1.cell y c e
    exact ⟨w', z.sameBut hs (cne y c e)⟩
  · obtain ⟨e, n, ne, nf, d⟩ := I1.pin p hp
    exact ⟨(hs.2 p.1 ne).trans e, n, ne, nf, d⟩
  · refine (I1.hok b ob e).stay (fun c w' hc q => (hs.2 c ?_).trans q) (fun _ q => q) fun _ _ q => q
    rintro rfl
    rcases hc with rfl | hc
    · rw [I1.free] at e; cases e
    · rw [I1.free] at hc; cases hc
end
section
variable {M : Model} {A : Around} {E : Value → Shared → Prop} {s : Shared} {base : Heap} {env : Env} {outer : List Env} {L e : Addr} {oe : Obj} {vs : Array Value}
theorem note_next {Q : Unit → Shared → Prop} {T0 : Addr} {o0 : Obj} {ts0 : Array Value} (hfr : A.frames = some (env :: outer)) (hl : s.heap.FunFrames base (env :: outer)) (hf : env.frame = some L) (he : s.heap.get? e = some oe) (hd : oe.data = .fields vs) (h1 : vs[1]? = some (.ref T0))
    (hT : s.heap.get? T0 = some o0) (hdT : o0.data = .fields ts0) (h3 : ts0[3]? = some .none) (hTe : T0 ≠ e)
    (h : ∀ h' T, Left (frs (env :: outer)) s.heap h' e oe vs T → Q () { s with heap := h' }) : wpAny M A (noteFrame (.ref e) env) (fun _ s' => wpAny M A (setFlight (.ref e) none) Q E s') E s := by
  unfold noteFrame
  simp only [hf]
  refine wpAny_bind (wpAny_field he hd h1 ?_)
  rw [if_pos (show (Value.ref T0 != Value.none) = true from by simp)]
  refine wpAny_bind (wpAny_field hT hdT h3 ?_)
  rw [if_neg (show ¬ ((Value.none == rawInt L) = true) from by simp [rawInt])]
  refine wpAny_bind (wpAny_setField hT hdT (Array.getElem?_eq_some_iff.mp h3).1 ?_)
  have hoth : ∀ b, b ≠ T0 → (s.heap.update T0 (Obj.mapFields (·.setIfInBounds 3 Value.none))).get? b = s.heap.get? b := fun b hb => Heap.get?_update_other _ _ (Ne.symm hb)
  have hno : ∀ b o, s.heap.get? b = some o → (∀ z, o.data ≠ .fields z) → b ≠ T0 := fun b o z hn q => by
    rw [q, hT] at z; cases z
    exact hn ts0 hdT
  have hl2 : (s.heap.update T0 (Obj.mapFields (·.setIfInBounds 3 Value.none))).FunFrames base (env :: outer) := hl.of_keeps fun b o z hn => ⟨o, (hoth b (hno b o z hn)).trans z, rfl⟩
  refine leave_tail (s := { s with heap := s.heap.update T0 (Obj.mapFields (·.setIfInBounds 3 Value.none)) }) hfr hl2 hf ((hoth e (Ne.symm hTe)).trans he) hd (Array.getElem?_eq_some_iff.mp h1).1 fun h' T lf => h h' T ⟨fun b o hb hn z hz => lf.keep b o hb hn ((hoth b (hz T0 h1)).trans z) hz, fun b o hb z => ?_, ?_, lf.ent, lf.obj⟩
  · obtain ⟨_, o', ho', hn'⟩ := hl.mem hb
    rw [z] at ho'; cases ho'
    exact lf.slot b o hb ((hoth b (hno b o z hn')).trans z)
  · have := lf.new
    rw [Heap.size_update] at this
    exact this
end
abbrev Cx.pinned (X : Cx) (pins : List (Addr × Obj)) : Cx := { X with pn := X.pn ++ pins }
section
variable {X : Cx} {pins pins' : List (Addr × Obj)} {σ : St} {H : Hp} {s : Shared} {a : Addr}
theorem Inv.pinC (I : Inv X pins σ H s) : Inv (X.pinned pins) [] σ H s :=
  ⟨⟨I.ok.mod, I.ok.kind, I.ok.glob, I.ok.blt, I.ok.above, I.ok.inj, I.ok.has, I.ok.cab, I.ok.hd, I.ok.frames, I.ok.stk, I.ok.exf, I.ok.bs, I.ok.bsz, I.ok.noex, I.ok.exfs, I.ok.funs, I.ok.frf⟩, I.os, I.bare, I.base, I.loc, I.cell, I.free, I.freeC, fun p hp => I.pin p (by
    have hp : p ∈ (X.pn ++ pins) ++ [] := hp
    rw [List.append_nil] at hp
    exact hp), I.hok, I.len⟩
theorem Inv.unpinC (I : Inv (X.pinned pins) pins' σ H s) : Inv X pins σ H s :=
  ⟨⟨I.ok.mod, I.ok.kind, I.ok.glob, I.ok.blt, I.ok.above, I.ok.inj, I.ok.has, I.ok.cab, I.ok.hd, I.ok.frames, I.ok.stk, I.ok.exf, I.ok.bs, I.ok.bsz, I.ok.noex, I.ok.exfs, I.ok.funs, I.ok.frf⟩, I.os, I.bare, I.base, I.loc, I.cell, I.free, I.freeC, fun p hp => I.pin p (List.mem_append_left _ hp), I.hok, I.len⟩
/-- a handler's suite: the exception at a is being handled, none leaves -/
abbrev Cx.hand (X : Cx) (a : Addr) : Cx := { X with A := X.A.mark (some (.ref a)), calm := false, xe := fun _ _ => False }
theorem Inv.hand (I : Inv X pins σ H s) : Inv (X.hand a) pins σ H s :=
  ⟨⟨I.ok.mod, I.ok.kind, I.ok.glob, I.ok.blt, I.ok.above, I.ok.inj, I.ok.has, I.ok.cab, (fun h => by cases h), I.ok.frames, I.ok.stk, I.ok.exf, I.ok.bs, I.ok.bsz, I.ok.noex, I.ok.exfs, I.ok.funs, I.ok.frf⟩, I.os, I.bare, I.base, I.loc, I.cell, I.free, I.freeC, I.pin, I.hok, I.len⟩
theorem Inv.unhand (ok : X.Ok) (I : Inv (X.hand a) pins σ H s) : Inv X pins σ H s :=
  ⟨ok, I.os, I.bare, I.base, I.loc, I.cell, I.free, I.freeC, I.pin, I.hok, I.len⟩
end
/-- EX: what is wanted of an exception that comes up, by the names' values then -/
abbrev Cx.tr (X : Cx) (pins : List (Addr × Obj)) (EX : St → XK) : Cx := (X.pinned pins).wish fun ev s' => ∃ pins' σ' H1 s1, Inv (X.pinned pins) pins' σ' H1 s1 ∧ CX1 X.prog X.w X.stack H1 s1 (EX σ') ev s'
def tCallx (EX : St → XK) (sp : Sp) (t : TA) : TE := fun σ H Q => t σ H fun vs H1 => sp vs H1 Q (EX σ)
section
variable {X : Cx} {pins : List (Addr × Obj)} {EX : St → XK} {k m : Nat} {x : Str} {ps : List Str} {sp : Sp} {p pos : Pos} {e : Expr} {es : List Expr} {t : TA}
end
/-- an exception that was raised and caught -/
def excT (a C : Addr) (dx : Option Addr) : HO := .ext fun h => ∃ oe vs, h.get? a = some oe ∧ oe.cls = .ref C ∧ oe.dict = dx ∧ oe.data = .fields vs
theorem excT_ok {P : Program} {w : World} {H : Hp} {h : Heap} {a C : Addr} {dx : Option Addr} {oe : Obj} {vs : Array Value} (q : h.get? a = some oe) (hc : oe.cls = .ref C) (hd : oe.dict = dx) (hf : oe.data = .fields vs) : ObjOk P w H h a (excT a C dx) :=
  ⟨⟨oe, vs, q, hc, hd, hf⟩, ⟨_, q⟩, fun h1 h2 ⟨oe, vs, z, r⟩ k => ⟨oe, vs, k _ z, r⟩⟩
def ExcT (H : Hp) (x C : Addr) (fs : List (Str × V)) : Prop := (fs = [] ∧ H x = some (excT x C none)) ∨ ∃ dx, H x = some (excT x C (some dx)) ∧ H dx = some (dctO dx fs) ∧ dx ≠ x
theorem ExcT.same {H H' : Hp} {x C : Addr} {fs : List (Str × V)} (e : Same H H') (h : ExcT H x C fs) : ExcT H' x C fs := by
  rcases h with ⟨a, b⟩ | ⟨dx, a, b, c⟩
  · exact .inl ⟨a, e _ _ b⟩
  · exact .inr ⟨dx, e _ _ a, e _ _ b, c⟩
theorem ExcT.mk {H : Hp} {a C dx : Addr} {fs : List (Str × V)} (hd : H dx = some (dctO dx fs)) (ha : H a = none) : ExcT (upd H a (excT a C (some dx))) a C fs :=
  .inr ⟨dx, upd_same, by rw [upd_ne (ne_of_none hd ha)]; exact hd, ne_of_none hd ha⟩
structure Caught (X : Cx) (pins : List (Addr × Obj)) (σ : St) (H : Hp) (s : Shared) (a C : Addr) (dx : Option Addr) : Prop where
  I : Inv X pins σ H s
  ha : H a = some (excT a C dx)
  tb : ∃ T oe vs oT ts, s.heap.get? a = some oe ∧ oe.data = .fields vs ∧ vs[1]? = some (.ref T) ∧ s.heap.get? T = some oT ∧ oT.data = .fields ts ∧ 3 < ts.size ∧ H T = none ∧ T ≠ X.env.locals ∧ (T ∈ X.ex ∨ X.s₀.heap.objs.size ≤ T) ∧ (∀ x c, X.env.cells.lookup x = some c → c ≠ T) ∧ ∀ p ∈ X.pn ++ pins, p.1 ≠ T
abbrev THd := Ends → Addr → Addr → Option Addr → St → Hp → Prop
def PH (X : Cx) (hs : List ExceptHandler) (t : THd) : Prop :=
  ∀ (pins : List (Addr × Obj)) (s : Shared) (σ : St) (H : Hp) (C a : Addr) (dx : Option Addr) (D : Ends), Caught X pins σ H s a C dx → t D C a dx σ H → wpAny (model X.prog X.w) X.A (handleBy (.ref a) X.env hs) (SP X pins D) X.xe s
def Ends.forget (D : Ends) (i : Nat) : Ends := ⟨fun σ H => D.nx (σ.set i none) H, D.rt, fun σ H => D.bk (σ.set i none) H, fun σ H => D.ct (σ.set i none) H⟩
def hNil : THd := fun _ _ _ _ _ _ => False
def hAs (K : PySem.W.Frag) (d : Addr) (i : Nat) (th : Addr → TS) (tr : THd) : THd := fun D C a dx σ H => ∃ b, PySem.W.exmOne K (.ref C) (.ref d) = some b ∧ if b = true then th a (D.forget i) (σ.set i (some (.ref a))) H else tr D C a dx σ H
def hPl (K : PySem.W.Frag) (d : Addr) (th : Addr → TS) (tr : THd) : THd := fun D C a dx σ H => ∃ b, PySem.W.exmOne K (.ref C) (.ref d) = some b ∧ if b = true then th a D σ H else tr D C a dx σ H
section
variable {X : Cx} {x n : Str} {d : Addr} {i : Nat} {b₀ : Stmt} {suite : List Stmt} {rest : List ExceptHandler} {th : Addr → TS} {tr : THd} {p pos : Pos}
theorem ph_nil : PH X [] hNil := fun _ _ _ _ _ _ _ _ _ h => h.elim
theorem Caught.lit {pins : List (Addr × Obj)} {σ : St} {H : Hp} {s : Shared} {a C : Addr} {dx : Option Addr} {A : Around} {E : Value → Shared → Prop} {Q : Unit → Shared → Prop} (c : Caught X pins σ H s a C dx) (h : ∀ s', Inv X pins σ H s' → Q () s') : wpAny (model X.prog X.w) A (setFlight (.ref a) none) Q E s := by
  obtain ⟨T, oe, vs, oT, ts, ga, gf, g1, gT, gt, g3, hT, n1, n2, n3, n4⟩ := c.tb
  exact wpAny_setFlight_none ga gf g1 gT gt g3 (h _ (c.I.turned (t' := s.toks) (fun b o hb e => (Heap.get?_update_other _ _ (Ne.symm hb)).trans e) hT n1 n2 n3 n4))
theorem Caught.type {pins : List (Addr × Obj)} {σ : St} {H : Hp} {s : Shared} {a C : Addr} {dx : Option Addr} (c : Caught X pins σ H s a C dx) : PySem.W.Looks (model X.prog X.w) s.heap (typeOf (.ref a)) (.ref C) := by
  obtain ⟨⟨oe, vs, ge, gc, gd, gf⟩, _, _⟩ : ObjOk X.prog X.w H s.heap a (excT a C dx) := c.I.hok a _ c.ha
  exact gc ▸ (PySem.W.Looks.ld ge).andThen .now
/-- except C as n: .. -/
theorem ph_as (hm : X.mg x = some (.ref d)) (hs : ∀ a, PSs (X.hand a) (b₀ :: suite) (th a)) (hrest : PH X rest tr) (hN : X.N.Nodup) (hi : X.N[i]? = some n) (hl : X.env.scope.names.lookup n = some .local) (hg : Gl X x := by rfl)
    (hdb : (x == ("__debug__" : Str)) = false := by decide) : PH X (.ExceptHandler (some (.Name x p)) (some n) (b₀ :: suite) pos :: rest) (hAs X.K d i th tr) := by
  intro pins s σ H C a dx D c h
  obtain ⟨b, hb, h⟩ := h
  refine wpAny_handleBy_cons (codeAny_handlers_test (ld_glob (X := X.hand a) c.I.hand hg hm ?_ hdb)) (by intro q; cases q)
  refine (PySem.W.exm_one (M := model X.prog X.w) c.I.kIn c.type hb).here ?_
  cases b with
  | false =>
    rw [if_neg Bool.false_ne_true] at h
    exact hrest pins s σ H C a dx D c h
  | true =>
    rw [if_pos rfl] at h
    show codeAny _ _ _ _ _
    refine codeAny_handlers_suite_as (c.lit fun s1 I1 => store_ok I1 hN hi (.inl hl) (v := V.ref a) rfl (fun s2 I2 => ?_) (.inr hl))
    refine wpAny_mono (hs a pins s2 (σ.set i (some (.ref a))) H (D.forget i) I2.hand h) (fun f s3 q => ?_) fun _ _ z => z.elim
    show wpAny (model X.prog X.w) X.A (do bindName X.env n .none; unbindBehindTheSuite X.env n pos) _ _ s3
    cases f with
    | next =>
      obtain ⟨σ', H', I', q⟩ := q
      exact name_goes (I'.unhand c.I.ok) hN hi hl fun s4 I4 => ⟨_, H', I4, q⟩
    | brk =>
      obtain ⟨σ', H', I', q⟩ := q
      exact name_goes (I'.unhand c.I.ok) hN hi hl fun s4 I4 => ⟨_, H', I4, q⟩
    | cont =>
      obtain ⟨σ', H', I', q⟩ := q
      exact name_goes (I'.unhand c.I.ok) hN hi hl fun s4 I4 => ⟨_, H', I4, q⟩
    | ret u =>
      obtain ⟨v, σ', H', I', r, q⟩ := q
      exact name_goes (I'.unhand c.I.ok) hN hi hl fun s4 I4 => ⟨v, _, H', I4, r, q⟩
/-- except C: .. -/
theorem ph_pl (hm : X.mg x = some (.ref d)) (hs : ∀ a, PSs (X.hand a) (b₀ :: suite) (th a)) (hrest : PH X rest tr) (hg : Gl X x := by rfl)
    (hdb : (x == ("__debug__" : Str)) = false := by decide) : PH X (.ExceptHandler (some (.Name x p)) none (b₀ :: suite) pos :: rest) (hPl X.K d th tr) := by
  intro pins s σ H C a dx D c h
  obtain ⟨b, hb, h⟩ := h
  refine wpAny_handleBy_cons (codeAny_handlers_test (ld_glob (X := X.hand a) c.I.hand hg hm ?_ hdb)) (by intro q; cases q)
  refine (PySem.W.exm_one (M := model X.prog X.w) c.I.kIn c.type hb).here ?_
  cases b with
  | false =>
    rw [if_neg Bool.false_ne_true] at h
    exact hrest pins s σ H C a dx D c h
  | true =>
    rw [if_pos rfl] at h
    show codeAny _ _ _ _ _
    refine codeAny_handlers_suite (c.lit fun s1 I1 => ?_)
    refine wpAny_mono (hs a pins s1 σ H D I1.hand h) (fun f s3 q => ?_) fun _ _ z => z.elim
    show SP X pins D f s3
    cases f with
    | next =>
      obtain ⟨σ', H', I', q⟩ := q
      exact ⟨_, H', I'.unhand c.I.ok, q⟩
    | brk =>
      obtain ⟨σ', H', I', q⟩ := q
      exact ⟨_, H', I'.unhand c.I.ok, q⟩
    | cont =>
      obtain ⟨σ', H', I', q⟩ := q
      exact ⟨_, H', I'.unhand c.I.ok, q⟩
    | ret u =>
      obtain ⟨v, σ', H', I', r, q⟩ := q
      exact ⟨v, _, H', I'.unhand c.I.ok, r, q⟩
end
def tTry (tb : List (Addr × Obj) → (St → XK) → TS) (th : THd) : TS := fun D σ H => ∀ pins, tb pins (fun σ' cv dx H' => ∃ C, cv = .ref C ∧ ∀ a, H' a = none → th D C a dx σ' (upd H' a (excT a C dx))) D σ H
section
variable {X : Cx} {body : List Stmt} {h₀ : ExceptHandler} {hs : List ExceptHandler} {tb : List (Addr × Obj) → (St → XK) → TS} {th : THd} {pos : Pos}
theorem ps_try (hb : ∀ pins EX, PSs (X.tr pins EX) body (tb pins EX)) (hh : PH X (h₀ :: hs) th) (hst : X.stack = X.env :: X.outer := by rfl) (hf : X.env.frame = some X.env.locals := by rfl) : PS X (.Try body (h₀ :: hs) [] [] pos) (tTry tb th) := by
  intro pins s σ H D I h
  refine wpAny_Try_except (wpAny_mono (hb pins _ [] s σ H D (I.pinC.wish _) (h pins)) (fun f s1 q => ?_) fun ev s1 q => ?_)
  · cases f with
    | next =>
      obtain ⟨σ', H', I', q⟩ := q
      exact wpAny_execs_nil ⟨σ', H', I'.unwish.unpinC, q⟩
    | brk =>
      obtain ⟨σ', H', I', q⟩ := q
      exact ⟨σ', H', I'.unwish.unpinC, q⟩
    | cont =>
      obtain ⟨σ', H', I', q⟩ := q
      exact ⟨σ', H', I'.unwish.unpinC, q⟩
    | ret u =>
      obtain ⟨v, σ', H', I', r, q⟩ := q
      exact ⟨v, σ', H', I'.unwish.unpinC, r, q⟩
  · obtain ⟨pins', σ', H1, s2, I1, a, C, dx, H', rfl, hos, hbr, un, hok, ⟨oe, vs, T, oT, ts, ga, gc, gd, gf, g1, gne, gT, gt, g3, ha, hT, na, nT⟩, C', eC, q⟩ := q
    cases eC
    have I1 : Inv X pins σ' H1 s2 := I1.unpinC
    have I2 : Inv X pins σ' H' s1 := I1.call' (ch := []) hos un hok hbr (fun b z => absurd z (by simp))
    refine note_next (base := X.base) (by rw [I.ok.frames, hst]) (by rw [← hst]; exact I2.stack) hf ga gf g1 gT gt g3 gne fun h' T' lf => ?_
    have hz : ∀ z, vs[1]? = some (.ref z) → z = T := fun z hz => by rw [g1] at hz; cases hz; rfl
    have hstk : ∀ b ∈ frs (X.env :: X.outer), H' b = none := by rw [← hst]; exact I2.stkFree
    have hok' : HOk X.prog X.w H' h' := left_hok hok lf ha (fun z h => by rw [hz z h]; exact hT) hstk
    have lo : ∀ b o, s2.heap.get? b = some o → ∀ c, s2.heap.objs.size ≤ c → b ≠ c := fun b o z c hc => Nat.ne_of_lt (Nat.lt_of_lt_of_le (Heap.lt_size z) hc)
    have far : ∀ c, s2.heap.objs.size ≤ c → (c ∈ X.ex ∨ X.s₀.heap.objs.size ≤ c) ∧ c ≠ X.env.locals ∧ (∀ x d, X.env.cells.lookup x = some d → d ≠ c) ∧ ∀ p ∈ X.pn ++ pins, p.1 ≠ c := fun c hc =>
      ⟨.inr (Nat.le_trans I1.sz hc), Ne.symm (Nat.ne_of_lt (Nat.lt_of_lt_of_le I1.lt hc)), fun x d hd => by
        obtain ⟨v, ob, ho, _⟩ := I1.cell x d hd
        exact lo d ob ho c hc, fun p hp => lo _ _ (I1.pin p hp).1 c hc⟩
    have u3 : Un (frs X.stack) [a, T] H' H' s1.heap h' := by
      rw [hst]
      refine ⟨fun b o q n hb hx => ?_, fun b o q n hb hx => lf.slot b o hb q, fun b o q n hx => n, fun b o q hx => ?_, fun _ _ e => e, fun _ _ _ e => e, fun b ps e => ⟨#[], by rw [e]; simp⟩⟩
      · exact lf.keep b o (fun z => hx (by simp [z])) hb q fun z hz' z2 => hx (by rw [z2, hz z hz']; simp)
      · by_cases m : b ∈ frs (X.env :: X.outer)
        · obtain ⟨sl, z⟩ := lf.slot b o m q
          exact ⟨_, z⟩
        · exact ⟨o, lf.keep b o (fun z => hx (by simp [z])) m q fun z hz' z2 => hx (by rw [z2, hz z hz']; simp)⟩
    have I3 : Inv X pins σ' H' { s1 with heap := h' } := I2.call (g' := s1.gens) (d' := s1.drawn) (t' := s1.toks) u3 hok' hbr fun b hb => by
      rcases List.mem_cons.mp hb with rfl | hb
      · exact far _ na
      · rw [List.mem_singleton.mp hb]; exact far _ nT
    have new : s2.heap.objs.size ≤ T' := by
      refine Nat.le_trans ?_ lf.new
      exact Nat.le_trans na (Nat.le_of_lt (Heap.lt_size ga))
    have hT' : H' T' = none := I2.hok.fresh lf.new
    have nTa : T' ≠ a := fun z => absurd (Heap.lt_size ga) (by rw [← z]; exact Nat.not_lt.mpr lf.new)
    have I4 : Inv X pins σ' (upd H' a (excT a C dx)) { s1 with heap := h' } := I3.track I1 na ha (excT_ok lf.obj gc gd rfl)
    obtain ⟨oT', ts', gT', gt', g3'⟩ := lf.ent
    obtain ⟨f1, f2, f3, f4⟩ := far T' new
    refine hh pins _ σ' _ C a dx D ⟨I4, upd_same, T', _, _, oT', ts', lf.obj, rfl, ?_, gT', gt', (Array.getElem?_eq_some_iff.mp g3').1, by rw [upd_ne nTa]; exact hT', f2, f1, f3, f4⟩ (q a ha)
    have : 1 < vs.size := (Array.getElem?_eq_some_iff.mp g1).1
    simp [this]
end
def tExFT (C : Addr) (ta : TE) (f : Str) : TE := fun σ H Q => ta σ H fun x H1 => ∃ a fs v, x = .ref a ∧ ExcT H1 a C fs ∧ fs.lookup f = some v ∧ Q v H1
section
variable {X : Cx}
theorem pe_exfT {C : Addr} {o : Expr} {f : Str} {ta : TE} {pos : Pos} (G : ExcG X.K C) (n : NoAttr X.K C f) (he : PE X o ta) (hb : attributeBase o f X.env (eval o X.env) = eval o X.env := by rfl) : PE X (.Attribute o f pos) (tExFT C ta f) := by
  intro pins s σ H Q I h
  refine attr_of hb (thn (he pins s σ H _ I h) fun u s1 ⟨x, H1, I1, rx, a, fs, v, ex, ea, l, q⟩ => ?_)
  subst ex
  obtain rfl : u = Value.ref a := rx
  rcases ea with ⟨rfl, _⟩ | ⟨dx, ea, ed, _⟩
  · cases l
  · obtain ⟨⟨oe, vs, ge, gc, gd, gf⟩, _, _⟩ : ObjOk X.prog X.w H1 s1.heap a (excT a C (some dx)) := I1.hok a _ ea
    obtain ⟨⟨mA, nn, r, wi, hl⟩, _, _⟩ : ObjOk X.prog X.w H1 s1.heap dx (dctO dx fs) := I1.hok dx _ ed
    obtain ⟨u', hu, ru⟩ := RelO.some_of (v := v) (o := mA f) (by rw [← l]; exact r f)
    exact exc_get I1.kIn ge gc gd gf nn G.ga G.gb G.mb G.hd n hu (handed_of ru) ⟨v, H1, I1.tok _, ru, q⟩
end
/-- which clause takes a refusal -/
theorem exm_same {K : PySem.W.Frag} {C R : Addr} (G : ExcI K C R) : PySem.W.exmOne K (.ref C) (.ref C) = some true := by
  have hb : PySem.W.subIn K (.ref C) (.type "BaseException") = some true := G.g.mb
  unfold PySem.W.exmOne
  rw [hb, if_pos (by rfl)]
  obtain ⟨cd, hc, _⟩ := Option.map_eq_some_iff.mp G.mro
  unfold PySem.W.kitCls
  simp only
  rw [if_pos (by rw [hc, G.ty]; rfl)]
  show PySem.W.mroIn K C (.ref C) = _
  rw [G.in]
  simp [List.contains_cons]
theorem ExcT.off {H H' : Hp} {l x C : Addr} {fs : List (Str × V)} {xs : List V} (o : Off l H H') (hl : H l = some (.lst xs)) (h : ExcT H x C fs) : ExcT H' x C fs := by
  have ne : ∀ {a : Addr} {r : Heap → Prop}, H a = some (.ext r) → a ≠ l := fun {a r} ha q => by
    rw [q, hl] at ha
    cases ha
  rcases h with ⟨a, b⟩ | ⟨dx, a, b, c⟩
  · exact .inl ⟨a, by rw [o x (ne b)]; exact b⟩
  · exact .inr ⟨dx, by rw [o x (ne a)]; exact a, by rw [o dx (ne b)]; exact b, c⟩
theorem exm_up {K : PySem.W.Frag} {C R : Addr} (G : ExcI K C R) (hR : (PySem.W.clsIn K R).isSome = true) (tR : PySem.W.typeIn K (.ref R) = some (.type "type")) (mR : PySem.W.mroIn K R (.type "BaseException") = some true) : PySem.W.exmOne K (.ref C) (.ref R) = some true := by
  have hb : PySem.W.subIn K (.ref R) (.type "BaseException") = some true := mR
  unfold PySem.W.exmOne
  rw [hb, if_pos (by rfl)]
  unfold PySem.W.kitCls
  simp only
  rw [if_pos (by rw [hR, tR]; rfl)]
  show PySem.W.mroIn K C (.ref R) = _
  rw [G.in]
  simp [List.contains_cons]
section
variable {σ : St} {H : Hp} {D : Ends} {tb : List (Addr × Obj) → (St → XK) → TS} {th : THd} {tr : TA} {Q : VK} {EX : St → XK} {sp : Sp}
theorem go_caught {K : PySem.W.Frag} {d C a : Addr} {dx : Option Addr} {i : Nat} {tha : Addr → TS} {rest : THd} (e : PySem.W.exmOne K (.ref C) (.ref d) = some true) (h : tha a (D.forget i) (σ.set i (some (.ref a))) H) : hAs K d i tha rest D C a dx σ H := ⟨true, e, by rw [if_pos rfl]; exact h⟩
end
end L2
set_option Elab.async false
set_option linter.all false
set_option maxRecDepth 100000
set_option maxHeartbeats 4000000
namespace L2
open PySem PySem.Spec PyProof.Rows
section
variable {prog : Program} {w : World} {A : Around} {E : Value → Shared → Prop} {s : Shared}
end
/-- (a, b, ..) = a list of that length -/
def gLst (K : PySem.W.Frag) (n : Nat) (t : TGs) : TG := fun v σ H Q => ∃ a xs, v = .ref a ∧ SqL K H a xs ∧ xs.length = n ∧ t xs σ H Q
section
variable {σ σ' : St} {H : Hp} {K : PySem.W.Frag} {p : Addr} {a b c d : V} {i0 i1 i2 i3 : Nat} {R : St → Hp → Prop}
end
end L2
set_option Elab.async false
set_option linter.all false
set_option maxRecDepth 100000
set_option maxHeartbeats 4000000
namespace L2
open PySem PySem.Spec PyProof.Rows
def rIsT (K : PySem.W.Frag) : List V → Hp → VK → Prop := fun xs H Q => ∃ x d t b, xs = [x, d] ∧ TyOf K H x t ∧ clsIs K t d = some b ∧ Q (.bl b) H
theorem call_isT {X : Cx} : CallR X (.builtin "isinstance") (rIsT X.K) := call_isinstance
end L2
set_option Elab.async false
set_option linter.all false
set_option maxRecDepth 100000
set_option maxHeartbeats 4000000
namespace L2
open PySem PySem.Spec PyProof.Rows
section
variable {X : Cx} {pins : List (Addr × Obj)} {σ : St} {H : Hp} {s : Shared} {h' : Heap} {t' : Nat} {ch : List Addr}
/-- several records of ours have turned -/
theorem Inv.turnedN (I : Inv X pins σ H s) (hf : ∀ b ∈ ch, FpOk X pins H b) (k : ∀ b o, b ∉ ch → s.heap.get? b = some o → h'.get? b = some o) : Inv X pins σ H { s with heap := h', toks := t' } := by
  have off : ∀ b u, H b = some u → b ∉ ch := fun b u e z => by
    rw [(hf b z).1] at e
    cases e
  refine I.step (g' := s.gens) (d' := s.drawn) (ch := ch) (fun b hb => ?_) (fun b o _ _ hc e _ => k b o hc e) (fun b o _ _ hc e _ => ⟨o.slots, k b o hc e⟩) (fun _ _ _ _ n => n)
    (fun b o hc e => ⟨o, k b o hc e⟩) (fun _ _ e => e) (fun _ _ _ e => e) (fun b ps e => ⟨#[], by rw [e]; simp⟩) (fun m hm => ?_) (fun b u e => ?_) I.bare
  · obtain ⟨_, f1, _, f3, f4, f5⟩ := hf b hb
    exact ⟨f3, f1, f4, f5⟩
  · obtain ⟨o, es, ep, ho, r⟩ := hm
    exact ⟨o, es, ep, k _ o (fun z => (hf _ z).2.1 rfl) ho, r⟩
  · refine (I.hok b u e).stay (fun c v hc q => k c v ?_ q) (fun _ q => q) fun _ _ q => q
    rcases hc with z | z
    · rw [z]; exact off b u e
    · exact off c _ z
/-- .. and a new object is laid and tracked -/
theorem Inv.turnedLaid {a : Addr} {o : HO} (I : Inv X pins σ H s) (hf : ∀ b ∈ ch, FpOk X pins H b) (k : ∀ b o, b ∉ ch → s.heap.get? b = some o → h'.get? b = some o) (ha : s.heap.objs.size ≤ a)
    (new : ObjOk X.prog X.w (upd H a o) h' a o) : Inv X pins σ (upd H a o) { s with heap := h', toks := t' } := by
  have I1 : Inv X pins σ H { s with heap := h', toks := t' } := I.turnedN hf k
  have hn : H a = none := I.hok.fresh ha
  refine I.step (g' := s.gens) (d' := s.drawn) (ch := ch) (fun b hb => ?_) (fun b u _ _ hc e _ => k b u hc e) (fun b u _ _ hc e _ => ⟨u.slots, k b u hc e⟩)
    (fun b u _ e n => by rw [upd_ne (Nat.ne_of_lt (Nat.lt_of_lt_of_le (Heap.lt_size e) ha))]; exact n)
    (fun b u hc e => ⟨u, k b u hc e⟩) (fun b xs e => by rw [upd_ne (ne_of_none e hn)]; exact e) (fun b u x e => by rw [upd_ne (ne_of_none e hn)]; exact e)
    (fun b ps e => ⟨#[], by rw [upd_ne (ne_of_none e hn), e]; simp⟩) (fun m hm => ?_) (fun b u e => ?_) I.bare
  · obtain ⟨_, f1, _, f3, f4, f5⟩ := hf b hb
    exact ⟨f3, f1, f4, f5⟩
  · obtain ⟨u, es, ep, ho, r⟩ := hm
    exact ⟨u, es, ep, k _ u (fun z => (hf _ z).2.1 rfl) ho, r⟩
  · by_cases hb : b = a
    · subst hb
      rw [upd_same] at e
      cases e
      exact new
    · rw [upd_ne hb] at e
      exact (I1.hok b u e).stay (fun _ _ _ q => q) (fun c q => by rw [upd_ne (ne_of_none q hn)]; exact q) fun c xs q => by rw [upd_ne (ne_of_none q hn)]; exact q
end
def Ite (K : PySem.W.Frag) (a : Addr) (xs : List V) : It :=
  ⟨fun i H => SqL K H a xs ∧ i < xs.length, fun i H x H' => ∃ T v, x = .ref T ∧ xs[i]? = some v ∧ New H H' T (.tup [.int i, v]), fun i H => SqL K H a xs ∧ xs.length ≤ i⟩
theorem turn_enum {P : Program} {w : World} {K : PySem.W.Frag} {elts : List Expr} {x1} {pos : Pos} (a e it : Addr) (xs : List V) (hei : e ≠ it) :
    Turn P w K (.Tuple elts x1 pos) (Ite K a xs) [e, it] e (fun i h => (∃ old, IsEnum h e it i old) ∧ h.IsListIter it a i) where
  mem := by simp
  obj := fun i h st b hb => by
    obtain ⟨⟨old, he⟩, o, hi, hc, hd⟩ := st
    rcases List.mem_cons.mp hb with rfl | hb
    · exact ⟨_, he, fun v z => by
        have z' : Data.fields _ = Data.cell v := z
        cases z'⟩
    · rw [List.mem_singleton.mp hb]
      exact ⟨o, hi, fun v z => by rw [hd] at z; cases z⟩
  keep := fun i h h' st k => by
    obtain ⟨⟨old, he⟩, hi⟩ := st
    exact ⟨⟨old, k e (by simp) _ he⟩, hi.at fun o q => k it (by simp) o q⟩
  item := by
    intro X hP hw hK hc i pins s σ H E I hf st hg
    subst hP hw hK
    obtain ⟨⟨old, he⟩, hi⟩ := st
    obtain ⟨hq, hlt⟩ := hg
    obtain ⟨its, rv, p, hz⟩ := I.list hq
    have hx : xs[i]? = some xs[i] := by simp [hlt]
    generalize xs[i] = x at hx
    obtain ⟨u, hu, ru⟩ := rv.get hx
    refine wpAny_pyNext_enum_item he hi p.isList (x := u) (by simpa using hu) hei fun h1 ho hi1 hT hsz hk => ?_
    refine ⟨_, rfl, wpAny_letOwnedTupleGo_enum ho fun h2 he2 hs2 => ?_⟩
    have neT : s.heap.objs.size ≠ e := Nat.ne_of_gt (Heap.lt_size he)
    have hT2 := (hs2.2 _ neT).trans hT
    have k2 : ∀ b o, b ∉ [e, it] → s.heap.get? b = some o → h2.get? b = some o := fun b o hb q => by
      simp only [List.mem_cons, List.not_mem_nil, or_false, not_or] at hb
      exact (hs2.2 b hb.1).trans (hk b o hb.1 hb.2 q)
    have new : ObjOk X.prog X.w (upd H s.heap.objs.size (.tup [.int i, x])) h2 s.heap.objs.size (.tup [.int i, x]) :=
      ⟨by show 2 ≤ sizeLine; decide, [.int i s.toks, u], .cons ⟨_, rfl⟩ (.cons ru .nil), ⟨_, hT2, rfl, _, rfl⟩⟩
    refine ⟨.ref s.heap.objs.size, _, I.turnedLaid (t' := s.toks + 1) hf k2 (Nat.le_refl _) new, rfl, ⟨_, x, rfl, hx, .mk' (I.hok.fresh (Nat.le_refl _))⟩, ⟨⟨u, by simpa using he2⟩, hi1.at fun o q => (hs2.2 it hei.symm).trans q⟩, fun b hb => ?_⟩
    have hbn := (hf b hb).1
    have hb' : b < s.heap.objs.size := by
      rcases List.mem_cons.mp hb with rfl | hb
      · exact Heap.lt_size he
      · rw [List.mem_singleton.mp hb]
        obtain ⟨o, q, _⟩ := hi
        exact Heap.lt_size q
    rw [upd_ne (Nat.ne_of_lt hb')]
    exact hbn
  done := by
    intro X hP hw hK hc i pins s σ H E I hf st hg
    subst hP hw hK
    obtain ⟨⟨old, he⟩, hi⟩ := st
    obtain ⟨hq, hle⟩ := hg
    obtain ⟨its, rv, p, hz⟩ := I.list hq
    have hl := rv.length
    refine wpAny_pyNext_enum_end (I.ok.hd hc) he hi p.isList (by simp; omega) fun h' eb => ⟨rfl, I.turnedN (t' := s.toks) (ch := [e, it]) hf fun b o hb q => eb b o (fun z => hb (by simp [z])) q⟩
  self := fun _ _ _ _ _ st h => by
    obtain ⟨⟨old, he⟩, _⟩ := st
    exact wpAny_pyIter_enum he h
theorem boot_enum : bootBuiltins "enumerate" = some (.type "enumerate") := by decide +kernel
def iEnum (K : PySem.W.Frag) (ta : TA) : TI := fun σ H R => ta σ H fun vs H1 => ∃ a xs, vs = [.ref a] ∧ SqL K H1 a xs ∧ R (Ite K a xs) H1
theorem pi_enum {X : Cx} {elts : List Expr} {x1} {tpos : Pos} {a : Expr} {ta : TA} {p pos : Pos} (hg : Gl X "enumerate") (hm : X.mg "enumerate" = none) (ha : PA X [a] ta) (hs : starEach [a] X.env = [(false, eval a X.env)] := by rfl) :
    PI X (.Tuple elts x1 tpos) (.Call (.Name "enumerate" p) [a] [] pos) (iEnum X.K ta) := by
  intro pins s σ H R I h
  refine Call_ (ld_blt I hg hm boot_enum (PyProof.Rows.callWith_type1 (thn (ha pos pins s σ H _ I h) fun us s1 ⟨vs, H1, I1, r1, q1⟩ => ?_) hs rfl))
  obtain ⟨l, xs, e, hq, q⟩ := q1
  subst e
  obtain ⟨u, rfl, r⟩ := vals1 r1
  cases r
  obtain ⟨its, rv, pl, hz⟩ := I1.list hq
  refine call_enumerate_list pl.isList fun h' he hi hsz hk => ?_
  have I2 : Inv X pins σ H1 { s1 with heap := h' } := I1.kept (t' := s1.toks) hk
  refine wpAny_pyIter_enum he ?_
  refine ⟨s1.heap.objs.size + 1, [s1.heap.objs.size + 1, s1.heap.objs.size], _, Ite X.K l xs, H1, rfl, I2, turn_enum l _ _ xs (Nat.succ_ne_self _), ⟨⟨.none, he⟩, hi⟩, fun b hb => ?_, q⟩
  have hb' : s1.heap.objs.size ≤ b := by
    rcases List.mem_cons.mp hb with rfl | hb
    · exact Nat.le_succ _
    · rw [List.mem_singleton.mp hb]
      exact Nat.le_refl _
  exact I1.fpOk hb' (I1.hok.fresh hb')
/-- the loop, by a word between turns; the list stays -/
theorem for_enum {K : PySem.W.Frag} {a : Addr} {xs : List V} {g : TG} {tb : TS} {D : Ends} {σ : St} {H : Hp} (Pv : Nat → St → Hp → Prop) (h0 : Pv 0 σ H) (hl : ∀ i σ H, i ≤ xs.length → Pv i σ H → SqL K H a xs)
    (hs : ∀ i x T σ H H', xs[i]? = some x → Pv i σ H → New H H' T (.tup [.int i, x]) → g (.ref T) σ H' fun σ2 H2 => tb { D with nx := Pv (i + 1), ct := Pv (i + 1), bk := D.nx } σ2 H2) (hd : ∀ σ H, Pv xs.length σ H → D.nx σ H) :
    ∃ W : Nat → Nat → St → Hp → Prop, (∃ m, W 0 m σ H) ∧ ∀ i m σ H, W i m σ H →
      ((Ite K a xs).stop i H ∧ D.nx σ H) ∨ ((Ite K a xs).go i H ∧ ∃ N : St → Hp → Prop, (∀ σ' H', N σ' H' → ∃ m', m' < m ∧ W (i + 1) m' σ' H') ∧ ∀ x H', (Ite K a xs).yld i H x H' → g x σ H' fun σ2 H2 => tb { D with nx := N, ct := N, bk := D.nx } σ2 H2) := by
  refine ⟨fun i m σ H => m = xs.length - i ∧ i ≤ xs.length ∧ Pv i σ H, ⟨xs.length, by simp, Nat.zero_le _, h0⟩, ?_⟩
  rintro i m σ H ⟨rfl, hi, p⟩
  have q := hl i σ H hi p
  by_cases hlt : i < xs.length
  · refine .inr ⟨⟨q, hlt⟩, Pv (i + 1), fun σ' H' p' => ⟨xs.length - (i + 1), by omega, rfl, hlt, p'⟩, fun x H' y => ?_⟩
    obtain ⟨T, v, rfl, hv, n⟩ := y
    exact hs i v T σ H H' hv p n
  · have e : i = xs.length := by omega
    subst e
    exact .inl ⟨⟨q, Nat.le_refl _⟩, hd σ H p⟩
section
variable {X : Cx} {a b : Expr} {ta : TA} {p pos : Pos}
def tRng2 (ta : TA) : TE := fun σ H Q => ta σ H fun vs H1 => ∃ i j : Int, vs = [.int i, .int j] ∧ ∀ r H', New H1 H' r (.rng i j) → Q (.ref r) H'
end
section
variable {prog : Program} {w : World} {A : Around} {E : Value → Shared → Prop} {s : Shared} {I l S : Addr} {items : Array Value}
end
section
variable {X : Cx}
def rSetA : V → V → V → Hp → (Hp → Prop) → Prop := fun o i v H Q => ∃ p xs k j, o = .ref p ∧ i = .int k ∧ H p = some (.lst xs) ∧ ixN xs.length k = some j ∧ ∀ H', Off p H H' → H' p = some (.lst (xs.set j v)) → Q H'
theorem set_listA : PSet X rSetA := by
  intro pins s σ H o i v ov iv u Q I ro ri rv h
  obtain ⟨p, xs, k, j, e1, e2, hp, hj, q⟩ := h
  exact set_list pins s σ H o i v ov iv u Q I ro ri rv ⟨p, xs, k, j, e1, e2, hp, hj, q _ Off.upd upd_same⟩
def rSlA (K : PySem.W.Frag) : V → Option Int → Option Int → Hp → VK → Prop := fun x lo hi H Q => ∃ a xs, x = .ref a ∧ SqL K H a xs ∧ ∀ p H', New H H' p (.lst (cutV xs lo hi)) → Q (.ref p) H'
theorem sl_listA : SlR X (rSlA X.K) := by
  intro pins s σ H x v vl vu lo hi sl Q I rx hs pl pu h
  obtain ⟨a, xs, e, hx, q⟩ := h
  exact sl_list pins s σ H x v vl vu lo hi sl Q I rx hs pl pu ⟨a, xs, e, hx, fun p hp => q p _ (.mk' hp)⟩
def rClearA : V → List V → Hp → VK → Prop := fun x vs H Q => ∃ l xs, x = .ref l ∧ vs = [] ∧ H l = some (.lst xs) ∧ ∀ H', Off l H H' → H' l = some (.lst []) → Q .non H'
def rLOfA (K : PySem.W.Frag) : List V → Hp → VK → Prop := fun xs H Q => ∃ p ys, xs = [.ref p] ∧ (SqL K H p ys ∨ SqT K H p ys) ∧ ∀ l H', New H H' l (.lst ys) → Q (.ref l) H'
end
end L2
set_option Elab.async false
set_option linter.all false
set_option maxRecDepth 100000
set_option maxHeartbeats 4000000
namespace L2
open PySem PySem.Spec PyProof.Rows
section
variable {σ : St} {H : Hp} {Q : VK} {v x y : V} {i j : Int} {K : PySem.W.Frag} {t ta tb tc : TE} {tr : TA} {s u : TS} {D : Ends} {c d : TT}
theorem wv0 {r : St} (h : Q v H) : tVar 0 (some v :: r) H Q := ⟨v, rfl, h⟩
theorem wn0 {o : Option V} {r : St} {R : St → Hp → Prop} (h : R (some v :: r) H) : gName 0 v (o :: r) H R := h
theorem wv1 {o0 : Option V} {r : St} (h : Q v H) : tVar 1 (o0 :: some v :: r) H Q := ⟨v, rfl, h⟩
theorem wn1 {o0 : Option V} {o : Option V} {r : St} {R : St → Hp → Prop} (h : R (o0 :: some v :: r) H) : gName 1 v (o0 :: o :: r) H R := h
theorem wv2 {o0 o1 : Option V} {r : St} (h : Q v H) : tVar 2 (o0 :: o1 :: some v :: r) H Q := ⟨v, rfl, h⟩
theorem wn2 {o0 o1 : Option V} {o : Option V} {r : St} {R : St → Hp → Prop} (h : R (o0 :: o1 :: some v :: r) H) : gName 2 v (o0 :: o1 :: o :: r) H R := h
theorem wv3 {o0 o1 o2 : Option V} {r : St} (h : Q v H) : tVar 3 (o0 :: o1 :: o2 :: some v :: r) H Q := ⟨v, rfl, h⟩
theorem wn3 {o0 o1 o2 : Option V} {o : Option V} {r : St} {R : St → Hp → Prop} (h : R (o0 :: o1 :: o2 :: some v :: r) H) : gName 3 v (o0 :: o1 :: o2 :: o :: r) H R := h
theorem wv4 {o0 o1 o2 o3 : Option V} {r : St} (h : Q v H) : tVar 4 (o0 :: o1 :: o2 :: o3 :: some v :: r) H Q := ⟨v, rfl, h⟩
theorem wn4 {o0 o1 o2 o3 : Option V} {o : Option V} {r : St} {R : St → Hp → Prop} (h : R (o0 :: o1 :: o2 :: o3 :: some v :: r) H) : gName 4 v (o0 :: o1 :: o2 :: o3 :: o :: r) H R := h
theorem wv5 {o0 o1 o2 o3 o4 : Option V} {r : St} (h : Q v H) : tVar 5 (o0 :: o1 :: o2 :: o3 :: o4 :: some v :: r) H Q := ⟨v, rfl, h⟩
theorem wn5 {o0 o1 o2 o3 o4 : Option V} {o : Option V} {r : St} {R : St → Hp → Prop} (h : R (o0 :: o1 :: o2 :: o3 :: o4 :: some v :: r) H) : gName 5 v (o0 :: o1 :: o2 :: o3 :: o4 :: o :: r) H R := h
theorem wv6 {o0 o1 o2 o3 o4 o5 : Option V} {r : St} (h : Q v H) : tVar 6 (o0 :: o1 :: o2 :: o3 :: o4 :: o5 :: some v :: r) H Q := ⟨v, rfl, h⟩
theorem wn6 {o0 o1 o2 o3 o4 o5 : Option V} {o : Option V} {r : St} {R : St → Hp → Prop} (h : R (o0 :: o1 :: o2 :: o3 :: o4 :: o5 :: some v :: r) H) : gName 6 v (o0 :: o1 :: o2 :: o3 :: o4 :: o5 :: o :: r) H R := h
theorem wv7 {o0 o1 o2 o3 o4 o5 o6 : Option V} {r : St} (h : Q v H) : tVar 7 (o0 :: o1 :: o2 :: o3 :: o4 :: o5 :: o6 :: some v :: r) H Q := ⟨v, rfl, h⟩
theorem wn7 {o0 o1 o2 o3 o4 o5 o6 : Option V} {o : Option V} {r : St} {R : St → Hp → Prop} (h : R (o0 :: o1 :: o2 :: o3 :: o4 :: o5 :: o6 :: some v :: r) H) : gName 7 v (o0 :: o1 :: o2 :: o3 :: o4 :: o5 :: o6 :: o :: r) H R := h
theorem wv8 {o0 o1 o2 o3 o4 o5 o6 o7 : Option V} {r : St} (h : Q v H) : tVar 8 (o0 :: o1 :: o2 :: o3 :: o4 :: o5 :: o6 :: o7 :: some v :: r) H Q := ⟨v, rfl, h⟩
theorem wn8 {o0 o1 o2 o3 o4 o5 o6 o7 : Option V} {o : Option V} {r : St} {R : St → Hp → Prop} (h : R (o0 :: o1 :: o2 :: o3 :: o4 :: o5 :: o6 :: o7 :: some v :: r) H) : gName 8 v (o0 :: o1 :: o2 :: o3 :: o4 :: o5 :: o6 :: o7 :: o :: r) H R := h
theorem wv9 {o0 o1 o2 o3 o4 o5 o6 o7 o8 : Option V} {r : St} (h : Q v H) : tVar 9 (o0 :: o1 :: o2 :: o3 :: o4 :: o5 :: o6 :: o7 :: o8 :: some v :: r) H Q := ⟨v, rfl, h⟩
theorem wn9 {o0 o1 o2 o3 o4 o5 o6 o7 o8 : Option V} {o : Option V} {r : St} {R : St → Hp → Prop} (h : R (o0 :: o1 :: o2 :: o3 :: o4 :: o5 :: o6 :: o7 :: o8 :: some v :: r) H) : gName 9 v (o0 :: o1 :: o2 :: o3 :: o4 :: o5 :: o6 :: o7 :: o8 :: o :: r) H R := h
theorem wv10 {o0 o1 o2 o3 o4 o5 o6 o7 o8 o9 : Option V} {r : St} (h : Q v H) : tVar 10 (o0 :: o1 :: o2 :: o3 :: o4 :: o5 :: o6 :: o7 :: o8 :: o9 :: some v :: r) H Q := ⟨v, rfl, h⟩
theorem wn10 {o0 o1 o2 o3 o4 o5 o6 o7 o8 o9 : Option V} {o : Option V} {r : St} {R : St → Hp → Prop} (h : R (o0 :: o1 :: o2 :: o3 :: o4 :: o5 :: o6 :: o7 :: o8 :: o9 :: some v :: r) H) : gName 10 v (o0 :: o1 :: o2 :: o3 :: o4 :: o5 :: o6 :: o7 :: o8 :: o9 :: o :: r) H R := h
theorem wv11 {o0 o1 o2 o3 o4 o5 o6 o7 o8 o9 o10 : Option V} {r : St} (h : Q v H) : tVar 11 (o0 :: o1 :: o2 :: o3 :: o4 :: o5 :: o6 :: o7 :: o8 :: o9 :: o10 :: some v :: r) H Q := ⟨v, rfl, h⟩
theorem wn11 {o0 o1 o2 o3 o4 o5 o6 o7 o8 o9 o10 : Option V} {o : Option V} {r : St} {R : St → Hp → Prop} (h : R (o0 :: o1 :: o2 :: o3 :: o4 :: o5 :: o6 :: o7 :: o8 :: o9 :: o10 :: some v :: r) H) : gName 11 v (o0 :: o1 :: o2 :: o3 :: o4 :: o5 :: o6 :: o7 :: o8 :: o9 :: o10 :: o :: r) H R := h
theorem wv12 {o0 o1 o2 o3 o4 o5 o6 o7 o8 o9 o10 o11 : Option V} {r : St} (h : Q v H) : tVar 12 (o0 :: o1 :: o2 :: o3 :: o4 :: o5 :: o6 :: o7 :: o8 :: o9 :: o10 :: o11 :: some v :: r) H Q := ⟨v, rfl, h⟩
theorem wn12 {o0 o1 o2 o3 o4 o5 o6 o7 o8 o9 o10 o11 : Option V} {o : Option V} {r : St} {R : St → Hp → Prop} (h : R (o0 :: o1 :: o2 :: o3 :: o4 :: o5 :: o6 :: o7 :: o8 :: o9 :: o10 :: o11 :: some v :: r) H) : gName 12 v (o0 :: o1 :: o2 :: o3 :: o4 :: o5 :: o6 :: o7 :: o8 :: o9 :: o10 :: o11 :: o :: r) H R := h
theorem wv13 {o0 o1 o2 o3 o4 o5 o6 o7 o8 o9 o10 o11 o12 : Option V} {r : St} (h : Q v H) : tVar 13 (o0 :: o1 :: o2 :: o3 :: o4 :: o5 :: o6 :: o7 :: o8 :: o9 :: o10 :: o11 :: o12 :: some v :: r) H Q := ⟨v, rfl, h⟩
theorem wn13 {o0 o1 o2 o3 o4 o5 o6 o7 o8 o9 o10 o11 o12 : Option V} {o : Option V} {r : St} {R : St → Hp → Prop} (h : R (o0 :: o1 :: o2 :: o3 :: o4 :: o5 :: o6 :: o7 :: o8 :: o9 :: o10 :: o11 :: o12 :: some v :: r) H) : gName 13 v (o0 :: o1 :: o2 :: o3 :: o4 :: o5 :: o6 :: o7 :: o8 :: o9 :: o10 :: o11 :: o12 :: o :: r) H R := h
theorem w_c (h : Q v H) : tC v σ H Q := h
theorem w_i0 {f : Int → Int → V} (h : Q (f i j) H) : rI0 f (.int i) (.int j) H Q := ⟨i, j, rfl, rfl, h⟩
theorem w_mod {f : Int → Int → V} (hj : 0 < j) (h : Q (f i j) H) : rI (fun _ j => 0 < j) f (.int i) (.int j) H Q := ⟨i, j, rfl, rfl, hj, h⟩
theorem w_div {f : Int → Int → V} (h0 : 0 < j) (h1 : j < 1073741824) (h : Q (f i j) H) : rI CDiv f (.int i) (.int j) H Q := ⟨i, j, rfl, rfl, ⟨h0, h1⟩, h⟩
theorem w_pow {f : Int → Int → V} (h0 : 0 ≤ j) (h1 : j ≤ 1000000) (h2 : i.natAbs < 2 ^ 64) (h : Q (f i j) H) : rI CPow f (.int i) (.int j) H Q := ⟨i, j, rfl, rfl, ⟨h0, h1, h2⟩, h⟩
theorem w_mulL {f : Int → Int → V} (h0 : -(2 ^ 64) < i) (h1 : i < 2 ^ 64) (h : Q (f i j) H) : rI CMul f (.int i) (.int j) H Q := ⟨i, j, rfl, rfl, .inl ⟨h0, h1⟩, h⟩
theorem w_mulR {f : Int → Int → V} (h0 : -(2 ^ 64) < j) (h1 : j < 2 ^ 64) (h : Q (f i j) H) : rI CMul f (.int i) (.int j) H Q := ⟨i, j, rfl, rfl, .inr ⟨h0, h1⟩, h⟩
theorem w_u {g : Int → V} (h : Q (g i) H) : rU g (.int i) H Q := ⟨i, rfl, h⟩
theorem w_un {r : V → Hp → VK → Prop} (h : ta σ H fun x H1 => r x H1 Q) : tUn r ta σ H Q := h
theorem w_eqi (h : Q (.bl (decide (i = j))) H) : rEq (.int i) (.int j) H Q := ⟨rfl, by rw [show decide (V.int i = V.int j) = decide (i = j) from decide_eq_decide.mpr ⟨fun e => by cases e; rfl, fun e => by rw [e]⟩]; exact h⟩
theorem w_nei (h : Q (.bl (!decide (i = j))) H) : rNe (.int i) (.int j) H Q := ⟨rfl, by rw [show decide (V.int i = V.int j) = decide (i = j) from decide_eq_decide.mpr ⟨fun e => by cases e; rfl, fun e => by rw [e]⟩]; exact h⟩
theorem w_eqs {a b : Str} (h : Q (.bl (decide (a = b))) H) : rEq (.str a) (.str b) H Q := ⟨rfl, by rw [show decide (V.str a = V.str b) = decide (a = b) from decide_eq_decide.mpr ⟨fun e => by cases e; rfl, fun e => by rw [e]⟩]; exact h⟩
theorem w_nes {a b : Str} (h : Q (.bl (!decide (a = b))) H) : rNe (.str a) (.str b) H Q := ⟨rfl, by rw [show decide (V.str a = V.str b) = decide (a = b) from decide_eq_decide.mpr ⟨fun e => by cases e; rfl, fun e => by rw [e]⟩]; exact h⟩
theorem w_eqb {a b : Bool} (h : Q (.bl (decide (a = b))) H) : rEq (.bl a) (.bl b) H Q := ⟨rfl, by rw [show decide (V.bl a = V.bl b) = decide (a = b) from decide_eq_decide.mpr ⟨fun e => by cases e; rfl, fun e => by rw [e]⟩]; exact h⟩
theorem w_neb {a b : Bool} (h : Q (.bl (!decide (a = b))) H) : rNe (.bl a) (.bl b) H Q := ⟨rfl, by rw [show decide (V.bl a = V.bl b) = decide (a = b) from decide_eq_decide.mpr ⟨fun e => by cases e; rfl, fun e => by rw [e]⟩]; exact h⟩
theorem w_bl {k : Bool} {R : Bool → Prop} (h : R k) : ∃ c, V.bl k = .bl c ∧ R c := ⟨k, rfl, h⟩
theorem w_not {R : Bool → Hp → Prop} (h : c σ H fun b H1 => R (!b) H1) : tNot c σ H R := h
theorem w_and {R : Bool → Hp → Prop} (h : c σ H fun b H1 => if b = true then d σ H1 R else R false H1) : tAnd c d σ H R := h
theorem w_or {R : Bool → Hp → Prop} (h : c σ H fun b H1 => if b = true then R true H1 else d σ H1 R) : tOr c d σ H R := h
theorem w_notV (h : ta σ H fun x H1 => ∃ c, x = .bl c ∧ Q (.bl (!c)) H1) : tNotV ta σ H Q := h
theorem w_andV (h : ta σ H fun x H1 => ∃ c, x = .bl c ∧ if c = true then tb σ H1 Q else Q (.bl false) H1) : tAndV ta tb σ H Q := h
theorem w_orV (h : ta σ H fun x H1 => ∃ c, x = .bl c ∧ if c = true then Q (.bl true) H1 else tb σ H1 Q) : tOrV ta tb σ H Q := h
theorem w_ifE (h : c σ H fun b H1 => if b = true then ta σ H1 Q else tb σ H1 Q) : tIf c ta tb σ H Q := h
theorem w_chain {r r' : R2} (h : ta σ H fun x H1 => tb σ H1 fun y H2 => r x y H2 fun z H3 => ∃ k, z = .bl k ∧ if k = true then tc σ H3 fun w H4 => r' y w H4 Q else Q (.bl false) H3) : tChain r r' ta tb tc σ H Q := h
theorem w_rt {nx bk ct : St → Hp → Prop} {rt : VK} (h : rt v H) : (Ends.mk nx rt bk ct).rt v H := h
theorem w_call {sp : Sp} {E : XK} (h : tr σ H fun vs H1 => sp vs H1 Q E) : tCall sp [] E tr σ H Q := by
  have e : (fun vs H1 => sp (vs ++ []) H1 Q E) = fun vs H1 => sp vs H1 Q E := by
    funext vs H1
    rw [List.append_nil]
  show tr σ H fun vs H1 => sp (vs ++ []) H1 Q E
  rw [e]
  exact h
theorem w_bm {T : String} {r : V → List V → Hp → VK → Prop} {to : TE} (h : to σ H fun x H1 => tyV K T x H1 ∧ tr σ H1 fun xs H2 => r x xs H2 Q) : tBM K T r to tr σ H Q := h
theorem w_bm0 {T : String} {r : V → List V → Hp → VK → Prop} {to : TE} (h : to σ H fun x H1 => tyV K T x H1 ∧ r x [] H1 Q) : tBM0 K T r to σ H Q := h
theorem w_sub {to ti : TE} {ts : TSet} {R : St → Hp → Prop} (h : to σ H fun o H1 => ti σ H1 fun i H2 => ts o i v H2 fun H3 => R σ H3) : gSub to ti ts v σ H R := h
theorem w_slice {r : V → Option Int → Option Int → Hp → VK → Prop} {tl th : TO} (h : t σ H fun x H1 => tl σ H1 fun l H2 => th σ H2 fun u H3 => r x l u H3 Q) : tSl r t tl th σ H Q := h
theorem w_noPart {R : Option Int → Hp → Prop} (h : R none H) : tNoPart σ H R := h
theorem w_part {R : Option Int → Hp → Prop} (h : t σ H fun x H1 => ∃ i, x = .int i ∧ R (some i) H1) : tPart t σ H R := h
theorem w_int {R : Int → Prop} (h : R i) : ∃ k, V.int i = .int k ∧ R k := ⟨i, rfl, h⟩
/-- indices, lengths, kinds -/
theorem w_ixL {p : Addr} {xs : List V} (h : SqL K H p xs) (e : atI xs i = some v) (k : Q v H) : rIxL K (.ref p) (.int i) H Q := ⟨p, xs, i, v, rfl, rfl, h, e, k⟩
theorem w_ixT {p : Addr} {xs : List V} (h : SqT K H p xs) (e : atI xs i = some v) (k : Q v H) : rIxT K (.ref p) (.int i) H Q := ⟨p, xs, i, v, rfl, rfl, h, e, k⟩
def rLen (K : PySem.W.Frag) : List V → Hp → VK → Prop := fun xs H Q => ∃ x n, xs = [x] ∧ LenV K x H n ∧ Q (.int n) H
theorem w_lenL {p : Addr} {xs : List V} (h : SqL K H p xs) (k : Q (.int xs.length) H) : rLen K [.ref p] H Q := ⟨_, xs.length, rfl, .inl ⟨xs, h, rfl⟩, k⟩
theorem w_lenT {p : Addr} {xs : List V} (h : SqT K H p xs) (k : Q (.int xs.length) H) : rLen K [.ref p] H Q := ⟨_, xs.length, rfl, .inr ⟨xs, h, rfl⟩, k⟩
theorem w_lenS {z : Str} (h : z.length ≤ sizeLine) (k : Q (.int z.length) H) : rLen K [.str z] H Q := ⟨_, z.length, rfl, ⟨h, rfl⟩, k⟩
def rMax2 : List V → Hp → VK → Prop := fun xs H Q => ∃ i j, xs = [.int i, .int j] ∧ Q (.int (if j > i then j else i)) H
def rMin2 : List V → Hp → VK → Prop := fun xs H Q => ∃ i j, xs = [.int i, .int j] ∧ Q (.int (if j < i then j else i)) H
theorem w_max (h : Q (.int (max i j)) H) : rMax2 [.int i, .int j] H Q := ⟨i, j, rfl, by
  rw [show (if j > i then j else i) = max i j by rw [Int.max_def]; split <;> split <;> omega]
  exact h⟩
theorem w_min (h : Q (.int (min i j)) H) : rMin2 [.int i, .int j] H Q := ⟨i, j, rfl, by
  rw [show (if j < i then j else i) = min i j by rw [Int.min_def]; split <;> split <;> omega]
  exact h⟩
def rInt1 : List V → Hp → VK → Prop := fun xs H Q => (∃ i, xs = [.int i] ∧ Q (.int i) H) ∨ ∃ k, xs = [.bl k] ∧ Q (.int (if k then 1 else 0)) H
theorem w_intI (h : Q (.int i) H) : rInt1 [.int i] H Q := .inl ⟨i, rfl, h⟩
theorem w_intB {k : Bool} (h : Q (.int (if k then 1 else 0)) H) : rInt1 [.bl k] H Q := .inr ⟨k, rfl, h⟩
theorem w_is {x d : V} {tv : Value} {b : Bool} (ty : TyOf K H x tv) (e : clsIs K tv d = some b) (h : Q (.bl b) H) : rIsT K [x, d] H Q := ⟨x, d, tv, b, rfl, ty, e, h⟩
def rIsN : R2 := fun x y H Q => y = .non ∧ Q (.bl (decide (x = .non))) H
def rNotN : R2 := fun x y H Q => y = .non ∧ Q (.bl (!decide (x = .non))) H
end
section
variable {X : Cx}
theorem call_lenN : CallR X (.builtin "len") (rLen X.K) := call_len
theorem call_maxN (hc : X.calm = true) : CallR X (.builtin "max") rMax2 := call_max2 hc
theorem call_minN (hc : X.calm = true) : CallR X (.builtin "min") rMin2 := call_min2 hc
theorem op_notNN : OpR X (compareOp .IsNot) rNotN := op_notN
end
section
variable {A B p : Prop} [Decidable p] {b : Bool}
theorem i_dec (h1 : p → A) (h2 : ¬ p → B) : if decide p = true then A else B := by
  by_cases h : p
  · rw [if_pos (decide_eq_true h)]; exact h1 h
  · rw [if_neg (by simpa using h)]; exact h2 h
theorem i_b (h1 : b = true → A) (h2 : b = false → B) : if b = true then A else B := by
  cases b with
  | true => exact iteT (h1 rfl)
  | false => exact iteF (h2 rfl)
theorem i_T (h : b = true) (k : A) : if b = true then A else B := by rw [if_pos h]; exact k
theorem i_F (h : b = false) (k : B) : if b = true then A else B := by rw [if_neg (by rw [h]; exact Bool.false_ne_true)]; exact k
theorem i_pos (h : p) (k : A) : if decide p = true then A else B := by rw [if_pos (decide_eq_true h)]; exact k
theorem i_neg (h : ¬ p) (k : B) : if decide p = true then A else B := by rw [if_neg (by simpa using h)]; exact k
theorem i_npos (h : p) (k : B) : if (!decide p) = true then A else B := by rw [if_neg (by simpa using h)]; exact k
theorem i_nneg (h : ¬ p) (k : A) : if (!decide p) = true then A else B := by rw [if_pos (by simpa using h)]; exact k
end
section
variable {H H0 H1 H2 H' : Hp} {p q a : Addr} {o u : HO} {xs ys : List V}
theorem Same.off (s : Same H0 H) (f : Off p H H') (n : ∀ b u, H0 b = some u → b ≠ p) : Same H0 H' := fun b u e => by
  rw [f b (n b u e)]
  exact s b u e
theorem New.trans (n1 : New H H1 p o) (n2 : New H1 H2 q u) : New H H2 q u := ⟨n1.s.trans n2.s, n2.e, fun a v e => n2.n a v (n1.s a v e)⟩
theorem New.after (s : Same H H1) (n : New H1 H2 q u) : New H H2 q u := ⟨s.trans n.s, n.e, fun a v e => n.n a v (s a v e)⟩
/-- the refs ys stand for tuples of these rows -/
def TupsAt (H : Hp) (ys : List V) (rows : List (List V)) : Prop := ys.length = rows.length ∧ ∀ (j : Nat) (r : List V), rows[j]? = some r → ∃ q, ys[j]? = some (.ref q) ∧ H q = some (.tup r)
theorem TupsAt.same {rows : List (List V)} (s : Same H H') (h : TupsAt H ys rows) : TupsAt H' ys rows := ⟨h.1, fun j r e => let ⟨q, a, b⟩ := h.2 j r e; ⟨q, a, s _ _ b⟩⟩
theorem TupsAt.off {rows : List (List V)} (h : TupsAt H ys rows) (f : Off p H H') (hl : H p = some (.lst xs)) : TupsAt H' ys rows := ⟨h.1, fun j r e => by
  obtain ⟨q, a, b⟩ := h.2 j r e
  have ne : q ≠ p := ne_of b hl (fun z => by cases z)
  exact ⟨q, a, by rw [f q ne]; exact b⟩⟩
theorem TupsAt.nil : TupsAt H [] [] := ⟨rfl, fun j r e => by simp at e⟩
theorem TupsAt.reverse {rows : List (List V)} (h : TupsAt H ys rows) : TupsAt H ys.reverse rows.reverse := by
  refine ⟨by rw [List.length_reverse, List.length_reverse, h.1], fun j r e => ?_⟩
  have hj : j < rows.length := by
    have := (List.getElem?_eq_some_iff.mp e).1
    rwa [List.length_reverse] at this
  rw [List.getElem?_reverse hj] at e
  obtain ⟨q, a, b⟩ := h.2 _ r e
  exact ⟨q, by rw [List.getElem?_reverse (by rw [h.1]; exact hj), h.1]; exact a, b⟩
end
section
variable {σ : St} {H : Hp} {Q : VK} {K : PySem.W.Frag} {tr : TA} {D : Ends} {i j : Int} {g : TG} {tb : TS} {a b : V} {p : Addr}
theorem w_tup2 {i0 i1 : Nat} {R : St → Hp → Prop} (hp : SqT K H p [a, b]) (h : gName i0 a σ H fun σ1 H1 => gName i1 b σ1 H1 R) : gTup K 2 (gCons (gName i0) (gCons (gName i1) gNil)) (.ref p) σ H R :=
  ⟨p, _, rfl, hp, rfl, _, _, rfl, _, _, rfl, rfl, h⟩
theorem w_rng2 (h : tr σ H fun vs H1 => ∃ i j : Int, vs = [.int i, .int j] ∧ ∀ r H', New H1 H' r (.rng i j) → Q (.ref r) H') : tRng2 tr σ H Q := h
end
def rEqD (K : PySem.W.Frag) : R2 := fun x y H Q => ∃ d d', Rep K H d x ∧ Rep K H d' y ∧ depD d ≤ 100 ∧ Q (.bl (eqDt d d')) H
def rNeD (K : PySem.W.Frag) : R2 := fun x y H Q => ∃ d d', Rep K H d x ∧ Rep K H d' y ∧ depD d ≤ 100 ∧ Q (.bl (!eqDt d d')) H
theorem op_eq_dN {X : Cx} {k : Nat} (hr : Room k X.A) : OpR X (compareOp .Eq) (rEqD X.K) := op_eq_d hr
theorem op_ne_dN {X : Cx} {k : Nat} (hr : Room k X.A) : OpR X (compareOp .NotEq) (rNeD X.K) := op_ne_d hr
theorem reps_ints {K : PySem.W.Frag} {H : Hp} : ∀ ns : List Int, Reps K H (ns.map Dt.int) (ns.map V.int)
  | [] => by simp [Reps]
  | n :: ns => by
    simp only [List.map_cons, Reps]
    exact ⟨_, _, rfl, by simp [Rep], reps_ints ns⟩
theorem depDs_ints : ∀ ns : List Int, depDs (ns.map Dt.int) = 0
  | [] => rfl
  | n :: ns => by simp [depDs, depD, depDs_ints ns]
theorem rep_ints {K : PySem.W.Frag} {H : Hp} {p : Addr} {ns : List Int} (h : SqL K H p (ns.map V.int)) : Rep K H (.lst (ns.map Dt.int)) (.ref p) := by
  simp only [Rep]
  exact ⟨p, _, rfl, h, reps_ints ns⟩
theorem dep_ints (ns : List Int) : depD (.lst (ns.map Dt.int)) ≤ 100 := by simp only [depD, depDs_ints]; decide
/-- two lists, two tuples of ints -/
theorem w_eqL {K : PySem.W.Frag} {H : Hp} {Q : VK} {p q : Addr} {ns ms : List Int} (h1 : SqL K H p (ns.map V.int)) (h2 : SqL K H q (ms.map V.int)) (k : Q (.bl (eqDt (.lst (ns.map Dt.int)) (.lst (ms.map Dt.int)))) H) : rEqD K (.ref p) (.ref q) H Q :=
  ⟨_, _, rep_ints h1, rep_ints h2, dep_ints ns, k⟩
end L2
set_option Elab.async false
set_option linter.all false
set_option maxRecDepth 100000
set_option maxHeartbeats 4000000
namespace L2
open PySem PySem.Spec PyProof.Rows PySem.SeqAt
section
variable {X : Cx} {a : Expr} {ta : TE} {pos : Pos}
def tNotT (K : PySem.W.Frag) (ta : TE) : TE := fun σ H Q => ta σ H fun x H1 => ∃ k, TruV K x H1 k ∧ Q (.bl (!k)) H1
theorem w_notT {σ : St} {H : Hp} {Q : VK} {K : PySem.W.Frag} (h : ta σ H fun x H1 => ∃ k, TruV K x H1 k ∧ Q (.bl (!k)) H1) : tNotT K ta σ H Q := h
def rIsB : R2 := fun x y H Q => ∃ a b, x = .bl a ∧ y = .bl b ∧ Q (.bl (decide (a = b))) H
def rIsNB : R2 := fun x y H Q => ∃ a b, x = .bl a ∧ y = .bl b ∧ Q (.bl (!decide (a = b))) H
theorem w_isB {H : Hp} {Q : VK} {a b : Bool} (h : Q (.bl (decide (a = b))) H) : rIsB (.bl a) (.bl b) H Q := ⟨a, b, rfl, rfl, h⟩
theorem w_isNB {H : Hp} {Q : VK} {a b : Bool} (h : Q (.bl (!decide (a = b))) H) : rIsNB (.bl a) (.bl b) H Q := ⟨a, b, rfl, rfl, h⟩
def idV : V → Bool
  | .non => true
  | .bl _ => true
  | .int _ => true
  | .str _ => true
  | .ref _ => true
  | _ => false
theorem same_eqAt {A : Around} {s : Shared} {x : V} {u v : Value} (f : idV x = true) (ru : RelV x u) (rv : RelV x v) : EqAt A s u v true := by
  cases x with
  | non => cases ru; cases rv; exact EqAt.same _
  | bl b => cases ru; cases rv; exact EqAt.same _
  | ref b => cases ru; cases rv; exact EqAt.same _
  | int i =>
    obtain ⟨t, rfl⟩ := ru
    obtain ⟨t', rfl⟩ := rv
    have := EqAt.int_int (A := A) (s := s) i t i t'
    rwa [beq_self_eq_true] at this
  | str z =>
    obtain ⟨t, rfl⟩ := ru
    obtain ⟨t', rfl⟩ := rv
    have := EqAt.str_str (A := A) (s := s) z t z t'
    rwa [beq_self_eq_true] at this
  | _ => exact absurd (show false = true from f) Bool.false_ne_true
end
section
variable {σ : St} {H : Hp} {Q : VK} {D : Ends} {td ty tv : TE} {p : Addr} {kvs : List (Key × V)} {i : Int} {v : V}
theorem w_dnew (h : ∀ p H', New H H' p (.dK []) → Q (.ref p) H') : tDNewK σ H Q := fun p hp => h p _ (.mk' hp)
theorem w_din (h : ty σ H fun y H1 => td σ H1 fun x H2 => ∃ a o, x = .ref a ∧ DGet H2 a y o ∧ Q (.bl o.isSome) H2) : tDIn ty td σ H Q := h
theorem w_dput (h : tv σ H fun v H1 => td σ H1 fun x H2 => ty σ H2 fun y H3 => ∃ a H4, x = .ref a ∧ DPut H3 a y v H4 ∧ D.nx σ H4) : sDPut td ty tv D σ H := h
end
def tRevSl (K : PySem.W.Frag) (te ts : TE) : TE := fun σ H Q => te σ H fun x H1 => ts σ H1 fun y H2 => ∃ a xs, x = .ref a ∧ y = .int (-1) ∧ SqL K H2 a xs ∧ ∀ p H', New H2 H' p (.lst xs.reverse) → Q (.ref p) H'
theorem w_revSl {σ : St} {H : Hp} {Q : VK} {K : PySem.W.Frag} {te ts : TE} (h : te σ H fun x H1 => ts σ H1 fun y H2 => ∃ a xs, x = .ref a ∧ y = .int (-1) ∧ SqL K H2 a xs ∧ ∀ p H', New H2 H' p (.lst xs.reverse) → Q (.ref p) H') : tRevSl K te ts σ H Q := h
section
variable {α β : Type} {F G : α → β → Prop}
end
/-- all but what stands at b is as it was -/
def Kp (b : Addr) (H H' : Hp) : Prop := ∀ x u, x ≠ b → H x = some u → H' x = some u
section
variable {b p : Addr} {H H1 H2 : Hp} {o : HO}
theorem Kp.refl : Kp b H H := fun _ _ _ h => h
theorem Kp.trans (a : Kp b H H1) (c : Kp b H1 H2) : Kp b H H2 := fun x u n h => c x u n (a x u n h)
theorem Same.kp (s : Same H H1) : Kp b H H1 := fun x u _ h => s x u h
theorem Off.kp (f : Off b H H1) : Kp b H H1 := fun x u n h => by rw [f x n]; exact h
theorem Kp.same {H0 : Hp} (s : Same H0 H) (k : Kp b H H1) (n : ∀ x u, H0 x = some u → x ≠ b) : Same H0 H1 := fun x u e => k x u (n x u e) (s x u e)
end
section
variable {X : Cx} {K : PySem.W.Frag}
end
def ForL (K : PySem.W.Frag) (a : Addr) (g : TG) (tb : TS) (D : Ends) (σ : St) (H : Hp) : Prop := ∃ W : Nat → Nat → St → Hp → Prop, (∃ m, W 0 m σ H) ∧ ∀ i m σ H, W i m σ H →
  ((Itl K a).stop i H ∧ D.nx σ H) ∨ ((Itl K a).go i H ∧ ∃ N : St → Hp → Prop, (∀ σ' H', N σ' H' → ∃ m', m' < m ∧ W (i + 1) m' σ' H') ∧ ∀ x H', (Itl K a).yld i H x H' → g x σ H' fun σ2 H2 => tb { D with nx := N, ct := N, bk := D.nx } σ2 H2)
theorem w_forL {K : PySem.W.Frag} {te : TE} {g : TG} {tb : TS} {D : Ends} {σ : St} {H : Hp} (h : te σ H fun x H1 => ∃ a, x = .ref a ∧ (∃ xs, SqL K H1 a xs) ∧ ForL K a g tb D σ H1) : tFor (iList K te) g tb D σ H := h
theorem forL_by {K : PySem.W.Frag} {a : Addr} {xs : List V} {g : TG} {tb : TS} {D : Ends} {σ : St} {H : Hp} (Pv : Nat → St → Hp → Prop) (h0 : Pv 0 σ H) (hl : ∀ i σ H, i ≤ xs.length → Pv i σ H → SqL K H a xs)
    (hs : ∀ i x σ H, xs[i]? = some x → Pv i σ H → g x σ H fun σ2 H2 => tb { D with nx := Pv (i + 1), ct := Pv (i + 1), bk := D.nx } σ2 H2) (hd : ∀ σ H, Pv xs.length σ H → D.nx σ H) : ForL K a g tb D σ H := for_list Pv h0 hl hs hd
def CompAll (J : It) (nt : Nat) (fr : List Nat) (g : TG) (c : TT) (te : TE) (σ : St) (H1 : Hp) (Q : VK) : Prop := ∀ acc, H1 acc = none → CompGoal J nt fr g c te σ H1 Q acc
theorem w_compL {K : PySem.W.Frag} {t0 te : TE} {nt : Nat} {fr : List Nat} {g : TG} {c : TT} {σ : St} {H : Hp} {Q : VK} (h : t0 σ H fun x H1 => ∃ a, x = .ref a ∧ (∃ xs, SqL K H1 a xs) ∧ CompAll (Itl K a) nt fr g c te σ H1 Q) : tComp (iList K t0) nt fr g c te σ H Q := h
end L2
set_option Elab.async false
set_option linter.all false
set_option maxRecDepth 100000
set_option maxHeartbeats 4000000
namespace L2
open PySem PySem.Spec PyProof.Rows PySem.SeqAt
def tMethx (C : Addr) (m : Str) (EX : St → XK) (sp : Sp) (ta : TE) (t : TA) : TE := fun σ H Q => ta σ H fun x H1 => ∃ a dx fs, x = .ref a ∧ H1 a = some (.ins C dx fs) ∧ fs.lookup m = none ∧ t σ H1 fun vs H2 => sp (x :: vs) H2 Q (EX σ)
section
variable {X : Cx} {pins : List (Addr × Obj)} {EX : St → XK} {k m : Nat} {x : Str} {ps : List Str} {sp : Sp} {p pos apos : Pos} {e o : Expr} {es : List Expr} {t : TA} {ta : TE} {f C : Addr} {fd : FuncData} {nm : Str}
/-- a callee runs in a try's block: what it raises is what the block hands on -/
theorem runx {pins' : List (Addr × Obj)} {σ : St} {H : Hp} {s : Shared} {Q : VK} {us : List Value} {vs : List V} (F : FnOk X.prog X.w X.K X.mg X.base (CX1 X.prog X.w) k f fd ps sp) (hr : Room k X.A) (hb : Binds X.K fd ps []) (I : Inv (X.tr pins EX) pins' σ H s) (r : Vals vs us)
    (h : sp vs H Q (EX σ)) : wpAny (model X.prog X.w) X.A (call (.ref f) us) (EP (X.tr pins EX) pins' σ Q) (X.tr pins EX).xe s := by
  have hl : (us ++ []).length = ps.length := by rw [List.append_nil, ← r.length]; exact F.len _ _ _ _ h
  have b := hb s us I.kIn hl
  rw [List.append_nil] at b
  refine wpAny_call (codeAny_mono (F.run X.A X.stack s H ⟨us, []⟩ us vs Q (EX σ) hr I.env0 b r h) ?_)
  rintro (e | fl) s' hq
  · exact ⟨pins', σ, H, s, I.unwish, hq⟩
  · cases fl <;> first | exact I.after hq | exact False.elim hq
theorem pe_methx {pl : Sem Bool} (he : PE (X.tr pins EX) o ta) (c : Cls X.K C) (hm : Meth X.K C nm f) (F : FnOk X.prog X.w X.K X.mg X.base (CX1 X.prog X.w) k f fd ps sp) (hr : Room m X.A) (hb : Binds X.K fd ps []) (ha : PA (X.tr pins EX) (e :: es) t) (hk : k ≤ m := by decide)
    (hst : starEach (e :: es) X.env = (false, eval e X.env) :: starEach es X.env := by rfl) (hpl : (backTo pos (starEach es X.env)).any (·.1) = false := by rfl)
    (ht : eval (.Call (.Attribute o nm apos) (e :: es) [] pos) X.env = (do
      let ov ← eval o X.env
      standAt apos.atName
      let (f, first) ← holding [ov] (getMethod ov nm pl)
      callWith pos f first (backTo pos (starEach (e :: es) X.env)) (backToKw pos (keywordEach [] X.env))) := by rfl) :
    PE (X.tr pins EX) (.Call (.Attribute o nm apos) (e :: es) [] pos) (tMethx C nm EX sp ta t) := by
  intro pins' s σ H Q I h
  refine PySem.W.methodCall_KW (pl := pl) (thn (he pins' s σ H _ I h) ?_) ht
  rintro u s1 ⟨x, H1, I1, rx, a, dx, fs, rfl, ea, l, q⟩
  obtain rfl : u = Value.ref a := rx
  refine getmeth_ok I1 ea c hm l (PySem.W.callWith_K (first := [.ref a]) (h₀ := X.base) I.ok.mod.kin hm.kp (thn (ha pos pins' s1 σ H1 _ I1 q) ?_) hst hpl)
  rintro us s2 ⟨vs, H2, I2, r, q2⟩
  exact ⟨I2.kIn, runx (us := .ref a :: us) (vs := .ref a :: vs) F (hr.mono hk) hb I2 (.cons rfl r) q2⟩
end
end L2
set_option Elab.async false
set_option linter.all false
set_option maxRecDepth 100000
set_option maxHeartbeats 4000000
namespace L2
open PySem PySem.Spec PyProof.Rows PySem.SeqAt
section
variable {P : Program} {w : World} {K : PySem.W.Frag} {mg : Str → Option Value} {base : Heap} {CX : CXT} {k : Nat} {x nm qual : Str} {ps : List Str} {sp : Sp} {C : Addr}
structure Met (P : Program) (w : World) (K : PySem.W.Frag) (mg : Str → Option Value) (base : Heap) (CX : CXT) (k : Nat) (C : Addr) (nm : Str) (ps : List Str) (sp : Sp) : Prop where
  ex : ∃ (f : Addr) (fd : FuncData), FnOk P w K mg base CX k f fd ps sp ∧ Meth K C nm f ∧ Binds K fd ps []
structure Mak (P : Program) (w : World) (K : PySem.W.Frag) (mg : Str → Option Value) (base : Heap) (CX : CXT) (k : Nat) (x : Str) (C : Addr) (ps : List Str) (sp : Sp) : Prop where
  ex : ∃ (f : Addr) (fd : FuncData), FnOk P w K mg base CX k f fd ps sp ∧ Mk K C f ∧ mg x = some (.ref C) ∧ Binds K fd ps []
/-- a function of the text at an address -/
def FnAt (K : PySem.W.Frag) (nm qual : Str) (st : Stmt) (f : Addr) : Prop := ∃ fd : FuncData, Fun K nm qual st f fd
/-- what is told of a function, whichever way it is reached -/
structure FnTells (P : Program) (w : World) (K : PySem.W.Frag) (mg : Str → Option Value) (base : Heap) (CX : CXT) (k : Nat) (f : Addr) (ps : List Str) (sp : Sp) : Prop where
  ex : ∃ fd : FuncData, FnOk P w K mg base CX k f fd ps sp ∧ Binds K fd ps []
theorem FnTells.met {f : Addr} (t : FnTells P w K mg base CX k f ps sp) (m : Meth K C nm f) : Met P w K mg base CX k C nm ps sp := let ⟨fd, F, b⟩ := t.ex; ⟨f, fd, F, m, b⟩
theorem FnTells.mak {f : Addr} (t : FnTells P w K mg base CX k f ps sp) (m : Mk K C f) (g : mg x = some (.ref C)) : Mak P w K mg base CX k x C ps sp := let ⟨fd, F, b⟩ := t.ex; ⟨f, fd, F, m, g, b⟩
variable {st : Stmt} {N : List Str} {f : Addr}
theorem fn_tells (h : FnAt K nm qual st f) (S : FnScope N ps (defScope st)) (len : ∀ vs H Q E, sp vs H Q E → vs.length = ps.length)
    (hb : ∀ (kV doc pm : Value) (an : Option Addr) (cdv ct : Value) (us : List Value), us.length = ps.length → bindArgs (PySem.W.fnOf nm qual (defArgs st) (defBody st) (defScope st) .none kV doc pm an cdv ct) ⟨us, []⟩ = pure (ps.zip us))
    (hbody : ∀ (f : Addr) (cdv : Value) (A : Around) (outer : List Env) (s : Shared) (H : Hp) (vs : List V) (Q : VK) (E : XK), Room k (A.deeper (envOfC qual (defScope st) s.heap.objs.size f cdv)) → sp vs H Q E →
      ∃ t, PSs (cxOf CX P w K mg base N qual (defScope st) f cdv A outer s H E).nox (defBody st) t ∧ t { nx := fun _ H' => Q .non H', rt := Q } (start N vs) H) : FnTells P w K mg base CX (k + 1) f ps sp := by
  obtain ⟨fd, F⟩ := h
  refine ⟨fd, ?_, F.binds hb⟩
  obtain ⟨oc, od, kV, doc, pm, an, cdv, ct, osl, rfl, lk, hcd⟩ := F.ex
  refine fn_of lk hcd S len fun A outer s H vs Q E hr hsp => ?_
  obtain ⟨t, h, q⟩ := hbody f cdv A outer s H vs Q E hr hsp
  exact ⟨t, h.nox, q⟩
theorem fn_tellsX (h : FnAt K nm qual st f) (S : FnScope N ps (defScope st)) (len : ∀ vs H Q E, sp vs H Q E → vs.length = ps.length)
    (hb : ∀ (kV doc pm : Value) (an : Option Addr) (cdv ct : Value) (us : List Value), us.length = ps.length → bindArgs (PySem.W.fnOf nm qual (defArgs st) (defBody st) (defScope st) .none kV doc pm an cdv ct) ⟨us, []⟩ = pure (ps.zip us))
    (hbody : ∀ (f : Addr) (cdv : Value) (A : Around) (outer : List Env) (s : Shared) (H : Hp) (vs : List V) (Q : VK) (E : XK), Room k (A.deeper (envOfC qual (defScope st) s.heap.objs.size f cdv)) → sp vs H Q E →
      ∃ t, PSs (cxOf (CX1 P w) P w K mg base N qual (defScope st) f cdv A outer s H E) (defBody st) t ∧ t { nx := fun _ H' => Q .non H', rt := Q } (start N vs) H) : FnTells P w K mg base (CX1 P w) (k + 1) f ps sp := by
  obtain ⟨fd, F⟩ := h
  refine ⟨fd, ?_, F.binds hb⟩
  obtain ⟨oc, od, kV, doc, pm, an, cdv, ct, osl, rfl, lk, hcd⟩ := F.ex
  exact fn_of lk hcd S len fun A outer s H vs Q E hr hsp => hbody f cdv A outer s H vs Q E hr hsp
end
section
variable {X : Cx} {CX : CXT} {k m : Nat} {x nm : Str} {ps : List Str} {sp : Sp} {E : XK} {p pos apos : Pos} {e o : Expr} {es : List Expr} {t : TA} {ta : TE} {C : Addr} {pins : List (Addr × Obj)} {EX : St → XK}
/-- o.m(e, ..) -/
theorem pe_met {pl : Sem Bool} (he : PE X o ta) (c : Cls X.K C) (D : Met X.prog X.w X.K X.mg X.base CX k C nm ps sp) (hr : Room m X.A) (ha : PA X (e :: es) t) (hk : k ≤ m := by decide) (hx : Passes CX X E := by exact pass0)
    (hst : starEach (e :: es) X.env = (false, eval e X.env) :: starEach es X.env := by rfl) (hpl : (backTo pos (starEach es X.env)).any (·.1) = false := by rfl)
    (ht : eval (.Call (.Attribute o nm apos) (e :: es) [] pos) X.env = (do
      let ov ← eval o X.env
      standAt apos.atName
      let (f, first) ← holding [ov] (getMethod ov nm pl)
      callWith pos f first (backTo pos (starEach (e :: es) X.env)) (backToKw pos (keywordEach [] X.env))) := by rfl) :
    PE X (.Call (.Attribute o nm apos) (e :: es) [] pos) (tMeth C nm sp [] E ta t) := by
  obtain ⟨f, fd, F, mt, b⟩ := D.ex
  exact pe_meth (pl := pl) he c mt F (hr.mono hk) b .nil hx ha hst hpl ht
/-- o.m() -/
theorem pe_met0 {pl : Sem Bool} (he : PE X o ta) (c : Cls X.K C) (D : Met X.prog X.w X.K X.mg X.base CX k C nm ps sp) (hr : Room m X.A) (hk : k ≤ m := by decide) (hx : Passes CX X E := by exact pass0)
    (ht : eval (.Call (.Attribute o nm apos) [] [] pos) X.env = (do
      let ov ← eval o X.env
      standAt apos.atName
      let (f, first) ← holding [ov] (getMethod ov nm pl)
      callWith pos f first (backTo pos (starEach [] X.env)) (backToKw pos (keywordEach [] X.env))) := by rfl) :
    PE X (.Call (.Attribute o nm apos) [] [] pos) (tMeth C nm sp [] E ta tNil) := by
  obtain ⟨f, fd, F, mt, b⟩ := D.ex
  exact pe_meth0 (pl := pl) he c mt F (hr.mono hk) b .nil hx ht
end
end L2
set_option Elab.async false
set_option linter.all false
set_option maxRecDepth 100000
namespace L2
open PySem PySem.Spec PyProof.Rows
/-- from 0 on, below 2 ^ k -/
def Bd (k : Nat) (x : Int) : Prop := 0 ≤ x ∧ x < 2 ^ k
theorem p2_mono {a b : Nat} (h : a ≤ b) : (2 : Int) ^ a ≤ 2 ^ b := by
  have h : (2 : Nat) ^ a ≤ 2 ^ b := Nat.pow_le_pow_right (by decide) h
  exact_mod_cast h
theorem p2_pos (k : Nat) : (0 : Int) < 2 ^ k := by
  have : (0 : Nat) < 2 ^ k := Nat.pow_pos (by decide)
  exact_mod_cast this
theorem Bd.mono {a b : Nat} {x : Int} (h : a ≤ b) (hx : Bd a x) : Bd b x := ⟨hx.1, Int.lt_of_lt_of_le hx.2 (p2_mono h)⟩
theorem Bd.mul {a b : Nat} {x y : Int} (hx : Bd a x) (hy : Bd b y) : Bd (a + b) (x * y) := by
  refine ⟨Int.mul_nonneg hx.1 hy.1, ?_⟩
  rw [Int.pow_add]
  exact Int.lt_of_le_of_lt (Int.mul_le_mul_of_nonneg_left (Int.le_of_lt hy.2) hx.1) (Int.mul_lt_mul_of_pos_right hx.2 (p2_pos b))
theorem Bd.abs {k : Nat} {x : Int} (h : Bd k x) : x.natAbs < 2 ^ k := by
  have h1 := h.1
  have h2 := h.2
  have e : ((x.natAbs : Nat) : Int) < ((2 ^ k : Nat) : Int) := by
    rw [Int.natAbs_of_nonneg h1]
    exact_mod_cast h2
  exact_mod_cast e
theorem Bd.le {k : Nat} {x y : Int} (h : Bd k x) (h0 : 0 ≤ y) (hy : y ≤ x) : Bd k y := ⟨h0, Int.lt_of_le_of_lt hy h.2⟩
section
variable {X : Cx}
end
section
variable {i j : Int} {H : Hp} {Q : VK}
end
end L2
set_option Elab.async false
set_option linter.all false
set_option maxRecDepth 100000
namespace L2
open PySem PySem.Spec PyProof.Rows
abbrev numS (i : Int) : Str := Str.ofString (toString i)
def rAddS : R2 := fun x y H Q => ∃ i j, x = .str i ∧ y = .str j ∧ i.length + j.length ≤ sizeLine ∧ Q (.str (i ++ j)) H
def rStrI : List V → Hp → VK → Prop := fun xs H Q => ∃ i, xs = [.int i] ∧ i.natAbs.log2 < 1920 ∧ Q (.str (numS i)) H
def rJoin (K : PySem.W.Frag) : V → List V → Hp → VK → Prop := fun x xs H Q => ∃ sep p ts, x = .str sep ∧ xs = [.ref p] ∧ SqL K H p (ts.map V.str) ∧ sep.length ≤ 16 ∧ (ts.map (fun t => t.length)).sum + ts.length ≤ 1048576 ∧ Q (.str (sep.join ts)) H
def tFmt (t : TE) : TE := fun σ H Q => t σ H fun x H1 => (∃ y, x = .str y ∧ y.length ≤ sizeLine ∧ Q (.str y) H1) ∨ ∃ i, x = .int i ∧ i.natAbs.log2 < 1920 ∧ Q (.str (numS i)) H1
def tFs : List TE → Str → TE
  | [], out => fun _ H Q => out.length ≤ sizeLine ∧ Q (.str out) H
  | t :: ts, out => fun σ H Q => t σ H fun x H1 => ∃ y, x = .str y ∧ (out ++ y).length ≤ sizeLine ∧ tFs ts (out ++ y) σ H1 Q
section
variable {X : Cx} {pos : Pos}
end
section
variable {σ : St} {H : Hp} {Q : VK} {i j out y : Str} {n : Int} {t : TE} {ts : List TE} {K : PySem.W.Frag}
theorem go_fs (h : t σ H fun x H1 => ∃ y, x = .str y ∧ (out ++ y).length ≤ sizeLine ∧ tFs ts (out ++ y) σ H1 Q) : tFs (t :: ts) out σ H Q := h
theorem go_fmt (h : t σ H fun x H1 => (∃ y, x = .str y ∧ y.length ≤ sizeLine ∧ Q (.str y) H1) ∨ ∃ i, x = .int i ∧ i.natAbs.log2 < 1920 ∧ Q (.str (numS i)) H1) : tFmt t σ H Q := h
theorem log_small {n : Int} (h : Bd 1000 n) : n.natAbs.log2 < 1920 := by
  by_cases e : n.natAbs = 0
  · rw [e]; decide
  · have := (Nat.log2_lt e).mpr h.abs
    omega
end
def flatDt : V → Dt
  | .int i => .int i
  | .str x => .str x
  | .bl b => .bl b
  | _ => .non
def isFlat : V → Bool
  | .int _ => true
  | .str _ => true
  | .bl _ => true
  | .non => true
  | _ => false
section
variable {K : PySem.W.Frag} {H : Hp}
theorem rep_flat {v : V} (h : isFlat v = true) : Rep K H (flatDt v) v := by
  cases v <;> simp_all [isFlat, flatDt, Rep]
theorem reps_flat : ∀ {vs : List V}, (∀ v ∈ vs, isFlat v = true) → Reps K H (vs.map flatDt) vs
  | [], _ => by simp [Reps]
  | v :: vs, h => by
    simp only [List.map_cons, Reps]
    exact ⟨_, _, rfl, rep_flat (h v (List.mem_cons_self ..)), reps_flat fun x hx => h x (List.mem_cons_of_mem _ hx)⟩
theorem dep_flat : ∀ vs : List V, depDs (vs.map flatDt) = 0
  | [] => rfl
  | v :: vs => by
    have : depD (flatDt v) = 0 := by cases v <;> rfl
    simp [depDs, this, dep_flat vs]
abbrev rowDt (r : List V) : Dt := .tup (r.map flatDt)
theorem reps_rows : ∀ {rows : List (List V)} {ys : List V}, TupsAt H ys rows → (∀ r ∈ rows, ∀ v ∈ r, isFlat v = true) → Reps K H (rows.map rowDt) ys
  | [], ys, h, _ => by
    have : ys = [] := List.eq_nil_of_length_eq_zero h.1
    subst this
    simp [Reps]
  | r :: rows, [], h, _ => by simp [TupsAt] at h
  | r :: rows, y :: ys, h, hf => by
    obtain ⟨q, e, hq⟩ := h.2 0 r rfl
    cases e
    simp only [List.map_cons, Reps]
    refine ⟨_, _, rfl, ?_, reps_rows (rows := rows) (ys := ys) ⟨by simpa using h.1, fun j r' e => h.2 (j + 1) r' e⟩ fun x hx => hf x (List.mem_cons_of_mem _ hx)⟩
    simp only [Rep]
    exact ⟨q, r, rfl, SqT.of hq, reps_flat (hf r (List.mem_cons_self ..))⟩
theorem dep_rows : ∀ rows : List (List V), depDs (rows.map rowDt) ≤ 1
  | [] => by decide
  | r :: rows => by
    have h1 : depD (rowDt r) = 1 := by simp only [depD, dep_flat]
    have h2 := dep_rows rows
    simp only [List.map_cons, depDs, h1]
    omega
theorem rep_rows {p : Addr} {rows : List (List V)} {ys : List V} (hp : SqL K H p ys) (h : TupsAt H ys rows) (hf : ∀ r ∈ rows, ∀ v ∈ r, isFlat v = true) : Rep K H (.lst (rows.map rowDt)) (.ref p) := by
  simp only [Rep]
  exact ⟨p, ys, rfl, hp, reps_rows h hf⟩
theorem dep_rowsL (rows : List (List V)) : depD (.lst (rows.map rowDt)) ≤ 2 := by
  have := dep_rows rows
  simp only [depD]
  omega
theorem w_neSame {d : Dt} {x y : V} {Q : VK} (hx : Rep K H d x) (hy : Rep K H d y) (hd : depD d ≤ 100) (k : Q (.bl false) H) : rNeD K x y H Q :=
  ⟨d, d, hx, hy, hd, by rw [eqDt_refl]; exact k⟩
theorem w_eqSame {d : Dt} {x y : V} {Q : VK} (hx : Rep K H d x) (hy : Rep K H d y) (hd : depD d ≤ 100) (k : Q (.bl true) H) : rEqD K x y H Q :=
  ⟨d, d, hx, hy, hd, by rw [eqDt_refl]; exact k⟩
theorem rep_strs {p : Addr} {ts : List Str} (h : SqL K H p (ts.map V.str)) : Rep K H (.lst ((ts.map V.str).map flatDt)) (.ref p) := by
  simp only [Rep]
  exact ⟨p, _, rfl, h, reps_flat fun v hv => by obtain ⟨t, _, rfl⟩ := List.mem_map.mp hv; rfl⟩
theorem rep_nil {p : Addr} (h : SqL K H p []) : Rep K H (.lst []) (.ref p) := by
  simp only [Rep]
  exact ⟨p, _, rfl, h, by simp [Reps]⟩
theorem w_eqNil {p q : Addr} {ts : List Str} {Q : VK} (hp : SqL K H p (ts.map V.str)) (hq : SqL K H q []) (k : Q (.bl (decide (ts = []))) H) : rEqD K (.ref p) (.ref q) H Q :=
  ⟨_, _, rep_strs hp, rep_nil hq, by simp only [depD, dep_flat]; decide, by
    cases ts with
    | nil => simpa [eqDt, eqDts] using k
    | cons t ts => simpa [eqDt, eqDts] using k⟩
end
end L2
set_option Elab.async false
set_option linter.all false
set_option maxRecDepth 100000
namespace L2
open PySem PySem.Spec PyProof.Rows
section
variable {K : PySem.W.Frag} {σ : St} {H : Hp} {Q : VK} {ta tv : TE} {t : TA} {f m : Str} {C : Addr} {sp : Sp} {dvs : List V} {E : XK} {D : Ends}
theorem go_fld (h : ta σ H fun x H1 => ∃ a C dx fs v, x = .ref a ∧ H1 a = some (.ins C dx fs) ∧ Cls K C ∧ NoAttr K C f ∧ fs.lookup f = some v ∧ Q v H1) : tFld K ta f σ H Q := h
theorem w_fld {a dx : Addr} {fs : List (Str × V)} {v : V} {R : V → Prop} (ho : H a = some (.ins C dx fs)) (c : Cls K C) (n : NoAttr K C f) (l : fs.lookup f = some v) (k : R v) :
    ∃ a' C' dx' fs' v', V.ref a = .ref a' ∧ H a' = some (.ins C' dx' fs') ∧ Cls K C' ∧ NoAttr K C' f ∧ fs'.lookup f = some v' ∧ R v' := ⟨a, C, dx, fs, v, rfl, ho, c, n, l, k⟩
end
/-- a new instance and its dict: what was there stays -/
theorem made_same {H : Hp} {x dx C : Addr} (hx : H x = none) (hd : H dx = none) : Same H (upd (upd H dx (.own x)) x (.ins C dx [])) := fun b u e => by
  rw [upd_ne (ne_of_none e hx), upd_ne (ne_of_none e hd)]
  exact e
/-- xs.extend(list) -/
def rExtA : V → List V → Hp → VK → Prop := fun x vs H Q => ∃ l b xs zs, x = .ref l ∧ vs = [.ref b] ∧ H l = some (.lst xs) ∧ H b = some (.lst zs) ∧ xs.length + zs.length ≤ sizeLine ∧ ∀ H', Off l H H' → H' l = some (.lst (xs ++ zs)) → Q .non H'
section
variable {X : Cx}
end
end L2
set_option Elab.async false
set_option linter.all false
set_option maxRecDepth 100000
set_option maxHeartbeats 4000000
namespace L2
open PySem PySem.Spec PyProof.Rows PySem.SeqAt
section
variable {H H' : Hp} {p a l : Addr} {o u : HO}
theorem New.at (n : New H H' p o) (h : H a = some u) : H' a = some u := n.s a u h
theorem Same.at (s : Same H H') (h : H a = some u) : H' a = some u := s a u h
theorem Off.at (f : Off l H H') (ne : a ≠ l) (h : H a = some u) : H' a = some u := by rw [f a ne]; exact h
theorem Kp.at (k : Kp l H H') (ne : a ≠ l) (h : H a = some u) : H' a = some u := k a u ne h
theorem New.neL (n : New H H' p o) (h : H a = some u) : a ≠ p := n.n a u h
theorem ne_tl {x y : List V} (h1 : H a = some (.tup x)) (h2 : H l = some (.lst y)) : a ≠ l := fun z => by rw [z, h2] at h1; cases h1
/-- a list of tuples of these rows -/
def RowsAt (H : Hp) (p : Addr) (rows : List (List V)) : Prop := ∃ ys, H p = some (.lst ys) ∧ TupsAt H ys rows
theorem RowsAt.same {rows : List (List V)} (s : Same H H') (h : RowsAt H p rows) : RowsAt H' p rows := let ⟨ys, a, b⟩ := h; ⟨ys, s _ _ a, b.same s⟩
theorem RowsAt.off {rows : List (List V)} {zs : List V} (f : Off l H H') (ne : p ≠ l) (hl : H l = some (.lst zs)) (h : RowsAt H p rows) : RowsAt H' p rows := let ⟨ys, a, b⟩ := h; ⟨ys, f.at ne a, b.off f hl⟩
/-- a tuple is put behind -/
theorem RowsAt.snoc {q : Addr} {ys r : List V} {rows : List (List V)} (h : TupsAt H ys rows) (hl : H l = some (.lst ys)) (hq : H q = some (.tup r)) (f : Off l H H') (e : H' l = some (.lst (ys ++ [.ref q]))) : RowsAt H' l (rows ++ [r]) := by
  refine ⟨_, e, ?_⟩
  have h' := h.off f hl
  have nq : q ≠ l := ne_tl hq hl
  refine ⟨by rw [List.length_append, List.length_append, h'.1]; rfl, fun j s z => ?_⟩
  by_cases hj : j < rows.length
  · rw [List.getElem?_append_left hj] at z
    obtain ⟨x, e1, e2⟩ := h'.2 j s z
    exact ⟨x, by rw [List.getElem?_append_left (by rw [h'.1]; exact hj)]; exact e1, e2⟩
  · have hj2 : j = rows.length := by
      have := (List.getElem?_eq_some_iff.mp z).1
      rw [List.length_append, List.length_singleton] at this
      omega
    subst hj2
    rw [List.getElem?_append_right (Nat.le_refl _), Nat.sub_self] at z
    cases z
    exact ⟨q, by rw [← h'.1, List.getElem?_append_right (Nat.le_refl _), Nat.sub_self]; rfl, f.at nq hq⟩
end
section
variable {X : Cx} {id : String} {x nm : Str} {e v : Expr} {es : List Expr} {t : TA} {tv : TE} {p kp pos : Pos}
def tCK (r : List V → V → Hp → VK → Prop) (t : TA) (tv : TE) : TE := fun σ H Q => t σ H fun xs H1 => tv σ H1 fun y H2 => r xs y H2 Q
theorem go_ck {r : List V → V → Hp → VK → Prop} {σ : St} {H : Hp} {Q : VK} (h : t σ H fun xs H1 => tv σ H1 fun y H2 => r xs y H2 Q) : tCK r t tv σ H Q := h
end
section
variable {X : Cx}
section
variable {P : Program} {w : World} {A : Around} {R : Result → Shared → Prop} {it : Addr} {fp wr : List Addr} {ns : List Int} {V0 : Nat → Value → Prop} {St0 : Nat → Heap → Prop} {kw : List (Str × Value)}
end
end
end L2
set_option Elab.async false
set_option linter.all false
set_option maxRecDepth 100000
set_option maxHeartbeats 4000000
namespace L2
open PySem PySem.Spec PyProof.Rows PySem.SeqAt
theorem cx_K {CX : CXT} {P : Program} {w : World} {K : PySem.W.Frag} {mg : Str → Option Value} {base : Heap} {N : List Str} {q : Str} {sc : Scope} {f : Addr} {cdv : Value} {A : Around} {outer : List Env} {s : Shared} {H : Hp} {E : XK} : (cxOf CX P w K mg base N q sc f cdv A outer s H E).nox.K = K := rfl
theorem cx_K2 {CX : CXT} {P : Program} {w : World} {K : PySem.W.Frag} {mg : Str → Option Value} {base : Heap} {N : List Str} {q : Str} {sc : Scope} {f : Addr} {cdv : Value} {A : Around} {outer : List Env} {s : Shared} {H : Hp} {E : XK} : (cxOf CX P w K mg base N q sc f cdv A outer s H E).K = K := rfl
section
variable {X : Cx} {o lo hi : Expr} {to tl th : TE} {pos p2 : Pos}
def gSlc (to tl th : TE) : TG := fun v σ H Q => to σ H fun o H1 => tl σ H1 fun a H2 => th σ H2 fun c H3 => ∃ (l b : Addr) (xs ys : List V) (i j : Int), o = .ref l ∧ v = .ref b ∧ a = .int i ∧ c = .int j ∧ H3 l = some (.lst xs) ∧ H3 b = some (.lst ys) ∧ l ≠ b ∧
  0 ≤ i ∧ i ≤ j ∧ j ≤ xs.length ∧ xs.length + ys.length ≤ sizeLine ∧ ∀ H', Off l H3 H' → H' l = some (.lst (xs.take i.toNat ++ ys ++ xs.drop j.toNat)) → Q σ H'
theorem go_slc {v : V} {σ : St} {H : Hp} {Q : St → Hp → Prop} (h : to σ H fun o H1 => tl σ H1 fun a H2 => th σ H2 fun c H3 => ∃ (l b : Addr) (xs ys : List V) (i j : Int), o = .ref l ∧ v = .ref b ∧ a = .int i ∧ c = .int j ∧ H3 l = some (.lst xs) ∧ H3 b = some (.lst ys) ∧ l ≠ b ∧
  0 ≤ i ∧ i ≤ j ∧ j ≤ xs.length ∧ xs.length + ys.length ≤ sizeLine ∧ ∀ H', Off l H3 H' → H' l = some (.lst (xs.take i.toNat ++ ys ++ xs.drop j.toNat)) → Q σ H') : gSlc to tl th v σ H Q := h
theorem w_slc {l b : Addr} {xs ys : List V} {i j : Int} {H : Hp} {R : Hp → Prop} (e1 : H l = some (.lst xs)) (e2 : H b = some (.lst ys)) (ne : l ≠ b) (h0 : 0 ≤ i) (h1 : i ≤ j) (h2 : j ≤ xs.length) (hz : xs.length + ys.length ≤ sizeLine)
    (k : ∀ H', Off l H H' → H' l = some (.lst (xs.take i.toNat ++ ys ++ xs.drop j.toNat)) → R H') : ∃ (l' b' : Addr) (xs' ys' : List V) (i' j' : Int), V.ref l = .ref l' ∧ V.ref b = .ref b' ∧ V.int i = .int i' ∧ V.int j = .int j' ∧ H l' = some (.lst xs') ∧ H b' = some (.lst ys') ∧ l' ≠ b' ∧
  0 ≤ i' ∧ i' ≤ j' ∧ j' ≤ xs'.length ∧ xs'.length + ys'.length ≤ sizeLine ∧ ∀ H', Off l' H H' → H' l' = some (.lst (xs'.take i'.toNat ++ ys' ++ xs'.drop j'.toNat)) → R H' := ⟨l, b, xs, ys, i, j, rfl, rfl, rfl, rfl, e1, e2, ne, h0, h1, h2, hz, k⟩
end
/-- something is tracked at a -/
def Hs (H : Hp) (a : Addr) : Prop := ∃ u, H a = some u
section
variable {H H' : Hp} {a p l : Addr} {o u : HO}
theorem Hs.of (h : H a = some u) : Hs H a := ⟨u, h⟩
theorem New.hs (n : New H H' p o) : Hs H' p := ⟨o, n.e⟩
theorem New.hsAt (n : New H H' p o) (h : Hs H a) : Hs H' a := let ⟨u, e⟩ := h; ⟨u, n.s _ _ e⟩
theorem Same.hsAt (n : Same H H') (h : Hs H a) : Hs H' a := let ⟨u, e⟩ := h; ⟨u, n _ _ e⟩
theorem Off.hsAt (n : Off l H H') (ne : a ≠ l) (h : Hs H a) : Hs H' a := let ⟨u, e⟩ := h; ⟨u, n.at ne e⟩
theorem Kp.hsAt (n : Kp l H H') (ne : a ≠ l) (h : Hs H a) : Hs H' a := let ⟨u, e⟩ := h; ⟨u, n _ _ ne e⟩
theorem New.neA (n : New H H' p o) (h : Hs H a) : a ≠ p := let ⟨u, e⟩ := h; n.n a u e
theorem New.neB (n : New H H' p o) (h : Hs H a) : p ≠ a := let ⟨u, e⟩ := h; fun z => n.n a u e z.symm
end
section
variable {H : Hp} {Q : VK} {K : PySem.W.Frag} {l b : Addr} {xs ys : List V} {y : V} {σ : St} {D : Ends}
theorem made_ok {o : HO} {n : Nat} {Z : Addr → Hp → Prop} (z : n ≤ sizeLine) (k : ∀ p H', New H H' p o → Z p H') : n ≤ sizeLine ∧ ∀ p H', New H H' p o → Z p H' := ⟨z, k⟩
theorem w_tyL {R : Prop} (h : SqL K H l xs) (k : R) : tyV K "list" (.ref l) H ∧ R := ⟨.inl ⟨rfl, _, h⟩, k⟩
theorem w_app (h : H l = some (.lst xs)) (z : xs.length < sizeLine) (k : ∀ H', Off l H H' → H' l = some (.lst (xs ++ [y])) → Q .non H') : rAppA (.ref l) [y] H Q := ⟨l, xs, y, rfl, rfl, h, z, k⟩
theorem w_ext (h : H l = some (.lst xs)) (e : H b = some (.lst ys)) (z : xs.length + ys.length ≤ sizeLine) (k : ∀ H', Off l H H' → H' l = some (.lst (xs ++ ys)) → Q .non H') : rExtA (.ref l) [.ref b] H Q := ⟨l, b, xs, ys, rfl, rfl, h, e, z, k⟩
theorem w_clr (h : H l = some (.lst xs)) (k : ∀ H', Off l H H' → H' l = some (.lst []) → Q .non H') : rClearA (.ref l) [] H Q := ⟨l, xs, rfl, rfl, h, k⟩
theorem w_setA {i : Int} {j : Nat} {v : V} {R : Hp → Prop} (h : H l = some (.lst xs)) (e : ixN xs.length i = some j) (k : ∀ H', Off l H H' → H' l = some (.lst (xs.set j v)) → R H') : rSetA (.ref l) (.int i) v H R := ⟨l, xs, i, j, rfl, rfl, h, e, k⟩
theorem w_slA {lo hi : Option Int} (h : SqL K H l xs) (k : ∀ p H', New H H' p (.lst (cutV xs lo hi)) → Q (.ref p) H') : rSlA K (.ref l) lo hi H Q := ⟨l, xs, rfl, h, k⟩
theorem w_catA (h : H l = some (.lst xs)) (e : H b = some (.lst ys)) (z : xs.length + ys.length ≤ sizeLine) (k : ∀ p H', New H H' p (.lst (xs ++ ys)) → Q (.ref p) H') : rCatA (.ref l) (.ref b) H Q := ⟨l, b, xs, ys, rfl, rfl, h, e, z, k⟩
theorem w_rep1 {n : Nat} (h : H l = some (.lst [y])) (z : n ≤ 1000000) (k : ∀ p H', New H H' p (.lst (List.replicate n y)) → Q (.ref p) H') : rRepA (.ref l) (.int (n : Int)) H Q :=
  ⟨l, n, [y], rfl, rfl, h, by omega, by omega, by simp only [List.length_singleton, Int.toNat_natCast, Nat.one_mul]; exact small_line z, fun p H' q => k p H' (by
    have e : (List.replicate ((n : Int).toNat) [y]).flatten = List.replicate n y := by
      rw [Int.toNat_natCast]
      clear z q k h
      induction n with
      | zero => rfl
      | succ n ih => rw [List.replicate_succ, List.flatten_cons, ih]; rfl
    rw [← e]; exact q)⟩
theorem w_lofL (h : SqL K H l xs) (k : ∀ p H', New H H' p (.lst xs) → Q (.ref p) H') : rLOfA K [.ref l] H Q := ⟨l, xs, rfl, .inl h, k⟩
theorem w_lofT (h : SqT K H l xs) (k : ∀ p H', New H H' p (.lst xs) → Q (.ref p) H') : rLOfA K [.ref l] H Q := ⟨l, xs, rfl, .inr h, k⟩
theorem w_meth {C dx : Addr} {fs : List (Str × V)} {m : Str} {R : Prop} (h : H l = some (.ins C dx fs)) (e : fs.lookup m = none) (k : R) : ∃ a' dx' fs', V.ref l = .ref a' ∧ H a' = some (.ins C dx' fs') ∧ fs'.lookup m = none ∧ R := ⟨l, dx, fs, rfl, h, e, k⟩
theorem go_aug {i : Nat} {te : TE} {ti : TIp} {v : V} (e : σ[i]? = some (some v)) (h : te σ H fun y H1 => ti v y H1 fun z H2 => D.nx (σ.set i (some z)) H2) : tAug i te ti D σ H := ⟨v, e, h⟩
theorem i_idx {n : Nat} {i : Int} (h0 : 0 ≤ i) (h1 : i < n) : ixN n i = some i.toNat := by unfold ixN; rw [if_pos h0, if_pos h1]
theorem i_last {n : Nat} : ixN (n + 1) (-1) = some n := by unfold ixN; rw [if_neg (by decide), if_pos (by omega)]; congr 1; omega
theorem atL1 {x y : V} {r : List V} : atI (x :: y :: r) 1 = some y := atI_nat (j := 1) rfl
theorem atL2 {x y z : V} {r : List V} : atI (x :: y :: z :: r) 2 = some z := atI_nat (j := 2) rfl
theorem atL3 {x y z w : V} {r : List V} : atI (x :: y :: z :: w :: r) 3 = some w := atI_nat (j := 3) rfl
theorem i_tt {A B : Prop} (k : A) : if (true : Bool) = true then A else B := by rw [if_pos rfl]; exact k
theorem i_ff {A B : Prop} (k : B) : if (false : Bool) = true then A else B := by rw [if_neg (by decide)]; exact k
theorem i_ntt {A B : Prop} (k : B) : if (!true : Bool) = true then A else B := by rw [if_neg (by decide)]; exact k
theorem i_nff {A B : Prop} (k : A) : if (!false : Bool) = true then A else B := by rw [if_pos (by decide)]; exact k
theorem w_isTT (h : H l = some (.tup xs)) (k : Q (.bl true) H) : rIsT K [.ref l, .ty "tuple"] H Q := w_is (.tup h) (bt_tuple (.tup h)) k
theorem w_isLL (h : H l = some (.lst xs)) (k : Q (.bl true) H) : rIsT K [.ref l, .ty "list"] H Q := w_is (.lst h) (bt_list (.lst h)) k
theorem w_isTL (h : H l = some (.tup xs)) (k : Q (.bl false) H) : rIsT K [.ref l, .ty "list"] H Q := w_is (.tup h) (bt_list (.tup h)) k
theorem w_isLT (h : H l = some (.lst xs)) (k : Q (.bl false) H) : rIsT K [.ref l, .ty "tuple"] H Q := w_is (.lst h) (bt_tuple (.lst h)) k
theorem w_isII {i : Int} (k : Q (.bl true) H) : rIsT K [.int i, .ty "int"] H Q := w_is (TyOf.int (K := K) (H := H) i) (bt_int (TyOf.int (K := K) (H := H) i)) k
theorem w_isIB {i : Int} (k : Q (.bl false) H) : rIsT K [.int i, .ty "bool"] H Q := w_is (TyOf.int (K := K) (H := H) i) (bt_bool (TyOf.int (K := K) (H := H) i)) k
theorem w_isBB {b : Bool} (k : Q (.bl true) H) : rIsT K [.bl b, .ty "bool"] H Q := w_is (TyOf.bl (K := K) (H := H) b) (bt_bool (TyOf.bl (K := K) (H := H) b)) k
theorem w_isBI {b : Bool} (k : Q (.bl true) H) : rIsT K [.bl b, .ty "int"] H Q := w_is (TyOf.bl (K := K) (H := H) b) (bt_int (TyOf.bl (K := K) (H := H) b)) k
theorem small_lt {n : Nat} (h : n < 1000000) : n < sizeLine := Nat.lt_of_lt_of_le h (small_line (Nat.le_refl _))
theorem w_tupB {n i0 i1 : Nat} {a b : V} {R : St → Hp → Prop} (hn : n = 2) (hp : SqT K H l [a, b]) (h : gName i0 a σ H fun σ1 H1 => gName i1 b σ1 H1 R) : gTup K n (gCons (gName i0) (gCons (gName i1) gNil)) (.ref l) σ H R := by
  subst hn
  exact w_tup2 hp h
/-- an item of a list at a drawn place: one of them -/
theorem w_ixM {i : Int} (h : SqL K H l xs) (h0 : 0 ≤ i) (h1 : i < xs.length) (k : ∀ v ∈ xs, Q v H) : rIxL K (.ref l) (.int i) H Q := let ⟨v, e, m⟩ := atI_lt h0 h1; w_ixL h e (k v m)
theorem w_not2 {b : Bool} {R : Bool → Prop} (h : R (!b)) : ∃ c, V.bl b = .bl c ∧ R (!c) := ⟨b, rfl, h⟩
theorem tups_at {rows : List (List V)} {i : Nat} {v : V} (h : TupsAt H xs rows) (e : xs[i]? = some v) : ∃ r q, rows[i]? = some r ∧ v = .ref q ∧ H q = some (.tup r) := by
  have hi : i < rows.length := by rw [← h.1]; exact (List.getElem?_eq_some_iff.mp e).1
  obtain ⟨q, e1, e2⟩ := h.2 i rows[i] (by simp)
  rw [e] at e1
  exact ⟨rows[i], q, by simp, Option.some.inj e1, e2⟩
end
section
variable {K : PySem.W.Frag} {g : TG} {tb : TS} {D : Ends} {σ : St} {H : Hp} {tr : TA}
def ForR (lo : Int) (n : Nat) (g : TG) (tb : TS) (D : Ends) (σ : St) (H : Hp) : Prop := ∃ W : Nat → Nat → St → Hp → Prop, (∃ m, W 0 m σ H) ∧ ∀ i m σ H, W i m σ H →
  ((Itr lo n).stop i H ∧ D.nx σ H) ∨ ((Itr lo n).go i H ∧ ∃ N : St → Hp → Prop, (∀ σ' H', N σ' H' → ∃ m', m' < m ∧ W (i + 1) m' σ' H') ∧ ∀ x H', (Itr lo n).yld i H x H' → g x σ H' fun σ2 H2 => tb { D with nx := N, ct := N, bk := D.nx } σ2 H2)
theorem forR_by {lo : Int} {n : Nat} (Pv : Nat → St → Hp → Prop) (h0 : Pv 0 σ H) (hs : ∀ i σ H, i < n → Pv i σ H → g (.int (lo + i)) σ H fun σ2 H2 => tb { D with nx := Pv (i + 1), ct := Pv (i + 1), bk := D.nx } σ2 H2) (hd : ∀ σ H, Pv n σ H → D.nx σ H) : ForR lo n g tb D σ H := for_range Pv h0 hs hd
theorem w_forR1 (h : tr σ H fun vs H1 => ∃ j : Int, vs = [.int j] ∧ -(2 ^ 62) ≤ j ∧ j < 2 ^ 62 ∧ ForR 0 j.toNat g tb D σ H1) : tFor (iRng1 tr) g tb D σ H := h
theorem w_forR2 (h : tr σ H fun vs H1 => ∃ i j : Int, vs = [.int i, .int j] ∧ (-(2 ^ 62) ≤ i ∧ i < 2 ^ 62 ∧ -(2 ^ 62) ≤ j ∧ j < 2 ^ 62) ∧ ForR i (j - i).toNat g tb D σ H1) : tFor (iRng2 tr) g tb D σ H := h
theorem r1_by {n : Int} {m : Nat} (hn : n.toNat = m) (h1 : -(2 ^ 62) ≤ n) (h2 : n < 2 ^ 62) (k : ForR 0 m g tb D σ H) : ∃ j : Int, [V.int n] = [.int j] ∧ -(2 ^ 62) ≤ j ∧ j < 2 ^ 62 ∧ ForR 0 j.toNat g tb D σ H := ⟨n, rfl, h1, h2, by rw [hn]; exact k⟩
def ForE (K : PySem.W.Frag) (a : Addr) (xs : List V) (g : TG) (tb : TS) (D : Ends) (σ : St) (H : Hp) : Prop := ∃ W : Nat → Nat → St → Hp → Prop, (∃ m, W 0 m σ H) ∧ ∀ i m σ H, W i m σ H →
      ((Ite K a xs).stop i H ∧ D.nx σ H) ∨ ((Ite K a xs).go i H ∧ ∃ N : St → Hp → Prop, (∀ σ' H', N σ' H' → ∃ m', m' < m ∧ W (i + 1) m' σ' H') ∧ ∀ x H', (Ite K a xs).yld i H x H' → g x σ H' fun σ2 H2 => tb { D with nx := N, ct := N, bk := D.nx } σ2 H2)
theorem w_forE (h : tr σ H fun vs H1 => ∃ a xs, vs = [.ref a] ∧ SqL K H1 a xs ∧ ForE K a xs g tb D σ H1) : tFor (iEnum K tr) g tb D σ H := h
theorem e_by {a : Addr} {xs : List V} (h : SqL K H a xs) (k : ForE K a xs g tb D σ H) : ∃ a' xs', [V.ref a] = [.ref a'] ∧ SqL K H a' xs' ∧ ForE K a' xs' g tb D σ H := ⟨a, xs, rfl, h, k⟩
theorem forE_by {a : Addr} {xs : List V} (Pv : Nat → St → Hp → Prop) (h0 : Pv 0 σ H) (hl : ∀ i σ H, i ≤ xs.length → Pv i σ H → SqL K H a xs)
    (hs : ∀ i x T σ H H', xs[i]? = some x → Pv i σ H → New H H' T (.tup [.int i, x]) → g (.ref T) σ H' fun σ2 H2 => tb { D with nx := Pv (i + 1), ct := Pv (i + 1), bk := D.nx } σ2 H2) (hd : ∀ σ H, Pv xs.length σ H → D.nx σ H) : ForE K a xs g tb D σ H := for_enum Pv h0 hl hs hd
theorem l_by {a : Addr} {xs : List V} (h : SqL K H a xs) (k : ForL K a g tb D σ H) : ∃ a', V.ref a = .ref a' ∧ (∃ xs, SqL K H a' xs) ∧ ForL K a' g tb D σ H := ⟨a, rfl, ⟨xs, h⟩, k⟩
theorem c_by {a : Addr} {xs : List V} {nt : Nat} {fr : List Nat} {c : TT} {te : TE} {Q : VK} (h : SqL K H a xs) (k : CompAll (Itl K a) nt fr g c te σ H Q) : ∃ a', V.ref a = .ref a' ∧ (∃ xs, SqL K H a' xs) ∧ CompAll (Itl K a') nt fr g c te σ H Q := ⟨a, rfl, ⟨xs, h⟩, k⟩
end
section
variable {K : PySem.W.Frag} {σ : St} {H : Hp} {Q : VK} {ta tv : TE} {t : TA} {f m : Str} {C : Addr} {sp : Sp} {E : XK} {D : Ends}
def SetF (K : PySem.W.Frag) (f : Str) (y x : V) (H : Hp) (R : Hp → Prop) : Prop := ∃ a C dx fs, x = .ref a ∧ H a = some (.ins C dx fs) ∧ Cls K C ∧ NoAttr K C f ∧ fs.length < 1000 ∧ R (upd H a (.ins C dx (putF f y fs)))
theorem go_sfldB (h : tv σ H fun y H1 => ta σ H1 fun x H2 => SetF K f y x H2 fun H3 => D.nx σ H3) : sFld K ta tv f D σ H := h
theorem w_setF {l dx : Addr} {fs : List (Str × V)} {y : V} {R : Hp → Prop} (ho : H l = some (.ins C dx fs)) (c : Cls K C) (n : NoAttr K C f) (z : fs.length < 1000) (k : ∀ H', Off l H H' → H' l = some (.ins C dx (putF f y fs)) → R H') : SetF K f y (.ref l) H R :=
  ⟨l, C, dx, fs, rfl, ho, c, n, z, k _ Off.upd upd_same⟩
def tMakeB (C : Addr) (sp : Sp) (E : XK) (t : TA) : TE := fun σ H Q => t σ H fun vs H1 => ∀ x dx H2, New H1 H2 x (.ins C dx []) → sp (.ref x :: vs) H2 (fun v H3 => v = .non ∧ Q (.ref x) H3) E
theorem go_makeB (h : t σ H fun vs H1 => ∀ x dx H2, New H1 H2 x (.ins C dx []) → sp (.ref x :: vs) H2 (fun v H3 => v = .non ∧ Q (.ref x) H3) E) : tMakeB C sp E t σ H Q := h
theorem go_methB (h : ta σ H fun x H1 => ∃ a dx fs, x = .ref a ∧ H1 a = some (.ins C dx fs) ∧ fs.lookup m = none ∧ t σ H1 fun vs H2 => sp (x :: vs) H2 Q E) : tMeth C m sp [] E ta t σ H Q := by
  have e : (fun (x : V) (H1 : Hp) => ∃ a dx fs, x = .ref a ∧ H1 a = some (.ins C dx fs) ∧ fs.lookup m = none ∧ t σ H1 fun vs H2 => sp (x :: (vs ++ [])) H2 Q E) = fun x H1 => ∃ a dx fs, x = .ref a ∧ H1 a = some (.ins C dx fs) ∧ fs.lookup m = none ∧ t σ H1 fun vs H2 => sp (x :: vs) H2 Q E := by
    simp only [List.append_nil]
  show ta σ H fun x H1 => ∃ a dx fs, x = .ref a ∧ H1 a = some (.ins C dx fs) ∧ fs.lookup m = none ∧ t σ H1 fun vs H2 => sp (x :: (vs ++ [])) H2 Q E
  rw [e]
  exact h
end
section
variable {X : Cx} {CX : CXT} {k m : Nat} {x : Str} {ps : List Str} {sp : Sp} {E : XK} {p pos : Pos} {e : Expr} {es : List Expr} {t : TA} {C : Addr}
theorem pe_makB (D : Mak X.prog X.w X.K X.mg X.base CX k x C ps sp) (hr : Room m X.A) (ha : PA X (e :: es) t) (hk : k + 1 ≤ m := by decide) (hx : Passes CX X E := by exact pass0) (hg : Gl X x := by rfl)
    (hdb : (x == ("__debug__" : Str)) = false := by decide) (he : starEach (e :: es) X.env = (false, eval e X.env) :: starEach es X.env := by rfl) (hpl : (backTo pos (starEach es X.env)).any (·.1) = false := by rfl) :
    PE X (.Call (.Name x p) (e :: es) [] pos) (tMakeB C sp E t) := by
  obtain ⟨f, fd, F, M, g, b⟩ := D.ex
  intro pins s σ H Q I h
  refine wpAny_Call_Name_kw (ld_glob I hg g ?_ hdb)
  refine PySem.W.callWith_K (h₀ := X.base) I.ok.mod.kin M.kp (thn (ha pos pins s σ H _ I h) fun us s1 ⟨vs, H1, I1, r, q⟩ => ⟨I1.kIn, ?_⟩) he hpl
  refine run_make M F (hr.mono hk) b .nil hx I1 r fun y dy h1 h2 h3 => ?_
  rw [List.append_nil]
  exact q y dy _ ⟨made_same h1 h2, upd_same, fun a u z => ne_of_none z h1⟩
end
end L2
set_option Elab.async false
set_option linter.all false
set_option maxRecDepth 100000
set_option maxHeartbeats 4000000
namespace L2
open PySem PySem.Spec PyProof.Rows PySem.SeqAt
def isFr : V → Int → Bool
  | .int i, lo => decide (lo ≤ i)
  | _, _ => false
def inB : V → Int → Int → Bool
  | .int i, lo, hi => decide (lo ≤ i) && decide (i ≤ hi)
  | _, _, _ => false
section
variable {K : PySem.W.Frag} {H : Hp} {Q : VK} {E : XK} {x : V} {n : String} {p q : Addr} {a b c lo hi : Int}
def sp_whole (K : PySem.W.Frag) : Sp := fun vs H Q _ => ∃ x n, vs = [x] ∧ TyOf K H x (.type n) ∧ Q (.bl (isW x)) H
theorem u_whole (ty : TyOf K H x (.type n)) (k : Q (.bl (isW x)) H) : sp_whole K [x] H Q E := ⟨x, n, rfl, ty, k⟩
def sp_is_from (K : PySem.W.Frag) : Sp := fun vs H Q _ => ∃ x n lo, vs = [x, .int lo] ∧ TyOf K H x (.type n) ∧ Q (.bl (isFr x lo)) H
theorem u_from (ty : TyOf K H x (.type n)) (k : Q (.bl (isFr x lo)) H) : sp_is_from K [x, .int lo] H Q E := ⟨x, n, lo, rfl, ty, k⟩
theorem u_fromI (k : Q (.bl (decide (lo ≤ a))) H) : sp_is_from K [.int a, .int lo] H Q E := ⟨_, _, lo, rfl, .int _, k⟩
def sp_is_within (K : PySem.W.Frag) : Sp := fun vs H Q _ => ∃ x n lo hi, vs = [x, .int lo, .int hi] ∧ TyOf K H x (.type n) ∧ Q (.bl (inB x lo hi)) H
theorem u_within (ty : TyOf K H x (.type n)) (k : Q (.bl (inB x lo hi)) H) : sp_is_within K [x, .int lo, .int hi] H Q E := ⟨x, n, lo, hi, rfl, ty, k⟩
def sp_is_many (K : PySem.W.Frag) : Sp := fun vs H Q _ => ∃ x n, vs = [x] ∧ TyOf K H x (.type n) ∧ Q (.bl (inB x 16 240)) H
theorem u_many (ty : TyOf K H x (.type n)) (k : Q (.bl (inB x 16 240)) H) : sp_is_many K [x] H Q E := ⟨x, n, rfl, ty, k⟩
def sp_end_of : Sp := fun vs H Q _ => ∃ (q : Addr) (a b : Int), vs = [.ref q] ∧ H q = some (.tup [.int a, .int b]) ∧ Q (.int (a + b)) H
theorem u_end (h : H q = some (.tup [.int a, .int b])) (k : Q (.int (a + b)) H) : sp_end_of [.ref q] H Q E := ⟨q, a, b, rfl, h, k⟩
/-- is_stretch of a tuple of two ints -/
def sp_stretchI : Sp := fun vs H Q _ => ∃ (q : Addr) (a b : Int), vs = [.ref q] ∧ H q = some (.tup [.int a, .int b]) ∧ Q (.bl (decide (0 ≤ a) && decide (1 ≤ b))) H
theorem u_stretchI (h : H q = some (.tup [.int a, .int b])) (k : Q (.bl (decide (0 ≤ a) && decide (1 ≤ b))) H) : sp_stretchI [.ref q] H Q E := ⟨q, a, b, rfl, h, k⟩
/-- pairs of naturals as rows -/
def rowsN (ws : List (Nat × Nat)) : List (List V) := ws.map fun w => [V.int (w.1 : Nat), V.int (w.2 : Nat)]
theorem rowsN_len (ws : List (Nat × Nat)) : (rowsN ws).length = ws.length := List.length_map ..
theorem rowsN_get {ws : List (Nat × Nat)} {i : Nat} {r : List V} (h : (rowsN ws)[i]? = some r) : ∃ w, ws[i]? = some w ∧ r = [V.int (w.1 : Nat), V.int (w.2 : Nat)] := by
  unfold rowsN at h
  rw [List.getElem?_map] at h
  cases e : ws[i]? with
  | none => rw [e] at h; cases h
  | some w => rw [e] at h; exact ⟨w, rfl, (Option.some.inj h).symm⟩
theorem rowsN_at {ws : List (Nat × Nat)} {ys : List V} {i : Nat} {v : V} (h : TupsAt H ys (rowsN ws)) (e : ys[i]? = some v) : ∃ w q, ws[i]? = some w ∧ v = .ref q ∧ H q = some (.tup [V.int (w.1 : Nat), V.int (w.2 : Nat)]) := by
  obtain ⟨r, q, e1, e2, e3⟩ := tups_at h e
  obtain ⟨w, e4, rfl⟩ := rowsN_get e1
  exact ⟨w, q, e4, e2, e3⟩
def sp_cellA (K : PySem.W.Frag) : Sp := fun vs H Q _ => ∃ (a : Addr) (ns : List Int) (k : Int), vs = [.ref a, .int k] ∧ SqL K H a (ns.map V.int) ∧ 0 ≤ k ∧ ∀ c : Int, Q (.int c) H
theorem u_cellA {ns : List Int} {m : Int} (h : SqL K H p (ns.map V.int)) (h0 : 0 ≤ m) (k : ∀ c : Int, Q (.int c) H) : sp_cellA K [.ref p, .int m] H Q E := ⟨p, ns, m, rfl, h, h0, k⟩
def sp_boxA : Sp := fun vs H Q _ => ∃ c : Int, vs = [.int c] ∧ ∀ (p : Addr) (a b : Int) (H' : Hp), New H H' p (.lst [.int a, .int b, .int 0]) → Q (.ref p) H'
theorem u_boxA (k : ∀ (p : Addr) (x y : Int) (H' : Hp), New H H' p (.lst [.int x, .int y, .int 0]) → Q (.ref p) H') : sp_boxA [.int a] H Q E := ⟨a, rfl, k⟩
def sp_takeA : Sp := fun vs H Q _ => ∃ (p : Addr) (a b c m : Int), vs = [.ref p, .int m] ∧ H p = some (.lst [.int a, .int b, .int c]) ∧ 0 < m ∧ m < 1073741824 ∧ ∀ (r a' b' c' : Int) (H' : Hp), 0 ≤ r → r < m → Off p H H' → H' p = some (.lst [.int a', .int b', .int c']) → Q (.int r) H'
theorem u_takeA {m : Int} (h : H p = some (.lst [.int a, .int b, .int c])) (m0 : 0 < m) (m1 : m < 1073741824) (k : ∀ (r a' b' c' : Int) (H' : Hp), 0 ≤ r → r < m → Off p H H' → H' p = some (.lst [.int a', .int b', .int c']) → Q (.int r) H') : sp_takeA [.ref p, .int m] H Q E :=
  ⟨p, a, b, c, m, rfl, h, m0, m1, k⟩
end
end L2
set_option Elab.async false
set_option linter.all false
set_option maxRecDepth 100000
set_option maxHeartbeats 4000000
namespace L2
open PySem PySem.Spec PyProof.Rows PySem.SeqAt
section
variable {K : PySem.W.Frag} {g : TG} {tb : TS} {D : Ends} {σ : St} {H H' : Hp} {Q : VK} {l p q : Addr} {xs ys : List V} {rows : List (List V)}
theorem forR0_by {n : Nat} (Pv : Nat → St → Hp → Prop) (h0 : Pv 0 σ H) (hs : ∀ i σ H, i < n → Pv i σ H → g (.int i) σ H fun σ2 H2 => tb { D with nx := Pv (i + 1), ct := Pv (i + 1), bk := D.nx } σ2 H2) (hd : ∀ σ H, Pv n σ H → D.nx σ H) : ForR 0 n g tb D σ H :=
  for_range Pv h0 (fun i σ H hi h => by rw [Int.zero_add]; exact hs i σ H hi h) hd
theorem TupsAt.snoc {r : List V} (h : TupsAt H ys rows) (hq : H q = some (.tup r)) : TupsAt H (ys ++ [.ref q]) (rows ++ [r]) := by
  refine ⟨by rw [List.length_append, List.length_append, h.1]; rfl, fun j s z => ?_⟩
  by_cases hj : j < rows.length
  · rw [List.getElem?_append_left hj] at z
    obtain ⟨x, e1, e2⟩ := h.2 j s z
    exact ⟨x, by rw [List.getElem?_append_left (by rw [h.1]; exact hj)]; exact e1, e2⟩
  · have hj2 : j = rows.length := by
      have := (List.getElem?_eq_some_iff.mp z).1
      rw [List.length_append, List.length_singleton] at this
      omega
    subst hj2
    rw [List.getElem?_append_right (Nat.le_refl _), Nat.sub_self] at z
    cases z
    exact ⟨q, by rw [← h.1, List.getElem?_append_right (Nat.le_refl _), Nat.sub_self]; rfl, hq⟩
theorem TupsAt.last {r : List V} (h : TupsAt H ys (rows ++ [r])) : ∃ zs q, ys = zs ++ [.ref q] ∧ TupsAt H zs rows ∧ H q = some (.tup r) := by
  have hl : ys.length = rows.length + 1 := by rw [h.1]; simp
  obtain ⟨q, e1, e2⟩ := h.2 rows.length r (by rw [List.getElem?_append_right (Nat.le_refl _), Nat.sub_self]; rfl)
  have e3 : ys = ys.take rows.length ++ [.ref q] := by
    have := List.take_succ (l := ys) (i := rows.length)
    rw [e1, List.take_of_length_le (by omega)] at this
    exact this
  refine ⟨ys.take rows.length, q, e3, ⟨by rw [List.length_take]; omega, fun j s z => ?_⟩, e2⟩
  have hj := (List.getElem?_eq_some_iff.mp z).1
  obtain ⟨x, a, b⟩ := h.2 j s (by rw [List.getElem?_append_left hj]; exact z)
  exact ⟨x, by rw [List.getElem?_take, if_pos hj]; exact a, b⟩
theorem at_neg {v : V} : atI (xs ++ [v]) (-1) = some v := atI_last xs v
theorem ix_neg {v : V} : ixN (xs ++ [v]).length (-1) = some xs.length := by rw [List.length_append]; exact i_last
theorem set_neg {v w : V} : (xs ++ [v]).set xs.length w = xs ++ [w] := by rw [List.set_append_right _ _ (Nat.le_refl _), Nat.sub_self]; rfl
theorem flat_N (ws : List (Nat × Nat)) : ∀ r ∈ rowsN ws, ∀ v ∈ r, isFlat v = true := by
  intro r hr v hv
  obtain ⟨x, _, rfl⟩ := List.mem_map.mp hr
  simp only [List.mem_cons, List.not_mem_nil, or_false] at hv
  rcases hv with rfl | rfl <;> rfl
theorem w_eqR {ws : List (Nat × Nat)} {zs : List V} (hp : H p = some (.lst ys)) (hq : H q = some (.lst zs)) (tp : TupsAt H ys (rowsN ws)) (tq : TupsAt H zs (rowsN ws)) (k : Q (.bl true) H) : rEqD K (.ref p) (.ref q) H Q :=
  w_eqSame (rep_rows (SqL.of hp) tp (flat_N _)) (rep_rows (SqL.of hq) tq (flat_N _)) (Nat.le_trans (dep_rowsL _) (by decide)) k
/-- a list of rows against [] -/
theorem w_neRNil {zs : List V} (hp : H p = some (.lst ys)) (tp : TupsAt H ys rows) (hf : ∀ r ∈ rows, ∀ v ∈ r, isFlat v = true) (hq : H q = some (.lst [])) (k : Q (.bl (!decide (rows = []))) H) : rNeD K (.ref p) (.ref q) H Q :=
  ⟨_, _, rep_rows (SqL.of hp) tp hf, rep_nil (SqL.of hq), Nat.le_trans (dep_rowsL _) (by decide), by
    cases rows with
    | nil => simpa [eqDt, eqDts] using k
    | cons a t => simpa [eqDt, eqDts] using k⟩
theorem w_eqRNil (hp : H p = some (.lst ys)) (tp : TupsAt H ys rows) (hf : ∀ r ∈ rows, ∀ v ∈ r, isFlat v = true) (hq : H q = some (.lst [])) (k : Q (.bl (decide (rows = []))) H) : rEqD K (.ref p) (.ref q) H Q :=
  ⟨_, _, rep_rows (SqL.of hp) tp hf, rep_nil (SqL.of hq), Nat.le_trans (dep_rowsL _) (by decide), by
    cases rows with
    | nil => simpa [eqDt, eqDts] using k
    | cons a t => simpa [eqDt, eqDts] using k⟩
/-- what a search tells: none, or a tuple of two -/
def IsPair (H : Hp) (v : V) : Option (Nat × Nat) → Prop
  | none => v = .non
  | some w => ∃ q, v = .ref q ∧ H q = some (.tup [.int (w.1 : Nat), .int (w.2 : Nat)])
theorem IsPair.same {v : V} {o : Option (Nat × Nat)} (s : Same H H') (h : IsPair H v o) : IsPair H' v o := by
  cases o with
  | none => exact h
  | some w => obtain ⟨q, e1, e2⟩ := h; exact ⟨q, e1, s _ _ e2⟩
def pairDt : Option (Nat × Nat) → Dt
  | none => .non
  | some w => .tup [.int (w.1 : Nat), .int (w.2 : Nat)]
theorem IsPair.rep {v : V} {o : Option (Nat × Nat)} (h : IsPair H v o) : Rep K H (pairDt o) v := by
  cases o with
  | none =>
    show Rep K H .non v
    simp only [Rep]
    exact h
  | some w =>
    obtain ⟨q, rfl, e⟩ := h
    simp only [pairDt, Rep, Reps]
    exact ⟨q, _, rfl, SqT.of e, _, _, rfl, rfl, _, _, rfl, rfl, rfl⟩
end
end L2
set_option Elab.async false
set_option linter.all false
set_option maxRecDepth 100000
set_option maxHeartbeats 4000000
namespace L2
open PySem PySem.Spec PyProof.Rows PySem.SeqAt
end L2
set_option Elab.async false
set_option linter.all false
set_option maxRecDepth 100000
set_option maxHeartbeats 4000000
namespace L2
open PySem PySem.Spec PyProof.Rows PySem.SeqAt
def isTup : HO → Bool
  | .tup _ => true
  | .frz _ _ => true
  | _ => false
/-- tuples and frozen things stay -/
def Tst (H H' : Hp) : Prop := ∀ q u, isTup u = true → H q = some u → H' q = some u
inductive Im where
  | tup (q : Addr) (r : List V)
  | tps (ys : List V) (rs : List (List V))
  | fct (φ : Hp → Prop) (st : ∀ H H', Tst H H' → φ H → φ H')
def Im.holds (H : Hp) : Im → Prop
  | .tup q r => H q = some (.tup r)
  | .tps ys rs => TupsAt H ys rs
  | .fct φ _ => φ H
theorem Im.stay {H H' : Hp} (t : Tst H H') : ∀ {f : Im}, f.holds H → f.holds H'
  | .tup q r, h => t q _ rfl h
  | .tps ys rs, h => ⟨h.1, fun j r e => let ⟨q, a, b⟩ := h.2 j r e; ⟨q, a, t q _ rfl b⟩⟩
  | .fct φ st, h => st H H' t h
class SH (H0 : outParam Hp) (M : outParam (List Addr)) (H : Hp) (L : outParam (List (Addr × HO))) (I : outParam (List Im)) : Prop where
  fr : ∀ b u, b ∉ M → H0 b = some u → H b = some u
  im : ∀ f ∈ I, f.holds H
  at' : ∀ c ∈ L, H c.1 = some c.2
  nd : (L.map (·.1)).Nodup
  mu : ∀ c ∈ L, isTup c.2 = false
  ch : ∀ c ∈ L, c.1 ∈ M ∨ ∀ b u, H0 b = some u → b ≠ c.1
/-- one entry is put otherwise -/
inductive Up (l : Addr) (o' : HO) : List (Addr × HO) → List (Addr × HO) → Prop
  | head {o : HO} {L : List (Addr × HO)} : Up l o' ((l, o) :: L) ((l, o') :: L)
  | tail {c : Addr × HO} {L L' : List (Addr × HO)} (h : Up l o' L L') : Up l o' (c :: L) (c :: L')
theorem Up.keys {l : Addr} {o' : HO} {L L' : List (Addr × HO)} (h : Up l o' L L') : L'.map (·.1) = L.map (·.1) := by
  induction h with
  | head => rfl
  | tail h ih => rw [List.map_cons, List.map_cons, ih]
theorem Up.mem {l : Addr} {o' : HO} {L L' : List (Addr × HO)} (h : Up l o' L L') : l ∈ L.map (·.1) := by
  induction h with
  | head => exact List.mem_cons_self
  | tail h ih => exact List.mem_cons_of_mem _ ih
theorem Up.each {l : Addr} {o' : HO} {L L' : List (Addr × HO)} (h : Up l o' L L') (nd : (L.map (·.1)).Nodup) : ∀ c ∈ L', c = (l, o') ∨ (c ∈ L ∧ c.1 ≠ l) := by
  induction h with
  | @head o L =>
    intro c hc
    rcases List.mem_cons.mp hc with rfl | hc
    · exact .inl rfl
    · refine .inr ⟨List.mem_cons_of_mem _ hc, fun z => ?_⟩
      rw [List.map_cons] at nd
      exact (List.nodup_cons.mp nd).1 (by show l ∈ _; rw [← z]; exact List.mem_map_of_mem (f := (·.1)) hc)
  | @tail d L L' h ih =>
    intro c hc
    rw [List.map_cons] at nd
    have nd' := List.nodup_cons.mp nd
    rcases List.mem_cons.mp hc with rfl | hc
    · exact .inr ⟨List.mem_cons_self, fun z => nd'.1 (z ▸ h.mem)⟩
    · rcases ih nd'.2 c hc with e | ⟨e1, e2⟩
      · exact .inl e
      · exact .inr ⟨List.mem_cons_of_mem _ e1, e2⟩
theorem Up.src {l : Addr} {o' : HO} {L L' : List (Addr × HO)} (h : Up l o' L L') : ∃ o, (l, o) ∈ L := by
  induction h with
  | head => exact ⟨_, List.mem_cons_self⟩
  | tail h ih => obtain ⟨o, ho⟩ := ih; exact ⟨o, List.mem_cons_of_mem _ ho⟩
inductive Pk (c : Addr × HO) : List (Addr × HO) → List (Addr × HO) → Prop
  | head {L : List (Addr × HO)} : Pk c (c :: L) L
  | tail {d : Addr × HO} {L R : List (Addr × HO)} (h : Pk c L R) : Pk c (d :: L) (d :: R)
inductive Sb : List (Addr × HO) → List (Addr × HO) → Prop
  | nil {L : List (Addr × HO)} : Sb [] L
  | cons {c : Addr × HO} {L' L R : List (Addr × HO)} (h : Pk c L R) (t : Sb L' R) : Sb (c :: L') L
theorem Pk.mem {c : Addr × HO} {L R : List (Addr × HO)} (h : Pk c L R) : c ∈ L ∧ ∀ d ∈ R, d ∈ L := by
  induction h with
  | head => exact ⟨List.mem_cons_self, fun d hd => List.mem_cons_of_mem _ hd⟩
  | tail h ih =>
    refine ⟨List.mem_cons_of_mem _ ih.1, fun d hd => ?_⟩
    rcases List.mem_cons.mp hd with rfl | hd
    · exact List.mem_cons_self
    · exact List.mem_cons_of_mem _ (ih.2 d hd)
theorem Pk.nd {c : Addr × HO} {L R : List (Addr × HO)} (h : Pk c L R) (nd : (L.map (·.1)).Nodup) : (R.map (·.1)).Nodup ∧ ∀ d ∈ R, d.1 ≠ c.1 := by
  induction h with
  | head =>
    rw [List.map_cons] at nd
    have := List.nodup_cons.mp nd
    exact ⟨this.2, fun d hd z => this.1 (z ▸ List.mem_map_of_mem hd)⟩
  | @tail d L R h ih =>
    rw [List.map_cons] at nd
    have nd' := List.nodup_cons.mp nd
    obtain ⟨i1, i2⟩ := ih nd'.2
    refine ⟨by
      rw [List.map_cons, List.nodup_cons]
      refine ⟨fun z => ?_, i1⟩
      obtain ⟨x, hx, ex⟩ := List.mem_map.mp z
      exact nd'.1 (ex ▸ List.mem_map_of_mem (h.mem.2 x hx)), fun x hx => ?_⟩
    rcases List.mem_cons.mp hx with rfl | hx
    · exact fun z => nd'.1 (z ▸ List.mem_map_of_mem h.mem.1)
    · exact i2 x hx
theorem Sb.mem {L' L : List (Addr × HO)} (h : Sb L' L) : ∀ c ∈ L', c ∈ L := by
  induction h with
  | nil => intro c hc; cases hc
  | cons h t ih =>
    intro c hc
    rcases List.mem_cons.mp hc with rfl | hc
    · exact h.mem.1
    · exact h.mem.2 c (ih c hc)
theorem Sb.nd {L' L : List (Addr × HO)} (h : Sb L' L) : (L.map (·.1)).Nodup → (L'.map (·.1)).Nodup := by
  induction h with
  | nil => intro _; exact List.nodup_nil
  | cons h t ih =>
    intro nd
    obtain ⟨n1, n2⟩ := h.nd nd
    rw [List.map_cons, List.nodup_cons]
    refine ⟨fun z => ?_, ih n1⟩
    obtain ⟨x, hx, ex⟩ := List.mem_map.mp z
    exact n2 x (t.mem x hx) ex
section
variable {H0 H H' : Hp} {M : List Addr} {L L' : List (Addr × HO)} {I I' : List Im} {p q l a : Addr} {o o' u : HO} {xs ys r : List V} {rs : List (List V)} {K : PySem.W.Frag}
theorem SH.nil : SH H M H [] [] := ⟨fun _ _ _ h => h, (fun _ h => by cases h), (fun _ h => by cases h), List.nodup_nil, (fun _ h => by cases h), (fun _ h => by cases h)⟩
theorem SH.addM (F : SH H0 M H0 L I) (hm : p ∈ M) (h : H0 p = some o) (ht : isTup o = false) (ne : ∀ c ∈ L, c.1 ≠ p) : SH H0 M H0 ((p, o) :: L) I := by
  refine ⟨F.fr, F.im, ?_, ?_, ?_, ?_⟩
  · intro c hc
    rcases List.mem_cons.mp hc with rfl | hc
    · exact h
    · exact F.at' c hc
  · rw [List.map_cons, List.nodup_cons]
    refine ⟨fun z => ?_, F.nd⟩
    obtain ⟨x, hx, ex⟩ := List.mem_map.mp z
    exact ne x hx ex
  · intro c hc
    rcases List.mem_cons.mp hc with rfl | hc
    · exact ht
    · exact F.mu c hc
  · intro c hc
    rcases List.mem_cons.mp hc with rfl | hc
    · exact .inl hm
    · exact F.ch c hc
theorem SH.addT (F : SH H0 M H L I) (h : H q = some (.tup r)) : SH H0 M H L (.tup q r :: I) := ⟨F.fr, fun f hf => by
  rcases List.mem_cons.mp hf with rfl | hf
  · exact h
  · exact F.im f hf, F.at', F.nd, F.mu, F.ch⟩
theorem SH.addP (F : SH H0 M H L I) (h : TupsAt H ys rs) : SH H0 M H L (.tps ys rs :: I) := ⟨F.fr, fun f hf => by
  rcases List.mem_cons.mp hf with rfl | hf
  · exact h
  · exact F.im f hf, F.at', F.nd, F.mu, F.ch⟩
theorem SH.addF {φ : Hp → Prop} {st : ∀ H H', Tst H H' → φ H → φ H'} (F : SH H0 M H L I) (h : φ H) : SH H0 M H L (.fct φ st :: I) := ⟨F.fr, fun f hf => by
  rcases List.mem_cons.mp hf with rfl | hf
  · exact h
  · exact F.im f hf, F.at', F.nd, F.mu, F.ch⟩
theorem SH.same (F : SH H0 M H L I) (s : Same H H') : SH H0 M H' L I := ⟨fun b u n e => s b u (F.fr b u n e), fun f hf => Im.stay (fun q u _ e => s q u e) (F.im f hf), fun c hc => s _ _ (F.at' c hc), F.nd, F.mu, F.ch⟩
theorem SH.newT (F : SH H0 M H L I) (n : New H H' q (.tup r)) : SH H0 M H' L (.tup q r :: I) := (F.same n.s).addT n.e
theorem SH.newO (F : SH H0 M H L I) (n : New H H' p o) (ht : isTup o = false) : SH H0 M H' ((p, o) :: L) I := by
  have F' := F.same n.s
  refine ⟨F'.fr, F'.im, ?_, ?_, ?_, ?_⟩
  · intro c hc
    rcases List.mem_cons.mp hc with rfl | hc
    · exact n.e
    · exact F'.at' c hc
  · rw [List.map_cons, List.nodup_cons]
    refine ⟨fun z => ?_, F.nd⟩
    obtain ⟨x, hx, ex⟩ := List.mem_map.mp z
    exact n.n _ _ (F.at' x hx) ex
  · intro c hc
    rcases List.mem_cons.mp hc with rfl | hc
    · exact ht
    · exact F.mu c hc
  · intro c hc
    rcases List.mem_cons.mp hc with rfl | hc
    · by_cases hm : p ∈ M
      · exact .inl hm
      · exact .inr fun b u e z => by
          by_cases hb : b ∈ M
          · exact hm (by have z' : b = p := z; rw [← z']; exact hb)
          · exact n.n b u (F.fr b u hb e) z
    · exact F.ch c hc
theorem SH.newL (F : SH H0 M H L I) (n : New H H' p (.lst xs)) : SH H0 M H' ((p, .lst xs) :: L) I := F.newO n rfl
theorem SH.newI {C dx : Addr} {fs : List (Str × V)} (F : SH H0 M H L I) (n : New H H' p (.ins C dx fs)) : SH H0 M H' ((p, .ins C dx fs) :: L) I := F.newO n rfl
theorem SH.newR (F : SH H0 M H L I) (n : New H H' p (.lst ys)) (t : TupsAt H' ys rs) : SH H0 M H' ((p, .lst ys) :: L) (.tps ys rs :: I) := (F.newL n).addP t
theorem SH.kp (F : SH H0 M H L I) (k : Kp l H H') (e : H' l = some o') (u : Up l o' L L') (ht : isTup o' = false := by rfl) : SH H0 M H' L' I := by
  obtain ⟨o, ho⟩ := u.src
  have hl := F.at' _ ho
  have hu := F.mu _ ho
  refine ⟨fun b w nb e0 => k b w (fun z => ?_) (F.fr b w nb e0), fun f hf => Im.stay (fun q v hv e1 => k q _ (fun z => ?_) e1) (F.im f hf), fun c hc => ?_, by rw [u.keys]; exact F.nd, fun c hc => ?_, fun c hc => ?_⟩
  · rcases F.ch _ ho with h | h
    · exact nb (by rw [z]; exact h)
    · exact h b w e0 z
  · rw [z, hl] at e1
    cases e1
    rw [hu] at hv
    cases hv
  · rcases u.each F.nd c hc with rfl | ⟨h1, h2⟩
    · exact e
    · exact k _ _ h2 (F.at' c h1)
  · rcases u.each F.nd c hc with rfl | ⟨h1, h2⟩
    · exact ht
    · exact F.mu c h1
  · rcases u.each F.nd c hc with rfl | ⟨h1, h2⟩
    · exact F.ch (l, o) ho
    · exact F.ch c h1
theorem SH.off (F : SH H0 M H L I) (f : Off l H H') (e : H' l = some o') (u : Up l o' L L') (ht : isTup o' = false := by rfl) : SH H0 M H' L' I := F.kp f.kp e u ht
theorem SH.offL (F : SH H0 M H L I) (f : Off l H H') (e : H' l = some (.lst xs)) (u : Up l (.lst xs) L L') : SH H0 M H' L' I := F.kp f.kp e u rfl
theorem SH.kpL (F : SH H0 M H L I) (f : Kp l H H') (e : H' l = some (.lst xs)) (u : Up l (.lst xs) L L') : SH H0 M H' L' I := F.kp f e u rfl
theorem SH.offI {C dx : Addr} {fs : List (Str × V)} (F : SH H0 M H L I) (f : Off l H H') (e : H' l = some (.ins C dx fs)) (u : Up l (.ins C dx fs) L L') : SH H0 M H' L' I := F.kp f.kp e u rfl
theorem SH.raw (F : SH H0 M H L I) (m : (a, o) ∈ L) : H a = some o := F.at' _ m
theorem SH.tup (F : SH H0 M H L I) (m : .tup q r ∈ I) : H q = some (.tup r) := F.im _ m
theorem SH.tps (F : SH H0 M H L I) (m : .tps ys rs ∈ I) : TupsAt H ys rs := F.im _ m
theorem SH.old (F : SH H0 M H L I) (h : H0 a = some u) (n : a ∉ M) : H a = some u := F.fr a u n h
theorem SH.sq (F : SH H0 M H L I) (h : SqL K H0 a xs) (n : a ∉ M) : SqL K H a xs := by
  rcases h with (h | ⟨o, h⟩) | h
  · exact .inl (.inl (F.fr a _ n h))
  · exact .inl (.inr ⟨o, F.fr a _ n h⟩)
  · exact .inr h
theorem SH.sub (F : SH H0 M H L I) (s : Sb L' L) (t : ∀ f ∈ I', f ∈ I) : SH H0 M H L' I' := ⟨F.fr, fun f hf => F.im f (t f hf), fun c hc => F.at' c (s.mem c hc), s.nd F.nd, fun c hc => F.mu c (s.mem c hc), fun c hc => F.ch c (s.mem c hc)⟩
theorem SH.sm (F : SH H0 [] H L I) : Same H0 H := fun b u e => F.fr b u List.not_mem_nil e
theorem SH.kpo (F : SH H0 [p] H L I) : Kp p H0 H := fun b u n e => F.fr b u (fun z => n (List.mem_singleton.mp z)) e
theorem SH.nw (F : SH H0 [] H L I) (m : (q, o) ∈ L) : New H0 H q o := ⟨F.sm, F.at' _ m, fun b u e => by
  rcases F.ch _ m with h | h
  · exact absurd h List.not_mem_nil
  · exact h b u e⟩
theorem SH.fresh (F : SH H0 M H L I) (m : (q, o) ∈ L) (n : q ∉ M) : ∀ b u, H0 b = some u → b ≠ q := fun b u e => by
  rcases F.ch _ m with h | h
  · exact absurd h n
  · exact h b u e
theorem nm0 : a ∉ ([] : List Addr) := List.not_mem_nil
theorem nm1 (h : a ≠ p) : a ∉ [p] := fun z => h (List.mem_singleton.mp z)
end
end L2
set_option Elab.async false
set_option linter.all false
set_option maxRecDepth 100000
set_option maxHeartbeats 4000000
namespace L2
open PySem PySem.Spec PyProof.Rows PySem.SeqAt
class Go (G : Prop) (G' : outParam Prop) : Prop where
  go : G' → G
theorem go1 {G G' : Prop} [h : Go G G'] (k : G') : G := h.go k
class LkL (L : List (Addr × HO)) (a : Addr) (o : outParam HO) : Prop where
  m : (a, o) ∈ L
class LkI (I : List Im) (a : Addr) (r : outParam (List V)) : Prop where
  m : .tup a r ∈ I
class LkP (I : List Im) (ys : List V) (rs : outParam (List (List V))) : Prop where
  m : .tps ys rs ∈ I
class LkU (L : List (Addr × HO)) (l : Addr) (o : HO) (L' : outParam (List (Addr × HO))) : Prop where
  u : Up l o L L'
class Old (H0 : Hp) (M : List Addr) (a : Addr) (o : outParam HO) : Prop where
  e : H0 a = some o
  n : a ∉ M
class OldQ (K : PySem.W.Frag) (H0 : Hp) (M : List Addr) (a : Addr) (xs : outParam (List V)) : Prop where
  e : SqL K H0 a xs
  n : a ∉ M
class OldP (H0 : Hp) (ys : List V) (rs : outParam (List (List V))) : Prop where
  e : TupsAt H0 ys rs
/-- what stands at a -/
class Hat (H : Hp) (a : Addr) (o : outParam HO) : Prop where
  e : H a = some o
class SqA (K : PySem.W.Frag) (H : Hp) (a : Addr) (xs : outParam (List V)) : Prop where
  e : SqL K H a xs
class SqB (K : PySem.W.Frag) (H : Hp) (a : Addr) (xs : outParam (List V)) : Prop where
  e : SqT K H a xs
class TpA (H : Hp) (ys : List V) (rs : outParam (List (List V))) : Prop where
  e : TupsAt H ys rs
class AtI (xs : List V) (i : Int) (v : outParam V) : Prop where
  e : atI xs i = some v
section
variable {H0 H H' : Hp} {M : List Addr} {L L' : List (Addr × HO)} {I : List Im} {a p l : Addr} {o o' : HO} {c : Addr × HO} {f : Im} {r xs ys : List V} {rs : List (List V)} {K : PySem.W.Frag} {v v0 v1 v2 v3 : V}
instance lkL1 [h : LkL L a o] : LkL (c :: L) a o := ⟨List.mem_cons_of_mem _ h.m⟩
instance lkL0 : LkL ((a, o) :: L) a o := ⟨List.mem_cons_self⟩
instance lkI1 [h : LkI I a r] : LkI (f :: I) a r := ⟨List.mem_cons_of_mem _ h.m⟩
instance lkI0 : LkI (.tup a r :: I) a r := ⟨List.mem_cons_self⟩
instance lkP1 [h : LkP I ys rs] : LkP (f :: I) ys rs := ⟨List.mem_cons_of_mem _ h.m⟩
instance lkP0 : LkP (.tps ys rs :: I) ys rs := ⟨List.mem_cons_self⟩
instance lkU1 [h : LkU L l o L'] : LkU (c :: L) l o (c :: L') := ⟨.tail h.u⟩
instance lkU0 : LkU ((l, o') :: L) l o ((l, o) :: L) := ⟨.head⟩
instance hat_old [F : SH H0 M H L I] [h : Old H0 M a o] : Hat H a o := ⟨F.fr a o h.n h.e⟩
instance hat_tup [F : SH H0 M H L I] [h : LkI I a r] : Hat H a (.tup r) := ⟨F.tup h.m⟩
instance hat_lst [F : SH H0 M H L I] [h : LkL L a o] : Hat H a o := ⟨F.raw h.m⟩
instance sqA_old [F : SH H0 M H L I] [h : OldQ K H0 M a xs] : SqA K H a xs := ⟨F.sq h.e h.n⟩
instance sqA_hat [h : Hat H a (.lst xs)] : SqA K H a xs := ⟨.of h.e⟩
instance sqB_hat [h : Hat H a (.tup xs)] : SqB K H a xs := ⟨.of h.e⟩
instance tpA_old {H0 : Hp} {L : List (Addr × HO)} {I : List Im} [F : SH H0 [] H L I] [h : OldP H0 ys rs] : TpA H ys rs := ⟨h.e.same F.sm⟩
instance tpA_tps [F : SH H0 M H L I] [h : LkP I ys rs] : TpA H ys rs := ⟨F.tps h.m⟩
instance at0 : AtI (v :: r) 0 v := ⟨atI_0⟩
instance at1 : AtI (v0 :: v :: r) 1 v := ⟨atL1⟩
instance at2 : AtI (v0 :: v1 :: v :: r) 2 v := ⟨atL2⟩
instance at3 : AtI (v0 :: v1 :: v2 :: v :: r) 3 v := ⟨atL3⟩
variable {Z : Addr → Hp → Prop} {R : Hp → Prop} {C dx : Addr} {fs : List (Str × V)}
instance nx_tup [F : SH H0 M H L I] : Go (∀ p H', New H H' p (.tup xs) → Z p H') (∀ H' p, SH H0 M H' L (.tup p xs :: I) → Z p H') := ⟨fun k p H' n => k H' p (F.newT n)⟩
instance nx_lst [F : SH H0 M H L I] : Go (∀ p H', New H H' p (.lst xs) → Z p H') (∀ H' p, SH H0 M H' ((p, .lst xs) :: L) I → Z p H') := ⟨fun k p H' n => k H' p (F.newL n)⟩
instance nx_off [F : SH H0 M H L I] [u : LkU L l (.lst xs) L'] : Go (∀ H', Off l H H' → H' l = some (.lst xs) → R H') (∀ H', SH H0 M H' L' I → R H') := ⟨fun k H' f e => k H' (F.offL f e u.u)⟩
instance nx_offI [F : SH H0 M H L I] [u : LkU L l (.ins C dx fs) L'] : Go (∀ H', Off l H H' → H' l = some (.ins C dx fs) → R H') (∀ H', SH H0 M H' L' I → R H') := ⟨fun k H' f e => k H' (F.offI f e u.u)⟩
instance nx_kp [F : SH H0 M H L I] [u : LkU L l (.lst xs) L'] : Go (∀ H', Kp l H H' → H' l = some (.lst xs) → R H') (∀ H', SH H0 M H' L' I → R H') := ⟨fun k H' f e => k H' (F.kpL f e u.u)⟩
instance nx_same [F : SH H0 M H L I] : Go (∀ H', Same H H' → R H') (∀ H', SH H0 M H' L I → R H') := ⟨fun k H' s => k H' (F.same s)⟩
instance nx_rows [F : SH H0 M H L I] : Go (∀ p ys H', New H H' p (.lst ys) → TupsAt H' ys rs → Z p H') (∀ H' p ys, ys.length = rs.length → SH H0 M H' ((p, .lst ys) :: L) (.tps ys rs :: I) → Z p H') := ⟨fun k p ys H' n t => k H' p ys t.1 (F.newR n t)⟩
/-- a side condition, and what is left -/
def Sd (A B : Prop) : Prop := A ∧ B
theorem sd {A B : Prop} (a : A) (b : B) : Sd A B := ⟨a, b⟩
class FldOk (K : PySem.W.Frag) (C : Addr) (f : Str) : Prop where
  c : Cls K C
  n : NoAttr K C f
class FLk (fs : List (Str × V)) (f : Str) (v : outParam V) : Prop where
  e : fs.lookup f = some v
class FNo (fs : List (Str × V)) (f : Str) : Prop where
  e : fs.lookup f = none
theorem hatC [h : Hat H a o] : H a = some o := h.e
variable {Q : VK} {E : XK} {R' : Prop} {σ : St} {i j : Int} {f m : Str} {y : V} {b : Addr} {lo hi : Option Int}
instance nx_ins [F : SH H0 M H L I] {Z : Addr → Addr → Hp → Prop} : Go (∀ x dx H', New H H' x (.ins C dx []) → Z x dx H') (∀ H' x dx, SH H0 M H' ((x, .ins C dx []) :: L) I → Z x dx H') := ⟨fun k p dx H' n => k H' p dx (F.newI n)⟩
instance go_made {n : Nat} : Go (n ≤ sizeLine ∧ ∀ p H', New H H' p o → Z p H') (Sd (n ≤ sizeLine) (∀ p H', New H H' p o → Z p H')) := ⟨id⟩
instance go_isTT [h : Hat H l (.tup xs)] : Go (rIsT K [.ref l, .ty "tuple"] H Q) (Q (.bl true) H) := ⟨w_isTT h.e⟩
instance go_isLL [h : Hat H l (.lst xs)] : Go (rIsT K [.ref l, .ty "list"] H Q) (Q (.bl true) H) := ⟨w_isLL h.e⟩
instance go_isTL [h : Hat H l (.tup xs)] : Go (rIsT K [.ref l, .ty "list"] H Q) (Q (.bl false) H) := ⟨w_isTL h.e⟩
instance go_isLT [h : Hat H l (.lst xs)] : Go (rIsT K [.ref l, .ty "tuple"] H Q) (Q (.bl false) H) := ⟨w_isLT h.e⟩
instance go_lenT [h : SqB K H l xs] : Go (rLen K [.ref l] H Q) (Q (.int xs.length) H) := ⟨w_lenT h.e⟩
instance go_lenL [h : SqA K H l xs] : Go (rLen K [.ref l] H Q) (Q (.int xs.length) H) := ⟨w_lenL h.e⟩
instance go_ixL [h : SqA K H l xs] [e : AtI xs i v] : Go (rIxL K (.ref l) (.int i) H Q) (Q v H) := ⟨w_ixL h.e e.e⟩
instance go_ixT [h : SqB K H l xs] [e : AtI xs i v] : Go (rIxT K (.ref l) (.int i) H Q) (Q v H) := ⟨w_ixT h.e e.e⟩
instance go_tyL [h : SqA K H l xs] : Go (tyV K "list" (.ref l) H ∧ R') R' := ⟨w_tyL h.e⟩
instance go_clr [h : Hat H l (.lst xs)] : Go (rClearA (.ref l) [] H Q) (∀ H', Off l H H' → H' l = some (.lst []) → Q .non H') := ⟨w_clr h.e⟩
instance go_app [h : Hat H l (.lst xs)] : Go (rAppA (.ref l) [y] H Q) (Sd (xs.length < sizeLine) (∀ H', Off l H H' → H' l = some (.lst (xs ++ [y])) → Q .non H')) := ⟨fun s => w_app h.e s.1 s.2⟩
instance go_ext [h : Hat H l (.lst xs)] [h2 : Hat H b (.lst ys)] : Go (rExtA (.ref l) [.ref b] H Q) (Sd (xs.length + ys.length ≤ sizeLine) (∀ H', Off l H H' → H' l = some (.lst (xs ++ ys)) → Q .non H')) := ⟨fun s => w_ext h.e h2.e s.1 s.2⟩
instance go_slA [h : SqA K H l xs] : Go (rSlA K (.ref l) lo hi H Q) (∀ p H', New H H' p (.lst (cutV xs lo hi)) → Q (.ref p) H') := ⟨w_slA h.e⟩
instance go_catA [h : Hat H l (.lst xs)] [h2 : Hat H b (.lst ys)] : Go (rCatA (.ref l) (.ref b) H Q) (Sd (xs.length + ys.length ≤ sizeLine) (∀ p H', New H H' p (.lst (xs ++ ys)) → Q (.ref p) H')) := ⟨fun s => w_catA h.e h2.e s.1 s.2⟩
instance go_lofT [h : SqB K H l xs] : Go (rLOfA K [.ref l] H Q) (∀ p H', New H H' p (.lst xs) → Q (.ref p) H') := ⟨w_lofT h.e⟩
instance go_lofL [h : SqA K H l xs] : Go (rLOfA K [.ref l] H Q) (∀ p H', New H H' p (.lst xs) → Q (.ref p) H') := ⟨w_lofL h.e⟩
instance go_rep1 {n : Nat} [h : Hat H l (.lst [y])] : Go (rRepA (.ref l) (.int (n : Int)) H Q) (Sd (n ≤ 1000000) (∀ p H', New H H' p (.lst (List.replicate n y)) → Q (.ref p) H')) := ⟨fun s => w_rep1 h.e s.1 s.2⟩
instance go_tup2 {n i0 i1 : Nat} {a b : V} {R : St → Hp → Prop} [h : SqB K H l [a, b]] : Go (gTup K n (gCons (gName i0) (gCons (gName i1) gNil)) (.ref l) σ H R) (Sd (n = 2) (gName i0 a σ H fun σ1 H1 => gName i1 b σ1 H1 R)) := ⟨fun s => w_tupB s.1 h.e s.2⟩
instance go_mod {f : Int → Int → V} : Go (rI (fun _ j => 0 < j) f (.int i) (.int j) H Q) (Sd (0 < j) (Q (f i j) H)) := ⟨fun s => w_mod s.1 s.2⟩
instance go_div {f : Int → Int → V} : Go (rI CDiv f (.int i) (.int j) H Q) (Sd (0 < j ∧ j < 1073741824) (Q (f i j) H)) := ⟨fun s => w_div s.1.1 s.1.2 s.2⟩
instance go_pow {f : Int → Int → V} : Go (rI CPow f (.int i) (.int j) H Q) (Sd (0 ≤ j ∧ j ≤ 1000000 ∧ i.natAbs < 2 ^ 64) (Q (f i j) H)) := ⟨fun s => w_pow s.1.1 s.1.2.1 s.1.2.2 s.2⟩
instance go_mul {f : Int → Int → V} : Go (rI CMul f (.int i) (.int j) H Q) (Sd ((-(2 ^ 64) < i ∧ i < 2 ^ 64) ∨ (-(2 ^ 64) < j ∧ j < 2 ^ 64)) (Q (f i j) H)) := ⟨fun s => s.1.elim (fun h => w_mulL h.1 h.2 s.2) (fun h => w_mulR h.1 h.2 s.2)⟩
instance go_w_fld [h : Hat H a (.ins C dx fs)] [k : FldOk K C f] [e : FLk fs f v] {R : V → Prop} : Go (∃ a' C' dx' fs' v', V.ref a = .ref a' ∧ H a' = some (.ins C' dx' fs') ∧ Cls K C' ∧ NoAttr K C' f ∧ fs'.lookup f = some v' ∧ R v') (R v) := ⟨w_fld h.e k.c k.n e.e⟩
instance go_w_meth [h : Hat H l (.ins C dx fs)] [e : FNo fs m] : Go (∃ a' dx' fs', V.ref l = .ref a' ∧ H a' = some (.ins C dx' fs') ∧ fs'.lookup m = none ∧ R') R' := ⟨w_meth h.e e.e⟩
instance go_setF [h : Hat H l (.ins C dx fs)] [k : FldOk K C f] : Go (SetF K f y (.ref l) H R) (Sd (fs.length < 1000) (∀ H', Off l H H' → H' l = some (.ins C dx (putF f y fs)) → R H')) := ⟨fun s => w_setF h.e k.c k.n s.1 s.2⟩
instance go_aug0 {r : St} {te : TE} {ti : TIp} {D : Ends} : Go (tAug 0 te ti D (some v :: r) H) (te (some v :: r) H fun y H1 => ti v y H1 fun z H2 => D.nx (some z :: r) H2) := ⟨fun h => go_aug (v := v) rfl h⟩
instance go_aug1 {o0 : Option V} {r : St} {te : TE} {ti : TIp} {D : Ends} : Go (tAug 1 te ti D (o0 :: some v :: r) H) (te (o0 :: some v :: r) H fun y H1 => ti v y H1 fun z H2 => D.nx (o0 :: some z :: r) H2) := ⟨fun h => go_aug (v := v) rfl h⟩
instance go_aug2 {o0 o1 : Option V} {r : St} {te : TE} {ti : TIp} {D : Ends} : Go (tAug 2 te ti D (o0 :: o1 :: some v :: r) H) (te (o0 :: o1 :: some v :: r) H fun y H1 => ti v y H1 fun z H2 => D.nx (o0 :: o1 :: some z :: r) H2) := ⟨fun h => go_aug (v := v) rfl h⟩
instance go_aug3 {o0 o1 o2 : Option V} {r : St} {te : TE} {ti : TIp} {D : Ends} : Go (tAug 3 te ti D (o0 :: o1 :: o2 :: some v :: r) H) (te (o0 :: o1 :: o2 :: some v :: r) H fun y H1 => ti v y H1 fun z H2 => D.nx (o0 :: o1 :: o2 :: some z :: r) H2) := ⟨fun h => go_aug (v := v) rfl h⟩
instance go_aug4 {o0 o1 o2 o3 : Option V} {r : St} {te : TE} {ti : TIp} {D : Ends} : Go (tAug 4 te ti D (o0 :: o1 :: o2 :: o3 :: some v :: r) H) (te (o0 :: o1 :: o2 :: o3 :: some v :: r) H fun y H1 => ti v y H1 fun z H2 => D.nx (o0 :: o1 :: o2 :: o3 :: some z :: r) H2) := ⟨fun h => go_aug (v := v) rfl h⟩
instance go_aug5 {o0 o1 o2 o3 o4 : Option V} {r : St} {te : TE} {ti : TIp} {D : Ends} : Go (tAug 5 te ti D (o0 :: o1 :: o2 :: o3 :: o4 :: some v :: r) H) (te (o0 :: o1 :: o2 :: o3 :: o4 :: some v :: r) H fun y H1 => ti v y H1 fun z H2 => D.nx (o0 :: o1 :: o2 :: o3 :: o4 :: some z :: r) H2) := ⟨fun h => go_aug (v := v) rfl h⟩
instance go_aug6 {o0 o1 o2 o3 o4 o5 : Option V} {r : St} {te : TE} {ti : TIp} {D : Ends} : Go (tAug 6 te ti D (o0 :: o1 :: o2 :: o3 :: o4 :: o5 :: some v :: r) H) (te (o0 :: o1 :: o2 :: o3 :: o4 :: o5 :: some v :: r) H fun y H1 => ti v y H1 fun z H2 => D.nx (o0 :: o1 :: o2 :: o3 :: o4 :: o5 :: some z :: r) H2) := ⟨fun h => go_aug (v := v) rfl h⟩
instance go_aug7 {o0 o1 o2 o3 o4 o5 o6 : Option V} {r : St} {te : TE} {ti : TIp} {D : Ends} : Go (tAug 7 te ti D (o0 :: o1 :: o2 :: o3 :: o4 :: o5 :: o6 :: some v :: r) H) (te (o0 :: o1 :: o2 :: o3 :: o4 :: o5 :: o6 :: some v :: r) H fun y H1 => ti v y H1 fun z H2 => D.nx (o0 :: o1 :: o2 :: o3 :: o4 :: o5 :: o6 :: some z :: r) H2) := ⟨fun h => go_aug (v := v) rfl h⟩
instance go_aug8 {o0 o1 o2 o3 o4 o5 o6 o7 : Option V} {r : St} {te : TE} {ti : TIp} {D : Ends} : Go (tAug 8 te ti D (o0 :: o1 :: o2 :: o3 :: o4 :: o5 :: o6 :: o7 :: some v :: r) H) (te (o0 :: o1 :: o2 :: o3 :: o4 :: o5 :: o6 :: o7 :: some v :: r) H fun y H1 => ti v y H1 fun z H2 => D.nx (o0 :: o1 :: o2 :: o3 :: o4 :: o5 :: o6 :: o7 :: some z :: r) H2) := ⟨fun h => go_aug (v := v) rfl h⟩
instance go_aug9 {o0 o1 o2 o3 o4 o5 o6 o7 o8 : Option V} {r : St} {te : TE} {ti : TIp} {D : Ends} : Go (tAug 9 te ti D (o0 :: o1 :: o2 :: o3 :: o4 :: o5 :: o6 :: o7 :: o8 :: some v :: r) H) (te (o0 :: o1 :: o2 :: o3 :: o4 :: o5 :: o6 :: o7 :: o8 :: some v :: r) H fun y H1 => ti v y H1 fun z H2 => D.nx (o0 :: o1 :: o2 :: o3 :: o4 :: o5 :: o6 :: o7 :: o8 :: some z :: r) H2) := ⟨fun h => go_aug (v := v) rfl h⟩
instance go_aug10 {o0 o1 o2 o3 o4 o5 o6 o7 o8 o9 : Option V} {r : St} {te : TE} {ti : TIp} {D : Ends} : Go (tAug 10 te ti D (o0 :: o1 :: o2 :: o3 :: o4 :: o5 :: o6 :: o7 :: o8 :: o9 :: some v :: r) H) (te (o0 :: o1 :: o2 :: o3 :: o4 :: o5 :: o6 :: o7 :: o8 :: o9 :: some v :: r) H fun y H1 => ti v y H1 fun z H2 => D.nx (o0 :: o1 :: o2 :: o3 :: o4 :: o5 :: o6 :: o7 :: o8 :: o9 :: some z :: r) H2) := ⟨fun h => go_aug (v := v) rfl h⟩
instance go_aug11 {o0 o1 o2 o3 o4 o5 o6 o7 o8 o9 o10 : Option V} {r : St} {te : TE} {ti : TIp} {D : Ends} : Go (tAug 11 te ti D (o0 :: o1 :: o2 :: o3 :: o4 :: o5 :: o6 :: o7 :: o8 :: o9 :: o10 :: some v :: r) H) (te (o0 :: o1 :: o2 :: o3 :: o4 :: o5 :: o6 :: o7 :: o8 :: o9 :: o10 :: some v :: r) H fun y H1 => ti v y H1 fun z H2 => D.nx (o0 :: o1 :: o2 :: o3 :: o4 :: o5 :: o6 :: o7 :: o8 :: o9 :: o10 :: some z :: r) H2) := ⟨fun h => go_aug (v := v) rfl h⟩
instance go_aug12 {o0 o1 o2 o3 o4 o5 o6 o7 o8 o9 o10 o11 : Option V} {r : St} {te : TE} {ti : TIp} {D : Ends} : Go (tAug 12 te ti D (o0 :: o1 :: o2 :: o3 :: o4 :: o5 :: o6 :: o7 :: o8 :: o9 :: o10 :: o11 :: some v :: r) H) (te (o0 :: o1 :: o2 :: o3 :: o4 :: o5 :: o6 :: o7 :: o8 :: o9 :: o10 :: o11 :: some v :: r) H fun y H1 => ti v y H1 fun z H2 => D.nx (o0 :: o1 :: o2 :: o3 :: o4 :: o5 :: o6 :: o7 :: o8 :: o9 :: o10 :: o11 :: some z :: r) H2) := ⟨fun h => go_aug (v := v) rfl h⟩
instance go_aug13 {o0 o1 o2 o3 o4 o5 o6 o7 o8 o9 o10 o11 o12 : Option V} {r : St} {te : TE} {ti : TIp} {D : Ends} : Go (tAug 13 te ti D (o0 :: o1 :: o2 :: o3 :: o4 :: o5 :: o6 :: o7 :: o8 :: o9 :: o10 :: o11 :: o12 :: some v :: r) H) (te (o0 :: o1 :: o2 :: o3 :: o4 :: o5 :: o6 :: o7 :: o8 :: o9 :: o10 :: o11 :: o12 :: some v :: r) H fun y H1 => ti v y H1 fun z H2 => D.nx (o0 :: o1 :: o2 :: o3 :: o4 :: o5 :: o6 :: o7 :: o8 :: o9 :: o10 :: o11 :: o12 :: some z :: r) H2) := ⟨fun h => go_aug (v := v) rfl h⟩
end
instance go_go_seq {σ : L2.St} {H : Hp} {D : Ends} {s u : TS} : Go (tSeq s u D σ H) (s (Ends.mk (u D) (Ends.rt D) (Ends.bk D) (Ends.ct D)) σ H) := ⟨go_seq⟩
instance go_go_asg {σ : L2.St} {H : Hp} {t : TE} {D : Ends} {tg : TG} : Go (tAsg t tg D σ H) ((t σ H fun (x : V) (H1 : Hp) ↦ tg x σ H1 (Ends.nx D))) := ⟨go_asg⟩
instance go_go_ret {σ : L2.St} {H : Hp} {t : TE} {D : Ends} : Go (tRet t D σ H) (t σ H (Ends.rt D)) := ⟨go_ret⟩
instance go_go_if {σ : L2.St} {H : Hp} {D : Ends} {s u : TS} {c : TT} : Go (tIfS c s u D σ H) ((c σ H fun (b : Bool) (H1 : Hp) ↦ if b = true then s D σ H1 else u D σ H1)) := ⟨go_if⟩
instance go_go_drop {σ : L2.St} {H : Hp} {t : TE} {D : Ends} : Go (tDrop t D σ H) ((t σ H fun (x : V) (H1 : Hp) ↦ Ends.nx D σ H1)) := ⟨go_drop⟩
instance go_go_next {σ : L2.St} {H : Hp} {D : Ends} : Go (tNext D σ H) (Ends.nx D σ H) := ⟨go_next⟩
instance go_go_nx {σ : L2.St} {H : Hp} {nx bk ct : L2.St → Hp → Prop} {rt : VK} : Go (Ends.nx (Ends.mk nx rt bk ct) σ H) (nx σ H) := ⟨go_nx⟩
instance go_w_rt {H : Hp} {v : V} {nx bk ct : L2.St → Hp → Prop} {rt : VK} : Go (Ends.rt (Ends.mk nx rt bk ct) v H) (rt v H) := ⟨w_rt⟩
instance go_go_test {σ : L2.St} {H : Hp} {t : TE} {Q : Bool → Hp → Prop} : Go (tTest t σ H Q) ((t σ H fun (x : V) (H' : Hp) ↦ ∃ (k : Bool), x = V.bl k ∧ Q k H')) := ⟨go_test⟩
instance go_go_b {σ : L2.St} {H : Hp} {t : TE} {Q : Bool → Hp → Prop} : Go (tB t σ H Q) ((t σ H fun (x : V) (H' : Hp) ↦ ∃ (k : Bool), x = V.bl k ∧ Q k H')) := ⟨go_b⟩
instance go_go_op {σ : L2.St} {H : Hp} {ta tb : TE} {Q : VK} {r : R2} : Go (tOp r ta tb σ H Q) ((ta σ H fun (x : V) (H1 : Hp) ↦ tb σ H1 fun (y : V) (H2 : Hp) ↦ r x y H2 Q)) := ⟨go_op⟩
instance go_go_cb {σ : L2.St} {H : Hp} {tr : TA} {Q : VK} {r : List V → Hp → VK → Prop} : Go (tCB r tr σ H Q) ((tr σ H fun (vs : List V) (H1 : Hp) ↦ r vs H1 Q)) := ⟨go_cb⟩
instance go_go_cons {σ : L2.St} {H : Hp} {t : TE} {tr : TA} {Q : List V → Hp → Prop} : Go (tCons t tr σ H Q) ((t σ H fun (x : V) (H1 : Hp) ↦ tr σ H1 fun (xs : List V) (H2 : Hp) ↦ Q (x :: xs) H2)) := ⟨go_cons⟩
instance go_go_nil {σ : L2.St} {H : Hp} {Q : List V → Hp → Prop} : Go (tNil σ H Q) (Q [] H) := ⟨go_nil⟩
instance go_w_call {σ : L2.St} {H : Hp} {Q : VK} {tr : TA} {sp : Sp} {E : XK} : Go (tCall sp [] E tr σ H Q) ((tr σ H fun (vs : List V) (H1 : Hp) ↦ sp vs H1 Q E)) := ⟨w_call⟩
instance go_w_c {σ : L2.St} {H : Hp} {Q : VK} {v : V} : Go (tC v σ H Q) (Q v H) := ⟨w_c⟩
instance go_wv0 {H : Hp} {Q : VK} {v : V} {r : L2.St} : Go (tVar 0 (some v :: r) H Q) (Q v H) := ⟨wv0⟩
instance go_wv1 {H : Hp} {Q : VK} {v : V} {o0 : Option V} {r : L2.St} : Go (tVar 1 (o0 :: some v :: r) H Q) (Q v H) := ⟨wv1⟩
instance go_wv2 {H : Hp} {Q : VK} {v : V} {o0 o1 : Option V} {r : L2.St} : Go (tVar 2 (o0 :: o1 :: some v :: r) H Q) (Q v H) := ⟨wv2⟩
instance go_wv3 {H : Hp} {Q : VK} {v : V} {o0 o1 o2 : Option V} {r : L2.St} : Go (tVar 3 (o0 :: o1 :: o2 :: some v :: r) H Q) (Q v H) := ⟨wv3⟩
instance go_wv4 {H : Hp} {Q : VK} {v : V} {o0 o1 o2 o3 : Option V} {r : L2.St} : Go (tVar 4 (o0 :: o1 :: o2 :: o3 :: some v :: r) H Q) (Q v H) := ⟨wv4⟩
instance go_wv5 {H : Hp} {Q : VK} {v : V} {o0 o1 o2 o3 o4 : Option V} {r : L2.St} : Go (tVar 5 (o0 :: o1 :: o2 :: o3 :: o4 :: some v :: r) H Q) (Q v H) := ⟨wv5⟩
instance go_wv6 {H : Hp} {Q : VK} {v : V} {o0 o1 o2 o3 o4 o5 : Option V} {r : L2.St} : Go (tVar 6 (o0 :: o1 :: o2 :: o3 :: o4 :: o5 :: some v :: r) H Q) (Q v H) := ⟨wv6⟩
instance go_wv7 {H : Hp} {Q : VK} {v : V} {o0 o1 o2 o3 o4 o5 o6 : Option V} {r : L2.St} : Go (tVar 7 (o0 :: o1 :: o2 :: o3 :: o4 :: o5 :: o6 :: some v :: r) H Q) (Q v H) := ⟨wv7⟩
instance go_wv8 {H : Hp} {Q : VK} {v : V} {o0 o1 o2 o3 o4 o5 o6 o7 : Option V} {r : L2.St} : Go (tVar 8 (o0 :: o1 :: o2 :: o3 :: o4 :: o5 :: o6 :: o7 :: some v :: r) H Q) (Q v H) := ⟨wv8⟩
instance go_wv9 {H : Hp} {Q : VK} {v : V} {o0 o1 o2 o3 o4 o5 o6 o7 o8 : Option V} {r : L2.St} : Go (tVar 9 (o0 :: o1 :: o2 :: o3 :: o4 :: o5 :: o6 :: o7 :: o8 :: some v :: r) H Q) (Q v H) := ⟨wv9⟩
instance go_wv10 {H : Hp} {Q : VK} {v : V} {o0 o1 o2 o3 o4 o5 o6 o7 o8 o9 : Option V} {r : L2.St} : Go (tVar 10 (o0 :: o1 :: o2 :: o3 :: o4 :: o5 :: o6 :: o7 :: o8 :: o9 :: some v :: r) H Q) (Q v H) := ⟨wv10⟩
instance go_wv11 {H : Hp} {Q : VK} {v : V} {o0 o1 o2 o3 o4 o5 o6 o7 o8 o9 o10 : Option V} {r : L2.St} : Go (tVar 11 (o0 :: o1 :: o2 :: o3 :: o4 :: o5 :: o6 :: o7 :: o8 :: o9 :: o10 :: some v :: r) H Q) (Q v H) := ⟨wv11⟩
instance go_wv12 {H : Hp} {Q : VK} {v : V} {o0 o1 o2 o3 o4 o5 o6 o7 o8 o9 o10 o11 : Option V} {r : L2.St} : Go (tVar 12 (o0 :: o1 :: o2 :: o3 :: o4 :: o5 :: o6 :: o7 :: o8 :: o9 :: o10 :: o11 :: some v :: r) H Q) (Q v H) := ⟨wv12⟩
instance go_wv13 {H : Hp} {Q : VK} {v : V} {o0 o1 o2 o3 o4 o5 o6 o7 o8 o9 o10 o11 o12 : Option V} {r : L2.St} : Go (tVar 13 (o0 :: o1 :: o2 :: o3 :: o4 :: o5 :: o6 :: o7 :: o8 :: o9 :: o10 :: o11 :: o12 :: some v :: r) H Q) (Q v H) := ⟨wv13⟩
instance go_wn0 {H : Hp} {v : V} {o : Option V} {r : L2.St} {R : L2.St → Hp → Prop} : Go (gName 0 v (o :: r) H R) (R (some v :: r) H) := ⟨wn0⟩
instance go_wn1 {H : Hp} {v : V} {o0 o : Option V} {r : L2.St} {R : L2.St → Hp → Prop} : Go (gName 1 v (o0 :: o :: r) H R) (R (o0 :: some v :: r) H) := ⟨wn1⟩
instance go_wn2 {H : Hp} {v : V} {o0 o1 o : Option V} {r : L2.St} {R : L2.St → Hp → Prop} : Go (gName 2 v (o0 :: o1 :: o :: r) H R) (R (o0 :: o1 :: some v :: r) H) := ⟨wn2⟩
instance go_wn3 {H : Hp} {v : V} {o0 o1 o2 o : Option V} {r : L2.St} {R : L2.St → Hp → Prop} : Go (gName 3 v (o0 :: o1 :: o2 :: o :: r) H R) (R (o0 :: o1 :: o2 :: some v :: r) H) := ⟨wn3⟩
instance go_wn4 {H : Hp} {v : V} {o0 o1 o2 o3 o : Option V} {r : L2.St} {R : L2.St → Hp → Prop} : Go (gName 4 v (o0 :: o1 :: o2 :: o3 :: o :: r) H R) (R (o0 :: o1 :: o2 :: o3 :: some v :: r) H) := ⟨wn4⟩
instance go_wn5 {H : Hp} {v : V} {o0 o1 o2 o3 o4 o : Option V} {r : L2.St} {R : L2.St → Hp → Prop} : Go (gName 5 v (o0 :: o1 :: o2 :: o3 :: o4 :: o :: r) H R) (R (o0 :: o1 :: o2 :: o3 :: o4 :: some v :: r) H) := ⟨wn5⟩
instance go_wn6 {H : Hp} {v : V} {o0 o1 o2 o3 o4 o5 o : Option V} {r : L2.St} {R : L2.St → Hp → Prop} : Go (gName 6 v (o0 :: o1 :: o2 :: o3 :: o4 :: o5 :: o :: r) H R) (R (o0 :: o1 :: o2 :: o3 :: o4 :: o5 :: some v :: r) H) := ⟨wn6⟩
instance go_wn7 {H : Hp} {v : V} {o0 o1 o2 o3 o4 o5 o6 o : Option V} {r : L2.St} {R : L2.St → Hp → Prop} : Go (gName 7 v (o0 :: o1 :: o2 :: o3 :: o4 :: o5 :: o6 :: o :: r) H R) (R (o0 :: o1 :: o2 :: o3 :: o4 :: o5 :: o6 :: some v :: r) H) := ⟨wn7⟩
instance go_wn8 {H : Hp} {v : V} {o0 o1 o2 o3 o4 o5 o6 o7 o : Option V} {r : L2.St} {R : L2.St → Hp → Prop} : Go (gName 8 v (o0 :: o1 :: o2 :: o3 :: o4 :: o5 :: o6 :: o7 :: o :: r) H R) (R (o0 :: o1 :: o2 :: o3 :: o4 :: o5 :: o6 :: o7 :: some v :: r) H) := ⟨wn8⟩
instance go_wn9 {H : Hp} {v : V} {o0 o1 o2 o3 o4 o5 o6 o7 o8 o : Option V} {r : L2.St} {R : L2.St → Hp → Prop} : Go (gName 9 v (o0 :: o1 :: o2 :: o3 :: o4 :: o5 :: o6 :: o7 :: o8 :: o :: r) H R) (R (o0 :: o1 :: o2 :: o3 :: o4 :: o5 :: o6 :: o7 :: o8 :: some v :: r) H) := ⟨wn9⟩
instance go_wn10 {H : Hp} {v : V} {o0 o1 o2 o3 o4 o5 o6 o7 o8 o9 o : Option V} {r : L2.St} {R : L2.St → Hp → Prop} : Go (gName 10 v (o0 :: o1 :: o2 :: o3 :: o4 :: o5 :: o6 :: o7 :: o8 :: o9 :: o :: r) H R) (R (o0 :: o1 :: o2 :: o3 :: o4 :: o5 :: o6 :: o7 :: o8 :: o9 :: some v :: r) H) := ⟨wn10⟩
instance go_wn11 {H : Hp} {v : V} {o0 o1 o2 o3 o4 o5 o6 o7 o8 o9 o10 o : Option V} {r : L2.St} {R : L2.St → Hp → Prop} : Go (gName 11 v (o0 :: o1 :: o2 :: o3 :: o4 :: o5 :: o6 :: o7 :: o8 :: o9 :: o10 :: o :: r) H R) (R (o0 :: o1 :: o2 :: o3 :: o4 :: o5 :: o6 :: o7 :: o8 :: o9 :: o10 :: some v :: r) H) := ⟨wn11⟩
instance go_wn12 {H : Hp} {v : V} {o0 o1 o2 o3 o4 o5 o6 o7 o8 o9 o10 o11 o : Option V} {r : L2.St} {R : L2.St → Hp → Prop} : Go (gName 12 v (o0 :: o1 :: o2 :: o3 :: o4 :: o5 :: o6 :: o7 :: o8 :: o9 :: o10 :: o11 :: o :: r) H R) (R (o0 :: o1 :: o2 :: o3 :: o4 :: o5 :: o6 :: o7 :: o8 :: o9 :: o10 :: o11 :: some v :: r) H) := ⟨wn12⟩
instance go_wn13 {H : Hp} {v : V} {o0 o1 o2 o3 o4 o5 o6 o7 o8 o9 o10 o11 o12 o : Option V} {r : L2.St} {R : L2.St → Hp → Prop} : Go (gName 13 v (o0 :: o1 :: o2 :: o3 :: o4 :: o5 :: o6 :: o7 :: o8 :: o9 :: o10 :: o11 :: o12 :: o :: r) H R) (R (o0 :: o1 :: o2 :: o3 :: o4 :: o5 :: o6 :: o7 :: o8 :: o9 :: o10 :: o11 :: o12 :: some v :: r) H) := ⟨wn13⟩
instance go_w_i0 {H : Hp} {Q : VK} {i j : Int} {f : Int → Int → V} : Go (rI0 f (V.int i) (V.int j) H Q) (Q (f i j) H) := ⟨w_i0⟩
instance go_w_u {H : Hp} {Q : VK} {i : Int} {g : Int → V} : Go (rU g (V.int i) H Q) (Q (g i) H) := ⟨w_u⟩
instance go_w_un {σ : L2.St} {H : Hp} {Q : VK} {ta : TE} {r : V → Hp → VK → Prop} : Go (tUn r ta σ H Q) ((ta σ H fun (x : V) (H1 : Hp) ↦ r x H1 Q)) := ⟨w_un⟩
instance go_w_eqi {H : Hp} {Q : VK} {i j : Int} : Go (rEq (V.int i) (V.int j) H Q) (Q (V.bl (decide (i = j))) H) := ⟨w_eqi⟩
instance go_w_nei {H : Hp} {Q : VK} {i j : Int} : Go (rNe (V.int i) (V.int j) H Q) (Q (V.bl !decide (i = j)) H) := ⟨w_nei⟩
instance go_w_eqs {H : Hp} {Q : VK} {a b : Str} : Go (rEq (V.str a) (V.str b) H Q) (Q (V.bl (decide (a = b))) H) := ⟨w_eqs⟩
instance go_w_nes {H : Hp} {Q : VK} {a b : Str} : Go (rNe (V.str a) (V.str b) H Q) (Q (V.bl !decide (a = b)) H) := ⟨w_nes⟩
instance go_w_eqb {H : Hp} {Q : VK} {a b : Bool} : Go (rEq (V.bl a) (V.bl b) H Q) (Q (V.bl (decide (a = b))) H) := ⟨w_eqb⟩
instance go_w_neb {H : Hp} {Q : VK} {a b : Bool} : Go (rNe (V.bl a) (V.bl b) H Q) (Q (V.bl !decide (a = b)) H) := ⟨w_neb⟩
instance go_w_bl {k : Bool} {R : Bool → Prop} : Go (∃ (c : Bool), V.bl k = V.bl c ∧ R c) (R k) := ⟨w_bl⟩
instance go_w_not {σ : L2.St} {H : Hp} {c : TT} {R : Bool → Hp → Prop} : Go (tNot c σ H R) ((c σ H fun (b : Bool) (H1 : Hp) ↦ R (!b) H1)) := ⟨w_not⟩
instance go_w_and {σ : L2.St} {H : Hp} {c d : TT} {R : Bool → Hp → Prop} : Go (tAnd c d σ H R) ((c σ H fun (b : Bool) (H1 : Hp) ↦ if b = true then d σ H1 R else R false H1)) := ⟨w_and⟩
instance go_w_or {σ : L2.St} {H : Hp} {c d : TT} {R : Bool → Hp → Prop} : Go (tOr c d σ H R) ((c σ H fun (b : Bool) (H1 : Hp) ↦ if b = true then R true H1 else d σ H1 R)) := ⟨w_or⟩
instance go_w_notV {σ : L2.St} {H : Hp} {Q : VK} {ta : TE} : Go (tNotV ta σ H Q) ((ta σ H fun (x : V) (H1 : Hp) ↦ ∃ (c : Bool), x = V.bl c ∧ Q (V.bl !c) H1)) := ⟨w_notV⟩
instance go_w_andV {σ : L2.St} {H : Hp} {Q : VK} {ta tb : TE} : Go (tAndV ta tb σ H Q) ((ta σ H fun (x : V) (H1 : Hp) ↦ ∃ (c : Bool), x = V.bl c ∧ if c = true then tb σ H1 Q else Q (V.bl false) H1)) := ⟨w_andV⟩
instance go_w_orV {σ : L2.St} {H : Hp} {Q : VK} {ta tb : TE} : Go (tOrV ta tb σ H Q) ((ta σ H fun (x : V) (H1 : Hp) ↦ ∃ (c : Bool), x = V.bl c ∧ if c = true then Q (V.bl true) H1 else tb σ H1 Q)) := ⟨w_orV⟩
instance go_w_ifE {σ : L2.St} {H : Hp} {Q : VK} {ta tb : TE} {c : TT} : Go (tIf c ta tb σ H Q) ((c σ H fun (b : Bool) (H1 : Hp) ↦ if b = true then ta σ H1 Q else tb σ H1 Q)) := ⟨w_ifE⟩
instance go_w_chain {σ : L2.St} {H : Hp} {Q : VK} {ta tb tc : TE} {r r' : R2} : Go (tChain r r' ta tb tc σ H Q) ((ta σ H fun (x : V) (H1 : Hp) ↦ tb σ H1 fun (y : V) (H2 : Hp) ↦ r x y H2 fun (z : V) (H3 : Hp) ↦ ∃ (k : Bool), z = V.bl k ∧ if k = true then tc σ H3 fun (w : V) (H4 : Hp) ↦ r' y w H4 Q else Q (V.bl false) H3)) := ⟨w_chain⟩
instance go_w_bm {σ : L2.St} {H : Hp} {Q : VK} {K : W.Frag} {tr : TA} {T : String} {r : V → List V → Hp → VK → Prop} {to : TE} : Go (tBM K T r to tr σ H Q) ((to σ H fun (x : V) (H1 : Hp) ↦ tyV K T x H1 ∧ tr σ H1 fun (xs : List V) (H2 : Hp) ↦ r x xs H2 Q)) := ⟨w_bm⟩
instance go_w_bm0 {σ : L2.St} {H : Hp} {Q : VK} {K : W.Frag} {T : String} {r : V → List V → Hp → VK → Prop} {to : TE} : Go (tBM0 K T r to σ H Q) ((to σ H fun (x : V) (H1 : Hp) ↦ tyV K T x H1 ∧ r x [] H1 Q)) := ⟨w_bm0⟩
instance go_w_sub {σ : L2.St} {H : Hp} {v : V} {to ti : TE} {ts : TSet} {R : L2.St → Hp → Prop} : Go (gSub to ti ts v σ H R) ((to σ H fun (o : V) (H1 : Hp) ↦ ti σ H1 fun (i : V) (H2 : Hp) ↦ ts o i v H2 fun (H3 : Hp) ↦ R σ H3)) := ⟨w_sub⟩
instance go_w_slice {σ : L2.St} {H : Hp} {Q : VK} {t : TE} {r : V → Option Int → Option Int → Hp → VK → Prop} {tl th : TO} : Go (tSl r t tl th σ H Q) ((t σ H fun (x : V) (H1 : Hp) ↦ tl σ H1 fun (l : Option Int) (H2 : Hp) ↦ th σ H2 fun (u : Option Int) (H3 : Hp) ↦ r x l u H3 Q)) := ⟨w_slice⟩
instance go_w_noPart {σ : L2.St} {H : Hp} {R : Option Int → Hp → Prop} : Go (tNoPart σ H R) (R none H) := ⟨w_noPart⟩
instance go_w_part {σ : L2.St} {H : Hp} {t : TE} {R : Option Int → Hp → Prop} : Go (tPart t σ H R) ((t σ H fun (x : V) (H1 : Hp) ↦ ∃ (i : Int), x = V.int i ∧ R (some i) H1)) := ⟨w_part⟩
instance go_w_int {i : Int} {R : Int → Prop} : Go (∃ (k : Int), V.int i = V.int k ∧ R k) (R i) := ⟨w_int⟩
instance go_w_max {H : Hp} {Q : VK} {i j : Int} : Go (rMax2 [V.int i, V.int j] H Q) (Q (V.int (max i j)) H) := ⟨w_max⟩
instance go_w_min {H : Hp} {Q : VK} {i j : Int} : Go (rMin2 [V.int i, V.int j] H Q) (Q (V.int (min i j)) H) := ⟨w_min⟩
instance go_w_intB {H : Hp} {Q : VK} {k : Bool} : Go (rInt1 [V.bl k] H Q) (Q (V.int (if k = true then 1 else 0)) H) := ⟨w_intB⟩
instance go_w_intI {H : Hp} {Q : VK} {i : Int} : Go (rInt1 [V.int i] H Q) (Q (V.int i) H) := ⟨w_intI⟩
instance go_go_tupA {σ : L2.St} {H : Hp} {tr : TA} {Q : VK} : Go (tTupA tr σ H Q) ((tr σ H fun (xs : List V) (H1 : Hp) ↦ List.length xs ≤ sizeLine ∧ ∀ (p : Addr) (H' : Hp), New H1 H' p (HO.tup xs) → Q (V.ref p) H')) := ⟨go_tupA⟩
instance go_go_lstA {σ : L2.St} {H : Hp} {tr : TA} {Q : VK} : Go (tLstA tr σ H Q) ((tr σ H fun (xs : List V) (H1 : Hp) ↦ List.length xs ≤ sizeLine ∧ ∀ (p : Addr) (H' : Hp), New H1 H' p (HO.lst xs) → Q (V.ref p) H')) := ⟨go_lstA⟩
instance go_w_notT {ta : TE} {σ : L2.St} {H : Hp} {Q : VK} {K : W.Frag} : Go (tNotT K ta σ H Q) ((ta σ H fun (x : V) (H1 : Hp) ↦ ∃ (k : Bool), TruV K x H1 k ∧ Q (V.bl !k) H1)) := ⟨w_notT⟩
instance go_w_isB {H : Hp} {Q : VK} {a b : Bool} : Go (rIsB (V.bl a) (V.bl b) H Q) (Q (V.bl (decide (a = b))) H) := ⟨w_isB⟩
instance go_w_isNB {H : Hp} {Q : VK} {a b : Bool} : Go (rIsNB (V.bl a) (V.bl b) H Q) (Q (V.bl !decide (a = b)) H) := ⟨w_isNB⟩
instance go_w_revSl {σ : L2.St} {H : Hp} {Q : VK} {K : W.Frag} {te ts : TE} : Go (tRevSl K te ts σ H Q) ((te σ H fun (x : V) (H1 : Hp) ↦ ts σ H1 fun (y : V) (H2 : Hp) ↦ ∃ (a : Addr), ∃ (xs : List V), x = V.ref a ∧ y = V.int (-1) ∧ SqL K H2 a xs ∧ ∀ (p : Addr) (H' : Hp), New H2 H' p (HO.lst (List.reverse xs)) → Q (V.ref p) H')) := ⟨w_revSl⟩
instance go_w_din {σ : L2.St} {H : Hp} {Q : VK} {td ty : TE} : Go (tDIn ty td σ H Q) ((ty σ H fun (y : V) (H1 : Hp) ↦ td σ H1 fun (x : V) (H2 : Hp) ↦ ∃ (a : Addr), ∃ (o : Option V), x = V.ref a ∧ DGet H2 a y o ∧ Q (V.bl (Option.isSome o)) H2)) := ⟨w_din⟩
instance go_w_dput {σ : L2.St} {H : Hp} {D : Ends} {td ty tv : TE} : Go (sDPut td ty tv D σ H) ((tv σ H fun (v : V) (H1 : Hp) ↦ td σ H1 fun (x : V) (H2 : Hp) ↦ ty σ H2 fun (y : V) (H3 : Hp) ↦ ∃ (a : Addr), ∃ (H4 : Hp), x = V.ref a ∧ DPut H3 a y v H4 ∧ Ends.nx D σ H4)) := ⟨w_dput⟩
instance go_go_fs {σ : L2.St} {H : Hp} {Q : VK} {out : Str} {t : TE} {ts : List TE} : Go (tFs (t :: ts) out σ H Q) ((t σ H fun (x : V) (H1 : Hp) ↦ ∃ (y : Str), x = V.str y ∧ Str.length (out ++ y) ≤ sizeLine ∧ tFs ts (out ++ y) σ H1 Q)) := ⟨go_fs⟩
instance go_go_fmt {σ : L2.St} {H : Hp} {Q : VK} {t : TE} : Go (tFmt t σ H Q) ((t σ H fun (x : V) (H1 : Hp) ↦ (∃ (y : Str), x = V.str y ∧ Str.length y ≤ sizeLine ∧ Q (V.str y) H1) ∨ ∃ (i : Int), x = V.int i ∧ Nat.log2 (Int.natAbs i) < 1920 ∧ Q (V.str (numS i)) H1)) := ⟨go_fmt⟩
instance go_go_fld {K : W.Frag} {σ : L2.St} {H : Hp} {Q : VK} {ta : TE} {f : Str} : Go (tFld K ta f σ H Q) ((ta σ H fun (x : V) (H1 : Hp) ↦ ∃ (a : Addr), ∃ (C : Addr), ∃ (dx : Addr), ∃ (fs : List (Str × V)), ∃ (v : V), x = V.ref a ∧ H1 a = some (HO.ins C dx fs) ∧ Cls K C ∧ NoAttr K C f ∧ List.lookup f fs = some v ∧ Q v H1)) := ⟨go_fld⟩
instance go_go_methB {σ : L2.St} {H : Hp} {Q : VK} {ta : TE} {t : TA} {m : Str} {C : Addr} {sp : Sp} {E : XK} : Go (tMeth C m sp [] E ta t σ H Q) ((ta σ H fun (x : V) (H1 : Hp) ↦ ∃ (a : Addr), ∃ (dx : Addr), ∃ (fs : List (Str × V)), x = V.ref a ∧ H1 a = some (HO.ins C dx fs) ∧ List.lookup m fs = none ∧ t σ H1 fun (vs : List V) (H2 : Hp) ↦ sp (x :: vs) H2 Q E)) := ⟨go_methB⟩
instance go_go_makeB {σ : L2.St} {H : Hp} {Q : VK} {t : TA} {C : Addr} {sp : Sp} {E : XK} : Go (tMakeB C sp E t σ H Q) ((t σ H fun (vs : List V) (H1 : Hp) ↦ ∀ (x dx : Addr) (H2 : Hp), New H1 H2 x (HO.ins C dx []) → sp (V.ref x :: vs) H2 (fun (v : V) (H3 : Hp) ↦ v = V.non ∧ Q (V.ref x) H3) E)) := ⟨go_makeB⟩
instance go_go_sfldB {K : W.Frag} {σ : L2.St} {H : Hp} {ta tv : TE} {f : Str} {D : Ends} : Go (sFld K ta tv f D σ H) ((tv σ H fun (y : V) (H1 : Hp) ↦ ta σ H1 fun (x : V) (H2 : Hp) ↦ SetF K f y x H2 fun (H3 : Hp) ↦ Ends.nx D σ H3)) := ⟨go_sfldB⟩
instance go_w_isII {H : Hp} {Q : VK} {K : W.Frag} {i : Int} : Go (rIsT K [V.int i, V.ty "int"] H Q) (Q (V.bl true) H) := ⟨w_isII⟩
instance go_w_isIB {H : Hp} {Q : VK} {K : W.Frag} {i : Int} : Go (rIsT K [V.int i, V.ty "bool"] H Q) (Q (V.bl false) H) := ⟨w_isIB⟩
instance go_w_isBB {H : Hp} {Q : VK} {K : W.Frag} {b : Bool} : Go (rIsT K [V.bl b, V.ty "bool"] H Q) (Q (V.bl true) H) := ⟨w_isBB⟩
instance go_w_isBI {H : Hp} {Q : VK} {K : W.Frag} {b : Bool} : Go (rIsT K [V.bl b, V.ty "int"] H Q) (Q (V.bl true) H) := ⟨w_isBI⟩
instance go_i_tt {A B : Prop} : Go (if true = true then A else B) (A) := ⟨i_tt⟩
instance go_i_ff {A B : Prop} : Go (if false = true then A else B) (B) := ⟨i_ff⟩
instance go_i_ntt {A B : Prop} : Go (if (!true) = true then A else B) (B) := ⟨i_ntt⟩
instance go_i_nff {A B : Prop} : Go (if (!false) = true then A else B) (A) := ⟨i_nff⟩
instance go_w_not2 {b : Bool} {R : Bool → Prop} : Go (∃ (c : Bool), V.bl b = V.bl c ∧ R !c) (R !b) := ⟨w_not2⟩
instance go_go_ck {t : TA} {tv : TE} {r : List V → V → Hp → VK → Prop} {σ : L2.St} {H : Hp} {Q : VK} : Go (tCK r t tv σ H Q) ((t σ H fun (xs : List V) (H1 : Hp) ↦ tv σ H1 fun (y : V) (H2 : Hp) ↦ r xs y H2 Q)) := ⟨go_ck⟩
instance go_go_slc {to tl th : TE} {v : V} {σ : L2.St} {H : Hp} {Q : L2.St → Hp → Prop} : Go (gSlc to tl th v σ H Q) ((to σ H fun (o : V) (H1 : Hp) ↦ tl σ H1 fun (a : V) (H2 : Hp) ↦ th σ H2 fun (c : V) (H3 : Hp) ↦ ∃ (l : Addr), ∃ (b : Addr), ∃ (xs : List V), ∃ (ys : List V), ∃ (i : Int), ∃ (j : Int), o = V.ref l ∧ v = V.ref b ∧ a = V.int i ∧ c = V.int j ∧ H3 l = some (HO.lst xs) ∧ H3 b = some (HO.lst ys) ∧ l ≠ b ∧ 0 ≤ i ∧ i ≤ j ∧ j ≤ (↑(List.length xs) : Int) ∧ List.length xs + List.length ys ≤ sizeLine ∧ ∀ (H' : Hp), L2.Off l H3 H' → H' l = some (HO.lst (List.take (Int.toNat i) xs ++ ys ++ List.drop (Int.toNat j) xs)) → Q σ H')) := ⟨go_slc⟩
instance go_w_rng2 {σ : L2.St} {H : Hp} {Q : VK} {tr : TA} : Go (tRng2 tr σ H Q) ((tr σ H fun (vs : List V) (H1 : Hp) ↦ ∃ (i : Int), ∃ (j : Int), vs = [V.int i, V.int j] ∧ ∀ (r : Addr) (H' : Hp), New H1 H' r (HO.rng i j) → Q (V.ref r) H')) := ⟨w_rng2⟩
instance go_w_forE {K : W.Frag} {g : TG} {tb : TS} {D : Ends} {σ : L2.St} {H : Hp} {tr : TA} : Go (tFor (iEnum K tr) g tb D σ H) ((tr σ H fun (vs : List V) (H1 : Hp) ↦ ∃ (a : Addr), ∃ (xs : List V), vs = [V.ref a] ∧ SqL K H1 a xs ∧ ForE K a xs g tb D σ H1)) := ⟨w_forE⟩
instance go_w_forR1 {g : TG} {tb : TS} {D : Ends} {σ : L2.St} {H : Hp} {tr : TA} : Go (tFor (iRng1 tr) g tb D σ H) ((tr σ H fun (vs : List V) (H1 : Hp) ↦ ∃ (j : Int), vs = [V.int j] ∧ -2 ^ 62 ≤ j ∧ j < 2 ^ 62 ∧ ForR 0 (Int.toNat j) g tb D σ H1)) := ⟨w_forR1⟩
instance go_w_forR2 {g : TG} {tb : TS} {D : Ends} {σ : L2.St} {H : Hp} {tr : TA} : Go (tFor (iRng2 tr) g tb D σ H) ((tr σ H fun (vs : List V) (H1 : Hp) ↦ ∃ (i : Int), ∃ (j : Int), vs = [V.int i, V.int j] ∧ (-2 ^ 62 ≤ i ∧ i < 2 ^ 62 ∧ -2 ^ 62 ≤ j ∧ j < 2 ^ 62) ∧ ForR i (Int.toNat (j - i)) g tb D σ H1)) := ⟨w_forR2⟩
instance go_w_forL {K : W.Frag} {te : TE} {g : TG} {tb : TS} {D : Ends} {σ : L2.St} {H : Hp} : Go (tFor (iList K te) g tb D σ H) ((te σ H fun (x : V) (H1 : Hp) ↦ ∃ (a : Addr), x = V.ref a ∧ (∃ (xs : List V), SqL K H1 a xs) ∧ ForL K a g tb D σ H1)) := ⟨w_forL⟩
instance go_w_compL {K : W.Frag} {t0 te : TE} {nt : Nat} {fr : List Nat} {g : TG} {c : TT} {σ : L2.St} {H : Hp} {Q : VK} : Go (tComp (iList K t0) nt fr g c te σ H Q) ((t0 σ H fun (x : V) (H1 : Hp) ↦ ∃ (a : Addr), x = V.ref a ∧ (∃ (xs : List V), SqL K H1 a xs) ∧ CompAll (Itl K a) nt fr g c te σ H1 Q)) := ⟨w_compL⟩
end L2
set_option Elab.async false
set_option linter.all false
set_option maxRecDepth 100000
set_option maxHeartbeats 4000000
namespace L2
open PySem PySem.Spec PyProof.Rows PySem.SeqAt
/-- [te for x in xs] run on from what is done -/
def CRun (K : PySem.W.Frag) (l acc : Addr) (xs : List V) (te : TE) (fvs : St) (Q : VK) : List V → List V → Hp → Prop
  | done, [], H => Q (.ref acc) H
  | done, v :: rest, H => ∀ R : VK, (∀ y H2, H2 acc = some (.lst done) → (∀ H3, Off acc H2 H3 → H3 acc = some (.lst (done ++ [y])) → SqL K H3 l xs ∧ CRun K l acc xs te fvs Q (done ++ [y]) rest H3) → R y H2) → te (some v :: fvs) H R
instance go_crun0 {K : PySem.W.Frag} {l acc : Addr} {xs done : List V} {te : TE} {fvs : St} {Q : VK} {H : Hp} : Go (CRun K l acc xs te fvs Q done [] H) (Q (.ref acc) H) := ⟨id⟩
section
variable {K : PySem.W.Frag} {H : Hp} {Q : VK} {E : XK} {x : V} {n : String} {p q : Addr} {a b c lo hi : Int} {ns : List Int} {m : Int}
instance go_fromI : Go (sp_is_from K [.int a, .int lo] H Q E) (Q (.bl (decide (lo ≤ a))) H) := ⟨u_fromI⟩
instance go_withinT : Go (sp_is_within K [.int a, .int lo, .int hi] H Q E) (Q (.bl (decide (lo ≤ a) && decide (a ≤ hi))) H) := ⟨fun k => ⟨_, _, lo, hi, rfl, .int _, k⟩⟩
instance go_manyI : Go (sp_is_many K [.int a] H Q E) (Q (.bl (decide (16 ≤ a) && decide (a ≤ 240))) H) := ⟨fun k => ⟨_, _, rfl, .int _, k⟩⟩
instance go_endof [h : Hat H q (.tup [.int a, .int b])] : Go (sp_end_of [.ref q] H Q E) (Q (.int (a + b)) H) := ⟨u_end h.e⟩
instance go_stretchI [h : Hat H q (.tup [.int a, .int b])] : Go (sp_stretchI [.ref q] H Q E) (Q (.bl (decide (0 ≤ a) && decide (1 ≤ b))) H) := ⟨u_stretchI h.e⟩
instance go_cellA [h : SqA K H p (ns.map V.int)] : Go (sp_cellA K [.ref p, .int m] H Q E) (Sd (0 ≤ m) (∀ c : Int, Q (.int c) H)) := ⟨fun s => u_cellA h.e s.1 s.2⟩
instance go_boxA : Go (sp_boxA [.int a] H Q E) (∀ x y : Int, ∀ (p : Addr) (H' : Hp), New H H' p (.lst [.int x, .int y, .int 0]) → Q (.ref p) H') := ⟨fun k => u_boxA fun p x y H' n => k x y p H' n⟩
instance go_takeA [h : Hat H p (.lst [.int a, .int b, .int c])] : Go (sp_takeA [.ref p, .int m] H Q E) (Sd (0 < m ∧ m < 1073741824) (∀ r a' b' c' : Int, 0 ≤ r → r < m → ∀ H', Off p H H' → H' p = some (.lst [.int a', .int b', .int c']) → Q (.int r) H')) := ⟨fun s => u_takeA h.e s.1.1 s.1.2 fun r a' b' c' H' h0 h1 f e => s.2 r a' b' c' h0 h1 H' f e⟩
end
end L2
set_option Elab.async false
set_option linter.all false
set_option maxRecDepth 100000
set_option maxHeartbeats 4000000
namespace L2
open PySem PySem.Spec PyProof.Rows
def Itq (lo st : Int) (n : Nat) : It := { go := fun i _ => i < n, yld := fun i H x H' => H' = H ∧ x = .int (lo + i * st), stop := fun i _ => n ≤ i }
section
variable {X : Cx} {tg : Expr}
def iRng3 (ta : TA) : TI := fun σ H R => ta σ H fun vs H1 => ∃ i j c : Int, vs = [.int i, .int j, .int c] ∧ (0 ≤ i ∧ i ≤ 1000000 ∧ 0 ≤ j ∧ j ≤ 1000000 ∧ 1 ≤ c ∧ c ≤ 1000) ∧ R (Itq i c (Builtin.Range.rangeSize i j c).toNat) H1
end
section
variable {tr : TA} {g : TG} {tb : TS} {D : Ends} {σ : St} {H : Hp}
def ForS (lo st : Int) (n : Nat) (g : TG) (tb : TS) (D : Ends) (σ : St) (H : Hp) : Prop := ∃ W : Nat → Nat → St → Hp → Prop, (∃ m, W 0 m σ H) ∧ ∀ i m σ H, W i m σ H →
      ((Itq lo st n).stop i H ∧ D.nx σ H) ∨ ((Itq lo st n).go i H ∧ ∃ N : St → Hp → Prop, (∀ σ' H', N σ' H' → ∃ m', m' < m ∧ W (i + 1) m' σ' H') ∧ ∀ x H', (Itq lo st n).yld i H x H' → g x σ H' fun σ2 H2 => tb { D with nx := N, ct := N, bk := D.nx } σ2 H2)
instance go_forS : Go (tFor (iRng3 tr) g tb D σ H) (tr σ H fun vs H1 => ∃ i j c : Int, vs = [.int i, .int j, .int c] ∧ (0 ≤ i ∧ i ≤ 1000000 ∧ 0 ≤ j ∧ j ≤ 1000000 ∧ 1 ≤ c ∧ c ≤ 1000) ∧ ForS i c (Builtin.Range.rangeSize i j c).toNat g tb D σ H1) := ⟨id⟩
variable {K : PySem.W.Frag} {a : Addr} {xs : List V} {nt : Nat} {fr : List Nat} {c : TT} {te : TE} {Q : VK} {n m : Int}
instance go_cby [h : SqA K H a xs] : Go (∃ a', V.ref a = .ref a' ∧ (∃ xs, SqL K H a' xs) ∧ CompAll (Itl K a') nt fr g c te σ H Q) (CompAll (Itl K a) nt fr g c te σ H Q) := ⟨c_by h.e⟩
instance go_lby [h : SqA K H a xs] : Go (∃ a', V.ref a = .ref a' ∧ (∃ xs, SqL K H a' xs) ∧ ForL K a' g tb D σ H) (ForL K a g tb D σ H) := ⟨l_by h.e⟩
instance go_eby [h : SqA K H a xs] : Go (∃ a' xs', [V.ref a] = [.ref a'] ∧ SqL K H a' xs' ∧ ForE K a' xs' g tb D σ H) (ForE K a xs g tb D σ H) := ⟨e_by h.e⟩
end
instance nx_rowsN {H0 H : Hp} {M : List Addr} {L : List (Addr × HO)} {I : List Im} {Z : Addr → Hp → Prop} {ws : List (Nat × Nat)} [F : SH H0 M H L I] : Go (∀ p ys H', New H H' p (.lst ys) → TupsAt H' ys (rowsN ws) → Z p H') (∀ H' p ys, ys.length = ws.length → SH H0 M H' ((p, .lst ys) :: L) (.tps ys (rowsN ws) :: I) → Z p H') := ⟨fun k p ys H' n t => k H' p ys (by rw [t.1, rowsN_len]) (F.newR n t)⟩
instance nx_kpN {H0 H : Hp} {M : List Addr} {L L' : List (Addr × HO)} {I : List Im} {R : Hp → Prop} {l : Addr} {xs : List V} {A B : Prop} [F : SH H0 M H L I] [u : LkU L l (.lst xs) L'] : Go (∀ H', A → B → Off l H H' → H' l = some (.lst xs) → R H') (A → B → ∀ H', SH H0 M H' L' I → R H') := ⟨fun k H' a b f e => k a b H' (F.offL f e u.u)⟩
/-- two places of the heap are two -/
class LkNe (L : List (Addr × HO)) (a b : Addr) : Prop where
  ne : (L.map (·.1)).Nodup → a ≠ b
section
variable {L R L' : List (Addr × HO)} {a b : Addr} {o : HO} {c : Addr × HO} {H0 H : Hp} {M : List Addr} {I : List Im}
instance lkNe2 [h : LkNe L a b] : LkNe (c :: L) a b := ⟨fun nd => h.ne (by rw [List.map_cons] at nd; exact (List.nodup_cons.mp nd).2)⟩
instance lkNe1 {o' : HO} [h : LkL L a o] : LkNe ((b, o') :: L) a b := ⟨fun nd z => by
  rw [List.map_cons] at nd
  exact (List.nodup_cons.mp nd).1 (by show b ∈ _; rw [← z]; exact List.mem_map_of_mem (f := (·.1)) h.m)⟩
instance lkNe0 {o' : HO} [h : LkL L b o] : LkNe ((a, o') :: L) a b := ⟨fun nd z => by
  rw [List.map_cons] at nd
  exact (List.nodup_cons.mp nd).1 (by show a ∈ _; rw [z]; exact List.mem_map_of_mem (f := (·.1)) h.m)⟩
theorem SH.neC [F : SH H0 M H L I] [h : LkNe L a b] : a ≠ b := h.ne F.nd
/-- a part of the heap's list, in any order -/
class PkC (c : Addr × HO) (L : List (Addr × HO)) (R : outParam (List (Addr × HO))) : Prop where
  p : Pk c L R
class SbC (L' L : List (Addr × HO)) : Prop where
  s : Sb L' L
instance pkC1 {d : Addr × HO} [h : PkC c L R] : PkC c (d :: L) (d :: R) := ⟨.tail h.p⟩
instance pkC0 : PkC c (c :: L) L := ⟨.head⟩
instance sbC0 : SbC [] L := ⟨.nil⟩
instance sbC1 [h : PkC c L R] [t : SbC L' R] : SbC (c :: L') L := ⟨.cons h.p t.s⟩
theorem SH.subC (F : SH H0 M H L I) [h : SbC L' L] : SH H0 M H L' [] := F.sub h.s (fun _ h => by cases h)
end
instance go_wv14 {H : Hp} {Q : VK} {v : V} {o0 o1 o2 o3 o4 o5 o6 o7 o8 o9 o10 o11 o12 o13 : Option V} {r : St} : Go (tVar 14 (o0 :: o1 :: o2 :: o3 :: o4 :: o5 :: o6 :: o7 :: o8 :: o9 :: o10 :: o11 :: o12 :: o13 :: some v :: r) H Q) (Q v H) := ⟨fun h => ⟨v, rfl, h⟩⟩
instance go_wn14 {H : Hp} {v : V} {o0 o1 o2 o3 o4 o5 o6 o7 o8 o9 o10 o11 o12 o13 o : Option V} {r : St} {R : St → Hp → Prop} : Go (gName 14 v (o0 :: o1 :: o2 :: o3 :: o4 :: o5 :: o6 :: o7 :: o8 :: o9 :: o10 :: o11 :: o12 :: o13 :: o :: r) H R) (R (o0 :: o1 :: o2 :: o3 :: o4 :: o5 :: o6 :: o7 :: o8 :: o9 :: o10 :: o11 :: o12 :: o13 :: some v :: r) H) := ⟨fun h => h⟩
instance go_aug14 {H : Hp} {v : V} {o0 o1 o2 o3 o4 o5 o6 o7 o8 o9 o10 o11 o12 o13 : Option V} {r : St} {te : TE} {ti : TIp} {D : Ends} : Go (tAug 14 te ti D (o0 :: o1 :: o2 :: o3 :: o4 :: o5 :: o6 :: o7 :: o8 :: o9 :: o10 :: o11 :: o12 :: o13 :: some v :: r) H) (te (o0 :: o1 :: o2 :: o3 :: o4 :: o5 :: o6 :: o7 :: o8 :: o9 :: o10 :: o11 :: o12 :: o13 :: some v :: r) H fun y H1 => ti v y H1 fun z H2 => D.nx (o0 :: o1 :: o2 :: o3 :: o4 :: o5 :: o6 :: o7 :: o8 :: o9 :: o10 :: o11 :: o12 :: o13 :: some z :: r) H2) := ⟨fun h => go_aug (v := v) rfl h⟩
instance go_wv15 {H : Hp} {Q : VK} {v : V} {o0 o1 o2 o3 o4 o5 o6 o7 o8 o9 o10 o11 o12 o13 o14 : Option V} {r : St} : Go (tVar 15 (o0 :: o1 :: o2 :: o3 :: o4 :: o5 :: o6 :: o7 :: o8 :: o9 :: o10 :: o11 :: o12 :: o13 :: o14 :: some v :: r) H Q) (Q v H) := ⟨fun h => ⟨v, rfl, h⟩⟩
instance go_wn15 {H : Hp} {v : V} {o0 o1 o2 o3 o4 o5 o6 o7 o8 o9 o10 o11 o12 o13 o14 o : Option V} {r : St} {R : St → Hp → Prop} : Go (gName 15 v (o0 :: o1 :: o2 :: o3 :: o4 :: o5 :: o6 :: o7 :: o8 :: o9 :: o10 :: o11 :: o12 :: o13 :: o14 :: o :: r) H R) (R (o0 :: o1 :: o2 :: o3 :: o4 :: o5 :: o6 :: o7 :: o8 :: o9 :: o10 :: o11 :: o12 :: o13 :: o14 :: some v :: r) H) := ⟨fun h => h⟩
instance go_aug15 {H : Hp} {v : V} {o0 o1 o2 o3 o4 o5 o6 o7 o8 o9 o10 o11 o12 o13 o14 : Option V} {r : St} {te : TE} {ti : TIp} {D : Ends} : Go (tAug 15 te ti D (o0 :: o1 :: o2 :: o3 :: o4 :: o5 :: o6 :: o7 :: o8 :: o9 :: o10 :: o11 :: o12 :: o13 :: o14 :: some v :: r) H) (te (o0 :: o1 :: o2 :: o3 :: o4 :: o5 :: o6 :: o7 :: o8 :: o9 :: o10 :: o11 :: o12 :: o13 :: o14 :: some v :: r) H fun y H1 => ti v y H1 fun z H2 => D.nx (o0 :: o1 :: o2 :: o3 :: o4 :: o5 :: o6 :: o7 :: o8 :: o9 :: o10 :: o11 :: o12 :: o13 :: o14 :: some z :: r) H2) := ⟨fun h => go_aug (v := v) rfl h⟩
instance go_wv16 {H : Hp} {Q : VK} {v : V} {o0 o1 o2 o3 o4 o5 o6 o7 o8 o9 o10 o11 o12 o13 o14 o15 : Option V} {r : St} : Go (tVar 16 (o0 :: o1 :: o2 :: o3 :: o4 :: o5 :: o6 :: o7 :: o8 :: o9 :: o10 :: o11 :: o12 :: o13 :: o14 :: o15 :: some v :: r) H Q) (Q v H) := ⟨fun h => ⟨v, rfl, h⟩⟩
instance go_wn16 {H : Hp} {v : V} {o0 o1 o2 o3 o4 o5 o6 o7 o8 o9 o10 o11 o12 o13 o14 o15 o : Option V} {r : St} {R : St → Hp → Prop} : Go (gName 16 v (o0 :: o1 :: o2 :: o3 :: o4 :: o5 :: o6 :: o7 :: o8 :: o9 :: o10 :: o11 :: o12 :: o13 :: o14 :: o15 :: o :: r) H R) (R (o0 :: o1 :: o2 :: o3 :: o4 :: o5 :: o6 :: o7 :: o8 :: o9 :: o10 :: o11 :: o12 :: o13 :: o14 :: o15 :: some v :: r) H) := ⟨fun h => h⟩
instance go_aug16 {H : Hp} {v : V} {o0 o1 o2 o3 o4 o5 o6 o7 o8 o9 o10 o11 o12 o13 o14 o15 : Option V} {r : St} {te : TE} {ti : TIp} {D : Ends} : Go (tAug 16 te ti D (o0 :: o1 :: o2 :: o3 :: o4 :: o5 :: o6 :: o7 :: o8 :: o9 :: o10 :: o11 :: o12 :: o13 :: o14 :: o15 :: some v :: r) H) (te (o0 :: o1 :: o2 :: o3 :: o4 :: o5 :: o6 :: o7 :: o8 :: o9 :: o10 :: o11 :: o12 :: o13 :: o14 :: o15 :: some v :: r) H fun y H1 => ti v y H1 fun z H2 => D.nx (o0 :: o1 :: o2 :: o3 :: o4 :: o5 :: o6 :: o7 :: o8 :: o9 :: o10 :: o11 :: o12 :: o13 :: o14 :: o15 :: some z :: r) H2) := ⟨fun h => go_aug (v := v) rfl h⟩
instance go_wv17 {H : Hp} {Q : VK} {v : V} {o0 o1 o2 o3 o4 o5 o6 o7 o8 o9 o10 o11 o12 o13 o14 o15 o16 : Option V} {r : St} : Go (tVar 17 (o0 :: o1 :: o2 :: o3 :: o4 :: o5 :: o6 :: o7 :: o8 :: o9 :: o10 :: o11 :: o12 :: o13 :: o14 :: o15 :: o16 :: some v :: r) H Q) (Q v H) := ⟨fun h => ⟨v, rfl, h⟩⟩
instance go_wn17 {H : Hp} {v : V} {o0 o1 o2 o3 o4 o5 o6 o7 o8 o9 o10 o11 o12 o13 o14 o15 o16 o : Option V} {r : St} {R : St → Hp → Prop} : Go (gName 17 v (o0 :: o1 :: o2 :: o3 :: o4 :: o5 :: o6 :: o7 :: o8 :: o9 :: o10 :: o11 :: o12 :: o13 :: o14 :: o15 :: o16 :: o :: r) H R) (R (o0 :: o1 :: o2 :: o3 :: o4 :: o5 :: o6 :: o7 :: o8 :: o9 :: o10 :: o11 :: o12 :: o13 :: o14 :: o15 :: o16 :: some v :: r) H) := ⟨fun h => h⟩
instance go_aug17 {H : Hp} {v : V} {o0 o1 o2 o3 o4 o5 o6 o7 o8 o9 o10 o11 o12 o13 o14 o15 o16 : Option V} {r : St} {te : TE} {ti : TIp} {D : Ends} : Go (tAug 17 te ti D (o0 :: o1 :: o2 :: o3 :: o4 :: o5 :: o6 :: o7 :: o8 :: o9 :: o10 :: o11 :: o12 :: o13 :: o14 :: o15 :: o16 :: some v :: r) H) (te (o0 :: o1 :: o2 :: o3 :: o4 :: o5 :: o6 :: o7 :: o8 :: o9 :: o10 :: o11 :: o12 :: o13 :: o14 :: o15 :: o16 :: some v :: r) H fun y H1 => ti v y H1 fun z H2 => D.nx (o0 :: o1 :: o2 :: o3 :: o4 :: o5 :: o6 :: o7 :: o8 :: o9 :: o10 :: o11 :: o12 :: o13 :: o14 :: o15 :: o16 :: some z :: r) H2) := ⟨fun h => go_aug (v := v) rfl h⟩
instance go_wv18 {H : Hp} {Q : VK} {v : V} {o0 o1 o2 o3 o4 o5 o6 o7 o8 o9 o10 o11 o12 o13 o14 o15 o16 o17 : Option V} {r : St} : Go (tVar 18 (o0 :: o1 :: o2 :: o3 :: o4 :: o5 :: o6 :: o7 :: o8 :: o9 :: o10 :: o11 :: o12 :: o13 :: o14 :: o15 :: o16 :: o17 :: some v :: r) H Q) (Q v H) := ⟨fun h => ⟨v, rfl, h⟩⟩
instance go_wn18 {H : Hp} {v : V} {o0 o1 o2 o3 o4 o5 o6 o7 o8 o9 o10 o11 o12 o13 o14 o15 o16 o17 o : Option V} {r : St} {R : St → Hp → Prop} : Go (gName 18 v (o0 :: o1 :: o2 :: o3 :: o4 :: o5 :: o6 :: o7 :: o8 :: o9 :: o10 :: o11 :: o12 :: o13 :: o14 :: o15 :: o16 :: o17 :: o :: r) H R) (R (o0 :: o1 :: o2 :: o3 :: o4 :: o5 :: o6 :: o7 :: o8 :: o9 :: o10 :: o11 :: o12 :: o13 :: o14 :: o15 :: o16 :: o17 :: some v :: r) H) := ⟨fun h => h⟩
instance go_aug18 {H : Hp} {v : V} {o0 o1 o2 o3 o4 o5 o6 o7 o8 o9 o10 o11 o12 o13 o14 o15 o16 o17 : Option V} {r : St} {te : TE} {ti : TIp} {D : Ends} : Go (tAug 18 te ti D (o0 :: o1 :: o2 :: o3 :: o4 :: o5 :: o6 :: o7 :: o8 :: o9 :: o10 :: o11 :: o12 :: o13 :: o14 :: o15 :: o16 :: o17 :: some v :: r) H) (te (o0 :: o1 :: o2 :: o3 :: o4 :: o5 :: o6 :: o7 :: o8 :: o9 :: o10 :: o11 :: o12 :: o13 :: o14 :: o15 :: o16 :: o17 :: some v :: r) H fun y H1 => ti v y H1 fun z H2 => D.nx (o0 :: o1 :: o2 :: o3 :: o4 :: o5 :: o6 :: o7 :: o8 :: o9 :: o10 :: o11 :: o12 :: o13 :: o14 :: o15 :: o16 :: o17 :: some z :: r) H2) := ⟨fun h => go_aug (v := v) rfl h⟩
instance go_wv19 {H : Hp} {Q : VK} {v : V} {o0 o1 o2 o3 o4 o5 o6 o7 o8 o9 o10 o11 o12 o13 o14 o15 o16 o17 o18 : Option V} {r : St} : Go (tVar 19 (o0 :: o1 :: o2 :: o3 :: o4 :: o5 :: o6 :: o7 :: o8 :: o9 :: o10 :: o11 :: o12 :: o13 :: o14 :: o15 :: o16 :: o17 :: o18 :: some v :: r) H Q) (Q v H) := ⟨fun h => ⟨v, rfl, h⟩⟩
instance go_wn19 {H : Hp} {v : V} {o0 o1 o2 o3 o4 o5 o6 o7 o8 o9 o10 o11 o12 o13 o14 o15 o16 o17 o18 o : Option V} {r : St} {R : St → Hp → Prop} : Go (gName 19 v (o0 :: o1 :: o2 :: o3 :: o4 :: o5 :: o6 :: o7 :: o8 :: o9 :: o10 :: o11 :: o12 :: o13 :: o14 :: o15 :: o16 :: o17 :: o18 :: o :: r) H R) (R (o0 :: o1 :: o2 :: o3 :: o4 :: o5 :: o6 :: o7 :: o8 :: o9 :: o10 :: o11 :: o12 :: o13 :: o14 :: o15 :: o16 :: o17 :: o18 :: some v :: r) H) := ⟨fun h => h⟩
instance go_aug19 {H : Hp} {v : V} {o0 o1 o2 o3 o4 o5 o6 o7 o8 o9 o10 o11 o12 o13 o14 o15 o16 o17 o18 : Option V} {r : St} {te : TE} {ti : TIp} {D : Ends} : Go (tAug 19 te ti D (o0 :: o1 :: o2 :: o3 :: o4 :: o5 :: o6 :: o7 :: o8 :: o9 :: o10 :: o11 :: o12 :: o13 :: o14 :: o15 :: o16 :: o17 :: o18 :: some v :: r) H) (te (o0 :: o1 :: o2 :: o3 :: o4 :: o5 :: o6 :: o7 :: o8 :: o9 :: o10 :: o11 :: o12 :: o13 :: o14 :: o15 :: o16 :: o17 :: o18 :: some v :: r) H fun y H1 => ti v y H1 fun z H2 => D.nx (o0 :: o1 :: o2 :: o3 :: o4 :: o5 :: o6 :: o7 :: o8 :: o9 :: o10 :: o11 :: o12 :: o13 :: o14 :: o15 :: o16 :: o17 :: o18 :: some z :: r) H2) := ⟨fun h => go_aug (v := v) rfl h⟩
instance go_wv20 {H : Hp} {Q : VK} {v : V} {o0 o1 o2 o3 o4 o5 o6 o7 o8 o9 o10 o11 o12 o13 o14 o15 o16 o17 o18 o19 : Option V} {r : St} : Go (tVar 20 (o0 :: o1 :: o2 :: o3 :: o4 :: o5 :: o6 :: o7 :: o8 :: o9 :: o10 :: o11 :: o12 :: o13 :: o14 :: o15 :: o16 :: o17 :: o18 :: o19 :: some v :: r) H Q) (Q v H) := ⟨fun h => ⟨v, rfl, h⟩⟩
instance go_wn20 {H : Hp} {v : V} {o0 o1 o2 o3 o4 o5 o6 o7 o8 o9 o10 o11 o12 o13 o14 o15 o16 o17 o18 o19 o : Option V} {r : St} {R : St → Hp → Prop} : Go (gName 20 v (o0 :: o1 :: o2 :: o3 :: o4 :: o5 :: o6 :: o7 :: o8 :: o9 :: o10 :: o11 :: o12 :: o13 :: o14 :: o15 :: o16 :: o17 :: o18 :: o19 :: o :: r) H R) (R (o0 :: o1 :: o2 :: o3 :: o4 :: o5 :: o6 :: o7 :: o8 :: o9 :: o10 :: o11 :: o12 :: o13 :: o14 :: o15 :: o16 :: o17 :: o18 :: o19 :: some v :: r) H) := ⟨fun h => h⟩
instance go_aug20 {H : Hp} {v : V} {o0 o1 o2 o3 o4 o5 o6 o7 o8 o9 o10 o11 o12 o13 o14 o15 o16 o17 o18 o19 : Option V} {r : St} {te : TE} {ti : TIp} {D : Ends} : Go (tAug 20 te ti D (o0 :: o1 :: o2 :: o3 :: o4 :: o5 :: o6 :: o7 :: o8 :: o9 :: o10 :: o11 :: o12 :: o13 :: o14 :: o15 :: o16 :: o17 :: o18 :: o19 :: some v :: r) H) (te (o0 :: o1 :: o2 :: o3 :: o4 :: o5 :: o6 :: o7 :: o8 :: o9 :: o10 :: o11 :: o12 :: o13 :: o14 :: o15 :: o16 :: o17 :: o18 :: o19 :: some v :: r) H fun y H1 => ti v y H1 fun z H2 => D.nx (o0 :: o1 :: o2 :: o3 :: o4 :: o5 :: o6 :: o7 :: o8 :: o9 :: o10 :: o11 :: o12 :: o13 :: o14 :: o15 :: o16 :: o17 :: o18 :: o19 :: some z :: r) H2) := ⟨fun h => go_aug (v := v) rfl h⟩
instance go_wv21 {H : Hp} {Q : VK} {v : V} {o0 o1 o2 o3 o4 o5 o6 o7 o8 o9 o10 o11 o12 o13 o14 o15 o16 o17 o18 o19 o20 : Option V} {r : St} : Go (tVar 21 (o0 :: o1 :: o2 :: o3 :: o4 :: o5 :: o6 :: o7 :: o8 :: o9 :: o10 :: o11 :: o12 :: o13 :: o14 :: o15 :: o16 :: o17 :: o18 :: o19 :: o20 :: some v :: r) H Q) (Q v H) := ⟨fun h => ⟨v, rfl, h⟩⟩
instance go_wn21 {H : Hp} {v : V} {o0 o1 o2 o3 o4 o5 o6 o7 o8 o9 o10 o11 o12 o13 o14 o15 o16 o17 o18 o19 o20 o : Option V} {r : St} {R : St → Hp → Prop} : Go (gName 21 v (o0 :: o1 :: o2 :: o3 :: o4 :: o5 :: o6 :: o7 :: o8 :: o9 :: o10 :: o11 :: o12 :: o13 :: o14 :: o15 :: o16 :: o17 :: o18 :: o19 :: o20 :: o :: r) H R) (R (o0 :: o1 :: o2 :: o3 :: o4 :: o5 :: o6 :: o7 :: o8 :: o9 :: o10 :: o11 :: o12 :: o13 :: o14 :: o15 :: o16 :: o17 :: o18 :: o19 :: o20 :: some v :: r) H) := ⟨fun h => h⟩
instance go_aug21 {H : Hp} {v : V} {o0 o1 o2 o3 o4 o5 o6 o7 o8 o9 o10 o11 o12 o13 o14 o15 o16 o17 o18 o19 o20 : Option V} {r : St} {te : TE} {ti : TIp} {D : Ends} : Go (tAug 21 te ti D (o0 :: o1 :: o2 :: o3 :: o4 :: o5 :: o6 :: o7 :: o8 :: o9 :: o10 :: o11 :: o12 :: o13 :: o14 :: o15 :: o16 :: o17 :: o18 :: o19 :: o20 :: some v :: r) H) (te (o0 :: o1 :: o2 :: o3 :: o4 :: o5 :: o6 :: o7 :: o8 :: o9 :: o10 :: o11 :: o12 :: o13 :: o14 :: o15 :: o16 :: o17 :: o18 :: o19 :: o20 :: some v :: r) H fun y H1 => ti v y H1 fun z H2 => D.nx (o0 :: o1 :: o2 :: o3 :: o4 :: o5 :: o6 :: o7 :: o8 :: o9 :: o10 :: o11 :: o12 :: o13 :: o14 :: o15 :: o16 :: o17 :: o18 :: o19 :: o20 :: some z :: r) H2) := ⟨fun h => go_aug (v := v) rfl h⟩
instance go_wv22 {H : Hp} {Q : VK} {v : V} {o0 o1 o2 o3 o4 o5 o6 o7 o8 o9 o10 o11 o12 o13 o14 o15 o16 o17 o18 o19 o20 o21 : Option V} {r : St} : Go (tVar 22 (o0 :: o1 :: o2 :: o3 :: o4 :: o5 :: o6 :: o7 :: o8 :: o9 :: o10 :: o11 :: o12 :: o13 :: o14 :: o15 :: o16 :: o17 :: o18 :: o19 :: o20 :: o21 :: some v :: r) H Q) (Q v H) := ⟨fun h => ⟨v, rfl, h⟩⟩
instance go_wn22 {H : Hp} {v : V} {o0 o1 o2 o3 o4 o5 o6 o7 o8 o9 o10 o11 o12 o13 o14 o15 o16 o17 o18 o19 o20 o21 o : Option V} {r : St} {R : St → Hp → Prop} : Go (gName 22 v (o0 :: o1 :: o2 :: o3 :: o4 :: o5 :: o6 :: o7 :: o8 :: o9 :: o10 :: o11 :: o12 :: o13 :: o14 :: o15 :: o16 :: o17 :: o18 :: o19 :: o20 :: o21 :: o :: r) H R) (R (o0 :: o1 :: o2 :: o3 :: o4 :: o5 :: o6 :: o7 :: o8 :: o9 :: o10 :: o11 :: o12 :: o13 :: o14 :: o15 :: o16 :: o17 :: o18 :: o19 :: o20 :: o21 :: some v :: r) H) := ⟨fun h => h⟩
instance go_aug22 {H : Hp} {v : V} {o0 o1 o2 o3 o4 o5 o6 o7 o8 o9 o10 o11 o12 o13 o14 o15 o16 o17 o18 o19 o20 o21 : Option V} {r : St} {te : TE} {ti : TIp} {D : Ends} : Go (tAug 22 te ti D (o0 :: o1 :: o2 :: o3 :: o4 :: o5 :: o6 :: o7 :: o8 :: o9 :: o10 :: o11 :: o12 :: o13 :: o14 :: o15 :: o16 :: o17 :: o18 :: o19 :: o20 :: o21 :: some v :: r) H) (te (o0 :: o1 :: o2 :: o3 :: o4 :: o5 :: o6 :: o7 :: o8 :: o9 :: o10 :: o11 :: o12 :: o13 :: o14 :: o15 :: o16 :: o17 :: o18 :: o19 :: o20 :: o21 :: some v :: r) H fun y H1 => ti v y H1 fun z H2 => D.nx (o0 :: o1 :: o2 :: o3 :: o4 :: o5 :: o6 :: o7 :: o8 :: o9 :: o10 :: o11 :: o12 :: o13 :: o14 :: o15 :: o16 :: o17 :: o18 :: o19 :: o20 :: o21 :: some z :: r) H2) := ⟨fun h => go_aug (v := v) rfl h⟩
instance go_wv23 {H : Hp} {Q : VK} {v : V} {o0 o1 o2 o3 o4 o5 o6 o7 o8 o9 o10 o11 o12 o13 o14 o15 o16 o17 o18 o19 o20 o21 o22 : Option V} {r : St} : Go (tVar 23 (o0 :: o1 :: o2 :: o3 :: o4 :: o5 :: o6 :: o7 :: o8 :: o9 :: o10 :: o11 :: o12 :: o13 :: o14 :: o15 :: o16 :: o17 :: o18 :: o19 :: o20 :: o21 :: o22 :: some v :: r) H Q) (Q v H) := ⟨fun h => ⟨v, rfl, h⟩⟩
instance go_wn23 {H : Hp} {v : V} {o0 o1 o2 o3 o4 o5 o6 o7 o8 o9 o10 o11 o12 o13 o14 o15 o16 o17 o18 o19 o20 o21 o22 o : Option V} {r : St} {R : St → Hp → Prop} : Go (gName 23 v (o0 :: o1 :: o2 :: o3 :: o4 :: o5 :: o6 :: o7 :: o8 :: o9 :: o10 :: o11 :: o12 :: o13 :: o14 :: o15 :: o16 :: o17 :: o18 :: o19 :: o20 :: o21 :: o22 :: o :: r) H R) (R (o0 :: o1 :: o2 :: o3 :: o4 :: o5 :: o6 :: o7 :: o8 :: o9 :: o10 :: o11 :: o12 :: o13 :: o14 :: o15 :: o16 :: o17 :: o18 :: o19 :: o20 :: o21 :: o22 :: some v :: r) H) := ⟨fun h => h⟩
instance go_aug23 {H : Hp} {v : V} {o0 o1 o2 o3 o4 o5 o6 o7 o8 o9 o10 o11 o12 o13 o14 o15 o16 o17 o18 o19 o20 o21 o22 : Option V} {r : St} {te : TE} {ti : TIp} {D : Ends} : Go (tAug 23 te ti D (o0 :: o1 :: o2 :: o3 :: o4 :: o5 :: o6 :: o7 :: o8 :: o9 :: o10 :: o11 :: o12 :: o13 :: o14 :: o15 :: o16 :: o17 :: o18 :: o19 :: o20 :: o21 :: o22 :: some v :: r) H) (te (o0 :: o1 :: o2 :: o3 :: o4 :: o5 :: o6 :: o7 :: o8 :: o9 :: o10 :: o11 :: o12 :: o13 :: o14 :: o15 :: o16 :: o17 :: o18 :: o19 :: o20 :: o21 :: o22 :: some v :: r) H fun y H1 => ti v y H1 fun z H2 => D.nx (o0 :: o1 :: o2 :: o3 :: o4 :: o5 :: o6 :: o7 :: o8 :: o9 :: o10 :: o11 :: o12 :: o13 :: o14 :: o15 :: o16 :: o17 :: o18 :: o19 :: o20 :: o21 :: o22 :: some z :: r) H2) := ⟨fun h => go_aug (v := v) rfl h⟩
end L2
set_option Elab.async false
set_option linter.all false
set_option maxRecDepth 100000
set_option maxHeartbeats 4000000
namespace L2
open PySem PySem.Spec PyProof.Rows PySem.SeqAt
section
variable {X : Cx} {o lo hi : Expr} {to tl th : TE} {pos p2 : Pos}
/-- xs[lo:hi] = ys; the slice itself is let go first -/
theorem pg_slc2 (ho : PE X o to) (hl : PE X lo tl) (hh : PE X hi th)
    (ha : ∀ v, assign (.Subscript o (.Slice (some lo) (some hi) none p2) pos) X.env v = (do
      let ov ← holding [v] (eval o X.env)
      let iv ← holding [v, ov] (eval (.Slice (some lo) (some hi) none p2) X.env)
      standAt pos
      holding [v, ov, iv] (setItem ov iv v)
      release [iv, v, ov] []) := by intro _; rfl) : PG X (.Subscript o (.Slice (some lo) (some hi) none p2) pos) (gSlc to tl th) := by
  intro pins s σ H v u Q I r h
  rw [ha]
  refine wpAny_bind (wpAny_holding (thn (ho pins s σ H _ I h) fun ov s1 ⟨x, H1, I1, r1, q1⟩ => ?_))
  refine wpAny_bind (wpAny_holding (wpAny_Slice (wpAny_evalPart_some (thn (hl pins s1 σ H1 _ I1 q1) fun a s2 ⟨y, H2, I2, r2, q2⟩ => wpAny_evalPart_some (thn (hh pins s2 σ H2 _ I2 q2) fun c s3 ⟨z, H3, I3, r3, q3⟩ => wpAny_evalPart_none ?_)))))
  obtain ⟨l, b, xs, ys, i, j, rfl, rfl, rfl, rfl, e1, e2, ne, h0, h1, h2, hz, q⟩ := q3
  cases r1
  cases r
  have I4 : Inv X pins σ H3 { s3 with heap := s3.heap.push { cls := .type "slice", data := .fields #[a, c, .none] } } := I3.kept (t' := s3.toks) fun b ob z => Heap.get?_push_of_some _ z
  refine wpAny_bind (wpAny_standAt (wpAny_bind (wpAny_holding (set_slice I4 e1 e2 ne (Heap.IsSliceOf.new ..) r2 r3 h0 h1 h2 hz fun s5 I5 => ?_))))
  exact wpAny_release ⟨σ, _, I5, q _ Off.upd upd_same⟩
end
section
variable {K : PySem.W.Frag} {H0 H : Hp} {M : List Addr} {L L' : List (Addr × HO)} {I : List Im} {l b a p : Addr} {xs ys r : List V} {v v0 v1 y : V} {Q : VK} {R : Hp → Prop} {R' : Prop} {te : TE} {fvs σ : St} {fr : List Nat} {i j : Int} {Z : Addr → Hp → Prop}
instance go_sqAnd [h : SqA K H l xs] : Go (SqL K H l xs ∧ R') R' := ⟨fun k => ⟨h.e, k⟩⟩
instance go_nonAnd : Go (V.non = V.non ∧ R') R' := ⟨fun k => ⟨rfl, k⟩⟩
instance go_slcC [h : Hat H l (.lst xs)] [h2 : Hat H b (.lst ys)] [F : SH H0 M H L I] [n : LkNe L l b] : Go (∃ (l' b' : Addr) (xs' ys' : List V) (i' j' : Int), V.ref l = .ref l' ∧ V.ref b = .ref b' ∧ V.int i = .int i' ∧ V.int j = .int j' ∧ H l' = some (.lst xs') ∧ H b' = some (.lst ys') ∧ l' ≠ b' ∧
    0 ≤ i' ∧ i' ≤ j' ∧ j' ≤ xs'.length ∧ xs'.length + ys'.length ≤ sizeLine ∧ ∀ H', Off l' H H' → H' l' = some (.lst (xs'.take i'.toNat ++ ys' ++ xs'.drop j'.toNat)) → R H')
    (Sd (0 ≤ i ∧ i ≤ j ∧ j ≤ xs.length ∧ xs.length + ys.length ≤ 1000000) (∀ H', Off l H H' → H' l = some (.lst (xs.take i.toNat ++ ys ++ xs.drop j.toNat)) → R H')) :=
  ⟨fun s => w_slc h.e h2.e (n.ne F.nd) s.1.1 s.1.2.1 s.1.2.2.1 (small_line s.1.2.2.2) s.2⟩
instance go_setA [h : Hat H l (.lst xs)] : Go (rSetA (.ref l) (.int i) v H R) (Sd (0 ≤ i ∧ i < xs.length) (∀ H', Off l H H' → H' l = some (.lst (xs.set i.toNat v)) → R H')) := ⟨fun s => w_setA h.e (i_idx s.1.1 s.1.2) s.2⟩
instance go_rep1b {n : Nat} {c : Bool} [h : Hat H l (.lst [.bl c])] : Go (rRepA (.ref l) (.int (n : Int)) H Q) (Sd (n ≤ 1000000) (∀ p H', New H H' p (.lst ((List.replicate n c).map V.bl)) → Q (.ref p) H')) := ⟨fun s => w_rep1 h.e s.1 (by have := s.2; rw [List.map_replicate] at this; exact this)⟩
instance nx_kpT [F : SH H0 M H L I] [u : LkU L l (.lst xs) L'] : Go (∀ q H', Kp l H H' → H' l = some (.lst xs) → H' q = some (.tup r) → Z q H') (∀ H' q, SH H0 M H' L' (.tup q r :: I) → Z q H') := ⟨fun k q H' f e t => k H' q ((F.kpL f e u.u).addT t)⟩
instance go_forR1 {g : TG} {tb : TS} {D : Ends} : Go (∃ j : Int, [V.int i] = [.int j] ∧ -(2 ^ 62) ≤ j ∧ j < 2 ^ 62 ∧ ForR 0 j.toNat g tb D σ H) (Sd (-(2 ^ 62) ≤ i ∧ i < 2 ^ 62) (ForR 0 i.toNat g tb D σ H)) := ⟨fun s => ⟨i, rfl, s.1.1, s.1.2, s.2⟩⟩
instance go_forR2 {g : TG} {tb : TS} {D : Ends} : Go (∃ i' j' : Int, [V.int i, V.int j] = [.int i', .int j'] ∧ (-(2 ^ 62) ≤ i' ∧ i' < 2 ^ 62 ∧ -(2 ^ 62) ≤ j' ∧ j' < 2 ^ 62) ∧ ForR i' (j' - i').toNat g tb D σ H) (Sd (-(2 ^ 62) ≤ i ∧ i < 2 ^ 62 ∧ -(2 ^ 62) ≤ j ∧ j < 2 ^ 62) (ForR i (j - i).toNat g tb D σ H)) := ⟨fun s => ⟨i, j, rfl, s.1, s.2⟩⟩
instance go_forS3 {g : TG} {tb : TS} {D : Ends} {m : Int} : Go (∃ i' j' c' : Int, [V.int i, V.int j, V.int m] = [.int i', .int j', .int c'] ∧ (0 ≤ i' ∧ i' ≤ 1000000 ∧ 0 ≤ j' ∧ j' ≤ 1000000 ∧ 1 ≤ c' ∧ c' ≤ 1000) ∧ ForS i' c' (Builtin.Range.rangeSize i' j' c').toNat g tb D σ H) (Sd (0 ≤ i ∧ i ≤ 1000000 ∧ 0 ≤ j ∧ j ≤ 1000000 ∧ 1 ≤ m ∧ m ≤ 1000) (ForS i m (Builtin.Range.rangeSize i j m).toNat g tb D σ H)) := ⟨fun s => ⟨i, j, m, rfl, s.1, s.2⟩⟩
instance go_neNil {ws : List (Nat × Nat)} [h : Hat H p (.lst ys)] [t : TpA H ys (rowsN ws)] [h2 : Hat H b (.lst [])] : Go (rNeD K (.ref p) (.ref b) H Q) (Q (.bl (!decide (rowsN ws = []))) H) := ⟨w_neRNil (zs := []) h.e t.e (flat_N _) h2.e⟩
instance go_eqNil {ws : List (Nat × Nat)} [h : Hat H p (.lst ys)] [t : TpA H ys (rowsN ws)] [h2 : Hat H b (.lst [])] : Go (rEqD K (.ref p) (.ref b) H Q) (Q (.bl (decide (rowsN ws = []))) H) := ⟨w_eqRNil h.e t.e (flat_N _) h2.e⟩
end
end L2
set_option Elab.async false
set_option linter.all false
set_option maxRecDepth 100000
set_option maxHeartbeats 4000000
namespace L2
open PySem PySem.Spec PyProof.Rows
/-- the body x[1] -/
abbrev ixBody (x : Str) (p1 p2 p3 : Pos) (j : Nat) : Expr := .Subscript (.Name x p1) (.Constant (.int 1) j p2) p3
/-- a scope with the one local x -/
structure LamScope (x : Str) (scope : Scope) : Prop where
  kind : scope.kind = .function
  co : scope.isCoroutine = false
  gen : scope.isGenerator = false
  loc : scope.names.lookup x = some .local
  nocell : ∀ y ∈ scope.names, y.2 ≠ .cell
  nodeb : (x == ("__debug__" : Str)) = false
theorem ObjOk.is {P : Program} {w : World} {H : Hp} {h : Heap} {a : Addr} {o : HO} (x : ObjOk P w H h a o) : ∃ ob, h.get? a = some ob := by
  cases o with
  | lst xs => obtain ⟨_, _, _, _, e⟩ := x; exact ⟨_, e⟩
  | tup xs => obtain ⟨_, _, _, ob, e, _⟩ := x; exact ⟨_, e⟩
  | dK kvs => obtain ⟨_, _, _, _, ob, _, _, e, _⟩ := x; exact ⟨_, e⟩
  | dT kvs => obtain ⟨_, _, _, _, ob, _, _, e, _⟩ := x; exact ⟨_, e⟩
  | set S n => obtain ⟨ob, _, _, _, e, _⟩ := x; exact ⟨_, e⟩
  | ins C dx fs => obtain ⟨_, _, _, e, _⟩ := x; exact ⟨_, e⟩
  | own y => exact x
  | xd fs => obtain ⟨_, ⟨ob, _, _, e, _⟩, _⟩ := x; exact ⟨_, e⟩
  | rng lo hi => obtain ⟨_, _, _, e⟩ := x; exact ⟨_, e⟩
  | frz ob u => exact ⟨_, x.1⟩
  | tbl ps => exact ⟨_, x⟩
  | met f y => exact ⟨_, x⟩
  | ext φ => exact x.2.1
/-- the function object of a lambda x: x[1], with its code object -/
def IsLam (H : Hp) (f : Addr) : Prop := ∃ (qual x : Str) (params : Arguments) (p1 p2 p3 : Pos) (j : Nat) (scope : Scope) (pm ctv : Value) (c' : Addr) (oc : Obj) (vs : Array Value) (t : Tok),
  H f = some (.frz (PySem.W.kla_obj "<lambda>" qual params (ixBody x p1 p2 p3 j) scope [] pm c' ctv) (.own f)) ∧ H c' = some (.frz oc (.own c')) ∧ oc.data = .fields vs ∧ vs[1]? = some (.str qual t) ∧ LamScope x scope ∧
  ∀ q : Addr, bindArgs (PySem.W.kla_fn "<lambda>" qual params (ixBody x p1 p2 p3 j) scope [] pm (.ref c') ctv) ⟨[.ref q], []⟩ = pure [(x, .ref q)]
/-- sorted in rising order of the keys -/
def SortedBy (ks : List Int) (xs ys : List V) : Prop := ∃ ps : List (Int × V), ps.Perm (ks.zip xs) ∧ ys = ps.map Prod.snd ∧ ps.Pairwise fun a b => a.1 ≤ b.1
def rSortK (K : PySem.W.Frag) : List V → V → Hp → VK → Prop := fun vs y H Q => ∃ (l f : Addr) (xs : List V) (ks : List Int), vs = [.ref l] ∧ y = .ref f ∧ IsLam H f ∧ SqL K H l xs ∧ ks.length = xs.length ∧ xs.length < 64 ∧
  (∀ (i : Nat) v k, xs[i]? = some v → ks[i]? = some k → ∃ q r, v = .ref q ∧ H q = some (.tup r) ∧ r[1]? = some (.int k)) ∧ ∀ D ys H', New H H' D (.lst ys) → SortedBy ks xs ys → Q (.ref D) H'
end L2
set_option Elab.async false
set_option linter.all false
set_option maxRecDepth 100000
set_option maxHeartbeats 4000000
namespace L2
open PySem PySem.Spec PyProof.Rows
/-- what was there stays, but tables grow; new things come -/
theorem Inv.grow {X : Cx} {pins : List (Addr × Obj)} {σ : St} {H H' : Hp} {s : Shared} {h' : Heap} {t' : Nat} (I : Inv X pins σ H s) (k : ∀ b u, H b = none → s.heap.get? b = some u → h'.get? b = some u ∧ H' b = none)
    (kt : ∀ b u, H b = some u → (H' b = some u ∧ ∀ o, s.heap.get? b = some o → h'.get? b = some o) ∨ ∃ ps more, u = .tbl ps ∧ H' b = some (.tbl (ps ++ more)) ∧ h'.get? b = some { cls := .none, data := .fields (ps ++ more) })
    (new : ∀ b u, H b = none → H' b = some u → ObjOk X.prog X.w H' h' b u) : Inv X pins σ H' { s with heap := h', toks := t' } := by
  have same : ∀ {b : Addr} {u : HO}, H b = some u → (∀ ps, u ≠ .tbl ps) → H' b = some u ∧ ∀ o, s.heap.get? b = some o → h'.get? b = some o := fun {b u} e n => by
    rcases kt b u e with z | ⟨ps, _, z, _⟩
    · exact z
    · exact absurd z (n ps)
  obtain ⟨m0, ⟨oL, esL, epL, eL, rL⟩, _⟩ := id I.loc
  have kL := (k _ _ I.free eL).1
  refine I.step (g' := s.gens) (d' := s.drawn) (ch := []) (fun _ z => nomatch z) (fun b u n _ _ e q => (k b u q e).1) (fun b u n _ _ e q => ⟨u.slots, (k b u q e).1⟩) (fun b u _ e q => (k b u q e).2) (fun b u _ e => ?_) (fun b xs e => (same e (by intro _ z; cases z)).1) (fun b u v e => (same e (by intro _ z; cases z)).1) (fun b ps e => ?_) (fun m2 hm2 => ?_) (fun b u e => ?_) I.bare
  · cases q : H b with
    | none => exact ⟨u, (k b u q e).1⟩
    | some v =>
      rcases kt b v q with z | ⟨ps, more, _, _, z⟩
      · exact ⟨u, z.2 u e⟩
      · exact ⟨_, z⟩
  · rcases kt b _ e with z | ⟨ps', more, z, z2, _⟩
    · exact ⟨#[], by rw [z.1]; simp⟩
    · cases z
      exact ⟨more, z2⟩
  · obtain ⟨o, es, ep, e, r⟩ := hm2
    rw [eL] at e
    cases e
    exact ⟨_, es, ep, kL, r⟩
  · cases q : H b with
    | none => exact new b u q e
    | some v =>
      rcases kt b v q with z | ⟨ps, more, rfl, z2, z3⟩
      · rw [z.1] at e
        cases e
        refine (I.hok b _ q).stay (fun c o hc e2 => ?_) (fun c e2 => (same e2 (by intro _ z; cases z)).1) fun c xs e2 => (same e2 (by intro _ z; cases z)).1
        rcases hc with rfl | hc
        · exact z.2 o e2
        · exact (same hc (by intro _ z; cases z)).2 o e2
      · rw [z2] at e
        cases e
        exact z3
def TabOk (pos : Pos) (qual : Str) (ps : Array Value) (H : Hp) : Prop := ps = #[] ∨ ∃ (c' : Addr) (oc : Obj) (vs : Array Value) (t : Tok), ps = #[rawInt pos.line, rawInt pos.col, .ref c'] ∧ H c' = some (.frz oc (.own c')) ∧ oc.data = .fields vs ∧ vs[1]? = some (.str qual t)
def tLam (P : Addr) (pos : Pos) (qual : Str) : TE := fun _ H Q => ∃ ps, H P = some (.tbl ps) ∧ TabOk pos qual ps H ∧ ∀ f ps' H', Kp P H H' → H' P = some (.tbl ps') → TabOk pos qual ps' H' → IsLam H' f → Q (.ref f) H'
end L2
set_option Elab.async false
set_option linter.all false
set_option maxRecDepth 100000
set_option maxHeartbeats 4000000
namespace L2
open PySem PySem.Spec PyProof.Rows
section
variable {P : Program} {w : World} {K : PySem.W.Frag} {mg : Str → Option Value} {base : Heap} {CX : CXT} {k : Nat} {nm qual : Str} {st : Stmt} {f c : Addr} {N ps : List Str} {sp : Sp}
end
end L2
set_option Elab.async false
set_option linter.all false
set_option maxRecDepth 100000
set_option maxHeartbeats 4000000
namespace L2
open PySem PySem.Spec PyProof.Rows PySem.SeqAt
/-- the text of these signs -/
def tx (cs : List Nat) : Str := ⟨cs.toArray⟩
theorem tx_len (cs : List Nat) : (tx cs).length = cs.length := by simp [tx, Str.length]
theorem tx_cps (cs : List Nat) : (tx cs).cps.toList = cs := by simp [tx]
def rSlS : R2 := fun x y H Q => ∃ z j, x = .str z ∧ y = .int j ∧ z.length ≤ sizeLine ∧ Q (.str (Txt.slice z none (some j))) H
def tSlS (te th : TE) : TE := fun σ H Q => te σ H fun x H1 => th σ H1 fun y H2 => rSlS x y H2 Q
section
variable {X : Cx} {e hi : Expr} {te th : TE} {p2 pos : Pos}
def rMulS : R2 := fun x y H Q => ∃ z n, x = .str z ∧ y = .int n ∧ MulOk z n ∧ Q (.str (Txt.mul z n)) H
def rPopA : V → List V → Hp → VK → Prop := fun x vs H Q => ∃ l xs i y, x = .ref l ∧ vs = [.int i] ∧ H l = some (.lst xs) ∧ 0 ≤ i ∧ i < xs.length ∧ xs.length ≤ 1000000 ∧ xs[i.toNat]? = some y ∧ ∀ H', Off l H H' → H' l = some (.lst (xs.eraseIdx i.toNat)) → Q y H'
end
theorem slice_tx (cs : List Nat) (j : Nat) : Txt.slice (tx cs) none (some (j : Int)) = tx (cs.take j) := by
  have hn : ¬ ((j : Int) < 0) := by omega
  have hix : Builtin.Str.strSliceIndices none (some (j : Int)) 1 (tx cs).length = List.range (min j cs.length) := by
    unfold Builtin.Str.strSliceIndices sliceRange
    dsimp only
    rw [tx_len]
    simp only [show (1 : Int) > 0 from by decide, if_true, hn, if_false]
    have e1 : max (0 : Int) (min (j : Int) (cs.length : Int)) = ((min j cs.length : Nat) : Int) := by omega
    rw [e1]
    by_cases h : (0 : Int) < ((min j cs.length : Nat) : Int)
    · rw [if_pos h]
      have e2 : ((((min j cs.length : Nat) : Int) - 0 + 1 - 1) / 1).toNat = min j cs.length := by
        rw [Int.ediv_one]
        omega
      rw [e2]
      have e3 : (fun k : Nat => ((0 : Int) + 1 * (k : Int)).toNat) = id := by
        funext k
        show ((0 : Int) + 1 * (k : Int)).toNat = k
        omega
      rw [e3, List.map_id]
    · rw [if_neg h]
      have : min j cs.length = 0 := by omega
      rw [this]
      rfl
  unfold Txt.slice
  rw [hix, List.length_range, tx_len]
  by_cases h : min j cs.length = cs.length
  · rw [if_pos (by rw [h]; simp)]
    rw [List.take_of_length_le (by omega)]
  · rw [if_neg (by simp [h])]
    unfold tx
    congr 2
    have hfm : ∀ (n : Nat), n ≤ cs.length → (List.range n).filterMap (fun i => cs.toArray[i]?) = cs.take n := by
      intro n
      induction n with
      | zero => intro _; rfl
      | succ n ih =>
        intro hn
        rw [List.range_succ, List.filterMap_append, ih (by omega), List.take_succ, List.filterMap_cons, List.filterMap_nil]
        have : cs.toArray[n]? = cs[n]? := by simp
        rw [this]
        cases cs[n]? <;> rfl
    have := hfm (min j cs.length) (by omega)
    rw [this]
    by_cases hj : j ≤ cs.length
    · rw [show min j cs.length = j by omega]
    · exact absurd (by omega) h
theorem mul_tx (c : Nat) (n : Int) : Txt.mul (tx [c]) n = tx (List.replicate n.toNat c) := by
  have h := mul_one_list c n
  have e : (tx [c]) = ⟨#[c]⟩ := rfl
  rw [e]
  have : ∀ z : Str, z = tx z.cps.toList := fun z => by cases z; simp [tx]
  rw [this (Txt.mul ⟨#[c]⟩ n), h]
theorem append_tx (a b : List Nat) : tx a ++ tx b = tx (a ++ b) := by
  show Str.append _ _ = _
  unfold Str.append tx
  simp
section
variable {K : PySem.W.Frag} {H0 H : Hp} {M : List Addr} {L L' : List (Addr × HO)} {I : List Im} {l P f : Addr} {xs ys : List V} {v y : V} {Q : VK} {R : Hp → Prop} {te th : TE} {σ : St} {i : Int} {cs ds : List Nat} {j c : Nat} {pos : Pos} {qual : Str} {ps : Array Value}
instance go_slS : Go (tSlS te th σ H Q) (te σ H fun x H1 => th σ H1 fun y H2 => rSlS x y H2 Q) := ⟨id⟩
instance go_rslS : Go (rSlS (.str (tx cs)) (.int i) H Q) (Sd (0 ≤ i ∧ cs.length ≤ 1000) (Q (.str (tx (cs.take i.toNat))) H)) := ⟨fun s => ⟨_, i, rfl, rfl, by rw [tx_len]; exact small_line (by have := s.1.2; omega), by
  have := slice_tx cs i.toNat
  rw [show ((i.toNat : Nat) : Int) = i by have := s.1.1; omega] at this
  rw [this]
  exact s.2⟩⟩
instance go_rixS : Go (rIxS (.str (tx cs)) (.int i) H Q) (Sd (0 ≤ i ∧ i < cs.length ∧ cs.length ≤ 1000) (∀ c : Nat, cs[i.toNat]? = some c → Q (.str (tx [c])) H)) := ⟨fun s => by
  obtain ⟨⟨h0, h1, h2⟩, k⟩ := s
  have hl : i.toNat < cs.length := by omega
  refine ⟨tx cs, i, cs[i.toNat], rfl, rfl, by rw [tx_len]; exact small_line (by omega), ?_, k _ (by simp)⟩
  rw [tx_cps]
  obtain ⟨n, rfl⟩ : ∃ n : Nat, i = (n : Int) := ⟨i.toNat, by omega⟩
  exact atI_nat (by simp)⟩
instance go_raddS : Go (rAddS (.str (tx cs)) (.str (tx ds)) H Q) (Sd (cs.length + ds.length ≤ 1000) (Q (.str (tx (cs ++ ds))) H)) := ⟨fun s => ⟨_, _, rfl, rfl, by rw [tx_len, tx_len]; exact small_line (by have := s.1; omega), by rw [append_tx]; exact s.2⟩⟩
instance go_rmulS : Go (rMulS (.str (tx [c])) (.int i) H Q) (Sd (0 ≤ i ∧ i ≤ 1000) (Q (.str (tx (List.replicate i.toNat c))) H)) := ⟨fun s => by
  obtain ⟨⟨h0, h1⟩, k⟩ := s
  refine ⟨_, i, rfl, rfl, ⟨?_, fun a b => ?_, fun a b => ?_⟩, by rw [mul_tx]; exact k⟩
  · rw [decide_eq_false (by omega), decide_eq_false (by omega)]
    rfl
  · rw [tx_len]
    have : (1 : Int) ≤ (2 ^ 63 - 1) / i := by
      rw [Int.le_ediv_iff_mul_le (by omega)]
      omega
    simp only [List.length_cons, List.length_nil]
    omega
  · unfold Builtin.Str.tooLong
    rw [tx_len]
    refine decide_eq_false ?_
    have := small_line (n := 1 * i.toNat) (by omega)
    simp only [List.length_cons, List.length_nil]
    omega⟩
instance go_pop [h : Hat H l (.lst xs)] : Go (rPopA (.ref l) [.int i] H Q) (Sd (0 ≤ i ∧ i < xs.length ∧ xs.length ≤ 1000000) (∀ y : V, xs[i.toNat]? = some y → ∀ H', Off l H H' → H' l = some (.lst (xs.eraseIdx i.toNat)) → Q y H')) := ⟨fun s => by
  obtain ⟨⟨h0, h1, h2⟩, k⟩ := s
  have hl : i.toNat < xs.length := by omega
  exact ⟨l, xs, i, xs[i.toNat], rfl, rfl, h.e, h0, h1, h2, by simp, k _ (by simp)⟩⟩
theorem w_tupD {n i0 i1 i2 i3 : Nat} {a b c d : V} {R : St → Hp → Prop} (hn : n = 4) (hp : SqT K H l [a, b, c, d]) (h : gName i0 a σ H fun σ1 H1 => gName i1 b σ1 H1 fun σ2 H2 => gName i2 c σ2 H2 fun σ3 H3 => gName i3 d σ3 H3 R) : gTup K n (gCons (gName i0) (gCons (gName i1) (gCons (gName i2) (gCons (gName i3) gNil)))) (.ref l) σ H R := by
  subst hn
  exact ⟨l, _, rfl, hp, rfl, _, _, rfl, _, _, rfl, _, _, rfl, _, _, rfl, rfl, h⟩
instance go_tup4 {n i0 i1 i2 i3 : Nat} {a b c d : V} {R : St → Hp → Prop} [h : SqB K H l [a, b, c, d]] : Go (gTup K n (gCons (gName i0) (gCons (gName i1) (gCons (gName i2) (gCons (gName i3) gNil)))) (.ref l) σ H R) (Sd (n = 4) (gName i0 a σ H fun σ1 H1 => gName i1 b σ1 H1 fun σ2 H2 => gName i2 c σ2 H2 fun σ3 H3 => gName i3 d σ3 H3 R)) := ⟨fun s => w_tupD s.1 h.e s.2⟩
theorem TabOk.st : ∀ H H', Tst H H' → TabOk pos qual ps H → TabOk pos qual ps H' := fun H H' t h => by
  rcases h with h | ⟨c', oc, vs, t', e, e1, e2⟩
  · exact .inl h
  · exact .inr ⟨c', oc, vs, t', e, t _ _ rfl e1, e2⟩
theorem IsLam.st : ∀ H H', Tst H H' → IsLam H f → IsLam H' f := fun H H' t h => by
  obtain ⟨a1, a2, a3, a4, a5, a6, a7, a8, a9, a10, a11, a12, a13, a14, e1, e2, r⟩ := h
  exact ⟨a1, a2, a3, a4, a5, a6, a7, a8, a9, a10, a11, a12, a13, a14, t _ _ rfl e1, t _ _ rfl e2, r⟩
abbrev TabI (pos : Pos) (qual : Str) (ps : Array Value) : Im := .fct (TabOk pos qual ps) TabOk.st
abbrev LamI (f : Addr) : Im := .fct (fun H => IsLam H f) IsLam.st
class TabA (I : List Im) (pos : Pos) (qual : Str) (ps : Array Value) : Prop where
  m : TabI pos qual ps ∈ I
class LamA (I : List Im) (f : Addr) : Prop where
  m : LamI f ∈ I
instance tabA1 {g : Im} [h : TabA I pos qual ps] : TabA (g :: I) pos qual ps := ⟨List.mem_cons_of_mem _ h.m⟩
instance tabA0 : TabA (TabI pos qual ps :: I) pos qual ps := ⟨List.mem_cons_self⟩
instance lamA1 {g : Im} [h : LamA I f] : LamA (g :: I) f := ⟨List.mem_cons_of_mem _ h.m⟩
instance lamA0 : LamA (LamI f :: I) f := ⟨List.mem_cons_self⟩
instance go_lam [F : SH H0 M H L I] [e : LkL L P (.tbl ps)] [t : TabA I pos qual ps] : Go (tLam P pos qual σ H Q) (∀ (f : Addr) (ps' : Array Value) (H' : Hp), Kp P H H' → H' P = some (.tbl ps') → TabOk pos qual ps' H' → IsLam H' f → Q (.ref f) H') := ⟨fun k => ⟨ps, F.raw e.m, F.im _ t.m, k⟩⟩
instance nx_tab [F : SH H0 M H L I] [u : LkU L P (.tbl ps) L'] : Go (∀ H', Kp P H H' → H' P = some (.tbl ps) → TabOk pos qual ps H' → R H') (∀ H', SH H0 M H' L' (TabI pos qual ps :: I) → R H') := ⟨fun k H' f e t => k H' ((F.kp f e u.u rfl).addF t)⟩
instance nx_lam [F : SH H0 M H L I] [u : LkU L P (.tbl ps) L'] : Go (∀ H', Kp P H H' → H' P = some (.tbl ps) → TabOk pos qual ps H' → IsLam H' f → R H') (∀ H', SH H0 M H' L' (LamI f :: TabI pos qual ps :: I) → R H') := ⟨fun k H' f e t g => k H' (((F.kp f e u.u rfl).addF t).addF g)⟩
end
end L2
set_option Elab.async false
set_option linter.all false
set_option maxRecDepth 100000
set_option maxHeartbeats 4000000
namespace L2
open PySem PySem.Spec PyProof.Rows PySem.SeqAt
def isLow (c : Nat) : Bool := decide (97 ≤ c) && decide (c ≤ 122)
def isFig (c : Nat) : Bool := decide (48 ≤ c) && decide (c ≤ 57)
/-- a good name, by its signs -/
structure NameOk (cs : List Nat) : Prop where
  lo : 1 ≤ cs.length
  hi : cs.length ≤ 8
  hd : ∀ c, cs[0]? = some c → isLow c = true
  all : ∀ c ∈ cs, (isLow c || isFig c) = true
structure Rw where
  nm : List Nat
  st : Nat
  sz : Nat
  pn : Nat
abbrev rowV (r : Rw) : List V := [.str (tx r.nm), .int (r.st : Nat), .int (r.sz : Nat), .int (r.pn : Nat)]
def rowsV (rs : List Rw) : List (List V) := rs.map rowV
theorem rowsV_len (rs : List Rw) : (rowsV rs).length = rs.length := List.length_map ..
structure GoodR (n : Nat) (r : Rw) : Prop where
  nm : NameOk r.nm
  sz : 1 ≤ r.sz
  le : r.st + r.sz ≤ n
def Apart (r s : Rw) : Prop := r.nm ≠ s.nm ∧ (r.st + r.sz ≤ s.st ∨ s.st + s.sz ≤ r.st)
theorem Apart.symm {r s : Rw} (h : Apart r s) : Apart s r := ⟨fun z => h.1 z.symm, h.2.elim .inr .inl⟩
def Asc (rs : List Rw) : Prop := rs.Pairwise fun r s => r.st + r.sz ≤ s.st
theorem rowsV_at {H : Hp} {rs : List Rw} {ys : List V} {i : Nat} {v : V} (h : TupsAt H ys (rowsV rs)) (e : ys[i]? = some v) : ∃ r q, rs[i]? = some r ∧ v = .ref q ∧ H q = some (.tup (rowV r)) := by
  obtain ⟨r, q, e1, e2, e3⟩ := tups_at h e
  unfold rowsV at e1
  rw [List.getElem?_map] at e1
  cases e4 : rs[i]? with
  | none => rw [e4] at e1; cases e1
  | some w => rw [e4] at e1; cases e1; exact ⟨w, q, rfl, e2, e3⟩
theorem Asc.lt {n : Nat} {rs : List Rw} (h : Asc rs) (g : ∀ r ∈ rs, GoodR n r) : rs.Pairwise fun r s => r.st < s.st := by
  refine List.Pairwise.imp_of_mem ?_ h
  intro a b ha hb hab
  have := (g a ha).sz
  omega
def rInS : R2 := fun x y H Q => ∃ c j, x = .str ⟨#[c]⟩ ∧ y = .str j ∧ Q (.bl (decide (c ∈ j.cps.toList))) H
section
variable {X : Cx} {K : PySem.W.Frag} {H : Hp} {Q : VK} {z : Str} {cs : List Nat} {c : Nat} {t0 te : TE} {nt : Nat} {fr : List Nat} {g : TG} {cc : TT} {σ fvs : St} {p f l : Addr} {bs : List Bool} {ys : List V} {rs : List Rw}
instance go_inS : Go (rInS (.str (tx [c])) (.str z) H Q) (Q (.bl (decide (c ∈ z.cps.toList))) H) := ⟨fun k => ⟨c, z, rfl, rfl, k⟩⟩
instance go_isSS : Go (rIsT K [.str z, .ty "str"] H Q) (Q (.bl true) H) := ⟨fun k => w_is (TyOf.str (K := K) (H := H) z) (bt_str (TyOf.str (K := K) (H := H) z)) k⟩
instance go_lenS : Go (rLen K [.str (tx cs)] H Q) (Sd (cs.length ≤ 1000) (Q (.int cs.length) H)) := ⟨fun s => w_lenS (by rw [tx_len]; exact small_line (by have := s.1; omega)) (by rw [tx_len]; exact s.2)⟩
instance go_compS : Go (tComp (iStr t0) nt fr g cc te σ H Q) (t0 σ H fun x H1 => ∃ z, x = .str z ∧ CompAll (Its z) nt fr g cc te σ H1 Q) := ⟨id⟩
instance go_compS1 : Go (∃ z', V.str z = .str z' ∧ CompAll (Its z') nt fr g cc te σ H Q) (CompAll (Its z) nt fr g cc te σ H Q) := ⟨fun k => ⟨z, rfl, k⟩⟩
instance go_all [h : SqA K H p (bs.map V.bl)] : Go (∃ (p' : Addr) (bs' : List Bool), [V.ref p] = [.ref p'] ∧ SqL K H p' (bs'.map V.bl) ∧ Q (.bl (bs'.all id)) H) (Q (.bl (bs.all id)) H) := ⟨fun k => ⟨p, bs, rfl, h.e, k⟩⟩
instance go_sortK {H0 : Hp} {M : List Addr} {L : List (Addr × HO)} {I : List Im} [F : SH H0 M H L I] [h : SqA K H l ys] [t : TpA H ys (rowsV rs)] [m : LamA I f] : Go (rSortK K [.ref l] (.ref f) H Q) (Sd (rs.length < 64) (∀ D zs H', New H H' D (.lst zs) → SortedBy (rs.map fun r => ((r.st : Nat) : Int)) ys zs → Q (.ref D) H')) := ⟨fun s => by
  have hl : ys.length = rs.length := by rw [t.e.1, rowsV_len]
  refine ⟨l, f, ys, rs.map fun r => ((r.st : Nat) : Int), rfl, rfl, F.im _ m.m, h.e, by rw [List.length_map, hl], by rw [hl]; exact s.1, fun i v k hv hk => ?_, s.2⟩
  obtain ⟨r, q, e1, e2, e3⟩ := rowsV_at t.e hv
  rw [List.getElem?_map, e1] at hk
  cases hk
  exact ⟨q, _, e2, e3, rfl⟩⟩
instance nx_rowsV {H0 : Hp} {M : List Addr} {L : List (Addr × HO)} {I : List Im} {Z : Addr → Hp → Prop} [F : SH H0 M H L I] : Go (∀ p ys H', New H H' p (.lst ys) → TupsAt H' ys (rowsV rs) → Z p H') (∀ H' p ys, ys.length = rs.length → SH H0 M H' ((p, .lst ys) :: L) (.tps ys (rowsV rs) :: I) → Z p H') := ⟨fun k p ys H' n t => k H' p ys (by rw [t.1, rowsV_len]) (F.newR n t)⟩
end
end L2
set_option Elab.async false
set_option linter.all false
set_option maxRecDepth 100000
set_option maxHeartbeats 4000000
namespace L2
open PySem PySem.Spec PyProof.Rows
def Itv (K : PySem.W.Frag) (a : Addr) (xs : List V) : It :=
  ⟨fun i H => SqL K H a xs ∧ i < xs.length, fun i H x H' => H' = H ∧ xs[xs.length - 1 - i]? = some x, fun i H => SqL K H a xs ∧ xs.length ≤ i⟩
def iRev (K : PySem.W.Frag) (ta : TA) : TI := fun σ H R => ta σ H fun vs H1 => ∃ a xs, vs = [.ref a] ∧ SqL K H1 a xs ∧ R (Itv K a xs) H1
section
variable {K : PySem.W.Frag} {g : TG} {tb : TS} {D : Ends} {σ : St} {H : Hp} {tr : TA} {a : Addr} {xs : List V}
def ForV (K : PySem.W.Frag) (a : Addr) (xs : List V) (g : TG) (tb : TS) (D : Ends) (σ : St) (H : Hp) : Prop := ∃ W : Nat → Nat → St → Hp → Prop, (∃ m, W 0 m σ H) ∧ ∀ i m σ H, W i m σ H →
      ((Itv K a xs).stop i H ∧ D.nx σ H) ∨ ((Itv K a xs).go i H ∧ ∃ N : St → Hp → Prop, (∀ σ' H', N σ' H' → ∃ m', m' < m ∧ W (i + 1) m' σ' H') ∧ ∀ x H', (Itv K a xs).yld i H x H' → g x σ H' fun σ2 H2 => tb { D with nx := N, ct := N, bk := D.nx } σ2 H2)
instance go_forV : Go (tFor (iRev K tr) g tb D σ H) (tr σ H fun vs H1 => ∃ a xs, vs = [.ref a] ∧ SqL K H1 a xs ∧ ForV K a xs g tb D σ H1) := ⟨id⟩
instance go_vby [h : SqA K H a xs] : Go (∃ a' xs', [V.ref a] = [.ref a'] ∧ SqL K H a' xs' ∧ ForV K a' xs' g tb D σ H) (ForV K a xs g tb D σ H) := ⟨fun k => ⟨a, xs, rfl, h.e, k⟩⟩
end
end L2
set_option Elab.async false
set_option linter.all false
set_option maxRecDepth 100000
set_option maxHeartbeats 4000000
namespace L2
open PySem PySem.W PySem.Spec PyProof.Rows
section
variable {n : Nat} {rk : Nat → Int} {α β : Type}
def Pp (n : Nat) (p : Array Nat) : Prop := p.Perm (List.range n).toArray
theorem Pp.size {p : Array Nat} (h : Pp n p) : p.size = n := by
  have := h.size_eq
  simpa using this
theorem Pp.lt {p : Array Nat} (h : Pp n p) {k : Nat} (hk : k < n) : p.getD k 0 < n := by
  have hs := h.size
  have e : p.getD k 0 = p[k]'(by omega) := by rw [Array.getD_eq_getD_getElem?, Array.getElem?_eq_getElem (by omega)]; rfl
  rw [e]
  have := (Array.perm_iff_toList_perm.mp h).mem_iff.mp (show p[k]'(by omega) ∈ p.toList by simp)
  simpa using this
theorem Pp.ne {p : Array Nat} (h : Pp n p) {a b : Nat} (ha : a < n) (hb : b < n) (hab : a ≠ b) : p.getD a 0 ≠ p.getD b 0 := by
  have hs := h.size
  have e : ∀ k (hk : k < n), p.getD k 0 = p.toList[k]'(by simpa [hs] using hk) := fun k hk => by
    rw [Array.getD_eq_getD_getElem?, Array.getElem?_eq_getElem (by omega)]
    rfl
  have nd : p.toList.Nodup := (Array.perm_iff_toList_perm.mp h).nodup_iff.mpr (by simpa using List.nodup_range)
  rw [e a ha, e b hb]
  intro z
  exact hab ((List.getElem_inj nd).mp z)
end
end L2
set_option Elab.async false
set_option linter.all false
set_option maxRecDepth 100000
set_option maxHeartbeats 4000000
namespace L2
open PySem PySem.W PySem.Calls PySem.Spec PyProof.Rows
section
variable {prog : Program} {w : World} {A : Around} {E : Value → Shared → Prop} {s : Shared} {h₀ : Heap} {L : Addr} {m : Str → Option Value} {news : List (Addr × Obj)} {vs : List Value}
inductive F2 {α β : Type} (R : α → β → Prop) : List α → List β → Prop
  | nil : F2 R [] []
  | cons {a b l m} : R a b → F2 R l m → F2 R (a :: l) (b :: m)
end
/-- the same rows, names rising -/
def ByName (nms : List (List Nat)) (xs zs : List V) : Prop := ∃ p : List Nat, p.Perm (List.range xs.length) ∧ zs = p.map (fun i => xs.getD i .non) ∧ p.Pairwise fun i j => ¬ nms.getD j [] < nms.getD i []
def rSortT (K : PySem.W.Frag) : List V → Hp → VK → Prop := fun vs H Q => ∃ (l : Addr) (xs : List V) (rows : List (List V)) (nms : List (List Nat)), vs = [.ref l] ∧ SqL K H l xs ∧ xs.length < 64 ∧ TupsAt H xs rows ∧ nms.length = xs.length ∧ (∀ (i : Nat) r c, rows[i]? = some r → nms[i]? = some c → ∃ z t, r = .str z :: t ∧ z.cps.toList = c) ∧ nms.Nodup ∧ ∀ D zs H', New H H' D (.lst zs) → ByName nms xs zs → Q (.ref D) H'
end L2
set_option Elab.async false
set_option linter.all false
set_option maxRecDepth 100000
set_option maxHeartbeats 4000000
namespace L2
open PySem PySem.Spec PyProof.Rows PySem.SeqAt
section
variable {K : PySem.W.Frag} {H : Hp} {Q : VK} {l p q : Addr} {x : V} {r xs ys zs : List V} {rs : List Rw}
theorem cut_tail : cutV (x :: r) (some 1) none = r := by
  unfold cutV
  rw [show (1 : Int) = ((1 : Nat) : Int) from rfl, HT.sIx_nat]
  show List.take ((x :: r).length - min 1 (x :: r).length) (List.drop (min 1 (x :: r).length) (x :: r)) = r
  rw [show min 1 (x :: r).length = 1 by simp only [List.length_cons]; omega]
  simp
instance go_slT [h : Hat H l (.tup (x :: r))] : Go (rSlT K (.ref l) (some 1) none H Q) (∀ p H', New H H' p (.tup r) → Q (.ref p) H') := ⟨fun k => ⟨l, _, rfl, SqT.of h.e, fun z => by
    have z := z.1
    rw [show (1 : Int) = ((1 : Nat) : Int) from rfl, HT.sIx_nat] at z
    simp only [List.length_cons] at z
    omega, fun p e => by rw [cut_tail]; exact k p _ (New.mk' e)⟩⟩
variable {σ : St} {nt : Nat} {fr : List Nat} {g : TG} {c : TT} {te t0 : TE}
instance go_compT : Go (tComp (iTup K t0) nt fr g c te σ H Q) (t0 σ H fun x H1 => ∃ a, x = .ref a ∧ (∃ xs, SqT K H1 a xs) ∧ CompAll (Itt K a) nt fr g c te σ H1 Q) := ⟨id⟩
instance go_tby [h : Hat H l (.tup xs)] : Go (∃ a, V.ref l = .ref a ∧ (∃ xs, SqT K H a xs) ∧ CompAll (Itt K a) nt fr g c te σ H Q) (CompAll (Itt K l) nt fr g c te σ H Q) := ⟨fun k => ⟨l, rfl, ⟨_, SqT.of h.e⟩, k⟩⟩
theorem rep_row (h : H p = some (.tup r)) (hf : ∀ v ∈ r, isFlat v = true) : Rep K H (rowDt r) (.ref p) := by
  simp only [Rep]
  exact ⟨p, r, rfl, SqT.of h, reps_flat hf⟩
theorem dep_row : depD (rowDt r) ≤ 100 := by
  simp only [depD, dep_flat]
  omega
theorem flat_row (r : Rw) : ∀ v ∈ rowV r, isFlat v = true := fun v hv => by
  simp only [List.mem_cons, List.not_mem_nil, or_false] at hv
  rcases hv with rfl | rfl | rfl | rfl <;> rfl
instance go_neRow {r : Rw} [h : Hat H p (.tup (rowV r))] [h2 : Hat H q (.tup (rowV r))] : Go (rNeD K (.ref p) (.ref q) H Q) (Q (.bl false) H) := ⟨w_neSame (rep_row h.e (flat_row r)) (rep_row h2.e (flat_row r)) dep_row⟩
abbrev nmsV (rs : List Rw) : List V := rs.map fun r => .str (tx r.nm)
theorem rep_nms (h : H p = some (.lst (nmsV rs))) : Rep K H (.lst ((nmsV rs).map flatDt)) (.ref p) := by
  simp only [Rep]
  exact ⟨p, _, rfl, SqL.of h, reps_flat fun v hv => by obtain ⟨t, _, rfl⟩ := List.mem_map.mp hv; rfl⟩
theorem dep_nms : depD (.lst ((nmsV rs).map flatDt)) ≤ 100 := by
  simp only [depD, dep_flat]
  omega
instance go_neNms [h : Hat H p (.lst (nmsV rs))] [h2 : Hat H q (.lst (nmsV rs))] : Go (rNeD K (.ref p) (.ref q) H Q) (Q (.bl false) H) := ⟨w_neSame (rep_nms h.e) (rep_nms h2.e) dep_nms⟩
instance go_eqNms [h : Hat H p (.lst (nmsV rs))] [h2 : Hat H q (.lst (nmsV rs))] : Go (rEqD K (.ref p) (.ref q) H Q) (Q (.bl true) H) := ⟨w_eqSame (rep_nms h.e) (rep_nms h2.e) dep_nms⟩
/-- names rise -/
def Rise (rs : List Rw) : Prop := rs.Pairwise fun a b => ¬ b.nm < a.nm
theorem tups_pick (t : TupsAt H ys (rowsV rs)) {p : List Nat} (hp : ∀ i ∈ p, i < rs.length) (d : Rw) : TupsAt H (p.map fun i => ys.getD i .non) (rowsV (p.map fun i => rs.getD i d)) := by
  have hl : ys.length = rs.length := by rw [t.1, rowsV_len]
  refine ⟨by rw [rowsV_len, List.length_map, List.length_map], fun j r e => ?_⟩
  unfold rowsV at e
  rw [List.getElem?_map, List.getElem?_map] at e
  cases e0 : p[j]? with
  | none => rw [e0] at e; cases e
  | some i =>
    rw [e0] at e
    have hi := hp i (List.mem_of_getElem? e0)
    have e1 : (rowsV rs)[i]? = some r := by
      unfold rowsV
      rw [List.getElem?_map, List.getElem?_eq_getElem hi]
      rw [← e]
      simp [List.getD_eq_getElem?_getD, List.getElem?_eq_getElem hi]
    obtain ⟨q, e2, e3⟩ := t.2 i r e1
    refine ⟨q, ?_, e3⟩
    rw [List.getElem?_map, e0, Option.map_some, List.getD_eq_getElem?_getD, e2]
    rfl
instance go_sortT [h : SqA K H l ys] [t : TpA H ys (rowsV rs)] : Go (rSortT K [.ref l] H Q) (Sd (rs.length < 64 ∧ (rs.map (·.nm)).Nodup) (∀ qs : List Rw, qs.Perm rs → Rise qs → ∀ D zs H', New H H' D (.lst zs) → TupsAt H' zs (rowsV qs) → Q (.ref D) H')) := ⟨fun s => by
  have hl : ys.length = rs.length := by rw [t.e.1, rowsV_len]
  refine ⟨l, ys, rowsV rs, rs.map (·.nm), rfl, h.e, by have := s.1.1; omega, t.e, by rw [List.length_map]; omega, fun i r c e1 e2 => ?_, s.1.2, fun D zs H' n b => ?_⟩
  · unfold rowsV at e1
    rw [List.getElem?_map] at e1 e2
    cases e0 : rs[i]? with
    | none => rw [e0] at e1; cases e1
    | some w =>
      rw [e0] at e1 e2
      cases e1
      cases e2
      exact ⟨_, _, rfl, rfl⟩
  · obtain ⟨p, pp, rfl, pw⟩ := b
    have plt : ∀ i ∈ p, i < rs.length := fun i hi => by rw [← hl]; simpa using pp.mem_iff.mp hi
    have d : Rw := ⟨[], 0, 0, 0⟩
    refine s.2 (p.map fun i => rs.getD i d) ?_ ?_ D _ H' n ((tups_pick t.e plt d).same n.s)
    · refine (pp.map _).trans ?_
      rw [hl]
      have : (List.range rs.length).map (fun i => rs.getD i d) = rs := by
        apply List.ext_getElem?
        intro i
        rw [List.getElem?_map]
        by_cases hi : i < rs.length
        · rw [List.getElem?_range hi, Option.map_some, List.getD_eq_getElem?_getD, List.getElem?_eq_getElem hi]
          rfl
        · rw [List.getElem?_eq_none (show (List.range rs.length).length ≤ i by rw [List.length_range]; omega), List.getElem?_eq_none (show rs.length ≤ i by omega)]
          rfl
      rw [this]
    · unfold Rise
      rw [List.pairwise_map]
      refine List.Pairwise.imp_of_mem (fun {a b} ha hb h => ?_) pw
      have g : ∀ i, i < rs.length → (rs.map (·.nm)).getD i [] = (rs.getD i d).nm := fun i hi => by
        rw [List.getD_eq_getElem?_getD, List.getD_eq_getElem?_getD, List.getElem?_map, List.getElem?_eq_getElem hi]
        rfl
      rw [g b (plt b hb), g a (plt a ha)] at h
      exact h⟩
variable {R : St → Hp → Prop}
theorem w_tupC {n i0 i1 i2 : Nat} {a b d : V} (hn : n = 3) (hp : SqT K H l [a, b, d]) (h : gName i0 a σ H fun σ1 H1 => gName i1 b σ1 H1 fun σ2 H2 => gName i2 d σ2 H2 R) : gTup K n (gCons (gName i0) (gCons (gName i1) (gCons (gName i2) gNil))) (.ref l) σ H R := by
  subst hn
  exact ⟨l, _, rfl, hp, rfl, _, _, rfl, _, _, rfl, _, _, rfl, rfl, h⟩
instance go_tup3 {n i0 i1 i2 : Nat} {a b d : V} [h : SqB K H l [a, b, d]] : Go (gTup K n (gCons (gName i0) (gCons (gName i1) (gCons (gName i2) gNil))) (.ref l) σ H R) (Sd (n = 3) (gName i0 a σ H fun σ1 H1 => gName i1 b σ1 H1 fun σ2 H2 => gName i2 d σ2 H2 R)) := ⟨fun s => w_tupC s.1 h.e s.2⟩
end
end L2
set_option Elab.async false
set_option linter.all false
set_option maxRecDepth 100000
set_option maxHeartbeats 4000000
namespace L2
open PySem PySem.W PySem.Spec PyProof.Rows
section
variable {CX : CXT} {P : Program} {w : World} {K : PySem.W.Frag} {mg : Str → Option Value} {base : Heap} {k m : Nat} {x : Str} {ps : List Str} {sp : Sp} {ds : List Value} {dvs : List V}
structure DefD (P : Program) (w : World) (K : PySem.W.Frag) (mg : Str → Option Value) (base : Heap) (CX : CXT) (k : Nat) (x : Str) (ps : List Str) (sp : Sp) (ds : List Value) : Prop where
  ex : ∃ (f : Addr) (fd : FuncData), FnOk P w K mg base CX k f fd ps sp ∧ mg x = some (.ref f) ∧ PySem.W.keepIn K (.ref f) = true ∧ Binds K fd ps [] ∧ Binds K fd ps ds
theorem DefD.all (D : DefD P w K mg base CX k x ps sp ds) : Def P w K mg base CX k x ps sp :=
  let ⟨f, fd, F, a, b, c, _⟩ := D.ex
  ⟨f, fd, F, a, b, c⟩
end
section
variable {X : Cx} {CX : CXT} {k m : Nat} {x : Str} {ps : List Str} {sp : Sp} {ds : List Value} {dvs : List V} {e : Expr} {es : List Expr} {t : TA} {E : XK} {p pos : Pos}
end
instance go_callD {σ : St} {H : Hp} {Q : VK} {te : TE} {d : V} {sp : Sp} {E : XK} : Go (tCall sp [d] E (tCons te tNil) σ H Q) (te σ H fun x H1 => sp [x, d] H1 Q E) := ⟨fun h => h⟩
end L2
set_option Elab.async false
set_option linter.all false
set_option maxRecDepth 100000
set_option maxHeartbeats 4000000
namespace L2
open PySem PySem.W PySem.Spec PyProof.Rows
def tVals (vs : List V) : TA := fun _ H R => R vs H
section
variable {X : Cx}
end
instance go_vals {σ : St} {H : Hp} {vs : List V} {R : List V → Hp → Prop} : Go (tVals vs σ H R) (R vs H) := ⟨fun h => h⟩
end L2
set_option Elab.async false
set_option linter.all false
set_option maxRecDepth 100000
set_option maxHeartbeats 4000000
namespace L2
open PySem PySem.W PySem.Spec PyProof.Rows
def joinC (c : Nat) : List (List Nat) → List Nat
  | [] => []
  | [p] => p
  | p :: q :: r => p ++ c :: joinC c (q :: r)
def splitC (c : Nat) : List Nat → List (List Nat)
  | [] => [[]]
  | x :: r => if x = c then [] :: splitC c r else match splitC c r with
    | [] => [[x]]
    | p :: ps => (x :: p) :: ps
theorem join_tx (c : Nat) : ∀ ps : List (List Nat), Str.join (tx [c]) (ps.map tx) = tx (joinC c ps)
  | [] => rfl
  | [p] => rfl
  | p :: q :: r => by
    have ih := join_tx c (q :: r)
    show tx p ++ tx [c] ++ Str.join (tx [c]) ((q :: r).map tx) = _
    rw [ih, append_tx, append_tx, List.append_assoc]
    rfl
def rSplit : V → List V → Hp → VK → Prop := fun x xs H Q => ∃ (cs : List Nat) (c : Nat), x = .str (tx cs) ∧ xs = [.str (tx [c])] ∧ c < 256 ∧ cs.length ≤ 900000 ∧ ∀ p H', New H H' p (.lst ((splitC c cs).map fun d => V.str (tx d))) → Q (.ref p) H'
section
variable {X : Cx}
def dg (n : Nat) : List Nat := (Nat.toDigits 10 n).map Char.toNat
theorem num_dg (n : Nat) : numS (n : Int) = tx (dg n) := by
  have h : ∀ z : Str, z = tx z.cps.toList := fun z => by cases z; simp [tx]
  rw [h (numS (n : Int)), PySem.W.KIN.signs_num]
  rfl
def rIntS : List V → Hp → VK → Prop := fun xs H Q => ∃ n : Nat, xs = [.str (tx (dg n))] ∧ n < 10 ^ 10 ∧ Q (.int (n : Nat)) H
end
end L2
set_option Elab.async false
set_option linter.all false
set_option maxRecDepth 100000
set_option maxHeartbeats 4000000
namespace L2
open PySem PySem.Spec PyProof.Rows PySem.SeqAt
/-- what a text is split into -/
class SplA (c : Nat) (cs : List Nat) (vs : outParam (List V)) : Prop where
  e : (splitC c cs).map (fun d => V.str (tx d)) = vs
/-- what a slice of a written-out list is -/
class CutA (xs : List V) (lo hi : Option Int) (ys : outParam (List V)) : Prop where
  e : cutV xs lo hi = ys
/-- a list of texts -/
class TxL (xs : List V) (ps : outParam (List (List Nat))) : Prop where
  e : xs = ps.map fun d => V.str (tx d)
section
variable {K : PySem.W.Frag} {H : Hp} {Q : VK} {σ : St} {t : TE} {ts : List TE} {a b cs : List Nat} {c n : Nat} {ps : List (List Nat)} {p l q : Addr} {xs ys r : List V} {lo hi : Option Int} {R : Str → Prop} {S : Int → Prop} {v v0 v1 v2 v3 v4 v5 : V} {i : Int} {z : Str} {bb : Bool}
instance go_split [s : SplA c cs xs] : Go (rSplit (.str (tx cs)) [.str (tx [c])] H Q) (Sd (c < 256 ∧ cs.length ≤ 900000) (∀ p H', New H H' p (.lst xs) → Q (.ref p) H')) := ⟨fun k => ⟨cs, c, rfl, rfl, k.1.1, k.1.2, by rw [s.e]; exact k.2⟩⟩
instance go_strN : Go (rStrI [.int (n : Nat)] H Q) (Sd (n < 10 ^ 10) (Q (.str (tx (dg n))) H)) := ⟨fun k => ⟨(n : Int), rfl, by
    have h : Bd 1000 (n : Int) := by
      have := k.1
      constructor <;> omega
    exact log_small h, by rw [num_dg]; exact k.2⟩⟩
instance go_intS : Go (rIntS [.str (tx (dg n))] H Q) (Sd (n < 10 ^ 10) (Q (.int (n : Nat)) H)) := ⟨fun k => ⟨n, rfl, k.1, k.2⟩⟩
instance txl_map : TxL (ps.map fun d => V.str (tx d)) ps := ⟨rfl⟩
instance txl_nil : TxL [] [] := ⟨rfl⟩
instance txl_cons [h : TxL r ps] : TxL (V.str (tx a) :: r) (a :: ps) := ⟨by rw [h.e]; rfl⟩
instance txl_app {qs : List (List Nat)} [h : TxL xs ps] [h2 : TxL ys qs] : TxL (xs ++ ys) (ps ++ qs) := ⟨by rw [h.e, h2.e, List.map_append]⟩
instance go_joinC [h : SqA K H p xs] [tl : TxL xs ps] : Go (rJoin K (.str (tx [c])) [.ref p] H Q) (Sd ((ps.map fun d => d.length).sum + ps.length ≤ 1000000) (Q (.str (tx (joinC c ps))) H)) := ⟨fun k => ⟨tx [c], p, ps.map tx, rfl, rfl, by rw [List.map_map]; have := h.e; rw [tl.e] at this; exact this, by rw [tx_len, List.length_singleton]; omega, by
    rw [List.map_map, List.length_map]
    have : (ps.map ((fun z : Str => z.length) ∘ tx)) = ps.map fun d => d.length := List.map_congr_left fun d _ => tx_len d
    rw [this]
    have := k.1
    omega, by rw [join_tx]; exact k.2⟩⟩
instance go_fs1 : Go (tFs (t :: ts) Str.empty σ H Q) (tFs (t :: ts) (tx []) σ H Q) := ⟨fun h => h⟩
instance go_fs2 : Go (∃ y, V.str (tx b) = .str y ∧ (tx a ++ y).length ≤ sizeLine ∧ tFs ts (tx a ++ y) σ H Q) (Sd (a.length + b.length ≤ 1000) (tFs ts (tx (a ++ b)) σ H Q)) := ⟨fun k => ⟨tx b, rfl, by rw [append_tx, tx_len, List.length_append]; exact small_line (by have := k.1; omega), by rw [append_tx]; exact k.2⟩⟩
instance go_fs3 : Go (tFs [] (tx a) σ H Q) (Sd (a.length ≤ 1000) (Q (.str (tx a)) H)) := ⟨fun k => ⟨by rw [tx_len]; exact small_line (by have := k.1; omega), k.2⟩⟩
instance go_fmS : Go ((∃ y, V.str (tx a) = .str y ∧ y.length ≤ sizeLine ∧ R y) ∨ ∃ i, V.str (tx a) = .int i ∧ i.natAbs.log2 < 1920 ∧ S i) (Sd (a.length ≤ 1000) (R (tx a))) := ⟨fun k => .inl ⟨_, rfl, by rw [tx_len]; exact small_line (by have := k.1; omega), k.2⟩⟩
instance go_fmI : Go ((∃ y, V.int (n : Nat) = .str y ∧ y.length ≤ sizeLine ∧ R y) ∨ ∃ i, V.int (n : Nat) = .int i ∧ i.natAbs.log2 < 1920 ∧ S i) (Sd (n < 10 ^ 10) (S (n : Nat))) := ⟨fun k => .inr ⟨(n : Int), rfl, by
    have h : Bd 1000 (n : Int) := by
      have := k.1
      constructor <;> omega
    exact log_small h, k.2⟩⟩
instance go_fs4 : Go (∃ y, V.str (numS (n : Nat)) = .str y ∧ (tx a ++ y).length ≤ sizeLine ∧ tFs ts (tx a ++ y) σ H Q) (Sd (a.length + (dg n).length ≤ 1000) (tFs ts (tx (a ++ dg n)) σ H Q)) := ⟨fun k => ⟨tx (dg n), by rw [num_dg], by rw [append_tx, tx_len, List.length_append]; exact small_line (by have := k.1; omega), by rw [append_tx]; exact k.2⟩⟩
instance go_slC [h : SqA K H l xs] [e : CutA xs lo hi ys] : Go (rSlA K (.ref l) lo hi H Q) (∀ p H', New H H' p (.lst ys) → Q (.ref p) H') := ⟨fun k => w_slA h.e (by rw [e.e]; exact k)⟩
instance go_eqNilT [h : SqA K H p (ps.map fun d => V.str (tx d))] [h2 : Hat H q (.lst [])] : Go (rEqD K (.ref p) (.ref q) H Q) (Q (.bl (decide (ps = []))) H) := ⟨fun k => w_eqNil (ts := ps.map tx) (by rw [List.map_map]; exact h.e) (SqL.of h2.e) (by rw [show decide (ps.map tx = []) = decide (ps = []) from decide_eq_decide.mpr List.map_eq_nil_iff]; exact k)⟩
instance go_eqNil0 [h : Hat H p (.lst [])] [h2 : Hat H q (.lst [])] : Go (rEqD K (.ref p) (.ref q) H Q) (Q (.bl true) H) := ⟨fun k => w_eqNil (ts := []) (SqL.of h.e) (SqL.of h2.e) k⟩
instance go_eqNil2 {z1 z2 : Str} [h : Hat H p (.lst [.str z1, .str z2])] [h2 : Hat H q (.lst [])] : Go (rEqD K (.ref p) (.ref q) H Q) (Q (.bl false) H) := ⟨fun k => w_eqNil (ts := [z1, z2]) (SqL.of h.e) (SqL.of h2.e) k⟩
instance at4 : AtI (v0 :: v1 :: v2 :: v3 :: v :: r) 4 v := ⟨atI_nat (j := 4) rfl⟩
instance at5 : AtI (v0 :: v1 :: v2 :: v3 :: v4 :: v :: r) 5 v := ⟨atI_nat (j := 5) rfl⟩
instance at6 : AtI (v0 :: v1 :: v2 :: v3 :: v4 :: v5 :: v :: r) 6 v := ⟨atI_nat (j := 6) rfl⟩
instance go_isNi : Go (rIsN (.int i) .non H Q) (Q (.bl false) H) := ⟨fun k => ⟨rfl, k⟩⟩
instance go_isNr : Go (rIsN (.ref p) .non H Q) (Q (.bl false) H) := ⟨fun k => ⟨rfl, k⟩⟩
instance go_isNs : Go (rIsN (.str z) .non H Q) (Q (.bl false) H) := ⟨fun k => ⟨rfl, k⟩⟩
instance go_isNb : Go (rIsN (.bl bb) .non H Q) (Q (.bl false) H) := ⟨fun k => ⟨rfl, k⟩⟩
instance go_isNn : Go (rIsN .non .non H Q) (Q (.bl true) H) := ⟨fun k => ⟨rfl, k⟩⟩
instance go_notNi : Go (rNotN (.int i) .non H Q) (Q (.bl true) H) := ⟨fun k => ⟨rfl, k⟩⟩
instance go_notNr : Go (rNotN (.ref p) .non H Q) (Q (.bl true) H) := ⟨fun k => ⟨rfl, k⟩⟩
instance go_notNs : Go (rNotN (.str z) .non H Q) (Q (.bl true) H) := ⟨fun k => ⟨rfl, k⟩⟩
instance go_notNn : Go (rNotN .non .non H Q) (Q (.bl false) H) := ⟨fun k => ⟨rfl, k⟩⟩
end
end L2
set_option Elab.async false
set_option linter.all false
set_option maxRecDepth 100000
set_option maxHeartbeats 4000000
namespace L2
open PySem PySem.W PySem.Calls PySem.Spec PyProof.Rows
section
variable {prog : Program} {w : World} {A : Around} {E : Value → Shared → Prop} {s : Shared} {h₀ : Heap} {L : Addr} {m : Str → Option Value} {news : List (Addr × Obj)} {vs : List Value}
end
def rSortN (K : PySem.W.Frag) : List V → Hp → VK → Prop := fun vs H Q => ∃ (l : Addr) (xs : List V) (ws : List (Nat × Nat)), vs = [.ref l] ∧ SqL K H l xs ∧ xs.length < 64 ∧ TupsAt H xs (rowsN ws) ∧ ws.Pairwise (fun a b => a.1 < b.1) ∧ ∀ D H', New H H' D (.lst xs) → Q (.ref D) H'
instance go_sortN {K : PySem.W.Frag} {H : Hp} {Q : VK} {l : Addr} {xs : List V} {ws : List (Nat × Nat)} [h : SqA K H l xs] [t : TpA H xs (rowsN ws)] : Go (rSortN K [.ref l] H Q) (Sd (xs.length < 64 ∧ ws.Pairwise (fun a b => a.1 < b.1)) (∀ D H', New H H' D (.lst xs) → Q (.ref D) H')) := ⟨fun s => ⟨l, xs, ws, rfl, h.e, s.1.1, t.e, s.1.2, s.2⟩⟩
end L2
set_option Elab.async false
set_option linter.all false
set_option maxRecDepth 100000
set_option maxHeartbeats 4000000
namespace L2
open PySem PySem.Spec PyProof.Rows PySem.SeqAt
section
variable {X : Cx} {k m : Nat} {nm : Str} {ps : List Str} {sp : Sp} {pos apos : Pos} {e o : Expr} {es : List Expr} {t : TA} {ta : TE} {C : Addr} {pins : List (Addr × Obj)} {EX : St → XK}
/-- o.m(e, ..) in a try's block -/
theorem pe_metx {pl : Sem Bool} (he : PE (X.tr pins EX) o ta) (c : Cls X.K C) (D : Met X.prog X.w X.K X.mg X.base (CX1 X.prog X.w) k C nm ps sp) (hr : Room m X.A) (ha : PA (X.tr pins EX) (e :: es) t) (hk : k ≤ m := by decide)
    (h1 : starEach (e :: es) X.env = (false, eval e X.env) :: starEach es X.env := by rfl) (h2 : (backTo pos (starEach es X.env)).any (·.1) = false := by rfl)
    (h3 : eval (.Call (.Attribute o nm apos) (e :: es) [] pos) X.env = (do
      let v ← eval o X.env
      standAt apos.atName
      let (g, ahead) ← holding [v] (getMethod v nm pl)
      callWith pos g ahead (backTo pos (starEach (e :: es) X.env)) (backToKw pos (keywordEach [] X.env))) := by rfl) :
    PE (X.tr pins EX) (.Call (.Attribute o nm apos) (e :: es) [] pos) (tMethx C nm EX sp ta t) := by
  obtain ⟨f, fd, F, mt, b⟩ := D.ex
  exact pe_methx (pl := pl) he c mt F hr b ha hk h1 h2 h3
end
theorem cx_s0 {CX : CXT} {P : Program} {w : World} {K : PySem.W.Frag} {mg : Str → Option Value} {base : Heap} {N : List Str} {qual : Str} {scope : Scope} {f : Addr} {cd : Value} {A : Around} {outer : List Env} {s : Shared} {H : Hp} {E : XK} : (cxOf CX P w K mg base N qual scope f cd A outer s H E).s₀ = s := rfl
/-- what a block hands on to its handlers -/
def tEX (th : THd) (D : Ends) : St → XK := fun σ cv dx H => ∃ C, cv = .ref C ∧ ∀ a, H a = none → th D C a dx σ (upd H a (excT a C dx))
class ExA (H : Hp) (a : Addr) (C : outParam Addr) (fs : outParam (List (Str × V))) : Prop where
  e : ExcT H a C fs
class ExM (K : PySem.W.Frag) (C d : Addr) (b : outParam Bool) : Prop where
  e : PySem.W.exmOne K (.ref C) (.ref d) = some b
def RaiseG1 (n : Nat) (C : Addr) (H0 : Hp) (E : XK) (f : Str) (vs : List V) (H1 : Hp) : Prop := ∃ v, vs = [v] ∧ ∀ z H', n ≤ z → H1 z = none → Same H1 H' → ExcAt H' z C [(f, v)] → ∃ a dx, V.ref z = .ref a ∧ n ≤ a ∧ H0 a = none ∧ H' a = some (excO a C dx) ∧ E (.ref C) dx (del H' a)
def RaiseG2 (n : Nat) (C : Addr) (H0 : Hp) (E : XK) (f g : Str) (vs : List V) (H1 : Hp) : Prop := ∃ v y, vs = [v, y] ∧ ∀ z H', n ≤ z → H1 z = none → Same H1 H' → ExcAt H' z C (putF g y [(f, v)]) → ∃ a dx, V.ref z = .ref a ∧ n ≤ a ∧ H0 a = none ∧ H' a = some (excO a C dx) ∧ E (.ref C) dx (del H' a)
section
variable {K : PySem.W.Frag} {H H0 : Hp} {M : List Addr} {L : List (Addr × HO)} {I : List Im} {Q : VK} {σ : St} {D : Ends} {th rest : THd} {tbE : (St → XK) → TS} {t : TA} {ta : TE} {sp : Sp} {EX : St → XK} {E : XK} {C d a : Addr} {dx : Option Addr} {fs : List (Str × V)} {f g m : Str} {v y : V} {n : Nat} {ts : Addr → TS} {b : Bool}
instance go_tryI : Go (tTry (fun _ EX => tbE EX) th D σ H) (tbE (tEX th D) D σ H) := ⟨fun h _ => h⟩
instance go_raised [F : SH H0 M H L I] : Go (∀ dx H', Same H H' → H' dx = some (dctO dx fs) → tEX th D σ (.ref C) (some dx) H') (∀ (H' : Hp) (a dx : Addr), SH H0 M H' L I → ExcT H' a C fs → th D C a (some dx) σ H') := ⟨fun k dx H' s e => ⟨C, rfl, fun a ha => k _ a dx ((F.same s).same (Same.new ha)) (ExcT.mk e ha)⟩⟩
instance go_methxI : Go (tMethx C m EX sp ta t σ H Q) (ta σ H fun x H1 => ∃ a dx fs, x = .ref a ∧ H1 a = some (.ins C dx fs) ∧ fs.lookup m = none ∧ t σ H1 fun vs H2 => sp (x :: vs) H2 Q (EX σ)) := ⟨id⟩
instance go_callxI : Go (tCallx EX sp t σ H Q) (t σ H fun vs H1 => sp vs H1 Q (EX σ)) := ⟨id⟩
instance go_raise1I : Go (tRaise C H0 n E (tEx1N n C f t) D σ H) (t σ H fun vs H1 => RaiseG1 n C H0 E f vs H1) := ⟨fun h => h⟩
instance go_raise2I : Go (tRaise C H0 n E (tEx2N n C f g t) D σ H) (t σ H fun vs H1 => RaiseG2 n C H0 E f g vs H1) := ⟨fun h => h⟩
instance go_rg1 [F : SH H0 [] H L I] : Go (RaiseG1 n C H0 E f [v] H) (∀ dx H2, Same H H2 → H2 dx = some (dctO dx [(f, v)]) → E (.ref C) (some dx) H2) := ⟨fun k => ⟨v, rfl, fun z H' hn hz s e => go_raise (by simp) hn hz (F.sm.free hz) s e k⟩⟩
instance go_rg2 [F : SH H0 [] H L I] : Go (RaiseG2 n C H0 E f g [v, y] H) (Sd (f ≠ g) (∀ dx H2, Same H H2 → H2 dx = some (dctO dx [(f, v), (g, y)]) → E (.ref C) (some dx) H2)) := ⟨fun k => ⟨v, y, rfl, fun z H' hn hz s e => go_raise (by simp) hn hz (F.sm.free hz) s (by
    have e2 : putF g y [(f, v)] = [(f, v), (g, y)] := by simp [putF, k.1]
    rw [← e2]
    exact e) k.2⟩⟩
instance go_exfI : Go (tExFT C ta f σ H Q) (ta σ H fun x H1 => ∃ a fs v, x = .ref a ∧ ExcT H1 a C fs ∧ fs.lookup f = some v ∧ Q v H1) := ⟨id⟩
instance go_exf2 [h : ExA H a C fs] [e : FLk fs f v] {R : V → Prop} : Go (∃ a' fs' v', V.ref a = .ref a' ∧ ExcT H a' C fs' ∧ fs'.lookup f = some v' ∧ R v') (R v) := ⟨fun k => ⟨a, fs, v, rfl, h.e, e.e, k⟩⟩
instance flk0 {r : List (Str × V)} : FLk ((f, v) :: r) f v := ⟨by simp [List.lookup]⟩
class NeS (f g : Str) : Prop where
  e : f ≠ g
instance flk1 {r : List (Str × V)} [n : NeS f g] : FLk ((g, y) :: (f, v) :: r) f v := ⟨by
  rw [List.lookup_cons, show (f == g) = false from beq_eq_false_iff_ne.mpr n.e]
  simp [List.lookup]⟩
instance go_hNo {i : Nat} [e : ExM K C d false] : Go (hAs K d i ts rest D C a dx σ H) (rest D C a dx σ H) := ⟨fun h => ⟨false, e.e, by rw [if_neg (by decide)]; exact h⟩⟩
instance go_hPlY [e : ExM K C d true] : Go (hPl K d ts rest D C a dx σ H) (ts a D σ H) := ⟨fun h => ⟨true, e.e, by rw [if_pos rfl]; exact h⟩⟩
instance go_hPlN [e : ExM K C d false] : Go (hPl K d ts rest D C a dx σ H) (rest D C a dx σ H) := ⟨fun h => ⟨false, e.e, by rw [if_neg (by decide)]; exact h⟩⟩
instance go_fgtR {i : Nat} : Go (Ends.rt (Ends.forget D i) v H) (Ends.rt D v H) := ⟨fun h => h⟩
instance go_hAs0 {o : Option V} {r : St} [e : ExM K C d true] : Go (hAs K d 0 ts rest D C a dx (o :: r) H) (ts a (D.forget 0) (some (.ref a) :: r) H) := ⟨fun h => go_caught e.e h⟩
instance go_fgt0 {o : Option V} {r : St} : Go (Ends.nx (Ends.forget D 0) (o :: r) H) (Ends.nx D (none :: r) H) := ⟨fun h => h⟩
instance go_hAs1 {o0 o : Option V} {r : St} [e : ExM K C d true] : Go (hAs K d 1 ts rest D C a dx (o0 :: o :: r) H) (ts a (D.forget 1) (o0 :: some (.ref a) :: r) H) := ⟨fun h => go_caught e.e h⟩
instance go_fgt1 {o0 o : Option V} {r : St} : Go (Ends.nx (Ends.forget D 1) (o0 :: o :: r) H) (Ends.nx D (o0 :: none :: r) H) := ⟨fun h => h⟩
instance go_hAs2 {o0 o1 o : Option V} {r : St} [e : ExM K C d true] : Go (hAs K d 2 ts rest D C a dx (o0 :: o1 :: o :: r) H) (ts a (D.forget 2) (o0 :: o1 :: some (.ref a) :: r) H) := ⟨fun h => go_caught e.e h⟩
instance go_fgt2 {o0 o1 o : Option V} {r : St} : Go (Ends.nx (Ends.forget D 2) (o0 :: o1 :: o :: r) H) (Ends.nx D (o0 :: o1 :: none :: r) H) := ⟨fun h => h⟩
instance go_hAs3 {o0 o1 o2 o : Option V} {r : St} [e : ExM K C d true] : Go (hAs K d 3 ts rest D C a dx (o0 :: o1 :: o2 :: o :: r) H) (ts a (D.forget 3) (o0 :: o1 :: o2 :: some (.ref a) :: r) H) := ⟨fun h => go_caught e.e h⟩
instance go_fgt3 {o0 o1 o2 o : Option V} {r : St} : Go (Ends.nx (Ends.forget D 3) (o0 :: o1 :: o2 :: o :: r) H) (Ends.nx D (o0 :: o1 :: o2 :: none :: r) H) := ⟨fun h => h⟩
instance go_hAs4 {o0 o1 o2 o3 o : Option V} {r : St} [e : ExM K C d true] : Go (hAs K d 4 ts rest D C a dx (o0 :: o1 :: o2 :: o3 :: o :: r) H) (ts a (D.forget 4) (o0 :: o1 :: o2 :: o3 :: some (.ref a) :: r) H) := ⟨fun h => go_caught e.e h⟩
instance go_fgt4 {o0 o1 o2 o3 o : Option V} {r : St} : Go (Ends.nx (Ends.forget D 4) (o0 :: o1 :: o2 :: o3 :: o :: r) H) (Ends.nx D (o0 :: o1 :: o2 :: o3 :: none :: r) H) := ⟨fun h => h⟩
instance go_hAs5 {o0 o1 o2 o3 o4 o : Option V} {r : St} [e : ExM K C d true] : Go (hAs K d 5 ts rest D C a dx (o0 :: o1 :: o2 :: o3 :: o4 :: o :: r) H) (ts a (D.forget 5) (o0 :: o1 :: o2 :: o3 :: o4 :: some (.ref a) :: r) H) := ⟨fun h => go_caught e.e h⟩
instance go_fgt5 {o0 o1 o2 o3 o4 o : Option V} {r : St} : Go (Ends.nx (Ends.forget D 5) (o0 :: o1 :: o2 :: o3 :: o4 :: o :: r) H) (Ends.nx D (o0 :: o1 :: o2 :: o3 :: o4 :: none :: r) H) := ⟨fun h => h⟩
instance go_hAs6 {o0 o1 o2 o3 o4 o5 o : Option V} {r : St} [e : ExM K C d true] : Go (hAs K d 6 ts rest D C a dx (o0 :: o1 :: o2 :: o3 :: o4 :: o5 :: o :: r) H) (ts a (D.forget 6) (o0 :: o1 :: o2 :: o3 :: o4 :: o5 :: some (.ref a) :: r) H) := ⟨fun h => go_caught e.e h⟩
instance go_fgt6 {o0 o1 o2 o3 o4 o5 o : Option V} {r : St} : Go (Ends.nx (Ends.forget D 6) (o0 :: o1 :: o2 :: o3 :: o4 :: o5 :: o :: r) H) (Ends.nx D (o0 :: o1 :: o2 :: o3 :: o4 :: o5 :: none :: r) H) := ⟨fun h => h⟩
instance go_hAs7 {o0 o1 o2 o3 o4 o5 o6 o : Option V} {r : St} [e : ExM K C d true] : Go (hAs K d 7 ts rest D C a dx (o0 :: o1 :: o2 :: o3 :: o4 :: o5 :: o6 :: o :: r) H) (ts a (D.forget 7) (o0 :: o1 :: o2 :: o3 :: o4 :: o5 :: o6 :: some (.ref a) :: r) H) := ⟨fun h => go_caught e.e h⟩
instance go_fgt7 {o0 o1 o2 o3 o4 o5 o6 o : Option V} {r : St} : Go (Ends.nx (Ends.forget D 7) (o0 :: o1 :: o2 :: o3 :: o4 :: o5 :: o6 :: o :: r) H) (Ends.nx D (o0 :: o1 :: o2 :: o3 :: o4 :: o5 :: o6 :: none :: r) H) := ⟨fun h => h⟩
instance go_hAs8 {o0 o1 o2 o3 o4 o5 o6 o7 o : Option V} {r : St} [e : ExM K C d true] : Go (hAs K d 8 ts rest D C a dx (o0 :: o1 :: o2 :: o3 :: o4 :: o5 :: o6 :: o7 :: o :: r) H) (ts a (D.forget 8) (o0 :: o1 :: o2 :: o3 :: o4 :: o5 :: o6 :: o7 :: some (.ref a) :: r) H) := ⟨fun h => go_caught e.e h⟩
instance go_fgt8 {o0 o1 o2 o3 o4 o5 o6 o7 o : Option V} {r : St} : Go (Ends.nx (Ends.forget D 8) (o0 :: o1 :: o2 :: o3 :: o4 :: o5 :: o6 :: o7 :: o :: r) H) (Ends.nx D (o0 :: o1 :: o2 :: o3 :: o4 :: o5 :: o6 :: o7 :: none :: r) H) := ⟨fun h => h⟩
instance go_hAs9 {o0 o1 o2 o3 o4 o5 o6 o7 o8 o : Option V} {r : St} [e : ExM K C d true] : Go (hAs K d 9 ts rest D C a dx (o0 :: o1 :: o2 :: o3 :: o4 :: o5 :: o6 :: o7 :: o8 :: o :: r) H) (ts a (D.forget 9) (o0 :: o1 :: o2 :: o3 :: o4 :: o5 :: o6 :: o7 :: o8 :: some (.ref a) :: r) H) := ⟨fun h => go_caught e.e h⟩
instance go_fgt9 {o0 o1 o2 o3 o4 o5 o6 o7 o8 o : Option V} {r : St} : Go (Ends.nx (Ends.forget D 9) (o0 :: o1 :: o2 :: o3 :: o4 :: o5 :: o6 :: o7 :: o8 :: o :: r) H) (Ends.nx D (o0 :: o1 :: o2 :: o3 :: o4 :: o5 :: o6 :: o7 :: o8 :: none :: r) H) := ⟨fun h => h⟩
instance go_hAs10 {o0 o1 o2 o3 o4 o5 o6 o7 o8 o9 o : Option V} {r : St} [e : ExM K C d true] : Go (hAs K d 10 ts rest D C a dx (o0 :: o1 :: o2 :: o3 :: o4 :: o5 :: o6 :: o7 :: o8 :: o9 :: o :: r) H) (ts a (D.forget 10) (o0 :: o1 :: o2 :: o3 :: o4 :: o5 :: o6 :: o7 :: o8 :: o9 :: some (.ref a) :: r) H) := ⟨fun h => go_caught e.e h⟩
instance go_fgt10 {o0 o1 o2 o3 o4 o5 o6 o7 o8 o9 o : Option V} {r : St} : Go (Ends.nx (Ends.forget D 10) (o0 :: o1 :: o2 :: o3 :: o4 :: o5 :: o6 :: o7 :: o8 :: o9 :: o :: r) H) (Ends.nx D (o0 :: o1 :: o2 :: o3 :: o4 :: o5 :: o6 :: o7 :: o8 :: o9 :: none :: r) H) := ⟨fun h => h⟩
instance go_hAs11 {o0 o1 o2 o3 o4 o5 o6 o7 o8 o9 o10 o : Option V} {r : St} [e : ExM K C d true] : Go (hAs K d 11 ts rest D C a dx (o0 :: o1 :: o2 :: o3 :: o4 :: o5 :: o6 :: o7 :: o8 :: o9 :: o10 :: o :: r) H) (ts a (D.forget 11) (o0 :: o1 :: o2 :: o3 :: o4 :: o5 :: o6 :: o7 :: o8 :: o9 :: o10 :: some (.ref a) :: r) H) := ⟨fun h => go_caught e.e h⟩
instance go_fgt11 {o0 o1 o2 o3 o4 o5 o6 o7 o8 o9 o10 o : Option V} {r : St} : Go (Ends.nx (Ends.forget D 11) (o0 :: o1 :: o2 :: o3 :: o4 :: o5 :: o6 :: o7 :: o8 :: o9 :: o10 :: o :: r) H) (Ends.nx D (o0 :: o1 :: o2 :: o3 :: o4 :: o5 :: o6 :: o7 :: o8 :: o9 :: o10 :: none :: r) H) := ⟨fun h => h⟩
instance go_hAs12 {o0 o1 o2 o3 o4 o5 o6 o7 o8 o9 o10 o11 o : Option V} {r : St} [e : ExM K C d true] : Go (hAs K d 12 ts rest D C a dx (o0 :: o1 :: o2 :: o3 :: o4 :: o5 :: o6 :: o7 :: o8 :: o9 :: o10 :: o11 :: o :: r) H) (ts a (D.forget 12) (o0 :: o1 :: o2 :: o3 :: o4 :: o5 :: o6 :: o7 :: o8 :: o9 :: o10 :: o11 :: some (.ref a) :: r) H) := ⟨fun h => go_caught e.e h⟩
instance go_fgt12 {o0 o1 o2 o3 o4 o5 o6 o7 o8 o9 o10 o11 o : Option V} {r : St} : Go (Ends.nx (Ends.forget D 12) (o0 :: o1 :: o2 :: o3 :: o4 :: o5 :: o6 :: o7 :: o8 :: o9 :: o10 :: o11 :: o :: r) H) (Ends.nx D (o0 :: o1 :: o2 :: o3 :: o4 :: o5 :: o6 :: o7 :: o8 :: o9 :: o10 :: o11 :: none :: r) H) := ⟨fun h => h⟩
instance go_hAs13 {o0 o1 o2 o3 o4 o5 o6 o7 o8 o9 o10 o11 o12 o : Option V} {r : St} [e : ExM K C d true] : Go (hAs K d 13 ts rest D C a dx (o0 :: o1 :: o2 :: o3 :: o4 :: o5 :: o6 :: o7 :: o8 :: o9 :: o10 :: o11 :: o12 :: o :: r) H) (ts a (D.forget 13) (o0 :: o1 :: o2 :: o3 :: o4 :: o5 :: o6 :: o7 :: o8 :: o9 :: o10 :: o11 :: o12 :: some (.ref a) :: r) H) := ⟨fun h => go_caught e.e h⟩
instance go_fgt13 {o0 o1 o2 o3 o4 o5 o6 o7 o8 o9 o10 o11 o12 o : Option V} {r : St} : Go (Ends.nx (Ends.forget D 13) (o0 :: o1 :: o2 :: o3 :: o4 :: o5 :: o6 :: o7 :: o8 :: o9 :: o10 :: o11 :: o12 :: o :: r) H) (Ends.nx D (o0 :: o1 :: o2 :: o3 :: o4 :: o5 :: o6 :: o7 :: o8 :: o9 :: o10 :: o11 :: o12 :: none :: r) H) := ⟨fun h => h⟩
end
end L2
set_option Elab.async false
set_option linter.all false
set_option maxRecDepth 100000
set_option maxHeartbeats 4000000
namespace L2
open PySem PySem.W PySem.Spec PyProof.Rows
def gSwapV (vs zs : List V) : List V := if zs.length = 2 then vs ++ [zs.getD 1 .non, zs.getD 0 .non] else []
section
variable {CX : CXT} {P : Program} {w : World} {K : PySem.W.Frag} {mg : Str → Option Value} {base : Heap} {k : Nat} {x nm qual : Str} {ps ks : List Str} {sp : Sp} {ds : List Value} {C : Addr}
end
def tMakeD (C : Addr) (sp : Sp) (d : V) (E : XK) (t : TA) : TE := fun σ H Q => t σ H fun vs H1 => ∀ x dx H2, New H1 H2 x (.ins C dx []) → sp (.ref x :: (vs ++ [d])) H2 (fun v H3 => v = .non ∧ Q (.ref x) H3) E
def tMakeK (C : Addr) (sp : Sp) (E : XK) (t : TA) : TE := fun σ H Q => t σ H fun zs H1 => ∀ x dx H2, New H1 H2 x (.ins C dx []) → sp (gSwapV [.ref x] zs) H2 (fun v H3 => v = .non ∧ Q (.ref x) H3) E
section
variable {X : Cx} {CX : CXT} {k m : Nat} {x : Str} {ps ks : List Str} {sp : Sp} {E : XK} {p pos : Pos} {e : Expr} {es : List Expr} {t : TA} {C : Addr} {d : V} {dv : Value} {kws : List Keyword}
end
section
variable {σ : St} {H : Hp} {Q : VK} {te te2 : TE} {C : Addr} {sp : Sp} {E : XK} {d : V} {t : TA}
instance go_makeD : Go (tMakeD C sp d E (tCons te tNil) σ H Q) (te σ H fun v H1 => ∀ x dx H2, New H1 H2 x (.ins C dx []) → sp [.ref x, v, d] H2 (fun v H3 => v = .non ∧ Q (.ref x) H3) E) := ⟨fun h => h⟩
instance go_makeK : Go (tMakeK C sp E (tCons te (tCons te2 tNil)) σ H Q) (te σ H fun v H1 => te2 σ H1 fun y H2 => ∀ x dx H3, New H2 H3 x (.ins C dx []) → sp [.ref x, y, v] H3 (fun v H4 => v = .non ∧ Q (.ref x) H4) E) := ⟨fun h => h⟩
end
end L2
set_option Elab.async false
set_option linter.all false
set_option maxRecDepth 100000
set_option maxHeartbeats 4000000
namespace L2
open PySem PySem.Spec PyProof.Rows
def minI (d : Int) (ns : List Int) : Int := ns.foldl min d
section
variable {X : Cx}
section
variable {P : Program} {w : World} {A : Around} {R : Result → Shared → Prop} {it : Addr} {fp wr : List Addr} {ns : List Int} {V0 : Nat → Value → Prop} {St0 : Nat → Heap → Prop} {kw : List (Str × Value)}
end
/-- min(xs, default=d) -/
def rMinD (K : PySem.W.Frag) : List V → V → Hp → VK → Prop := fun xs y H Q => ∃ (p : Addr) (ns : List Int) (d : Int), xs = [.ref p] ∧ y = .int d ∧ SqL K H p (ns.map V.int) ∧ Q (.int (if ns = [] then d else minI (ns.getD 0 0) ns)) H
/-- min(xs), xs not empty -/
def rMinL (K : PySem.W.Frag) : List V → Hp → VK → Prop := fun xs H Q => ∃ (p : Addr) (ns : List Int), xs = [.ref p] ∧ SqL K H p (ns.map V.int) ∧ ns ≠ [] ∧ Q (.int (minI (ns.getD 0 0) ns)) H
end
section
variable {X : Cx} {tg : Expr}
def iRngD (ta : TA) : TI := fun σ H R => ta σ H fun vs H1 => ∃ i : Int, vs = [.int i, .int (-1), .int (-1)] ∧ (-1 ≤ i ∧ i ≤ 1000000) ∧ R (Itq i (-1) (i + 1).toNat) H1
end
section
variable {K : PySem.W.Frag} {H : Hp} {Q : VK} {σ : St} {tr : TA} {g : TG} {tb : TS} {D : Ends} {i : Int} {p q : Addr} {ns : List Int} {d : Int} {a b c : V} {R : St → Hp → Prop}
instance go_forD : Go (tFor (iRngD tr) g tb D σ H) (tr σ H fun vs H1 => ∃ i : Int, vs = [.int i, .int (-1), .int (-1)] ∧ (-1 ≤ i ∧ i ≤ 1000000) ∧ ForS i (-1) (i + 1).toNat g tb D σ H1) := ⟨id⟩
instance go_dby : Go (∃ i' : Int, [V.int i, V.int (-1), V.int (-1)] = [.int i', .int (-1), .int (-1)] ∧ (-1 ≤ i' ∧ i' ≤ 1000000) ∧ ForS i' (-1) (i' + 1).toNat g tb D σ H) (Sd (-1 ≤ i ∧ i ≤ 1000000) (ForS i (-1) (i + 1).toNat g tb D σ H)) := ⟨fun s => ⟨i, rfl, s.1, s.2⟩⟩
instance go_minL [h : SqA K H p (ns.map V.int)] : Go (rMinL K [.ref p] H Q) (Sd (ns ≠ []) (Q (.int (minI (ns.getD 0 0) ns)) H)) := ⟨fun s => ⟨p, ns, rfl, h.e, s.1, s.2⟩⟩
instance go_minD [h : SqA K H p (ns.map V.int)] : Go (rMinD K [.ref p] (.int d) H Q) (Q (.int (if ns = [] then d else minI (ns.getD 0 0) ns)) H) := ⟨fun k => ⟨p, ns, d, rfl, rfl, h.e, k⟩⟩
instance go_lst3 {n i0 i1 i2 : Nat} [h : SqA K H p [a, b, c]] : Go (gLst K n (gCons (gName i0) (gCons (gName i1) (gCons (gName i2) gNil))) (.ref p) σ H R) (Sd (n = 3) (gName i0 a σ H fun σ1 H1 => gName i1 b σ1 H1 fun σ2 H2 => gName i2 c σ2 H2 R)) := ⟨fun s => by
  obtain ⟨rfl, k⟩ := s
  exact ⟨p, _, rfl, h.e, rfl, _, _, rfl, _, _, rfl, _, _, rfl, rfl, k⟩⟩
theorem eqI_nil (ns : List Int) : eqDt (.lst (ns.map Dt.int)) (.lst ([].map Dt.int)) = decide (ns = []) := by
  cases ns with
  | nil => simp [eqDt, eqDts]
  | cons a t => simp [eqDt, eqDts]
instance go_eqNilI [h : SqA K H p (ns.map V.int)] [h2 : Hat H q (.lst [])] : Go (rEqD K (.ref p) (.ref q) H Q) (Q (.bl (decide (ns = []))) H) := ⟨fun k => w_eqL (ms := []) h.e (SqL.of h2.e) (by rw [eqI_nil]; exact k)⟩
instance go_neNilI [h : SqA K H p (ns.map V.int)] [h2 : Hat H q (.lst [])] : Go (rNeD K (.ref p) (.ref q) H Q) (Q (.bl (!decide (ns = []))) H) := ⟨fun k => ⟨_, _, rep_ints h.e, rep_ints (ns := []) (SqL.of h2.e), dep_ints ns, by rw [eqI_nil]; exact k⟩⟩
end
end L2
set_option Elab.async false
set_option linter.all false
set_option maxRecDepth 100000
set_option maxHeartbeats 4000000
namespace L2
open PySem PySem.W PySem.Calls PySem.Spec PyProof.Rows
/-- the rank of a pair -/
def rkP (w : Nat × Nat) : Int := (w.1 : Int) * 1000000 + (w.2 : Int)
section
variable {prog : Program} {w : World} {A : Around} {E : Value → Shared → Prop} {s : Shared} {h₀ : Heap} {L : Addr} {m : Str → Option Value} {news : List (Addr × Obj)} {vs : List Value}
end
/-- pairs rise, by the first and then by the second -/
def RiseP (ws : List (Nat × Nat)) : Prop := ws.Pairwise fun a b => rkP a < rkP b
def rSortP (K : PySem.W.Frag) : List V → Hp → VK → Prop := fun vs H Q => ∃ (l : Addr) (xs : List V) (ws : List (Nat × Nat)), vs = [.ref l] ∧ SqL K H l xs ∧ TupsAt H xs (rowsN ws) ∧ (ws.length < 64 ∧ ws.Nodup ∧ ∀ w ∈ ws, w.2 < 1000000) ∧ ∀ qs : List (Nat × Nat), qs.Perm ws ∧ RiseP qs → ∀ D zs H', New H H' D (.lst zs) → TupsAt H' zs (rowsN qs) → Q (.ref D) H'
section
variable {K : PySem.W.Frag} {H : Hp} {Q : VK} {l : Addr} {ys : List V} {ws : List (Nat × Nat)}
instance go_sortP [h : SqA K H l ys] [t : TpA H ys (rowsN ws)] : Go (rSortP K [.ref l] H Q) (Sd (ws.length < 64 ∧ ws.Nodup ∧ ∀ w ∈ ws, w.2 < 1000000) (∀ qs : List (Nat × Nat), qs.Perm ws ∧ RiseP qs → ∀ D zs H', New H H' D (.lst zs) → TupsAt H' zs (rowsN qs) → Q (.ref D) H')) := ⟨fun s => ⟨l, ys, ws, rfl, h.e, t.e, s.1, s.2⟩⟩
end
end L2
set_option Elab.async false
set_option linter.all false
set_option maxRecDepth 100000
set_option maxHeartbeats 4000000
namespace L2
open PySem PySem.Spec PyProof.Rows PySem.SeqAt
class TyA (K : PySem.W.Frag) (H : Hp) (v : V) (n : outParam String) : Prop where
  e : TyOf K H v (.type n)
/-- a value that the caller gave -/
class OldT (K : PySem.W.Frag) (H0 : Hp) (M : List Addr) (v : V) (n : outParam String) : Prop where
  e : TyOf K H0 v (.type n)
  n : ∀ a, v = .ref a → a ∉ M
theorem TyOf.kept {K : PySem.W.Frag} {H H' : Hp} {v : V} {t : Value} (h : TyOf K H v t) (k : ∀ a u, v = .ref a → H a = some u → H' a = some u) : TyOf K H' v t := by
  cases h with
  | non => exact .non
  | bl b => exact .bl b
  | int i => exact .int i
  | str x => exact .str x
  | flt x => exact .flt x
  | lst e => exact .lst (k _ _ rfl e)
  | frz e => exact .frz (k _ _ rfl e)
  | tup e => exact .tup (k _ _ rfl e)
  | dK e => exact .dK (k _ _ rfl e)
  | dT e => exact .dT (k _ _ rfl e)
  | ins e a b c d f => exact .ins (k _ _ rfl e) a b c d f
section
variable {K : PySem.W.Frag} {H0 H : Hp} {M : List Addr} {L : List (Addr × HO)} {I : List Im} {v : V} {n : String} {a : Addr} {xs : List V} {b : Bool} {i lo hi : Int} {z : Str} {kvs : List (Key × V)} {Q : VK} {E : XK}
instance ty_non : TyA K H .non "NoneType" := ⟨.non⟩
instance ty_bl : TyA K H (.bl b) "bool" := ⟨.bl b⟩
instance ty_int : TyA K H (.int i) "int" := ⟨.int i⟩
instance ty_str : TyA K H (.str z) "str" := ⟨.str z⟩
instance ty_lst [h : Hat H a (.lst xs)] : TyA K H (.ref a) "list" := ⟨.lst h.e⟩
instance ty_tup [h : Hat H a (.tup xs)] : TyA K H (.ref a) "tuple" := ⟨.tup h.e⟩
instance ty_dK [h : Hat H a (.dK kvs)] : TyA K H (.ref a) "dict" := ⟨.dK h.e⟩
instance (priority := low) ty_old [F : SH H0 M H L I] [h : OldT K H0 M v n] : TyA K H v n := ⟨h.e.kept fun a u e hu => F.fr a u (h.n a e) hu⟩
instance (priority := low) go_isI [t : TyA K H v n] : Go (rIsT K [v, .ty "int"] H Q) (Q (.bl (isIB v)) H) := ⟨fun k => w_is t.e (bt_int t.e) k⟩
instance (priority := low) go_isB [t : TyA K H v n] : Go (rIsT K [v, .ty "bool"] H Q) (Q (.bl (isB v)) H) := ⟨fun k => w_is t.e (bt_bool t.e) k⟩
instance (priority := low) go_isS [t : TyA K H v n] : Go (rIsT K [v, .ty "str"] H Q) (Q (.bl (isS v)) H) := ⟨fun k => w_is t.e (bt_str t.e) k⟩
instance (priority := low) go_isT [t : TyA K H v n] : Go (rIsT K [v, .ty "tuple"] H Q) (Q (.bl (n == "tuple")) H) := ⟨fun k => w_is t.e (bt_tuple t.e) k⟩
instance (priority := low) go_isL [t : TyA K H v n] : Go (rIsT K [v, .ty "list"] H Q) (Q (.bl (n == "list")) H) := ⟨fun k => w_is t.e (bt_list t.e) k⟩
instance (priority := low) go_wholeV [t : TyA K H v n] : Go (sp_whole K [v] H Q E) (Q (.bl (isW v)) H) := ⟨u_whole t.e⟩
instance (priority := low) go_fromV [t : TyA K H v n] : Go (sp_is_from K [v, .int lo] H Q E) (Q (.bl (isFr v lo)) H) := ⟨u_from t.e⟩
instance (priority := low) go_withinV [t : TyA K H v n] : Go (sp_is_within K [v, .int lo, .int hi] H Q E) (Q (.bl (inB v lo hi)) H) := ⟨u_within t.e⟩
end
class IdV (v : V) : Prop where
  e : idV v = true
class IdL (xs : List V) : Prop where
  e : xs.all idV = true
section
variable {v : V} {xs : List V} {a : Addr} {b : Bool} {i : Int} {z : Str}
instance id_non : IdV .non := ⟨rfl⟩
instance id_bl : IdV (.bl b) := ⟨rfl⟩
instance id_int : IdV (.int i) := ⟨rfl⟩
instance id_str : IdV (.str z) := ⟨rfl⟩
instance id_ref : IdV (.ref a) := ⟨rfl⟩
instance idl_nil : IdL [] := ⟨rfl⟩
instance idl_cons [h : IdV v] [t : IdL xs] : IdL (v :: xs) := ⟨by rw [List.all_cons, h.e, t.e]; rfl⟩
end
/-- x == y, y the very same or another text -/
def EqVV (x y : V) (b : Bool) : Prop := (x = y ∧ idV x = true ∧ b = true) ∨ ∃ s t, x = .str s ∧ y = .str t ∧ b = (s == t)
theorem EqVV.at {A : Around} {s : Shared} {x y : V} {u v : Value} {b : Bool} (h : EqVV x y b) (ru : RelV x u) (rv : RelV y v) : EqAt A s u v b := by
  rcases h with ⟨rfl, hi, rfl⟩ | ⟨p, q, rfl, rfl, rfl⟩
  · exact same_eqAt hi ru rv
  · obtain ⟨t, rfl⟩ := ru
    obtain ⟨t', rfl⟩ := rv
    exact EqAt.str_str (A := A) (s := s) p t q t'
def allE (e : Nat → Bool) (xs ys : List V) : Bool := (List.range (min xs.length ys.length)).all e && xs.length == ys.length
def rEqT (K : PySem.W.Frag) : R2 := fun x y H Q => ∃ p q xs ys e, x = .ref p ∧ y = .ref q ∧ SqT K H p xs ∧ SqT K H q ys ∧ (∀ j a b, xs[j]? = some a → ys[j]? = some b → EqVV a b (e j)) ∧ Q (.bl (allE e xs ys)) H
def rNeT (K : PySem.W.Frag) : R2 := fun x y H Q => ∃ p q xs ys e, x = .ref p ∧ y = .ref q ∧ SqT K H p xs ∧ SqT K H q ys ∧ (∀ j a b, xs[j]? = some a → ys[j]? = some b → EqVV a b (e j)) ∧ Q (.bl (!allE e xs ys)) H
section
variable {X : Cx}
theorem eqs_at {A : Around} {s : Shared} {xs ys : List V} {us vs : List Value} {e : Nat → Bool} (ru : Vals xs us) (rv : Vals ys vs) (h : ∀ j a b, xs[j]? = some a → ys[j]? = some b → EqVV a b (e j)) (j : Nat) (h1 : j < us.toArray.size) (h2 : j < vs.toArray.size) : EqAt A s us.toArray[j] vs.toArray[j] (e j) := by
  have l1 : j < us.length := by simpa using h1
  have l2 : j < vs.length := by simpa using h2
  have l3 : j < xs.length := by rw [ru.length]; exact l1
  have l4 : j < ys.length := by rw [rv.length]; exact l2
  obtain ⟨u, eu, qu⟩ := ru.get (show xs[j]? = some xs[j] by simp)
  obtain ⟨v, ev, qv⟩ := rv.get (show ys[j]? = some ys[j] by simp)
  have z1 : us.toArray[j] = u := by
    have : us[j]? = some us[j] := by simp [l1]
    rw [this] at eu
    simpa using eu
  have z2 : vs.toArray[j] = v := by
    have : vs[j]? = some vs[j] := by simp [l2]
    rw [this] at ev
    simpa using ev
  rw [z1, z2]
  exact (h j _ _ (by simp) (by simp)).at qu qv
theorem op_neT {k : Nat} (hr : Room k X.A) : OpR X (compareOp .NotEq) (rNeT X.K) := by
  intro pins s σ H x y v u Q I rx ry h
  obtain ⟨p, q, xs, ys, e, rfl, rfl, hp, hq, he, qq⟩ := h
  cases rx
  cases ry
  obtain ⟨us, ru, pu, _⟩ := I.tuple hp
  obtain ⟨vs, rv, pw, _⟩ := I.tuple hq
  have b := RcNeAt.tuples (A := X.A) (s := s) (e := e) pu pw (by have := hr.un; omega) (fun j h1 h2 => eqs_at ru rv he j h1 h2)
  refine b X.prog X.w X.xe _ ⟨.bl _, H, I, ?_, qq⟩
  show Value.bool _ = Value.bool _
  congr 2
  unfold allE
  rw [ru.length, rv.length]
  simp
theorem op_eqT {k : Nat} (hr : Room k X.A) : OpR X (compareOp .Eq) (rEqT X.K) := by
  intro pins s σ H x y v u Q I rx ry h
  obtain ⟨p, q, xs, ys, e, rfl, rfl, hp, hq, he, qq⟩ := h
  cases rx
  cases ry
  obtain ⟨us, ru, pu, _⟩ := I.tuple hp
  obtain ⟨vs, rv, pw, _⟩ := I.tuple hq
  have b := RcAt.tuples (A := X.A) (s := s) (e := e) pu pw (by have := hr.un; omega) (fun j h1 h2 => eqs_at ru rv he j h1 h2)
  refine b X.prog X.w X.xe _ ⟨.bl _, H, I, ?_, qq⟩
  show Value.bool _ = Value.bool _
  congr 1
  unfold allE
  rw [ru.length, rv.length]
  simp
/-- lists of the very same values -/
def rEqI (K : PySem.W.Frag) : R2 := fun x y H Q => ∃ p q xs, x = .ref p ∧ y = .ref q ∧ SqL K H p xs ∧ SqL K H q xs ∧ xs.all idV = true ∧ Q (.bl true) H
theorem op_eqI {k : Nat} (hr : Room k X.A) : OpR X (compareOp .Eq) (rEqI X.K) := by
  intro pins s σ H x y v u Q I rx ry h
  obtain ⟨p, q, xs, rfl, rfl, hp, hq, hf, qq⟩ := h
  cases rx
  cases ry
  obtain ⟨us, ru, pu, _⟩ := I.list hp
  obtain ⟨vs, rv, pw, _⟩ := I.list hq
  have hsz : us.toArray.size = vs.toArray.size := by simp [← ru.length, ← rv.length]
  have b := RcAt.lists (A := X.A) (s := s) (e := fun _ => true) pu.isList pw.isList hsz (by have := hr.un; omega) (fun j h1 h2 => eqs_at ru rv (e := fun _ => true) (fun j a b ha hb => by
    rw [ha] at hb
    cases hb
    exact .inl ⟨rfl, List.all_eq_true.mp hf _ (List.mem_of_getElem? ha), rfl⟩) j h1 h2)
  rw [show ((List.range us.toArray.size).all fun _ => true) = true by simp] at b
  exact b X.prog X.w X.xe _ ⟨.bl _, H, I, rfl, qq⟩
end
section
variable {K : PySem.W.Frag} {H : Hp} {Q : VK} {p q : Addr} {xs ys : List V} {s t : Str}
theorem same_all {xs : List V} (h : xs.all idV = true) : ∀ (j : Nat) (a b : V), xs[j]? = some a → xs[j]? = some b → EqVV a b ((fun _ => true) j) := fun j a b ha hb => by
  rw [ha] at hb
  cases hb
  exact .inl ⟨rfl, List.all_eq_true.mp h _ (List.mem_of_getElem? ha), rfl⟩
theorem allE_same {xs : List V} : allE (fun _ => true) xs xs = true := by unfold allE; simp
instance go_eqT1 [h : Hat H p (.tup xs)] [h2 : Hat H q (.tup xs)] [i : IdL xs] : Go (rEqT K (.ref p) (.ref q) H Q) (Q (.bl true) H) := ⟨fun k => ⟨p, q, xs, xs, _, rfl, rfl, SqT.of h.e, SqT.of h2.e, same_all i.e, by rw [allE_same]; exact k⟩⟩
instance go_neT1 [h : Hat H p (.tup xs)] [h2 : Hat H q (.tup xs)] [i : IdL xs] : Go (rNeT K (.ref p) (.ref q) H Q) (Q (.bl false) H) := ⟨fun k => ⟨p, q, xs, xs, _, rfl, rfl, SqT.of h.e, SqT.of h2.e, same_all i.e, by rw [allE_same]; exact k⟩⟩
theorem text_one {xs : List V} (n : s ≠ t) : ∀ (j : Nat) (a b : V), (V.str s :: xs)[j]? = some a → [V.str t][j]? = some b → EqVV a b ((fun _ => false) j) := fun j a b ha hb => by
  cases j with
  | zero =>
    cases ha
    cases hb
    exact .inr ⟨s, t, rfl, rfl, (beq_eq_false_iff_ne.mpr n).symm⟩
  | succ j => simp at hb
theorem allE_text {xs : List V} : allE (fun _ => false) (V.str s :: xs) [V.str t] = false := by unfold allE; simp
instance go_eqT2 [h : Hat H p (.tup (.str s :: xs))] [h2 : Hat H q (.tup [.str t])] [n : NeS s t] : Go (rEqT K (.ref p) (.ref q) H Q) (Q (.bl false) H) := ⟨fun k => ⟨p, q, _, _, _, rfl, rfl, SqT.of h.e, SqT.of h2.e, text_one n.e, by rw [allE_text]; exact k⟩⟩
instance go_neT2 [h : Hat H p (.tup (.str s :: xs))] [h2 : Hat H q (.tup [.str t])] [n : NeS s t] : Go (rNeT K (.ref p) (.ref q) H Q) (Q (.bl true) H) := ⟨fun k => ⟨p, q, _, _, _, rfl, rfl, SqT.of h.e, SqT.of h2.e, text_one n.e, by rw [allE_text]; exact k⟩⟩
instance go_eqI1 [h : SqA K H p xs] [h2 : SqA K H q xs] [i : IdL xs] : Go (rEqI K (.ref p) (.ref q) H Q) (Q (.bl true) H) := ⟨fun k => ⟨p, q, xs, rfl, rfl, h.e, h2.e, i.e, k⟩⟩
end
def tMakexB (C : Addr) (EX : St → XK) (sp : Sp) (t : TA) : TE := fun σ H Q => t σ H fun vs H1 => ∀ x dx H2, New H1 H2 x (.ins C dx []) → sp (.ref x :: vs) H2 (fun v H3 => v = .non ∧ Q (.ref x) H3) (EX σ)
section
variable {X : Cx} {k m : Nat} {x : Str} {ps : List Str} {sp : Sp} {EX : St → XK} {p pos : Pos} {e : Expr} {es : List Expr} {t : TA} {C : Addr} {pins : List (Addr × Obj)}
theorem pe_makxB (D : Mak X.prog X.w X.K X.mg X.base (CX1 X.prog X.w) k x C ps sp) (hr : Room m X.A) (ha : PA (X.tr pins EX) (e :: es) t) (hk : k + 1 ≤ m := by decide) (hg : Gl (X.tr pins EX) x := by rfl)
    (hdb : (x == ("__debug__" : Str)) = false := by decide) (he : starEach (e :: es) X.env = (false, eval e X.env) :: starEach es X.env := by rfl) (hpl : (backTo pos (starEach es X.env)).any (·.1) = false := by rfl) :
    PE (X.tr pins EX) (.Call (.Name x p) (e :: es) [] pos) (tMakexB C EX sp t) := by
  obtain ⟨f, fd, F, M, g, hb⟩ := D.ex
  intro pins' s σ H Q I h
  refine wpAny_Call_Name_kw (ld_glob I hg g ?_ hdb)
  refine PySem.W.callWith_K (h₀ := X.base) I.ok.mod.kin M.kp (thn (ha pos pins' s σ H _ I h) ?_) he hpl
  rintro us s1 ⟨vs, H1, I1, r, q⟩
  refine ⟨I1.kIn, ?_⟩
  have h1 : H1 (s1.heap.objs.size + 1) = none := I1.hok.fresh (Nat.le_succ _)
  have h2 : H1 s1.heap.objs.size = none := I1.hok.fresh (Nat.le_refl _)
  have q := q (s1.heap.objs.size + 1) s1.heap.objs.size _ ⟨made_same h1 h2, upd_same, fun a u z => ne_of_none z h1⟩
  have I2 := Inv.made (C := C) I1
  have rr : Vals (V.ref (s1.heap.objs.size + 1) :: vs) (Value.ref (s1.heap.objs.size + 1) :: us) := .cons rfl r
  have hl : ((Value.ref (s1.heap.objs.size + 1) :: us) ++ []).length = ps.length := by rw [List.append_nil, ← rr.length]; exact F.len _ _ _ _ q
  have b := hb _ _ I2.kIn hl
  rw [List.append_nil] at b
  refine wpAny_call (make_map (f := f) I1.kIn M.makes M.init (beq_iff_eq.mp M.fn) (codeAny_mono (F.run _ X.stack _ _ ⟨_, []⟩ _ _ _ (EX σ) ((hr.mono hk).make C us []) (I2.env0.make C us []) b rr q) ?_))
  rintro (e | fl) s' hq
  · exact ⟨pins', σ, _, _, I2.unwish, hq⟩
  · cases fl with
    | ret u =>
      obtain ⟨v, H', I3, rv, ev, q3⟩ := I2.after hq
      subst ev
      exact ⟨rv, ⟨V.ref (s1.heap.objs.size + 1), H', I3, rfl, q3⟩⟩
    | next => exact False.elim hq
    | brk => exact False.elim hq
    | cont => exact False.elim hq
end
instance go_makexB {σ : St} {H : Hp} {Q : VK} {t : TA} {C : Addr} {sp : Sp} {EX : St → XK} : Go (tMakexB C EX sp t σ H Q) (t σ H fun vs H1 => ∀ x dx H2, New H1 H2 x (.ins C dx []) → sp (.ref x :: vs) H2 (fun v H3 => v = .non ∧ Q (.ref x) H3) (EX σ)) := ⟨id⟩
end L2
set_option Elab.async false
set_option linter.all false
namespace M22
abbrev Sc := List (Nat × Nat) × Nat × Nat
def stp (st : Sc) (b : Bool) : Sc := if b then (st.1, st.2.1 + 1, st.2.2 + 1) else if 0 < st.2.1 then (st.1 ++ [(st.2.2 - st.2.1, st.2.1)], 0, st.2.2 + 1) else (st.1, 0, st.2.2 + 1)
def scan (fs : List Bool) : Sc := fs.foldl stp ([], 0, 0)
/-- the holes of a row of cells -/
def holesF (fs : List Bool) : List (Nat × Nat) := if 0 < (scan fs).2.1 then (scan fs).1 ++ [((scan fs).2.2 - (scan fs).2.1, (scan fs).2.1)] else (scan fs).1
theorem scan_snoc (fs : List Bool) (b : Bool) : scan (fs ++ [b]) = stp (scan fs) b := by unfold scan; rw [List.foldl_append]; rfl
theorem snoc_ind {P : List Bool → Prop} (h0 : P []) (h1 : ∀ fs b, P fs → P (fs ++ [b])) (fs : List Bool) : P fs := by
  have : ∀ r : List Bool, P r.reverse := by
    intro r
    induction r with
    | nil => exact h0
    | cons a t ih => rw [List.reverse_cons]; exact h1 _ _ ih
  have := this fs.reverse
  rwa [List.reverse_reverse] at this
theorem scan_len (fs : List Bool) : (scan fs).2.2 = fs.length := by
  refine snoc_ind (P := fun fs => (scan fs).2.2 = fs.length) rfl (fun fs b ih => ?_) fs
  rw [scan_snoc, List.length_append, List.length_singleton, ← ih]
  unfold stp
  split
  · rfl
  · split <;> rfl
theorem scan_false (fs : List Bool) : (scan (fs ++ [false])).1 = holesF fs ∧ (scan (fs ++ [false])).2.1 = 0 := by
  rw [scan_snoc]
  unfold stp holesF
  simp only [Bool.false_eq_true, if_false]
  split <;> exact ⟨rfl, rfl⟩
/-- what is pending: the last cells are free -/
structure Ok (fs : List Bool) (st : Sc) : Prop where
  le : st.2.1 ≤ fs.length
  tail : ∀ j, fs.length - st.2.1 ≤ j → j < fs.length → fs[j]? = some true
  edge : st.2.1 = 0 → fs = [] ∨ fs[fs.length - 1]? = some false
  hs : ∀ x ∈ st.1, 1 ≤ x.2 ∧ x.1 + x.2 ≤ fs.length ∧ ∀ j, x.1 ≤ j → j < x.1 + x.2 → fs[j]? = some true
  sm : (st.1.map (·.2)).sum + st.2.1 = fs.count true
theorem scan_ok (fs : List Bool) : Ok fs (scan fs) := by
  refine snoc_ind (P := fun fs => Ok fs (scan fs)) ⟨by decide, fun j _ h => absurd h (Nat.not_lt_zero _), fun _ => .inl rfl, (fun x hx => by cases hx), rfl⟩ (fun fs b ih => ?_) fs
  obtain ⟨h1, h2, h3, h4, h5⟩ := ih
  have up : ∀ j, j < fs.length → (fs ++ [b])[j]? = fs[j]? := fun j hj => List.getElem?_append_left hj
  have at_ : (fs ++ [b])[fs.length]? = some b := by rw [List.getElem?_append_right (Nat.le_refl _), Nat.sub_self]; rfl
  have hl : (fs ++ [b]).length = fs.length + 1 := by simp
  have sl := scan_len fs
  have old : ∀ x ∈ (scan fs).1, 1 ≤ x.2 ∧ x.1 + x.2 ≤ (fs ++ [b]).length ∧ ∀ j, x.1 ≤ j → j < x.1 + x.2 → (fs ++ [b])[j]? = some true := fun x hx => by
    obtain ⟨a1, a2, a3⟩ := h4 x hx
    exact ⟨a1, by omega, fun j p q => by rw [up j (by omega)]; exact a3 j p q⟩
  have hc : (fs ++ [b]).count true = fs.count true + (if b then 1 else 0) := by rw [List.count_append]; cases b <;> rfl
  rw [scan_snoc]
  unfold stp
  cases b with
  | true =>
    rw [if_pos rfl]
    refine ⟨by show _ + 1 ≤ _; omega, fun j p q => ?_, fun h => absurd h (Nat.succ_ne_zero _), old, ?_⟩
    · by_cases hj : j < fs.length
      · rw [up j hj]
        have p' : (fs ++ [true]).length - ((scan fs).2.1 + 1) ≤ j := p
        exact h2 j (by omega) hj
      · rw [show j = fs.length by omega]; exact at_
    · show _ + (_ + 1) = _
      rw [hc, ← h5]
      simp only [if_true]
      omega
  | false =>
    simp only [Bool.false_eq_true, if_false] at hc ⊢
    by_cases hz : 0 < (scan fs).2.1
    · rw [if_pos hz]
      refine ⟨Nat.zero_le _, fun j p q => ?_, fun _ => .inr (by rw [hl]; exact at_), fun x hx => ?_, ?_⟩
      · have p' : (fs ++ [false]).length - 0 ≤ j := p
        omega
      · rcases List.mem_append.mp hx with hx | hx
        · exact old x hx
        · rw [List.mem_singleton.mp hx]
          refine ⟨hz, by show _ - _ + _ ≤ _; omega, fun j p q => ?_⟩
          have p' : (scan fs).2.2 - (scan fs).2.1 ≤ j := p
          have q' : j < (scan fs).2.2 - (scan fs).2.1 + (scan fs).2.1 := q
          rw [up j (by omega)]
          exact h2 j (by omega) (by omega)
      · rw [hc, ← h5, List.map_append, List.sum_append]
        simp
    · rw [if_neg hz]
      refine ⟨Nat.zero_le _, fun j p q => ?_, fun _ => .inr (by rw [hl]; exact at_), old, by show ((scan fs).1.map (·.2)).sum + 0 = _; rw [hc, ← h5]; omega⟩
      have p' : (fs ++ [false]).length - 0 ≤ j := p
      omega
theorem hole_ok {fs : List Bool} {x : Nat × Nat} (h : x ∈ holesF fs) : 1 ≤ x.2 ∧ x.1 + x.2 ≤ fs.length ∧ ∀ j, x.1 ≤ j → j < x.1 + x.2 → fs[j]? = some true := by
  obtain ⟨h1, h2, h3, h4, h5⟩ := scan_ok fs
  have sl := scan_len fs
  unfold holesF at h
  by_cases hz : 0 < (scan fs).2.1
  · rw [if_pos hz] at h
    rcases List.mem_append.mp h with h | h
    · exact h4 x h
    · rw [List.mem_singleton.mp h]
      refine ⟨hz, by show _ - _ + _ ≤ _; omega, fun j p q => ?_⟩
      have p' : (scan fs).2.2 - (scan fs).2.1 ≤ j := p
      have q' : j < (scan fs).2.2 - (scan fs).2.1 + (scan fs).2.1 := q
      exact h2 j (by omega) (by omega)
  · rw [if_neg hz] at h
    exact h4 x h
theorem hole_sum (fs : List Bool) : ((holesF fs).map (·.2)).sum = fs.count true := by
  have h5 := (scan_ok fs).sm
  unfold holesF
  by_cases hz : 0 < (scan fs).2.1
  · rw [if_pos hz, List.map_append, List.sum_append, ← h5]; simp
  · rw [if_neg hz, ← h5]; omega
theorem hole_false (fs : List Bool) : holesF (fs ++ [false]) = holesF fs := by
  obtain ⟨h1, h2⟩ := scan_false fs
  have : holesF (fs ++ [false]) = (scan (fs ++ [false])).1 := by unfold holesF; rw [h2]; rfl
  rw [this, h1]
/-- a free cell behind one that is not, or at the beginning -/
theorem hole_first {fs : List Bool} (h : fs = [] ∨ fs[fs.length - 1]? = some false) : holesF (fs ++ [true]) = holesF fs ++ [(fs.length, 1)] := by
  have ok := scan_ok fs
  have sl := scan_len fs
  have hz : (scan fs).2.1 = 0 := by
    rcases h with h | h
    · have := ok.le; rw [h] at this ⊢; simpa using this
    · by_cases hz : (scan fs).2.1 = 0
      · exact hz
      · have hn : fs.length ≠ 0 := fun e => by have := ok.le; omega
        rw [ok.tail (fs.length - 1) (by omega) (by omega)] at h
        cases h
  have e1 : holesF fs = (scan fs).1 := by unfold holesF; rw [hz]; rfl
  rw [e1]
  unfold holesF
  rw [scan_snoc]
  unfold stp
  simp only [if_true, hz, sl]
  rw [if_pos (by omega)]
  simp
/-- a free cell behind a free one -/
theorem hole_next {fs : List Bool} (h : fs ≠ []) (h2 : fs[fs.length - 1]? = some true) : ∃ hs s z, holesF fs = hs ++ [(s, z)] ∧ holesF (fs ++ [true]) = hs ++ [(s, z + 1)] := by
  have ok := scan_ok fs
  have sl := scan_len fs
  have hz : 0 < (scan fs).2.1 := by
    by_cases hz : (scan fs).2.1 = 0
    · rcases ok.edge hz with e | e
      · exact absurd e h
      · rw [h2] at e; cases e
    · omega
  refine ⟨(scan fs).1, (scan fs).2.2 - (scan fs).2.1, (scan fs).2.1, by unfold holesF; rw [if_pos hz], ?_⟩
  unfold holesF
  rw [scan_snoc]
  unfold stp
  simp only [if_true]
  rw [if_pos (by omega)]
  have := ok.le
  congr 3
  omega
/-- cells put otherwise -/
def putB {α : Type} (fs : List α) (a i : Nat) (b : α) : List α := fs.take a ++ List.replicate i b ++ fs.drop (a + i)
theorem putB_len {α : Type} {fs : List α} {a i : Nat} {b : α} (h : a + i ≤ fs.length) : (putB fs a i b).length = fs.length := by
  unfold putB
  rw [List.length_append, List.length_append, List.length_take, List.length_replicate, List.length_drop]
  omega
theorem putB_zero {α : Type} {fs : List α} {a : Nat} {b : α} : putB fs a 0 b = fs := by unfold putB; simp
theorem putB_set {α : Type} {fs : List α} {a i : Nat} {b : α} (h : a + i < fs.length) : (putB fs a i b).set (a + i) b = putB fs a (i + 1) b := by
  unfold putB
  have hd : fs.drop (a + i) = fs[a + i] :: fs.drop (a + (i + 1)) := by rw [List.drop_eq_getElem_cons h]; rfl
  rw [hd, List.set_append_right _ _ (by rw [List.length_append, List.length_take, List.length_replicate]; omega)]
  have : a + i - (fs.take a ++ List.replicate i b).length = 0 := by rw [List.length_append, List.length_take, List.length_replicate]; omega
  rw [this, List.set_cons_zero, List.replicate_succ']
  simp
theorem putB_map {α β : Type} {f : α → β} {fs : List α} {a i : Nat} {b : α} : (putB fs a i b).map f = putB (fs.map f) a i (f b) := by unfold putB; simp
theorem cut_all {fs : List Bool} {a b : Nat} (h : a + b ≤ fs.length) (v : Bool) : ((fs.drop a).take b).all (· == v) = true ↔ ∀ j, a ≤ j → j < a + b → fs[j]? = some v := by
  rw [List.all_eq_true]
  constructor
  · intro h1 j p q
    have hj : j < fs.length := by omega
    have := h1 fs[j] (by
      rw [List.mem_iff_getElem?]
      refine ⟨j - a, ?_⟩
      rw [List.getElem?_take, if_pos (by omega), List.getElem?_drop, show a + (j - a) = j by omega]
      simp)
    rw [List.getElem?_eq_getElem hj]
    simpa using this
  · intro h1 x hx
    obtain ⟨k, hk⟩ := List.mem_iff_getElem?.mp hx
    rw [List.getElem?_take] at hk
    by_cases hb : k < b
    · rw [if_pos hb, List.getElem?_drop, h1 (a + k) (by omega) (by omega)] at hk
      simpa using (Option.some.inj hk).symm
    · rw [if_neg hb] at hk
      cases hk
end M22
set_option Elab.async false
set_option linter.all false
namespace M22
theorem putB_at {α : Type} {fs : List α} {a i : Nat} {b : α} (h : a + i ≤ fs.length) (j : Nat) : (putB fs a i b)[j]? = if a ≤ j ∧ j < a + i then some b else fs[j]? := by
  unfold putB
  have l1 : (fs.take a).length = a := by rw [List.length_take]; omega
  rw [List.append_assoc]
  by_cases h1 : j < a
  · rw [List.getElem?_append_left (by omega), List.getElem?_take, if_pos h1, if_neg (by omega)]
  · rw [List.getElem?_append_right (by omega), l1]
    by_cases h2 : j < a + i
    · rw [List.getElem?_append_left (by rw [List.length_replicate]; omega), List.getElem?_replicate, if_pos (by omega), if_pos (by omega)]
    · rw [List.getElem?_append_right (by rw [List.length_replicate]; omega), List.length_replicate, List.getElem?_drop, if_neg (by omega), show a + i + (j - a - i) = j by omega]
theorem putB_back {α : Type} {fs : List α} {a b : Nat} {u v : α} (h : a + b ≤ fs.length) (hv : ∀ j, a ≤ j → j < a + b → fs[j]? = some v) : putB (putB fs a b u) a b v = fs := by
  apply List.ext_getElem?
  intro j
  rw [putB_at (by rw [putB_len h]; exact h)]
  split
  · rename_i hj
    exact (hv j hj.1 hj.2).symm
  · rename_i hj
    rw [putB_at h, if_neg hj]
/-- the cells of a room, taken where c says so -/
def cells (n : Nat) (c : Nat → Bool) : List Bool := (List.range n).map fun j => !c j
end M22
set_option Elab.async false
set_option linter.all false
set_option maxRecDepth 100000
set_option maxHeartbeats 4000000
namespace K23
open PySem L2 PyProof.Rows
def top (i : Nat) : Stmt := PySem.Challenge.pw_slideroom_k23_books_refused.main.body.getD i (.Pass ⟨0, 0, 0, 0⟩)
abbrev s_is_whole : Stmt := top 10
theorem sc_is_whole : FnScope ["thing"] ["thing"] (defScope s_is_whole) := ⟨rfl, rfl, rfl, by decide +kernel, rfl, by decide +kernel, by decide +kernel⟩
abbrev s_is_from : Stmt := top 11
theorem sc_is_from : FnScope ["thing", "low"] ["thing", "low"] (defScope s_is_from) := ⟨rfl, rfl, rfl, by decide +kernel, rfl, by decide +kernel, by decide +kernel⟩
abbrev s_is_within : Stmt := top 12
theorem sc_is_within : FnScope ["thing", "low", "high"] ["thing", "low", "high"] (defScope s_is_within) := ⟨rfl, rfl, rfl, by decide +kernel, rfl, by decide +kernel, by decide +kernel⟩
abbrev s_is_many : Stmt := top 13
theorem sc_is_many : FnScope ["thing"] ["thing"] (defScope s_is_many) := ⟨rfl, rfl, rfl, by decide +kernel, rfl, by decide +kernel, by decide +kernel⟩
abbrev s_end_of : Stmt := top 16
theorem sc_end_of : FnScope ["stretch"] ["stretch"] (defScope s_end_of) := ⟨rfl, rfl, rfl, by decide +kernel, rfl, by decide +kernel, by decide +kernel⟩
abbrev s_stretch : Stmt := top 15
theorem sc_stretch : FnScope ["thing"] ["thing"] (defScope s_stretch) := ⟨rfl, rfl, rfl, by decide +kernel, rfl, by decide +kernel, by decide +kernel⟩
abbrev s_among : Stmt := top 18
theorem sc_among : FnScope ["free", "holes", "size", "cell", "is_free"] ["free"] (defScope s_among) := ⟨rfl, rfl, rfl, by decide +kernel, rfl, by decide +kernel, by decide +kernel⟩
abbrev s_allfree : Stmt := top 19
theorem sc_allfree : FnScope ["free", "stretch"] ["free", "stretch"] (defScope s_allfree) := ⟨rfl, rfl, rfl, by decide +kernel, rfl, by decide +kernel, by decide +kernel⟩
abbrev s_cell_at : Stmt := top 22
theorem sc_cell_at : FnScope ["_law_script", "_law_k"] ["_law_script", "_law_k"] (defScope s_cell_at) := ⟨rfl, rfl, rfl, by decide +kernel, rfl, by decide +kernel, by decide +kernel⟩
abbrev s_box : Stmt := top 23
theorem sc_box : FnScope ["_law_cell"] ["_law_cell"] (defScope s_box) := ⟨rfl, rfl, rfl, by decide +kernel, rfl, by decide +kernel, by decide +kernel⟩
abbrev s_take : Stmt := top 24
theorem sc_take : FnScope ["_law_box_here", "_law_many", "_law_number"] ["_law_box_here", "_law_many"] (defScope s_take) := ⟨rfl, rfl, rfl, by decide +kernel, rfl, by decide +kernel, by decide +kernel⟩
abbrev s_lholes : Stmt := top 25
theorem sc_lholes : FnScope ["_law_free", "_law_found", "_law_cell"] ["_law_free"] (defScope s_lholes) := ⟨rfl, rfl, rfl, by decide +kernel, rfl, by decide +kernel, by decide +kernel⟩
abbrev s_lwhole : Stmt := top 26
theorem sc_lwhole : FnScope ["_law_thing"] ["_law_thing"] (defScope s_lwhole) := ⟨rfl, rfl, rfl, by decide +kernel, rfl, by decide +kernel, by decide +kernel⟩
abbrev s_inside : Stmt := top 27
theorem sc_inside : FnScope ["_law_many", "_law_start", "_law_size"] ["_law_many", "_law_start", "_law_size"] (defScope s_inside) := ⟨rfl, rfl, rfl, by decide +kernel, rfl, by decide +kernel, by decide +kernel⟩
abbrev s_asked : Stmt := top 28
theorem sc_asked : FnScope ["_law_book", "_law_way", "_law_start", "_law_size", "_law_told", "e"] ["_law_book", "_law_way", "_law_start", "_law_size"] (defScope s_asked) := ⟨rfl, rfl, rfl, by decide +kernel, rfl, by decide +kernel, by decide +kernel⟩
abbrev s_odd : Stmt := top 29
theorem sc_odd : FnScope ["_law_box_here", "_law_some"] ["_law_box_here"] (defScope s_odd) := ⟨rfl, rfl, rfl, by decide +kernel, rfl, by decide +kernel, by decide +kernel⟩
abbrev s_lstretch : Stmt := top 30
theorem sc_lstretch : FnScope ["_law_box_here", "_law_free", "_law_many", "_law_some", "_law_start", "_law_size", "_law_end", "_law_way"] ["_law_box_here", "_law_free"] (defScope s_lstretch) := ⟨rfl, rfl, rfl, by decide +kernel, rfl, by decide +kernel, by decide +kernel⟩
abbrev s_tried : Stmt := top 31
theorem sc_tried : FnScope ["_law_book", "_law_free", "_law_way", "_law_start", "_law_size", "_law_many", "_law_cells", "_law_due", "_law_found", "_law_told", "_law_k"] ["_law_book", "_law_free", "_law_way", "_law_start", "_law_size"] (defScope s_tried) := ⟨rfl, rfl, rfl, by decide +kernel, rfl, by decide +kernel, by decide +kernel⟩
abbrev s_noplace : Stmt := top 32
theorem sc_noplace : FnScope ["_law_book", "_law_thing", "_law_told", "e"] ["_law_book", "_law_thing"] (defScope s_noplace) := ⟨rfl, rfl, rfl, by decide +kernel, rfl, by decide +kernel, by decide +kernel⟩
abbrev s_nomany : Stmt := top 33
theorem sc_nomany : FnScope ["_law_thing", "_law_told", "e"] ["_law_thing"] (defScope s_nomany) := ⟨rfl, rfl, rfl, by decide +kernel, rfl, by decide +kernel, by decide +kernel⟩
abbrev s_law : Stmt := top 34
theorem sc_law : FnScope ["_law_script", "_law_first", "_law_many", "_law_book", "_law_free", "_law_at", "_law_turn", "_law_start", "_law_size", "_law_k", "_law_box_here"] ["_law_script"] (defScope s_law) := ⟨rfl, rfl, rfl, by decide +kernel, rfl, by decide +kernel, by decide +kernel⟩
abbrev s_Hinit : Stmt := inClass (top 20) 0
theorem sc_Hinit : FnScope ["self", "many"] ["self", "many"] (defScope s_Hinit) := ⟨rfl, rfl, rfl, by decide +kernel, rfl, by decide +kernel, by decide +kernel⟩
abbrev s_Htold : Stmt := inClass (top 20) 1
theorem sc_Htold : FnScope ["self"] ["self"] (defScope s_Htold) := ⟨rfl, rfl, rfl, by decide +kernel, rfl, by decide +kernel, by decide +kernel⟩
abbrev s_Hhas : Stmt := inClass (top 20) 4
theorem sc_Hhas : FnScope ["self", "start", "size"] ["self", "start", "size"] (defScope s_Hhas) := ⟨rfl, rfl, rfl, by decide +kernel, rfl, by decide +kernel, by decide +kernel⟩
abbrev s_Hhas_taken : Stmt := inClass (top 20) 5
theorem sc_Hhas_taken : FnScope ["self", "start", "size"] ["self", "start", "size"] (defScope s_Hhas_taken) := ⟨rfl, rfl, rfl, by decide +kernel, rfl, by decide +kernel, by decide +kernel⟩
abbrev s_Hhole_at : Stmt := inClass (top 20) 6
theorem sc_Hhole_at : FnScope ["self", "cell", "hole"] ["self", "cell"] (defScope s_Hhole_at) := ⟨rfl, rfl, rfl, by decide +kernel, rfl, by decide +kernel, by decide +kernel⟩
abbrev s_Htake : Stmt := inClass (top 20) 7
theorem sc_Htake : FnScope ["self", "start", "size", "cell"] ["self", "start", "size"] (defScope s_Htake) := ⟨rfl, rfl, rfl, by decide +kernel, rfl, by decide +kernel, by decide +kernel⟩
abbrev s_Hgive : Stmt := inClass (top 20) 8
theorem sc_Hgive : FnScope ["self", "start", "size", "cell"] ["self", "start", "size"] (defScope s_Hgive) := ⟨rfl, rfl, rfl, by decide +kernel, rfl, by decide +kernel, by decide +kernel⟩
abbrev i_NoMany : Stmt := inClass (top 3) 0
theorem si_NoMany : FnScope ["self", "many"] ["self", "many"] (defScope i_NoMany) := ⟨rfl, rfl, rfl, by decide +kernel, rfl, by decide +kernel, by decide +kernel⟩
theorem I_NoMany {P : Program} {w : World} {K : PySem.W.Frag} {mg : Str → Option Value} {base : Heap} {C : Addr} (S : ExcS K C) (n0 : NoAttr K C "many") : InitOk P w K mg base CX0 "NoMany.__init__" i_NoMany ["self", "many"] (spI1 C "many") := fun f fd F => by
  refine ⟨F.ok si_NoMany (fun vs H Q E h => ?_) (fun cdv A outer s H vs Q E hr h => ?_), F.binds (fun _ _ _ _ _ _ us hl => match us, hl with | [_, _], _ => rfl)⟩
  · obtain ⟨x, v, rfl, _⟩ := h
    rfl
  · obtain ⟨x, v, rfl, ho, k⟩ := h
    refine ⟨_, pss_one (ps_exc (pv 0) (pv 1)), ?_⟩
    exact ⟨_, rfl, _, rfl, x, C, rfl, S, n0.taker, .inl ⟨ho, k⟩⟩
abbrev i_NoPlace : Stmt := inClass (top 4) 0
theorem si_NoPlace : FnScope ["self", "at"] ["self", "at"] (defScope i_NoPlace) := ⟨rfl, rfl, rfl, by decide +kernel, rfl, by decide +kernel, by decide +kernel⟩
theorem I_NoPlace {P : Program} {w : World} {K : PySem.W.Frag} {mg : Str → Option Value} {base : Heap} {C : Addr} (S : ExcS K C) (n0 : NoAttr K C "at") : InitOk P w K mg base CX0 "NoPlace.__init__" i_NoPlace ["self", "at"] (spI1 C "at") := fun f fd F => by
  refine ⟨F.ok si_NoPlace (fun vs H Q E h => ?_) (fun cdv A outer s H vs Q E hr h => ?_), F.binds (fun _ _ _ _ _ _ us hl => match us, hl with | [_, _], _ => rfl)⟩
  · obtain ⟨x, v, rfl, _⟩ := h
    rfl
  · obtain ⟨x, v, rfl, ho, k⟩ := h
    refine ⟨_, pss_one (ps_exc (pv 0) (pv 1)), ?_⟩
    exact ⟨_, rfl, _, rfl, x, C, rfl, S, n0.taker, .inl ⟨ho, k⟩⟩
abbrev i_NotFree : Stmt := inClass (top 5) 0
theorem si_NotFree : FnScope ["self", "start", "size"] ["self", "start", "size"] (defScope i_NotFree) := ⟨rfl, rfl, rfl, by decide +kernel, rfl, by decide +kernel, by decide +kernel⟩
theorem I_NotFree {P : Program} {w : World} {K : PySem.W.Frag} {mg : Str → Option Value} {base : Heap} {C : Addr} (S : ExcS K C) (n0 : NoAttr K C "start") (n1 : NoAttr K C "size") : InitOk P w K mg base CX0 "NotFree.__init__" i_NotFree ["self", "start", "size"] (spI2 C "start" "size") := fun f fd F => by
  refine ⟨F.ok si_NotFree (fun vs H Q E h => ?_) (fun cdv A outer s H vs Q E hr h => ?_), F.binds (fun _ _ _ _ _ _ us hl => match us, hl with | [_, _, _], _ => rfl)⟩
  · obtain ⟨x, v, y, rfl, _⟩ := h
    rfl
  · obtain ⟨x, v, y, rfl, ho, k⟩ := h
    refine ⟨_, pss_cons (ps_exc (pv 0) (pv 1)) (pss_one (ps_exc (pv 0) (pv 2))), ?_⟩
    refine ⟨_, rfl, _, rfl, x, C, rfl, S, n0.taker, .inl ⟨ho, fun dx hd => ?_⟩⟩
    have hzx : dx ≠ x := fun q => by rw [q, ho] at hd; cases hd
    exact ⟨_, rfl, _, rfl, x, C, rfl, S, n1.taker, .inr ⟨dx, _, upd_same, by rw [upd_ne hzx, upd_same], hzx, by simp, k dx hd⟩⟩
abbrev i_NotTaken : Stmt := inClass (top 6) 0
theorem si_NotTaken : FnScope ["self", "start", "size"] ["self", "start", "size"] (defScope i_NotTaken) := ⟨rfl, rfl, rfl, by decide +kernel, rfl, by decide +kernel, by decide +kernel⟩
theorem I_NotTaken {P : Program} {w : World} {K : PySem.W.Frag} {mg : Str → Option Value} {base : Heap} {C : Addr} (S : ExcS K C) (n0 : NoAttr K C "start") (n1 : NoAttr K C "size") : InitOk P w K mg base CX0 "NotTaken.__init__" i_NotTaken ["self", "start", "size"] (spI2 C "start" "size") := fun f fd F => by
  refine ⟨F.ok si_NotTaken (fun vs H Q E h => ?_) (fun cdv A outer s H vs Q E hr h => ?_), F.binds (fun _ _ _ _ _ _ us hl => match us, hl with | [_, _, _], _ => rfl)⟩
  · obtain ⟨x, v, y, rfl, _⟩ := h
    rfl
  · obtain ⟨x, v, y, rfl, ho, k⟩ := h
    refine ⟨_, pss_cons (ps_exc (pv 0) (pv 1)) (pss_one (ps_exc (pv 0) (pv 2))), ?_⟩
    refine ⟨_, rfl, _, rfl, x, C, rfl, S, n0.taker, .inl ⟨ho, fun dx hd => ?_⟩⟩
    have hzx : dx ≠ x := fun q => by rw [q, ho] at hd; cases hd
    exact ⟨_, rfl, _, rfl, x, C, rfl, S, n1.taker, .inr ⟨dx, _, upd_same, by rw [upd_ne hzx, upd_same], hzx, by simp, k dx hd⟩⟩
structure Txt (K : PySem.W.Frag) (mg : Str → Option Value) (c : Nat → Addr) (R CH : Addr) : Prop where
  e_NoMany : HasExc K mg "NoMany" "NoMany.__init__" i_NoMany (c 0) R
  k_NoMany : ExcK K (c 0) R
  a_NoMany_many : NoAttr K (c 0) "many"
  e_NoPlace : HasExc K mg "NoPlace" "NoPlace.__init__" i_NoPlace (c 1) R
  k_NoPlace : ExcK K (c 1) R
  a_NoPlace_at : NoAttr K (c 1) "at"
  e_NotFree : HasExc K mg "NotFree" "NotFree.__init__" i_NotFree (c 2) R
  k_NotFree : ExcK K (c 2) R
  a_NotFree_start : NoAttr K (c 2) "start"
  a_NotFree_size : NoAttr K (c 2) "size"
  e_NotTaken : HasExc K mg "NotTaken" "NotTaken.__init__" i_NotTaken (c 3) R
  k_NotTaken : ExcK K (c 3) R
  a_NotTaken_start : NoAttr K (c 3) "start"
  a_NotTaken_size : NoAttr K (c 3) "size"
  d_is_whole : HasDef K mg "is_whole" s_is_whole
  d_is_from : HasDef K mg "is_from" s_is_from
  d_is_within : HasDef K mg "is_within" s_is_within
  d_is_many : HasDef K mg "is_many" s_is_many
  d_end_of : HasDef K mg "end_of" s_end_of
  d_stretch : HasDef K mg "is_stretch" s_stretch
  d_among : HasDef K mg "holes_among" s_among
  d_allfree : HasDef K mg "is_all_free" s_allfree
  d_cell_at : HasDef K mg "_law_cell_at" s_cell_at
  d_box : HasDef K mg "_law_box" s_box
  d_take : HasDef K mg "_law_take" s_take
  d_lholes : HasDef K mg "_law_holes" s_lholes
  d_lwhole : HasDef K mg "_law_is_whole" s_lwhole
  d_inside : HasDef K mg "_law_inside" s_inside
  d_asked : HasDef K mg "_law_asked" s_asked
  d_odd : HasDef K mg "_law_odd" s_odd
  d_lstretch : HasDef K mg "_law_stretch" s_lstretch
  d_tried : HasDef K mg "_law_tried" s_tried
  d_noplace : HasDef K mg "_law_no_place" s_noplace
  d_nomany : HasDef K mg "_law_no_many" s_nomany
  n_isinstance : mg "isinstance" = none
  n_int : mg "int" = none
  n_bool : mg "bool" = none
  n_list : mg "list" = none
  n_tuple : mg "tuple" = none
  n_len : mg "len" = none
  n_all : mg "all" = none
  n_any : mg "any" = none
  n_range : mg "range" = none
  n_max : mg "max" = none
  n_min : mg "min" = none
  n_enumerate : mg "enumerate" = none
  g_FEWEST_CELLS : GlobIs mg "FEWEST_CELLS" (.int 16)
  g_MOST_CELLS : GlobIs mg "MOST_CELLS" (.int 240)
  x_NotTaken_NotFree : PySem.W.exmOne K (.ref (c 3)) (.ref (c 2)) = some false
  g_R : mg "RoomError" = some (.ref R)
  c_R : (PySem.W.clsIn K R).isSome = true
  t_R : PySem.W.typeIn K (.ref R) = some (.type "type")
  m_R : PySem.W.mroIn K R (.type "BaseException") = some true
  clH : Cls K CH
  gc_Holes : mg "Holes" = some (.ref CH)
  aH_many : NoAttr K CH "many"
  aH_free : NoAttr K CH "free"
  f_Hinit : ∃ f, FnAt K "__init__" "Holes.__init__" s_Hinit f ∧ Mk K CH f
  f_Htold : ∃ f, FnAt K "told" "Holes.told" s_Htold f ∧ Meth K CH "told" f
  f_Hhas : ∃ f, FnAt K "has" "Holes.has" s_Hhas f ∧ Meth K CH "has" f
  f_Hhas_taken : ∃ f, FnAt K "has_taken" "Holes.has_taken" s_Hhas_taken f ∧ Meth K CH "has_taken" f
  f_Hhole_at : ∃ f, FnAt K "hole_at" "Holes.hole_at" s_Hhole_at f ∧ Meth K CH "hole_at" f
  f_Htake : ∃ f, FnAt K "take" "Holes.take" s_Htake f ∧ Meth K CH "take" f
  f_Hgive : ∃ f, FnAt K "give" "Holes.give" s_Hgive f ∧ Meth K CH "give" f
local macro_rules | `(tactic| k_tabat) => `(tactic| first
  | with_reducible assumption
  | (with_reducible exact New.e (by with_reducible assumption))
  | (with_reducible refine New.at (by with_reducible assumption) ?_; k_tabat)
  | (with_reducible refine Off.at (by with_reducible assumption) (by k_ne) ?_; k_tabat)
  | (with_reducible refine Kp.at (by with_reducible assumption) (by k_ne) ?_; k_tabat)
  | (with_reducible refine Same.at (by with_reducible assumption) ?_; k_tabat))
local macro_rules | `(tactic| k_ne) => `(tactic| first
  | with_reducible assumption
  | (with_reducible exact Ne.symm (by with_reducible assumption))
  | (with_reducible exact New.neA (by with_reducible assumption) (by k_in))
  | (with_reducible exact New.neB (by with_reducible assumption) (by k_in)))
local macro_rules | `(tactic| k_in) => `(tactic| first
  | (with_reducible exact Hs.of (by with_reducible assumption))
  | (with_reducible exact New.hs (by with_reducible assumption))
  | (with_reducible refine New.hsAt (by with_reducible assumption) ?_; k_in)
  | (with_reducible refine Off.hsAt (by with_reducible assumption) (by k_ne) ?_; k_in)
  | (with_reducible refine Kp.hsAt (by with_reducible assumption) (by k_ne) ?_; k_in)
  | (with_reducible refine Same.hsAt (by with_reducible assumption) ?_; k_in))
local macro_rules | `(tactic| k_flat) => `(tactic| first
  | with_reducible assumption
  | (with_reducible exact SqL.of (by k_tabat))
  | (with_reducible exact SqT.of (by k_tabat))
  | (with_reducible refine Same.seq (by with_reducible assumption) ?_; k_flat)
  | (with_reducible refine Same.seq (New.s (by with_reducible assumption)) ?_; k_flat)
  | (with_reducible refine Off.seq (by with_reducible assumption) (by k_ne) ?_; k_flat))
local macro_rules | `(tactic| k_keys) => `(tactic| first
  | with_reducible assumption
  | (with_reducible exact atI_0)
  | (with_reducible exact atL1)
  | (with_reducible exact atL2)
  | (with_reducible exact atL3)
  | with_unfolding_all rfl)
local macro_rules | `(tactic| k_room) => `(tactic| first
  | with_reducible assumption
  | decide
  | omega
  | (simp only [List.length_cons, List.length_nil, List.length_map, List.length_append, List.length_replicate]; omega))
local macro_rules | `(tactic| k_inst) => `(tactic| first
  | (with_reducible refine small_line ?_; first | omega | (simp only [List.length_cons, List.length_nil, List.length_map, List.length_append, List.length_replicate, rowsN_len]; omega))
  | (with_reducible refine small_lt ?_; first | omega | (simp only [List.length_cons, List.length_nil, List.length_map, List.length_append, List.length_replicate, rowsN_len]; omega))
  | with_unfolding_all exact Nat.le_of_ble_eq_true rfl
  | omega)
local macro_rules | `(tactic| k_upd) => `(tactic| first
  | with_reducible assumption
  | (intro b u e; k_tabat))
local macro_rules | `(tactic| k_updF) => `(tactic| first
  | with_reducible assumption
  | (intro b u nb e; k_tabat))
local macro_rules | `(tactic| k_all) => `(tactic| first
  | with_reducible assumption
  | (refine ⟨?_, ?_, ?_⟩; (focus (intro b u e; k_tabat)); (focus k_tabat); (focus (intro b u e; k_ne))))
local macro_rules | `(tactic| k_mem) => `(tactic| with_reducible (first
  | refine go_seq ?_ | refine go_asg ?_ | refine go_ret ?_ | refine go_if ?_ | refine go_drop ?_ | refine go_next ?_ | refine go_nx ?_ | refine w_rt ?_
  | refine go_test ?_ | refine go_b ?_ | refine go_op ?_ | refine go_cb ?_ | refine go_cons ?_ | refine go_nil ?_ | refine w_call ?_ | refine w_c ?_
  | refine wv0 ?_ | refine wv1 ?_ | refine wv2 ?_ | refine wv3 ?_ | refine wv4 ?_ | refine wv5 ?_ | refine wv6 ?_ | refine wv7 ?_ | refine wv8 ?_ | refine wv9 ?_ | refine wv10 ?_ | refine wv11 ?_ | refine wv12 ?_ | refine wv13 ?_
  | refine wn0 ?_ | refine wn1 ?_ | refine wn2 ?_ | refine wn3 ?_ | refine wn4 ?_ | refine wn5 ?_ | refine wn6 ?_ | refine wn7 ?_ | refine wn8 ?_ | refine wn9 ?_ | refine wn10 ?_ | refine wn11 ?_ | refine wn12 ?_ | refine wn13 ?_
  | refine w_i0 ?_ | refine w_u ?_ | refine w_un ?_ | refine w_eqi ?_ | refine w_nei ?_ | refine w_eqs ?_ | refine w_nes ?_ | refine w_eqb ?_ | refine w_neb ?_ | refine w_bl ?_ | refine w_not ?_ | refine w_and ?_ | refine w_or ?_ | refine w_notV ?_ | refine w_andV ?_ | refine w_orV ?_
  | refine w_ifE ?_ | refine w_chain ?_ | refine w_bm ?_ | refine w_bm0 ?_ | refine w_sub ?_ | refine w_slice ?_ | refine w_noPart ?_ | refine w_part ?_ | refine w_int ?_ | refine w_max ?_ | refine w_min ?_ | refine w_intB ?_ | refine w_intI ?_
  | refine w_mod (by decide) ?_ | refine w_div (by decide) (by decide) ?_ | refine w_pow (by decide) (by decide) (by decide) ?_ | refine w_mulL (by decide) (by decide) ?_ | refine w_mulR (by decide) (by decide) ?_ | refine go_tupA ?_ | refine go_lstA ?_ | refine w_notT ?_ | refine w_isB ?_ | refine w_isNB ?_ | refine w_revSl ?_ | refine w_din ?_ | refine w_dput ?_ | refine go_fs ?_ | refine go_fmt ?_ | refine go_fld ?_ | refine go_methB ?_ | refine go_makeB ?_ | refine go_sfldB ?_))
set_option hygiene false in
local macro_rules | `(tactic| k_meth) => `(tactic| first
  | k_mem
  | with_reducible (refine w_isTT (by k_tabat) ?_)
  | with_reducible (refine w_isLL (by k_tabat) ?_)
  | with_reducible (refine w_isTL (by k_tabat) ?_)
  | with_reducible (refine w_isLT (by k_tabat) ?_)
  | with_reducible refine w_isII ?_
  | with_reducible refine w_isIB ?_
  | with_reducible refine w_isBB ?_
  | with_reducible refine w_isBI ?_
  | with_reducible (refine w_ixL (by k_flat) (by k_keys) ?_)
  | with_reducible (refine w_ixT (by k_flat) (by k_keys) ?_)
  | with_reducible (refine w_lenL (by k_flat) ?_)
  | with_reducible (refine w_lenT (by k_flat) ?_)
  | with_reducible (refine made_ok (by k_inst) ?_; intro _ _ _)
  | with_reducible (refine w_tyL (by k_flat) ?_)
  | with_reducible (refine w_app (by k_tabat) (by k_inst) ?_; intro _ _ _)
  | with_reducible (refine w_clr (by k_tabat) ?_; intro _ _ _)
  | with_reducible (refine w_slA (by k_flat) ?_; intro _ _ _)
  | with_reducible (refine w_catA (by k_tabat) (by k_tabat) (by k_inst) ?_; intro _ _ _)
  | with_reducible (refine w_lofL (by k_flat) ?_; intro _ _ _)
  | with_reducible (refine w_rep1 (by k_tabat) (by omega) ?_; intro _ _ _)
  | with_reducible (refine i_pos (by k_room) ?_)
  | with_reducible (refine i_neg (by k_room) ?_)
  | with_reducible (refine i_npos (by k_room) ?_)
  | with_reducible (refine i_nneg (by k_room) ?_)
  | with_reducible (refine i_tt ?_)
  | with_reducible (refine i_ff ?_)
  | with_reducible (refine i_ntt ?_)
  | with_reducible (refine i_nff ?_)
  | with_reducible (refine w_tupB (by with_unfolding_all rfl) (by k_flat) ?_)
  | with_reducible (refine go_aug rfl ?_)
  | with_reducible refine w_not2 ?_
  | with_reducible refine go_ck ?_
  | with_reducible refine go_slc ?_
  | with_reducible (refine w_mod (by omega) ?_)
  | with_reducible (refine w_rng2 ?_)
  | with_reducible refine w_forE ?_
  | with_reducible refine w_forR1 ?_
  | with_reducible refine w_forR2 ?_
  | with_reducible refine w_forL ?_
  | with_reducible refine w_compL ?_
  | with_reducible (refine w_fld (by k_tabat) T.clH T.aH_free hF_free ?_)
  | with_reducible (refine w_fld (by k_tabat) T.clH T.aH_many hF_many ?_)
  | with_reducible (refine w_meth (by k_tabat) (hF_none (by decide) (by decide)) ?_)
  | with_reducible (refine u_end (by k_tabat) ?_)
  | with_reducible (refine u_fromI ?_)
  | with_reducible (refine u_takeA (by k_tabat) (by k_room) (by k_room) ?_; intro _ _ _ _ _ _ _ _ _)
  | with_reducible (refine u_stretchI (by k_tabat) ?_))
open M22
def sp_among : Sp := fun vs H Q _ => ∃ (p : Addr) (fs : List Bool), vs = [.ref p] ∧ H p = some (.lst (fs.map V.bl)) ∧ fs.length ≤ 240 ∧ ∀ (q : Addr) (ys : List V) (H' : Hp), New H H' q (.lst ys) → TupsAt H' ys (rowsN (holesF fs)) → Q (.ref q) H'
theorem take_snocB {fs : List Bool} {i : Nat} {b : Bool} (h : fs[i]? = some b) : fs.take (i + 1) = fs.take i ++ [b] := by rw [List.take_succ, h]; rfl
theorem map_blAt {fs : List Bool} {i : Nat} {x : V} (h : (fs.map V.bl)[i]? = some x) : ∃ b, fs[i]? = some b ∧ x = .bl b := by
  rw [List.getElem?_map] at h
  cases e : fs[i]? with
  | none => rw [e] at h; cases h
  | some b => rw [e] at h; exact ⟨b, rfl, (Option.some.inj h).symm⟩
section
variable {P : Program} {w : World} {K : PySem.W.Frag} {mg : Str → Option Value} {base : Heap} {c : Nat → Addr} {R CH : Addr}
theorem D_is_whole (T : Txt K mg c R CH) : Def P w K mg base CX0 1 "is_whole" ["thing"] (sp_whole K) := by
  refine def_of T.d_is_whole sc_is_whole (fun vs H Q E h => ?_) (fun _ _ _ _ _ _ us hl => match us, hl with | [_], _ => rfl) (fun f cdv A outer s H vs Q E hr h => ?_)
  · obtain ⟨x, n, rfl, _⟩ := h
    rfl
  · obtain ⟨x, n, rfl, ty, k⟩ := h
    have nd := sc_is_whole.nd
    refine ⟨_, (pss_one (ps_ret (pe_and (pe_callB call_isT rfl T.n_isinstance boot_isinstance (pa_cons (pv 0) (pa_cons (pe_ty (T := "int") rfl T.n_int boot_int) pa_nil))) (pe_one (pe_not (pe_callB call_isT rfl T.n_isinstance boot_isinstance (pa_cons (pv 0) (pa_cons (pe_ty (T := "bool") rfl T.n_bool boot_bool) pa_nil)))))))), ?_⟩
    clear nd 
    rw [show start ["thing"] [x] = [some (x)] from rfl]
    try dsimp only [cx_K, cx_K2]
    rw [isW_eq] at k
    repeat k_mem
    refine w_is ty (bt_int ty) ?_
    repeat k_mem
    refine i_b (fun h => ?_) (fun h => ?_)
    · repeat k_mem
      refine w_is ty (bt_bool ty) ?_
      repeat k_mem
      rw [h] at k
      exact k
    · rw [h] at k
      exact k
theorem D_is_from (T : Txt K mg c R CH) : Def P w K mg base CX0 2 "is_from" ["thing", "low"] (sp_is_from K) := by
  have D_is_whole := D_is_whole (P := P) (w := w) (base := base) T
  refine def_of T.d_is_from sc_is_from (fun vs H Q E h => ?_) (fun _ _ _ _ _ _ us hl => match us, hl with | [_, _], _ => rfl) (fun f cdv A outer s H vs Q E hr h => ?_)
  · obtain ⟨x, n, lo, rfl, _⟩ := h
    rfl
  · obtain ⟨x, n, lo, rfl, ty, k⟩ := h
    have nd := sc_is_from.nd
    refine ⟨_, (pss_one (ps_ret (pe_and (pe_def D_is_whole hr (pa_cons (pv 0) pa_nil)) (pe_one (pe_cmpR op_le (pv 1) (pv 0) (nomark _)))))), ?_⟩
    clear nd D_is_whole
    rw [show start ["thing", "low"] [x, .int lo] = [some (x), some (.int lo)] from rfl]
    try dsimp only [cx_K, cx_K2]
    repeat k_mem
    refine u_whole ty ?_
    repeat k_mem
    cases x with
    | int i =>
      refine i_T rfl ?_
      repeat k_mem
      exact k
    | _ => exact i_F rfl k
theorem D_is_within (T : Txt K mg c R CH) : Def P w K mg base CX0 2 "is_within" ["thing", "low", "high"] (sp_is_within K) := by
  have D_is_whole := D_is_whole (P := P) (w := w) (base := base) T
  refine def_of T.d_is_within sc_is_within (fun vs H Q E h => ?_) (fun _ _ _ _ _ _ us hl => match us, hl with | [_, _, _], _ => rfl) (fun f cdv A outer s H vs Q E hr h => ?_)
  · obtain ⟨x, n, lo, hi, rfl, _⟩ := h
    rfl
  · obtain ⟨x, n, lo, hi, rfl, ty, k⟩ := h
    have nd := sc_is_within.nd
    refine ⟨_, (pss_one (ps_ret (pe_and (pe_def D_is_whole hr (pa_cons (pv 0) pa_nil)) (pe_one (pe_chain op_le op_le (pv 1) (pv 0) (pv 2)))))), ?_⟩
    clear nd D_is_whole
    rw [show start ["thing", "low", "high"] [x, .int lo, .int hi] = [some (x), some (.int lo), some (.int hi)] from rfl]
    try dsimp only [cx_K, cx_K2]
    repeat k_mem
    refine u_whole ty ?_
    repeat k_mem
    cases x with
    | int i =>
      refine i_T rfl ?_
      repeat k_mem
      have k : Q (.bl (decide (lo ≤ i) && decide (i ≤ hi))) H := k
      refine i_dec (fun h => ?_) (fun h => ?_)
      · repeat k_mem
        rw [decide_eq_true h, Bool.true_and] at k
        exact k
      · rw [decide_eq_false h, Bool.false_and] at k
        exact k
    | _ => exact i_F rfl k
theorem D_is_many (T : Txt K mg c R CH) : Def P w K mg base CX0 3 "is_many" ["thing"] (sp_is_many K) := by
  have D_is_within := D_is_within (P := P) (w := w) (base := base) T
  refine def_of T.d_is_many sc_is_many (fun vs H Q E h => ?_) (fun _ _ _ _ _ _ us hl => match us, hl with | [_], _ => rfl) (fun f cdv A outer s H vs Q E hr h => ?_)
  · obtain ⟨x, n, rfl, _⟩ := h
    rfl
  · obtain ⟨x, n, rfl, ty, k⟩ := h
    have nd := sc_is_many.nd
    refine ⟨_, (pss_one (ps_ret (pe_def D_is_within hr (pa_cons (pv 0) (pa_cons (pe_gl T.g_FEWEST_CELLS) (pa_cons (pe_gl T.g_MOST_CELLS) pa_nil)))))), ?_⟩
    clear nd D_is_within
    rw [show start ["thing"] [x] = [some (x)] from rfl]
    try dsimp only [cx_K, cx_K2]
    repeat k_mem
    exact u_within ty k
theorem D_end_of (T : Txt K mg c R CH) : Def P w K mg base CX0 1 "end_of" ["stretch"] sp_end_of := by
  refine def_of T.d_end_of sc_end_of (fun vs H Q E h => ?_) (fun _ _ _ _ _ _ us hl => match us, hl with | [_], _ => rfl) (fun f cdv A outer s H vs Q E hr h => ?_)
  · obtain ⟨q, a, b, rfl, _⟩ := h
    rfl
  · obtain ⟨q, a, b, rfl, h, k⟩ := h
    have nd := sc_end_of.nd
    refine ⟨_, (pss_one (ps_ret (pe_op op_add (pe_ix ix_tup (pv 0) pe_int (fun _ _ => rfl)) (pe_ix ix_tup (pv 0) pe_int (fun _ _ => rfl))))), ?_⟩
    clear nd 
    rw [show start ["stretch"] [.ref q] = [some (.ref q)] from rfl]
    try dsimp only [cx_K, cx_K2]
    repeat k_meth
    exact k
theorem D_cell_at (T : Txt K mg c R CH) : Def P w K mg base CX0 1 "_law_cell_at" ["_law_script", "_law_k"] (sp_cellA K) := by
  refine def_of T.d_cell_at sc_cell_at (fun vs H Q E h => ?_) (fun _ _ _ _ _ _ us hl => match us, hl with | [_, _], _ => rfl) (fun f cdv A outer s H vs Q E hr h => ?_)
  · obtain ⟨a, ns, m, rfl, _⟩ := h
    rfl
  · obtain ⟨a, ns, m, rfl, hS, m0, k⟩ := h
    have nd := sc_cell_at.nd
    refine ⟨_, (pss_cons (ps_if (pt_cmpR op_lt (pv 1) (pe_callB call_lenN rfl T.n_len boot_len (pa_cons (pv 0) pa_nil)) (nomark _)) (pss_one (ps_ret (pe_ix ix_list (pv 0) (pv 1) (fun _ _ => rfl)))) pss_nil)
      (pss_one (ps_ret (pe_op op_add (pe_op op_mul pe_int (pv 1)) pe_int)))), ?_⟩
    clear nd 
    rw [show start ["_law_script", "_law_k"] [.ref a, .int m] = [some (.ref a), some (.int m)] from rfl]
    try dsimp only [cx_K, cx_K2]
    repeat k_meth
    refine i_dec (fun h => ?_) (fun h => ?_)
    · repeat k_meth
      rw [List.length_map] at h
      obtain ⟨v, e, mm⟩ := atI_lt (xs := ns.map V.int) m0 (by rw [List.length_map]; exact h)
      obtain ⟨c, _, rfl⟩ := List.mem_map.mp mm
      exact w_ixL hS e (k c)
    · repeat k_meth
      exact k _
theorem D_box (T : Txt K mg c R CH) : Def P w K mg base CX0 1 "_law_box" ["_law_cell"] sp_boxA := by
  refine def_of T.d_box sc_box (fun vs H Q E h => ?_) (fun _ _ _ _ _ _ us hl => match us, hl with | [_], _ => rfl) (fun f cdv A outer s H vs Q E hr h => ?_)
  · obtain ⟨c, rfl, _⟩ := h
    rfl
  · obtain ⟨c, rfl, k⟩ := h
    have nd := sc_box.nd
    refine ⟨_, (pss_cons (ps_if (pt_cmpR op_ge (pv 0) (pe_op op_pow pe_int pe_int) (nomark _)) (pss_one (ps_ret (pe_lstA (pa_cons (pv 0) (pa_cons (pe_op op_mod (pv 0) pe_int) (pa_cons pe_int pa_nil)))))) pss_nil)
      (pss_one (ps_ret (pe_lstA (pa_cons pe_int (pa_cons (pe_op op_mod (pv 0) pe_int) (pa_cons pe_int pa_nil))))))), ?_⟩
    clear nd 
    rw [show start ["_law_cell"] [.int c] = [some (.int c)] from rfl]
    try dsimp only [cx_K, cx_K2]
    repeat k_meth
    refine i_dec (fun h => ?_) (fun h => ?_)
    · repeat k_meth
      rename_i n
      exact k _ _ _ _ n
    · repeat k_meth
      rename_i n
      exact k _ _ _ _ n
theorem D_take (T : Txt K mg c R CH) : Def P w K mg base CX0 1 "_law_take" ["_law_box_here", "_law_many"] sp_takeA := by
  refine def_of T.d_take sc_take (fun vs H Q E h => ?_) (fun _ _ _ _ _ _ us hl => match us, hl with | [_, _], _ => rfl) (fun f cdv A outer s H vs Q E hr h => ?_)
  · obtain ⟨p, a, b, c, m, rfl, _⟩ := h
    rfl
  · obtain ⟨p, a, b, c, m, rfl, hp, m0, m1, k⟩ := h
    have nd := sc_take.nd
    refine ⟨_, (pss_cons (ps_if (pt_cmpR op_gt (pe_ix ix_list (pv 0) pe_int (fun _ _ => rfl)) pe_int (nomark _)) (pss_cons (ps_set (i := 2) nd rfl (Or.inl rfl) (pe_op op_mod (pe_ix ix_list (pv 0) pe_int (fun _ _ => rfl)) (pv 1)))
        (pss_cons (ps_asg (pe_op op_fdiv (pe_ix ix_list (pv 0) pe_int (fun _ _ => rfl)) (pv 1)) (pg_sub (pv 0) pe_int set_listA))
        (pss_one (ps_ret (pv 2))))) pss_nil)
      (pss_cons (ps_asg (pe_op op_add (pe_ix ix_list (pv 0) pe_int (fun _ _ => rfl)) pe_int) (pg_sub (pv 0) pe_int set_listA))
      (pss_cons (ps_set (i := 2) nd rfl (Or.inl rfl) (pe_op op_mod (pe_op op_add (pe_op op_add (pe_op op_mul (pe_ix ix_list (pv 0) pe_int (fun _ _ => rfl)) pe_int) (pe_op op_mul pe_int (pe_ix ix_list (pv 0) pe_int (fun _ _ => rfl)))) pe_int) pe_int))
      (pss_cons (ps_set (i := 2) nd rfl (Or.inl rfl) (pe_op op_mod (pe_op op_add (pe_op op_add (pe_op op_mul (pv 2) (pv 2)) (pe_op op_mul pe_int (pe_ix ix_list (pv 0) pe_int (fun _ _ => rfl)))) pe_int) pe_int))
      (pss_one (ps_ret (pe_op op_mod (pe_op op_mod (pe_op op_mul (pv 2) (pv 2)) pe_int) (pv 1)))))))), ?_⟩
    clear nd 
    rw [show start ["_law_box_here", "_law_many", "_law_number"] [.ref p, .int m] = [some (.ref p), some (.int m), none] from rfl]
    try dsimp only [cx_K, cx_K2]
    repeat k_meth
    refine i_dec (fun h => ?_) (fun h => ?_)
    · repeat k_meth
      refine w_div m0 m1 ?_
      repeat k_meth
      refine w_setA hp rfl fun H1 f1 e1 => ?_
      repeat k_meth
      exact k _ _ _ _ H1 (Int.emod_nonneg _ (by omega)) (Int.emod_lt_of_pos _ m0) f1 e1
    · repeat k_meth
      refine w_setA hp rfl fun H1 f1 e1 => ?_
      have e1 : H1 p = some (.lst [.int a, .int b, .int (c + 1)]) := e1
      repeat k_meth
      generalize (b * 48271 + 7919 * (c + 1) + 101) = z
      have b1 := Int.emod_nonneg z (show (2147483647 : Int) ≠ 0 by decide)
      have b2 := Int.emod_lt_of_pos z (show (0 : Int) < 2147483647 by decide)
      generalize z % 2147483647 = y at b1 b2
      refine w_mulL (by omega) (by omega) ?_
      repeat k_meth
      have b3 := Int.emod_nonneg (y * y + 104729 * (c + 1) + 7) (show (2147483629 : Int) ≠ 0 by decide)
      have b4 := Int.emod_lt_of_pos (y * y + 104729 * (c + 1) + 7) (show (0 : Int) < 2147483629 by decide)
      generalize (y * y + 104729 * (c + 1) + 7) % 2147483629 = x at b3 b4
      refine w_mulR (by omega) (by omega) ?_
      repeat k_meth
      exact k _ _ _ _ H1 (Int.emod_nonneg _ (by omega)) (Int.emod_lt_of_pos _ m0) f1 e1
theorem D_among (T : Txt K mg c R CH) : Def P w K mg base CX0 1 "holes_among" ["free"] sp_among := by
  refine def_of T.d_among sc_among (fun vs H Q E h => ?_) (fun _ _ _ _ _ _ us hl => match us, hl with | [_], _ => rfl) (fun f cdv A outer s H vs Q E hr h => ?_)
  · obtain ⟨p, fs, rfl, _⟩ := h
    rfl
  · obtain ⟨p, fs, rfl, hp, hz, k⟩ := h
    have nd := sc_among.nd
    refine ⟨_, (pss_cons (ps_set (i := 1) nd rfl (Or.inl rfl) (pe_lstA pa_nil))
      (pss_cons (ps_set (i := 2) nd rfl (Or.inl rfl) pe_int)
      (pss_cons (ps_for PassesOwn.never rfl (pi_enum rfl T.n_enumerate (pa_cons (pe_op op_catA (pv 0) (pe_lstA (pa_cons pe_bl pa_nil))) pa_nil)) (pg_tup rfl (pgs_cons (pg_name (i := 3) nd rfl (Or.inl rfl)) (pgs_cons (pg_name (i := 4) nd rfl (Or.inl rfl)) pgs_nil))) (pss_one (ps_if (pt_val (pv 4)) (pss_one (ps_aug (i := 2) nd rfl (Or.inl rfl) pe_int iop_add)) (pss_one (ps_if (pt_cmpR op_gt (pv 2) pe_int (nomark _)) (pss_cons (ps_expr (pe_appendA (pv 1) (pe_tupA (pa_cons (pe_op op_sub (pv 3) (pv 2)) (pa_cons (pv 2) pa_nil)))))
            (pss_one (ps_set (i := 2) nd rfl (Or.inl rfl) pe_int))) pss_nil)))))
      (pss_one (ps_ret (pv 1)))))), ?_⟩
    clear nd 
    rw [show start ["free", "holes", "size", "cell", "is_free"] [.ref p] = [some (.ref p), none, none, none, none] from rfl]
    try dsimp only [cx_K, cx_K2]
    repeat k_meth
    rename_i q H1 n1 b H2 n2 r H3 n3
    have e3 : H3 r = some (.lst ((fs ++ [false]).map V.bl)) := by rw [n3.e]; simp
    have hqr : q ≠ r := by k_ne
    refine e_by (SqL.of e3) (forE_by (fun i σ' H' => ∃ (st : Sc) (o3 o4 : Option V) (ys : List V), st = scan ((fs ++ [false]).take i) ∧ σ' = [some (.ref p), some (.ref q), some (.int (st.2.1 : Nat)), o3, o4] ∧ Same H H' ∧ H' q = some (.lst ys) ∧ TupsAt H' ys (rowsN st.1) ∧ ys.length ≤ i ∧ H' r = some (.lst ((fs ++ [false]).map V.bl))) ⟨([], 0, 0), none, none, [], rfl, rfl, by k_upd, by k_tabat, TupsAt.nil, Nat.le_refl _, e3⟩ ?_ ?_ ?_)
    · rintro i σ' H' hi ⟨st, _, _, ys, _, rfl, s, hq, tp, hy, hr'⟩
      exact SqL.of hr'
    · rintro i x t σ' HA HB hx ⟨st, o3, o4, ys, hst, rfl, sm, hq, tp, hy, hr'⟩ nB
      obtain ⟨bv, hb, rfl⟩ := map_blAt hx
      have hi : i < 241 := by
        have := (List.getElem?_eq_some_iff.mp hb).1
        simp at this
        omega
      have tk := take_snocB hb
      have sl := scan_len ((fs ++ [false]).take i)
      have ok := (scan_ok ((fs ++ [false]).take i)).le
      have hl : ((fs ++ [false]).take i).length = i := by
        rw [List.length_take]
        have := (List.getElem?_eq_some_iff.mp hb).1
        omega
      rw [← hst] at sl ok
      have sm2 : Same H HB := by k_upd
      repeat k_meth
      cases bv with
      | true =>
        repeat k_meth
        exact ⟨stp st true, _, _, ys, by rw [tk, scan_snoc, hst], rfl, sm2, by k_tabat, tp.same nB.s, by omega, by k_tabat⟩
      | false =>
        repeat k_meth
        refine i_dec (fun h => ?_) (fun h => ?_)
        · have h : 0 < st.2.1 := by omega
          repeat k_meth
          rename_i t2 HC nC HD fD eD
          have hqC : HC q = some (.lst ys) := by k_tabat
          obtain ⟨ys2, e5, tp5⟩ := RowsAt.snoc ((tp.same nB.s).same nC.s) hqC nC.e fD eD
          have e6 : ys2 = ys ++ [.ref t2] := by
            rw [eD] at e5
            cases e5
            rfl
          have e7 : stp st false = (st.1 ++ [(st.2.2 - st.2.1, st.2.1)], 0, st.2.2 + 1) := by
            unfold stp
            rw [if_neg (by decide), if_pos h]
          refine ⟨(st.1 ++ [(st.2.2 - st.2.1, st.2.1)], 0, st.2.2 + 1), _, _, ys2, by rw [tk, scan_snoc, ← hst, e7], rfl, by k_upd, e5, ?_, by rw [e6, List.length_append, List.length_singleton]; omega, by k_tabat⟩
          have e8 : rowsN (st.1 ++ [(st.2.2 - st.2.1, st.2.1)]) = rowsN st.1 ++ [[V.int (i - (st.2.1 : Nat) : Int), V.int (st.2.1 : Nat)]] := by
            unfold rowsN
            rw [List.map_append]
            congr 1
            show [[V.int ((st.2.2 - st.2.1 : Nat) : Int), _]] = _
            rw [show ((st.2.2 - st.2.1 : Nat) : Int) = (i - (st.2.1 : Nat) : Int) by omega]
          rw [e8]
          exact tp5
        · have h : ¬ 0 < st.2.1 := by omega
          repeat k_meth
          have e7 : stp st false = (st.1, 0, st.2.2 + 1) := by
            unfold stp
            rw [if_neg (by decide), if_neg h]
          refine ⟨(st.1, 0, st.2.2 + 1), some (.int i), some (.bl false), ys, by rw [tk, scan_snoc, ← hst, e7], ?_, sm2, by k_tabat, tp.same nB.s, by omega, by k_tabat⟩
          have : st.2.1 = 0 := by omega
          rw [this]
    · rintro σ' H' ⟨st, _, _, ys, hst, rfl, sm, hq, tp, hy, hr'⟩
      repeat k_meth
      have e : (fs ++ [false]).take ((fs ++ [false]).map V.bl).length = fs ++ [false] := by rw [List.length_map, List.take_length]
      rw [hst, e, (scan_false fs).1] at tp
      exact k q ys H' ⟨sm, hq, n1.n⟩ tp
end
end K23
set_option Elab.async false
set_option linter.all false
set_option maxRecDepth 100000
set_option maxHeartbeats 4000000
namespace K23
open PySem L2 PyProof.Rows
local macro_rules | `(tactic| k_tabat) => `(tactic| first
  | with_reducible assumption
  | (with_reducible exact New.e (by with_reducible assumption))
  | (with_reducible refine New.at (by with_reducible assumption) ?_; k_tabat)
  | (with_reducible refine Off.at (by with_reducible assumption) (by k_ne) ?_; k_tabat)
  | (with_reducible refine Kp.at (by with_reducible assumption) (by k_ne) ?_; k_tabat)
  | (with_reducible refine Same.at (by with_reducible assumption) ?_; k_tabat))
local macro_rules | `(tactic| k_ne) => `(tactic| first
  | with_reducible assumption
  | (with_reducible exact Ne.symm (by with_reducible assumption))
  | (with_reducible exact New.neA (by with_reducible assumption) (by k_in))
  | (with_reducible exact New.neB (by with_reducible assumption) (by k_in)))
local macro_rules | `(tactic| k_in) => `(tactic| first
  | (with_reducible exact Hs.of (by with_reducible assumption))
  | (with_reducible exact New.hs (by with_reducible assumption))
  | (with_reducible refine New.hsAt (by with_reducible assumption) ?_; k_in)
  | (with_reducible refine Off.hsAt (by with_reducible assumption) (by k_ne) ?_; k_in)
  | (with_reducible refine Kp.hsAt (by with_reducible assumption) (by k_ne) ?_; k_in)
  | (with_reducible refine Same.hsAt (by with_reducible assumption) ?_; k_in))
local macro_rules | `(tactic| k_flat) => `(tactic| first
  | with_reducible assumption
  | (with_reducible exact SqL.of (by k_tabat))
  | (with_reducible exact SqT.of (by k_tabat))
  | (with_reducible refine Same.seq (by with_reducible assumption) ?_; k_flat)
  | (with_reducible refine Same.seq (New.s (by with_reducible assumption)) ?_; k_flat)
  | (with_reducible refine Off.seq (by with_reducible assumption) (by k_ne) ?_; k_flat))
local macro_rules | `(tactic| k_keys) => `(tactic| first
  | with_reducible assumption
  | (with_reducible exact atI_0)
  | (with_reducible exact atL1)
  | (with_reducible exact atL2)
  | (with_reducible exact atL3)
  | with_unfolding_all rfl)
local macro_rules | `(tactic| k_room) => `(tactic| first
  | with_reducible assumption
  | decide
  | omega
  | (simp only [List.length_cons, List.length_nil, List.length_map, List.length_append, List.length_replicate]; omega))
local macro_rules | `(tactic| k_inst) => `(tactic| first
  | (with_reducible refine small_line ?_; first | omega | (simp only [List.length_cons, List.length_nil, List.length_map, List.length_append, List.length_replicate, rowsN_len]; omega))
  | (with_reducible refine small_lt ?_; first | omega | (simp only [List.length_cons, List.length_nil, List.length_map, List.length_append, List.length_replicate, rowsN_len]; omega))
  | with_unfolding_all exact Nat.le_of_ble_eq_true rfl
  | omega)
local macro_rules | `(tactic| k_upd) => `(tactic| first
  | with_reducible assumption
  | (intro b u e; k_tabat))
local macro_rules | `(tactic| k_updF) => `(tactic| first
  | with_reducible assumption
  | (intro b u nb e; k_tabat))
local macro_rules | `(tactic| k_all) => `(tactic| first
  | with_reducible assumption
  | (refine ⟨?_, ?_, ?_⟩; (focus (intro b u e; k_tabat)); (focus k_tabat); (focus (intro b u e; k_ne))))
local macro_rules | `(tactic| k_mem) => `(tactic| with_reducible (first
  | refine go_seq ?_ | refine go_asg ?_ | refine go_ret ?_ | refine go_if ?_ | refine go_drop ?_ | refine go_next ?_ | refine go_nx ?_ | refine w_rt ?_
  | refine go_test ?_ | refine go_b ?_ | refine go_op ?_ | refine go_cb ?_ | refine go_cons ?_ | refine go_nil ?_ | refine w_call ?_ | refine w_c ?_
  | refine wv0 ?_ | refine wv1 ?_ | refine wv2 ?_ | refine wv3 ?_ | refine wv4 ?_ | refine wv5 ?_ | refine wv6 ?_ | refine wv7 ?_ | refine wv8 ?_ | refine wv9 ?_ | refine wv10 ?_ | refine wv11 ?_ | refine wv12 ?_ | refine wv13 ?_
  | refine wn0 ?_ | refine wn1 ?_ | refine wn2 ?_ | refine wn3 ?_ | refine wn4 ?_ | refine wn5 ?_ | refine wn6 ?_ | refine wn7 ?_ | refine wn8 ?_ | refine wn9 ?_ | refine wn10 ?_ | refine wn11 ?_ | refine wn12 ?_ | refine wn13 ?_
  | refine w_i0 ?_ | refine w_u ?_ | refine w_un ?_ | refine w_eqi ?_ | refine w_nei ?_ | refine w_eqs ?_ | refine w_nes ?_ | refine w_eqb ?_ | refine w_neb ?_ | refine w_bl ?_ | refine w_not ?_ | refine w_and ?_ | refine w_or ?_ | refine w_notV ?_ | refine w_andV ?_ | refine w_orV ?_
  | refine w_ifE ?_ | refine w_chain ?_ | refine w_bm ?_ | refine w_bm0 ?_ | refine w_sub ?_ | refine w_slice ?_ | refine w_noPart ?_ | refine w_part ?_ | refine w_int ?_ | refine w_max ?_ | refine w_min ?_ | refine w_intB ?_ | refine w_intI ?_
  | refine w_mod (by decide) ?_ | refine w_div (by decide) (by decide) ?_ | refine w_pow (by decide) (by decide) (by decide) ?_ | refine w_mulL (by decide) (by decide) ?_ | refine w_mulR (by decide) (by decide) ?_ | refine go_tupA ?_ | refine go_lstA ?_ | refine w_notT ?_ | refine w_isB ?_ | refine w_isNB ?_ | refine w_revSl ?_ | refine w_din ?_ | refine w_dput ?_ | refine go_fs ?_ | refine go_fmt ?_ | refine go_fld ?_ | refine go_methB ?_ | refine go_makeB ?_ | refine go_sfldB ?_))
set_option hygiene false in
local macro_rules | `(tactic| k_meth) => `(tactic| first
  | k_mem
  | with_reducible (refine w_isTT (by k_tabat) ?_)
  | with_reducible (refine w_isLL (by k_tabat) ?_)
  | with_reducible (refine w_isTL (by k_tabat) ?_)
  | with_reducible (refine w_isLT (by k_tabat) ?_)
  | with_reducible refine w_isII ?_
  | with_reducible refine w_isIB ?_
  | with_reducible refine w_isBB ?_
  | with_reducible refine w_isBI ?_
  | with_reducible (refine w_ixL (by k_flat) (by k_keys) ?_)
  | with_reducible (refine w_ixT (by k_flat) (by k_keys) ?_)
  | with_reducible (refine w_lenL (by k_flat) ?_)
  | with_reducible (refine w_lenT (by k_flat) ?_)
  | with_reducible (refine made_ok (by k_inst) ?_; intro _ _ _)
  | with_reducible (refine w_tyL (by k_flat) ?_)
  | with_reducible (refine w_app (by k_tabat) (by k_inst) ?_; intro _ _ _)
  | with_reducible (refine w_clr (by k_tabat) ?_; intro _ _ _)
  | with_reducible (refine w_slA (by k_flat) ?_; intro _ _ _)
  | with_reducible (refine w_catA (by k_tabat) (by k_tabat) (by k_inst) ?_; intro _ _ _)
  | with_reducible (refine w_lofL (by k_flat) ?_; intro _ _ _)
  | with_reducible (refine w_rep1 (by k_tabat) (by omega) ?_; intro _ _ _)
  | with_reducible (refine i_pos (by k_room) ?_)
  | with_reducible (refine i_neg (by k_room) ?_)
  | with_reducible (refine i_npos (by k_room) ?_)
  | with_reducible (refine i_nneg (by k_room) ?_)
  | with_reducible (refine i_tt ?_)
  | with_reducible (refine i_ff ?_)
  | with_reducible (refine i_ntt ?_)
  | with_reducible (refine i_nff ?_)
  | with_reducible (refine w_tupB (by with_unfolding_all rfl) (by k_flat) ?_)
  | with_reducible (refine go_aug rfl ?_)
  | with_reducible refine w_not2 ?_
  | with_reducible refine go_ck ?_
  | with_reducible refine go_slc ?_
  | with_reducible (refine w_mod (by omega) ?_)
  | with_reducible (refine w_rng2 ?_)
  | with_reducible refine w_forE ?_
  | with_reducible refine w_forR1 ?_
  | with_reducible refine w_forR2 ?_
  | with_reducible refine w_forL ?_
  | with_reducible refine w_compL ?_
  | with_reducible (refine w_fld (by k_tabat) T.clH T.aH_free hF_free ?_)
  | with_reducible (refine w_fld (by k_tabat) T.clH T.aH_many hF_many ?_)
  | with_reducible (refine w_meth (by k_tabat) (hF_none (by decide) (by decide)) ?_)
  | with_reducible (refine u_end (by k_tabat) ?_)
  | with_reducible (refine u_fromI ?_)
  | with_reducible (refine u_takeA (by k_tabat) (by k_room) (by k_room) ?_; intro _ _ _ _ _ _ _ _ _)
  | with_reducible (refine u_stretchI (by k_tabat) ?_))
open M22
def hF (n : Int) (p : Addr) : List (Str × V) := putF "free" (.ref p) (putF "many" (.int n) [])
theorem hF_many {n : Int} {p : Addr} : (hF n p).lookup ("many" : Str) = some (.int n) := by unfold hF; rw [lookup_putF, if_neg (by decide), lookup_putF, if_pos rfl]
theorem hF_free {n : Int} {p : Addr} : (hF n p).lookup ("free" : Str) = some (.ref p) := by unfold hF; rw [lookup_putF, if_pos rfl]
theorem hF_none {n : Int} {p : Addr} {m : Str} (h1 : m ≠ "free") (h2 : m ≠ "many") : (hF n p).lookup m = none := by unfold hF; rw [lookup_putF, if_neg h1, lookup_putF, if_neg h2]; rfl
open M22
def hasB (fs : List Bool) (a b : Nat) : Bool := decide (1 ≤ b) && (decide (a + b ≤ fs.length) && ((fs.drop a).take b).all id)
def tknB (fs : List Bool) (a b : Nat) : Bool := decide (1 ≤ b) && (decide (a + b ≤ fs.length) && !((fs.drop a).take b).any id)
def sp_allfree : Sp := fun vs H Q _ => ∃ (p q : Addr) (fs : List Bool) (a b : Nat), vs = [.ref p, .ref q] ∧ H p = some (.lst (fs.map V.bl)) ∧ fs.length ≤ 240 ∧ H q = some (.tup [.int (a : Nat), .int (b : Nat)]) ∧ ∀ H', Same H H' → Q (.bl (decide (a + b ≤ fs.length) && ((fs.drop a).take b).all id)) H'
def Bk (CH : Addr) (H : Hp) (x p dx : Addr) (fs : List Bool) : Prop := H x = some (.ins CH dx (hF fs.length p)) ∧ H p = some (.lst (fs.map V.bl)) ∧ 16 ≤ fs.length ∧ fs.length ≤ 240
def sp_Htold (CH : Addr) : Sp := fun vs H Q _ => ∃ (x p dx : Addr) (fs : List Bool), vs = [.ref x] ∧ Bk CH H x p dx fs ∧ ∀ (q : Addr) (ys : List V) (H' : Hp), New H H' q (.lst ys) → TupsAt H' ys (rowsN (holesF fs)) → Q (.ref q) H'
theorem cut_bl {fs : List Bool} {a b : Nat} : cutV (fs.map V.bl) (some (a : Int)) (some ((a : Int) + (b : Int))) = ((fs.drop a).take b).map V.bl := by
  unfold cutV
  rw [show (a : Int) + (b : Int) = ((a + b : Nat) : Int) by omega, HT.sIx_nat, HT.sIx_nat, List.length_map, List.map_take, List.map_drop]
  by_cases h : a ≤ fs.length
  · rw [show min a fs.length = a by omega]
    by_cases h2 : a + b ≤ fs.length
    · rw [show min (a + b) fs.length - a = b by omega]
    · rw [List.take_of_length_le (by rw [List.length_drop, List.length_map]; omega), List.take_of_length_le (by rw [List.length_drop, List.length_map]; omega)]
  · rw [List.drop_of_length_le (by rw [List.length_map]; omega), List.drop_of_length_le (by rw [List.length_map]; omega)]
    simp
section
variable {P : Program} {w : World} {K : PySem.W.Frag} {mg : Str → Option Value} {base : Heap} {c : Nat → Addr} {R CH : Addr}
theorem D_allfree (T : Txt K mg c R CH) : Def P w K mg base CX0 2 "is_all_free" ["free", "stretch"] sp_allfree := by
  have D_end_of := D_end_of (P := P) (w := w) (base := base) T
  refine def_of T.d_allfree sc_allfree (fun vs H Q E h => ?_) (fun _ _ _ _ _ _ us hl => match us, hl with | [_, _], _ => rfl) (fun f cdv A outer s H vs Q E hr h => ?_)
  · obtain ⟨p, q, fs, a, b, rfl, _⟩ := h
    rfl
  · obtain ⟨p, q, fs, a, b, rfl, hp, hz, hq, k⟩ := h
    have nd := sc_allfree.nd
    refine ⟨_, (pss_one (ps_ret (pe_and (pe_cmpR op_le (pe_def D_end_of hr (pa_cons (pv 1) pa_nil)) (pe_callB call_lenN rfl T.n_len boot_len (pa_cons (pv 0) pa_nil)) (nomark _)) (pe_one (pe_callB (call_all rfl) rfl T.n_all boot_all (pa_cons (pe_slice sl_listA (pv 0) (po_some (pe_ix ix_tup (pv 1) pe_int (fun _ _ => rfl))) (po_some (pe_def D_end_of hr (pa_cons (pv 1) pa_nil)))) pa_nil)))))), ?_⟩
    clear nd D_end_of
    rw [show start ["free", "stretch"] [.ref p, .ref q] = [some (.ref p), some (.ref q)] from rfl]
    try dsimp only [cx_K, cx_K2]
    repeat k_meth
    refine i_dec (fun h => ?_) (fun h => ?_)
    · rw [List.length_map] at h
      rw [decide_eq_true (show a + b ≤ fs.length by omega), Bool.true_and] at k
      repeat k_meth
      rename_i r H1 n1
      rw [cut_bl] at n1
      exact ⟨r, _, rfl, SqL.of n1.e, k _ n1.s⟩
    · rw [List.length_map] at h
      rw [decide_eq_false (show ¬ a + b ≤ fs.length by omega), Bool.false_and] at k
      exact k _ (Same.refl _)
end
section
variable {CH x p dx : Addr} {fs : List Bool} {H : Hp} {Q : VK} {E : XK} {a b : Nat}
theorem holes_few {fs : List Bool} : (holesF fs).length ≤ fs.length := by
  have h := hole_sum fs
  have h2 : fs.count true ≤ fs.length := List.count_le_length
  have h3 : ∀ ws : List (Nat × Nat), (∀ w ∈ ws, 1 ≤ w.2) → ws.length ≤ (ws.map (·.2)).sum := by
    intro ws
    induction ws with
    | nil => intro _; exact Nat.le_refl _
    | cons w t ih =>
      intro hw
      have := hw w List.mem_cons_self
      have := ih fun z hz => hw z (List.mem_cons_of_mem _ hz)
      simp only [List.length_cons, List.map_cons, List.sum_cons]
      omega
  have := h3 (holesF fs) fun w hw => (hole_ok hw).1
  omega
end
section
variable {P : Program} {w : World} {K : PySem.W.Frag} {mg : Str → Option Value} {base : Heap} {c : Nat → Addr} {R CH : Addr}
theorem MT_Htold (T : Txt K mg c R CH) : Met P w K mg base CX0 2 CH "told" ["self"] (sp_Htold CH) := by
  have D_among := D_among (P := P) (w := w) (base := base) T
  obtain ⟨f, hf, hm⟩ := T.f_Htold
  refine (fn_tells (k := 1) hf sc_Htold (fun vs H Q E h => ?_) (fun _ _ _ _ _ _ us hl => match us, hl with | [_], _ => rfl) (fun f cdv A outer s H vs Q E hr h => ?_)).met hm
  · obtain ⟨x, p, dx, fs, rfl, _⟩ := h
    rfl
  · obtain ⟨x, p, dx, fs, rfl, bk, k⟩ := h
    have nd := sc_Htold.nd
    refine ⟨_, (pss_one (ps_ret (pe_def D_among hr (pa_cons (pe_fld (pv 0) rfl) pa_nil)))), ?_⟩
    clear nd D_among
    rw [show start ["self"] [.ref x] = [some (.ref x)] from rfl]
    try dsimp only [cx_K, cx_K2]
    obtain ⟨hx, hp, h16, h240⟩ := id bk
    repeat k_meth
    exact ⟨p, fs, rfl, hp, h240, k⟩
end
end K23
set_option Elab.async false
set_option linter.all false
set_option maxRecDepth 100000
set_option maxHeartbeats 4000000
namespace K23
open PySem L2 PyProof.Rows
local macro_rules | `(tactic| k_room) => `(tactic| first
  | with_reducible assumption
  | with_unfolding_all exact rfl
  | with_unfolding_all exact Nat.le_of_ble_eq_true rfl
  | omega
  | (with_reducible refine small_line ?_; first | omega | (simp only [List.length_cons, List.length_nil, List.length_map, List.length_append, List.length_replicate, rowsN_len, List.length_take, List.length_drop, List.length_set]; omega))
  | (with_reducible refine small_lt ?_; first | omega | (simp only [List.length_cons, List.length_nil, List.length_map, List.length_append, List.length_replicate, rowsN_len, List.length_take, List.length_drop, List.length_set]; omega))
  | (simp only [List.length_cons, List.length_nil, List.length_map, List.length_append, List.length_replicate, rowsN_len, List.length_take, List.length_drop, List.length_set]; omega)
  | decide)
local macro_rules | `(tactic| k_mem) => `(tactic| first
  | with_reducible assumption
  | decide
  | omega
  | (simp only [List.length_cons, List.length_nil, List.length_map, List.length_append, List.length_replicate, rowsN_len, List.length_take, List.length_drop, List.length_set]; omega))
set_option hygiene false in
local macro_rules | `(tactic| k_meth) => `(tactic| first
  | with_reducible refine go1 ?_
  | (intro H_ a_ dx_ (F_ : SH _ _ _ _ _) (ex_ : ExcT _ _ _ _); clear F; (have F := F_); clear F_; have exA_ := ExA.mk ex_)
  | (intro H_ (F_ : SH _ _ _ _ _); clear F; (have F := F_); clear F_)
  | (intro H_ p_ (F_ : SH _ _ _ _ _); clear F; (have F := F_); clear F_)
  | (intro H_ x_ dx_ (F_ : SH _ _ _ _ _); clear F; (have F := F_); clear F_)
  | (intro H_ p_ ys_ l_ (F_ : SH _ _ _ _ _); clear F; (have F := F_); clear F_)
  | with_reducible refine sd (by k_room) ?_
  | (intro (r_ : Int) (x_ : Int) (y_ : Int) (z_ : Int) lo_ hi_)
  | (intro (x_ : Int) (y_ : Int))
  | (intro (c_ : Int))
  | with_reducible refine i_pos (by k_mem) ?_
  | with_reducible refine i_neg (by k_mem) ?_
  | with_reducible refine i_npos (by k_mem) ?_
  | with_reducible refine i_nneg (by k_mem) ?_)
open M22
theorem fr_int {v : V} {lo : Int} (h : isFr v lo = true) : ∃ i : Int, v = .int i ∧ lo ≤ i := by
  cases v with
  | int i => exact ⟨i, rfl, by simpa [isFr] using h⟩
  | _ => simp [isFr] at h
def hasV (fs : List Bool) (v w : V) : Bool := match v, w with
  | .int a, .int b => decide (0 ≤ a) && hasB fs a.toNat b.toNat
  | _, _ => false
def tknV (fs : List Bool) (v w : V) : Bool := match v, w with
  | .int a, .int b => decide (0 ≤ a) && tknB fs a.toNat b.toNat
  | _, _ => false
theorem hasV_nat {fs : List Bool} {a b : Nat} : hasV fs (.int (a : Nat)) (.int (b : Nat)) = hasB fs a b := by
  show (decide ((0 : Int) ≤ (a : Int)) && hasB fs (a : Int).toNat (b : Int).toNat) = _
  rw [decide_eq_true (by omega), Int.toNat_natCast, Int.toNat_natCast, Bool.true_and]
theorem tknV_nat {fs : List Bool} {a b : Nat} : tknV fs (.int (a : Nat)) (.int (b : Nat)) = tknB fs a b := by
  show (decide ((0 : Int) ≤ (a : Int)) && tknB fs (a : Int).toNat (b : Int).toNat) = _
  rw [decide_eq_true (by omega), Int.toNat_natCast, Int.toNat_natCast, Bool.true_and]
theorem fr_nats {v w : V} (h : (isFr v 0 && isFr w 1) = true) : ∃ a b : Nat, v = .int (a : Nat) ∧ w = .int (b : Nat) ∧ 1 ≤ b := by
  simp only [Bool.and_eq_true] at h
  obtain ⟨i, rfl, hi⟩ := fr_int h.1
  obtain ⟨j, rfl, hj⟩ := fr_int h.2
  exact ⟨i.toNat, j.toNat, by congr 1; omega, by congr 1; omega, by omega⟩
theorem hasV_no {fs : List Bool} {v w : V} (h : (isFr v 0 && isFr w 1) = false) : hasV fs v w = false := by
  cases v with
  | int i =>
    cases w with
    | int j =>
      have h : (decide (0 ≤ i) && decide (1 ≤ j)) = false := h
      show (decide (0 ≤ i) && hasB fs i.toNat j.toNat) = false
      by_cases h0 : 0 ≤ i
      · rw [decide_eq_true h0, Bool.true_and] at h ⊢
        have : ¬ 1 ≤ j := by simpa using h
        unfold hasB
        rw [decide_eq_false (show ¬ 1 ≤ j.toNat by omega)]
        rfl
      · rw [decide_eq_false h0]
        rfl
    | _ => rfl
  | _ => cases w <;> rfl
theorem tknV_no {fs : List Bool} {v w : V} (h : (isFr v 0 && isFr w 1) = false) : tknV fs v w = false := by
  cases v with
  | int i =>
    cases w with
    | int j =>
      have h : (decide (0 ≤ i) && decide (1 ≤ j)) = false := h
      show (decide (0 ≤ i) && tknB fs i.toNat j.toNat) = false
      by_cases h0 : 0 ≤ i
      · rw [decide_eq_true h0, Bool.true_and] at h ⊢
        have : ¬ 1 ≤ j := by simpa using h
        unfold tknB
        rw [decide_eq_false (show ¬ 1 ≤ j.toNat by omega)]
        rfl
      · rw [decide_eq_false h0]
        rfl
    | _ => rfl
  | _ => cases w <;> rfl
theorem set_putN {fs : List Bool} {a i : Nat} {v : Bool} (h : a + i < fs.length) : ((putB fs a i v).map V.bl).set ((a : Int) + (i : Int)).toNat (.bl v) = (putB fs a (i + 1) v).map V.bl := by
  rw [show ((a : Int) + (i : Int)).toNat = a + i by omega, putB_map, putB_set (by rw [List.length_map]; exact h), ← putB_map]
theorem has_le {fs : List Bool} {a b : Nat} (h : hasB fs a b = true) : 1 ≤ b ∧ a + b ≤ fs.length := by
  unfold hasB at h
  simp only [Bool.and_eq_true, decide_eq_true_eq] at h
  exact ⟨h.1, h.2.1⟩
theorem tkn_le {fs : List Bool} {a b : Nat} (h : tknB fs a b = true) : 1 ≤ b ∧ a + b ≤ fs.length := by
  unfold tknB at h
  simp only [Bool.and_eq_true, decide_eq_true_eq] at h
  exact ⟨h.1, h.2.1⟩
class BkA (CH : Addr) (H : Hp) (x : Addr) (p dx : outParam Addr) (fs : outParam (List Bool)) : Prop where
  e : Bk CH H x p dx fs
class Bks (fs : List Bool) (n : Nat) : Prop where
  e : fs.length = n
  lo : 16 ≤ n
  hi : n ≤ 240
def sp_stretchV (K : PySem.W.Frag) : Sp := fun vs H Q _ => ∃ (q : Addr) (v w : V) (n1 n2 : String), vs = [.ref q] ∧ H q = some (.tup [v, w]) ∧ TyOf K H v (.type n1) ∧ TyOf K H w (.type n2) ∧ Q (.bl (isFr v 0 && isFr w 1)) H
def sp_HhasV (K : PySem.W.Frag) (CH : Addr) : Sp := fun vs H Q _ => ∃ (x p dx : Addr) (fs : List Bool) (v w : V) (n1 n2 : String), vs = [.ref x, v, w] ∧ Bk CH H x p dx fs ∧ TyOf K H v (.type n1) ∧ TyOf K H w (.type n2) ∧ ∀ H', Same H H' → Q (.bl (hasV fs v w)) H'
def sp_HtknV (K : PySem.W.Frag) (CH : Addr) : Sp := fun vs H Q _ => ∃ (x p dx : Addr) (fs : List Bool) (v w : V) (n1 n2 : String), vs = [.ref x, v, w] ∧ Bk CH H x p dx fs ∧ TyOf K H v (.type n1) ∧ TyOf K H w (.type n2) ∧ ∀ H', Same H H' → Q (.bl (tknV fs v w)) H'
def sp_HtkV (K : PySem.W.Frag) (CH CF : Addr) : Sp := fun vs H Q E => ∃ (x p dx : Addr) (fs : List Bool) (v w : V) (n1 n2 : String), vs = [.ref x, v, w] ∧ Bk CH H x p dx fs ∧ TyOf K H v (.type n1) ∧ TyOf K H w (.type n2) ∧ ((∃ a b : Nat, v = .int (a : Nat) ∧ w = .int (b : Nat) ∧ hasB fs a b = true ∧ ∀ H', Kp p H H' → H' p = some (.lst ((putB fs a b false).map V.bl)) → Q .non H') ∨ (hasV fs v w = false ∧ ∀ d H', Same H H' → H' d = some (dctO d [("start", v), ("size", w)]) → E (.ref CF) (some d) H'))
def sp_HgvV (K : PySem.W.Frag) (CH CF : Addr) : Sp := fun vs H Q E => ∃ (x p dx : Addr) (fs : List Bool) (v w : V) (n1 n2 : String), vs = [.ref x, v, w] ∧ Bk CH H x p dx fs ∧ TyOf K H v (.type n1) ∧ TyOf K H w (.type n2) ∧ ((∃ a b : Nat, v = .int (a : Nat) ∧ w = .int (b : Nat) ∧ tknB fs a b = true ∧ ∀ H', Kp p H H' → H' p = some (.lst ((putB fs a b true).map V.bl)) → Q .non H') ∨ (tknV fs v w = false ∧ ∀ d H', Same H H' → H' d = some (dctO d [("start", v), ("size", w)]) → E (.ref CF) (some d) H'))
def sp_Hat (K : PySem.W.Frag) (CH CF : Addr) : Sp := fun vs H Q E => ∃ (x p dx : Addr) (fs : List Bool) (v : V) (n1 : String), vs = [.ref x, v] ∧ Bk CH H x p dx fs ∧ TyOf K H v (.type n1) ∧ inB v 0 ((fs.length : Int) - 1) = false ∧ ∀ d H', Same H H' → H' d = some (dctO d [("at", v)]) → E (.ref CF) (some d) H'
def sp_HinitV (K : PySem.W.Frag) (CH CF : Addr) : Sp := fun vs H Q E => ∃ (x dx : Addr) (v : V) (n1 : String), vs = [.ref x, v] ∧ H x = some (.ins CH dx []) ∧ TyOf K H v (.type n1) ∧ ((∃ n : Nat, v = .int (n : Nat) ∧ 16 ≤ n ∧ n ≤ 240 ∧ ∀ (p : Addr) (H' : Hp), Kp x H H' → H' x = some (.ins CH dx (hF n p)) → H' p = some (.lst ((List.replicate n true).map V.bl)) → (∀ a u, H a = some u → a ≠ p) → Q .non H') ∨ (inB v 16 240 = false ∧ ∀ d H', Same H H' → H' d = some (dctO d [("many", v)]) → E (.ref CF) (some d) H'))
section
variable {CH CF x p dx q : Addr} {fs : List Bool} {n : Int} {H : Hp} {Q : VK} {E : XK} {a b : Nat} {K : PySem.W.Frag} {v w : V} {n1 n2 : String}
instance fl_many : FLk (hF n p) "many" (.int n) := ⟨hF_many⟩
instance fl_free : FLk (hF n p) "free" (.ref p) := ⟨hF_free⟩
instance fn_told : FNo (hF n p) "told" := ⟨hF_none (by decide) (by decide)⟩
instance fn_has : FNo (hF n p) "has" := ⟨hF_none (by decide) (by decide)⟩
instance fn_has_taken : FNo (hF n p) "has_taken" := ⟨hF_none (by decide) (by decide)⟩
instance fn_hole_at : FNo (hF n p) "hole_at" := ⟨hF_none (by decide) (by decide)⟩
instance fn_take : FNo (hF n p) "take" := ⟨hF_none (by decide) (by decide)⟩
instance fn_give : FNo (hF n p) "give" := ⟨hF_none (by decide) (by decide)⟩
instance bkA {n : Nat} [h : Hat H x (.ins CH dx (hF n p))] [h2 : Hat H p (.lst (fs.map V.bl))] [s : Bks fs n] : BkA CH H x p dx fs := ⟨by rw [s.e]; exact h.e, h2.e, by rw [s.e]; exact s.lo, by rw [s.e]; exact s.hi⟩
instance go_told [h : BkA CH H x p dx fs] : Go (sp_Htold CH [.ref x] H Q E) (∀ (q : Addr) (ys : List V) (H' : Hp), New H H' q (.lst ys) → TupsAt H' ys (rowsN (holesF fs)) → Q (.ref q) H') := ⟨fun k => ⟨x, p, dx, fs, rfl, h.e, k⟩⟩
instance go_stretchV [h : Hat H q (.tup [v, w])] [t : TyA K H v n1] [u : TyA K H w n2] : Go (sp_stretchV K [.ref q] H Q E) (Q (.bl (isFr v 0 && isFr w 1)) H) := ⟨fun k => ⟨q, v, w, n1, n2, rfl, h.e, t.e, u.e, k⟩⟩
instance (priority := low) go_manyV [t : TyA K H v n1] : Go (sp_is_many K [v] H Q E) (Q (.bl (inB v 16 240)) H) := ⟨u_many t.e⟩
instance go_allfree [h : Hat H p (.lst (fs.map V.bl))] [h2 : Hat H q (.tup [.int (a : Nat), .int (b : Nat)])] : Go (sp_allfree [.ref p, .ref q] H Q E) (Sd (fs.length ≤ 240) (∀ H', Same H H' → Q (.bl (decide (a + b ≤ fs.length) && ((fs.drop a).take b).all id)) H')) := ⟨fun k => ⟨p, q, fs, a, b, rfl, h.e, k.1, h2.e, k.2⟩⟩
instance go_hasV [h : BkA CH H x p dx fs] [t : TyA K H v n1] [u : TyA K H w n2] : Go (sp_HhasV K CH [.ref x, v, w] H Q E) (∀ H', Same H H' → Q (.bl (hasV fs v w)) H') := ⟨fun k => ⟨x, p, dx, fs, v, w, n1, n2, rfl, h.e, t.e, u.e, k⟩⟩
instance go_tknV [h : BkA CH H x p dx fs] [t : TyA K H v n1] [u : TyA K H w n2] : Go (sp_HtknV K CH [.ref x, v, w] H Q E) (∀ H', Same H H' → Q (.bl (tknV fs v w)) H') := ⟨fun k => ⟨x, p, dx, fs, v, w, n1, n2, rfl, h.e, t.e, u.e, k⟩⟩
end
section
variable {P : Program} {w : World} {K : PySem.W.Frag} {mg : Str → Option Value} {base : Heap} {c : Nat → Addr} {R CH : Addr}
theorem D_stretch (T : Txt K mg c R CH) : Def P w K mg base CX0 3 "is_stretch" ["thing"] (sp_stretchV K) := by
  have D_is_from := D_is_from (P := P) (w := w) (base := base) T
  refine def_of T.d_stretch sc_stretch (fun vs H Q E h => ?_) (fun _ _ _ _ _ _ us hl => match us, hl with | [_], _ => rfl) (fun f cdv A outer s H vs Q E hr h => ?_)
  · obtain ⟨q, v, w, n1, n2, rfl, _⟩ := h
    rfl
  · obtain ⟨q, v, w, n1, n2, rfl, hq, ty, uy, k⟩ := h
    have nd := sc_stretch.nd
    refine ⟨_, (pss_cons (ps_if (PW.pt (pw_or (pt_not (pt_val (pe_callB call_isT rfl T.n_isinstance boot_isinstance (pa_cons (pv 0) (pa_cons (pe_ty (T := "tuple") rfl T.n_tuple boot_tuple) pa_nil))))) (pw_or1 (pt_cmpR op_ne (pe_callB call_lenN rfl T.n_len boot_len (pa_cons (pv 0) pa_nil)) pe_int (nomark _))))) (pss_one (ps_ret pe_bl)) pss_nil)
      (pss_one (ps_ret (pe_and (pe_def D_is_from hr (pa_cons (pe_ix ix_tup (pv 0) pe_int (fun _ _ => rfl)) (pa_cons pe_int pa_nil))) (pe_one (pe_def D_is_from hr (pa_cons (pe_ix ix_tup (pv 0) pe_int (fun _ _ => rfl)) (pa_cons pe_int pa_nil)))))))), ?_⟩
    clear nd D_is_from
    rw [show start ["thing"] [.ref q] = [some (.ref q)] from rfl]
    try dsimp only [cx_K, cx_K2]
    have iH_many : FldOk K CH "many" := ⟨T.clH, T.aH_many⟩
    have iH_free : FldOk K CH "free" := ⟨T.clH, T.aH_free⟩
    have o_hq := Old.mk (M := []) hq nm0
    have F : SH H [] H [] [] := SH.nil
    have o_v : OldT K H [] v n1 := ⟨ty, fun _ _ z => by cases z⟩
    have o_w : OldT K H [] w n2 := ⟨uy, fun _ _ z => by cases z⟩
    repeat k_meth
    by_cases e : isFr v 0 = true
    · rw [e, Bool.true_and] at k
      rw [e]
      repeat k_meth
      exact k
    · have e : isFr v 0 = false := by simpa using e
      rw [e, Bool.false_and] at k
      rw [e]
      repeat k_meth
      exact k
theorem MT_Hhas (T : Txt K mg c R CH) : Met P w K mg base CX0 4 CH "has" ["self", "start", "size"] (sp_HhasV K CH) := by
  have D_stretch := D_stretch (P := P) (w := w) (base := base) T
  have D_allfree := D_allfree (P := P) (w := w) (base := base) T
  obtain ⟨f, hf, hm⟩ := T.f_Hhas
  refine (fn_tells (k := 3) hf sc_Hhas (fun vs H Q E h => ?_) (fun _ _ _ _ _ _ us hl => match us, hl with | [_, _, _], _ => rfl) (fun f cdv A outer s H vs Q E hr h => ?_)).met hm
  · obtain ⟨x, p, dx, fs, v, w, n1, n2, rfl, _⟩ := h
    rfl
  · obtain ⟨x, p, dx, fs, v, w, n1, n2, rfl, bk, ty, uy, k⟩ := h
    have nd := sc_Hhas.nd
    refine ⟨_, (pss_one (ps_ret (pe_and (pe_def D_stretch hr (pa_cons (pe_tupA (pa_cons (pv 1) (pa_cons (pv 2) pa_nil))) pa_nil)) (pe_one (pe_def D_allfree hr (pa_cons (pe_fld (pv 0) rfl) (pa_cons (pe_tupA (pa_cons (pv 1) (pa_cons (pv 2) pa_nil))) pa_nil))))))), ?_⟩
    clear nd D_stretch D_allfree
    rw [show start ["self", "start", "size"] [.ref x, v, w] = [some (.ref x), some (v), some (w)] from rfl]
    try dsimp only [cx_K, cx_K2]
    obtain ⟨hx, hp, h16, h240⟩ := id bk
    have iH_many : FldOk K CH "many" := ⟨T.clH, T.aH_many⟩
    have iH_free : FldOk K CH "free" := ⟨T.clH, T.aH_free⟩
    have o_hx := Old.mk (M := []) hx nm0
    have o_hp := Old.mk (M := []) hp nm0
    have F : SH H [] H [] [] := SH.nil
    have bks : Bks fs fs.length := ⟨rfl, h16, h240⟩
    by_cases e : (isFr v 0 && isFr w 1) = true
    · obtain ⟨a, b, rfl, rfl, h1⟩ := fr_nats e
      rw [hasV_nat] at k
      unfold hasB at k
      rw [decide_eq_true h1, Bool.true_and] at k
      repeat k_meth
      rw [e]
      repeat k_meth
      exact k _ F.sm
    · have e : (isFr v 0 && isFr w 1) = false := by simpa using e
      rw [hasV_no e] at k
      have o_v : OldT K H [] v n1 := ⟨ty, fun _ _ z => by cases z⟩
      have o_w : OldT K H [] w n2 := ⟨uy, fun _ _ z => by cases z⟩
      repeat k_meth
      rw [e]
      repeat k_meth
      exact k _ F.sm
theorem MT_Hhas_taken (T : Txt K mg c R CH) : Met P w K mg base CX0 4 CH "has_taken" ["self", "start", "size"] (sp_HtknV K CH) := by
  have D_stretch := D_stretch (P := P) (w := w) (base := base) T
  obtain ⟨f, hf, hm⟩ := T.f_Hhas_taken
  refine (fn_tells (k := 3) hf sc_Hhas_taken (fun vs H Q E h => ?_) (fun _ _ _ _ _ _ us hl => match us, hl with | [_, _, _], _ => rfl) (fun f cdv A outer s H vs Q E hr h => ?_)).met hm
  · obtain ⟨x, p, dx, fs, v, w, n1, n2, rfl, _⟩ := h
    rfl
  · obtain ⟨x, p, dx, fs, v, w, n1, n2, rfl, bk, ty, uy, k⟩ := h
    have nd := sc_Hhas_taken.nd
    refine ⟨_, (pss_cons (ps_if (PW.pt (pw_or (pt_not (pt_val (pe_def D_stretch hr (pa_cons (pe_tupA (pa_cons (pv 1) (pa_cons (pv 2) pa_nil))) pa_nil)))) (pw_or1 (pt_cmpR op_gt (pe_op op_add (pv 1) (pv 2)) (pe_fld (pv 0) rfl) (nomark _))))) (pss_one (ps_ret pe_bl)) pss_nil)
      (pss_one (ps_ret (pe_not (pe_callB (call_any rfl) rfl T.n_any boot_any (pa_cons (pe_slice sl_listA (pe_fld (pv 0) rfl) (po_some (pv 1)) (po_some (pe_op op_add (pv 1) (pv 2)))) pa_nil)))))), ?_⟩
    clear nd D_stretch
    rw [show start ["self", "start", "size"] [.ref x, v, w] = [some (.ref x), some (v), some (w)] from rfl]
    try dsimp only [cx_K, cx_K2]
    obtain ⟨hx, hp, h16, h240⟩ := id bk
    have iH_many : FldOk K CH "many" := ⟨T.clH, T.aH_many⟩
    have iH_free : FldOk K CH "free" := ⟨T.clH, T.aH_free⟩
    have o_hx := Old.mk (M := []) hx nm0
    have o_hp := Old.mk (M := []) hp nm0
    have F : SH H [] H [] [] := SH.nil
    have bks : Bks fs fs.length := ⟨rfl, h16, h240⟩
    by_cases e : (isFr v 0 && isFr w 1) = true
    · obtain ⟨a, b, rfl, rfl, h1⟩ := fr_nats e
      rw [tknV_nat] at k
      unfold tknB at k
      rw [decide_eq_true h1, Bool.true_and] at k
      by_cases h2 : a + b ≤ fs.length
      · rw [decide_eq_true h2, Bool.true_and] at k
        repeat k_meth
        rw [e]
        repeat k_meth
        rw [cut_bl] at F
        refine ⟨p_, _, rfl, SqA.e, ?_⟩
        repeat k_meth
        exact k _ F.sm
      · rw [decide_eq_false h2, Bool.false_and] at k
        repeat k_meth
        rw [e]
        repeat k_meth
        exact k _ F.sm
    · have e : (isFr v 0 && isFr w 1) = false := by simpa using e
      rw [tknV_no e] at k
      have o_v : OldT K H [] v n1 := ⟨ty, fun _ _ z => by cases z⟩
      have o_w : OldT K H [] w n2 := ⟨uy, fun _ _ z => by cases z⟩
      repeat k_meth
      rw [e]
      repeat k_meth
      exact k _ F.sm
theorem MT_Htake (T : Txt K mg c R CH) : Met P w K mg base (CX1 P w) 5 CH "take" ["self", "start", "size"] (sp_HtkV K CH (c 2)) := by
  have MT_Hhas := MT_Hhas (P := P) (w := w) (base := base) T
  obtain ⟨f, hf, hm⟩ := T.f_Htake
  refine (fn_tellsX (k := 4) hf sc_Htake (fun vs H Q E h => ?_) (fun _ _ _ _ _ _ us hl => match us, hl with | [_, _, _], _ => rfl) (fun f cdv A outer s H vs Q E hr h => ?_)).met hm
  · obtain ⟨x, p, dx, fs, v, w, n1, n2, rfl, _⟩ := h
    rfl
  · obtain ⟨x, p, dx, fs, v, w, n1, n2, rfl, bk, ty, uy, kk⟩ := h
    have nd := sc_Htake.nd
    refine ⟨_, (pss_cons (ps_if (pt_not (pt_val (pe_met (pv 0) T.clH MT_Hhas hr (pa_cons (pv 1) (pa_cons (pv 2) pa_nil))))) (pss_one (ps_raise T.k_NotFree (pe_ex2N T.e_NotFree (I_NotFree T.e_NotFree.S T.a_NotFree_start T.a_NotFree_size) hr (pa_cons (pv 1) (pa_cons (pv 2) pa_nil))))) pss_nil)
      (PSs.nox (pss_one (ps_for PassesOwn.never rfl (pi_range2 rfl T.n_range (pa_cons (pv 1) (pa_cons (pe_op op_add (pv 1) (pv 2)) pa_nil))) (pg_name (i := 3) nd rfl (Or.inl rfl)) (pss_one (ps_asg pe_bl (pg_sub (pe_fld (pv 0) rfl) (pv 3) set_listA))))))), ?_⟩
    clear nd MT_Hhas
    rw [show start ["self", "start", "size", "cell"] [.ref x, v, w] = [some (.ref x), some (v), some (w), none] from rfl]
    try dsimp only [cx_K, cx_K2, cx_s0]
    obtain ⟨hx, hp, h16, h240⟩ := id bk
    have iH_many : FldOk K CH "many" := ⟨T.clH, T.aH_many⟩
    have iH_free : FldOk K CH "free" := ⟨T.clH, T.aH_free⟩
    have nxp : x ≠ p := fun z => by rw [z, hp] at hx; cases hx
    have bks : Bks fs fs.length := ⟨rfl, h16, h240⟩
    rcases kk with ⟨a, b, rfl, rfl, hb, k⟩ | ⟨hb, k⟩
    · have F : SH H [p] H [(p, .lst (fs.map V.bl))] [] := SH.nil.addM List.mem_cons_self hp rfl (by simp)
      have o_hx := Old.mk (M := [p]) hx (nm1 nxp)
      have le := has_le hb
      repeat k_meth
      rw [hasV_nat, hb]
      repeat k_meth
      rw [show ((a : Int) + (b : Int) - (a : Int)).toNat = b by omega]
      refine forR_by (fun j σ' H' => ∃ o3 : Option V, σ' = [some (.ref x), some (.int a), some (.int b), o3] ∧ SH H [p] H' [(p, .lst ((putB fs a j false).map V.bl))] []) ⟨_, rfl, by rw [putB_zero]; exact F.sub SbC.s (by simp)⟩ ?_ ?_
      · clear F
        rintro j σ' H' hj ⟨_, rfl, F⟩
        have pl := putB_len (fs := fs) (a := a) (i := j) (b := false) (by omega)
        repeat k_meth
        rw [set_putN (by omega)] at F
        exact ⟨_, rfl, F⟩
      · clear F
        rintro σ' H' ⟨_, rfl, F⟩
        repeat k_meth
        exact k _ F.kpo hatC
    · have F : SH H [] H [] [] := SH.nil
      have o_hx := Old.mk (M := []) hx nm0
      have o_hp := Old.mk (M := []) hp nm0
      have o_v : OldT K H [] v n1 := ⟨ty, fun _ _ z => by cases z⟩
      have o_w : OldT K H [] w n2 := ⟨uy, fun _ _ z => by cases z⟩
      repeat k_meth
      rw [hb]
      repeat k_meth
      exact fun d H' s e => k d H' (F.sm.trans s) e
theorem MT_Hgive (T : Txt K mg c R CH) : Met P w K mg base (CX1 P w) 5 CH "give" ["self", "start", "size"] (sp_HgvV K CH (c 3)) := by
  have MT_Hhas_taken := MT_Hhas_taken (P := P) (w := w) (base := base) T
  obtain ⟨f, hf, hm⟩ := T.f_Hgive
  refine (fn_tellsX (k := 4) hf sc_Hgive (fun vs H Q E h => ?_) (fun _ _ _ _ _ _ us hl => match us, hl with | [_, _, _], _ => rfl) (fun f cdv A outer s H vs Q E hr h => ?_)).met hm
  · obtain ⟨x, p, dx, fs, v, w, n1, n2, rfl, _⟩ := h
    rfl
  · obtain ⟨x, p, dx, fs, v, w, n1, n2, rfl, bk, ty, uy, kk⟩ := h
    have nd := sc_Hgive.nd
    refine ⟨_, (pss_cons (ps_if (pt_not (pt_val (pe_met (pv 0) T.clH MT_Hhas_taken hr (pa_cons (pv 1) (pa_cons (pv 2) pa_nil))))) (pss_one (ps_raise T.k_NotTaken (pe_ex2N T.e_NotTaken (I_NotTaken T.e_NotTaken.S T.a_NotTaken_start T.a_NotTaken_size) hr (pa_cons (pv 1) (pa_cons (pv 2) pa_nil))))) pss_nil)
      (PSs.nox (pss_one (ps_for PassesOwn.never rfl (pi_range2 rfl T.n_range (pa_cons (pv 1) (pa_cons (pe_op op_add (pv 1) (pv 2)) pa_nil))) (pg_name (i := 3) nd rfl (Or.inl rfl)) (pss_one (ps_asg pe_bl (pg_sub (pe_fld (pv 0) rfl) (pv 3) set_listA))))))), ?_⟩
    clear nd MT_Hhas_taken
    rw [show start ["self", "start", "size", "cell"] [.ref x, v, w] = [some (.ref x), some (v), some (w), none] from rfl]
    try dsimp only [cx_K, cx_K2, cx_s0]
    obtain ⟨hx, hp, h16, h240⟩ := id bk
    have iH_many : FldOk K CH "many" := ⟨T.clH, T.aH_many⟩
    have iH_free : FldOk K CH "free" := ⟨T.clH, T.aH_free⟩
    have nxp : x ≠ p := fun z => by rw [z, hp] at hx; cases hx
    have bks : Bks fs fs.length := ⟨rfl, h16, h240⟩
    rcases kk with ⟨a, b, rfl, rfl, hb, k⟩ | ⟨hb, k⟩
    · have F : SH H [p] H [(p, .lst (fs.map V.bl))] [] := SH.nil.addM List.mem_cons_self hp rfl (by simp)
      have o_hx := Old.mk (M := [p]) hx (nm1 nxp)
      have le := tkn_le hb
      repeat k_meth
      rw [tknV_nat, hb]
      repeat k_meth
      rw [show ((a : Int) + (b : Int) - (a : Int)).toNat = b by omega]
      refine forR_by (fun j σ' H' => ∃ o3 : Option V, σ' = [some (.ref x), some (.int a), some (.int b), o3] ∧ SH H [p] H' [(p, .lst ((putB fs a j true).map V.bl))] []) ⟨_, rfl, by rw [putB_zero]; exact F.sub SbC.s (by simp)⟩ ?_ ?_
      · clear F
        rintro j σ' H' hj ⟨_, rfl, F⟩
        have pl := putB_len (fs := fs) (a := a) (i := j) (b := true) (by omega)
        repeat k_meth
        rw [set_putN (by omega)] at F
        exact ⟨_, rfl, F⟩
      · clear F
        rintro σ' H' ⟨_, rfl, F⟩
        repeat k_meth
        exact k _ F.kpo hatC
    · have F : SH H [] H [] [] := SH.nil
      have o_hx := Old.mk (M := []) hx nm0
      have o_hp := Old.mk (M := []) hp nm0
      have o_v : OldT K H [] v n1 := ⟨ty, fun _ _ z => by cases z⟩
      have o_w : OldT K H [] w n2 := ⟨uy, fun _ _ z => by cases z⟩
      repeat k_meth
      rw [hb]
      repeat k_meth
      exact fun d H' s e => k d H' (F.sm.trans s) e
theorem MT_Hhole_at (T : Txt K mg c R CH) : Met P w K mg base (CX1 P w) 3 CH "hole_at" ["self", "cell"] (sp_Hat K CH (c 1)) := by
  have MT_Htold := MT_Htold (P := P) (w := w) (base := base) T
  have D_is_within := D_is_within (P := P) (w := w) (base := base) T
  have D_end_of := D_end_of (P := P) (w := w) (base := base) T
  obtain ⟨f, hf, hm⟩ := T.f_Hhole_at
  refine (fn_tellsX (k := 2) hf sc_Hhole_at (fun vs H Q E h => ?_) (fun _ _ _ _ _ _ us hl => match us, hl with | [_, _], _ => rfl) (fun f cdv A outer s H vs Q E hr h => ?_)).met hm
  · obtain ⟨x, p, dx, fs, v, n1, rfl, _⟩ := h
    rfl
  · obtain ⟨x, p, dx, fs, v, n1, rfl, bk, ty, hb, k⟩ := h
    have nd := sc_Hhole_at.nd
    refine ⟨_, (pss_cons (ps_if (pt_not (pt_val (pe_def D_is_within hr (pa_cons (pv 1) (pa_cons pe_int (pa_cons (pe_op op_sub (pe_fld (pv 0) rfl) pe_int) pa_nil)))))) (pss_one (ps_raise T.k_NoPlace (pe_ex1N T.e_NoPlace (I_NoPlace T.e_NoPlace.S T.a_NoPlace_at) hr (pa_cons (pv 1) pa_nil)))) pss_nil)
      (PSs.nox (pss_cons (ps_for PassesOwn.never rfl (pi_list (pe_met0 (pv 0) T.clH MT_Htold hr)) (pg_name (i := 2) nd rfl (Or.inl rfl)) (pss_one (ps_if (pt_chain op_le op_lt (pe_ix ix_tup (pv 2) pe_int (fun _ _ => rfl)) (pv 1) (pe_def D_end_of hr (pa_cons (pv 2) pa_nil))) (pss_one (ps_ret (pv 2))) pss_nil)))
      (pss_one (ps_ret pe_non))))), ?_⟩
    clear nd MT_Htold D_is_within D_end_of
    rw [show start ["self", "cell", "hole"] [.ref x, v] = [some (.ref x), some (v), none] from rfl]
    try dsimp only [cx_K, cx_K2, cx_s0]
    obtain ⟨hx, hp, h16, h240⟩ := id bk
    have iH_many : FldOk K CH "many" := ⟨T.clH, T.aH_many⟩
    have iH_free : FldOk K CH "free" := ⟨T.clH, T.aH_free⟩
    have o_hx := Old.mk (M := []) hx nm0
    have o_hp := Old.mk (M := []) hp nm0
    have F : SH H [] H [] [] := SH.nil
    have bks : Bks fs fs.length := ⟨rfl, h16, h240⟩
    have o_v : OldT K H [] v n1 := ⟨ty, fun _ _ z => by cases z⟩
    repeat k_meth
    rw [hb]
    repeat k_meth
    exact fun d H' s e => k d H' (F.sm.trans s) e
theorem MK_Hinit (T : Txt K mg c R CH) : Mak P w K mg base (CX1 P w) 4 "Holes" CH ["self", "many"] (sp_HinitV K CH (c 0)) := by
  have D_is_many := D_is_many (P := P) (w := w) (base := base) T
  obtain ⟨f, hf, hm⟩ := T.f_Hinit
  refine (fn_tellsX (k := 3) hf sc_Hinit (fun vs H Q E h => ?_) (fun _ _ _ _ _ _ us hl => match us, hl with | [_, _], _ => rfl) (fun f cdv A outer s H vs Q E hr h => ?_)).mak hm T.gc_Holes
  · obtain ⟨x, dx, v, n1, rfl, _⟩ := h
    rfl
  · obtain ⟨x, dx, v, n1, rfl, hx, ty, kk⟩ := h
    have nd := sc_Hinit.nd
    refine ⟨_, (pss_cons (ps_if (pt_not (pt_val (pe_def D_is_many hr (pa_cons (pv 1) pa_nil)))) (pss_one (ps_raise T.k_NoMany (pe_ex1N T.e_NoMany (I_NoMany T.e_NoMany.S T.a_NoMany_many) hr (pa_cons (pv 1) pa_nil)))) pss_nil)
      (PSs.nox (pss_cons (ps_fld (pv 0) (pv 1) rfl)
      (pss_one (ps_fld (pv 0) (pe_op op_repA (pe_lstA (pa_cons pe_bl pa_nil)) (pv 1)) rfl))))), ?_⟩
    clear nd D_is_many
    rw [show start ["self", "many"] [.ref x, v] = [some (.ref x), some (v)] from rfl]
    try dsimp only [cx_K, cx_K2, cx_s0]
    have iH_many : FldOk K CH "many" := ⟨T.clH, T.aH_many⟩
    have iH_free : FldOk K CH "free" := ⟨T.clH, T.aH_free⟩
    rcases kk with ⟨n, rfl, h16, h240, k⟩ | ⟨hb, k⟩
    · have F : SH H [x] H [(x, .ins CH dx [])] [] := SH.nil.addM List.mem_cons_self hx rfl (by simp)
      repeat k_meth
      rw [decide_eq_true (show (16 : Int) ≤ (n : Int) by omega), decide_eq_true (show (n : Int) ≤ 240 by omega), show (true && true) = true from rfl]
      repeat k_meth
      have hh : H_ x = some (.ins CH dx _) := hatC
      exact k p_ _ F.kpo hh hatC (F.fresh (LkL.m (o := .lst _)) (nm1 (SH.neC (F := F))))
    · have F : SH H [] H [] [] := SH.nil
      have o_hx := Old.mk (M := []) hx nm0
      have o_v : OldT K H [] v n1 := ⟨ty, fun _ _ z => by cases z⟩
      repeat k_meth
      rw [hb]
      repeat k_meth
      exact fun d H' s e => k d H' (F.sm.trans s) e
end
end K23
set_option Elab.async false
set_option linter.all false
set_option maxRecDepth 100000
set_option maxHeartbeats 4000000
namespace K23
open PySem L2 PyProof.Rows
local macro_rules | `(tactic| k_tabat) => `(tactic| first
  | with_reducible assumption
  | (with_reducible exact New.e (by with_reducible assumption))
  | (with_reducible refine New.at (by with_reducible assumption) ?_; k_tabat)
  | (with_reducible refine Off.at (by with_reducible assumption) (by k_ne) ?_; k_tabat)
  | (with_reducible refine Kp.at (by with_reducible assumption) (by k_ne) ?_; k_tabat)
  | (with_reducible refine Same.at (by with_reducible assumption) ?_; k_tabat))
local macro_rules | `(tactic| k_ne) => `(tactic| first
  | with_reducible assumption
  | (with_reducible exact Ne.symm (by with_reducible assumption))
  | (with_reducible exact New.neA (by with_reducible assumption) (by k_in))
  | (with_reducible exact New.neB (by with_reducible assumption) (by k_in)))
local macro_rules | `(tactic| k_in) => `(tactic| first
  | (with_reducible exact Hs.of (by with_reducible assumption))
  | (with_reducible exact New.hs (by with_reducible assumption))
  | (with_reducible refine New.hsAt (by with_reducible assumption) ?_; k_in)
  | (with_reducible refine Off.hsAt (by with_reducible assumption) (by k_ne) ?_; k_in)
  | (with_reducible refine Kp.hsAt (by with_reducible assumption) (by k_ne) ?_; k_in)
  | (with_reducible refine Same.hsAt (by with_reducible assumption) ?_; k_in))
local macro_rules | `(tactic| k_flat) => `(tactic| first
  | with_reducible assumption
  | (with_reducible exact SqL.of (by k_tabat))
  | (with_reducible exact SqT.of (by k_tabat))
  | (with_reducible refine Same.seq (by with_reducible assumption) ?_; k_flat)
  | (with_reducible refine Same.seq (New.s (by with_reducible assumption)) ?_; k_flat)
  | (with_reducible refine Off.seq (by with_reducible assumption) (by k_ne) ?_; k_flat))
local macro_rules | `(tactic| k_keys) => `(tactic| first
  | with_reducible assumption
  | (with_reducible exact atI_0)
  | (with_reducible exact atL1)
  | (with_reducible exact atL2)
  | (with_reducible exact atL3)
  | with_unfolding_all rfl)
local macro_rules | `(tactic| k_room) => `(tactic| first
  | with_reducible assumption
  | decide
  | omega
  | (simp only [List.length_cons, List.length_nil, List.length_map, List.length_append, List.length_replicate]; omega))
local macro_rules | `(tactic| k_inst) => `(tactic| first
  | (with_reducible refine small_line ?_; first | omega | (simp only [List.length_cons, List.length_nil, List.length_map, List.length_append, List.length_replicate, rowsN_len]; omega))
  | (with_reducible refine small_lt ?_; first | omega | (simp only [List.length_cons, List.length_nil, List.length_map, List.length_append, List.length_replicate, rowsN_len]; omega))
  | with_unfolding_all exact Nat.le_of_ble_eq_true rfl
  | omega)
local macro_rules | `(tactic| k_upd) => `(tactic| first
  | with_reducible assumption
  | (intro b u e; k_tabat))
local macro_rules | `(tactic| k_updF) => `(tactic| first
  | with_reducible assumption
  | (intro b u nb e; k_tabat))
local macro_rules | `(tactic| k_all) => `(tactic| first
  | with_reducible assumption
  | (refine ⟨?_, ?_, ?_⟩; (focus (intro b u e; k_tabat)); (focus k_tabat); (focus (intro b u e; k_ne))))
local macro_rules | `(tactic| k_mem) => `(tactic| with_reducible (first
  | refine go_seq ?_ | refine go_asg ?_ | refine go_ret ?_ | refine go_if ?_ | refine go_drop ?_ | refine go_next ?_ | refine go_nx ?_ | refine w_rt ?_
  | refine go_test ?_ | refine go_b ?_ | refine go_op ?_ | refine go_cb ?_ | refine go_cons ?_ | refine go_nil ?_ | refine w_call ?_ | refine w_c ?_
  | refine wv0 ?_ | refine wv1 ?_ | refine wv2 ?_ | refine wv3 ?_ | refine wv4 ?_ | refine wv5 ?_ | refine wv6 ?_ | refine wv7 ?_ | refine wv8 ?_ | refine wv9 ?_ | refine wv10 ?_ | refine wv11 ?_ | refine wv12 ?_ | refine wv13 ?_
  | refine wn0 ?_ | refine wn1 ?_ | refine wn2 ?_ | refine wn3 ?_ | refine wn4 ?_ | refine wn5 ?_ | refine wn6 ?_ | refine wn7 ?_ | refine wn8 ?_ | refine wn9 ?_ | refine wn10 ?_ | refine wn11 ?_ | refine wn12 ?_ | refine wn13 ?_
  | refine w_i0 ?_ | refine w_u ?_ | refine w_un ?_ | refine w_eqi ?_ | refine w_nei ?_ | refine w_eqs ?_ | refine w_nes ?_ | refine w_eqb ?_ | refine w_neb ?_ | refine w_bl ?_ | refine w_not ?_ | refine w_and ?_ | refine w_or ?_ | refine w_notV ?_ | refine w_andV ?_ | refine w_orV ?_
  | refine w_ifE ?_ | refine w_chain ?_ | refine w_bm ?_ | refine w_bm0 ?_ | refine w_sub ?_ | refine w_slice ?_ | refine w_noPart ?_ | refine w_part ?_ | refine w_int ?_ | refine w_max ?_ | refine w_min ?_ | refine w_intB ?_ | refine w_intI ?_
  | refine w_mod (by decide) ?_ | refine w_div (by decide) (by decide) ?_ | refine w_pow (by decide) (by decide) (by decide) ?_ | refine w_mulL (by decide) (by decide) ?_ | refine w_mulR (by decide) (by decide) ?_ | refine go_tupA ?_ | refine go_lstA ?_ | refine w_notT ?_ | refine w_isB ?_ | refine w_isNB ?_ | refine w_revSl ?_ | refine w_din ?_ | refine w_dput ?_ | refine go_fs ?_ | refine go_fmt ?_ | refine go_fld ?_ | refine go_methB ?_ | refine go_makeB ?_ | refine go_sfldB ?_))
set_option hygiene false in
local macro_rules | `(tactic| k_meth) => `(tactic| first
  | k_mem
  | with_reducible (refine w_isTT (by k_tabat) ?_)
  | with_reducible (refine w_isLL (by k_tabat) ?_)
  | with_reducible (refine w_isTL (by k_tabat) ?_)
  | with_reducible (refine w_isLT (by k_tabat) ?_)
  | with_reducible refine w_isII ?_
  | with_reducible refine w_isIB ?_
  | with_reducible refine w_isBB ?_
  | with_reducible refine w_isBI ?_
  | with_reducible (refine w_ixL (by k_flat) (by k_keys) ?_)
  | with_reducible (refine w_ixT (by k_flat) (by k_keys) ?_)
  | with_reducible (refine w_lenL (by k_flat) ?_)
  | with_reducible (refine w_lenT (by k_flat) ?_)
  | with_reducible (refine made_ok (by k_inst) ?_; intro _ _ _)
  | with_reducible (refine w_tyL (by k_flat) ?_)
  | with_reducible (refine w_app (by k_tabat) (by k_inst) ?_; intro _ _ _)
  | with_reducible (refine w_clr (by k_tabat) ?_; intro _ _ _)
  | with_reducible (refine w_slA (by k_flat) ?_; intro _ _ _)
  | with_reducible (refine w_catA (by k_tabat) (by k_tabat) (by k_inst) ?_; intro _ _ _)
  | with_reducible (refine w_lofL (by k_flat) ?_; intro _ _ _)
  | with_reducible (refine w_rep1 (by k_tabat) (by omega) ?_; intro _ _ _)
  | with_reducible (refine i_pos (by k_room) ?_)
  | with_reducible (refine i_neg (by k_room) ?_)
  | with_reducible (refine i_npos (by k_room) ?_)
  | with_reducible (refine i_nneg (by k_room) ?_)
  | with_reducible (refine i_tt ?_)
  | with_reducible (refine i_ff ?_)
  | with_reducible (refine i_ntt ?_)
  | with_reducible (refine i_nff ?_)
  | with_reducible (refine w_tupB (by with_unfolding_all rfl) (by k_flat) ?_)
  | with_reducible (refine go_aug rfl ?_)
  | with_reducible refine w_not2 ?_
  | with_reducible refine go_ck ?_
  | with_reducible refine go_slc ?_
  | with_reducible (refine w_mod (by omega) ?_)
  | with_reducible (refine w_rng2 ?_)
  | with_reducible refine w_forE ?_
  | with_reducible refine w_forR1 ?_
  | with_reducible refine w_forR2 ?_
  | with_reducible refine w_forL ?_
  | with_reducible refine w_compL ?_
  | with_reducible (refine w_fld (by k_tabat) T.clH T.aH_free hF_free ?_)
  | with_reducible (refine w_fld (by k_tabat) T.clH T.aH_many hF_many ?_)
  | with_reducible (refine w_meth (by k_tabat) (hF_none (by decide) (by decide)) ?_)
  | with_reducible (refine u_end (by k_tabat) ?_)
  | with_reducible (refine u_fromI ?_)
  | with_reducible (refine u_takeA (by k_tabat) (by k_room) (by k_room) ?_; intro _ _ _ _ _ _ _ _ _)
  | with_reducible (refine u_stretchI (by k_tabat) ?_))
open M22
def sp_lholes : Sp := fun vs H Q _ => ∃ (p : Addr) (fs : List Bool), vs = [.ref p] ∧ H p = some (.lst (fs.map V.bl)) ∧ fs.length ≤ 240 ∧ ∀ (q : Addr) (ys : List V) (H' : Hp), New H H' q (.lst ys) → TupsAt H' ys (rowsN (holesF fs)) → Q (.ref q) H'
theorem u_lholes {H : Hp} {Q : VK} {E : XK} {p : Addr} {fs : List Bool} (hp : H p = some (.lst (fs.map V.bl))) (hz : fs.length ≤ 240) (k : ∀ (q : Addr) (ys : List V) (H' : Hp), New H H' q (.lst ys) → TupsAt H' ys (rowsN (holesF fs)) → Q (.ref q) H') : sp_lholes [.ref p] H Q E := ⟨p, fs, rfl, hp, hz, k⟩
theorem atB {fs : List Bool} {i : Nat} {b : Bool} (h : fs[i]? = some b) : atI (fs.map V.bl) (i : Int) = some (.bl b) := atI_nat (by rw [List.getElem?_map, h]; rfl)
theorem atB1 {fs : List Bool} {i : Nat} {b : Bool} (h0 : i ≠ 0) (h : fs[i - 1]? = some b) : atI (fs.map V.bl) ((i : Int) - 1) = some (.bl b) := by
  rw [show (i : Int) - 1 = ((i - 1 : Nat) : Int) by omega]
  exact atB h
section
variable {P : Program} {w : World} {K : PySem.W.Frag} {mg : Str → Option Value} {base : Heap} {c : Nat → Addr} {R CH : Addr}
theorem D_lholes (T : Txt K mg c R CH) : Def P w K mg base CX0 1 "_law_holes" ["_law_free"] sp_lholes := by
  refine def_of T.d_lholes sc_lholes (fun vs H Q E h => ?_) (fun _ _ _ _ _ _ us hl => match us, hl with | [_], _ => rfl) (fun f cdv A outer s H vs Q E hr h => ?_)
  · obtain ⟨p, fs, rfl, _⟩ := h
    rfl
  · obtain ⟨p, fs, rfl, hp, hz, k⟩ := h
    have nd := sc_lholes.nd
    refine ⟨_, (pss_cons (ps_set (i := 1) nd rfl (Or.inl rfl) (pe_lstA pa_nil))
      (pss_cons (ps_for PassesOwn.never rfl (pi_range1 rfl T.n_range (pa_cons (pe_callB call_lenN rfl T.n_len boot_len (pa_cons (pv 0) pa_nil)) pa_nil)) (pg_name (i := 2) nd rfl (Or.inl rfl)) (pss_one (ps_if (PW.pt (pw_and (pt_val (pe_ix ix_list (pv 0) (pv 2) (fun _ _ => rfl))) (pw_and1 (PW.pt (pw_or (pt_cmpR op_eq (pv 2) pe_int (nomark _)) (pw_or1 (pt_not (pt_val (pe_ix ix_list (pv 0) (pe_op op_sub (pv 2) pe_int) (fun _ _ => rfl)))))))))) (pss_one (ps_expr (pe_appendA (pv 1) (pe_tupA (pa_cons (pv 2) (pa_cons pe_int pa_nil)))))) (pss_one (ps_if (pt_val (pe_ix ix_list (pv 0) (pv 2) (fun _ _ => rfl))) (pss_one (ps_asg (pe_tupA (pa_cons (pe_ix ix_tup (pe_ix ix_list (pv 1) (pe_un un_neg pe_int) (fun _ _ => rfl)) pe_int (fun _ _ => rfl)) (pa_cons (pe_op op_add (pe_ix ix_tup (pe_ix ix_list (pv 1) (pe_un un_neg pe_int) (fun _ _ => rfl)) pe_int (fun _ _ => rfl)) pe_int) pa_nil))) (pg_sub (pv 1) (pe_un un_neg pe_int) set_listA))) pss_nil)))))
      (pss_one (ps_ret (pv 1))))), ?_⟩
    clear nd 
    rw [show start ["_law_free", "_law_found", "_law_cell"] [.ref p] = [some (.ref p), none, none] from rfl]
    try dsimp only [cx_K, cx_K2]
    repeat k_meth
    rename_i q H1 n1
    refine r1_by (m := fs.length) (by rw [List.length_map]; omega) (by omega) (by rw [List.length_map]; omega) (forR0_by (fun i σ' H' => ∃ (o2 : Option V) (ys : List V), σ' = [some (.ref p), some (.ref q), o2] ∧ Same H H' ∧ H' q = some (.lst ys) ∧ TupsAt H' ys (rowsN (holesF (fs.take i))) ∧ ys.length ≤ i) ⟨none, [], rfl, n1.s, n1.e, TupsAt.nil, Nat.le_refl _⟩ ?_ ?_)
    · rintro i σ' HA hi ⟨_, ys, rfl, sm, hq, tp, hy⟩
      obtain ⟨bv, hb⟩ : ∃ bv, fs[i]? = some bv := ⟨fs[i], by simp⟩
      have ha := atB hb
      have tk := take_snocB hb
      have hpA : HA p = some (.lst (fs.map V.bl)) := sm _ _ hp
      have tl : (fs.take i).length = i := by rw [List.length_take]; omega
      repeat k_meth
      cases bv with
      | false =>
        repeat k_meth
        refine ⟨_, ys, rfl, sm, hq, ?_, by omega⟩
        rw [tk, hole_false]
        exact tp
      | true =>
        repeat k_meth
        by_cases h0 : i = 0
        · repeat k_meth
          rename_i t HB nB HC fC eC
          have hqB : HB q = some (.lst ys) := by k_tabat
          refine ⟨_, ys ++ [.ref t], rfl, by k_upd, eC, ?_, by rw [List.length_append, List.length_singleton]; omega⟩
          have e9 : holesF (fs.take i ++ [true]) = holesF (fs.take i) ++ [(i, 1)] := by
            rw [hole_first (.inl (by rw [h0]; rfl)), tl]
          rw [tk, e9]
          have := ((tp.same nB.s).snoc nB.e).off fC hqB
          unfold rowsN at this ⊢
          rw [List.map_append]
          exact this
        · obtain ⟨b1, hb1⟩ : ∃ b1, fs[i - 1]? = some b1 := ⟨fs[i - 1], by simp⟩
          have ha1 := atB1 h0 hb1
          have hl1 : (fs.take i)[(fs.take i).length - 1]? = some b1 := by rw [tl, List.getElem?_take, if_pos (by omega)]; exact hb1
          repeat k_meth
          cases b1 with
          | false =>
            repeat k_meth
            rename_i t HB nB HC fC eC
            have hqB : HB q = some (.lst ys) := by k_tabat
            refine ⟨_, ys ++ [.ref t], rfl, by k_upd, eC, ?_, by rw [List.length_append, List.length_singleton]; omega⟩
            have e9 : holesF (fs.take i ++ [true]) = holesF (fs.take i) ++ [(i, 1)] := by
              rw [hole_first (.inr hl1), tl]
            rw [tk, e9]
            have := ((tp.same nB.s).snoc nB.e).off fC hqB
            unfold rowsN at this ⊢
            rw [List.map_append]
            exact this
          | true =>
            obtain ⟨hs, s0, z0, e1, e2⟩ := hole_next (fs := fs.take i) (fun e => by rw [e] at tl; simp at tl; omega) hl1
            have e4 : rowsN (hs ++ [(s0, z0)]) = rowsN hs ++ [[V.int (s0 : Nat), V.int (z0 : Nat)]] := by unfold rowsN; rw [List.map_append]; rfl
            rw [e1, e4] at tp
            obtain ⟨zs, q0, rfl, tz, hq0⟩ := tp.last
            have hneg := at_neg (xs := zs) (v := .ref q0)
            repeat k_meth
            rename_i t HB nB
            have hqB : HB q = some (.lst (zs ++ [.ref q0])) := by k_tabat
            refine w_setA hqB ix_neg fun HC fC eC => ?_
            rw [set_neg] at eC
            repeat k_meth
            refine ⟨_, zs ++ [.ref t], rfl, by k_upd, eC, ?_, by rw [List.length_append, List.length_singleton] at hy ⊢; omega⟩
            rw [tk, e2]
            have := ((tz.same nB.s).snoc nB.e).off fC hqB
            unfold rowsN at this ⊢
            rw [List.map_append]
            exact this
    · rintro σ' HA ⟨_, ys, rfl, sm, hq, tp, hy⟩
      repeat k_meth
      rw [List.take_length] at tp
      exact k q ys HA ⟨sm, hq, n1.n⟩ tp
theorem D_lwhole (T : Txt K mg c R CH) : Def P w K mg base CX0 1 "_law_is_whole" ["_law_thing"] (sp_whole K) := by
  refine def_of T.d_lwhole sc_lwhole (fun vs H Q E h => ?_) (fun _ _ _ _ _ _ us hl => match us, hl with | [_], _ => rfl) (fun f cdv A outer s H vs Q E hr h => ?_)
  · obtain ⟨x, n, rfl, _⟩ := h
    rfl
  · obtain ⟨x, n, rfl, ty, k⟩ := h
    have nd := sc_lwhole.nd
    refine ⟨_, (pss_one (ps_ret (pe_and (pe_callB call_isT rfl T.n_isinstance boot_isinstance (pa_cons (pv 0) (pa_cons (pe_ty (T := "int") rfl T.n_int boot_int) pa_nil))) (pe_one (pe_not (pe_callB call_isT rfl T.n_isinstance boot_isinstance (pa_cons (pv 0) (pa_cons (pe_ty (T := "bool") rfl T.n_bool boot_bool) pa_nil)))))))), ?_⟩
    clear nd 
    rw [show start ["_law_thing"] [x] = [some (x)] from rfl]
    try dsimp only [cx_K, cx_K2]
    rw [isW_eq] at k
    repeat k_mem
    refine w_is ty (bt_int ty) ?_
    repeat k_mem
    refine i_b (fun h => ?_) (fun h => ?_)
    · repeat k_mem
      refine w_is ty (bt_bool ty) ?_
      repeat k_mem
      rw [h] at k
      exact k
    · rw [h] at k
      exact k
end
end K23
set_option Elab.async false
set_option linter.all false
set_option maxRecDepth 100000
set_option maxHeartbeats 4000000
namespace K23
open PySem L2 PyProof.Rows
local macro_rules | `(tactic| k_room) => `(tactic| first
  | with_reducible assumption
  | with_unfolding_all exact rfl
  | with_unfolding_all exact Nat.le_of_ble_eq_true rfl
  | omega
  | (with_reducible refine small_line ?_; first | omega | (simp only [List.length_cons, List.length_nil, List.length_map, List.length_append, List.length_replicate, rowsN_len, List.length_take, List.length_drop, List.length_set]; omega))
  | (with_reducible refine small_lt ?_; first | omega | (simp only [List.length_cons, List.length_nil, List.length_map, List.length_append, List.length_replicate, rowsN_len, List.length_take, List.length_drop, List.length_set]; omega))
  | (simp only [List.length_cons, List.length_nil, List.length_map, List.length_append, List.length_replicate, rowsN_len, List.length_take, List.length_drop, List.length_set]; omega)
  | decide)
local macro_rules | `(tactic| k_mem) => `(tactic| first
  | with_reducible assumption
  | decide
  | omega
  | (simp only [List.length_cons, List.length_nil, List.length_map, List.length_append, List.length_replicate, rowsN_len, List.length_take, List.length_drop, List.length_set]; omega))
set_option hygiene false in
local macro_rules | `(tactic| k_meth) => `(tactic| first
  | with_reducible refine go1 ?_
  | (intro H_ a_ dx_ (F_ : SH _ _ _ _ _) (ex_ : ExcT _ _ _ _); clear F; (have F := F_); clear F_; have exA_ := ExA.mk ex_)
  | (intro H_ (F_ : SH _ _ _ _ _); clear F; (have F := F_); clear F_)
  | (intro H_ p_ (F_ : SH _ _ _ _ _); clear F; (have F := F_); clear F_)
  | (intro H_ x_ dx_ (F_ : SH _ _ _ _ _); clear F; (have F := F_); clear F_)
  | (intro H_ p_ ys_ l_ (F_ : SH _ _ _ _ _); clear F; (have F := F_); clear F_)
  | with_reducible refine sd (by k_room) ?_
  | (intro (r_ : Int) (x_ : Int) (y_ : Int) (z_ : Int) lo_ hi_)
  | (intro (x_ : Int) (y_ : Int))
  | (intro (c_ : Int))
  | with_reducible refine i_pos (by k_mem) ?_
  | with_reducible refine i_neg (by k_mem) ?_
  | with_reducible refine i_npos (by k_mem) ?_
  | with_reducible refine i_nneg (by k_mem) ?_)
open M22
def insV (n : Int) (v w : V) : Bool := match v, w with
  | .int a, .int b => decide (0 ≤ a) && (decide (0 < b) && decide (a + b ≤ n))
  | _, _ => false
theorem isW_int {v : V} (h : isW v = true) : ∃ i, v = .int i := by
  cases v with
  | int i => exact ⟨i, rfl⟩
  | _ => simp [isW] at h
theorem insV_no1 {n : Int} {v w : V} (h : isW v = false) : insV n v w = false := by
  cases v with
  | int i => simp [isW] at h
  | _ => cases w <;> rfl
theorem insV_no2 {n : Int} {v w : V} (h : isW w = false) : insV n v w = false := by
  cases v with
  | int i =>
    cases w with
    | int j => simp [isW] at h
    | _ => rfl
  | _ => cases w <;> rfl
def sp_inside (K : PySem.W.Frag) : Sp := fun vs H Q _ => ∃ (n : Int) (v w : V) (n1 n2 : String), vs = [.int n, v, w] ∧ TyOf K H v (.type n1) ∧ TyOf K H w (.type n2) ∧ Q (.bl (insV n v w)) H
def sp_asked (K : PySem.W.Frag) (CH : Addr) : Sp := fun vs H Q _ => ∃ (x p dx : Addr) (fs : List Bool) (wy : Int) (v w : V) (n1 n2 : String), vs = [.ref x, .int wy, v, w] ∧ Bk CH H x p dx fs ∧ TyOf K H v (.type n1) ∧ TyOf K H w (.type n2) ∧
  ((wy = 0 ∧ ((∃ a b : Nat, v = .int (a : Nat) ∧ w = .int (b : Nat) ∧ hasB fs a b = true ∧ ∀ q H', Kp p H H' → H' p = some (.lst ((putB fs a b false).map V.bl)) → H' q = some (.tup [.str "done"]) → Q (.ref q) H') ∨ (hasV fs v w = false ∧ ∀ q H', Same H H' → H' q = some (.tup [.str "not free", v, w]) → Q (.ref q) H'))) ∨
   (wy = 1 ∧ ((∃ a b : Nat, v = .int (a : Nat) ∧ w = .int (b : Nat) ∧ tknB fs a b = true ∧ ∀ q H', Kp p H H' → H' p = some (.lst ((putB fs a b true).map V.bl)) → H' q = some (.tup [.str "done"]) → Q (.ref q) H') ∨ (tknV fs v w = false ∧ ∀ q H', Same H H' → H' q = some (.tup [.str "not taken", v, w]) → Q (.ref q) H'))))
class HasT (fs : List Bool) (a b : Nat) : Prop where
  e : hasB fs a b = true
class HasF (fs : List Bool) (v w : V) : Prop where
  e : hasV fs v w = false
class TknT (fs : List Bool) (a b : Nat) : Prop where
  e : tknB fs a b = true
class TknF (fs : List Bool) (v w : V) : Prop where
  e : tknV fs v w = false
section
variable {CH CF x p dx q : Addr} {fs : List Bool} {n : Int} {H : Hp} {Q : VK} {E : XK} {a b : Nat} {K : PySem.W.Frag} {v w : V} {n1 n2 : String}
instance go_HtkT [h : BkA CH H x p dx fs] [c : HasT fs a b] : Go (sp_HtkV K CH CF [.ref x, .int (a : Nat), .int (b : Nat)] H Q E) (∀ H', Kp p H H' → H' p = some (.lst ((putB fs a b false).map V.bl)) → Q .non H') := ⟨fun k => ⟨x, p, dx, fs, _, _, _, _, rfl, h.e, .int _, .int _, .inl ⟨a, b, rfl, rfl, c.e, k⟩⟩⟩
instance go_HtkF [h : BkA CH H x p dx fs] [c : HasF fs v w] [t : TyA K H v n1] [u : TyA K H w n2] : Go (sp_HtkV K CH CF [.ref x, v, w] H Q E) (∀ d H', Same H H' → H' d = some (dctO d [("start", v), ("size", w)]) → E (.ref CF) (some d) H') := ⟨fun k => ⟨x, p, dx, fs, v, w, n1, n2, rfl, h.e, t.e, u.e, .inr ⟨c.e, k⟩⟩⟩
instance go_HgvT [h : BkA CH H x p dx fs] [c : TknT fs a b] : Go (sp_HgvV K CH CF [.ref x, .int (a : Nat), .int (b : Nat)] H Q E) (∀ H', Kp p H H' → H' p = some (.lst ((putB fs a b true).map V.bl)) → Q .non H') := ⟨fun k => ⟨x, p, dx, fs, _, _, _, _, rfl, h.e, .int _, .int _, .inl ⟨a, b, rfl, rfl, c.e, k⟩⟩⟩
instance go_HgvF [h : BkA CH H x p dx fs] [c : TknF fs v w] [t : TyA K H v n1] [u : TyA K H w n2] : Go (sp_HgvV K CH CF [.ref x, v, w] H Q E) (∀ d H', Same H H' → H' d = some (dctO d [("start", v), ("size", w)]) → E (.ref CF) (some d) H') := ⟨fun k => ⟨x, p, dx, fs, v, w, n1, n2, rfl, h.e, t.e, u.e, .inr ⟨c.e, k⟩⟩⟩
instance go_lholes {pf : Addr} [h : Hat H pf (.lst (fs.map V.bl))] : Go (sp_lholes [.ref pf] H Q E) (Sd (fs.length ≤ 240) (∀ (q : Addr) (ys : List V) (H' : Hp), New H H' q (.lst ys) → TupsAt H' ys (rowsN (holesF fs)) → Q (.ref q) H')) := ⟨fun k => u_lholes h.e k.1 k.2⟩
instance go_inside [t : TyA K H v n1] [u : TyA K H w n2] : Go (sp_inside K [.int n, v, w] H Q E) (Q (.bl (insV n v w)) H) := ⟨fun k => ⟨n, v, w, n1, n2, rfl, t.e, u.e, k⟩⟩
end
instance nes_size : NeS "size" "start" := ⟨by decide⟩
section
variable {P : Program} {w : World} {K : PySem.W.Frag} {mg : Str → Option Value} {base : Heap} {c : Nat → Addr} {R CH : Addr}
theorem D_inside (T : Txt K mg c R CH) : Def P w K mg base CX0 2 "_law_inside" ["_law_many", "_law_start", "_law_size"] (sp_inside K) := by
  have D_lwhole := D_lwhole (P := P) (w := w) (base := base) T
  refine def_of T.d_inside sc_inside (fun vs H Q E h => ?_) (fun _ _ _ _ _ _ us hl => match us, hl with | [_, _, _], _ => rfl) (fun f cdv A outer s H vs Q E hr h => ?_)
  · obtain ⟨n, v, w, n1, n2, rfl, _⟩ := h
    rfl
  · obtain ⟨n, v, w, n1, n2, rfl, ty, uy, k⟩ := h
    have nd := sc_inside.nd
    refine ⟨_, (pss_cons (ps_if (PW.pt (pw_or (pt_not (pt_val (pe_def D_lwhole hr (pa_cons (pv 1) pa_nil)))) (pw_or1 (pt_not (pt_val (pe_def D_lwhole hr (pa_cons (pv 2) pa_nil))))))) (pss_one (ps_ret pe_bl)) pss_nil)
      (pss_one (ps_ret (pe_and (pe_cmpR op_ge (pv 1) pe_int (nomark _)) (pe_and (pe_cmpR op_gt (pv 2) pe_int (nomark _)) (pe_one (pe_cmpR op_le (pe_op op_add (pv 1) (pv 2)) (pv 0) (nomark _)))))))), ?_⟩
    clear nd D_lwhole
    rw [show start ["_law_many", "_law_start", "_law_size"] [.int n, v, w] = [some (.int n), some (v), some (w)] from rfl]
    try dsimp only [cx_K, cx_K2]
    have iH_many : FldOk K CH "many" := ⟨T.clH, T.aH_many⟩
    have iH_free : FldOk K CH "free" := ⟨T.clH, T.aH_free⟩
    have F : SH H [] H [] [] := SH.nil
    have o_v : OldT K H [] v n1 := ⟨ty, fun _ _ z => by cases z⟩
    have o_w : OldT K H [] w n2 := ⟨uy, fun _ _ z => by cases z⟩
    repeat k_meth
    by_cases e : isW v = true
    · rw [e]
      repeat k_meth
      by_cases e2 : isW w = true
      · rw [e2]
        obtain ⟨a, rfl⟩ := isW_int e
        obtain ⟨b, rfl⟩ := isW_int e2
        have k : Q (.bl (decide (0 ≤ a) && (decide (0 < b) && decide (a + b ≤ n)))) H := k
        repeat k_meth
        refine i_dec (fun h1 => ?_) (fun h1 => ?_)
        · rw [decide_eq_true h1, Bool.true_and] at k
          repeat k_meth
          refine i_dec (fun h2 => ?_) (fun h2 => ?_)
          · rw [decide_eq_true h2, Bool.true_and] at k
            repeat k_meth
            exact k
          · rw [decide_eq_false h2, Bool.false_and] at k
            repeat k_meth
            exact k
        · rw [decide_eq_false h1, Bool.false_and] at k
          repeat k_meth
          exact k
      · have e2 : isW w = false := by simpa using e2
        rw [insV_no2 e2] at k
        rw [e2]
        repeat k_meth
        exact k
    · have e : isW v = false := by simpa using e
      rw [insV_no1 e] at k
      rw [e]
      repeat k_meth
      exact k
theorem D_asked (T : Txt K mg c R CH) : Def P w K mg base CX0 6 "_law_asked" ["_law_book", "_law_way", "_law_start", "_law_size"] (sp_asked K CH) := by
  have MT_Htake := MT_Htake (P := P) (w := w) (base := base) T
  have MT_Hgive := MT_Hgive (P := P) (w := w) (base := base) T
  refine def_of T.d_asked sc_asked (fun vs H Q E h => ?_) (fun _ _ _ _ _ _ us hl => match us, hl with | [_, _, _, _], _ => rfl) (fun f cdv A outer s H vs Q E hr h => ?_)
  · obtain ⟨x, p, dx, fs, wy, v, w, n1, n2, rfl, _⟩ := h
    rfl
  · obtain ⟨x, p, dx, fs, wy, v, w, n1, n2, rfl, bk, ty, uy, kk⟩ := h
    have nd := sc_asked.nd
    refine ⟨_, (pss_cons (ps_set (i := 4) nd rfl (Or.inl rfl) (pe_tupA (pa_cons pe_str pa_nil)))
      (pss_cons (ps_try (fun pins EX => (pss_one (ps_if (pt_cmpR op_eq (pv 1) pe_int (nomark _)) (pss_one (ps_expr (pe_metx (pv 0) T.clH MT_Htake hr (pa_cons (pv 2) (pa_cons (pv 3) pa_nil))))) (pss_one (ps_expr (pe_metx (pv 0) T.clH MT_Hgive hr (pa_cons (pv 2) (pa_cons (pv 3) pa_nil)))))))) (ph_as (i := 5) T.e_NotFree.gl (fun a => (pss_one (ps_set (i := 4) nd rfl (Or.inl rfl) (pe_tupA (pa_cons pe_str (pa_cons (pe_exfT T.e_NotFree.I.g T.a_NotFree_start (pv 5)) (pa_cons (pe_exfT T.e_NotFree.I.g T.a_NotFree_size (pv 5)) pa_nil))))))) (ph_as (i := 5) T.e_NotTaken.gl (fun a => (pss_one (ps_set (i := 4) nd rfl (Or.inl rfl) (pe_tupA (pa_cons pe_str (pa_cons (pe_exfT T.e_NotTaken.I.g T.a_NotTaken_start (pv 5)) (pa_cons (pe_exfT T.e_NotTaken.I.g T.a_NotTaken_size (pv 5)) pa_nil))))))) (ph_pl T.g_R (fun a => (pss_one (ps_set (i := 4) nd rfl (Or.inl rfl) (pe_tupA (pa_cons pe_str pa_nil))))) ph_nil) nd rfl rfl) nd rfl rfl))
      (pss_one (ps_ret (pv 4))))), ?_⟩
    clear nd MT_Htake MT_Hgive
    rw [show start ["_law_book", "_law_way", "_law_start", "_law_size", "_law_told", "e"] [.ref x, .int wy, v, w] = [some (.ref x), some (.int wy), some (v), some (w), none, none] from rfl]
    try dsimp only [cx_K, cx_K2]
    obtain ⟨hx, hp, h16, h240⟩ := id bk
    have iH_many : FldOk K CH "many" := ⟨T.clH, T.aH_many⟩
    have iH_free : FldOk K CH "free" := ⟨T.clH, T.aH_free⟩
    have nxp : x ≠ p := fun z => by rw [z, hp] at hx; cases hx
    have bks : Bks fs fs.length := ⟨rfl, h16, h240⟩
    have xm_NotFree : ExM K (c 2) (c 2) true := ⟨exm_same T.e_NotFree.I⟩
    have xr_NotFree : ExM K (c 2) R true := ⟨exm_up T.e_NotFree.I T.c_R T.t_R T.m_R⟩
    have xm_NotTaken : ExM K (c 3) (c 3) true := ⟨exm_same T.e_NotTaken.I⟩
    have xr_NotTaken : ExM K (c 3) R true := ⟨exm_up T.e_NotTaken.I T.c_R T.t_R T.m_R⟩
    have xn_NotTaken_NotFree : ExM K (c 3) (c 2) false := ⟨T.x_NotTaken_NotFree⟩
    rcases kk with ⟨rfl, ⟨a, b, rfl, rfl, hb, k⟩ | ⟨hb, k⟩⟩ | ⟨rfl, ⟨a, b, rfl, rfl, hb, k⟩ | ⟨hb, k⟩⟩
    · have F : SH H [p] H [(p, .lst (fs.map V.bl))] [] := SH.nil.addM List.mem_cons_self hp rfl (by simp)
      have o_hx := Old.mk (M := [p]) hx (nm1 nxp)
      have ht : HasT fs a b := ⟨hb⟩
      repeat k_meth
      exact k _ _ F.kpo hatC hatC
    · have F : SH H [] H [] [] := SH.nil
      have o_hx := Old.mk (M := []) hx nm0
      have o_hp := Old.mk (M := []) hp nm0
      have o_v : OldT K H [] v n1 := ⟨ty, fun _ _ z => by cases z⟩
      have o_w : OldT K H [] w n2 := ⟨uy, fun _ _ z => by cases z⟩
      have ht : HasF fs v w := ⟨hb⟩
      repeat k_meth
      exact k _ _ F.sm hatC
    · have F : SH H [p] H [(p, .lst (fs.map V.bl))] [] := SH.nil.addM List.mem_cons_self hp rfl (by simp)
      have o_hx := Old.mk (M := [p]) hx (nm1 nxp)
      have ht : TknT fs a b := ⟨hb⟩
      repeat k_meth
      exact k _ _ F.kpo hatC hatC
    · have F : SH H [] H [] [] := SH.nil
      have o_hx := Old.mk (M := []) hx nm0
      have o_hp := Old.mk (M := []) hp nm0
      have o_v : OldT K H [] v n1 := ⟨ty, fun _ _ z => by cases z⟩
      have o_w : OldT K H [] w n2 := ⟨uy, fun _ _ z => by cases z⟩
      have ht : TknF fs v w := ⟨hb⟩
      repeat k_meth
      exact k _ _ F.sm hatC
end
end K23
set_option Elab.async false
set_option linter.all false
set_option maxRecDepth 100000
set_option maxHeartbeats 4000000
namespace K23
open PySem L2 PyProof.Rows
local macro_rules | `(tactic| k_room) => `(tactic| first
  | with_reducible assumption
  | with_unfolding_all exact rfl
  | with_unfolding_all exact Nat.le_of_ble_eq_true rfl
  | omega
  | (with_reducible refine small_line ?_; first | omega | (simp only [List.length_cons, List.length_nil, List.length_map, List.length_append, List.length_replicate, rowsN_len, List.length_take, List.length_drop, List.length_set]; omega))
  | (with_reducible refine small_lt ?_; first | omega | (simp only [List.length_cons, List.length_nil, List.length_map, List.length_append, List.length_replicate, rowsN_len, List.length_take, List.length_drop, List.length_set]; omega))
  | (simp only [List.length_cons, List.length_nil, List.length_map, List.length_append, List.length_replicate, rowsN_len, List.length_take, List.length_drop, List.length_set]; omega)
  | decide)
local macro_rules | `(tactic| k_mem) => `(tactic| first
  | with_reducible assumption
  | decide
  | omega
  | (simp only [List.length_cons, List.length_nil, List.length_map, List.length_append, List.length_replicate, rowsN_len, List.length_take, List.length_drop, List.length_set]; omega))
set_option hygiene false in
local macro_rules | `(tactic| k_meth) => `(tactic| first
  | with_reducible refine go1 ?_
  | (intro H_ a_ dx_ (F_ : SH _ _ _ _ _) (ex_ : ExcT _ _ _ _); clear F; (have F := F_); clear F_; have exA_ := ExA.mk ex_)
  | (intro H_ (F_ : SH _ _ _ _ _); clear F; (have F := F_); clear F_)
  | (intro H_ p_ (F_ : SH _ _ _ _ _); clear F; (have F := F_); clear F_)
  | (intro H_ x_ dx_ (F_ : SH _ _ _ _ _); clear F; (have F := F_); clear F_)
  | (intro H_ p_ ys_ l_ (F_ : SH _ _ _ _ _); clear F; (have F := F_); clear F_)
  | with_reducible refine sd (by k_room) ?_
  | (intro (r_ : Int) (x_ : Int) (y_ : Int) (z_ : Int) lo_ hi_)
  | (intro (x_ : Int) (y_ : Int))
  | (intro (c_ : Int))
  | with_reducible refine i_pos (by k_mem) ?_
  | with_reducible refine i_neg (by k_mem) ?_
  | with_reducible refine i_npos (by k_mem) ?_
  | with_reducible refine i_nneg (by k_mem) ?_)
open M22
def sp_noplace (K : PySem.W.Frag) (CH : Addr) : Sp := fun vs H Q _ => ∃ (x p dx : Addr) (fs : List Bool) (v : V) (n1 : String), vs = [.ref x, v] ∧ Bk CH H x p dx fs ∧ TyOf K H v (.type n1) ∧ idV v = true ∧ inB v 0 ((fs.length : Int) - 1) = false ∧ ∀ H', Same H H' → Q (.bl true) H'
def sp_nomany (K : PySem.W.Frag) : Sp := fun vs H Q _ => ∃ (v : V) (n1 : String), vs = [v] ∧ TyOf K H v (.type n1) ∧ idV v = true ∧ inB v 16 240 = false ∧ ∀ H', Same H H' → Q (.bl true) H'
/-- not a list of truth values -/
def NotB (H : Hp) (v : V) : Prop := ∀ (a : Addr) (bs : List Bool), v = .ref a → H a = some (.lst (bs.map V.bl)) → bs.length < 2
theorem NotB.ne {H : Hp} {v : V} {a p : Addr} {bs : List Bool} (h : NotB H v) (e : v = .ref a) (hp : H p = some (.lst (bs.map V.bl))) (hl : 2 ≤ bs.length) : a ≠ p := fun z => by
  have := h a bs e (by rw [z]; exact hp)
  omega
theorem notB_of {H : Hp} {v : V} (h : ∀ a, v ≠ .ref a) : NotB H v := fun a bs e _ => absurd e (h a)
theorem notB_at {H : Hp} {p : Addr} {o : HO} (h : H p = some o) (hn : ∀ bs : List Bool, o = .lst (bs.map V.bl) → bs.length < 2) : NotB H (.ref p) := fun a bs e ha => by
  cases e
  rw [h] at ha
  exact hn bs (Option.some.inj ha)
def sp_odd (K : PySem.W.Frag) : Sp := fun vs H Q _ => ∃ (bx : Addr) (x y z : Int), vs = [.ref bx] ∧ H bx = some (.lst [.int x, .int y, .int z]) ∧ ∀ (x' y' z' : Int) (v : V) (n1 : String) (H' : Hp), Kp bx H H' → H' bx = some (.lst [.int x', .int y', .int z']) → TyOf K H' v (.type n1) → idV v = true → NotB H' v → (∀ a, v = .ref a → a ≠ bx) → Q v H'
class NoPl (fs : List Bool) (v : V) : Prop where
  e : inB v 0 ((fs.length : Int) - 1) = false
class NoMn (v : V) : Prop where
  e : inB v 16 240 = false
section
variable {CH CF x p dx q : Addr} {fs : List Bool} {n : Nat} {H : Hp} {Q : VK} {E : XK} {K : PySem.W.Frag} {v : V} {n1 : String} {bs : List Bool}
instance go_hat [h : BkA CH H x p dx fs] [t : TyA K H v n1] [c : NoPl fs v] : Go (sp_Hat K CH CF [.ref x, v] H Q E) (∀ d H', Same H H' → H' d = some (dctO d [("at", v)]) → E (.ref CF) (some d) H') := ⟨fun k => ⟨x, p, dx, fs, v, n1, rfl, h.e, t.e, c.e, k⟩⟩
instance go_HinitF [h : Hat H x (.ins CH dx [])] [t : TyA K H v n1] [c : NoMn v] : Go (sp_HinitV K CH CF [.ref x, v] H Q E) (∀ d H', Same H H' → H' d = some (dctO d [("many", v)]) → E (.ref CF) (some d) H') := ⟨fun k => ⟨x, dx, v, n1, rfl, h.e, t.e, .inr ⟨c.e, k⟩⟩⟩
instance go_dnew {σ : L2.St} : Go (tDNewK σ H Q) (∀ p H', New H H' p (.dK []) → Q (.ref p) H') := ⟨w_dnew⟩
instance nx_dnew {H0 : Hp} {M : List Addr} {L : List (Addr × HO)} {I : List Im} {Z : Addr → Hp → Prop} [F : SH H0 M H L I] : Go (∀ p H', New H H' p (.dK []) → Z p H') (∀ H' p, SH H0 M H' ((p, .dK []) :: L) I → Z p H') := ⟨fun k p H' n => k H' p (F.newO n rfl)⟩
theorem eqB_nil (bs : List Bool) : eqDt (.lst (bs.map Dt.bl)) (.lst []) = decide (bs = []) := by
  cases bs with
  | nil => simp [eqDt, eqDts]
  | cons a t => simp [eqDt, eqDts]
end
section
variable {P : Program} {w : World} {K : PySem.W.Frag} {mg : Str → Option Value} {base : Heap} {c : Nat → Addr} {R CH : Addr}
theorem D_noplace (T : Txt K mg c R CH) : Def P w K mg base CX0 4 "_law_no_place" ["_law_book", "_law_thing"] (sp_noplace K CH) := by
  have MT_Hhole_at := MT_Hhole_at (P := P) (w := w) (base := base) T
  refine def_of T.d_noplace sc_noplace (fun vs H Q E h => ?_) (fun _ _ _ _ _ _ us hl => match us, hl with | [_, _], _ => rfl) (fun f cdv A outer s H vs Q E hr h => ?_)
  · obtain ⟨x, p, dx, fs, v, n1, rfl, _⟩ := h
    rfl
  · obtain ⟨x, p, dx, fs, v, n1, rfl, bk, ty, iv, hb, k⟩ := h
    have nd := sc_noplace.nd
    refine ⟨_, (pss_cons (ps_set (i := 2) nd rfl (Or.inl rfl) pe_non)
      (pss_cons (ps_try (fun pins EX => (pss_one (ps_expr (pe_metx (pv 0) T.clH MT_Hhole_at hr (pa_cons (pv 1) pa_nil))))) (ph_as (i := 3) T.e_NoPlace.gl (fun a => (pss_one (ps_set (i := 2) nd rfl (Or.inl rfl) (pe_lstA (pa_cons (pe_exfT T.e_NoPlace.I.g T.a_NoPlace_at (pv 3)) pa_nil))))) ph_nil nd rfl rfl))
      (pss_one (ps_ret (pe_and (pe_cmpR op_notNN (pv 2) pe_non (nomark _)) (pe_and (pe_cmpR (op_eqI hr) (pv 2) (pe_lstA (pa_cons (pv 1) pa_nil)) (nomark _)) (pe_one (pe_cmpR op_eq (pe_callB call_isT rfl T.n_isinstance boot_isinstance (pa_cons (pe_ix ix_list (pv 2) pe_int (fun _ _ => rfl)) (pa_cons (pe_ty (T := "bool") rfl T.n_bool boot_bool) pa_nil))) (pe_callB call_isT rfl T.n_isinstance boot_isinstance (pa_cons (pv 1) (pa_cons (pe_ty (T := "bool") rfl T.n_bool boot_bool) pa_nil))) (nomark _))))))))), ?_⟩
    clear nd MT_Hhole_at
    rw [show start ["_law_book", "_law_thing", "_law_told", "e"] [.ref x, v] = [some (.ref x), some (v), none, none] from rfl]
    try dsimp only [cx_K, cx_K2]
    obtain ⟨hx, hp, h16, h240⟩ := id bk
    have iH_many : FldOk K CH "many" := ⟨T.clH, T.aH_many⟩
    have iH_free : FldOk K CH "free" := ⟨T.clH, T.aH_free⟩
    have o_hx := Old.mk (M := []) hx nm0
    have o_hp := Old.mk (M := []) hp nm0
    have F : SH H [] H [] [] := SH.nil
    have xm_NoPlace : ExM K (c 1) (c 1) true := ⟨exm_same T.e_NoPlace.I⟩
    have xr_NoPlace : ExM K (c 1) R true := ⟨exm_up T.e_NoPlace.I T.c_R T.t_R T.m_R⟩
    have bks : Bks fs fs.length := ⟨rfl, h16, h240⟩
    have o_v : OldT K H [] v n1 := ⟨ty, fun _ _ z => by cases z⟩
    have i_v : IdV v := ⟨iv⟩
    have np : NoPl fs v := ⟨hb⟩
    repeat k_meth
    rw [decide_eq_true rfl]
    exact k _ F.sm
theorem D_nomany (T : Txt K mg c R CH) : Def P w K mg base CX0 6 "_law_no_many" ["_law_thing"] (sp_nomany K) := by
  have MK_Hinit := MK_Hinit (P := P) (w := w) (base := base) T
  refine def_of T.d_nomany sc_nomany (fun vs H Q E h => ?_) (fun _ _ _ _ _ _ us hl => match us, hl with | [_], _ => rfl) (fun f cdv A outer s H vs Q E hr h => ?_)
  · obtain ⟨v, n1, rfl, _⟩ := h
    rfl
  · obtain ⟨v, n1, rfl, ty, iv, hb, k⟩ := h
    have nd := sc_nomany.nd
    refine ⟨_, (pss_cons (ps_set (i := 1) nd rfl (Or.inl rfl) pe_non)
      (pss_cons (ps_try (fun pins EX => (pss_one (ps_expr (pe_makxB MK_Hinit hr (pa_cons (pv 0) pa_nil))))) (ph_as (i := 2) T.e_NoMany.gl (fun a => (pss_one (ps_set (i := 1) nd rfl (Or.inl rfl) (pe_lstA (pa_cons (pe_exfT T.e_NoMany.I.g T.a_NoMany_many (pv 2)) pa_nil))))) ph_nil nd rfl rfl))
      (pss_one (ps_ret (pe_and (pe_cmpR op_notNN (pv 1) pe_non (nomark _)) (pe_and (pe_cmpR (op_eqI hr) (pv 1) (pe_lstA (pa_cons (pv 0) pa_nil)) (nomark _)) (pe_one (pe_cmpR op_eq (pe_callB call_isT rfl T.n_isinstance boot_isinstance (pa_cons (pe_ix ix_list (pv 1) pe_int (fun _ _ => rfl)) (pa_cons (pe_ty (T := "bool") rfl T.n_bool boot_bool) pa_nil))) (pe_callB call_isT rfl T.n_isinstance boot_isinstance (pa_cons (pv 0) (pa_cons (pe_ty (T := "bool") rfl T.n_bool boot_bool) pa_nil))) (nomark _))))))))), ?_⟩
    clear nd MK_Hinit
    rw [show start ["_law_thing", "_law_told", "e"] [v] = [some (v), none, none] from rfl]
    try dsimp only [cx_K, cx_K2]
    have iH_many : FldOk K CH "many" := ⟨T.clH, T.aH_many⟩
    have iH_free : FldOk K CH "free" := ⟨T.clH, T.aH_free⟩
    have F : SH H [] H [] [] := SH.nil
    have xm_NoMany : ExM K (c 0) (c 0) true := ⟨exm_same T.e_NoMany.I⟩
    have xr_NoMany : ExM K (c 0) R true := ⟨exm_up T.e_NoMany.I T.c_R T.t_R T.m_R⟩
    have o_v : OldT K H [] v n1 := ⟨ty, fun _ _ z => by cases z⟩
    have i_v : IdV v := ⟨iv⟩
    have np : NoMn v := ⟨hb⟩
    repeat k_meth
    rw [decide_eq_true rfl]
    exact k _ F.sm
theorem D_odd (T : Txt K mg c R CH) : Def P w K mg base CX0 2 "_law_odd" ["_law_box_here"] (sp_odd K) := by
  have D_take := D_take (P := P) (w := w) (base := base) T
  refine def_of T.d_odd sc_odd (fun vs H Q E h => ?_) (fun _ _ _ _ _ _ us hl => match us, hl with | [_], _ => rfl) (fun f cdv A outer s H vs Q E hr h => ?_)
  · obtain ⟨bx, x0, y0, z0, rfl, _⟩ := h
    rfl
  · obtain ⟨bx, x0, y0, z0, rfl, hbx, k⟩ := h
    have nd := sc_odd.nd
    refine' ⟨_, (pss_cons (ps_set (i := 1) nd rfl (Or.inl rfl) (pe_lstA ?pa))
      (pss_one (ps_ret (pe_ix ix_list (pv 1) (pe_def D_take hr (pa_cons (pv 0) (pa_cons (pe_callB call_lenN rfl T.n_len boot_len (pa_cons (pv 1) pa_nil)) pa_nil))) (fun _ _ => rfl))))), ?main⟩
    case pa =>
      refine' pa_cons ?a0 ?b0 ?c0
      case a0 => exact pe_non
      case c0 => rfl
      case b0 =>
        refine' pa_cons ?a1 ?b1 ?c1
        case a1 => exact pe_bl
        case c1 => rfl
        case b1 =>
          refine' pa_cons ?a2 ?b2 ?c2
          case a2 => exact pe_bl
          case c2 => rfl
          case b2 =>
            refine' pa_cons ?a3 ?b3 ?c3
            case a3 => exact (pe_un un_neg pe_int)
            case c3 => rfl
            case b3 =>
              refine' pa_cons ?a4 ?b4 ?c4
              case a4 => exact pe_int
              case c4 => rfl
              case b4 =>
                refine' pa_cons ?a5 ?b5 ?c5
                case a5 => exact pe_str
                case c5 => rfl
                case b5 =>
                  refine' pa_cons ?a6 ?b6 ?c6
                  case a6 => exact (pe_lstA (pa_cons pe_int pa_nil))
                  case c6 => rfl
                  case b6 =>
                    refine' pa_cons ?a7 ?b7 ?c7
                    case a7 => exact (pe_tupA (pa_cons pe_int pa_nil))
                    case c7 => rfl
                    case b7 =>
                      refine' pa_cons ?a8 ?b8 ?c8
                      case a8 => exact pe_dnewK
                      case c8 => rfl
                      case b8 =>
                        refine' pa_cons ?a9 ?b9 ?c9
                        case a9 => exact (pe_op op_add (pe_op op_pow pe_int pe_int) (pe_def D_take hr (pa_cons (pv 0) (pa_cons pe_int pa_nil))))
                        case c9 => rfl
                        case b9 =>
                          refine' pa_cons ?a10 ?b10 ?c10
                          case a10 => exact (pe_op op_sub pe_int (pe_op op_pow pe_int pe_int))
                          case c10 => rfl
                          case b10 =>
                            exact pa_nil
    clear nd D_take
    rw [show start ["_law_box_here", "_law_some"] [.ref bx] = [some (.ref bx), none] from rfl]
    try dsimp only [cx_K, cx_K2]
    have iH_many : FldOk K CH "many" := ⟨T.clH, T.aH_many⟩
    have iH_free : FldOk K CH "free" := ⟨T.clH, T.aH_free⟩
    have F : SH H [bx] H [(bx, .lst [.int x0, .int y0, .int z0])] [] := SH.nil.addM List.mem_cons_self hbx rfl (by simp)
    repeat k_meth
    refine w_ixM SqA.e lo_ (by show r_ < 11; exact hi_) fun v hv => ?_
    simp only [List.mem_cons, List.not_mem_nil, or_false] at hv
    rcases hv with rfl | rfl | rfl | rfl | rfl | rfl | rfl | rfl | rfl | rfl | rfl
    · exact k _ _ _ _ _ _ F.kpo hatC TyA.e rfl (notB_of fun a h => by cases h) (fun a h => by cases h)
    · exact k _ _ _ _ _ _ F.kpo hatC TyA.e rfl (notB_of fun a h => by cases h) (fun a h => by cases h)
    · exact k _ _ _ _ _ _ F.kpo hatC TyA.e rfl (notB_of fun a h => by cases h) (fun a h => by cases h)
    · exact k _ _ _ _ _ _ F.kpo hatC TyA.e rfl (notB_of fun a h => by cases h) (fun a h => by cases h)
    · exact k _ _ _ _ _ _ F.kpo hatC TyA.e rfl (notB_of fun a h => by cases h) (fun a h => by cases h)
    · exact k _ _ _ _ _ _ F.kpo hatC TyA.e rfl (notB_of fun a h => by cases h) (fun a h => by cases h)
    · refine k _ _ _ _ _ _ F.kpo hatC TyA.e rfl (notB_at hatC fun bs h => ?_) (fun a h => by cases h; exact SH.neC (F := F))
      cases bs with
      | nil => simp
      | cons b t => simp at h
    · have hb9 : H_ bx = some (.lst [.int x_, .int y_, .int z_]) := hatC
      refine k _ _ _ _ _ _ F.kpo hatC TyA.e rfl (notB_at hatC fun bs h => ?_) (fun a h z => by
        have h9 : H_ a = some (.tup [.int 0]) := by
          cases h
          exact hatC
        rw [z, hb9] at h9
        cases h9)
      cases h
    · refine k _ _ _ _ _ _ F.kpo hatC TyA.e rfl (notB_at hatC fun bs h => ?_) (fun a h => by cases h; exact SH.neC (F := F))
      cases h
    · exact k _ _ _ _ _ _ F.kpo hatC TyA.e rfl (notB_of fun a h => by cases h) (fun a h => by cases h)
    · exact k _ _ _ _ _ _ F.kpo hatC TyA.e rfl (notB_of fun a h => by cases h) (fun a h => by cases h)
end
end K23
set_option Elab.async false
set_option linter.all false
set_option maxRecDepth 100000
set_option maxHeartbeats 4000000
namespace K23
open PySem L2 PyProof.Rows
local macro_rules | `(tactic| k_room) => `(tactic| first
  | with_reducible assumption
  | with_unfolding_all exact rfl
  | with_unfolding_all exact Nat.le_of_ble_eq_true rfl
  | omega
  | (with_reducible refine small_line ?_; first | omega | (simp only [List.length_cons, List.length_nil, List.length_map, List.length_append, List.length_replicate, rowsN_len, List.length_take, List.length_drop, List.length_set]; omega))
  | (with_reducible refine small_lt ?_; first | omega | (simp only [List.length_cons, List.length_nil, List.length_map, List.length_append, List.length_replicate, rowsN_len, List.length_take, List.length_drop, List.length_set]; omega))
  | (simp only [List.length_cons, List.length_nil, List.length_map, List.length_append, List.length_replicate, rowsN_len, List.length_take, List.length_drop, List.length_set]; omega)
  | decide)
local macro_rules | `(tactic| k_mem) => `(tactic| first
  | with_reducible assumption
  | decide
  | omega
  | (simp only [List.length_cons, List.length_nil, List.length_map, List.length_append, List.length_replicate, rowsN_len, List.length_take, List.length_drop, List.length_set]; omega))
set_option hygiene false in
local macro_rules | `(tactic| k_meth) => `(tactic| first
  | with_reducible refine go1 ?_
  | (intro H_ a_ dx_ (F_ : SH _ _ _ _ _) (ex_ : ExcT _ _ _ _); clear F; (have F := F_); clear F_; have exA_ := ExA.mk ex_)
  | (intro H_ (F_ : SH _ _ _ _ _); clear F; (have F := F_); clear F_)
  | (intro H_ p_ (F_ : SH _ _ _ _ _); clear F; (have F := F_); clear F_)
  | (intro H_ x_ dx_ (F_ : SH _ _ _ _ _); clear F; (have F := F_); clear F_)
  | (intro H_ p_ ys_ l_ (F_ : SH _ _ _ _ _); clear F; (have F := F_); clear F_)
  | with_reducible refine sd (by k_room) ?_
  | (intro (r_ : Int) (x_ : Int) (y_ : Int) (z_ : Int) lo_ hi_)
  | (intro (x_ : Int) (y_ : Int))
  | (intro (c_ : Int))
  | with_reducible refine i_pos (by k_mem) ?_
  | with_reducible refine i_neg (by k_mem) ?_
  | with_reducible refine i_npos (by k_mem) ?_
  | with_reducible refine i_nneg (by k_mem) ?_)
open M22
theorem NotB.same {K : PySem.W.Frag} {H H' : Hp} {v : V} {n : String} (h : NotB H v) (ty : TyOf K H v (.type n)) (s : Same H H') : NotB H' v := fun a bs e ha => by
  subst e
  have hs : ∃ u, H a = some u := by cases ty <;> exact ⟨_, by assumption⟩
  obtain ⟨u, hu⟩ := hs
  have := s _ _ hu
  rw [this] at ha
  exact h a bs rfl (by rw [hu, ← ha])
section
variable {K : PySem.W.Frag} {H : Hp} {Q : VK} {p q : Addr} {bs : List Bool} {c : Bool} {ys zs : List V} {ws : List (Nat × Nat)}
theorem rep_bls (h : SqL K H p (bs.map V.bl)) : Rep K H (.lst (bs.map Dt.bl)) (.ref p) := ⟨p, _, rfl, h, by
  clear h
  induction bs with
  | nil => rfl
  | cons b t ih => exact ⟨.bl b, t.map V.bl, rfl, rfl, ih⟩⟩
theorem dep_bls (bs : List Bool) : depD (.lst (bs.map Dt.bl)) ≤ 100 := by
  have : depDs (bs.map Dt.bl) = 0 := by
    induction bs with
    | nil => rfl
    | cons b t ih => simp [depDs, depD, ih]
  simp [depD, this]
instance go_eqNilB [h : SqA K H p (bs.map V.bl)] [h2 : Hat H q (.lst [])] : Go (rEqD K (.ref p) (.ref q) H Q) (Q (.bl (decide (bs = []))) H) := ⟨fun k => ⟨_, _, rep_bls h.e, rep_bls (bs := []) (SqL.of h2.e), dep_bls bs, by rw [show (List.map Dt.bl []) = [] from rfl, eqB_nil]; exact k⟩⟩
instance go_neNilB [h : SqA K H p (bs.map V.bl)] [h2 : Hat H q (.lst [])] : Go (rNeD K (.ref p) (.ref q) H Q) (Q (.bl (!decide (bs = []))) H) := ⟨fun k => ⟨_, _, rep_bls h.e, rep_bls (bs := []) (SqL.of h2.e), dep_bls bs, by rw [show (List.map Dt.bl []) = [] from rfl, eqB_nil]; exact k⟩⟩
instance go_eqNil2 [h : Hat H p (.lst [])] [h2 : Hat H q (.lst [])] : Go (rEqD K (.ref p) (.ref q) H Q) (Q (.bl true) H) := ⟨fun k => ⟨_, _, rep_bls (bs := []) (SqL.of h.e), rep_bls (bs := []) (SqL.of h2.e), dep_bls [], k⟩⟩
instance go_neNil2 [h : Hat H p (.lst [])] [h2 : Hat H q (.lst [])] : Go (rNeD K (.ref p) (.ref q) H Q) (Q (.bl false) H) := ⟨fun k => ⟨_, _, rep_bls (bs := []) (SqL.of h.e), rep_bls (bs := []) (SqL.of h2.e), dep_bls [], k⟩⟩
instance go_inBl [h : SqA K H p (bs.map V.bl)] : Go (rIn K false (.bl c) (.ref p) H Q) (Q (.bl (inV (.bl c) (bs.map V.bl))) H) := ⟨fun k => ⟨_, _, rfl, .inl h.e, rfl, List.all_eq_true.mpr (fun z hz => by obtain ⟨b, _, rfl⟩ := List.mem_map.mp hz; rfl), by rw [if_neg (by decide)]; exact k⟩⟩
instance go_eqR [h : Hat H p (.lst ys)] [h2 : Hat H q (.lst zs)] [t : TpA H ys (rowsN ws)] [t2 : TpA H zs (rowsN ws)] : Go (rEqD K (.ref p) (.ref q) H Q) (Q (.bl true) H) := ⟨w_eqR h.e h2.e t.e t2.e⟩
end
def sp_lstretch (K : PySem.W.Frag) : Sp := fun vs H Q _ => ∃ (bx pf : Addr) (x y z : Int) (fs : List Bool), vs = [.ref bx, .ref pf] ∧ H bx = some (.lst [.int x, .int y, .int z]) ∧ H pf = some (.lst (fs.map V.bl)) ∧ (16 ≤ fs.length ∧ fs.length ≤ 240) ∧ ∀ (x' y' z' : Int) (v w : V) (n1 n2 : String) (q : Addr) (H' : Hp), Kp bx H H' → H' bx = some (.lst [.int x', .int y', .int z']) → TyOf K H' v (.type n1) → idV v = true → NotB H' v → (∀ a, v = .ref a → a ≠ bx) → TyOf K H' w (.type n2) → idV w = true → NotB H' w → (∀ a, w = .ref a → a ≠ bx) → H' q = some (.tup [v, w]) → Q (.ref q) H'
def sp_tried (K : PySem.W.Frag) (CH : Addr) : Sp := fun vs H Q _ => ∃ (x p dx pf : Addr) (fs : List Bool) (wy : Int) (v w : V) (n1 n2 : String), vs = [.ref x, .ref pf, .int wy, v, w] ∧ Bk CH H x p dx fs ∧ H pf = some (.lst (fs.map V.bl)) ∧ pf ≠ p ∧ (wy = 0 ∨ wy = 1) ∧ TyOf K H v (.type n1) ∧ idV v = true ∧ NotB H v ∧ TyOf K H w (.type n2) ∧ idV w = true ∧ NotB H w ∧ ∀ H', Kp p H H' → H' p = some (.lst (fs.map V.bl)) → Q (.bl true) H'
theorem insV_nat {n : Nat} {v w : V} (h : insV n v w = true) : ∃ a b : Nat, v = .int (a : Nat) ∧ w = .int (b : Nat) ∧ 1 ≤ b ∧ a + b ≤ n := by
  cases v with
  | int i =>
    cases w with
    | int j =>
      have h : (decide (0 ≤ i) && (decide (0 < j) && decide (i + j ≤ (n : Int)))) = true := h
      simp only [Bool.and_eq_true, decide_eq_true_eq] at h
      exact ⟨i.toNat, j.toNat, by congr 1; omega, by congr 1; omega, by omega, by omega⟩
    | _ => simp [insV] at h
  | _ => cases w <;> simp [insV] at h
theorem hasV_ins {fs : List Bool} {v w : V} (h : insV fs.length v w = false) : hasV fs v w = false := by
  cases v with
  | int i =>
    cases w with
    | int j =>
      have h : (decide (0 ≤ i) && (decide (0 < j) && decide (i + j ≤ (fs.length : Int)))) = false := h
      show (decide (0 ≤ i) && hasB fs i.toNat j.toNat) = false
      cases e : decide (0 ≤ i) && hasB fs i.toNat j.toNat with
      | false => rfl
      | true =>
        simp only [Bool.and_eq_true, decide_eq_true_eq] at e
        have := has_le e.2
        rw [decide_eq_true e.1, decide_eq_true (show 0 < j by omega), decide_eq_true (show i + j ≤ (fs.length : Int) by omega)] at h
        cases h
    | _ => rfl
  | _ => cases w <;> rfl
theorem tknV_ins {fs : List Bool} {v w : V} (h : insV fs.length v w = false) : tknV fs v w = false := by
  cases v with
  | int i =>
    cases w with
    | int j =>
      have h : (decide (0 ≤ i) && (decide (0 < j) && decide (i + j ≤ (fs.length : Int)))) = false := h
      show (decide (0 ≤ i) && tknB fs i.toNat j.toNat) = false
      cases e : decide (0 ≤ i) && tknB fs i.toNat j.toNat with
      | false => rfl
      | true =>
        simp only [Bool.and_eq_true, decide_eq_true_eq] at e
        have := tkn_le e.2
        rw [decide_eq_true e.1, decide_eq_true (show 0 < j by omega), decide_eq_true (show i + j ≤ (fs.length : Int) by omega)] at h
        cases h
    | _ => rfl
  | _ => cases w <;> rfl
theorem in_cut (fs : List Bool) : inV (.bl false) (fs.map V.bl) = !(fs.all id) := by
  induction fs with
  | nil => rfl
  | cons b t ih =>
    cases b with
    | true =>
      show (eqV (.bl true) (.bl false) || inV (.bl false) (t.map V.bl)) = _
      rw [ih]
      rfl
    | false => rfl
theorem in_cutT (fs : List Bool) : inV (.bl true) (fs.map V.bl) = fs.any id := by
  induction fs with
  | nil => rfl
  | cons b t ih =>
    cases b with
    | false =>
      show (eqV (.bl false) (.bl true) || inV (.bl true) (t.map V.bl)) = _
      rw [ih]
      rfl
    | true => rfl
section
variable {P : Program} {w : World} {K : PySem.W.Frag} {mg : Str → Option Value} {base : Heap} {c : Nat → Addr} {R CH : Addr}
theorem D_lstretch (T : Txt K mg c R CH) : Def P w K mg base CX0 3 "_law_stretch" ["_law_box_here", "_law_free"] (sp_lstretch K) := by
  have D_lholes := D_lholes (P := P) (w := w) (base := base) T
  have D_take := D_take (P := P) (w := w) (base := base) T
  have D_odd := D_odd (P := P) (w := w) (base := base) T
  refine def_of T.d_lstretch sc_lstretch (fun vs H Q E h => ?_) (fun _ _ _ _ _ _ us hl => match us, hl with | [_, _], _ => rfl) (fun f cdv A outer s H vs Q E hr h => ?_)
  · obtain ⟨bx, pf, x0, y0, z0, fs, rfl, _⟩ := h
    rfl
  · obtain ⟨bx, pf, x0, y0, z0, fs, rfl, hbx, hpf, side, k⟩ := h
    have nd := sc_lstretch.nd
    refine ⟨_, (pss_cons (ps_set (i := 2) nd rfl (Or.inl rfl) (pe_callB call_lenN rfl T.n_len boot_len (pa_cons (pv 1) pa_nil)))
      (pss_cons (ps_set (i := 3) nd rfl (Or.inl rfl) (pe_lstA (pa_cons pe_int (pa_cons (pe_op op_sub (pv 2) pe_int) (pa_cons (pv 2) (pa_cons (pe_def D_take hr (pa_cons (pv 0) (pa_cons (pv 2) pa_nil))) pa_nil))))))
      (pss_cons (ps_for PassesOwn.never rfl (pi_list (pe_def D_lholes hr (pa_cons (pv 1) pa_nil))) (pg_tup rfl (pgs_cons (pg_name (i := 4) nd rfl (Or.inl rfl)) (pgs_cons (pg_name (i := 5) nd rfl (Or.inl rfl)) pgs_nil))) (pss_one (ps_set (i := 3) nd rfl (Or.inl rfl) (pe_op op_catA (pv 3) (pe_lstA (pa_cons (pe_callB (call_maxN rfl) rfl T.n_max boot_max (pa_cons pe_int (pa_cons (pe_op op_sub (pv 4) pe_int) pa_nil))) (pa_cons (pv 4) (pa_cons (pe_op op_sub (pe_op op_add (pv 4) (pv 5)) pe_int) (pa_cons (pe_op op_add (pv 4) (pv 5)) pa_nil)))))))))
      (pss_cons (ps_set (i := 4) nd rfl (Or.inl rfl) (pe_ix ix_list (pv 3) (pe_def D_take hr (pa_cons (pv 0) (pa_cons (pe_callB call_lenN rfl T.n_len boot_len (pa_cons (pv 3) pa_nil)) pa_nil))) (fun _ _ => rfl)))
      (pss_cons (ps_set (i := 6) nd rfl (Or.inl rfl) (pe_op op_add (pe_ix ix_list (pv 3) (pe_def D_take hr (pa_cons (pv 0) (pa_cons (pe_callB call_lenN rfl T.n_len boot_len (pa_cons (pv 3) pa_nil)) pa_nil))) (fun _ _ => rfl)) (pe_def D_take hr (pa_cons (pv 0) (pa_cons pe_int pa_nil)))))
      (pss_cons (ps_set (i := 5) nd rfl (Or.inl rfl) (pe_ix ix_list (pe_lstA (pa_cons pe_int (pa_cons (pe_callB (call_maxN rfl) rfl T.n_max boot_max (pa_cons pe_int (pa_cons (pe_op op_sub (pv 6) (pv 4)) pa_nil))) (pa_cons (pe_callB (call_maxN rfl) rfl T.n_max boot_max (pa_cons pe_int (pa_cons (pe_op op_add (pe_op op_sub (pv 6) (pv 4)) pe_int) pa_nil))) pa_nil)))) (pe_def D_take hr (pa_cons (pv 0) (pa_cons pe_int pa_nil))) (fun _ _ => rfl)))
      (pss_cons (ps_set (i := 7) nd rfl (Or.inl rfl) (pe_def D_take hr (pa_cons (pv 0) (pa_cons pe_int pa_nil))))
      (pss_cons (ps_if (pt_cmpR op_eq (pv 7) pe_int (nomark _)) (pss_one (ps_ret (pe_tupA (pa_cons (pe_def D_odd hr (pa_cons (pv 0) pa_nil)) (pa_cons (pv 5) pa_nil))))) pss_nil)
      (pss_cons (ps_if (pt_cmpR op_eq (pv 7) pe_int (nomark _)) (pss_one (ps_ret (pe_tupA (pa_cons (pv 4) (pa_cons (pe_def D_odd hr (pa_cons (pv 0) pa_nil)) pa_nil))))) pss_nil)
      (pss_one (ps_ret (pe_tupA (pa_cons (pv 4) (pa_cons (pv 5) pa_nil)))))))))))))), ?_⟩
    clear nd D_lholes D_take D_odd
    rw [show start ["_law_box_here", "_law_free", "_law_many", "_law_some", "_law_start", "_law_size", "_law_end", "_law_way"] [.ref bx, .ref pf] = [some (.ref bx), some (.ref pf), none, none, none, none, none, none] from rfl]
    try dsimp only [cx_K, cx_K2]
    have iH_many : FldOk K CH "many" := ⟨T.clH, T.aH_many⟩
    have iH_free : FldOk K CH "free" := ⟨T.clH, T.aH_free⟩
    obtain ⟨f16, f240⟩ := side
    have few := holes_few (fs := fs)
    have nfb : pf ≠ bx := fun z => by
      rw [z, hbx] at hpf
      have h9 := congrArg List.length (HO.lst.inj (Option.some.inj hpf))
      rw [List.length_map] at h9
      simp at h9
      omega
    have F : SH H [bx] H [(bx, .lst [.int x0, .int y0, .int z0])] [] := SH.nil.addM List.mem_cons_self hbx rfl (by simp)
    have o_pf := Old.mk (M := [bx]) hpf (nm1 nfb)
    repeat k_meth
    have yl : ys_.length = (holesF fs).length := by have h9 : TupsAt H_ ys_ (rowsN (holesF fs)) := TpA.e; rw [h9.1, rowsN_len]
    rename Addr => pl
    refine forL_by (xs := ys_) (fun i σ' H' => ∃ (ps : Addr) (o4 o5 : Option V) (ms : List Int) (x y z : Int), σ' = [some (.ref bx), some (.ref pf), some (.int ((fs.map V.bl).length : Int)), some (.ref ps), o4, o5, none, none] ∧ 4 ≤ ms.length ∧ ms.length ≤ 4 + 4 * i ∧ SH H [bx] H' [(ps, .lst (ms.map V.int)), (pl, .lst ys_), (bx, .lst [.int x, .int y, .int z])] [.tps ys_ (rowsN (holesF fs))]) ⟨_, _, _, [0, ((fs.map V.bl).length : Int) - 1, ((fs.map V.bl).length : Int), r_], x_, y_, z_, rfl, by simp, by simp, F.sub (L' := [(_, .lst [.int 0, .int (((fs.map V.bl).length : Int) - 1), .int ((fs.map V.bl).length : Int), .int r_]), (pl, .lst ys_), (bx, .lst [.int x_, .int y_, .int z_])]) SbC.s (by simp)⟩ ?_ ?_ ?_
    · clear F
      rintro i σ' H' _ ⟨ps, _, _, ms, x, y, z, rfl, m4, ml, F⟩
      exact SqA.e
    · clear F
      rintro i v σ' H' hv ⟨ps, _, _, ms, x, y, z, rfl, m4, ml, F⟩
      have hi := (List.getElem?_eq_some_iff.mp hv).1
      obtain ⟨w0, q1, e4, rfl, e5⟩ := rowsN_at (ws := holesF fs) (H := H') TpA.e hv
      replace F := F.addT e5
      repeat k_meth
      refine ⟨_, _, _, ms ++ [max 0 ((w0.1 : Int) - 1), (w0.1 : Int), (w0.1 : Int) + (w0.2 : Int) - 1, (w0.1 : Int) + (w0.2 : Int)], x, y, z, rfl, by simp only [List.length_append, List.length_cons, List.length_nil]; omega, by simp only [List.length_append, List.length_cons, List.length_nil]; omega, ?_⟩
      rw [List.map_append]
      exact F.sub (I' := [.tps ys_ (rowsN (holesF fs))]) (L' := [(p_, .lst (ms.map V.int ++ [.int (max 0 ((w0.1 : Int) - 1)), .int (w0.1 : Int), .int ((w0.1 : Int) + (w0.2 : Int) - 1), .int ((w0.1 : Int) + (w0.2 : Int))])), (pl, .lst ys_), (bx, .lst [.int x, .int y, .int z])]) SbC.s (by simp)
    · clear F
      rintro σ' H' ⟨ps, _, _, ms, x, y, z, rfl, m4, ml, F⟩
      repeat k_meth
      refine w_ixM SqA.e lo_ hi_ fun v hv => ?_
      obtain ⟨s1, _, rfl⟩ := List.mem_map.mp hv
      clear lo_ hi_ hv
      repeat k_meth
      refine w_ixM SqA.e lo_ hi_ fun v hv => ?_
      obtain ⟨s2, _, rfl⟩ := List.mem_map.mp hv
      clear lo_ hi_ hv
      repeat k_meth
      refine w_ixM SqA.e lo_ (by show r_ < 3; exact hi_) fun v hv => ?_
      obtain ⟨s3, rfl⟩ : ∃ s3, v = .int s3 := by
        simp only [List.mem_cons, List.not_mem_nil, or_false] at hv
        rcases hv with rfl | rfl | rfl <;> exact ⟨_, rfl⟩
      clear lo_ hi_ hv
      repeat k_meth
      refine i_dec (fun hw => ?_) (fun hw => ?_)
      · repeat k_meth
        refine ⟨bx, _, _, _, rfl, hatC, fun x' y' z' v n1 H2 kp hb ty iv nv nx => ?_⟩
        have kp0 : Kp bx H H2 := fun b u n e => kp b u n (F.kpo b u n e)
        clear F
        have F : SH H2 [] H2 [] [] := SH.nil
        repeat k_meth
        exact k x' y' z' v (.int s3) n1 "int" _ _ (fun b u n e => F.sm b u (kp0 b u n e)) (F.sm _ _ hb) (ty.same F.sm) iv (nv.same ty F.sm) nx (.int _) rfl (notB_of fun a h => by cases h) (fun a h => by cases h) hatC
      · repeat k_meth
        refine i_dec (fun hw2 => ?_) (fun hw2 => ?_)
        · repeat k_meth
          refine ⟨bx, _, _, _, rfl, hatC, fun x' y' z' v n1 H2 kp hb ty iv nv nx => ?_⟩
          have kp0 : Kp bx H H2 := fun b u n e => kp b u n (F.kpo b u n e)
          clear F
          have F : SH H2 [] H2 [] [] := SH.nil
          repeat k_meth
          exact k x' y' z' (.int s1) v "int" n1 _ _ (fun b u n e => F.sm b u (kp0 b u n e)) (F.sm _ _ hb) (.int _) rfl (notB_of fun a h => by cases h) (fun a h => by cases h) (ty.same F.sm) iv (nv.same ty F.sm) nx hatC
        · repeat k_meth
          exact k _ _ _ (.int s1) (.int s3) "int" "int" _ _ F.kpo hatC (.int _) rfl (notB_of fun a h => by cases h) (fun a h => by cases h) (.int _) rfl (notB_of fun a h => by cases h) (fun a h => by cases h) hatC
end
end K23
set_option Elab.async false
set_option linter.all false
set_option maxRecDepth 100000
set_option maxHeartbeats 4000000
namespace K23
open PySem L2 PyProof.Rows
local macro_rules | `(tactic| k_room) => `(tactic| first
  | with_reducible assumption
  | with_unfolding_all exact rfl
  | with_unfolding_all exact Nat.le_of_ble_eq_true rfl
  | omega
  | (with_reducible refine small_line ?_; first | omega | (simp only [List.length_cons, List.length_nil, List.length_map, List.length_append, List.length_replicate, rowsN_len, List.length_take, List.length_drop, List.length_set]; omega))
  | (with_reducible refine small_lt ?_; first | omega | (simp only [List.length_cons, List.length_nil, List.length_map, List.length_append, List.length_replicate, rowsN_len, List.length_take, List.length_drop, List.length_set]; omega))
  | (simp only [List.length_cons, List.length_nil, List.length_map, List.length_append, List.length_replicate, rowsN_len, List.length_take, List.length_drop, List.length_set]; omega)
  | decide)
local macro_rules | `(tactic| k_mem) => `(tactic| first
  | with_reducible assumption
  | decide
  | omega
  | (simp only [List.length_cons, List.length_nil, List.length_map, List.length_append, List.length_replicate, rowsN_len, List.length_take, List.length_drop, List.length_set]; omega))
set_option hygiene false in
local macro_rules | `(tactic| k_meth) => `(tactic| first
  | with_reducible refine go1 ?_
  | (intro H_ a_ dx_ (F_ : SH _ _ _ _ _) (ex_ : ExcT _ _ _ _); clear F; (have F := F_); clear F_; have exA_ := ExA.mk ex_)
  | (intro H_ (F_ : SH _ _ _ _ _); clear F; (have F := F_); clear F_)
  | (intro H_ p_ (F_ : SH _ _ _ _ _); clear F; (have F := F_); clear F_)
  | (intro H_ x_ dx_ (F_ : SH _ _ _ _ _); clear F; (have F := F_); clear F_)
  | (intro H_ p_ ys_ l_ (F_ : SH _ _ _ _ _); clear F; (have F := F_); clear F_)
  | with_reducible refine sd (by k_room) ?_
  | (intro (r_ : Int) (x_ : Int) (y_ : Int) (z_ : Int) lo_ hi_)
  | (intro (x_ : Int) (y_ : Int))
  | (intro (c_ : Int))
  | with_reducible refine i_pos (by k_mem) ?_
  | with_reducible refine i_neg (by k_mem) ?_
  | with_reducible refine i_npos (by k_mem) ?_
  | with_reducible refine i_nneg (by k_mem) ?_)
open M22
theorem has_iff {fs : List Bool} {a b : Nat} : hasB fs a b = true ↔ 1 ≤ b ∧ a + b ≤ fs.length ∧ ∀ j, a ≤ j → j < a + b → fs[j]? = some true := by
  constructor
  · intro h
    obtain ⟨l1, l2⟩ := has_le h
    refine ⟨l1, l2, (cut_all l2 true).mp ?_⟩
    unfold hasB at h
    simp only [Bool.and_eq_true, decide_eq_true_eq] at h
    simpa using h.2.2
  · rintro ⟨h1, h2, h⟩
    unfold hasB
    rw [decide_eq_true h1, decide_eq_true h2]
    simpa using (cut_all h2 true).mpr h
theorem tkn_iff {fs : List Bool} {a b : Nat} : tknB fs a b = true ↔ 1 ≤ b ∧ a + b ≤ fs.length ∧ ∀ j, a ≤ j → j < a + b → fs[j]? = some false := by
  constructor
  · intro h
    obtain ⟨l1, l2⟩ := tkn_le h
    refine ⟨l1, l2, (cut_all l2 false).mp ?_⟩
    unfold tknB at h
    simp only [Bool.and_eq_true, decide_eq_true_eq] at h
    simpa using h.2.2
  · rintro ⟨h1, h2, h⟩
    unfold tknB
    rw [decide_eq_true h1, decide_eq_true h2]
    simpa using (cut_all h2 false).mpr h
theorem forR_slot {lo : Int} {n : Nat} {g : TG} {tb : TS} {D : Ends} {σ : L2.St} {H : Hp} (i : Nat) (h0 : σ.set i none = σ)
    (hs : ∀ (j : Nat) (o : Option V), j < n → g (.int (lo + j)) (σ.set i o) H fun σ2 H2 => tb { D with nx := fun σ' H' => (∃ o, σ' = σ.set i o) ∧ H' = H, ct := fun σ' H' => (∃ o, σ' = σ.set i o) ∧ H' = H, bk := D.nx } σ2 H2)
    (hd : ∀ o, D.nx (σ.set i o) H) : ForR lo n g tb D σ H := forR_by (fun _ σ' H' => (∃ o, σ' = σ.set i o) ∧ H' = H) ⟨⟨none, h0.symm⟩, rfl⟩ (fun j σ' H' hj h => by
      obtain ⟨⟨o, rfl⟩, rfl⟩ := h
      exact hs j o hj) (fun σ' H' h => by
      obtain ⟨⟨o, rfl⟩, rfl⟩ := h
      exact hd o)
instance nes_nf : NeS "not free" "done" := ⟨by decide⟩
instance nes_nt : NeS "not taken" "done" := ⟨by decide⟩
section
variable {P : Program} {w : World} {K : PySem.W.Frag} {mg : Str → Option Value} {base : Heap} {c : Nat → Addr} {R CH : Addr}
theorem D_tried (T : Txt K mg c R CH) : Def P w K mg base CX0 7 "_law_tried" ["_law_book", "_law_free", "_law_way", "_law_start", "_law_size"] (sp_tried K CH) := by
  have D_inside := D_inside (P := P) (w := w) (base := base) T
  have MT_Hhas := MT_Hhas (P := P) (w := w) (base := base) T
  have D_asked := D_asked (P := P) (w := w) (base := base) T
  have MT_Htold := MT_Htold (P := P) (w := w) (base := base) T
  have D_lholes := D_lholes (P := P) (w := w) (base := base) T
  refine def_of T.d_tried sc_tried (fun vs H Q E h => ?_) (fun _ _ _ _ _ _ us hl => match us, hl with | [_, _, _, _, _], _ => rfl) (fun f cdv A outer s H vs Q E hr h => ?_)
  · obtain ⟨x, p, dx, pf, fs, wy, v, w, n1, n2, rfl, _⟩ := h
    rfl
  · obtain ⟨x, p, dx, pf, fs, wy, v, w, n1, n2, rfl, bk, hpf, nfp, hw, ty, iv, nv, uy, iw, nw, k⟩ := h
    have nd := sc_tried.nd
    refine ⟨_, (pss_cons (ps_set (i := 5) nd rfl (Or.inl rfl) (pe_callB call_lenN rfl T.n_len boot_len (pa_cons (pv 1) pa_nil)))
      (pss_cons (ps_set (i := 6) nd rfl (Or.inl rfl) (pe_lstA pa_nil))
      (pss_cons (ps_if (pt_val (pe_def D_inside hr (pa_cons (pv 5) (pa_cons (pv 3) (pa_cons (pv 4) pa_nil))))) (pss_one (ps_set (i := 6) nd rfl (Or.inl rfl) (pe_slice sl_listA (pv 1) (po_some (pv 3)) (po_some (pe_op op_add (pv 3) (pv 4)))))) pss_nil)
      (pss_cons (ps_set (i := 7) nd rfl (Or.inl rfl) (pe_tupA (pa_cons pe_str pa_nil)))
      (pss_cons (ps_if (PW.pt (pw_and (pt_cmpR op_eq (pv 2) pe_int (nomark _)) (pw_and1 (PW.pt (pw_or (pt_cmpR (op_eq_dN hr) (pv 6) (pe_lstA pa_nil) (nomark _)) (pw_or1 (pt_cmpR op_in_seq pe_bl (pv 6) (by with_unfolding_all rfl)))))))) (pss_one (ps_set (i := 7) nd rfl (Or.inl rfl) (pe_tupA (pa_cons pe_str (pa_cons (pv 3) (pa_cons (pv 4) pa_nil)))))) pss_nil)
      (pss_cons (ps_if (PW.pt (pw_and (pt_cmpR op_eq (pv 2) pe_int (nomark _)) (pw_and1 (PW.pt (pw_or (pt_cmpR (op_eq_dN hr) (pv 6) (pe_lstA pa_nil) (nomark _)) (pw_or1 (pt_cmpR op_in_seq pe_bl (pv 6) (by with_unfolding_all rfl)))))))) (pss_one (ps_set (i := 7) nd rfl (Or.inl rfl) (pe_tupA (pa_cons pe_str (pa_cons (pv 3) (pa_cons (pv 4) pa_nil)))))) pss_nil)
      (pss_cons (ps_set (i := 8) nd rfl (Or.inl rfl) (pe_met (pv 0) T.clH MT_Hhas hr (pa_cons (pv 3) (pa_cons (pv 4) pa_nil))))
      (pss_cons (ps_if (PW.pt (pw_or (pt_not (pt_val (pe_callB call_isT rfl T.n_isinstance boot_isinstance (pa_cons (pv 8) (pa_cons (pe_ty (T := "bool") rfl T.n_bool boot_bool) pa_nil))))) (pw_or1 (pt_cmpR op_ne (pv 8) (pe_and (pe_cmpR (op_ne_dN hr) (pv 6) (pe_lstA pa_nil) (nomark _)) (pe_one (pe_not (pe_cmpR op_in_seq pe_bl (pv 6) (by with_unfolding_all rfl))))) (nomark _))))) (pss_one (ps_ret pe_bl)) pss_nil)
      (pss_cons (ps_set (i := 9) nd rfl (Or.inl rfl) (pe_def D_asked hr (pa_cons (pv 0) (pa_cons (pv 2) (pa_cons (pv 3) (pa_cons (pv 4) pa_nil))))))
      (pss_cons (ps_if (pt_cmpR (op_neT hr) (pv 9) (pv 7) (nomark _)) (pss_one (ps_ret pe_bl)) pss_nil)
      (pss_cons (ps_for PassesOwn.never rfl (pi_range2 rfl T.n_range (pa_cons pe_int (pa_cons (pe_callB call_lenN rfl T.n_len boot_len (pa_cons (pv 7) pa_nil)) pa_nil))) (pg_name (i := 10) nd rfl (Or.inl rfl)) (pss_one (ps_if (pt_cmpR op_ne (pe_callB call_isT rfl T.n_isinstance boot_isinstance (pa_cons (pe_ix ix_tup (pv 9) (pv 10) (fun _ _ => rfl)) (pa_cons (pe_ty (T := "bool") rfl T.n_bool boot_bool) pa_nil))) (pe_callB call_isT rfl T.n_isinstance boot_isinstance (pa_cons (pe_ix ix_tup (pv 7) (pv 10) (fun _ _ => rfl)) (pa_cons (pe_ty (T := "bool") rfl T.n_bool boot_bool) pa_nil))) (nomark _)) (pss_one (ps_ret pe_bl)) pss_nil)))
      (pss_cons (ps_if (pt_cmpR (op_eqT hr) (pv 7) (pe_tupA (pa_cons pe_str pa_nil)) (nomark _)) (pss_one (ps_if (pt_cmpR (op_neT hr) (pe_def D_asked hr (pa_cons (pv 0) (pa_cons (pe_op op_sub pe_int (pv 2)) (pa_cons (pv 3) (pa_cons (pv 4) pa_nil))))) (pe_tupA (pa_cons pe_str pa_nil)) (nomark _)) (pss_one (ps_ret pe_bl)) pss_nil)) pss_nil)
      (pss_one (ps_ret (pe_cmpR (op_eq_dN hr) (pe_met0 (pv 0) T.clH MT_Htold hr) (pe_def D_lholes hr (pa_cons (pv 1) pa_nil)) (nomark _)))))))))))))))), ?_⟩
    clear nd D_inside MT_Hhas D_asked MT_Htold D_lholes
    rw [show start ["_law_book", "_law_free", "_law_way", "_law_start", "_law_size", "_law_many", "_law_cells", "_law_due", "_law_found", "_law_told", "_law_k"] [.ref x, .ref pf, .int wy, v, w] = [some (.ref x), some (.ref pf), some (.int wy), some (v), some (w), none, none, none, none, none, none] from rfl]
    try dsimp only [cx_K, cx_K2]
    obtain ⟨hx, hp, h16, h240⟩ := id bk
    have iH_many : FldOk K CH "many" := ⟨T.clH, T.aH_many⟩
    have iH_free : FldOk K CH "free" := ⟨T.clH, T.aH_free⟩
    have bks : Bks fs fs.length := ⟨rfl, h16, h240⟩
    have nxp : x ≠ p := fun z => by rw [z, hp] at hx; cases hx
    have F : SH H [p] H [(p, .lst (fs.map V.bl))] [] := SH.nil.addM List.mem_cons_self hp rfl (by simp)
    have o_hx := Old.mk (M := [p]) hx (nm1 nxp)
    have o_pf := Old.mk (M := [p]) hpf (nm1 nfp)
    have o_v : OldT K H [p] v n1 := ⟨ty, fun a e => nm1 (nv.ne e hp (by omega))⟩
    have o_w : OldT K H [p] w n2 := ⟨uy, fun a e => nm1 (nw.ne e hp (by omega))⟩
    have i_v : IdV v := ⟨iv⟩
    have i_w : IdV w := ⟨iw⟩
    have few := holes_few (fs := fs)
    have em : ((fs.map V.bl).length : Int) = (fs.length : Int) := by rw [List.length_map]
    repeat k_meth
    rw [em]
    by_cases e : insV (fs.length : Int) v w = true
    · rw [e]
      obtain ⟨a, b, rfl, rfl, b1, b2⟩ := insV_nat e
      have hhv : hasV fs (.int (a : Nat)) (.int (b : Nat)) = ((fs.drop a).take b).all id := by
        rw [hasV_nat]
        unfold hasB
        rw [decide_eq_true b1, decide_eq_true b2]
        rfl
      have htv : tknV fs (.int (a : Nat)) (.int (b : Nat)) = !((fs.drop a).take b).any id := by
        rw [tknV_nat]
        unfold tknB
        rw [decide_eq_true b1, decide_eq_true b2]
        rfl
      have cne : ¬ (fs.drop a).take b = [] := fun z => by
        have := congrArg List.length z
        rw [List.length_take, List.length_drop] at this
        simp at this
        omega
      repeat k_meth
      rw [cut_bl] at F
      generalize hct : (fs.drop a).take b = ct at *
      rcases hw with rfl | rfl
      · cases hA : ct.all id with
        | true =>
          repeat k_meth
          (try rw [hhv]); (try rw [in_cut]); (try rw [in_cutT]); (try rw [hA])
          repeat k_meth
          (try rw [hhv]); (try rw [in_cut]); (try rw [in_cutT]); (try rw [hA])
          repeat k_meth
          (try rw [hhv]); (try rw [in_cut]); (try rw [in_cutT]); (try rw [hA])
          repeat k_meth
          (try rw [hhv]); (try rw [in_cut]); (try rw [in_cutT]); (try rw [hA])
          repeat k_meth
          (try rw [hhv]); (try rw [in_cut]); (try rw [in_cutT]); (try rw [hA])
          repeat k_meth
          refine ⟨x, p, dx, fs, 0, _, _, "int", "int", rfl, BkA.e, .int _, .int _, .inl ⟨rfl, .inl ⟨a, b, rfl, rfl, by rw [← hasV_nat, hhv, hA], fun q H' kp hp' hq => ?_⟩⟩⟩
          replace F := (F.kpL kp hp' LkU.u).addT hq
          clear kp hp' hq
          have bk2 : Bks (putB fs a b false) fs.length := ⟨putB_len b2, h16, h240⟩
          repeat k_meth
          refine forR_slot 10 rfl (fun j o hj => ?_) (fun o => ?_)
          · simp at hj
          · dsimp only [List.set]
            repeat k_meth
            refine ⟨x, p, dx, putB fs a b false, _, _, _, "int", "int", rfl, BkA.e, .int _, .int _, .inr ⟨by decide, .inl ⟨a, b, rfl, rfl, tkn_iff.mpr ⟨b1, by rw [putB_len b2]; exact b2, fun j j1 j2 => by rw [putB_at b2, if_pos ⟨j1, j2⟩]⟩, fun q2 H2 kp hp2 hq2 => ?_⟩⟩⟩
            rw [putB_back b2 (has_iff.mp (by rw [← hasV_nat, hhv, hA])).2.2] at hp2
            replace F := (F.kpL kp hp2 LkU.u).addT hq2
            clear kp hp2 hq2
            repeat k_meth
            exact k _ F.kpo hatC
        | false =>
          repeat k_meth
          (try rw [hhv]); (try rw [in_cut]); (try rw [in_cutT]); (try rw [hA])
          repeat k_meth
          (try rw [hhv]); (try rw [in_cut]); (try rw [in_cutT]); (try rw [hA])
          repeat k_meth
          (try rw [hhv]); (try rw [in_cut]); (try rw [in_cutT]); (try rw [hA])
          repeat k_meth
          (try rw [hhv]); (try rw [in_cut]); (try rw [in_cutT]); (try rw [hA])
          repeat k_meth
          (try rw [hhv]); (try rw [in_cut]); (try rw [in_cutT]); (try rw [hA])
          repeat k_meth
          refine ⟨x, p, dx, fs, 0, _, _, "int", "int", rfl, BkA.e, .int _, .int _, .inl ⟨rfl, .inr ⟨by rw [hhv, hA], fun q H' sm hq => ?_⟩⟩⟩
          replace F := (F.same sm).addT hq
          clear sm hq
          repeat k_meth
          refine forR_slot 10 rfl (fun j o hj => ?_) (fun o => ?_)
          · have hj : j = 0 ∨ j = 1 := by simp at hj; omega
            rcases hj with rfl | rfl
            · change gName 10 (.int 1) _ _ _
              dsimp only [List.set]
              repeat k_meth
              (try rw [show decide (isB v = isB v) = true from decide_eq_true rfl]); (try rw [show decide (isB w = isB w) = true from decide_eq_true rfl])
              repeat k_meth
              exact ⟨⟨_, rfl⟩, rfl⟩
            · change gName 10 (.int 2) _ _ _
              dsimp only [List.set]
              repeat k_meth
              (try rw [show decide (isB v = isB v) = true from decide_eq_true rfl]); (try rw [show decide (isB w = isB w) = true from decide_eq_true rfl])
              repeat k_meth
              exact ⟨⟨_, rfl⟩, rfl⟩
          · dsimp only [List.set]
            repeat k_meth
            exact k _ F.kpo hatC
      · cases hA : ct.all id <;> cases hY : ct.any id
        · repeat k_meth
          (try rw [hhv]); (try rw [in_cut]); (try rw [in_cutT]); (try rw [hA]); (try rw [hY])
          repeat k_meth
          (try rw [hhv]); (try rw [in_cut]); (try rw [in_cutT]); (try rw [hA]); (try rw [hY])
          repeat k_meth
          (try rw [hhv]); (try rw [in_cut]); (try rw [in_cutT]); (try rw [hA]); (try rw [hY])
          repeat k_meth
          (try rw [hhv]); (try rw [in_cut]); (try rw [in_cutT]); (try rw [hA]); (try rw [hY])
          repeat k_meth
          (try rw [hhv]); (try rw [in_cut]); (try rw [in_cutT]); (try rw [hA]); (try rw [hY])
          repeat k_meth
          refine ⟨x, p, dx, fs, 1, _, _, "int", "int", rfl, BkA.e, .int _, .int _, .inr ⟨rfl, .inl ⟨a, b, rfl, rfl, by rw [← tknV_nat, htv, hY]; rfl, fun q H' kp hp' hq => ?_⟩⟩⟩
          replace F := (F.kpL kp hp' LkU.u).addT hq
          clear kp hp' hq
          have bk2 : Bks (putB fs a b true) fs.length := ⟨putB_len b2, h16, h240⟩
          repeat k_meth
          refine forR_slot 10 rfl (fun j o hj => ?_) (fun o => ?_)
          · simp at hj
          · dsimp only [List.set]
            repeat k_meth
            refine ⟨x, p, dx, putB fs a b true, _, _, _, "int", "int", rfl, BkA.e, .int _, .int _, .inl ⟨by decide, .inl ⟨a, b, rfl, rfl, has_iff.mpr ⟨b1, by rw [putB_len b2]; exact b2, fun j j1 j2 => by rw [putB_at b2, if_pos ⟨j1, j2⟩]⟩, fun q2 H2 kp hp2 hq2 => ?_⟩⟩⟩
            rw [putB_back b2 (tkn_iff.mp (by rw [← tknV_nat, htv, hY]; rfl)).2.2] at hp2
            replace F := (F.kpL kp hp2 LkU.u).addT hq2
            clear kp hp2 hq2
            repeat k_meth
            exact k _ F.kpo hatC
        · repeat k_meth
          (try rw [hhv]); (try rw [in_cut]); (try rw [in_cutT]); (try rw [hA]); (try rw [hY])
          repeat k_meth
          (try rw [hhv]); (try rw [in_cut]); (try rw [in_cutT]); (try rw [hA]); (try rw [hY])
          repeat k_meth
          (try rw [hhv]); (try rw [in_cut]); (try rw [in_cutT]); (try rw [hA]); (try rw [hY])
          repeat k_meth
          (try rw [hhv]); (try rw [in_cut]); (try rw [in_cutT]); (try rw [hA]); (try rw [hY])
          repeat k_meth
          (try rw [hhv]); (try rw [in_cut]); (try rw [in_cutT]); (try rw [hA]); (try rw [hY])
          repeat k_meth
          refine ⟨x, p, dx, fs, 1, _, _, "int", "int", rfl, BkA.e, .int _, .int _, .inr ⟨rfl, .inr ⟨by rw [htv, hY]; rfl, fun q H' sm hq => ?_⟩⟩⟩
          replace F := (F.same sm).addT hq
          clear sm hq
          repeat k_meth
          refine forR_slot 10 rfl (fun j o hj => ?_) (fun o => ?_)
          · have hj : j = 0 ∨ j = 1 := by simp at hj; omega
            rcases hj with rfl | rfl
            · change gName 10 (.int 1) _ _ _
              dsimp only [List.set]
              repeat k_meth
              (try rw [show decide (isB v = isB v) = true from decide_eq_true rfl]); (try rw [show decide (isB w = isB w) = true from decide_eq_true rfl])
              repeat k_meth
              exact ⟨⟨_, rfl⟩, rfl⟩
            · change gName 10 (.int 2) _ _ _
              dsimp only [List.set]
              repeat k_meth
              (try rw [show decide (isB v = isB v) = true from decide_eq_true rfl]); (try rw [show decide (isB w = isB w) = true from decide_eq_true rfl])
              repeat k_meth
              exact ⟨⟨_, rfl⟩, rfl⟩
          · dsimp only [List.set]
            repeat k_meth
            exact k _ F.kpo hatC
        · repeat k_meth
          (try rw [hhv]); (try rw [in_cut]); (try rw [in_cutT]); (try rw [hA]); (try rw [hY])
          repeat k_meth
          (try rw [hhv]); (try rw [in_cut]); (try rw [in_cutT]); (try rw [hA]); (try rw [hY])
          repeat k_meth
          (try rw [hhv]); (try rw [in_cut]); (try rw [in_cutT]); (try rw [hA]); (try rw [hY])
          repeat k_meth
          (try rw [hhv]); (try rw [in_cut]); (try rw [in_cutT]); (try rw [hA]); (try rw [hY])
          repeat k_meth
          (try rw [hhv]); (try rw [in_cut]); (try rw [in_cutT]); (try rw [hA]); (try rw [hY])
          repeat k_meth
          refine ⟨x, p, dx, fs, 1, _, _, "int", "int", rfl, BkA.e, .int _, .int _, .inr ⟨rfl, .inl ⟨a, b, rfl, rfl, by rw [← tknV_nat, htv, hY]; rfl, fun q H' kp hp' hq => ?_⟩⟩⟩
          replace F := (F.kpL kp hp' LkU.u).addT hq
          clear kp hp' hq
          have bk2 : Bks (putB fs a b true) fs.length := ⟨putB_len b2, h16, h240⟩
          repeat k_meth
          refine forR_slot 10 rfl (fun j o hj => ?_) (fun o => ?_)
          · simp at hj
          · dsimp only [List.set]
            repeat k_meth
            refine ⟨x, p, dx, putB fs a b true, _, _, _, "int", "int", rfl, BkA.e, .int _, .int _, .inl ⟨by decide, .inl ⟨a, b, rfl, rfl, has_iff.mpr ⟨b1, by rw [putB_len b2]; exact b2, fun j j1 j2 => by rw [putB_at b2, if_pos ⟨j1, j2⟩]⟩, fun q2 H2 kp hp2 hq2 => ?_⟩⟩⟩
            rw [putB_back b2 (tkn_iff.mp (by rw [← tknV_nat, htv, hY]; rfl)).2.2] at hp2
            replace F := (F.kpL kp hp2 LkU.u).addT hq2
            clear kp hp2 hq2
            repeat k_meth
            exact k _ F.kpo hatC
        · repeat k_meth
          (try rw [hhv]); (try rw [in_cut]); (try rw [in_cutT]); (try rw [hA]); (try rw [hY])
          repeat k_meth
          (try rw [hhv]); (try rw [in_cut]); (try rw [in_cutT]); (try rw [hA]); (try rw [hY])
          repeat k_meth
          (try rw [hhv]); (try rw [in_cut]); (try rw [in_cutT]); (try rw [hA]); (try rw [hY])
          repeat k_meth
          (try rw [hhv]); (try rw [in_cut]); (try rw [in_cutT]); (try rw [hA]); (try rw [hY])
          repeat k_meth
          (try rw [hhv]); (try rw [in_cut]); (try rw [in_cutT]); (try rw [hA]); (try rw [hY])
          repeat k_meth
          refine ⟨x, p, dx, fs, 1, _, _, "int", "int", rfl, BkA.e, .int _, .int _, .inr ⟨rfl, .inr ⟨by rw [htv, hY]; rfl, fun q H' sm hq => ?_⟩⟩⟩
          replace F := (F.same sm).addT hq
          clear sm hq
          repeat k_meth
          refine forR_slot 10 rfl (fun j o hj => ?_) (fun o => ?_)
          · have hj : j = 0 ∨ j = 1 := by simp at hj; omega
            rcases hj with rfl | rfl
            · change gName 10 (.int 1) _ _ _
              dsimp only [List.set]
              repeat k_meth
              (try rw [show decide (isB v = isB v) = true from decide_eq_true rfl]); (try rw [show decide (isB w = isB w) = true from decide_eq_true rfl])
              repeat k_meth
              exact ⟨⟨_, rfl⟩, rfl⟩
            · change gName 10 (.int 2) _ _ _
              dsimp only [List.set]
              repeat k_meth
              (try rw [show decide (isB v = isB v) = true from decide_eq_true rfl]); (try rw [show decide (isB w = isB w) = true from decide_eq_true rfl])
              repeat k_meth
              exact ⟨⟨_, rfl⟩, rfl⟩
          · dsimp only [List.set]
            repeat k_meth
            exact k _ F.kpo hatC
    · have e : insV (fs.length : Int) v w = false := by simpa using e
      have hV := hasV_ins e
      have tV := tknV_ins e
      rw [e]
      rcases hw with rfl | rfl
      · repeat k_meth
        rw [hV]
        repeat k_meth
        refine ⟨x, p, dx, fs, 0, v, w, n1, n2, rfl, BkA.e, TyA.e, TyA.e, .inl ⟨rfl, .inr ⟨hV, fun q H' sm hq => ?_⟩⟩⟩
        replace F := (F.same sm).addT hq
        clear sm hq
        repeat k_meth
        refine forR_slot 10 rfl (fun j o hj => ?_) (fun o => ?_)
        · have hj : j = 0 ∨ j = 1 := by simp at hj; omega
          rcases hj with rfl | rfl
          · change gName 10 (.int 1) _ _ _
            dsimp only [List.set]
            repeat k_meth
            (try rw [show decide (isB v = isB v) = true from decide_eq_true rfl]); (try rw [show decide (isB w = isB w) = true from decide_eq_true rfl])
            repeat k_meth
            exact ⟨⟨_, rfl⟩, rfl⟩
          · change gName 10 (.int 2) _ _ _
            dsimp only [List.set]
            repeat k_meth
            (try rw [show decide (isB v = isB v) = true from decide_eq_true rfl]); (try rw [show decide (isB w = isB w) = true from decide_eq_true rfl])
            repeat k_meth
            exact ⟨⟨_, rfl⟩, rfl⟩
        · dsimp only [List.set]
          repeat k_meth
          exact k _ F.kpo hatC
      · repeat k_meth
        rw [hV]
        repeat k_meth
        refine ⟨x, p, dx, fs, 1, v, w, n1, n2, rfl, BkA.e, TyA.e, TyA.e, .inr ⟨rfl, .inr ⟨tV, fun q H' sm hq => ?_⟩⟩⟩
        replace F := (F.same sm).addT hq
        clear sm hq
        repeat k_meth
        refine forR_slot 10 rfl (fun j o hj => ?_) (fun o => ?_)
        · have hj : j = 0 ∨ j = 1 := by simp at hj; omega
          rcases hj with rfl | rfl
          · change gName 10 (.int 1) _ _ _
            dsimp only [List.set]
            repeat k_meth
            (try rw [show decide (isB v = isB v) = true from decide_eq_true rfl]); (try rw [show decide (isB w = isB w) = true from decide_eq_true rfl])
            repeat k_meth
            exact ⟨⟨_, rfl⟩, rfl⟩
          · change gName 10 (.int 2) _ _ _
            dsimp only [List.set]
            repeat k_meth
            (try rw [show decide (isB v = isB v) = true from decide_eq_true rfl]); (try rw [show decide (isB w = isB w) = true from decide_eq_true rfl])
            repeat k_meth
            exact ⟨⟨_, rfl⟩, rfl⟩
        · dsimp only [List.set]
          repeat k_meth
          exact k _ F.kpo hatC
end
end K23
set_option Elab.async false
set_option linter.all false
set_option maxRecDepth 100000
set_option maxHeartbeats 4000000
namespace K23
open PySem L2 PyProof.Rows
local macro_rules | `(tactic| k_room) => `(tactic| first
  | with_reducible assumption
  | with_unfolding_all exact rfl
  | with_unfolding_all exact Nat.le_of_ble_eq_true rfl
  | omega
  | (with_reducible refine small_line ?_; first | omega | (simp only [List.length_cons, List.length_nil, List.length_map, List.length_append, List.length_replicate, rowsN_len, List.length_take, List.length_drop, List.length_set]; omega))
  | (with_reducible refine small_lt ?_; first | omega | (simp only [List.length_cons, List.length_nil, List.length_map, List.length_append, List.length_replicate, rowsN_len, List.length_take, List.length_drop, List.length_set]; omega))
  | (simp only [List.length_cons, List.length_nil, List.length_map, List.length_append, List.length_replicate, rowsN_len, List.length_take, List.length_drop, List.length_set]; omega)
  | decide)
local macro_rules | `(tactic| k_mem) => `(tactic| first
  | with_reducible assumption
  | decide
  | omega
  | (simp only [List.length_cons, List.length_nil, List.length_map, List.length_append, List.length_replicate, rowsN_len, List.length_take, List.length_drop, List.length_set]; omega))
set_option hygiene false in
local macro_rules | `(tactic| k_meth) => `(tactic| first
  | with_reducible refine go1 ?_
  | (intro H_ a_ dx_ (F_ : SH _ _ _ _ _) (ex_ : ExcT _ _ _ _); clear F; (have F := F_); clear F_; have exA_ := ExA.mk ex_)
  | (intro H_ (F_ : SH _ _ _ _ _); clear F; (have F := F_); clear F_)
  | (intro H_ p_ (F_ : SH _ _ _ _ _); clear F; (have F := F_); clear F_)
  | (intro H_ x_ dx_ (F_ : SH _ _ _ _ _); clear F; (have F := F_); clear F_)
  | (intro H_ p_ ys_ l_ (F_ : SH _ _ _ _ _); clear F; (have F := F_); clear F_)
  | with_reducible refine sd (by k_room) ?_
  | (intro (r_ : Int) (x_ : Int) (y_ : Int) (z_ : Int) lo_ hi_)
  | (intro (x_ : Int) (y_ : Int))
  | (intro (c_ : Int))
  | with_reducible refine i_pos (by k_mem) ?_
  | with_reducible refine i_neg (by k_mem) ?_
  | with_reducible refine i_npos (by k_mem) ?_
  | with_reducible refine i_nneg (by k_mem) ?_)
open M22
/-- what a call did, seen from further out -/
theorem SH.over {H0 H H' : Hp} {M M2 : List Addr} {A R L2 : List (Addr × HO)} {I I2 : List Im} (F : SH H0 M H (A ++ R) I) (G : SH H M2 H' L2 I2) (e : A.map (·.1) = M2) : SH H0 M H' (L2 ++ R) (I2 ++ I) := by
  have nd := F.nd
  rw [List.map_append, e] at nd
  obtain ⟨nd1, nd2, nd3⟩ := List.nodup_append.mp nd
  have inA : ∀ {b}, b ∈ M2 → ∃ c ∈ A, c.1 = b := fun h => by rw [← e] at h; exact List.mem_map.mp h
  have st : Tst H H' := fun q u tu hq => by
    refine G.fr q u (fun hm => ?_) hq
    obtain ⟨c, hc, rfl⟩ := inA hm
    have h1 := F.at' c (List.mem_append_left _ hc)
    have h2 := F.mu c (List.mem_append_left _ hc)
    rw [hq] at h1
    cases h1
    rw [h2] at tu
    cases tu
  have rn : ∀ {c}, c ∈ R → c.1 ∉ M2 := fun hc hm => nd3 _ hm _ (List.mem_map.mpr ⟨_, hc, rfl⟩) rfl
  refine ⟨fun b u nb e0 => ?_, fun f hf => ?_, fun c hc => ?_, ?_, fun c hc => ?_, fun c hc => ?_⟩
  · refine G.fr b u (fun hm => ?_) (F.fr b u nb e0)
    obtain ⟨c, hc, rfl⟩ := inA hm
    rcases F.ch c (List.mem_append_left _ hc) with h | h
    · exact nb h
    · exact h _ u e0 rfl
  · rcases List.mem_append.mp hf with hf | hf
    · exact G.im f hf
    · exact Im.stay st (F.im f hf)
  · rcases List.mem_append.mp hc with hc | hc
    · exact G.at' c hc
    · exact G.fr _ _ (rn hc) (F.at' c (List.mem_append_right _ hc))
  · rw [List.map_append]
    refine List.nodup_append.mpr ⟨G.nd, nd2, fun a ha b hb => ?_⟩
    obtain ⟨c, hc, rfl⟩ := List.mem_map.mp ha
    obtain ⟨d, hd, rfl⟩ := List.mem_map.mp hb
    rcases G.ch c hc with h | h
    · exact fun z => rn hd (z ▸ h)
    · exact fun z => h d.1 _ (F.at' d (List.mem_append_right _ hd)) z.symm
  · rcases List.mem_append.mp hc with hc | hc
    · exact G.mu c hc
    · exact F.mu c (List.mem_append_right _ hc)
  · rcases List.mem_append.mp hc with hc | hc
    · rcases G.ch c hc with h | h
      · obtain ⟨d, hd, ed⟩ := inA h
        rw [← ed]
        exact F.ch d (List.mem_append_left _ hd)
      · by_cases hm : c.1 ∈ M
        · exact .inl hm
        · exact .inr fun b u e0 z => h b u (F.fr b u (by rw [z]; exact hm) e0) z
    · exact F.ch c (List.mem_append_right _ hc)
theorem SH.cut {H0 H : Hp} {M M2 : List Addr} {A R : List (Addr × HO)} {I : List Im} (F : SH H0 M H (A ++ R) I) (e : A.map (·.1) = M2) : SH H M2 H A [] := by
  have nd := F.nd
  rw [List.map_append] at nd
  exact ⟨fun _ _ _ h => h, (fun f hf => by cases hf), fun c hc => F.at' c (List.mem_append_left _ hc), (List.nodup_append.mp nd).1, fun c hc => F.mu c (List.mem_append_left _ hc), fun c hc => .inl (by rw [← e]; exact List.mem_map.mpr ⟨c, hc, rfl⟩)⟩
theorem slc_put {fs : List Bool} {st sz : Nat} {v : Bool} : (fs.map V.bl).take (st : Int).toNat ++ (List.replicate sz v).map V.bl ++ (fs.map V.bl).drop ((st : Int) + (sz : Int)).toNat = (putB fs st sz v).map V.bl := by
  rw [show (st : Int).toNat = st by omega, show ((st : Int) + (sz : Int)).toNat = st + sz by omega]
  unfold putB
  simp
theorem NotB.kept {K : PySem.W.Frag} {H H' : Hp} {v : V} {n : String} (h : NotB H v) (ty : TyOf K H v (.type n)) (s : ∀ a u, v = .ref a → H a = some u → H' a = some u) : NotB H' v := fun a bs e ha => by
  subst e
  have hs : ∃ u, H a = some u := by cases ty <;> exact ⟨_, by assumption⟩
  obtain ⟨u, hu⟩ := hs
  have := s a _ rfl hu
  rw [this] at ha
  exact h a bs rfl (by rw [hu, ← ha])
def sp_law (K : PySem.W.Frag) : Sp := fun vs H Q _ => ∃ (a : Addr) (ns : List Int), vs = [.ref a] ∧ SqL K H a (ns.map V.int) ∧ ns.length ≤ 63 ∧ ∀ H', Q (.bl true) H'
theorem pick3 {r : Int} {v : V} (h0 : 0 ≤ r) (h1 : r < 45) (hv : v ∈ [V.int 16, V.int 240, V.int (16 + r)]) : ∃ m : Nat, v = .int m ∧ 16 ≤ m ∧ m ≤ 240 := by
  simp only [List.mem_cons, List.not_mem_nil, or_false] at hv
  rcases hv with rfl | rfl | rfl
  · exact ⟨16, rfl, by decide, by decide⟩
  · exact ⟨240, rfl, by decide, by decide⟩
  · exact ⟨(16 + r).toNat, by congr 1; omega, by omega, by omega⟩
theorem has_of {fs : List Bool} {st sz : Nat} (h1 : 1 ≤ sz) (h2 : st + sz ≤ fs.length) (h : ∀ j, st ≤ j → j < st + sz → fs[j]? = some true) : hasB fs st sz = true := has_iff.mpr ⟨h1, h2, h⟩
section
variable {CH CF x dx : Addr} {H : Hp} {Q : VK} {E : XK} {K : PySem.W.Frag} {n : Nat}
instance go_HinitT [h : Hat H x (.ins CH dx [])] : Go (sp_HinitV K CH CF [.ref x, .int (n : Nat)] H Q E) (Sd (16 ≤ n ∧ n ≤ 240) (∀ (p : Addr) (H1 : Hp), New H H1 p (.lst ((List.replicate n true).map V.bl)) → ∀ H2, L2.Off x H1 H2 → H2 x = some (.ins CH dx (hF n p)) → Q .non H2)) := by
  refine ⟨fun s => ⟨x, dx, _, "int", rfl, h.e, .int _, .inl ⟨n, rfl, s.1.1, s.1.2, fun p H' kp ex ep fr => ?_⟩⟩⟩
  have hx := h.e
  have nxp : x ≠ p := fr x _ hx
  let H1 : Hp := fun b => if b = x then H x else H' b
  have h1x : H1 x = H x := if_pos rfl
  have h1n : ∀ {b : Addr}, b ≠ x → H1 b = H' b := fun n => if_neg n
  refine s.2 p H1 ⟨fun b u eb => ?_, ?_, fun b u eb => fr b u eb⟩ H' (fun b nb => (h1n nb).symm) ex
  · by_cases hb : b = x
    · rw [hb, h1x, ← hb]
      exact eb
    · rw [h1n hb]
      exact kp b u hb eb
  · rw [h1n (Ne.symm nxp)]
    exact ep
end
section
variable {P : Program} {w : World} {K : PySem.W.Frag} {mg : Str → Option Value} {base : Heap} {c : Nat → Addr} {R CH : Addr}
theorem ok_law (T : Txt K mg c R CH) {f : Addr} {fd : FuncData} (F : Fun K "law" "law" s_law f fd) : FnOk P w K mg base CX0 8 f fd ["_law_script"] (sp_law K) := by
  have D_box := D_box (P := P) (w := w) (base := base) T
  have MK_Hinit := MK_Hinit (P := P) (w := w) (base := base) T
  have D_cell_at := D_cell_at (P := P) (w := w) (base := base) T
  have D_take := D_take (P := P) (w := w) (base := base) T
  have MT_Htold := MT_Htold (P := P) (w := w) (base := base) T
  have D_lholes := D_lholes (P := P) (w := w) (base := base) T
  have MT_Htake := MT_Htake (P := P) (w := w) (base := base) T
  have D_lstretch := D_lstretch (P := P) (w := w) (base := base) T
  have D_noplace := D_noplace (P := P) (w := w) (base := base) T
  have D_nomany := D_nomany (P := P) (w := w) (base := base) T
  have D_tried := D_tried (P := P) (w := w) (base := base) T
  refine fnok_of F sc_law (fun vs H Q E h => ?_) (fun cdv A outer s H vs Q E hr h => ?_)
  · obtain ⟨a, ns, rfl, _⟩ := h
    rfl
  · obtain ⟨a, ns, rfl, hS, hl, k⟩ := h
    have nd := sc_law.nd
    refine' ⟨_, (pss_cons (ps_set (i := 1) nd rfl (Or.inl rfl) (pe_def D_box hr (pa_cons (pe_def D_cell_at hr (pa_cons (pv 0) (pa_cons pe_int pa_nil))) pa_nil)))
      (pss_cons (ps_set (i := 2) nd rfl (Or.inl rfl) (pe_ix ix_list (pe_lstA (pa_cons pe_int (pa_cons pe_int (pa_cons (pe_op op_add pe_int (pe_def D_take hr (pa_cons (pv 1) (pa_cons pe_int pa_nil)))) pa_nil)))) (pe_def D_take hr (pa_cons (pv 1) (pa_cons pe_int pa_nil))) (fun _ _ => rfl)))
      (pss_cons (ps_set (i := 3) nd rfl (Or.inl rfl) (pe_makB MK_Hinit hr (pa_cons (pv 2) pa_nil) (hx := pass10)))
      (pss_cons (ps_set (i := 4) nd rfl (Or.inl rfl) (pe_op op_repA (pe_lstA (pa_cons pe_bl pa_nil)) (pv 2)))
      (pss_cons (ps_set (i := 5) nd rfl (Or.inl rfl) pe_int)
      (pss_cons (ps_for PassesOwn.never rfl (pi_range1 rfl T.n_range (pa_cons (pe_op op_add pe_int (pe_def D_take hr (pa_cons (pv 1) (pa_cons pe_int pa_nil)))) pa_nil)) (pg_name (i := 6) nd rfl (Or.inl rfl)) (pss_cons (ps_set (i := 7) nd rfl (Or.inl rfl) (pe_op op_add (pv 5) (pe_def D_take hr (pa_cons (pv 1) (pa_cons pe_int pa_nil)))))
        (pss_cons (ps_set (i := 8) nd rfl (Or.inl rfl) (pe_op op_add pe_int (pe_def D_take hr (pa_cons (pv 1) (pa_cons pe_int pa_nil)))))
        (pss_one (ps_if (pt_cmpR op_le (pe_op op_add (pv 7) (pv 8)) (pv 2) (nomark _)) (pss_cons (ps_expr (pe_met (pv 3) T.clH MT_Htake hr (pa_cons (pv 7) (pa_cons (pv 8) pa_nil)) (hx := pass10)))
          (pss_cons (ps_asg (pe_op op_repA (pe_lstA (pa_cons pe_bl pa_nil)) (pv 8)) (pg_slc2 (pv 4) (pv 7) (pe_op op_add (pv 7) (pv 8))))
          (pss_one (ps_set (i := 5) nd rfl (Or.inl rfl) (pe_op op_add (pv 7) (pv 8)))))) pss_nil)))))
      (pss_cons (ps_for PassesOwn.never rfl (pi_range2 rfl T.n_range (pa_cons pe_int (pa_cons (pe_callB (call_maxN rfl) rfl T.n_max boot_max (pa_cons pe_int (pa_cons (pe_callB (call_minN rfl) rfl T.n_min boot_min (pa_cons (pe_callB call_lenN rfl T.n_len boot_len (pa_cons (pv 0) pa_nil)) (pa_cons pe_int pa_nil))) pa_nil))) pa_nil))) (pg_name (i := 9) nd rfl (Or.inl rfl)) (pss_cons (ps_set (i := 10) nd rfl (Or.inl rfl) (pe_def D_box hr (pa_cons (pe_def D_cell_at hr (pa_cons (pv 0) (pa_cons (pv 9) pa_nil))) pa_nil)))
        (pss_cons (ps_for PassesOwn.never rfl (pi_range1 rfl T.n_range (pa_cons pe_int pa_nil)) (pg_name (i := 6) nd rfl (Or.inl rfl)) (pss_cons (ps_asg (pe_def D_lstretch hr (pa_cons (pv 10) (pa_cons (pv 4) pa_nil))) (pg_tup rfl (pgs_cons (pg_name (i := 7) nd rfl (Or.inl rfl)) (pgs_cons (pg_name (i := 8) nd rfl (Or.inl rfl)) pgs_nil))))
          (pss_one (ps_if (pt_not (pt_val (pe_def D_tried hr (pa_cons (pv 3) (pa_cons (pv 4) (pa_cons (pe_def D_take hr (pa_cons (pv 10) (pa_cons pe_int pa_nil))) (pa_cons (pv 7) (pa_cons (pv 8) pa_nil)))))))) (pss_one (ps_ret pe_bl)) pss_nil))))
        (pss_cons (ps_if (pt_not (pt_val (pe_def D_noplace hr (pa_cons (pv 3) (pa_cons (pe_ix ix_list (pe_lstA ?pa) (pe_def D_take hr (pa_cons (pv 10) (pa_cons pe_int pa_nil))) (fun _ _ => rfl)) pa_nil))))) (pss_one (ps_ret pe_bl)) pss_nil)
        (pss_one (ps_if (pt_not (pt_val (pe_def D_nomany hr (pa_cons (pe_ix ix_list (pe_lstA ?pb) (pe_def D_take hr (pa_cons (pv 10) (pa_cons pe_int pa_nil))) (fun _ _ => rfl)) pa_nil)))) (pss_one (ps_ret pe_bl)) pss_nil))))))
      (pss_one (ps_ret (pe_cmpR (op_eq_dN hr) (pe_met0 (pv 3) T.clH MT_Htold hr) (pe_def D_lholes hr (pa_cons (pv 4) pa_nil)) (nomark _))))))))))), ?main⟩
    case pa =>
      refine' pa_cons ?a0 ?b0 ?c0
      case a0 => exact pe_non
      case c0 => rfl
      case b0 =>
        refine' pa_cons ?a1 ?b1 ?c1
        case a1 => exact (pe_un un_neg pe_int)
        case c1 => rfl
        case b1 =>
          refine' pa_cons ?a2 ?b2 ?c2
          case a2 => exact (pv 2)
          case c2 => rfl
          case b2 =>
            refine' pa_cons ?a3 ?b3 ?c3
            case a3 => exact pe_bl
            case c3 => rfl
            case b3 =>
              refine' pa_cons ?a4 ?b4 ?c4
              case a4 => exact pe_str
              case c4 => rfl
              case b4 =>
                refine' pa_cons ?a5 ?b5 ?c5
                case a5 => exact (pe_lstA (pa_cons pe_int pa_nil))
                case c5 => rfl
                case b5 =>
                  refine' pa_cons ?a6 ?b6 ?c6
                  case a6 => exact (pe_tupA pa_nil)
                  case c6 => rfl
                  case b6 =>
                    refine' pa_cons ?a7 ?b7 ?c7
                    case a7 => exact (pe_op op_pow pe_int pe_int)
                    case c7 => rfl
                    case b7 =>
                      refine' pa_cons ?a8 ?b8 ?c8
                      case a8 => exact pe_bl
                      case c8 => rfl
                      case b8 =>
                        exact pa_nil
    case pb =>
      refine' pa_cons ?a0 ?b0 ?c0
      case a0 => exact pe_int
      case c0 => rfl
      case b0 =>
        refine' pa_cons ?a1 ?b1 ?c1
        case a1 => exact pe_int
        case c1 => rfl
        case b1 =>
          refine' pa_cons ?a2 ?b2 ?c2
          case a2 => exact pe_non
          case c2 => rfl
          case b2 =>
            refine' pa_cons ?a3 ?b3 ?c3
            case a3 => exact pe_bl
            case c3 => rfl
            case b3 =>
              refine' pa_cons ?a4 ?b4 ?c4
              case a4 => exact pe_str
              case c4 => rfl
              case b4 =>
                refine' pa_cons ?a5 ?b5 ?c5
                case a5 => exact pe_int
                case c5 => rfl
                case b5 =>
                  refine' pa_cons ?a6 ?b6 ?c6
                  case a6 => exact (pe_un un_neg pe_int)
                  case c6 => rfl
                  case b6 =>
                    refine' pa_cons ?a7 ?b7 ?c7
                    case a7 => exact (pe_lstA (pa_cons pe_int pa_nil))
                    case c7 => rfl
                    case b7 =>
                      refine' pa_cons ?a8 ?b8 ?c8
                      case a8 => exact (pe_op op_pow pe_int pe_int)
                      case c8 => rfl
                      case b8 =>
                        exact pa_nil
    clear nd D_box MK_Hinit D_cell_at D_take MT_Htold D_lholes MT_Htake D_lstretch D_noplace D_nomany D_tried
    rw [show start ["_law_script", "_law_first", "_law_many", "_law_book", "_law_free", "_law_at", "_law_turn", "_law_start", "_law_size", "_law_k", "_law_box_here"] [.ref a] = [some (.ref a), none, none, none, none, none, none, none, none, none, none] from rfl]
    try dsimp only [cx_K, cx_K2]
    have iH_many : FldOk K CH "many" := ⟨T.clH, T.aH_many⟩
    have iH_free : FldOk K CH "free" := ⟨T.clH, T.aH_free⟩
    have o_hS := OldQ.mk (M := []) hS nm0
    have F : SH H [] H [] [] := SH.nil
    repeat k_meth
    refine w_ixM SqA.e lo_ (by show r_ < 3; exact hi_) fun v hv => ?_
    obtain ⟨n, rfl, n16, n240⟩ := pick3 (by assumption) (by assumption) hv
    have sn : 16 ≤ n ∧ n ≤ 240 := ⟨n16, n240⟩
    clear lo_ hi_ hv
    repeat k_meth
    rename_i fbx _ _ _ _ _ _ _ _ _ _ _ _ _ _ _ bk _ p _ _ _ _
    rename Addr => f
    obtain ⟨db, edb⟩ : ∃ z, z = dx_ := ⟨_, rfl⟩
    subst edb
    generalize (1 + r_).toNat = N1
    refine forR0_by (fun i σ' H' => ∃ (o6 o7 o8 : Option V) (t : Nat) (fs : List Bool) (x y z : Int), σ' = [some (.ref a), some (.ref fbx), some (.int (n : Nat)), some (.ref bk), some (.ref f), some (.int (t : Nat)), o6, o7, o8, none, none] ∧ t ≤ n ∧ Bks fs n ∧ (∀ j, t ≤ j → j < n → fs[j]? = some true) ∧ SH H [] H' [(bk, .ins CH db (hF n p)), (p, .lst (fs.map V.bl)), (f, .lst (fs.map V.bl)), (fbx, .lst [.int x, .int y, .int z])] []) ⟨_, _, _, 0, List.replicate n true, x_, y_, z_, rfl, Nat.zero_le n, ⟨by simp, n16, n240⟩, fun j _ hj => by simp [hj], F.subC⟩ ?_ ?_
    · clear F
      rintro i σ' H' hi ⟨_, _, _, t, fs, x, y, z, rfl, htn, bks, free, F⟩
      repeat k_meth
      rename_i rs _ _ _ rl rh _
      obtain ⟨st, hst, st1⟩ : ∃ st : Nat, (t : Int) + rs = (st : Int) ∧ t ≤ st := ⟨((t : Int) + rs).toNat, by omega, by omega⟩
      obtain ⟨sz, hsz, sz1⟩ : ∃ sz : Nat, 1 + r_ = (sz : Int) ∧ 1 ≤ sz := ⟨(1 + r_).toNat, by omega, by omega⟩
      have fl := bks.e
      rw [hst, hsz]
      refine i_dec (fun h => ?_) (fun h => ?_)
      · have hb : hasB fs st sz = true := has_of sz1 (by omega) fun j j1 j2 => free j (by omega) (by omega)
        have ht : HasT fs st sz := ⟨hb⟩
        repeat k_meth
        rw [slc_put] at F
        exact ⟨_, _, _, st + sz, putB fs st sz false, x_, y_, z_, rfl, by omega, ⟨by rw [putB_len (by omega)]; exact fl, n16, n240⟩, fun j j1 j2 => by rw [putB_at (by omega), if_neg (by omega)]; exact free j (by omega) j2, F.subC⟩
      · repeat k_meth
        exact ⟨_, _, _, t, fs, x_, y_, z_, rfl, htn, bks, free, F.subC⟩
    · clear F
      rintro σ' H' ⟨o6, o7, o8, t, fs, x, y, z, rfl, htn, bks, free, F⟩
      have fl := bks.e
      repeat k_meth
      generalize hN : (max 4 (min ((ns.map V.int).length : Int) 21) - 1).toNat = N
      refine forR_by (fun i σ' H' => ∃ (o6 o7 o8 o9 o10 : Option V), σ' = [some (.ref a), some (.ref fbx), some (.int (n : Nat)), some (.ref bk), some (.ref f), some (.int (t : Nat)), o6, o7, o8, o9, o10] ∧ SH H [] H' [(bk, .ins CH db (hF n p)), (p, .lst (fs.map V.bl)), (f, .lst (fs.map V.bl))] []) ⟨_, _, _, _, _, rfl, F.subC⟩ ?_ ?_
      · clear F
        rintro i σ' H' hi ⟨_, _, _, _, _, rfl, F⟩
        repeat k_meth
        rename Addr => bx
        rw [show (2 : Int).toNat = 2 from rfl]
        refine forR0_by (fun i' σ' H' => ∃ (o6 o7 o8 : Option V) (x y z : Int), σ' = [some (.ref a), some (.ref fbx), some (.int (n : Nat)), some (.ref bk), some (.ref f), some (.int (t : Nat)), o6, o7, o8, some (.int (1 + (i : Int))), some (.ref bx)] ∧ SH H [] H' [(bk, .ins CH db (hF n p)), (p, .lst (fs.map V.bl)), (f, .lst (fs.map V.bl)), (bx, .lst [.int x, .int y, .int z])] []) ⟨_, _, _, _, _, _, rfl, F.subC (L' := [(bk, .ins CH db (hF n p)), (p, .lst (fs.map V.bl)), (f, .lst (fs.map V.bl)), (bx, .lst [.int x_, .int y_, .int 0])])⟩ ?_ ?_
        · clear F
          rintro i' σ' H' hi' ⟨_, _, _, x, y, z, rfl, F⟩
          repeat k_meth
          refine ⟨bx, f, x, y, z, fs, rfl, hatC, hatC, ⟨by omega, by omega⟩, fun x1 y1 z1 v w n1 n2 q H2 kp hb tv iv nv xv tw iw nw xw hq => ?_⟩
          have F2 := F.kpL kp hb LkU.u
          have F1 : SH H [] H2 ([(bx, .lst [.int x1, .int y1, .int z1]), (p, .lst (fs.map V.bl))] ++ [(bk, .ins CH db (hF n p)), (f, .lst (fs.map V.bl))]) [] := F2.subC (L' := [(bx, .lst [.int x1, .int y1, .int z1]), (p, .lst (fs.map V.bl)), (bk, .ins CH db (hF n p)), (f, .lst (fs.map V.bl))])
          have hbk : H2 bk = some (.ins CH db (hF n p)) := F1.raw (by simp)
          have hf : H2 f = some (.lst (fs.map V.bl)) := F1.raw (by simp)
          have hp : H2 p = some (.lst (fs.map V.bl)) := F1.raw (by simp)
          have nd := F1.nd
          have n1b : bk ≠ bx := fun z => by rw [z, hb] at hbk; cases hbk
          have n1p : bk ≠ p := fun z => by rw [z, hp] at hbk; cases hbk
          have nfb : f ≠ bx := fun z => by simp [z] at nd
          have nfp : f ≠ p := fun z => by simp [z] at nd
          have nqb : q ≠ bx := fun z => by rw [z, hb] at hq; cases hq
          have nqp : q ≠ p := fun z => by rw [z, hp] at hq; cases hq
          clear F F2 nd kp
          have F : SH H2 [bx, p] H2 [(bx, .lst [.int x1, .int y1, .int z1]), (p, .lst (fs.map V.bl))] [] := SH.cut F1 rfl
          have o_bk := Old.mk (M := [bx, p]) hbk (by simp [n1b, n1p])
          have o_f := Old.mk (M := [bx, p]) hf (by simp [nfb, nfp])
          have o_q := Old.mk (M := [bx, p]) hq (by simp [nqb, nqp])
          have mv : ∀ a, v = .ref a → a ∉ [bx, p] := fun a e => by simp [xv a e, nv.ne e hp (by omega)]
          have mw : ∀ a, w = .ref a → a ∉ [bx, p] := fun a e => by simp [xw a e, nw.ne e hp (by omega)]
          have o_v : OldT K H2 [bx, p] v n1 := ⟨tv, mv⟩
          have o_w : OldT K H2 [bx, p] w n2 := ⟨tw, mw⟩
          repeat k_meth
          refine ⟨bk, p, db, f, fs, r_, v, w, n1, n2, rfl, BkA.e, hatC, nfp, by omega, TyA.e, iv, nv.kept tv (fun a u e hu => F.fr a u (mv a e) hu), TyA.e, iw, nw.kept tw (fun a u e hu => F.fr a u (mw a e) hu), fun H3 kp3 hp3 => ?_⟩
          replace F := F.kpL kp3 hp3 LkU.u
          repeat k_meth
          exact ⟨_, _, _, x_, y_, z_, rfl, (SH.over F1 F rfl).sub (L := [(bx, .lst [.int x_, .int y_, .int z_]), (p, .lst (fs.map V.bl)), (bk, .ins CH db (hF n p)), (f, .lst (fs.map V.bl))]) SbC.s (by simp)⟩
        · clear F
          rintro σ' H' ⟨_, _, _, x, y, z, rfl, F⟩
          repeat k_meth
          refine w_ixM SqA.e lo_ (by show r_ < 9; exact hi_) fun v hv => ?_
          obtain ⟨n1, ty, iv, hb⟩ : ∃ n1, TyOf K H_ v (.type n1) ∧ idV v = true ∧ inB v 0 ((fs.length : Int) - 1) = false := by
            simp only [List.mem_cons, List.not_mem_nil, or_false] at hv
            rcases hv with rfl | rfl | rfl | rfl | rfl | rfl | rfl | rfl | rfl <;> exact ⟨_, TyA.e, rfl, by first | rfl | (simp [inB]; done) | (simp [inB]; omega)⟩
          clear lo_ hi_ hv
          repeat k_meth
          refine ⟨bk, p, db, fs, v, n1, rfl, BkA.e, ty, iv, hb, fun H4 sm => ?_⟩
          replace F := F.same sm
          clear sm ty iv hb
          repeat k_meth
          refine w_ixM SqA.e lo_ (by show r_ < 9; exact hi_) fun v hv => ?_
          obtain ⟨n1, ty, iv, hb⟩ : ∃ n1, TyOf K H_ v (.type n1) ∧ idV v = true ∧ inB v 16 240 = false := by
            simp only [List.mem_cons, List.not_mem_nil, or_false] at hv
            rcases hv with rfl | rfl | rfl | rfl | rfl | rfl | rfl | rfl | rfl <;> exact ⟨_, TyA.e, rfl, by first | rfl | (simp [inB]; done) | (simp [inB]; omega)⟩
          clear lo_ hi_ hv
          repeat k_meth
          refine ⟨v, n1, rfl, ty, iv, hb, fun H4 sm => ?_⟩
          replace F := F.same sm
          clear sm ty iv hb
          repeat k_meth
          exact ⟨_, _, _, _, _, rfl, F.subC⟩
      · clear F
        rintro σ' H' ⟨_, _, _, _, _, rfl, F⟩
        repeat k_meth
        exact k _
end
end K23
set_option Elab.async false
set_option linter.all false
set_option maxRecDepth 100000
set_option maxHeartbeats 4000000
namespace K23
open PySem L2 PyProof.Rows
theorem all_mk {l : PySem.W.OpenLaw} {w : World} {K : PySem.W.Frag} {h : Heap} {mg : Str → Option Value} {fa g0_ g1_ g2_ g3_ g4_ g5_ g6_ g7_ g8_ g9_ g10_ g11_ g12_ g13_ g14_ g15_ g16_ g17_ g18_ g19_ g20_ : Addr} (X : K.In h) (G : h.Ns mainGlobals mg) (hfa : mg "law" = some (.ref fa))
    {R : Addr}
    (eR : PySem.W.nsIn K mainGlobals "RoomError" = some (some (.ref R)))
    (eh : PySem.W.specialIn K (.builtin "object.__class__") "__get__" = some (some (.builtin "getset_descriptor.__get__")))
    (et : PySem.W.takesIn K (.builtin "object.__class__") = some true)
    {C0 N0 x0 : Addr} {nm0 q0 : Str} {bs0 : List Value} {sn0 : List Str} {sub0 : List Value} {ab0 : Bool} {col0 : Option Bool} {dd0 : Option Addr} {k00_ k10_ k20_ k30_ k50_ : Option Value}
    (ea0 : PySem.W.nsIn K mainGlobals "NoMany" = some (some (.ref C0)))
    (el0 : K.lookup C0 = some (excClassObj nm0 q0 C0 N0 bs0 [.ref R, .type "ValueError", .type "Exception", .type "BaseException", .type "object"] true sn0 sub0 ab0 col0 dd0 k00_ k10_ k20_ k30_ k50_ "ValueError.__new__"))
    {xd0 xn0 : Option Addr} {xs0 : Array (Option Value)} {xk0 xo0 xp0 xc0 xt0 : Value}
    (ei0 : PySem.W.findIn K (.ref C0) "__init__" = some (some (.ref x0)))
    (ef0 : K.lookup x0 = some ⟨.type "function", xd0, .func (PySem.W.fnOf "__init__" "NoMany.__init__" (defArgs i_NoMany) (defBody i_NoMany) (defScope i_NoMany) .none xk0 xo0 xp0 xn0 xc0 xt0), xs0⟩)
    (ec0 : PySem.W.codeIn K xc0 "NoMany.__init__" = true) (ek0 : PySem.W.keepIn K (.ref x0) = true) (es0 : PySem.W.findIn K (.ref C0) "__setattr__" = some (some (.builtin "object.__setattr__")))
    (em0 : PySem.W.keepIn K (.ref C0) = true) (eg0 : PySem.W.findIn K (.ref C0) "__getattribute__" = some (some (.builtin "BaseException.__getattribute__"))) (eb0 : PySem.W.findIn K (.ref C0) "__getattr__" = some none) (ej0 : PySem.W.findIn K (.ref C0) "__class__" = some (some (.builtin "object.__class__")))
    (en0_0 : PySem.W.findIn K (.ref C0) "many" = some none)
    {C1 N1 x1 : Addr} {nm1 q1 : Str} {bs1 : List Value} {sn1 : List Str} {sub1 : List Value} {ab1 : Bool} {col1 : Option Bool} {dd1 : Option Addr} {k01_ k11_ k21_ k31_ k51_ : Option Value}
    (ea1 : PySem.W.nsIn K mainGlobals "NoPlace" = some (some (.ref C1)))
    (el1 : K.lookup C1 = some (excClassObj nm1 q1 C1 N1 bs1 [.ref R, .type "ValueError", .type "Exception", .type "BaseException", .type "object"] true sn1 sub1 ab1 col1 dd1 k01_ k11_ k21_ k31_ k51_ "ValueError.__new__"))
    {xd1 xn1 : Option Addr} {xs1 : Array (Option Value)} {xk1 xo1 xp1 xc1 xt1 : Value}
    (ei1 : PySem.W.findIn K (.ref C1) "__init__" = some (some (.ref x1)))
    (ef1 : K.lookup x1 = some ⟨.type "function", xd1, .func (PySem.W.fnOf "__init__" "NoPlace.__init__" (defArgs i_NoPlace) (defBody i_NoPlace) (defScope i_NoPlace) .none xk1 xo1 xp1 xn1 xc1 xt1), xs1⟩)
    (ec1 : PySem.W.codeIn K xc1 "NoPlace.__init__" = true) (ek1 : PySem.W.keepIn K (.ref x1) = true) (es1 : PySem.W.findIn K (.ref C1) "__setattr__" = some (some (.builtin "object.__setattr__")))
    (em1 : PySem.W.keepIn K (.ref C1) = true) (eg1 : PySem.W.findIn K (.ref C1) "__getattribute__" = some (some (.builtin "BaseException.__getattribute__"))) (eb1 : PySem.W.findIn K (.ref C1) "__getattr__" = some none) (ej1 : PySem.W.findIn K (.ref C1) "__class__" = some (some (.builtin "object.__class__")))
    (en1_0 : PySem.W.findIn K (.ref C1) "at" = some none)
    {C2 N2 x2 : Addr} {nm2 q2 : Str} {bs2 : List Value} {sn2 : List Str} {sub2 : List Value} {ab2 : Bool} {col2 : Option Bool} {dd2 : Option Addr} {k02_ k12_ k22_ k32_ k52_ : Option Value}
    (ea2 : PySem.W.nsIn K mainGlobals "NotFree" = some (some (.ref C2)))
    (el2 : K.lookup C2 = some (excClassObj nm2 q2 C2 N2 bs2 [.ref R, .type "ValueError", .type "Exception", .type "BaseException", .type "object"] true sn2 sub2 ab2 col2 dd2 k02_ k12_ k22_ k32_ k52_ "ValueError.__new__"))
    {xd2 xn2 : Option Addr} {xs2 : Array (Option Value)} {xk2 xo2 xp2 xc2 xt2 : Value}
    (ei2 : PySem.W.findIn K (.ref C2) "__init__" = some (some (.ref x2)))
    (ef2 : K.lookup x2 = some ⟨.type "function", xd2, .func (PySem.W.fnOf "__init__" "NotFree.__init__" (defArgs i_NotFree) (defBody i_NotFree) (defScope i_NotFree) .none xk2 xo2 xp2 xn2 xc2 xt2), xs2⟩)
    (ec2 : PySem.W.codeIn K xc2 "NotFree.__init__" = true) (ek2 : PySem.W.keepIn K (.ref x2) = true) (es2 : PySem.W.findIn K (.ref C2) "__setattr__" = some (some (.builtin "object.__setattr__")))
    (em2 : PySem.W.keepIn K (.ref C2) = true) (eg2 : PySem.W.findIn K (.ref C2) "__getattribute__" = some (some (.builtin "BaseException.__getattribute__"))) (eb2 : PySem.W.findIn K (.ref C2) "__getattr__" = some none) (ej2 : PySem.W.findIn K (.ref C2) "__class__" = some (some (.builtin "object.__class__")))
    (en2_0 : PySem.W.findIn K (.ref C2) "start" = some none)
    (en2_1 : PySem.W.findIn K (.ref C2) "size" = some none)
    {C3 N3 x3 : Addr} {nm3 q3 : Str} {bs3 : List Value} {sn3 : List Str} {sub3 : List Value} {ab3 : Bool} {col3 : Option Bool} {dd3 : Option Addr} {k03_ k13_ k23_ k33_ k53_ : Option Value}
    (ea3 : PySem.W.nsIn K mainGlobals "NotTaken" = some (some (.ref C3)))
    (el3 : K.lookup C3 = some (excClassObj nm3 q3 C3 N3 bs3 [.ref R, .type "ValueError", .type "Exception", .type "BaseException", .type "object"] true sn3 sub3 ab3 col3 dd3 k03_ k13_ k23_ k33_ k53_ "ValueError.__new__"))
    {xd3 xn3 : Option Addr} {xs3 : Array (Option Value)} {xk3 xo3 xp3 xc3 xt3 : Value}
    (ei3 : PySem.W.findIn K (.ref C3) "__init__" = some (some (.ref x3)))
    (ef3 : K.lookup x3 = some ⟨.type "function", xd3, .func (PySem.W.fnOf "__init__" "NotTaken.__init__" (defArgs i_NotTaken) (defBody i_NotTaken) (defScope i_NotTaken) .none xk3 xo3 xp3 xn3 xc3 xt3), xs3⟩)
    (ec3 : PySem.W.codeIn K xc3 "NotTaken.__init__" = true) (ek3 : PySem.W.keepIn K (.ref x3) = true) (es3 : PySem.W.findIn K (.ref C3) "__setattr__" = some (some (.builtin "object.__setattr__")))
    (em3 : PySem.W.keepIn K (.ref C3) = true) (eg3 : PySem.W.findIn K (.ref C3) "__getattribute__" = some (some (.builtin "BaseException.__getattribute__"))) (eb3 : PySem.W.findIn K (.ref C3) "__getattr__" = some none) (ej3 : PySem.W.findIn K (.ref C3) "__class__" = some (some (.builtin "object.__class__")))
    (en3_0 : PySem.W.findIn K (.ref C3) "start" = some none)
    (en3_1 : PySem.W.findIn K (.ref C3) "size" = some none)
    {od0_ an0_ : Option Addr} {sl0_ : Array (Option Value)} {oc0_ kV0_ dc0_ pm0_ cd0_ ct0_ : Value}
    {od1_ an1_ : Option Addr} {sl1_ : Array (Option Value)} {oc1_ kV1_ dc1_ pm1_ cd1_ ct1_ : Value}
    {od2_ an2_ : Option Addr} {sl2_ : Array (Option Value)} {oc2_ kV2_ dc2_ pm2_ cd2_ ct2_ : Value}
    {od3_ an3_ : Option Addr} {sl3_ : Array (Option Value)} {oc3_ kV3_ dc3_ pm3_ cd3_ ct3_ : Value}
    {od4_ an4_ : Option Addr} {sl4_ : Array (Option Value)} {oc4_ kV4_ dc4_ pm4_ cd4_ ct4_ : Value}
    {od5_ an5_ : Option Addr} {sl5_ : Array (Option Value)} {oc5_ kV5_ dc5_ pm5_ cd5_ ct5_ : Value}
    {od6_ an6_ : Option Addr} {sl6_ : Array (Option Value)} {oc6_ kV6_ dc6_ pm6_ cd6_ ct6_ : Value}
    {od7_ an7_ : Option Addr} {sl7_ : Array (Option Value)} {oc7_ kV7_ dc7_ pm7_ cd7_ ct7_ : Value}
    {od8_ an8_ : Option Addr} {sl8_ : Array (Option Value)} {oc8_ kV8_ dc8_ pm8_ cd8_ ct8_ : Value}
    {od9_ an9_ : Option Addr} {sl9_ : Array (Option Value)} {oc9_ kV9_ dc9_ pm9_ cd9_ ct9_ : Value}
    {od10_ an10_ : Option Addr} {sl10_ : Array (Option Value)} {oc10_ kV10_ dc10_ pm10_ cd10_ ct10_ : Value}
    {od11_ an11_ : Option Addr} {sl11_ : Array (Option Value)} {oc11_ kV11_ dc11_ pm11_ cd11_ ct11_ : Value}
    {od12_ an12_ : Option Addr} {sl12_ : Array (Option Value)} {oc12_ kV12_ dc12_ pm12_ cd12_ ct12_ : Value}
    {od13_ an13_ : Option Addr} {sl13_ : Array (Option Value)} {oc13_ kV13_ dc13_ pm13_ cd13_ ct13_ : Value}
    {od14_ an14_ : Option Addr} {sl14_ : Array (Option Value)} {oc14_ kV14_ dc14_ pm14_ cd14_ ct14_ : Value}
    {od15_ an15_ : Option Addr} {sl15_ : Array (Option Value)} {oc15_ kV15_ dc15_ pm15_ cd15_ ct15_ : Value}
    {od16_ an16_ : Option Addr} {sl16_ : Array (Option Value)} {oc16_ kV16_ dc16_ pm16_ cd16_ ct16_ : Value}
    {od17_ an17_ : Option Addr} {sl17_ : Array (Option Value)} {oc17_ kV17_ dc17_ pm17_ cd17_ ct17_ : Value}
    {od18_ an18_ : Option Addr} {sl18_ : Array (Option Value)} {oc18_ kV18_ dc18_ pm18_ cd18_ ct18_ : Value}
    {od19_ an19_ : Option Addr} {sl19_ : Array (Option Value)} {oc19_ kV19_ dc19_ pm19_ cd19_ ct19_ : Value}
    {od20_ an20_ : Option Addr} {sl20_ : Array (Option Value)} {oc20_ kV20_ dc20_ pm20_ cd20_ ct20_ : Value}
    (a0_ : PySem.W.nsIn K mainGlobals "is_whole" = some (some (.ref g0_))) (l0_ : K.lookup g0_ = some ⟨oc0_, od0_, .func (PySem.W.fnOf "is_whole" "is_whole" (defArgs s_is_whole) (defBody s_is_whole) (defScope s_is_whole) .none kV0_ dc0_ pm0_ an0_ cd0_ ct0_), sl0_⟩) (c0_ : PySem.W.codeIn K cd0_ "is_whole" = true) (k0_ : PySem.W.keepIn K (.ref g0_) = true)
    (a1_ : PySem.W.nsIn K mainGlobals "is_from" = some (some (.ref g1_))) (l1_ : K.lookup g1_ = some ⟨oc1_, od1_, .func (PySem.W.fnOf "is_from" "is_from" (defArgs s_is_from) (defBody s_is_from) (defScope s_is_from) .none kV1_ dc1_ pm1_ an1_ cd1_ ct1_), sl1_⟩) (c1_ : PySem.W.codeIn K cd1_ "is_from" = true) (k1_ : PySem.W.keepIn K (.ref g1_) = true)
    (a2_ : PySem.W.nsIn K mainGlobals "is_within" = some (some (.ref g2_))) (l2_ : K.lookup g2_ = some ⟨oc2_, od2_, .func (PySem.W.fnOf "is_within" "is_within" (defArgs s_is_within) (defBody s_is_within) (defScope s_is_within) .none kV2_ dc2_ pm2_ an2_ cd2_ ct2_), sl2_⟩) (c2_ : PySem.W.codeIn K cd2_ "is_within" = true) (k2_ : PySem.W.keepIn K (.ref g2_) = true)
    (a3_ : PySem.W.nsIn K mainGlobals "is_many" = some (some (.ref g3_))) (l3_ : K.lookup g3_ = some ⟨oc3_, od3_, .func (PySem.W.fnOf "is_many" "is_many" (defArgs s_is_many) (defBody s_is_many) (defScope s_is_many) .none kV3_ dc3_ pm3_ an3_ cd3_ ct3_), sl3_⟩) (c3_ : PySem.W.codeIn K cd3_ "is_many" = true) (k3_ : PySem.W.keepIn K (.ref g3_) = true)
    (a4_ : PySem.W.nsIn K mainGlobals "end_of" = some (some (.ref g4_))) (l4_ : K.lookup g4_ = some ⟨oc4_, od4_, .func (PySem.W.fnOf "end_of" "end_of" (defArgs s_end_of) (defBody s_end_of) (defScope s_end_of) .none kV4_ dc4_ pm4_ an4_ cd4_ ct4_), sl4_⟩) (c4_ : PySem.W.codeIn K cd4_ "end_of" = true) (k4_ : PySem.W.keepIn K (.ref g4_) = true)
    (a5_ : PySem.W.nsIn K mainGlobals "is_stretch" = some (some (.ref g5_))) (l5_ : K.lookup g5_ = some ⟨oc5_, od5_, .func (PySem.W.fnOf "is_stretch" "is_stretch" (defArgs s_stretch) (defBody s_stretch) (defScope s_stretch) .none kV5_ dc5_ pm5_ an5_ cd5_ ct5_), sl5_⟩) (c5_ : PySem.W.codeIn K cd5_ "is_stretch" = true) (k5_ : PySem.W.keepIn K (.ref g5_) = true)
    (a6_ : PySem.W.nsIn K mainGlobals "holes_among" = some (some (.ref g6_))) (l6_ : K.lookup g6_ = some ⟨oc6_, od6_, .func (PySem.W.fnOf "holes_among" "holes_among" (defArgs s_among) (defBody s_among) (defScope s_among) .none kV6_ dc6_ pm6_ an6_ cd6_ ct6_), sl6_⟩) (c6_ : PySem.W.codeIn K cd6_ "holes_among" = true) (k6_ : PySem.W.keepIn K (.ref g6_) = true)
    (a7_ : PySem.W.nsIn K mainGlobals "is_all_free" = some (some (.ref g7_))) (l7_ : K.lookup g7_ = some ⟨oc7_, od7_, .func (PySem.W.fnOf "is_all_free" "is_all_free" (defArgs s_allfree) (defBody s_allfree) (defScope s_allfree) .none kV7_ dc7_ pm7_ an7_ cd7_ ct7_), sl7_⟩) (c7_ : PySem.W.codeIn K cd7_ "is_all_free" = true) (k7_ : PySem.W.keepIn K (.ref g7_) = true)
    (a8_ : PySem.W.nsIn K mainGlobals "_law_cell_at" = some (some (.ref g8_))) (l8_ : K.lookup g8_ = some ⟨oc8_, od8_, .func (PySem.W.fnOf "_law_cell_at" "_law_cell_at" (defArgs s_cell_at) (defBody s_cell_at) (defScope s_cell_at) .none kV8_ dc8_ pm8_ an8_ cd8_ ct8_), sl8_⟩) (c8_ : PySem.W.codeIn K cd8_ "_law_cell_at" = true) (k8_ : PySem.W.keepIn K (.ref g8_) = true)
    (a9_ : PySem.W.nsIn K mainGlobals "_law_box" = some (some (.ref g9_))) (l9_ : K.lookup g9_ = some ⟨oc9_, od9_, .func (PySem.W.fnOf "_law_box" "_law_box" (defArgs s_box) (defBody s_box) (defScope s_box) .none kV9_ dc9_ pm9_ an9_ cd9_ ct9_), sl9_⟩) (c9_ : PySem.W.codeIn K cd9_ "_law_box" = true) (k9_ : PySem.W.keepIn K (.ref g9_) = true)
    (a10_ : PySem.W.nsIn K mainGlobals "_law_take" = some (some (.ref g10_))) (l10_ : K.lookup g10_ = some ⟨oc10_, od10_, .func (PySem.W.fnOf "_law_take" "_law_take" (defArgs s_take) (defBody s_take) (defScope s_take) .none kV10_ dc10_ pm10_ an10_ cd10_ ct10_), sl10_⟩) (c10_ : PySem.W.codeIn K cd10_ "_law_take" = true) (k10_ : PySem.W.keepIn K (.ref g10_) = true)
    (a11_ : PySem.W.nsIn K mainGlobals "_law_holes" = some (some (.ref g11_))) (l11_ : K.lookup g11_ = some ⟨oc11_, od11_, .func (PySem.W.fnOf "_law_holes" "_law_holes" (defArgs s_lholes) (defBody s_lholes) (defScope s_lholes) .none kV11_ dc11_ pm11_ an11_ cd11_ ct11_), sl11_⟩) (c11_ : PySem.W.codeIn K cd11_ "_law_holes" = true) (k11_ : PySem.W.keepIn K (.ref g11_) = true)
    (a12_ : PySem.W.nsIn K mainGlobals "_law_is_whole" = some (some (.ref g12_))) (l12_ : K.lookup g12_ = some ⟨oc12_, od12_, .func (PySem.W.fnOf "_law_is_whole" "_law_is_whole" (defArgs s_lwhole) (defBody s_lwhole) (defScope s_lwhole) .none kV12_ dc12_ pm12_ an12_ cd12_ ct12_), sl12_⟩) (c12_ : PySem.W.codeIn K cd12_ "_law_is_whole" = true) (k12_ : PySem.W.keepIn K (.ref g12_) = true)
    (a13_ : PySem.W.nsIn K mainGlobals "_law_inside" = some (some (.ref g13_))) (l13_ : K.lookup g13_ = some ⟨oc13_, od13_, .func (PySem.W.fnOf "_law_inside" "_law_inside" (defArgs s_inside) (defBody s_inside) (defScope s_inside) .none kV13_ dc13_ pm13_ an13_ cd13_ ct13_), sl13_⟩) (c13_ : PySem.W.codeIn K cd13_ "_law_inside" = true) (k13_ : PySem.W.keepIn K (.ref g13_) = true)
    (a14_ : PySem.W.nsIn K mainGlobals "_law_asked" = some (some (.ref g14_))) (l14_ : K.lookup g14_ = some ⟨oc14_, od14_, .func (PySem.W.fnOf "_law_asked" "_law_asked" (defArgs s_asked) (defBody s_asked) (defScope s_asked) .none kV14_ dc14_ pm14_ an14_ cd14_ ct14_), sl14_⟩) (c14_ : PySem.W.codeIn K cd14_ "_law_asked" = true) (k14_ : PySem.W.keepIn K (.ref g14_) = true)
    (a15_ : PySem.W.nsIn K mainGlobals "_law_odd" = some (some (.ref g15_))) (l15_ : K.lookup g15_ = some ⟨oc15_, od15_, .func (PySem.W.fnOf "_law_odd" "_law_odd" (defArgs s_odd) (defBody s_odd) (defScope s_odd) .none kV15_ dc15_ pm15_ an15_ cd15_ ct15_), sl15_⟩) (c15_ : PySem.W.codeIn K cd15_ "_law_odd" = true) (k15_ : PySem.W.keepIn K (.ref g15_) = true)
    (a16_ : PySem.W.nsIn K mainGlobals "_law_stretch" = some (some (.ref g16_))) (l16_ : K.lookup g16_ = some ⟨oc16_, od16_, .func (PySem.W.fnOf "_law_stretch" "_law_stretch" (defArgs s_lstretch) (defBody s_lstretch) (defScope s_lstretch) .none kV16_ dc16_ pm16_ an16_ cd16_ ct16_), sl16_⟩) (c16_ : PySem.W.codeIn K cd16_ "_law_stretch" = true) (k16_ : PySem.W.keepIn K (.ref g16_) = true)
    (a17_ : PySem.W.nsIn K mainGlobals "_law_tried" = some (some (.ref g17_))) (l17_ : K.lookup g17_ = some ⟨oc17_, od17_, .func (PySem.W.fnOf "_law_tried" "_law_tried" (defArgs s_tried) (defBody s_tried) (defScope s_tried) .none kV17_ dc17_ pm17_ an17_ cd17_ ct17_), sl17_⟩) (c17_ : PySem.W.codeIn K cd17_ "_law_tried" = true) (k17_ : PySem.W.keepIn K (.ref g17_) = true)
    (a18_ : PySem.W.nsIn K mainGlobals "_law_no_place" = some (some (.ref g18_))) (l18_ : K.lookup g18_ = some ⟨oc18_, od18_, .func (PySem.W.fnOf "_law_no_place" "_law_no_place" (defArgs s_noplace) (defBody s_noplace) (defScope s_noplace) .none kV18_ dc18_ pm18_ an18_ cd18_ ct18_), sl18_⟩) (c18_ : PySem.W.codeIn K cd18_ "_law_no_place" = true) (k18_ : PySem.W.keepIn K (.ref g18_) = true)
    (a19_ : PySem.W.nsIn K mainGlobals "_law_no_many" = some (some (.ref g19_))) (l19_ : K.lookup g19_ = some ⟨oc19_, od19_, .func (PySem.W.fnOf "_law_no_many" "_law_no_many" (defArgs s_nomany) (defBody s_nomany) (defScope s_nomany) .none kV19_ dc19_ pm19_ an19_ cd19_ ct19_), sl19_⟩) (c19_ : PySem.W.codeIn K cd19_ "_law_no_many" = true) (k19_ : PySem.W.keepIn K (.ref g19_) = true)
    (a20_ : PySem.W.nsIn K mainGlobals "law" = some (some (.ref g20_))) (l20_ : K.lookup g20_ = some ⟨oc20_, od20_, .func (PySem.W.fnOf "law" "law" (defArgs s_law) (defBody s_law) (defScope s_law) .none kV20_ dc20_ pm20_ an20_ cd20_ ct20_), sl20_⟩) (c20_ : PySem.W.codeIn K cd20_ "law" = true) (k20_ : PySem.W.keepIn K (.ref g20_) = true)
    (nb0 : PySem.W.nsIn K mainGlobals "isinstance" = some none)
    (nb1 : PySem.W.nsIn K mainGlobals "int" = some none)
    (nb2 : PySem.W.nsIn K mainGlobals "bool" = some none)
    (nb3 : PySem.W.nsIn K mainGlobals "list" = some none)
    (nb4 : PySem.W.nsIn K mainGlobals "tuple" = some none)
    (nb5 : PySem.W.nsIn K mainGlobals "len" = some none)
    (nb6 : PySem.W.nsIn K mainGlobals "all" = some none)
    (nb7 : PySem.W.nsIn K mainGlobals "any" = some none)
    (nb8 : PySem.W.nsIn K mainGlobals "range" = some none)
    (nb9 : PySem.W.nsIn K mainGlobals "max" = some none)
    (nb10 : PySem.W.nsIn K mainGlobals "min" = some none)
    (nb11 : PySem.W.nsIn K mainGlobals "enumerate" = some none)
    {tk0 : Tok} (con0 : PySem.W.nsIn K mainGlobals "FEWEST_CELLS" = some (some (.int 16 tk0)))
    {tk1 : Tok} (con1 : PySem.W.nsIn K mainGlobals "MOST_CELLS" = some (some (.int 240 tk1)))
    (xx_NotTaken_NotFree : PySem.W.exmOne K (.ref C3) (.ref C2) = some false)
    {nmR qR : Str} {NR : Addr} {bsR bmR : List Value} {hdR : Bool} {snR : List Str} {subR : List Value} {abR : Bool} {colR : Option Bool} {ddR : Option Addr} {k0R k1R k2R k3R k5R : Option Value} {newR : String}
    (zc : K.lookup R = some (excClassObj nmR qR R NR bsR bmR hdR snR subR abR colR ddR k0R k1R k2R k3R k5R newR)) (zt : PySem.W.typeIn K (.ref R) = some (.type "type")) (zm : PySem.W.mroIn K R (.type "BaseException") = some true)
    {CH g_Hinit g_Htold g_Hhas g_Hhas_taken g_Hhole_at g_Htake g_Hgive : Addr}
    (aCH : PySem.W.nsIn K mainGlobals "Holes" = some (some (.ref CH)))
    (pgH : PySem.W.plainGet K CH Str.empty = true) (hdH : PySem.W.hasDictIn K CH = true) (poH : PySem.W.plainOver K CH = true) (saH : PySem.W.findIn K (.ref CH) "__setattr__" = some (some (.builtin "object.__setattr__"))) (mkH : PySem.W.makesIn K CH = true) (kcH : PySem.W.keepIn K (.ref CH) = true)
    (naH_many : PySem.W.findIn K (.ref CH) "many" = some none)
    (naH_free : PySem.W.findIn K (.ref CH) "free" = some none)
    {xd_Hinit xn_Hinit : Option Addr} {xs_Hinit : Array (Option Value)} {xo_Hinit xk_Hinit xe_Hinit xp_Hinit xc_Hinit xt_Hinit : Value}
    (at_Hinit : PySem.W.findIn K (.ref CH) "__init__" = some (some (.ref g_Hinit))) (fn_Hinit : PySem.W.isFn K (.ref g_Hinit) = true)
    (lk_Hinit : K.lookup g_Hinit = some ⟨xo_Hinit, xd_Hinit, .func (PySem.W.fnOf "__init__" "Holes.__init__" (defArgs s_Hinit) (defBody s_Hinit) (defScope s_Hinit) .none xk_Hinit xe_Hinit xp_Hinit xn_Hinit xc_Hinit xt_Hinit), xs_Hinit⟩) (cd_Hinit : PySem.W.codeIn K xc_Hinit "Holes.__init__" = true) (kp_Hinit : PySem.W.keepIn K (.ref g_Hinit) = true)
    {xd_Htold xn_Htold : Option Addr} {xs_Htold : Array (Option Value)} {xo_Htold xk_Htold xe_Htold xp_Htold xc_Htold xt_Htold : Value}
    (at_Htold : PySem.W.findIn K (.ref CH) "told" = some (some (.ref g_Htold))) (fn_Htold : PySem.W.isFn K (.ref g_Htold) = true)
    (lk_Htold : K.lookup g_Htold = some ⟨xo_Htold, xd_Htold, .func (PySem.W.fnOf "told" "Holes.told" (defArgs s_Htold) (defBody s_Htold) (defScope s_Htold) .none xk_Htold xe_Htold xp_Htold xn_Htold xc_Htold xt_Htold), xs_Htold⟩) (cd_Htold : PySem.W.codeIn K xc_Htold "Holes.told" = true) (kp_Htold : PySem.W.keepIn K (.ref g_Htold) = true)
    {xd_Hhas xn_Hhas : Option Addr} {xs_Hhas : Array (Option Value)} {xo_Hhas xk_Hhas xe_Hhas xp_Hhas xc_Hhas xt_Hhas : Value}
    (at_Hhas : PySem.W.findIn K (.ref CH) "has" = some (some (.ref g_Hhas))) (fn_Hhas : PySem.W.isFn K (.ref g_Hhas) = true)
    (lk_Hhas : K.lookup g_Hhas = some ⟨xo_Hhas, xd_Hhas, .func (PySem.W.fnOf "has" "Holes.has" (defArgs s_Hhas) (defBody s_Hhas) (defScope s_Hhas) .none xk_Hhas xe_Hhas xp_Hhas xn_Hhas xc_Hhas xt_Hhas), xs_Hhas⟩) (cd_Hhas : PySem.W.codeIn K xc_Hhas "Holes.has" = true) (kp_Hhas : PySem.W.keepIn K (.ref g_Hhas) = true)
    {xd_Hhas_taken xn_Hhas_taken : Option Addr} {xs_Hhas_taken : Array (Option Value)} {xo_Hhas_taken xk_Hhas_taken xe_Hhas_taken xp_Hhas_taken xc_Hhas_taken xt_Hhas_taken : Value}
    (at_Hhas_taken : PySem.W.findIn K (.ref CH) "has_taken" = some (some (.ref g_Hhas_taken))) (fn_Hhas_taken : PySem.W.isFn K (.ref g_Hhas_taken) = true)
    (lk_Hhas_taken : K.lookup g_Hhas_taken = some ⟨xo_Hhas_taken, xd_Hhas_taken, .func (PySem.W.fnOf "has_taken" "Holes.has_taken" (defArgs s_Hhas_taken) (defBody s_Hhas_taken) (defScope s_Hhas_taken) .none xk_Hhas_taken xe_Hhas_taken xp_Hhas_taken xn_Hhas_taken xc_Hhas_taken xt_Hhas_taken), xs_Hhas_taken⟩) (cd_Hhas_taken : PySem.W.codeIn K xc_Hhas_taken "Holes.has_taken" = true) (kp_Hhas_taken : PySem.W.keepIn K (.ref g_Hhas_taken) = true)
    {xd_Hhole_at xn_Hhole_at : Option Addr} {xs_Hhole_at : Array (Option Value)} {xo_Hhole_at xk_Hhole_at xe_Hhole_at xp_Hhole_at xc_Hhole_at xt_Hhole_at : Value}
    (at_Hhole_at : PySem.W.findIn K (.ref CH) "hole_at" = some (some (.ref g_Hhole_at))) (fn_Hhole_at : PySem.W.isFn K (.ref g_Hhole_at) = true)
    (lk_Hhole_at : K.lookup g_Hhole_at = some ⟨xo_Hhole_at, xd_Hhole_at, .func (PySem.W.fnOf "hole_at" "Holes.hole_at" (defArgs s_Hhole_at) (defBody s_Hhole_at) (defScope s_Hhole_at) .none xk_Hhole_at xe_Hhole_at xp_Hhole_at xn_Hhole_at xc_Hhole_at xt_Hhole_at), xs_Hhole_at⟩) (cd_Hhole_at : PySem.W.codeIn K xc_Hhole_at "Holes.hole_at" = true) (kp_Hhole_at : PySem.W.keepIn K (.ref g_Hhole_at) = true)
    {xd_Htake xn_Htake : Option Addr} {xs_Htake : Array (Option Value)} {xo_Htake xk_Htake xe_Htake xp_Htake xc_Htake xt_Htake : Value}
    (at_Htake : PySem.W.findIn K (.ref CH) "take" = some (some (.ref g_Htake))) (fn_Htake : PySem.W.isFn K (.ref g_Htake) = true)
    (lk_Htake : K.lookup g_Htake = some ⟨xo_Htake, xd_Htake, .func (PySem.W.fnOf "take" "Holes.take" (defArgs s_Htake) (defBody s_Htake) (defScope s_Htake) .none xk_Htake xe_Htake xp_Htake xn_Htake xc_Htake xt_Htake), xs_Htake⟩) (cd_Htake : PySem.W.codeIn K xc_Htake "Holes.take" = true) (kp_Htake : PySem.W.keepIn K (.ref g_Htake) = true)
    {xd_Hgive xn_Hgive : Option Addr} {xs_Hgive : Array (Option Value)} {xo_Hgive xk_Hgive xe_Hgive xp_Hgive xc_Hgive xt_Hgive : Value}
    (at_Hgive : PySem.W.findIn K (.ref CH) "give" = some (some (.ref g_Hgive))) (fn_Hgive : PySem.W.isFn K (.ref g_Hgive) = true)
    (lk_Hgive : K.lookup g_Hgive = some ⟨xo_Hgive, xd_Hgive, .func (PySem.W.fnOf "give" "Holes.give" (defArgs s_Hgive) (defBody s_Hgive) (defScope s_Hgive) .none xk_Hgive xe_Hgive xp_Hgive xn_Hgive xc_Hgive xt_Hgive), xs_Hgive⟩) (cd_Hgive : PySem.W.codeIn K xc_Hgive "Holes.give" = true) (kp_Hgive : PySem.W.keepIn K (.ref g_Hgive) = true)
    : ∃ fd : FuncData, (∀ (s : Shared) (v : Value), BindsTo s fd ⟨[v], []⟩ [("_law_script", v)]) ∧ ∀ base : Heap, K.In base → base.Ns mainGlobals mg → FnOk l.prog w K mg base CX0 8 fa fd ["_law_script"] (sp_law K) := by
  have e := hfa.symm.trans (PySem.W.mg_of X G a20_)
  cases e
  have T : Txt K mg (fun i => ([C0, C1, C2, C3] : List Addr).getD i 0) R CH := {
    e_NoMany := HasExc.mk1 (PySem.W.mg_of X G ea0) el0 ei0 ef0 ec0 ek0 em0 (excS_mk el0 es0) (excI_mk el0 eg0 eb0 ej0 eh et)
    k_NoMany := ⟨_, _, _, _, _, _, _, _, _, _, _, _, _, _, _, el0⟩
    a_NoMany_many := en0_0
    e_NoPlace := HasExc.mk1 (PySem.W.mg_of X G ea1) el1 ei1 ef1 ec1 ek1 em1 (excS_mk el1 es1) (excI_mk el1 eg1 eb1 ej1 eh et)
    k_NoPlace := ⟨_, _, _, _, _, _, _, _, _, _, _, _, _, _, _, el1⟩
    a_NoPlace_at := en1_0
    e_NotFree := HasExc.mk1 (PySem.W.mg_of X G ea2) el2 ei2 ef2 ec2 ek2 em2 (excS_mk el2 es2) (excI_mk el2 eg2 eb2 ej2 eh et)
    k_NotFree := ⟨_, _, _, _, _, _, _, _, _, _, _, _, _, _, _, el2⟩
    a_NotFree_start := en2_0
    a_NotFree_size := en2_1
    e_NotTaken := HasExc.mk1 (PySem.W.mg_of X G ea3) el3 ei3 ef3 ec3 ek3 em3 (excS_mk el3 es3) (excI_mk el3 eg3 eb3 ej3 eh et)
    k_NotTaken := ⟨_, _, _, _, _, _, _, _, _, _, _, _, _, _, _, el3⟩
    a_NotTaken_start := en3_0
    a_NotTaken_size := en3_1
    d_is_whole := HasDef.mk (PySem.W.mg_of X G a0_) l0_ c0_ k0_
    d_is_from := HasDef.mk (PySem.W.mg_of X G a1_) l1_ c1_ k1_
    d_is_within := HasDef.mk (PySem.W.mg_of X G a2_) l2_ c2_ k2_
    d_is_many := HasDef.mk (PySem.W.mg_of X G a3_) l3_ c3_ k3_
    d_end_of := HasDef.mk (PySem.W.mg_of X G a4_) l4_ c4_ k4_
    d_stretch := HasDef.mk (PySem.W.mg_of X G a5_) l5_ c5_ k5_
    d_among := HasDef.mk (PySem.W.mg_of X G a6_) l6_ c6_ k6_
    d_allfree := HasDef.mk (PySem.W.mg_of X G a7_) l7_ c7_ k7_
    d_cell_at := HasDef.mk (PySem.W.mg_of X G a8_) l8_ c8_ k8_
    d_box := HasDef.mk (PySem.W.mg_of X G a9_) l9_ c9_ k9_
    d_take := HasDef.mk (PySem.W.mg_of X G a10_) l10_ c10_ k10_
    d_lholes := HasDef.mk (PySem.W.mg_of X G a11_) l11_ c11_ k11_
    d_lwhole := HasDef.mk (PySem.W.mg_of X G a12_) l12_ c12_ k12_
    d_inside := HasDef.mk (PySem.W.mg_of X G a13_) l13_ c13_ k13_
    d_asked := HasDef.mk (PySem.W.mg_of X G a14_) l14_ c14_ k14_
    d_odd := HasDef.mk (PySem.W.mg_of X G a15_) l15_ c15_ k15_
    d_lstretch := HasDef.mk (PySem.W.mg_of X G a16_) l16_ c16_ k16_
    d_tried := HasDef.mk (PySem.W.mg_of X G a17_) l17_ c17_ k17_
    d_noplace := HasDef.mk (PySem.W.mg_of X G a18_) l18_ c18_ k18_
    d_nomany := HasDef.mk (PySem.W.mg_of X G a19_) l19_ c19_ k19_
    n_isinstance := PySem.W.mg_none_of X G nb0
    n_int := PySem.W.mg_none_of X G nb1
    n_bool := PySem.W.mg_none_of X G nb2
    n_list := PySem.W.mg_none_of X G nb3
    n_tuple := PySem.W.mg_none_of X G nb4
    n_len := PySem.W.mg_none_of X G nb5
    n_all := PySem.W.mg_none_of X G nb6
    n_any := PySem.W.mg_none_of X G nb7
    n_range := PySem.W.mg_none_of X G nb8
    n_max := PySem.W.mg_none_of X G nb9
    n_min := PySem.W.mg_none_of X G nb10
    n_enumerate := PySem.W.mg_none_of X G nb11
    g_FEWEST_CELLS := ⟨_, PySem.W.mg_of X G con0, ⟨_, rfl⟩⟩
    g_MOST_CELLS := ⟨_, PySem.W.mg_of X G con1, ⟨_, rfl⟩⟩
    x_NotTaken_NotFree := xx_NotTaken_NotFree
    g_R := PySem.W.mg_of X G eR
    c_R := by unfold PySem.W.clsIn; rw [zc]; rfl
    t_R := zt
    m_R := zm
    clH := ⟨pgH, hdH, poH, saH⟩
    gc_Holes := PySem.W.mg_of X G aCH
    aH_many := naH_many
    aH_free := naH_free
    f_Hinit := ⟨g_Hinit, ⟨_, fun_mk (st := s_Hinit) lk_Hinit cd_Hinit kp_Hinit⟩, ⟨mkH, at_Hinit, fn_Hinit, kcH⟩⟩
    f_Htold := ⟨g_Htold, ⟨_, fun_mk (st := s_Htold) lk_Htold cd_Htold kp_Htold⟩, ⟨at_Htold, fn_Htold, kp_Htold⟩⟩
    f_Hhas := ⟨g_Hhas, ⟨_, fun_mk (st := s_Hhas) lk_Hhas cd_Hhas kp_Hhas⟩, ⟨at_Hhas, fn_Hhas, kp_Hhas⟩⟩
    f_Hhas_taken := ⟨g_Hhas_taken, ⟨_, fun_mk (st := s_Hhas_taken) lk_Hhas_taken cd_Hhas_taken kp_Hhas_taken⟩, ⟨at_Hhas_taken, fn_Hhas_taken, kp_Hhas_taken⟩⟩
    f_Hhole_at := ⟨g_Hhole_at, ⟨_, fun_mk (st := s_Hhole_at) lk_Hhole_at cd_Hhole_at kp_Hhole_at⟩, ⟨at_Hhole_at, fn_Hhole_at, kp_Hhole_at⟩⟩
    f_Htake := ⟨g_Htake, ⟨_, fun_mk (st := s_Htake) lk_Htake cd_Htake kp_Htake⟩, ⟨at_Htake, fn_Htake, kp_Htake⟩⟩
    f_Hgive := ⟨g_Hgive, ⟨_, fun_mk (st := s_Hgive) lk_Hgive cd_Hgive kp_Hgive⟩, ⟨at_Hgive, fn_Hgive, kp_Hgive⟩⟩ }
  refine ⟨PySem.W.fnOf "law" "law" (defArgs s_law) (defBody s_law) (defScope s_law) .none kV20_ dc20_ pm20_ an20_ cd20_ ct20_, fun s v => .of_eq rfl, fun base _ _ => ?_⟩
  exact ok_law T (fun_mk (st := s_law) l20_ c20_ k20_)
theorem walk {l : PySem.W.OpenLaw} {q : Program} {loose : List Str} {XP : (Str → Option Value) → Heap → Prop} {YP : World → Heap → Prop} {d : DefRec} {K : Params → PySem.W.Frag} (hn : l.most = some 63) (hdf : d.params.defaults = [])
    (hY : ∀ (w : World) (h : Heap), YP w h → (K w.params).In h)
    (F : ∀ (w : World) (mg : Str → Option Value) (fa : Addr) (h : Heap), (K w.params).In h → h.Ns mainGlobals mg → mg d.name = some (.ref fa) →
      ∃ fd : FuncData, (∀ (s : Shared) (u : Value), BindsTo s fd ⟨[u], []⟩ [("_law_script", u)]) ∧ ∀ base : Heap, (K w.params).In base → base.Ns mainGlobals mg → FnOk l.prog w (K w.params) mg base CX0 8 fa fd ["_law_script"] (sp_law (K w.params))) :
    PySem.W.WalkO q loose XP YP l.row.toRowW d [] (fun f vs => PySem.call f vs) :=
  L2.walk_of (n := 63) (k := 8) (x := "_law_script") (CX := fun _ => CX0) (sp := fun w => sp_law (K w.params)) hn (by decide) hdf ⟨rfl, by decide, by decide, rfl⟩ hY F (fun _ _ a ns hl _ hS => ⟨a, ns, rfl, hS, hl, fun _ => rfl⟩) fun _ _ _ _ _ z => z
end K23
namespace PySem.W.Fast
def tw10684720962648263995:Unit:=()
def tw13194216286445287717:Unit:=()
def tw5530111011187091747:Unit:=()
def tw10112666342917489298:Unit:=()
def tw10132550147735952340:Unit:=()
def tw1018099749299017618:Unit:=()
def tw10320132425319320964:Unit:=()
def tw1032543649200168230:Unit:=()
def tw10396373977710985998:Unit:=()
def tw10500837264354446842:Unit:=()
def tw10505552394678823041:Unit:=()
def tw10534721143836060144:Unit:=()
def tw10555601981685902142:Unit:=()
def tw1056442575555239120:Unit:=()
def tw10686893976628254392:Unit:=()
def tw10774983980041894278:Unit:=()
def tw10841252934773433054:Unit:=()
def tw10949097970345903040:Unit:=()
def tw10968597039333215293:Unit:=()
def tw10985411572815592647:Unit:=()
def tw109996047813262440:Unit:=()
def tw11014510501693359188:Unit:=()
def tw11256146433379445347:Unit:=()
def tw11304191265447066587:Unit:=()
def tw11323474929986124083:Unit:=()
def tw11364668130931582302:Unit:=()
def tw11394300068592059716:Unit:=()
def tw11440274967726964669:Unit:=()
def tw1145329605253583901:Unit:=()
def tw11466773615258657187:Unit:=()
def tw1152143247241750037:Unit:=()
def tw11530238334311028344:Unit:=()
def tw11593770300268886983:Unit:=()
def tw11629513120463711200:Unit:=()
def tw11656669548527769956:Unit:=()
def tw11844252587720397936:Unit:=()
def tw11889090416057470198:Unit:=()
def tw11923208555104681271:Unit:=()
def tw11996054542400558176:Unit:=()
def tw1200313420715876945:Unit:=()
def tw12042584168997325:Unit:=()
def tw12235615963734808379:Unit:=()
def tw12244305648221977296:Unit:=()
def tw12313141494147579733:Unit:=()
def tw12314391187313520006:Unit:=()
def tw12339542167619093021:Unit:=()
def tw12353745694742943435:Unit:=()
def tw12443944432108885451:Unit:=()
def tw12533073140097678040:Unit:=()
def tw12633831918653355188:Unit:=()
def tw1267399657961522505:Unit:=()
def tw12749351738426562771:Unit:=()
def tw12784527031198602942:Unit:=()
def tw12791092307250458012:Unit:=()
def tw12844620892955723206:Unit:=()
def tw1284579263648235261:Unit:=()
def tw12867505935312529021:Unit:=()
def tw12887660110881499613:Unit:=()
def tw12901486865617734952:Unit:=()
def tw12905850326671054408:Unit:=()
def tw12961995212308744114:Unit:=()
def tw12984518657168869605:Unit:=()
def tw13018519029904677356:Unit:=()
def tw1304932553158772922:Unit:=()
def tw13102915707320247066:Unit:=()
def tw13168801631147260246:Unit:=()
def tw13230149575962995087:Unit:=()
def tw13284670706853660542:Unit:=()
def tw13331918909353325311:Unit:=()
def tw13381149626020295985:Unit:=()
def tw13381837583363633210:Unit:=()
def tw13499579593754932388:Unit:=()
def tw13683627878628589743:Unit:=()
def tw13697082384696175342:Unit:=()
def tw13753067743521207965:Unit:=()
def tw13760336581412332341:Unit:=()
def tw13773844642963268671:Unit:=()
def tw13786610684571530696:Unit:=()
def tw13995994565827144978:Unit:=()
def tw14003183039215308966:Unit:=()
def tw14015807857261696260:Unit:=()
def tw14155855468235633085:Unit:=()
def tw14171701625460313941:Unit:=()
def tw14286888048704922937:Unit:=()
def tw14361349743421223979:Unit:=()
def tw14370560061977149695:Unit:=()
def tw1439312080780712645:Unit:=()
def tw14510723985991952311:Unit:=()
def tw14558207535247132575:Unit:=()
def tw14582946647381341199:Unit:=()
def tw14630755520447809788:Unit:=()
def tw14657699863978303490:Unit:=()
def tw14789347537759462100:Unit:=()
def tw14834279905548990152:Unit:=()
def tw14854123456325999146:Unit:=()
def tw14894494764850752036:Unit:=()
def tw15032849929203856518:Unit:=()
def tw15186611462245693543:Unit:=()
def tw15238129980825344951:Unit:=()
def tw15255393816915492242:Unit:=()
def tw15294488531347049344:Unit:=()
def tw15323402132597388959:Unit:=()
def tw15398152254443969195:Unit:=()
def tw1545442965951763464:Unit:=()
def tw15468341803188057551:Unit:=()
def tw15518803919982302542:Unit:=()
def tw15563388634462162759:Unit:=()
def tw15655232521504823340:Unit:=()
def tw15678472101516920994:Unit:=()
def tw15841823841259169464:Unit:=()
def tw15842611856839736127:Unit:=()
def tw15883328911064202431:Unit:=()
def tw15959318806744051110:Unit:=()
def tw16039466884854729110:Unit:=()
def tw16111716800726638778:Unit:=()
def tw16165781261163814642:Unit:=()
def tw16245786058529954676:Unit:=()
def tw16247006538075006728:Unit:=()
def tw16272205342481879930:Unit:=()
def tw16338497354235084497:Unit:=()
def tw16409401792347020471:Unit:=()
def tw16518313688880513080:Unit:=()
def tw16648907048247550015:Unit:=()
def tw1669727408445422939:Unit:=()
def tw16730760497168012530:Unit:=()
def tw16732761811342904491:Unit:=()
def tw16797602756197681976:Unit:=()
def tw16866915326597788407:Unit:=()
def tw16883814302584331344:Unit:=()
def tw16884411180346437307:Unit:=()
def tw16896124038473472324:Unit:=()
def tw16899272113705629233:Unit:=()
def tw16904672470220563846:Unit:=()
def tw17008173041018130360:Unit:=()
def tw17040336122691137449:Unit:=()
def tw17096727321305023535:Unit:=()
def tw17141683210276383814:Unit:=()
def tw17250222031474847198:Unit:=()
def tw17341591614667018837:Unit:=()
def tw17342693347813763312:Unit:=()
def tw17357878486812895293:Unit:=()
def tw17437365866651909815:Unit:=()
def tw17440812946552298503:Unit:=()
def tw17517902543910583802:Unit:=()
def tw175222519775115101:Unit:=()
def tw17640003149945156520:Unit:=()
def tw17700109629070164740:Unit:=()
def tw17702690268288273592:Unit:=()
def tw17752840935094411140:Unit:=()
def tw17755042081124072886:Unit:=()
def tw17831044836279992353:Unit:=()
def tw17913294310795444678:Unit:=()
def tw17962931782880201214:Unit:=()
def tw18077524849372188903:Unit:=()
def tw18130720671995316240:Unit:=()
def tw18201452973709448869:Unit:=()
def tw18230477248953434515:Unit:=()
def tw18242848423440041313:Unit:=()
def tw18253493835443509734:Unit:=()
def tw1828808746697216779:Unit:=()
def tw18314505556705336013:Unit:=()
def tw18401908827397386534:Unit:=()
def tw18420200864172575814:Unit:=()
def tw18428792002770859459:Unit:=()
def tw1904962048452384855:Unit:=()
def tw1948299555840391859:Unit:=()
def tw1957456636098938281:Unit:=()
def tw1990955823684485330:Unit:=()
def tw200666066291791572:Unit:=()
def tw2113132961046444133:Unit:=()
def tw2227909231886824148:Unit:=()
def tw2236283289911478628:Unit:=()
def tw2338268843421305709:Unit:=()
def tw2639633996796734638:Unit:=()
def tw2640501431649227215:Unit:=()
def tw2665363002800251823:Unit:=()
def tw270171957754850478:Unit:=()
def tw2767029359489540246:Unit:=()
def tw2844225223749081560:Unit:=()
def tw2904664914304795081:Unit:=()
def tw3018516035542592501:Unit:=()
def tw3023912806252240268:Unit:=()
def tw3067385368220070425:Unit:=()
def tw3101301578308826360:Unit:=()
def tw3250977395643958105:Unit:=()
def tw3257011931193484889:Unit:=()
def tw3273765489849595308:Unit:=()
def tw3299280896891885279:Unit:=()
def tw3306622966383394020:Unit:=()
def tw3310044128790719399:Unit:=()
def tw3333690056972753787:Unit:=()
def tw3351034510554458331:Unit:=()
def tw33838771717865391:Unit:=()
def tw3498964282887641998:Unit:=()
def tw3501073150110074883:Unit:=()
def tw3509831695798006361:Unit:=()
def tw351386714845186492:Unit:=()
def tw3540033837463229318:Unit:=()
def tw3574989580591836375:Unit:=()
def tw3579536487352688967:Unit:=()
def tw3591612445697307660:Unit:=()
def tw3600644745018276342:Unit:=()
def tw3717796119426218829:Unit:=()
def tw4025968394534351888:Unit:=()
def tw4034565746591085236:Unit:=()
def tw4039993093235152595:Unit:=()
def tw4044767347133779707:Unit:=()
def tw4049528265608237964:Unit:=()
def tw4063419460105889803:Unit:=()
def tw4072883658111320065:Unit:=()
def tw4090561366397981506:Unit:=()
def tw4178797860994523019:Unit:=()
def tw4232568509852603334:Unit:=()
def tw4253662298149070709:Unit:=()
def tw4275956777775041406:Unit:=()
def tw4277974189187936703:Unit:=()
def tw4389092190730332284:Unit:=()
def tw4544247647003269615:Unit:=()
def tw4696633483909426681:Unit:=()
def tw4797664854492177670:Unit:=()
def tw4819120662661493099:Unit:=()
def tw4837408833740786578:Unit:=()
def tw4872554359554615091:Unit:=()
def tw48742727295000466:Unit:=()
def tw4924030145358133146:Unit:=()
def tw4937184585999882913:Unit:=()
def tw494766016902672085:Unit:=()
def tw5005030200958529624:Unit:=()
def tw5016338534153270178:Unit:=()
def tw5031862071715012708:Unit:=()
def tw5107013441112732644:Unit:=()
def tw5114176394853894301:Unit:=()
def tw5136530351180614821:Unit:=()
def tw5187938937929891095:Unit:=()
def tw5223043373761565695:Unit:=()
def tw533175609042144690:Unit:=()
def tw5337091839467417793:Unit:=()
def tw5453672225537401741:Unit:=()
def tw5554266318148645724:Unit:=()
def tw5624292591998825710:Unit:=()
def tw5658406080563837263:Unit:=()
def tw5691528042406864891:Unit:=()
def tw5692252141507887424:Unit:=()
def tw5704820213177076155:Unit:=()
def tw5830723141045151453:Unit:=()
def tw5935500550110912871:Unit:=()
def tw5946319720992871030:Unit:=()
def tw5998286123581789262:Unit:=()
def tw6012941519924980995:Unit:=()
def tw6027096002789504119:Unit:=()
def tw6132227909868014320:Unit:=()
def tw6149136485233005432:Unit:=()
def tw618514712919615180:Unit:=()
def tw6195870794532799817:Unit:=()
def tw6199382423626792189:Unit:=()
def tw6207349949490639304:Unit:=()
def tw6278903067592033506:Unit:=()
def tw6445889177394839366:Unit:=()
def tw6471990742809282053:Unit:=()
def tw6500260124290936447:Unit:=()
def tw6500704465318686627:Unit:=()
def tw6514296328570552751:Unit:=()
def tw6528253972789132078:Unit:=()
def tw6618305007847375668:Unit:=()
def tw664850624218049799:Unit:=()
def tw6667705372129322686:Unit:=()
def tw6732565378273958:Unit:=()
def tw6884930705584282949:Unit:=()
def tw6888174642165627217:Unit:=()
def tw7011373370853451304:Unit:=()
def tw7049774212627691356:Unit:=()
def tw7056034933867086431:Unit:=()
def tw7089535504973380681:Unit:=()
def tw7119924444073550430:Unit:=()
def tw7122065930225840333:Unit:=()
def tw7139944544982376691:Unit:=()
def tw7141363066994734162:Unit:=()
def tw7370893517135538959:Unit:=()
def tw7388032612126894267:Unit:=()
def tw757887932350308774:Unit:=()
def tw76454616834181840:Unit:=()
def tw7655277072135397329:Unit:=()
def tw7778027824300308831:Unit:=()
def tw7787466562174247655:Unit:=()
def tw7823241136776948280:Unit:=()
def tw7887002607298690860:Unit:=()
def tw7922162399334817901:Unit:=()
def tw793630545752538779:Unit:=()
def tw8011992014590171511:Unit:=()
def tw8018820332777895423:Unit:=()
def tw8031728727716732186:Unit:=()
def tw8078342792008697817:Unit:=()
def tw8186201023253119138:Unit:=()
def tw818869759920066073:Unit:=()
def tw8204583850501218546:Unit:=()
def tw8221627807733373235:Unit:=()
def tw822398967263682040:Unit:=()
def tw8230575903253586518:Unit:=()
def tw8358128702932525181:Unit:=()
def tw8358370678918196245:Unit:=()
def tw8556468717852351577:Unit:=()
def tw8596025087355264236:Unit:=()
def tw8602711423374688052:Unit:=()
def tw8635711274620926630:Unit:=()
def tw8635940018274013779:Unit:=()
def tw8638449180846001177:Unit:=()
def tw8643153276620608426:Unit:=()
def tw865966269857617258:Unit:=()
def tw8703807660245614435:Unit:=()
def tw8722835779239573441:Unit:=()
def tw8729342059806697597:Unit:=()
def tw8729786269770427051:Unit:=()
def tw8747151820489968173:Unit:=()
def tw8763742145605623623:Unit:=()
def tw8920566817426983504:Unit:=()
def tw8984714873300353932:Unit:=()
def tw8995289776138340626:Unit:=()
def tw9021208931942023512:Unit:=()
def tw9026565200355188311:Unit:=()
def tw9121148481712131443:Unit:=()
def tw9129212726590814049:Unit:=()
def tw9150312976773632815:Unit:=()
def tw9204445418122371221:Unit:=()
def tw9204707047847387502:Unit:=()
def tw9375715051966398102:Unit:=()
def tw9383068628522538087:Unit:=()
def tw9408514078676310763:Unit:=()
def tw941214423802806855:Unit:=()
def tw9433504801522444456:Unit:=()
def tw9498023808461804862:Unit:=()
def tw9503437825524901547:Unit:=()
def tw9523663311555052048:Unit:=()
def tw9526219421438820149:Unit:=()
def tw9534503200064500856:Unit:=()
def tw9624593493654218749:Unit:=()
def tw9644404501262483768:Unit:=()
def tw9652864886828896290:Unit:=()
def tw9701705658141404920:Unit:=()
def tw9756184349432731399:Unit:=()
def tw9763494037905964210:Unit:=()
def tw9808284369620969630:Unit:=()
def tw9821443543412241711:Unit:=()
def tw9840311803738000979:Unit:=()
def tw9887974273611680175:Unit:=()
def tw991420727887258286:Unit:=()
def tw9942212509922763968:Unit:=()
def tw9990436094275125636:Unit:=()
def tw9991006467949860993:Unit:=()
def tw9999692922360471265:Unit:=()
def tw12815670020565486074:Unit:=()
def tw12956649035087330386:Unit:=()
def tw13666040610473358956:Unit:=()
def tw16796805686024276562:Unit:=()
def tw17638306664695766424:Unit:=()
def tw2430907029859355225:Unit:=()
def tw6031689205570809344:Unit:=()
def tw6096043816965499315:Unit:=()
def tw638054987931293714:Unit:=()
def tw11350665495973095818:Unit:=()
def tw11513472583015852167:Unit:=()
def tw14892537781401564974:Unit:=()
def tw335301032646222705:Unit:=()
def tw4600755781427170889:Unit:=()
def tw469832988568771621:Unit:=()
def tw6416129432760981783:Unit:=()
def tw7554196056287472146:Unit:=()
def tw7571404877432759712:Unit:=()
def tw9029780837121147908:Unit:=()
def tw10758792572305128598:Unit:=()
end PySem.W.Fast
open PySem PySem.W PyProof.Rows
set_option maxRecDepth 100000 in
set_option maxHeartbeats 0 in
theorem PySem.Challenge.cw_slideroom_k23_books_refused_holds : PySem.Challenge.rw_slideroom_k23_books_refused.Holds := by
  w_on; o_law; k_head; (case hw => w_witness2)
  k_fill
  refine K23.walk (l := PySem.Challenge.rw_slideroom_k23_books_refused) rfl rfl (fun w h Y => PySem.W.kIn_of Y) ?F
  case F =>
    intro w mg fa h KX G hmg
    refine' K23.all_mk KX G hmg ?eR ?eh ?et ?ea0 ?el0 ?ei0 ?ef0 ?ec0 ?ek0 ?es0 ?em0 ?eg0 ?eb0 ?ej0 ?en0_0 ?ea1 ?el1 ?ei1 ?ef1 ?ec1 ?ek1 ?es1 ?em1 ?eg1 ?eb1 ?ej1 ?en1_0 ?ea2 ?el2 ?ei2 ?ef2 ?ec2 ?ek2 ?es2 ?em2 ?eg2 ?eb2 ?ej2 ?en2_0 ?en2_1 ?ea3 ?el3 ?ei3 ?ef3 ?ec3 ?ek3 ?es3 ?em3 ?eg3 ?eb3 ?ej3 ?en3_0 ?en3_1 ?a0_ ?l0_ ?c0_ ?k0_ ?a1_ ?l1_ ?c1_ ?k1_ ?a2_ ?l2_ ?c2_ ?k2_ ?a3_ ?l3_ ?c3_ ?k3_ ?a4_ ?l4_ ?c4_ ?k4_ ?a5_ ?l5_ ?c5_ ?k5_ ?a6_ ?l6_ ?c6_ ?k6_ ?a7_ ?l7_ ?c7_ ?k7_ ?a8_ ?l8_ ?c8_ ?k8_ ?a9_ ?l9_ ?c9_ ?k9_ ?a10_ ?l10_ ?c10_ ?k10_ ?a11_ ?l11_ ?c11_ ?k11_ ?a12_ ?l12_ ?c12_ ?k12_ ?a13_ ?l13_ ?c13_ ?k13_ ?a14_ ?l14_ ?c14_ ?k14_ ?a15_ ?l15_ ?c15_ ?k15_ ?a16_ ?l16_ ?c16_ ?k16_ ?a17_ ?l17_ ?c17_ ?k17_ ?a18_ ?l18_ ?c18_ ?k18_ ?a19_ ?l19_ ?c19_ ?k19_ ?a20_ ?l20_ ?c20_ ?k20_ ?nb0 ?nb1 ?nb2 ?nb3 ?nb4 ?nb5 ?nb6 ?nb7 ?nb8 ?nb9 ?nb10 ?nb11 ?con0 ?con1 ?xx_NotTaken_NotFree ?zc ?zt ?zm ?aCH ?pgH ?hdH ?poH ?saH ?mkH ?kcH ?naH_many ?naH_free ?at_Hinit ?fn_Hinit ?lk_Hinit ?cd_Hinit ?kp_Hinit ?at_Htold ?fn_Htold ?lk_Htold ?cd_Htold ?kp_Htold ?at_Hhas ?fn_Hhas ?lk_Hhas ?cd_Hhas ?kp_Hhas ?at_Hhas_taken ?fn_Hhas_taken ?lk_Hhas_taken ?cd_Hhas_taken ?kp_Hhas_taken ?at_Hhole_at ?fn_Hhole_at ?lk_Hhole_at ?cd_Hhole_at ?kp_Hhole_at ?at_Htake ?fn_Htake ?lk_Htake ?cd_Htake ?kp_Htake ?at_Hgive ?fn_Hgive ?lk_Hgive ?cd_Hgive ?kp_Hgive
    (case eR => k_is)
    (case eh => k_is)
    (case et => k_is)
    (case ea0 => k_is)
    (case el0 => k_is)
    (case ei0 => k_is)
    (case ef0 => k_is)
    (case ec0 => k_is)
    (case ek0 => k_is)
    (case es0 => k_is)
    (case em0 => k_is)
    (case eg0 => k_is)
    (case eb0 => k_is)
    (case ej0 => k_is)
    (case en0_0 => k_is)
    (case ea1 => k_is)
    (case el1 => k_is)
    (case ei1 => k_is)
    (case ef1 => k_is)
    (case ec1 => k_is)
    (case ek1 => k_is)
    (case es1 => k_is)
    (case em1 => k_is)
    (case eg1 => k_is)
    (case eb1 => k_is)
    (case ej1 => k_is)
    (case en1_0 => k_is)
    (case ea2 => k_is)
    (case el2 => k_is)
    (case ei2 => k_is)
    (case ef2 => k_is)
    (case ec2 => k_is)
    (case ek2 => k_is)
    (case es2 => k_is)
    (case em2 => k_is)
    (case eg2 => k_is)
    (case eb2 => k_is)
    (case ej2 => k_is)
    (case en2_0 => k_is)
    (case en2_1 => k_is)
    (case ea3 => k_is)
    (case el3 => k_is)
    (case ei3 => k_is)
    (case ef3 => k_is)
    (case ec3 => k_is)
    (case ek3 => k_is)
    (case es3 => k_is)
    (case em3 => k_is)
    (case eg3 => k_is)
    (case eb3 => k_is)
    (case ej3 => k_is)
    (case en3_0 => k_is)
    (case en3_1 => k_is)
    (case a0_ => k_is)
    (case l0_ => k_is)
    (case c0_ => k_is)
    (case k0_ => k_is)
    (case a1_ => k_is)
    (case l1_ => k_is)
    (case c1_ => k_is)
    (case k1_ => k_is)
    (case a2_ => k_is)
    (case l2_ => k_is)
    (case c2_ => k_is)
    (case k2_ => k_is)
    (case a3_ => k_is)
    (case l3_ => k_is)
    (case c3_ => k_is)
    (case k3_ => k_is)
    (case a4_ => k_is)
    (case l4_ => k_is)
    (case c4_ => k_is)
    (case k4_ => k_is)
    (case a5_ => k_is)
    (case l5_ => k_is)
    (case c5_ => k_is)
    (case k5_ => k_is)
    (case a6_ => k_is)
    (case l6_ => k_is)
    (case c6_ => k_is)
    (case k6_ => k_is)
    (case a7_ => k_is)
    (case l7_ => k_is)
    (case c7_ => k_is)
    (case k7_ => k_is)
    (case a8_ => k_is)
    (case l8_ => k_is)
    (case c8_ => k_is)
    (case k8_ => k_is)
    (case a9_ => k_is)
    (case l9_ => k_is)
    (case c9_ => k_is)
    (case k9_ => k_is)
    (case a10_ => k_is)
    (case l10_ => k_is)
    (case c10_ => k_is)
    (case k10_ => k_is)
    (case a11_ => k_is)
    (case l11_ => k_is)
    (case c11_ => k_is)
    (case k11_ => k_is)
    (case a12_ => k_is)
    (case l12_ => k_is)
    (case c12_ => k_is)
    (case k12_ => k_is)
    (case a13_ => k_is)
    (case l13_ => k_is)
    (case c13_ => k_is)
    (case k13_ => k_is)
    (case a14_ => k_is)
    (case l14_ => k_is)
    (case c14_ => k_is)
    (case k14_ => k_is)
    (case a15_ => k_is)
    (case l15_ => k_is)
    (case c15_ => k_is)
    (case k15_ => k_is)
    (case a16_ => k_is)
    (case l16_ => k_is)
    (case c16_ => k_is)
    (case k16_ => k_is)
    (case a17_ => k_is)
    (case l17_ => k_is)
    (case c17_ => k_is)
    (case k17_ => k_is)
    (case a18_ => k_is)
    (case l18_ => k_is)
    (case c18_ => k_is)
    (case k18_ => k_is)
    (case a19_ => k_is)
    (case l19_ => k_is)
    (case c19_ => k_is)
    (case k19_ => k_is)
    (case a20_ => k_is)
    (case l20_ => k_is)
    (case c20_ => k_is)
    (case k20_ => k_is)
    (case nb0 => k_is)
    (case nb1 => k_is)
    (case nb2 => k_is)
    (case nb3 => k_is)
    (case nb4 => k_is)
    (case nb5 => k_is)
    (case nb6 => k_is)
    (case nb7 => k_is)
    (case nb8 => k_is)
    (case nb9 => k_is)
    (case nb10 => k_is)
    (case nb11 => k_is)
    (case con0 => k_is)
    (case con1 => k_is)
    (case xx_NotTaken_NotFree => kts_exm)
    (case zc => k_is)
    (case zt => k_is)
    (case zm => k_is)
    (case aCH => k_is)
    (case pgH => k_is)
    (case hdH => k_is)
    (case poH => k_is)
    (case saH => k_is)
    (case mkH => k_is)
    (case kcH => k_is)
    (case naH_many => k_is)
    (case naH_free => k_is)
    (case at_Hinit => k_is)
    (case fn_Hinit => k_is)
    (case lk_Hinit => k_is)
    (case cd_Hinit => k_is)
    (case kp_Hinit => k_is)
    (case at_Htold => k_is)
    (case fn_Htold => k_is)
    (case lk_Htold => k_is)
    (case cd_Htold => k_is)
    (case kp_Htold => k_is)
    (case at_Hhas => k_is)
    (case fn_Hhas => k_is)
    (case lk_Hhas => k_is)
    (case cd_Hhas => k_is)
    (case kp_Hhas => k_is)
    (case at_Hhas_taken => k_is)
    (case fn_Hhas_taken => k_is)
    (case lk_Hhas_taken => k_is)
    (case cd_Hhas_taken => k_is)
    (case kp_Hhas_taken => k_is)
    (case at_Hhole_at => k_is)
    (case fn_Hhole_at => k_is)
    (case lk_Hhole_at => k_is)
    (case cd_Hhole_at => k_is)
    (case kp_Hhole_at => k_is)
    (case at_Htake => k_is)
    (case fn_Htake => k_is)
    (case lk_Htake => k_is)
    (case cd_Htake => k_is)
    (case kp_Htake => k_is)
    (case at_Hgive => k_is)
    (case fn_Hgive => k_is)
    (case lk_Hgive => k_is)
    (case cd_Hgive => k_is)
    (case kp_Hgive => k_is)
