import PyProof.Rows.All
import Wide.All
import OpenK.AllK
import Wide.FinOn
import Lean
import PyProof.EqAt
import PyProof.EqKinds
import PyProof.TupleCall
import PyProof.NeKinds
import PyProof.ExcInit
import PyProof.StationsW
import PyProof.ExcBaseAll.ValueError
import PyProof.ExcArgs
import KE.KIsAll
import PyProof.ReprRoads
import PyProof.CallFns
import PyProof.ExcClass3
import PyProof.StrBlock2
import PyProof.FitsInt
import PyProof.StrLawsRepr
import KE.KTryMore
import PyProof.RulesAs
import KE.KIntText
import PyProof.StrLawsChain
import PyProof.StrCalls2
import PyProof.ZipIter
import PyProof.Conv_bool
import PyProof.CallStr
import PyProof.TupleIter
import KE.KEqDict
import PyProof.AutoListH
import PyProof.FactsAll.range_2
import KE.IntTextLaws
import PyProof.StrCalls
import PySem.Challenge.RW_slideroom_k01_lines_read
-- CHANGE: your row's module here, as the last of these rows
set_option Elab.async false
set_option linter.all false
set_option maxRecDepth 100000
namespace L2
open PySem PySem.Spec PyProof.Rows
abbrev Key := Sum Int Str
def keyIs : Key → Value → Bool
  | .inl k, v => Value.isInt k v
  | .inr x, v => Value.isStrOf x v
def keyH (w : World) : Key → Int
  | .inl k => hashInt k
  | .inr x => hashStr w x
theorem keyIs_shape : ∀ {k : Key} {v : Value}, keyIs k v = true → (∃ i t, k = Sum.inl i ∧ v = Value.int i t) ∨ (∃ x t, k = Sum.inr x ∧ v = Value.str x t)
  | .inl i, v, h => by
    obtain ⟨t, e⟩ := Value.isInt_shape (k := i) (v := v) h
    exact .inl ⟨i, t, rfl, e⟩
  | .inr x, v, h => by
    obtain ⟨t, e⟩ := Value.isStrOf_shape (x := x) (v := v) h
    exact .inr ⟨x, t, rfl, e⟩
theorem keyIs_int (i : Int) (t : Tok) : keyIs (.inl i) (.int i t) = true := by simp [keyIs, Value.isInt]
theorem keyIs_str (x : Str) (t : Tok) : keyIs (.inr x) (.str x t) = true := by simp [keyIs, Value.isStrOf]
theorem key_ll (a b : Int) : decide ((Sum.inl a : Key) = Sum.inl b) = (a == b) := by
  by_cases e : a = b
  · subst e; simp
  · have h : ¬ (Sum.inl a : Key) = Sum.inl b := fun q => e (Sum.inl.inj q)
    rw [decide_eq_false h]
    exact (beq_eq_false_iff_ne.mpr e).symm
theorem key_rr (a b : Str) : decide ((Sum.inr a : Key) = Sum.inr b) = decide (a = b) := by
  by_cases e : a = b
  · subst e; simp
  · have h : ¬ (Sum.inr a : Key) = Sum.inr b := fun q => e (Sum.inr.inj q)
    rw [decide_eq_false h, decide_eq_false e]
theorem key_lr (a : Int) (b : Str) : decide ((Sum.inl a : Key) = Sum.inr b) = false := decide_eq_false (fun q => nomatch q)
theorem key_rl (a : Str) (b : Int) : decide ((Sum.inr a : Key) = Sum.inl b) = false := decide_eq_false (fun q => nomatch q)
def mixKind (prog : Program) (w : World) : PySem.KeyKind prog w Key where
  is := keyIs
  hash := keyH w
  inj := fun v a b ha hb => by
    rcases keyIs_shape ha with ⟨i, t, rfl, rfl⟩ | ⟨x, t, rfl, rfl⟩
    · rcases keyIs_shape hb with ⟨j, u, rfl, e⟩ | ⟨y, u, rfl, e⟩
      · injection e with e1 _; rw [e1]
      · exact nomatch e
    · rcases keyIs_shape hb with ⟨j, u, rfl, e⟩ | ⟨y, u, rfl, e⟩
      · exact nomatch e
      · injection e with e1 _; rw [e1]
  byValue := fun k v h => by
    rcases keyIs_shape h with ⟨i, t, rfl, rfl⟩ | ⟨x, t, rfl, rfl⟩ <;> rfl
  pyHash := fun hv h => by
    rcases keyIs_shape hv with ⟨i, t, rfl, rfl⟩ | ⟨x, t, rfl, rfl⟩
    · exact wpAny_pyHash_int h
    · exact wpAny_pyHash_str h
  eqBool := fun hu hv h => by
    rcases keyIs_shape hu with ⟨i, t, rfl, rfl⟩ | ⟨x, t, rfl, rfl⟩
    · rcases keyIs_shape hv with ⟨j, u, rfl, rfl⟩ | ⟨y, u, rfl, rfl⟩
      · rw [key_ll] at h; exact wpAny_eqBool_int h
      · rw [key_lr] at h; exact SeqAt.EqAt.int_str i t y u _ _ _ _ h
    · rcases keyIs_shape hv with ⟨j, u, rfl, rfl⟩ | ⟨y, u, rfl, rfl⟩
      · rw [key_rl] at h; exact SeqAt.EqAt.str_int x t j u _ _ _ _ h
      · rw [key_rr] at h; exact wpAny_eqBool_str h
  «strs» := fun k x t v h => by
    rcases keyIs_shape h with ⟨i, u, rfl, e⟩ | ⟨y, u, rfl, e⟩
    · exact nomatch e
    · injection e with e1 _
      subst e1
      cases v <;> rfl
theorem mixKind_int (prog : Program) (w : World) (i : Int) (t : Tok) : (mixKind prog w).is (.inl i) (.int i t) = true := keyIs_int i t
theorem mixKind_str (prog : Program) (w : World) (x : Str) (t : Tok) : (mixKind prog w).is (.inr x) (.str x t) = true := keyIs_str x t
inductive V where
  | non | bl (b : Bool) | int (i : Int) | str (x : Str) | byt (b : Array UInt8) | flt (b : UInt64) | ref (a : Addr) | ty (n : String)
  deriving DecidableEq
def RelV : V → Value → Prop
  | .non, u => u = Value.none
  | .bl b, u => u = Value.bool b
  | .int i, u => ∃ t, u = Value.int i t
  | .str x, u => ∃ t, u = Value.str x t
  | .byt b, u => ∃ t, u = Value.bytes b t
  | .flt b, u => ∃ t, u = Value.float b t
  | .ref a, u => u = Value.ref a
  | .ty n, u => u = Value.type n
abbrev Vals : List V → List Value → Prop := Paired RelV
theorem Vals.length {xs : List V} {us : List Value} (r : Vals xs us) : xs.length = us.length := Paired.length r
theorem Vals.get : ∀ {xs : List V} {us : List Value} {i : Nat} {x : V}, Vals xs us → xs[i]? = some x → ∃ u, us[i]? = some u ∧ RelV x u
  | _, _, _, _, .nil, e => by simp at e
  | _, _, 0, _, .cons r _, e => by simp at e; subst e; exact ⟨_, rfl, r⟩
  | _, _, i + 1, x, .cons _ t, e => by
    obtain ⟨u, h1, h2⟩ := Vals.get (i := i) (x := x) t (by simpa using e)
    exact ⟨u, by simpa using h1, h2⟩
theorem Vals.set {x : V} {u : Value} (r : RelV x u) : ∀ {xs : List V} {us : List Value} (i : Nat), Vals xs us → Vals (xs.set i x) (us.set i u)
  | _, _, _, .nil => .nil
  | _, _, 0, .cons _ t => .cons r t
  | _, _, i + 1, .cons q t => .cons q (Vals.set r i t)
theorem Vals.append : ∀ {xs ys : List V} {us ws : List Value}, Vals xs us → Vals ys ws → Vals (xs ++ ys) (us ++ ws)
  | _, _, _, _, .nil, s => s
  | _, _, _, _, .cons r t, s => .cons r (Vals.append t s)
theorem Vals.take : ∀ {xs : List V} {us : List Value} (n : Nat), Vals xs us → Vals (xs.take n) (us.take n)
  | _, _, 0, _ => .nil
  | _, _, _ + 1, .nil => .nil
  | _, _, n + 1, .cons r t => .cons r (Vals.take n t)
theorem Vals.drop : ∀ {xs : List V} {us : List Value} (n : Nat), Vals xs us → Vals (xs.drop n) (us.drop n)
  | _, _, 0, r => r
  | _, _, _ + 1, .nil => .nil
  | _, _, n + 1, .cons _ t => Vals.drop n t
def RelO : Option V → Option Value → Prop
  | some v, some u => RelV v u
  | none, none => True
  | _, _ => False
def KV {κ : Type} : List (κ × V) → List (κ × Value) → Prop := Paired fun (p : κ × V) (q : κ × Value) => p.1 = q.1 ∧ RelV p.2 q.2
def kV : Key → V
  | .inl i => .int i
  | .inr x => .str x
inductive HO where
  /-- a list -/
  | lst (xs : List V)
  /-- a tuple (never changes) -/
  | tup (xs : List V)
  /-- a dict whose keys are ints and texts; one whose keys are tuples of ints and texts (the empty one is both) -/
  | dK (kvs : List (Key × V)) | dT (kvs : List (List Key × V))
  /-- a set of ints: its members, its size -/
  | set (S : Int → Bool) (n : Nat)
  /-- an instance of the class at C, its dict at dx, its attributes -/
  | ins (C dx : Addr) (fs : List (Str × V))
  /-- the dict of the instance at x -/
  | own (x : Addr)
  /-- the dict of an exception -/
  | xd (fs : List (Str × V))
  /-- a bound method, f of x -/
  | met (f x : Addr)
  /-- a range object lo, lo + 1, .. below hi -/
  | rng (lo hi : Int)
  /-- a thing that is known to the object (the script; a dict while a loop walks it): read, never written while it is so -/
  | frz (o : Obj) (u : HO)
  /-- a code object's table -/
  | tbl (ps : Array Value)
  /-- any other thing, by what is true of its one object (a def of one's own: SetO a S n := HO.ext fun h => ..) -/
  | ext (φ : Heap → Prop)
abbrev Hp := Addr → Option HO
def upd (H : Hp) (a : Addr) (o : HO) : Hp := fun b => if b = a then some o else H b
theorem upd_same {H : Hp} {a : Addr} {o : HO} : upd H a o a = some o := by unfold upd; rw [if_pos rfl]
theorem upd_ne {H : Hp} {a b : Addr} {o : HO} (h : b ≠ a) : upd H a o b = H b := by unfold upd; rw [if_neg h]
theorem ne_of_none {H : Hp} {a b : Addr} {o : HO} (h : H a = some o) (h' : H b = none) : a ≠ b := by
  intro e; subst e; rw [h] at h'; cases h'
section
variable (P : Program) (w : World)
def ObjOk (H : Hp) (h : Heap) (a : Addr) : HO → Prop
  | .lst xs => xs.length ≤ sizeLine ∧ ∃ (its : List Value) (n : Nat), Vals xs its ∧ h.get? a = some { cls := .type "list", data := .seq its.toArray n }
  | .tup xs => xs.length ≤ sizeLine ∧ ∃ its : List Value, Vals xs its ∧ IsTup h a its.toArray
  | .dK kvs => kvs.length ≤ sizeLine ∧ (a == sysModules) = false ∧ ∃ vs, KV kvs vs ∧ h.DictOf (mixKind P w) a vs
  | .dT kvs => kvs.length ≤ sizeLine ∧ (a == sysModules) = false ∧ ∃ xs : List (List Key × Addr × Value),
      Paired (fun (p : List Key × V) (q : List Key × Addr × Value) => p.1 = q.1 ∧ H q.2.1 = some (.tup (p.1.map kV)) ∧ RelV p.2 q.2.2) kvs xs ∧
      ∃ o es ep, h.get? a = some o ∧ o.ExactDict ∧ o.data = .dict es ep ∧ es.toList = xs.map (entryOfKey (tupleKind (mixKind P w))) ∧ (xs.map (·.1)).Nodup
  | .set S n => h.SetOf (intKind P w) a S n
  | .ins C dx fs => H dx = some (.own a) ∧ fs.length ≤ 1000 ∧ dx ≠ a ∧ h.get? a = some (PySem.W.instObj C dx) ∧
      ∃ mA, h.Ns1 dx mA ∧ (∀ f, RelO (fs.lookup f) (mA f)) ∧ PySem.Within mA (fs.map (·.1))
  | .own _ => ∃ o, h.get? a = some o
  | .xd fs => ∃ mA, h.Ns1 a mA ∧ ∀ f, RelO (fs.lookup f) (mA f)
  | .rng lo hi => ∃ t u v, h.get? a = some { cls := .type "range", data := .fields #[.int lo t, .int hi u, .int 1 v] }
  | .frz o u => h.get? a = some o ∧ ObjOk H h a u
  | .tbl ps => h.get? a = some { cls := .none, data := .fields ps }
  | .met f x => h.get? a = some (PySem.W.methodObj (.ref f) (.ref x))
  | .ext φ => φ h ∧ (∃ o, h.get? a = some o) ∧ ∀ h1 h2 : Heap, φ h1 → (∀ o, h1.get? a = some o → h2.get? a = some o) → φ h2
def HOk (H : Hp) (h : Heap) : Prop := ∀ a o, H a = some o → ObjOk P w H h a o
end
section
variable {P : Program} {w : World} {H H' : Hp} {h h' : Heap} {a : Addr} {o : HO}
theorem ObjOk.lt (x : ObjOk P w H h a o) : a < h.objs.size := by
  cases o with
  | lst xs => obtain ⟨_, _, _, _, e⟩ := x; exact Heap.lt_size e
  | tup xs => obtain ⟨_, _, _, p⟩ := x; exact p.lt
  | dK kvs => obtain ⟨_, _, _, _, o, _, _, e, _⟩ := x; exact Heap.lt_size e
  | dT kvs => obtain ⟨_, _, _, _, o, _, _, e, _⟩ := x; exact Heap.lt_size e
  | set S n => obtain ⟨o, _, _, _, e, _⟩ := x; exact Heap.lt_size e
  | ins C dx fs => obtain ⟨_, _, _, e, _⟩ := x; exact Heap.lt_size e
  | own y => obtain ⟨_, e⟩ := x; exact Heap.lt_size e
  | xd fs => obtain ⟨_, ⟨_, _, _, e, _⟩, _⟩ := x; exact Heap.lt_size e
  | rng lo hi => obtain ⟨_, _, _, e⟩ := x; exact Heap.lt_size e
  | frz ob u => obtain ⟨e, _⟩ := x; exact Heap.lt_size e
  | tbl ps => exact Heap.lt_size (show h.get? a = some _ from x)
  | met f y => exact Heap.lt_size (show h.get? a = some _ from x)
  | ext φ => obtain ⟨_, ⟨_, e⟩, _⟩ := x; exact Heap.lt_size e
theorem Paired.mapP {α β : Type} {F G : α → β → Prop} : ∀ {l₁ : List α} {l₂ : List β}, Paired F l₁ l₂ → (∀ a b, F a b → G a b) → Paired G l₁ l₂
  | _, _, .nil, _ => .nil
  | _, _, .cons r t, f => .cons (f _ _ r) (Paired.mapP t f)
theorem ObjOk.stay (x : ObjOk P w H h a o) (k : ∀ b u, (b = a ∨ H b = some (.own a)) → h.get? b = some u → h'.get? b = some u)
    (ho : ∀ b, H b = some (.own a) → H' b = some (.own a)) (ht : ∀ b xs, H b = some (.tup xs) → H' b = some (.tup xs)) : ObjOk P w H' h' a o := by
  induction o with
  | lst xs => obtain ⟨z, its, n, r, e⟩ := x; exact ⟨z, its, n, r, k _ _ (.inl rfl) e⟩
  | tup xs => obtain ⟨z, its, r, ob, e, c⟩ := x; exact ⟨z, its, r, ob, k _ _ (.inl rfl) e, c⟩
  | dK kvs => obtain ⟨z, y, vs, r, ob, es, ep, e, c⟩ := x; exact ⟨z, y, vs, r, ob, es, ep, k _ _ (.inl rfl) e, c⟩
  | dT kvs =>
    obtain ⟨z, y, xs, r, ob, es, ep, e, c⟩ := x
    exact ⟨z, y, xs, Paired.mapP r fun p q z => ⟨z.1, ht _ _ z.2.1, z.2.2⟩, ob, es, ep, k _ _ (.inl rfl) e, c⟩
  | set S n => obtain ⟨ob, es, ep, t, e, c⟩ := x; exact ⟨ob, es, ep, t, k _ _ (.inl rfl) e, c⟩
  | ins C dx fs =>
    obtain ⟨d, z, ne, e, mA, ⟨od, es, ep, e2, c⟩, r⟩ := x
    exact ⟨ho _ d, z, ne, k _ _ (.inl rfl) e, mA, ⟨od, es, ep, k _ _ (.inr d) e2, c⟩, r⟩
  | own y => obtain ⟨ob, e⟩ := x; exact ⟨ob, k _ _ (.inl rfl) e⟩
  | xd fs => obtain ⟨mA, ⟨od, es, ep, e, c⟩, r⟩ := x; exact ⟨mA, ⟨od, es, ep, k _ _ (.inl rfl) e, c⟩, r⟩
  | rng lo hi => obtain ⟨t, u, v, e⟩ := x; exact ⟨t, u, v, k _ _ (.inl rfl) e⟩
  | frz ob u ih => obtain ⟨e, q⟩ := x; exact ⟨k _ _ (.inl rfl) e, ih q⟩
  | tbl ps =>
    have e : h.get? a = some { cls := .none, data := .fields ps } := x
    show h'.get? a = some { cls := .none, data := .fields ps }
    exact k a _ (.inl rfl) e
  | met f y =>
    have e : h.get? a = some (PySem.W.methodObj (.ref f) (.ref y)) := x
    show h'.get? a = some (PySem.W.methodObj (.ref f) (.ref y))
    exact k a _ (.inl rfl) e
  | ext φ => obtain ⟨p, ⟨o, e⟩, st⟩ := x; exact ⟨st _ _ p fun o q => k _ _ (.inl rfl) q, ⟨o, k _ _ (.inl rfl) e⟩, st⟩
theorem HOk.lt (x : HOk P w H h) (e : H a = some o) : a < h.objs.size := (x a o e).lt
theorem HOk.fresh (x : HOk P w H h) (e : h.objs.size ≤ a) : H a = none := by
  cases q : H a with
  | none => rfl
  | some u => exact absurd (Nat.lt_of_lt_of_le (x.lt q) e) (Nat.lt_irrefl _)
theorem HOk.kept (x : HOk P w H h) (k : ∀ b u, h.get? b = some u → h'.get? b = some u) : HOk P w H h' := fun a o e =>
  (x a o e).stay (fun b u _ q => k b u q) (fun _ q => q) fun _ _ q => q
theorem HOk.laid (x : HOk P w H h) (k : ∀ b u, h.get? b = some u → h'.get? b = some u) (hp : h.objs.size ≤ a) (new : ObjOk P w (upd H a o) h' a o) : HOk P w (upd H a o) h' := fun b u e => by
  have hn := x.fresh hp
  by_cases hb : b = a
  · subst hb; rw [upd_same] at e; cases e; exact new
  · rw [upd_ne hb] at e
    exact (x b u e).stay (fun c v _ q => k c v q) (fun c q => by rw [upd_ne (ne_of_none q hn)]; exact q) fun c xs q => by rw [upd_ne (ne_of_none q hn)]; exact q
end
def Rd (H : Hp) (a : Addr) (u : HO) : Prop := H a = some u ∨ ∃ o, H a = some (.frz o u)
theorem Rd.of {H : Hp} {a : Addr} {u : HO} (h : H a = some u) : Rd H a u := .inl h
theorem Rd.ok {P : Program} {w : World} {H : Hp} {h : Heap} {a : Addr} {u : HO} (r : Rd H a u) (x : HOk P w H h) : ObjOk P w H h a u := by
  rcases r with r | ⟨o, r⟩
  · exact x a u r
  · obtain ⟨_, q⟩ := x a _ r
    exact q
def Mut : Option HO → Prop
  | some (.lst _) => True
  | some (.dK _) => True
  | some (.dT _) => True
  | some (.set _ _) => True
  | some (.ins _ _ _) => True
  | some (.ext _) => True
  | _ => False
section
variable {P : Program} {w : World} {H : Hp} {h h' : Heap} {x e : Addr} {o' : HO}
theorem HOk.write (ok : HOk P w H h) (mu : Mut (H x)) (he : e = x ∨ H e = some (.own x)) (k : ∀ b u, b ≠ e → h.get? b = some u → h'.get? b = some u) (heo : ∃ u, h'.get? e = some u)
    (new : ObjOk P w (upd H x o') h' x o') : HOk P w (upd H x o') h' := fun b u q => by
  have nown : ∀ c y, H c = some (.own y) → c ≠ x := fun c y r z => by subst z; rw [r] at mu; exact mu
  have ntup : ∀ c xs, H c = some (.tup xs) → c ≠ x := fun c xs r z => by subst z; rw [r] at mu; exact mu
  by_cases hb : b = x
  · subst hb; rw [upd_same] at q; cases q; exact new
  · rw [upd_ne hb] at q
    by_cases hbe : b = e
    · have q' : H b = some (.own x) := by
        rcases he with z | z
        · exact absurd (hbe.trans z) hb
        · rw [hbe]; exact z
      rw [q] at q'; cases q'
      obtain ⟨v, hv⟩ := heo
      exact ⟨v, by rw [hbe]; exact hv⟩
    · refine (ok b u q).stay (fun c v hc r => k c v ?_ r) (fun c r => by rw [upd_ne (nown c b r)]; exact r) fun c xs r => by rw [upd_ne (ntup c xs r)]; exact r
      rcases hc with rfl | hc
      · exact hbe
      · rintro rfl
        rcases he with z | z
        · exact nown c b hc z
        · rw [hc] at z; cases z; exact hb rfl
end
structure Un (fs ex : List Addr) (H H' : Hp) (h h' : Heap) : Prop where
  keep : ∀ b o, h.get? b = some o → H b = none → b ∉ fs → b ∉ ex → h'.get? b = some o
  slot : ∀ b o, h.get? b = some o → H b = none → b ∈ fs → b ∉ ex → ∃ sl, h'.get? b = some { o with slots := sl }
  free : ∀ b o, h.get? b = some o → H b = none → b ∉ ex → H' b = none
  there : ∀ b o, h.get? b = some o → b ∉ ex → ∃ o', h'.get? b = some o'
  tups : ∀ b xs, H b = some (.tup xs) → H' b = some (.tup xs)
  frzs : ∀ b o u, H b = some (.frz o u) → H' b = some (.frz o u)
  tbls : ∀ b ps, H b = some (.tbl ps) → ∃ more, H' b = some (.tbl (ps ++ more))
section
variable {fs fs' ex ex' : List Addr} {H H1 H2 : Hp} {h h1 h2 h' : Heap} {a x e : Addr} {o : HO}
theorem Un.any (u : Un fs ex H H1 h h1) {b : Addr} {ob : Obj} (q : h.get? b = some ob) (n : H b = none) (hx : b ∉ ex) : ∃ sl, h1.get? b = some { ob with slots := sl } := by
  by_cases hb : b ∈ fs
  · exact u.slot b ob q n hb hx
  · exact ⟨ob.slots, u.keep b ob q n hb hx⟩
theorem Un.trans (a : Un fs ex H H1 h h1) (b : Un fs ex H1 H2 h1 h2) : Un fs ex H H2 h h2 where
  keep := fun c ob q n hc hx => b.keep c ob (a.keep c ob q n hc hx) (a.free c ob q n hx) hc hx
  slot := fun c ob q n hc hx => by
    obtain ⟨sl, e1⟩ := a.slot c ob q n hc hx
    obtain ⟨sl', e2⟩ := b.slot c _ e1 (a.free c ob q n hx) hc hx
    exact ⟨sl', e2⟩
  free := fun c ob q n hx => by
    obtain ⟨o', e1⟩ := a.there c ob q hx
    exact b.free c o' e1 (a.free c ob q n hx) hx
  there := fun c ob q hx => by
    obtain ⟨o', e1⟩ := a.there c ob q hx
    exact b.there c o' e1 hx
  tups := fun c xs q => b.tups c xs (a.tups c xs q)
  frzs := fun c ob xs q => b.frzs c ob xs (a.frzs c ob xs q)
  tbls := fun c ps q => by
    obtain ⟨m1, e1⟩ := a.tbls c ps q
    obtain ⟨m2, e2⟩ := b.tbls c _ e1
    exact ⟨m1 ++ m2, by rw [e2, Array.append_assoc]⟩
theorem Un.kept (k : ∀ b u, h.get? b = some u → h'.get? b = some u) : Un fs ex H H h h' :=
  ⟨fun b ob q _ _ _ => k b ob q, fun b ob q _ _ _ => ⟨ob.slots, k b ob q⟩, fun _ _ _ n _ => n, fun b ob q _ => ⟨ob, k b ob q⟩, fun _ _ q => q, fun _ _ _ q => q, fun _ ps q => ⟨#[], by rw [q]; simp⟩⟩
theorem Un.refl : Un fs ex H H h h := Un.kept fun _ _ q => q
theorem Un.laid (k : ∀ b u, h.get? b = some u → h'.get? b = some u) (hp : h.objs.size ≤ a) (hn : H a = none) : Un fs ex H (upd H a o) h h' where
  keep := fun b u q _ _ _ => k b u q
  slot := fun b u q _ _ _ => ⟨u.slots, k b u q⟩
  free := fun b u q n _ => by rw [upd_ne (Nat.ne_of_lt (Nat.lt_of_lt_of_le (Heap.lt_size q) hp))]; exact n
  there := fun b u q _ => ⟨u, k b u q⟩
  tups := fun b xs q => by rw [upd_ne (ne_of_none q hn)]; exact q
  frzs := fun b u xs q => by rw [upd_ne (ne_of_none q hn)]; exact q
  tbls := fun b ps q => ⟨#[], by rw [upd_ne (ne_of_none q hn), q]; simp⟩
theorem Un.write (mu : Mut (H x)) (he : e = x ∨ H e = some (.own x)) (k : ∀ b u, b ≠ e → h.get? b = some u → h'.get? b = some u) (heo : ∃ u, h'.get? e = some u) : Un fs ex H (upd H x o) h h' := by
  have hx : ∀ b, H b = none → b ≠ x := fun b n z => by subst z; rw [n] at mu; exact mu
  have hb : ∀ b, H b = none → b ≠ e := fun b n z => by
    subst z
    rcases he with r | r
    · exact hx b n r
    · rw [n] at r; cases r
  have hm : ∀ b u, H b = some u → ¬ Mut (some u) → b ≠ x := fun b u q nm z => by subst z; rw [q] at mu; exact nm mu
  refine ⟨fun b u q n _ _ => k b u (hb b n) q, fun b u q n _ _ => ⟨u.slots, k b u (hb b n) q⟩, fun b u q n _ => by rw [upd_ne (hx b n)]; exact n, fun b u q _ => ?_,
    fun b xs q => by rw [upd_ne (hm b _ q fun z => z)]; exact q, fun b u xs q => by rw [upd_ne (hm b _ q fun z => z)]; exact q, fun b ps q => ⟨#[], by rw [upd_ne (hm b _ q fun z => z), q]; simp⟩⟩
  by_cases hbe : b = e
  · subst hbe; exact heo
  · exact ⟨u, k b u hbe q⟩
end
def trk (h : Heap) (H : Hp) : List Addr := (List.range h.objs.size).filter fun a => (H a).isSome
def hidT (h : Heap) (H : Hp) : Heap := PySem.W.hideAll h (trk h H)
theorem hidT_size (h : Heap) (H : Hp) : (hidT h H).objs.size = h.objs.size := PySem.W.hideAll_size _ _
theorem hidT_get {h : Heap} {H : Hp} {b : Addr} {o : Obj} (e : h.get? b = some o) (n : H b = none) : (hidT h H).get? b = some o :=
  PySem.W.hideAll_get _ e fun hm => by
    have q : (H b).isSome = true := (List.mem_filter.mp hm).2
    rw [n] at q; simp at q
theorem of_hidT {h : Heap} {H : Hp} {b : Addr} {o : Obj} (e : (hidT h H).get? b = some o) : h.get? b = some o ∧ H b = none := by
  have e' : h.get? b = some o := PySem.W.of_hideAll (trk h H) e
  refine ⟨e', ?_⟩
  cases q : H b with
  | none => rfl
  | some x =>
    have hm : b ∈ trk h H := List.mem_filter.mpr ⟨List.mem_range.mpr (Heap.lt_size e'), by simp [q]⟩
    have z : (hidT h H).get? b = none := PySem.W.hideAll_none (trk h H) hm
    rw [z] at e; cases e
structure Mod (K : PySem.W.Frag) (mg : Str → Option Value) (base : Heap) : Prop where
  kin : K.In base
  glob : base.Ns mainGlobals mg
  blt : ∃ mb, base.Ns builtinsNs mb ∧ ∀ x : Str, x ≠ "__name__" → mb x = bootBuiltins x
  nolimit : base.NoLimit
/-- the context: a def's body (or a comprehension's block) running. base: fixed through the whole law; s₀, H₀: the entry; outer: the frames whose slots others may change (a def's callers); stack: all frames that run;
   ex: iterators that were made ahead of the entry and are walked here (a comprehension's); fn: the names whose cells were made at the entry (a def: all; a comprehension's block: its own); calm: not within an except suite; pn: pins that every state bears; xe: what is wanted of an exception that leaves the code -/
structure Cx where
  prog : Program
  w : World
  K : PySem.W.Frag
  mg : Str → Option Value
  base : Heap
  A : Around
  N : List Str
  s₀ : Shared
  H₀ : Hp
  env : Env
  outer : List Env
  stack : List Env
  ex : List Addr
  fn : Str → Bool
  calm : Bool
  pn : List (Addr × Obj)
  xe : Value → Shared → Prop
def frs (l : List Env) : List Addr := l.filterMap (·.frame)
abbrev Cx.fs (X : Cx) : List Addr := frs X.outer
def Vis (sc : Scope) (x : Str) : Prop := sc.names.lookup x = some .local ∨ sc.names.lookup x = some .cell ∨ sc.names.lookup x = some .free
def Loc (sc : Scope) (x : Str) : Prop := sc.names.lookup x = some .local ∨ sc.names.lookup x = some .cell
def Look (env : Env) (h : Heap) (m : Str → Option Value) (x : Str) (u : Value) : Prop :=
  (env.kindOf x = some .local ∧ m x = some u) ∨ ((env.kindOf x = some .cell ∨ env.kindOf x = some .free) ∧ ∃ c, env.cells.lookup x = some c ∧ h.IsCell c (some u))
structure Cx.Ok (X : Cx) : Prop where
  mod : Mod X.K X.mg X.base
  kind : X.env.scope.kind = .function
  glob : X.env.globals = mainGlobals
  blt : X.env.builtins = builtinsNs
  above : X.s₀.heap.objs.size ≤ X.env.locals
  inj : ∀ x y c, X.env.cells.lookup x = some c → X.env.cells.lookup y = some c → x = y
  has : ∀ x, (X.env.kindOf x = some .cell ∨ X.env.kindOf x = some .free) → ∃ c, X.env.cells.lookup x = some c
  cab : ∀ x c, X.fn x = true → X.env.cells.lookup x = some c → X.s₀.heap.objs.size ≤ c
  hd : X.calm = true → X.A.handled = none
  frames : X.A.frames = some X.stack
  stk : X.stack = X.outer ∨ (X.stack = X.env :: X.outer ∧ X.env.frame = some X.env.locals)
  exf : ∀ b ∈ X.ex, b ≠ X.env.locals ∧ ∀ x c, X.env.cells.lookup x = some c → c ≠ b
  bs : ∀ b o, X.base.get? b = some o → X.s₀.heap.get? b = some o ∧ X.H₀ b = none
  bsz : X.base.objs.size ≤ X.s₀.heap.objs.size
  noex : ∀ b o, X.base.get? b = some o → b ∉ X.ex
  exfs : ∀ b ∈ X.ex, b ∉ X.fs
  funs : X.s₀.heap.FunFrames X.base X.outer
  frf : ∀ b ∈ X.fs, X.H₀ b = none
structure Inv (X : Cx) (pins : List (Addr × Obj)) (σ : List (Option V)) (H : Hp) (s : Shared) : Prop where
  ok : X.Ok
  os : s.os = X.s₀.os
  bare : AllBare s.gens
  base : Un X.fs X.ex X.H₀ H X.s₀.heap s.heap
  loc : ∃ m, s.heap.Ns X.env.locals m ∧ ∀ (i : Nat) (x : Str) (v : V), X.N[i]? = some x → σ[i]? = some (some v) → Vis X.env.scope x → ∃ u, RelV v u ∧ Look X.env s.heap m x u
  cell : ∀ x c, X.env.cells.lookup x = some c → ∃ v, s.heap.IsCell c v
  free : H X.env.locals = none
  freeC : ∀ x c, X.env.cells.lookup x = some c → H c = none
  pin : ∀ p ∈ X.pn ++ pins, s.heap.get? p.1 = some p.2 ∧ H p.1 = none ∧ p.1 ≠ X.env.locals ∧ p.1 ∉ X.fs ∧ ∀ v, p.2.data ≠ .cell v
  hok : HOk X.prog X.w H s.heap
  len : σ.length = X.N.length
section
variable {X : Cx} {pins : List (Addr × Obj)} {σ : List (Option V)} {H H' : Hp} {s : Shared} {h' : Heap}
theorem Cx.Ok.nofr (ok : X.Ok) {b : Addr} {o : Obj} (e : X.base.get? b = some o) : b ∉ X.fs := fun hb => by
  have := (ok.funs.mem hb).1
  rw [e] at this; cases this
theorem Inv.bs (I : Inv X pins σ H s) : ∀ b o, X.base.get? b = some o → s.heap.get? b = some o ∧ H b = none := fun b o e =>
  ⟨I.base.keep b o (I.ok.bs b o e).1 (I.ok.bs b o e).2 (I.ok.nofr e) (I.ok.noex b o e), I.base.free b o (I.ok.bs b o e).1 (I.ok.bs b o e).2 (I.ok.noex b o e)⟩
theorem Inv.bk (I : Inv X pins σ H s) : ∀ b o, X.base.get? b = some o → s.heap.get? b = some o := fun b o e => (I.bs b o e).1
theorem Inv.mod (I : Inv X pins σ H s) : Mod X.K X.mg X.base := I.ok.mod
theorem Inv.kIn (I : Inv X pins σ H s) : X.K.In s.heap := I.ok.mod.kin.keeps I.bk
theorem Inv.lt (I : Inv X pins σ H s) : X.env.locals < s.heap.objs.size := let ⟨_, hn, _⟩ := I.loc; hn.lt
theorem Inv.sz (I : Inv X pins σ H s) : X.s₀.heap.objs.size ≤ s.heap.objs.size := Nat.le_trans I.ok.above (Nat.le_of_lt I.lt)
theorem Inv.nofs (I : Inv X pins σ H s) {a : Addr} (h : s.heap.objs.size ≤ a) : a ∉ X.fs := fun hb => by
  obtain ⟨_, o, ho, _⟩ := I.ok.funs.mem hb
  exact absurd (Nat.lt_of_lt_of_le (Heap.lt_size ho) (Nat.le_trans I.sz h)) (Nat.lt_irrefl _)
theorem Inv.cne (I : Inv X pins σ H s) : ∀ x c, X.env.cells.lookup x = some c → c ≠ X.env.locals := fun x c e z => by
  obtain ⟨v, o, ho, hd⟩ := I.cell x c e
  obtain ⟨m, ⟨o', es, ep, ho', hd', _⟩, _⟩ := I.loc
  rw [z, ho'] at ho; cases ho; rw [hd'] at hd; cases hd
theorem Inv.funs (I : Inv X pins σ H s) : s.heap.FunFrames X.base X.outer := by
  have all : ∀ (l : List Env), (∀ b ∈ frs l, b ∈ X.fs) → X.s₀.heap.FunFrames X.base l → s.heap.FunFrames X.base l := by
    intro l
    induction l with
    | nil => intro _ _; trivial
    | cons env r ih =>
      intro hs hl
      obtain ⟨hk, ⟨L, o, hf, hn, ho, hd⟩, hr⟩ := hl
      have hL : L ∈ X.fs := hs L (by unfold frs; rw [List.filterMap_cons, hf]; exact List.mem_cons_self)
      obtain ⟨sl, e⟩ := I.base.slot L o ho (I.ok.frf L hL) hL fun z => I.ok.exfs L z hL
      exact ⟨hk, ⟨L, _, hf, hn, e, hd⟩, ih (fun b hb => hs b (by unfold frs; rw [List.filterMap_cons, hf]; exact List.mem_cons_of_mem _ hb)) hr⟩
  exact all X.outer (fun _ hb => hb) I.ok.funs
theorem Inv.stack (I : Inv X pins σ H s) : s.heap.FunFrames X.base X.stack := by
  rcases I.ok.stk with e | ⟨e, hf⟩
  · rw [e]; exact I.funs
  · rw [e]
    obtain ⟨m, hn, _⟩ := I.loc
    refine .cons (by rw [I.ok.kind]; decide) hf hn ?_ I.funs
    exact Heap.get?_none_of_le (Nat.le_trans I.ok.bsz I.ok.above)
theorem Inv.stkSub (I : Inv X pins σ H s) : ∀ b ∈ frs X.stack, b ∈ X.env.locals :: X.fs := fun b hb => by
  rcases I.ok.stk with e | ⟨e, hf⟩
  · rw [e] at hb; exact List.mem_cons_of_mem _ hb
  · rw [e] at hb
    unfold frs at hb
    rw [List.filterMap_cons, hf] at hb
    exact hb
theorem Inv.stkFree (I : Inv X pins σ H s) : ∀ b ∈ frs X.stack, H b = none := fun b hb => by
  rcases List.mem_cons.mp (I.stkSub b hb) with e | hb
  · rw [e]; exact I.free
  · obtain ⟨_, o, ho, _⟩ := I.ok.funs.mem hb
    exact I.base.free b o ho (I.ok.frf b hb) fun z => I.ok.exfs b z hb
theorem Inv.step {g' : Array GenState} {t' : Nat} {d' : Drawn} {ch : List Addr} (I : Inv X pins σ H s)
    (hch : ∀ b ∈ ch, (b ∈ X.ex ∨ X.s₀.heap.objs.size ≤ b) ∧ b ≠ X.env.locals ∧ (∀ x c, X.env.cells.lookup x = some c → c ≠ b) ∧ ∀ p ∈ X.pn ++ pins, p.1 ≠ b)
    (keep : ∀ b o, b ≠ X.env.locals → b ∉ X.fs → b ∉ ch → s.heap.get? b = some o → H b = none → h'.get? b = some o)
    (slot : ∀ b o, b ≠ X.env.locals → b ∈ X.fs → b ∉ ch → s.heap.get? b = some o → H b = none → ∃ sl, h'.get? b = some { o with slots := sl }) (free : ∀ b o, b ∉ ch → s.heap.get? b = some o → H b = none → H' b = none)
    (there : ∀ b o, b ∉ ch → s.heap.get? b = some o → ∃ o', h'.get? b = some o')
    (tups : ∀ b xs, H b = some (.tup xs) → H' b = some (.tup xs)) (frzs : ∀ b o u, H b = some (.frz o u) → H' b = some (.frz o u)) (tbls : ∀ b ps, H b = some (.tbl ps) → ∃ more, H' b = some (.tbl (ps ++ more)))
    (ns : ∀ m, s.heap.Ns X.env.locals m → h'.Ns X.env.locals m) (hok : HOk X.prog X.w H' h') (hg : AllBare g') :
    Inv X pins σ H' { s with heap := h', gens := g', drawn := d', toks := t' } := by
  have neL : ∀ b o, X.s₀.heap.get? b = some o → b ≠ X.env.locals := fun b o e => Nat.ne_of_lt (Nat.lt_of_lt_of_le (Heap.lt_size e) I.ok.above)
  have neC : ∀ b o, X.s₀.heap.get? b = some o → b ∉ X.ex → b ∉ ch := fun b o e hx hb => by
    rcases (hch b hb).1 with z | z
    · exact hx z
    · exact absurd (Nat.lt_of_lt_of_le (Heap.lt_size e) z) (Nat.lt_irrefl _)
  have cellK : ∀ x c, X.env.cells.lookup x = some c → ∀ v, s.heap.IsCell c v → h'.IsCell c v := fun x c e v ⟨o, ho, hd⟩ => by
    have nch : c ∉ ch := fun z => (hch c z).2.2.1 x c e rfl
    by_cases hc : c ∈ X.fs
    · obtain ⟨sl, q⟩ := slot c o (I.cne x c e) hc nch ho (I.freeC x c e)
      exact ⟨_, q, hd⟩
    · exact ⟨o, keep c o (I.cne x c e) hc nch ho (I.freeC x c e), hd⟩
  refine ⟨I.ok, I.os, hg, ⟨fun b o e n hb hx => ?_, fun b o e n hb hx => ?_, fun b o e n hx => ?_, fun b o e hx => ?_, fun b xs e => tups b xs (I.base.tups b xs e), fun b o xs e => frzs b o xs (I.base.frzs b o xs e), fun b ps e => ?_⟩, ?_, fun x c e => ?_, ?_, fun x c e => ?_, fun p hp => ?_, hok, I.len⟩
  · exact keep b o (neL b o e) hb (neC b o e hx) (I.base.keep b o e n hb hx) (I.base.free b o e n hx)
  · obtain ⟨sl, e1⟩ := I.base.slot b o e n hb hx
    obtain ⟨sl', e2⟩ := slot b _ (neL b o e) hb (neC b o e hx) e1 (I.base.free b o e n hx)
    exact ⟨sl', e2⟩
  · obtain ⟨o', e1⟩ := I.base.there b o e hx
    exact free b o' (neC b o e hx) e1 (I.base.free b o e n hx)
  · obtain ⟨o', e1⟩ := I.base.there b o e hx
    exact there b o' (neC b o e hx) e1
  · obtain ⟨m1, e1⟩ := I.base.tbls b ps e
    obtain ⟨m2, e2⟩ := tbls b _ e1
    exact ⟨m1 ++ m2, by rw [e2, Array.append_assoc]⟩
  · obtain ⟨m, hn, hl⟩ := I.loc
    refine ⟨m, ns m hn, fun i x v e1 e2 e3 => ?_⟩
    obtain ⟨u, r, l⟩ := hl i x v e1 e2 e3
    refine ⟨u, r, ?_⟩
    rcases l with l | ⟨k, c, e, z⟩
    · exact .inl l
    · exact .inr ⟨k, c, e, cellK x c e _ z⟩
  · obtain ⟨v, z⟩ := I.cell x c e
    exact ⟨v, cellK x c e v z⟩
  · obtain ⟨m, ⟨o, _, _, ho, _⟩, _⟩ := I.loc
    exact free _ o (fun z => (hch _ z).2.1 rfl) ho I.free
  · obtain ⟨v, o, ho, hd⟩ := I.cell x c e
    exact free c o (fun z => (hch c z).2.2.1 x c e rfl) ho (I.freeC x c e)
  · obtain ⟨e, n, ne, nf, d⟩ := I.pin p hp
    have nch : p.1 ∉ ch := fun z => (hch p.1 z).2.2.2 p hp rfl
    exact ⟨keep p.1 p.2 ne nf nch e n, free p.1 p.2 nch e n, ne, nf, d⟩
theorem Inv.un {t' : Nat} (I : Inv X pins σ H s) (u : Un X.fs [] H H' s.heap h') (hok : HOk X.prog X.w H' h') : Inv X pins σ H' { s with heap := h', toks := t' } := by
  obtain ⟨m, ⟨o, es, ep, ho, r⟩, _⟩ := id I.loc
  obtain ⟨sl, hL⟩ := u.any ho I.free (by simp)
  exact I.step (g' := s.gens) (d' := s.drawn) (ch := []) (fun _ z => nomatch z) (fun b o _ hb _ e n => u.keep b o e n hb (by simp)) (fun b o _ hb _ e n => u.slot b o e n hb (by simp)) (fun b o _ e n => u.free b o e n (by simp)) (fun b o _ e => u.there b o e (by simp)) u.tups u.frzs u.tbls (fun m' hm => by
    obtain ⟨o', es', ep', ho', r'⟩ := hm
    rw [ho] at ho'; cases ho'
    exact ⟨_, es', ep', hL, r'⟩) hok I.bare
theorem Inv.call {g' : Array GenState} {t' : Nat} {d' : Drawn} {ch : List Addr} (I : Inv X pins σ H s) (u : Un (frs X.stack) ch H H' s.heap h') (hok : HOk X.prog X.w H' h') (hg : AllBare g')
    (hch : ∀ b ∈ ch, (b ∈ X.ex ∨ X.s₀.heap.objs.size ≤ b) ∧ b ≠ X.env.locals ∧ (∀ x c, X.env.cells.lookup x = some c → c ≠ b) ∧ ∀ p ∈ X.pn ++ pins, p.1 ≠ b) :
    Inv X pins σ H' { s with heap := h', gens := g', drawn := d', toks := t' } := by
  obtain ⟨m, ⟨o, es, ep, ho, r⟩, _⟩ := id I.loc
  obtain ⟨sl, hL⟩ := u.any ho I.free fun z => (hch _ z).2.1 rfl
  exact I.step (ch := ch) hch (fun b o hL hb hc e n => u.keep b o e n (fun z => (List.mem_cons.mp (I.stkSub b z)).elim hL hb) hc) (fun b o _ _ hc e n => u.any e n hc) (fun b o hc e n => u.free b o e n hc) (fun b o hc e => u.there b o e hc) u.tups u.frzs u.tbls (fun m' hm => by
    obtain ⟨o', es', ep', ho', r'⟩ := hm
    rw [ho] at ho'; cases ho'
    exact ⟨_, es', ep', hL, r'⟩) hok hg
theorem Inv.turned {t' : Nat} {it : Addr} (I : Inv X pins σ H s) (k : ∀ b o, b ≠ it → s.heap.get? b = some o → h'.get? b = some o) (hn : H it = none) (hL : it ≠ X.env.locals)
    (h1 : it ∈ X.ex ∨ X.s₀.heap.objs.size ≤ it) (h2 : ∀ x c, X.env.cells.lookup x = some c → c ≠ it) (h3 : ∀ p ∈ X.pn ++ pins, p.1 ≠ it) : Inv X pins σ H { s with heap := h', toks := t' } := by
  have nit : ∀ b u, H b = some u → b ≠ it := fun b u e z => by rw [z, hn] at e; cases e
  refine I.step (g' := s.gens) (d' := s.drawn) (ch := [it]) (fun b hb => ?_) (fun b o _ _ hc e _ => k b o (fun z => hc (by simp [z])) e) (fun b o _ _ hc e _ => ⟨o.slots, k b o (fun z => hc (by simp [z])) e⟩) (fun _ _ _ _ n => n)
    (fun b o hc e => ⟨o, k b o (fun z => hc (by simp [z])) e⟩) (fun _ _ e => e) (fun _ _ _ e => e) (fun b ps e => ⟨#[], by rw [e]; simp⟩) (fun m hm => ?_) (fun b u e => ?_) I.bare
  · have e : b = it := by simpa using hb
    subst e
    exact ⟨h1, hL, h2, h3⟩
  · obtain ⟨o, es, ep, ho, r⟩ := hm
    exact ⟨o, es, ep, k _ o (Ne.symm hL) ho, r⟩
  · refine (I.hok b u e).stay (fun c v hc q => k c v ?_ q) (fun _ q => q) fun _ _ q => q
    rcases hc with z | z
    · rw [z]; exact nit b u e
    · exact nit c _ z
theorem Inv.tok (I : Inv X pins σ H s) (t : Nat) : Inv X pins σ H { s with toks := t } := I.un (h' := s.heap) (t' := t) Un.refl I.hok
theorem Inv.kept {t' : Nat} (I : Inv X pins σ H s) (k : ∀ b u, s.heap.get? b = some u → h'.get? b = some u) : Inv X pins σ H { s with heap := h', toks := t' } := I.un (Un.kept k) (I.hok.kept k)
theorem Inv.laid {a : Addr} {o : HO} {t' : Nat} (I : Inv X pins σ H s) (k : ∀ b u, s.heap.get? b = some u → h'.get? b = some u) (hp : s.heap.objs.size ≤ a) (new : ObjOk X.prog X.w (upd H a o) h' a o) :
    Inv X pins σ (upd H a o) { s with heap := h', toks := t' } := I.un (Un.laid k hp (I.hok.fresh hp)) (I.hok.laid k hp new)
theorem Inv.write {x e : Addr} {o : HO} {t' : Nat} (I : Inv X pins σ H s) (mu : Mut (H x)) (he : e = x ∨ H e = some (.own x)) (k : ∀ b u, b ≠ e → s.heap.get? b = some u → h'.get? b = some u) (heo : ∃ u, h'.get? e = some u)
    (new : ObjOk X.prog X.w (upd H x o) h' x o) : Inv X pins σ (upd H x o) { s with heap := h', toks := t' } := I.un (Un.write mu he k heo) (I.hok.write mu he k heo new)
theorem Inv.pins_of {pins' : List (Addr × Obj)} (I : Inv X pins σ H s) (h : ∀ p ∈ pins', s.heap.get? p.1 = some p.2 ∧ H p.1 = none ∧ p.1 ≠ X.env.locals ∧ p.1 ∉ X.fs ∧ ∀ v, p.2.data ≠ .cell v) : Inv X pins' σ H s :=
  ⟨I.ok, I.os, I.bare, I.base, I.loc, I.cell, I.free, I.freeC, fun p hp => (List.mem_append.mp hp).elim (fun z => I.pin p (List.mem_append_left _ z)) (h p), I.hok, I.len⟩
theorem nodup_ix {N : List Str} (hN : N.Nodup) {i j : Nat} {x : Str} (a : N[i]? = some x) (b : N[j]? = some x) : i = j := by
  obtain ⟨h1, e1⟩ := List.getElem?_eq_some_iff.mp a
  obtain ⟨h2, e2⟩ := List.getElem?_eq_some_iff.mp b
  exact (List.getElem_inj hN).mp (e1.trans e2.symm)
theorem store_ok2 {M : Model} {A : Around} {E : Value → Shared → Prop} {i : Nat} {x : Str} {v : V} {u : Value} {Q : Unit → Shared → Prop} (I : Inv X pins σ H s) (hN : X.N.Nodup) (hi : X.N[i]? = some x) (hx : Loc X.env.scope x) (r : RelV v u)
    (h : ∀ s', Inv X pins (σ.set i (some v)) H s' → (∃ a, Heap.SameBut a s.heap s'.heap ∧ (a = X.env.locals ∨ X.env.cells.lookup x = some a)) → Q () s') (hf : X.fn x = true ∨ X.env.scope.names.lookup x = some .local := by first | exact .inl rfl | exact .inr rfl | assumption) : wpAny M A (storeName X.env x u) Q E s := by
  obtain ⟨m, hn, hl⟩ := id I.loc
  have hcls : (X.env.scope.kind == .class || (X.env.scope.kind == .module && X.env.locals != X.env.globals)) = false := by rw [I.ok.kind]; rfl
  have hiσ : i < σ.length := by rw [I.len]; exact (List.getElem?_eq_some_iff.mp hi).1
  have cne := I.cne
  have tracked : ∀ {a : Addr} {h' : Heap}, (∃ o, s.heap.get? a = some o ∧ H a = none) → Heap.SameBut a s.heap h' → HOk X.prog X.w H h' := fun {a h'} ha hs b ob e => by
    obtain ⟨_, _, hfree⟩ := ha
    refine (I.hok b ob e).stay (fun c w' hc q => (hs.2 c ?_).trans q) (fun _ q => q) fun _ _ q => q
    rintro rfl
    rcases hc with rfl | hc
    · rw [hfree] at e; cases e
    · rw [hfree] at hc; cases hc
  rcases hx with hk | hk
  · refine wpAny_storeName_local hk hn (fun h' hn' hs => ?_) hcls
    obtain ⟨oL, _, _, hoL, _⟩ := id hn
    refine h _ ⟨I.ok, I.os, I.bare, ⟨fun b o e n hb hx => ?_, fun b o e n hb hx => ?_, I.base.free, fun b o e hx => ?_, I.base.tups, I.base.frzs, I.base.tbls⟩, ⟨_, hn', fun j y v' e1 e2 e3 => ?_⟩, fun y c e => ?_, I.free, I.freeC, fun p hp => ?_, tracked ⟨oL, hoL, I.free⟩ hs, by simpa using I.len⟩ ⟨_, hs, .inl rfl⟩
    · exact (hs.2 b (Nat.ne_of_lt (Nat.lt_of_lt_of_le (Heap.lt_size e) I.ok.above))).trans (I.base.keep b o e n hb hx)
    · obtain ⟨sl, e1⟩ := I.base.slot b o e n hb hx
      exact ⟨sl, (hs.2 b (Nat.ne_of_lt (Nat.lt_of_lt_of_le (Heap.lt_size e) I.ok.above))).trans e1⟩
    · obtain ⟨o', e1⟩ := I.base.there b o e hx
      exact ⟨o', (hs.2 b (Nat.ne_of_lt (Nat.lt_of_lt_of_le (Heap.lt_size e) I.ok.above))).trans e1⟩
    · by_cases hj : j = i
      · subst hj
        rw [hi] at e1; cases e1
        rw [List.getElem?_set_self hiσ] at e2
        cases e2
        exact ⟨u, r, .inl ⟨hk, by simp⟩⟩
      · rw [List.getElem?_set_ne (Ne.symm hj)] at e2
        obtain ⟨u', r', q⟩ := hl j y v' e1 e2 e3
        refine ⟨u', r', ?_⟩
        rcases q with ⟨k, e⟩ | ⟨k, c, e, z⟩
        · refine .inl ⟨k, ?_⟩
          have : y ≠ x := fun e => hj (nodup_ix hN e1 (e ▸ hi))
          simp [this, e]
        · exact .inr ⟨k, c, e, z.sameBut hs (cne y c e)⟩
    · obtain ⟨w', z⟩ := I.cell y c e
      exact ⟨w', z.sameBut hs (cne y c e)⟩
    · obtain ⟨e, n, ne, nf, d⟩ := I.pin p hp
      exact ⟨(hs.2 p.1 ne).trans e, n, ne, nf, d⟩
  · have hfn : X.fn x = true := by
      rcases hf with z | z
      · exact z
      · rw [z] at hk; cases hk
    obtain ⟨c, hc⟩ := I.ok.has x (.inl hk)
    obtain ⟨w', z⟩ := I.cell x c hc
    refine wpAny_storeName_cell I.ok.kind hk hc z (fun h' hc' hs => ?_)
    obtain ⟨oc, hoc, hocd⟩ := id z
    refine h { s with heap := h' } ⟨I.ok, I.os, I.bare, ⟨fun b o e n hb hx => ?_, fun b o e n hb hx => ?_, I.base.free, fun b o e hx => ?_, I.base.tups, I.base.frzs, I.base.tbls⟩, ⟨m, hn.sameBut hs (Ne.symm (cne x c hc)), fun j y v' e1 e2 e3 => ?_⟩, fun y c' e => ?_, I.free, I.freeC, fun p hp => ?_, tracked ⟨oc, hoc, I.freeC x c hc⟩ hs, by simpa using I.len⟩ ⟨c, hs, .inr hc⟩
    · exact (hs.2 b (Nat.ne_of_lt (Nat.lt_of_lt_of_le (Heap.lt_size e) (I.ok.cab x c hfn hc)))).trans (I.base.keep b o e n hb hx)
    · obtain ⟨sl, e1⟩ := I.base.slot b o e n hb hx
      exact ⟨sl, (hs.2 b (Nat.ne_of_lt (Nat.lt_of_lt_of_le (Heap.lt_size e) (I.ok.cab x c hfn hc)))).trans e1⟩
    · obtain ⟨o', e1⟩ := I.base.there b o e hx
      exact ⟨o', (hs.2 b (Nat.ne_of_lt (Nat.lt_of_lt_of_le (Heap.lt_size e) (I.ok.cab x c hfn hc)))).trans e1⟩
    · by_cases hj : j = i
      · subst hj
        rw [hi] at e1; cases e1
        rw [List.getElem?_set_self hiσ] at e2
        cases e2
        exact ⟨u, r, .inr ⟨.inl hk, c, hc, hc'⟩⟩
      · rw [List.getElem?_set_ne (Ne.symm hj)] at e2
        obtain ⟨u', r', q⟩ := hl j y v' e1 e2 e3
        refine ⟨u', r', ?_⟩
        rcases q with q | ⟨k, c', e, z'⟩
        · exact .inl q
        · refine .inr ⟨k, c', e, z'.sameBut hs ?_⟩
          rintro rfl
          exact hj (nodup_ix hN e1 (I.ok.inj _ _ _ e hc ▸ hi))
    · by_cases hcc : c' = c
      · subst hcc; exact ⟨_, hc'⟩
      · obtain ⟨w2, z2⟩ := I.cell y c' e
        exact ⟨w2, z2.sameBut hs hcc⟩
    · obtain ⟨e, n, ne, nf, d⟩ := I.pin p hp
      refine ⟨(hs.2 p.1 ?_).trans e, n, ne, nf, d⟩
      intro q
      rw [q, hoc] at e
      have q' : oc = p.2 := Option.some.inj e
      exact d w' (by rw [← q']; exact hocd)
theorem store_ok {M : Model} {A : Around} {E : Value → Shared → Prop} {i : Nat} {x : Str} {v : V} {u : Value} {Q : Unit → Shared → Prop} (I : Inv X pins σ H s) (hN : X.N.Nodup) (hi : X.N[i]? = some x) (hx : Loc X.env.scope x) (r : RelV v u)
    (h : ∀ s', Inv X pins (σ.set i (some v)) H s' → Q () s') (hf : X.fn x = true ∨ X.env.scope.names.lookup x = some .local := by first | exact .inl rfl | exact .inr rfl | assumption) : wpAny M A (storeName X.env x u) Q E s :=
  store_ok2 I hN hi hx r (fun s' I' _ => h s' I') hf
theorem Inv.call' {s' : Shared} {ch : List Addr} (I : Inv X pins σ H s) (ho : s'.os = s.os) (u : Un (frs X.stack) ch H H' s.heap s'.heap) (hok : HOk X.prog X.w H' s'.heap) (hg : AllBare s'.gens)
    (hch : ∀ b ∈ ch, (b ∈ X.ex ∨ X.s₀.heap.objs.size ≤ b) ∧ b ≠ X.env.locals ∧ (∀ x c, X.env.cells.lookup x = some c → c ≠ b) ∧ ∀ p ∈ X.pn ++ pins, p.1 ≠ b) : Inv X pins σ H' s' := by
  obtain ⟨h', g', d', t', o'⟩ := s'
  have e : o' = s.os := ho
  subst e
  exact I.call (g' := g') (t' := t') (d' := d') u hok hg hch
end
abbrev XK := Value → Option Addr → Hp → Prop
abbrev St := List (Option V)
abbrev VK := V → Hp → Prop
abbrev TE := St → Hp → VK → Prop
abbrev TT := St → Hp → (Bool → Hp → Prop) → Prop
abbrev TA := St → Hp → (List V → Hp → Prop) → Prop
structure Ends where
  nx : St → Hp → Prop
  rt : VK
  bk : St → Hp → Prop := fun _ _ => False
  ct : St → Hp → Prop := fun _ _ => False
abbrev TS := Ends → St → Hp → Prop
def EP (X : Cx) (pins : List (Addr × Obj)) (σ : St) (Q : VK) (u : Value) (s' : Shared) : Prop := ∃ v H', Inv X pins σ H' s' ∧ RelV v u ∧ Q v H'
def TP (X : Cx) (pins : List (Addr × Obj)) (σ : St) (Q : Bool → Hp → Prop) (b : Bool) (s' : Shared) : Prop := ∃ H', Inv X pins σ H' s' ∧ Q b H'
def AP (X : Cx) (pins : List (Addr × Obj)) (σ : St) (Q : List V → Hp → Prop) (us : List Value) (s' : Shared) : Prop := ∃ vs H', Inv X pins σ H' s' ∧ Vals vs us ∧ Q vs H'
def SP (X : Cx) (pins : List (Addr × Obj)) (D : Ends) (f : Flow) (s' : Shared) : Prop :=
  match f with
  | .next => ∃ σ' H', Inv X pins σ' H' s' ∧ D.nx σ' H'
  | .brk => ∃ σ' H', Inv X pins σ' H' s' ∧ D.bk σ' H'
  | .cont => ∃ σ' H', Inv X pins σ' H' s' ∧ D.ct σ' H'
  | .ret u => ∃ v σ' H', Inv X pins σ' H' s' ∧ RelV v u ∧ D.rt v H'
def PE (X : Cx) (e : Expr) (t : TE) : Prop :=
  ∀ (pins : List (Addr × Obj)) (s : Shared) (σ : St) (H : Hp) (Q : VK), Inv X pins σ H s → t σ H Q → wpAny (model X.prog X.w) X.A (eval e X.env) (EP X pins σ Q) X.xe s
def PT (X : Cx) (e : Expr) (t : TT) : Prop :=
  ∀ (pins : List (Addr × Obj)) (s : Shared) (σ : St) (H : Hp) (Q : Bool → Hp → Prop), Inv X pins σ H s → t σ H Q → wpAny (model X.prog X.w) X.A (isTrue e X.env (eval e X.env)) (TP X pins σ Q) X.xe s
def PW (X : Cx) (e : Expr) (t : TT) : Prop :=
  ∀ (whole : Sem Value) (pins : List (Addr × Obj)) (s : Shared) (σ : St) (H : Hp) (Q : Bool → Hp → Prop), Inv X pins σ H s → t σ H Q → wpAny (model X.prog X.w) X.A (isTrue e X.env whole) (TP X pins σ Q) X.xe s
theorem PW.pt {X : Cx} {e : Expr} {t : TT} (h : PW X e t) : PT X e t := h _
def PA (X : Cx) (es : List Expr) (t : TA) : Prop :=
  ∀ (pos : Pos) (pins : List (Addr × Obj)) (s : Shared) (σ : St) (H : Hp) (Q : List V → Hp → Prop), Inv X pins σ H s → t σ H Q → wpAny (model X.prog X.w) X.A (spliced (backTo pos (starEach es X.env))) (AP X pins σ Q) X.xe s
def PS (X : Cx) (st : Stmt) (t : TS) : Prop :=
  ∀ (pins : List (Addr × Obj)) (s : Shared) (σ : St) (H : Hp) (D : Ends), Inv X pins σ H s → t D σ H → wpAny (model X.prog X.w) X.A (exec st X.env) (SP X pins D) X.xe s
def PSs (X : Cx) (st : List Stmt) (t : TS) : Prop :=
  ∀ (pins : List (Addr × Obj)) (s : Shared) (σ : St) (H : Hp) (D : Ends), Inv X pins σ H s → t D σ H → wpAny (model X.prog X.w) X.A (execs st X.env) (SP X pins D) X.xe s
theorem thn {α : Type} {t : Sem α} {Q Q' : α → Shared → Prop} {M : Model} {A : Around} {E : Value → Shared → Prop} {s : Shared} (h : wpAny M A t Q E s) (hQ : ∀ a s, Q a s → Q' a s) : wpAny M A t Q' E s := wpAny_mono h hQ fun _ _ x => x
section
variable {X : Cx}
def tVar (i : Nat) : TE := fun σ H Q => ∃ v, σ[i]? = some (some v) ∧ Q v H
def tC (v : V) : TE := fun _ H Q => Q v H
theorem pe_var {i : Nat} {x : Str} {pos : Pos} (hN : X.N[i]? = some x) (hv : Vis X.env.scope x) (hd : (x == ("__debug__" : Str)) = false := by decide) (hcd : (x == ("__classdict__" : Str)) = false := by decide) : PE X (.Name x pos) (tVar i) := by
  intro pins s σ H Q I h
  obtain ⟨v, e, h⟩ := h
  obtain ⟨m, hn, hl⟩ := I.loc
  obtain ⟨u, r, l⟩ := hl i x v hN e hv
  have fin : EP X pins σ Q u s := ⟨v, H, I, r, h⟩
  rcases l with ⟨hk, hm⟩ | ⟨hk, c, hc, hcell⟩
  · exact wpAny_Name (wpAny_loadName_local I.ok.kind hk hn hm fin) hd
  · rcases hk with hk | hk
    · exact wpAny_Name (wpAny_loadName_cell I.ok.kind hk hc hcell fin) hd
    · exact wpAny_Name (wpAny_loadName_free I.ok.kind hk hc hcell fin hcd) hd
theorem pe_int {i j pos} : PE X (.Constant (.int i) j pos) (tC (.int i)) := fun _ _ _ H _ I h => wpAny_Constant_int ⟨.int i, H, I.tok _, ⟨_, rfl⟩, h⟩
theorem pe_bl {b j pos} : PE X (.Constant (.bool b) j pos) (tC (.bl b)) := fun _ _ _ H _ I h => Constant_bool ⟨.bl b, H, I, rfl, h⟩
theorem pe_non {j pos} : PE X (.Constant .none j pos) (tC .non) := fun _ _ _ H _ I h => Constant_none ⟨.non, H, I, rfl, h⟩
theorem pe_str {x j pos} : PE X (.Constant (.str x) j pos) (tC (.str x)) := fun _ _ _ H _ I h => Calls.Constant_str ⟨.str x, H, I.tok _, ⟨_, rfl⟩, h⟩
def Gl (X : Cx) (x : Str) : Prop := X.env.kindOf x = some .globalImplicit
theorem ld_glob {E : Value → Shared → Prop} {pins : List (Addr × Obj)} {s : Shared} {σ : St} {H : Hp} {x : Str} {u : Value} {pos : Pos} {Q : Value → Shared → Prop} (I : Inv X pins σ H s) (hg : Gl X x) (hm : X.mg x = some u) (h : Q u s)
    (hd : (x == ("__debug__" : Str)) = false := by decide) : wpAny (model X.prog X.w) X.A (eval (.Name x pos) X.env) Q E s :=
  Calls.Name_function_global I.ok.kind hg (Calls.loadGlobal_global (by rw [I.ok.glob]; exact I.mod.glob.keeps I.bk) hm h) hd
theorem ld_blt {E : Value → Shared → Prop} {pins : List (Addr × Obj)} {s : Shared} {σ : St} {H : Hp} {x : Str} {u : Value} {pos : Pos} {Q : Value → Shared → Prop} (I : Inv X pins σ H s) (hg : Gl X x) (hm : X.mg x = none) (hv : bootBuiltins x = some u) (h : Q u s)
    (hn : x ≠ "__name__" := by decide) (hd : (x == ("__debug__" : Str)) = false := by decide) : wpAny (model X.prog X.w) X.A (eval (.Name x pos) X.env) Q E s := by
  obtain ⟨mb, h1, h2⟩ := I.mod.blt
  exact Calls.Name_function_global I.ok.kind hg (Calls.loadGlobal_builtin (by rw [I.ok.glob]; exact I.mod.glob.keeps I.bk) hm (by rw [I.ok.blt]; exact h1.keeps I.bk) ((h2 x hn).trans hv) h) hd
theorem pe_glob {x : Str} {v : V} {u : Value} {pos : Pos} (hg : Gl X x) (hm : X.mg x = some u) (r : RelV v u) (hd : (x == ("__debug__" : Str)) = false := by decide) : PE X (.Name x pos) (tC v) :=
  fun _ _ _ H _ I h => ld_glob I hg hm ⟨v, H, I, r, h⟩ hd
theorem pe_bltn {x : Str} {v : V} {u : Value} {pos : Pos} (hg : Gl X x) (hm : X.mg x = none) (hv : bootBuiltins x = some u) (r : RelV v u) (hn : x ≠ "__name__" := by decide) (hd : (x == ("__debug__" : Str)) = false := by decide) : PE X (.Name x pos) (tC v) :=
  fun _ _ _ H _ I h => ld_blt I hg hm hv ⟨v, H, I, r, h⟩ hn hd
variable {a b : Expr} {ta tb : TE} {pos : Pos}
def tB (t : TE) : TT := fun σ H Q => t σ H fun x H1 => ∃ c, x = .bl c ∧ Q c H1
theorem pt_val {e : Expr} {t : TE} (h : PE X e t) (he : ∀ whole, isTrue e X.env whole = (do let v ← whole; standAt e.pos; holding [v] (truthy v)) := by intro _; rfl) : PT X e (tB t) := by
  intro pins s σ H Q I hw
  refine isTrue_plain (thn (h pins s σ H _ I hw) fun v s1 ⟨x, H1, I1, r1, q1⟩ => ?_) (he _)
  obtain ⟨d, rfl, q⟩ := q1
  cases r1
  exact wpAny_truthy_bool ⟨H1, I1, q⟩
variable {tA tB' : TT} {rest : List Expr}
def tAnd (t u : TT) : TT := fun σ H Q => t σ H fun c H1 => if c = true then u σ H1 Q else Q false H1
def tOr (t u : TT) : TT := fun σ H Q => t σ H fun c H1 => if c = true then Q true H1 else u σ H1 Q
def tNot (t : TT) : TT := fun σ H Q => t σ H fun c H1 => Q (!c) H1
theorem pw_and1 (ha : PT X a tA) : PW X (.BoolOp .And [a] pos) tA := by
  intro wh pins s σ H Q I h
  refine isTrue_and (thn (ha pins s σ H Q I h) fun c s1 e => ?_)
  cases c with
  | true => exact isTrue_and_nil e
  | false => exact e
theorem pw_or1 (ha : PT X a tA) : PW X (.BoolOp .Or [a] pos) tA := by
  intro wh pins s σ H Q I h
  refine isTrue_or (thn (ha pins s σ H Q I h) fun c s1 e => ?_)
  cases c with
  | false => exact isTrue_or_nil e
  | true => exact e
theorem pw_and (ha : PT X a tA) (hb : PW X (.BoolOp .And (b :: rest) pos) tB') : PW X (.BoolOp .And (a :: b :: rest) pos) (tAnd tA tB') := by
  intro wh pins s σ H Q I h
  refine isTrue_and (thn (ha pins s σ H _ I h) fun c s1 ⟨H1, I1, q1⟩ => ?_)
  cases c with
  | true => exact hb wh pins s1 σ H1 Q I1 q1
  | false => exact ⟨H1, I1, q1⟩
theorem pw_or (ha : PT X a tA) (hb : PW X (.BoolOp .Or (b :: rest) pos) tB') : PW X (.BoolOp .Or (a :: b :: rest) pos) (tOr tA tB') := by
  intro wh pins s σ H Q I h
  refine isTrue_or (thn (ha pins s σ H _ I h) fun c s1 ⟨H1, I1, q1⟩ => ?_)
  cases c with
  | true => exact ⟨H1, I1, q1⟩
  | false => exact hb wh pins s1 σ H1 Q I1 q1
theorem pt_not (ha : PT X a tA) : PT X (.UnaryOp .Not a pos) (tNot tA) := by
  intro pins s σ H Q I h
  exact isTrue_not (ha pins s σ H (fun c H1 => Q (!c) H1) I h)
def tAndV (ta tb : TE) : TE := fun σ H Q => ta σ H fun x H1 => ∃ c, x = .bl c ∧ if c = true then tb σ H1 Q else Q (.bl false) H1
def tNotV (ta : TE) : TE := fun σ H Q => ta σ H fun x H1 => ∃ c, x = .bl c ∧ Q (.bl (!c)) H1
theorem pe_one {op} {t : TE} (h : PE X a t) : PE X (.BoolOp op [a] pos) t := fun pins s σ H Q I hw => BoolOp_one (h pins s σ H Q I hw)
theorem pe_and (ha : PE X a ta) (hb : PE X (.BoolOp .And (b :: rest) pos) tb) : PE X (.BoolOp .And (a :: b :: rest) pos) (tAndV ta tb) := by
  intro pins s σ H Q I h
  refine BoolOp_and (thn (ha pins s σ H _ I h) fun v s1 ⟨x, H1, I1, r1, q1⟩ => ?_)
  obtain ⟨c, rfl, q1⟩ := q1
  cases r1
  refine wpAny_truthy_bool ?_
  cases c with
  | true => exact hb pins s1 σ H1 Q I1 q1
  | false => exact ⟨.bl false, H1, I1, rfl, q1⟩
theorem pe_not (ha : PE X a ta) : PE X (.UnaryOp .Not a pos) (tNotV ta) := by
  intro pins s σ H Q I h
  refine UnaryOp_ (thn (ha pins s σ H _ I h) fun v s1 ⟨x, H1, I1, r1, q1⟩ => ?_)
  obtain ⟨c, rfl, q1⟩ := q1
  cases r1
  exact not_of (wpAny_truthy_bool ⟨.bl (!c), H1, I1, rfl, q1⟩)
def tIf (t : TT) (ta tb : TE) : TE := fun σ H Q => t σ H fun c H1 => if c = true then ta σ H1 Q else tb σ H1 Q
theorem pe_ifExp {c : Expr} (hc : PT X c tA) (ha : PE X a ta) (hb : PE X b tb) : PE X (.IfExp c a b pos) (tIf tA ta tb) := by
  intro pins s σ H Q I h
  refine wpAny_IfExp (thn (hc pins s σ H _ I h) fun d s1 ⟨H1, I1, q1⟩ => ?_)
  cases d with
  | true => exact ha pins s1 σ H1 Q I1 q1
  | false => exact hb pins s1 σ H1 Q I1 q1
end
def SqL (K : PySem.W.Frag) (H : Hp) (a : Addr) (xs : List V) : Prop :=
  Rd H a (.lst xs) ∨
    ∃ (o : Obj) (its : Array Value) (n : Nat), K.lookup a = some o ∧ o.cls = .type "list" ∧ o.dict = none ∧ o.data = .seq its n ∧ its.size ≤ sizeLine ∧ Vals xs its.toList
def SqT (K : PySem.W.Frag) (H : Hp) (a : Addr) (xs : List V) : Prop :=
  Rd H a (.tup xs) ∨
    ∃ (o : Obj) (its : Array Value) (n : Nat), K.lookup a = some o ∧ o.cls = .type "tuple" ∧ o.data = .seq its n ∧ its.size ≤ sizeLine ∧ Vals xs its.toList
def absV : Value → Option V
  | .none => some .non
  | .bool b => some (.bl b)
  | .int i _ => some (.int i)
  | .str x _ => some (.str x)
  | .bytes b _ => some (.byt b)
  | .float b _ => some (.flt b)
  | .ref a => some (.ref a)
  | .type n => some (.ty n)
  | _ => none
theorem RelV.abs {x : V} {u : Value} (r : RelV x u) : absV u = some x := by
  cases x with
  | non => cases r; rfl
  | bl _ => cases r; rfl
  | int _ => obtain ⟨t, rfl⟩ := r; rfl
  | str _ => obtain ⟨t, rfl⟩ := r; rfl
  | byt _ => obtain ⟨t, rfl⟩ := r; rfl
  | flt _ => obtain ⟨t, rfl⟩ := r; rfl
  | ref _ => cases r; rfl
  | ty _ => cases r; rfl
theorem RelV.inj {x y : V} {u : Value} (r : RelV x u) (q : RelV y u) : x = y := Option.some.inj (r.abs.symm.trans q.abs)
theorem Vals.inj : ∀ {xs ys : List V} {us : List Value}, Vals xs us → Vals ys us → xs = ys
  | _, _, _, .nil, .nil => rfl
  | _, _, _, .cons r t, .cons r' t' => by rw [r.inj r', Vals.inj t t']
section
variable {X : Cx} {pins : List (Addr × Obj)} {σ : St} {H : Hp} {s : Shared} {a : Addr} {xs ys : List V}
theorem SqL.of {K : PySem.W.Frag} (h : H a = some (.lst xs)) : SqL K H a xs := .inl (.inl h)
theorem SqT.of {K : PySem.W.Frag} (h : H a = some (.tup xs)) : SqT K H a xs := .inl (.inl h)
theorem Inv.list (I : Inv X pins σ H s) (h : SqL X.K H a xs) : ∃ its : List Value, Vals xs its ∧ PlainL s.heap a its.toArray ∧ xs.length ≤ sizeLine := by
  rcases h with h | ⟨o, its, n, hk, hc, hd, hs, hz, r⟩
  · obtain ⟨z, its, n, r, e⟩ := h.ok I.hok
    exact ⟨its, r, ⟨_, n, e, rfl, rfl, rfl⟩, z⟩
  · refine ⟨its.toList, r, ⟨o, n, I.kIn a o hk, hc, hd, by simpa using hs⟩, ?_⟩
    have e := r.length
    simp only [Array.length_toList] at e
    omega
theorem Inv.tuple (I : Inv X pins σ H s) (h : SqT X.K H a xs) : ∃ its : List Value, Vals xs its ∧ IsTup s.heap a its.toArray ∧ xs.length ≤ sizeLine := by
  rcases h with h | ⟨o, its, n, hk, hc, hs, hz, r⟩
  · obtain ⟨z, its, r, p⟩ := h.ok I.hok
    exact ⟨its, r, p, z⟩
  · refine ⟨its.toList, r, ⟨o, I.kIn a o hk, hc, n, by simpa using hs⟩, ?_⟩
    have e := r.length
    simp only [Array.length_toList] at e
    omega
theorem Inv.list_inj (I : Inv X pins σ H s) (h : SqL X.K H a xs) (h' : SqL X.K H a ys) : xs = ys := by
  obtain ⟨its, r, ⟨o, n, e, _, _, d⟩, _⟩ := I.list h
  obtain ⟨its', r', ⟨o', n', e', _, _, d'⟩, _⟩ := I.list h'
  rw [e] at e'; cases e'
  rw [d] at d'
  injection d' with d1 _
  have : its = its' := by simpa using congrArg Array.toList d1
  subst this
  exact r.inj r'
theorem Inv.tuple_inj (I : Inv X pins σ H s) (h : SqT X.K H a xs) (h' : SqT X.K H a ys) : xs = ys := by
  obtain ⟨its, r, ⟨o, e, _, n, d⟩, _⟩ := I.tuple h
  obtain ⟨its', r', ⟨o', e', _, n', d'⟩, _⟩ := I.tuple h'
  rw [e] at e'; cases e'
  rw [d] at d'
  injection d' with d1 _
  have : its = its' := by simpa using congrArg Array.toList d1
  subst this
  exact r.inj r'
end
abbrev Cx.wish (X : Cx) (E : Value → Shared → Prop) : Cx := { X with xe := E }
abbrev Cx.nox (X : Cx) : Cx := X.wish fun _ _ => False
theorem Cx.Ok.wish {X : Cx} (ok : X.Ok) (E : Value → Shared → Prop) : (X.wish E).Ok :=
  ⟨ok.mod, ok.kind, ok.glob, ok.blt, ok.above, ok.inj, ok.has, ok.cab, ok.hd, ok.frames, ok.stk, ok.exf, ok.bs, ok.bsz, ok.noex, ok.exfs, ok.funs, ok.frf⟩
theorem Cx.Ok.unwish {X : Cx} {E : Value → Shared → Prop} (ok : (X.wish E).Ok) : X.Ok :=
  ⟨ok.mod, ok.kind, ok.glob, ok.blt, ok.above, ok.inj, ok.has, ok.cab, ok.hd, ok.frames, ok.stk, ok.exf, ok.bs, ok.bsz, ok.noex, ok.exfs, ok.funs, ok.frf⟩
section
variable {X : Cx} {pins : List (Addr × Obj)} {σ : St} {H : Hp} {s : Shared} {E : Value → Shared → Prop}
theorem Inv.wish (I : Inv X pins σ H s) (E : Value → Shared → Prop) : Inv (X.wish E) pins σ H s := ⟨I.ok.wish E, I.os, I.bare, I.base, I.loc, I.cell, I.free, I.freeC, I.pin, I.hok, I.len⟩
theorem Inv.unwish (I : Inv (X.wish E) pins σ H s) : Inv X pins σ H s := ⟨I.ok.unwish, I.os, I.bare, I.base, I.loc, I.cell, I.free, I.freeC, I.pin, I.hok, I.len⟩
theorem SP.unwish {D : Ends} {f : Flow} {s' : Shared} (h : SP (X.wish E) pins D f s') : SP X pins D f s' := by
  cases f with
  | next => obtain ⟨σ', H', I, q⟩ := h; exact ⟨σ', H', I.unwish, q⟩
  | brk => obtain ⟨σ', H', I, q⟩ := h; exact ⟨σ', H', I.unwish, q⟩
  | cont => obtain ⟨σ', H', I, q⟩ := h; exact ⟨σ', H', I.unwish, q⟩
  | ret u => obtain ⟨v, σ', H', I, r, q⟩ := h; exact ⟨v, σ', H', I.unwish, r, q⟩
theorem PE.nox {e : Expr} {t : TE} (h : PE X.nox e t) : PE X e t := fun pins s σ H Q I hw =>
  wpAny_mono (h pins s σ H Q (I.wish _) hw) (fun _ _ ⟨v, H', I', r, q⟩ => ⟨v, H', I'.unwish, r, q⟩) fun _ _ z => False.elim z
theorem PT.nox {e : Expr} {t : TT} (h : PT X.nox e t) : PT X e t := fun pins s σ H Q I hw =>
  wpAny_mono (h pins s σ H Q (I.wish _) hw) (fun _ _ ⟨H', I', q⟩ => ⟨H', I'.unwish, q⟩) fun _ _ z => False.elim z
theorem PSs.nox {st : List Stmt} {t : TS} (h : PSs X.nox st t) : PSs X st t := fun pins s σ H D I hw =>
  wpAny_mono (h pins s σ H D (I.wish _) hw) (fun _ _ q => q.unwish) fun _ _ z => False.elim z
end
section
variable {X : Cx} {st : Stmt} {rest : List Stmt} {t u : TS} {e : Expr} {te : TE} {pos : Pos}
def tNext : TS := fun D σ H => D.nx σ H
def tSeq (t u : TS) : TS := fun D σ H => t { D with nx := u D } σ H
theorem pss_nil : PSs X [] tNext := fun _ _ σ H _ I h => wpAny_execs_nil ⟨σ, H, I, h⟩
theorem pss_cons (h1 : PS X st t) (h2 : PSs X rest u) : PSs X (st :: rest) (tSeq t u) := by
  intro pins s σ H D I h
  refine wpAny_execs_cons (thn (h1 pins s σ H { D with nx := u D } I h) fun f s1 q => ?_)
  cases f with
  | next =>
    obtain ⟨σ', H', I', q⟩ := q
    exact h2 pins s1 σ' H' D I' q
  | ret v => exact q
  | brk => exact q
  | cont => exact q
theorem pss_one (h1 : PS X st t) : PSs X [st] t := by
  intro pins s σ H D I h
  refine wpAny_execs_cons (thn (h1 pins s σ H D I h) fun f s1 q => ?_)
  cases f with
  | next => exact wpAny_execs_nil q
  | ret v => exact q
  | brk => exact q
  | cont => exact q
theorem Inv.quiet {pins : List (Addr × Obj)} {σ : St} {H : Hp} {s : Shared} (I : Inv X pins σ H s) : interactive X.env = false := by simp [interactive, I.ok.kind]
def tDrop (te : TE) : TS := fun D σ H => te σ H fun _ H1 => D.nx σ H1
theorem ps_expr (he : PE X e te) (hs : swapsWith e none pos.line X.env = pure false := by rfl) : PS X (.Expr e pos) (tDrop te) := by
  intro pins s σ H D I h
  exact wpAny_Expr_any (thn (he pins s σ H _ I h) fun v s1 ⟨x, H1, I1, r1, q1⟩ => ⟨σ, H1, I1, q1⟩) I.quiet hs
def tRet (te : TE) : TS := fun D σ H => te σ H D.rt
theorem ps_ret (he : PE X e te) : PS X (.Return (some e) pos) (tRet te) := by
  intro pins s σ H D I h
  exact wpAny_Return_some (thn (he pins s σ H _ I h) fun v s1 ⟨x, H1, I1, r1, q1⟩ => ⟨x, σ, H1, I1, r1, q1⟩)
def tIfS (c : TT) (t u : TS) : TS := fun D σ H => c σ H fun b H1 => if b = true then t D σ H1 else u D σ H1
theorem ps_if {c : Expr} {a b : List Stmt} {tc : TT} (hc : PT X c tc) (ha : PSs X a t) (hb : PSs X b u) : PS X (.If c a b pos) (tIfS tc t u) := by
  intro pins s σ H D I h
  refine wpAny_If (thn (hc pins s σ H _ I h) fun d s1 ⟨H1, I1, q1⟩ => ?_)
  cases d with
  | true => exact ha pins s1 σ H1 D I1 q1
  | false => exact hb pins s1 σ H1 D I1 q1
def tNever : TS := fun _ _ _ => False
theorem pss_never {sts : List Stmt} : PSs X sts tNever := fun _ _ _ _ _ _ h => h.elim
end
abbrev TG := V → St → Hp → (St → Hp → Prop) → Prop
abbrev TGs := List V → St → Hp → (St → Hp → Prop) → Prop
def PG (X : Cx) (target : Expr) (t : TG) : Prop :=
  ∀ (pins : List (Addr × Obj)) (s : Shared) (σ : St) (H : Hp) (v : V) (u : Value) (Q : St → Hp → Prop), Inv X pins σ H s → RelV v u → t v σ H Q →
    wpAny (model X.prog X.w) X.A (assign target X.env u) (fun _ s' => ∃ σ' H', Inv X pins σ' H' s' ∧ Q σ' H') X.xe s
def PGs (X : Cx) (ts : List Expr) (t : TGs) : Prop :=
  ∀ (pins : List (Addr × Obj)) (s : Shared) (σ : St) (H : Hp) (vs : List V) (us : List Value) (Q : St → Hp → Prop), Inv X pins σ H s → Vals vs us → t vs σ H Q →
    wpAny (model X.prog X.w) X.A (assignInOrder ((assignEach ts X.env).map (·.2)) us) (fun _ s' => ∃ σ' H', Inv X pins σ' H' s' ∧ Q σ' H') X.xe s
section
variable {X : Cx} {pos : Pos}
def gName (i : Nat) : TG := fun v σ H Q => Q (σ.set i (some v)) H
theorem pg_name {i : Nat} {x : Str} (hN : X.N.Nodup) (hi : X.N[i]? = some x) (hx : Loc X.env.scope x) (hf : X.fn x = true ∨ X.env.scope.names.lookup x = some .local := by first | exact .inl rfl | exact .inr rfl | assumption) : PG X (.Name x pos) (gName i) := by
  intro pins s σ H v u Q I r h
  exact wpAny_assign_Name (store_ok I hN hi hx r (fun s' I' => ⟨_, H, I', h⟩) hf)
def gNil : TGs := fun vs σ H Q => vs = [] ∧ Q σ H
def gCons (t : TG) (u : TGs) : TGs := fun vs σ H Q => ∃ v r, vs = v :: r ∧ t v σ H fun σ' H' => u r σ' H' Q
theorem pgs_nil : PGs X [] gNil := by
  intro pins s σ H vs us Q I r h
  obtain ⟨e, h⟩ := h
  subst e
  cases r
  exact assignInOrder_nil ⟨σ, H, I, h⟩
theorem pgs_cons {e : Expr} {es : List Expr} {t : TG} {u : TGs} (h1 : PG X e t) (h2 : PGs X es u)
    (hs : (assignEach (e :: es) X.env).map (·.2) = assign e X.env :: (assignEach es X.env).map (·.2) := by rfl) : PGs X (e :: es) (gCons t u) := by
  intro pins s σ H vs us Q I r h
  obtain ⟨v, vr, e1, h⟩ := h
  subst e1
  cases r with
  | cons r rr =>
    rw [hs]
    refine assignInOrder_cons (thn (h1 pins s σ H _ _ _ I r h) fun _ s1 ⟨σ1, H1, I1, q1⟩ => ?_)
    exact h2 pins s1 σ1 H1 _ _ Q I1 rr q1
def gTup (K : PySem.W.Frag) (n : Nat) (t : TGs) : TG := fun v σ H Q => ∃ a xs, v = .ref a ∧ SqT K H a xs ∧ xs.length = n ∧ t xs σ H Q
theorem pg_tup {es : List Expr} {k : Nat} {t : TGs} {n : Nat} (hc : X.calm = true) (h : PGs X es t)
    (hn : (assignEach es X.env).length = n := by rfl) (hst : (assignEach es X.env).findIdx? (·.1) = none := by rfl) : PG X (.Tuple es k pos) (gTup X.K n t) := by
  intro pins s σ H v u Q I r hw
  obtain ⟨a, xs, e1, hq, hl, hw⟩ := hw
  subst e1
  cases r
  obtain ⟨its, rv, ht, hz⟩ := I.tuple hq
  refine assign_Tuple_tuple (I.ok.hd hc) ht (by simp [hn, ← hl, rv.length]) hst fun h' hx => ?_
  have I1 : Inv X pins σ H { s with heap := h' } := I.kept (t' := s.toks) fun b o e => hx b o (Nat.ne_of_lt (Heap.lt_size e)) e
  exact h pins _ σ H xs _ Q I1 (by simpa using rv) hw
def tAsg (te : TE) (g : TG) : TS := fun D σ H => te σ H fun x H1 => g x σ H1 D.nx
theorem ps_asg {tg e : Expr} {te : TE} {g : TG} (he : PE X e te) (hg : PG X tg g) (hs : swapsWithSole [tg] e pos.line X.env = pure false := by rfl) (hw : swappedStores [tg] e X.env = pure none := by rfl)
    (h1 : (assignEach [tg] X.env).map (·.2) = [assign tg X.env] := by rfl) : PS X (.Assign [tg] e pos) (tAsg te g) := by
  intro pins s σ H D I h
  refine wpAny_Assign_stores (thn (he pins s σ H _ I h) fun v s1 ⟨x, H1, I1, r1, q1⟩ => ?_) hs hw
  rw [h1]
  exact thn (hg pins s1 σ H1 x v _ I1 r1 q1) fun _ s2 q => q
theorem ps_set {i : Nat} {x : Str} {e : Expr} {te : TE} {pos' : Pos} (hN : X.N.Nodup) (hi : X.N[i]? = some x) (hx : Loc X.env.scope x) (he : PE X e te) (hs : swapsWith e (some (.Name x pos')) pos.line X.env = pure false := by rfl) (hf : X.fn x = true ∨ X.env.scope.names.lookup x = some .local := by first | exact .inl rfl | exact .inr rfl | assumption) :
    PS X (.Assign [.Name x pos'] e pos) (tAsg te (gName i)) := by
  intro pins s σ H D I h
  refine wpAny_Assign_Name (thn (he pins s σ H _ I h) fun v s1 ⟨y, H1, I1, r1, q1⟩ => ?_) hs
  exact store_ok I1 hN hi hx r1 (fun s2 I2 => ⟨_, H1, I2, q1⟩) hf
end
structure It where
  go : Nat → Hp → Prop
  yld : Nat → Hp → V → Hp → Prop
  stop : Nat → Hp → Prop
def FpOk (X : Cx) (pins : List (Addr × Obj)) (H : Hp) (b : Addr) : Prop :=
  H b = none ∧ b ≠ X.env.locals ∧ b ∉ X.fs ∧ (b ∈ X.ex ∨ X.s₀.heap.objs.size ≤ b) ∧ (∀ x c, X.env.cells.lookup x = some c → c ≠ b) ∧ ∀ p ∈ X.pn ++ pins, p.1 ≠ b
theorem Inv.fpOk {X : Cx} {pins : List (Addr × Obj)} {σ : St} {H H' : Hp} {s : Shared} {b : Addr} (I : Inv X pins σ H s) (hb : s.heap.objs.size ≤ b) (hn : H' b = none) : FpOk X pins H' b := by
  refine ⟨hn, Nat.ne_of_gt (Nat.lt_of_lt_of_le I.lt hb), I.nofs hb, .inr (Nat.le_trans I.sz hb), fun x c e z => ?_, fun p hp z => ?_⟩
  · obtain ⟨v, q⟩ := I.cell x c e
    exact absurd (Nat.lt_of_lt_of_le q.lt (by rw [z]; exact hb)) (Nat.lt_irrefl _)
  · exact absurd (Nat.lt_of_lt_of_le (Heap.lt_size (I.pin p hp).1) (by rw [z]; exact hb)) (Nat.lt_irrefl _)
structure Turn (P : Program) (w : World) (K : PySem.W.Frag) (tg : Expr) (J : It) (fp : List Addr) (it : Addr) (tn : Nat → Heap → Prop) : Prop where
  mem : it ∈ fp
  obj : ∀ i h, tn i h → ∀ b ∈ fp, ∃ o, h.get? b = some o ∧ ∀ v, o.data ≠ .cell v
  keep : ∀ i h h', tn i h → (∀ b ∈ fp, ∀ o, h.get? b = some o → h'.get? b = some o) → tn i h'
  item : ∀ (X : Cx), X.prog = P → X.w = w → X.K = K → X.calm = true → ∀ (i : Nat) (pins : List (Addr × Obj)) (s : Shared) (σ : St) (H : Hp) (E : Value → Shared → Prop), Inv X pins σ H s → (∀ b ∈ fp, FpOk X pins H b) → tn i s.heap → J.go i H →
    wpAny (model P w) X.A (pyNext (.ref it)) (fun r s1 => ∃ u, r = some u ∧
      wpAny (model P w) X.A (letOwnedTupleGo tg (.ref it) u) (fun _ s2 => ∃ x H', Inv X pins σ H' s2 ∧ RelV x u ∧ J.yld i H x H' ∧ tn (i + 1) s2.heap ∧ ∀ b ∈ fp, H' b = none) E s1) E s
  done : ∀ (X : Cx), X.prog = P → X.w = w → X.K = K → X.calm = true → ∀ (i : Nat) (pins : List (Addr × Obj)) (s : Shared) (σ : St) (H : Hp) (E : Value → Shared → Prop), Inv X pins σ H s → (∀ b ∈ fp, FpOk X pins H b) → tn i s.heap → J.stop i H →
    wpAny (model P w) X.A (pyNext (.ref it)) (fun r s1 => r = none ∧ Inv X pins σ H s1) E s
  self : ∀ (A : Around) (i : Nat) (s : Shared) (Q : Value → Shared → Prop) (E : Value → Shared → Prop), tn i s.heap → Q (.ref it) s → wpAny (model P w) A (pyIter (.ref it)) Q E s
abbrev TI := St → Hp → (It → Hp → Prop) → Prop
def PIE (X : Cx) (pins : List (Addr × Obj)) (σ : St) (tg : Expr) (R : It → Hp → Prop) (itv : Value) (s2 : Shared) : Prop :=
  ∃ (it : Addr) (fp : List Addr) (tn : Nat → Heap → Prop) (J : It) (H' : Hp), itv = .ref it ∧ Inv X pins σ H' s2 ∧ Turn X.prog X.w X.K tg J fp it tn ∧ tn 0 s2.heap ∧ (∀ b ∈ fp, FpOk X pins H' b) ∧ R J H'
def PI (X : Cx) (tg iter : Expr) (wi : TI) : Prop :=
  ∀ (pins : List (Addr × Obj)) (s : Shared) (σ : St) (H : Hp) (R : It → Hp → Prop), Inv X pins σ H s → wi σ H R →
    wpAny (model X.prog X.w) X.A (eval iter X.env) (fun v s1 => wpAny (model X.prog X.w) X.A (pyIter v) (PIE X pins σ tg R) X.xe s1) X.xe s
theorem go_of {M : Model} {A : Around} {E : Value → Shared → Prop} {s : Shared} {tg : Expr} {it : Addr} {u : Value} {o : Obj} {n : String} {vs : Array Value} {Q : Unit → Shared → Prop} (ho : s.heap.get? it = some o) (hc : o.cls = .type n) (hd : o.data = .fields vs)
    (hn : ["enumerate", "zip", "dict_itemiterator", "dict_reverseitemiterator", "odict_iterator", "itertools.zip_longest", "itertools.pairwise"].contains n = false) (hQ : Q () s) : wpAny M A (letOwnedTupleGo tg (.ref it) u) Q E s := by
  unfold letOwnedTupleGo
  cases tg <;> first
    | exact wpAny_pure hQ
    | (cases u <;> first
        | exact wpAny_pure hQ
        | (refine wpAny_bind (wpAny_load ho ?_)
           rw [hc, hd]
           show wpAny M A (if (["enumerate", "zip", "dict_itemiterator", "dict_reverseitemiterator", "odict_iterator", "itertools.zip_longest", "itertools.pairwise"].contains n && vs[0]? == some (rawInt _)) = true then _ else _) Q E s
           rw [if_neg (by intro h; rw [hn, Bool.false_and] at h; cases h)]
           exact wpAny_pure hQ))
def Itl (K : PySem.W.Frag) (a : Addr) : It :=
  ⟨fun i H => ∃ xs x, SqL K H a xs ∧ xs[i]? = some x, fun i H x H' => H' = H ∧ ∀ xs, SqL K H a xs → xs[i]? = some x, fun i H => ∃ xs, SqL K H a xs ∧ xs.length ≤ i⟩
def Itt (K : PySem.W.Frag) (a : Addr) : It :=
  ⟨fun i H => ∃ xs x, SqT K H a xs ∧ xs[i]? = some x, fun i H x H' => H' = H ∧ ∀ xs, SqT K H a xs → xs[i]? = some x, fun i H => ∃ xs, SqT K H a xs ∧ xs.length ≤ i⟩
def Itr (lo : Int) (n : Nat) : It := ⟨fun i _ => i < n, fun i H x H' => H' = H ∧ x = .int (lo + i), fun i _ => n ≤ i⟩
theorem turn_list {P : Program} {w : World} {K : PySem.W.Frag} {tg : Expr} (a it : Addr) : Turn P w K tg (Itl K a) [it] it (fun i h => h.IsListIter it a i) where
  mem := by simp
  obj := fun i h st b hb => by
    have e : b = it := by simpa using hb
    subst e
    obtain ⟨o, e, c, d⟩ := st
    exact ⟨o, e, fun v z => by rw [d] at z; cases z⟩
  keep := fun i h h' st k => st.at fun o e => k it (by simp) o e
  item := by
    intro X hP hw hK hc i pins s σ H E I hf st hg
    subst hP hw hK
    obtain ⟨xs, x, hq, hx⟩ := hg
    obtain ⟨its, rv, p, hz⟩ := I.list hq
    obtain ⟨u, hu, ru⟩ := rv.get hx
    obtain ⟨f0, f1, f2, f3, f4, f5⟩ := hf it (by simp)
    refine wpAny_pyNext_list_item st p.isList (x := u) (by simpa using hu) fun h' st' sb => ?_
    have I1 : Inv X pins σ H { s with heap := h' } := I.turned (t' := s.toks) (fun b o hb e => (sb.2 b hb).trans e) f0 f1 f3 f4 f5
    obtain ⟨o, e, c, d⟩ := id st'
    exact ⟨u, rfl, go_of (s := { s with heap := h' }) e c d (by decide) ⟨x, H, I1, ru, ⟨rfl, fun ys hy => by rw [I.list_inj hy hq]; exact hx⟩, st', fun b hb => (hf b hb).1⟩⟩
  done := by
    intro X hP hw hK hc i pins s σ H E I hf st hg
    subst hP hw hK
    obtain ⟨xs, hq, hx⟩ := hg
    obtain ⟨its, rv, p, hz⟩ := I.list hq
    obtain ⟨f0, f1, f2, f3, f4, f5⟩ := hf it (by simp)
    have hl := rv.length
    exact wpAny_pyNext_list_end (I.ok.hd hc) st p.isList (by simp; omega) fun h' eb => ⟨rfl, I.turned (t' := s.toks) (fun b o hb e => eb b o hb e) f0 f1 f3 f4 f5⟩
  self := fun _ _ _ _ _ st h => wpAny_pyIter_listiter st h
theorem turn_tuple {P : Program} {w : World} {K : PySem.W.Frag} {tg : Expr} (a it : Addr) : Turn P w K tg (Itt K a) [it] it (fun i h => h.IsTupleIter it a i) where
  mem := by simp
  obj := fun i h st b hb => by
    have e : b = it := by simpa using hb
    subst e
    obtain ⟨o, e, c, d⟩ := st
    exact ⟨o, e, fun v z => by rw [d] at z; cases z⟩
  keep := fun i h h' st k => st.at fun o e => k it (by simp) o e
  item := by
    intro X hP hw hK hc i pins s σ H E I hf st hg
    subst hP hw hK
    obtain ⟨xs, x, hq, hx⟩ := hg
    obtain ⟨its, rv, p, hz⟩ := I.tuple hq
    obtain ⟨u, hu, ru⟩ := rv.get hx
    obtain ⟨f0, f1, f2, f3, f4, f5⟩ := hf it (by simp)
    refine wpAny_pyNext_tuple_item st (show s.heap.IsTuple a its.toArray from p) (x := u) (by simpa using hu) fun h' st' sb => ?_
    have I1 : Inv X pins σ H { s with heap := h' } := I.turned (t' := s.toks) (fun b o hb e => (sb.2 b hb).trans e) f0 f1 f3 f4 f5
    obtain ⟨o, e, c, d⟩ := id st'
    exact ⟨u, rfl, go_of (s := { s with heap := h' }) e c d (by decide) ⟨x, H, I1, ru, ⟨rfl, fun ys hy => by rw [I.tuple_inj hy hq]; exact hx⟩, st', fun b hb => (hf b hb).1⟩⟩
  done := by
    intro X hP hw hK hc i pins s σ H E I hf st hg
    subst hP hw hK
    obtain ⟨xs, hq, hx⟩ := hg
    obtain ⟨its, rv, p, hz⟩ := I.tuple hq
    obtain ⟨f0, f1, f2, f3, f4, f5⟩ := hf it (by simp)
    have hl := rv.length
    exact wpAny_pyNext_tuple_end (I.ok.hd hc) st (show s.heap.IsTuple a its.toArray from p) (by simp; omega) fun h' eb => ⟨rfl, I.turned (t' := s.toks) (fun b o hb e => eb b o hb e) f0 f1 f3 f4 f5⟩
  self := fun _ _ _ _ _ st h => wpAny_pyIter_tupleiter st h
theorem turn_range {P : Program} {w : World} {K : PySem.W.Frag} {tg : Expr} (it : Addr) (lo : Int) (n : Nat) : Turn P w K tg (Itr lo n) [it] it (fun i h => IsRangeIter h it (lo + (i : Nat) * 1) ((n : Int) - (i : Nat)) 1) where
  mem := by simp
  obj := fun i h st b hb => by
    have e : b = it := by simpa using hb
    subst e
    exact ⟨_, st, fun v z => by
      have z' : Data.fields _ = Data.cell v := z
      cases z'⟩
  keep := fun i h h' st k => k it (by simp) _ st
  item := by
    intro X hP hw hK hc i pins s σ H E I hf st hg
    subst hP hw hK
    obtain ⟨f0, f1, f2, f3, f4, f5⟩ := hf it (by simp)
    have W := Walks.range (prog := X.prog) (w := X.w) (I.ok.hd hc) it lo 1 n
    refine W.item i s _ _ hg st fun v h' tk hv st' kk => ?_
    obtain ⟨t, rfl⟩ := hv
    have I1 : Inv X pins σ H { s with heap := h', toks := tk } := I.turned (fun b o hb e => kk b o (by simpa using hb) e) f0 f1 f3 f4 f5
    refine ⟨_, rfl, go_of (s := { s with heap := h', toks := tk }) (n := "range_iterator") st' rfl rfl (by decide) ⟨.int (lo + i), H, I1, ⟨t, ?_⟩, ⟨rfl, rfl⟩, st', fun b hb => (hf b hb).1⟩⟩
    rw [Int.mul_one]
  done := by
    intro X hP hw hK hc i pins s σ H E I hf st hg
    subst hP hw hK
    obtain ⟨f0, f1, f2, f3, f4, f5⟩ := hf it (by simp)
    exact wpAny_pyNext_range_end (I.ok.hd hc) st (by have : n ≤ i := hg; omega) fun h' eb => ⟨rfl, I.turned (t' := s.toks) (fun b o hb e => eb b o hb e) f0 f1 f3 f4 f5⟩
  self := fun _ _ _ _ _ st h => wpAny_pyIter_rangeiter st h
section
variable {X : Cx} {tg : Expr}
def iList (K : PySem.W.Frag) (tl : TE) : TI := fun σ H R => tl σ H fun x H1 => ∃ a, x = .ref a ∧ (∃ xs, SqL K H1 a xs) ∧ R (Itl K a) H1
def iTup (K : PySem.W.Frag) (tl : TE) : TI := fun σ H R => tl σ H fun x H1 => ∃ a, x = .ref a ∧ (∃ xs, SqT K H1 a xs) ∧ R (Itt K a) H1
theorem pi_list {l : Expr} {tl : TE} (hl : PE X l tl) : PI X tg l (iList X.K tl) := by
  intro pins s σ H R I h
  refine thn (hl pins s σ H _ I h) fun v s1 ⟨x, H1, I1, r1, q1⟩ => ?_
  obtain ⟨a, e, ⟨xs, hq⟩, q⟩ := q1
  subst e
  cases r1
  obtain ⟨its, rv, p, hz⟩ := I1.list hq
  refine wpAny_pyIter_list p.isList ?_
  refine ⟨s1.heap.objs.size, [s1.heap.objs.size], _, _, H1, rfl, I1.kept (t' := s1.toks) fun b o e => Heap.get?_push_of_some _ e, turn_list a _, ⟨_, Heap.get?_push_size _ rfl, rfl, rfl⟩, fun b hb => ?_, q⟩
  have e : b = s1.heap.objs.size := by simpa using hb
  subst e
  exact I1.fpOk (Nat.le_refl _) (I1.hok.fresh (Nat.le_refl _))
theorem pi_tup {l : Expr} {tl : TE} (hl : PE X l tl) : PI X tg l (iTup X.K tl) := by
  intro pins s σ H R I h
  refine thn (hl pins s σ H _ I h) fun v s1 ⟨x, H1, I1, r1, q1⟩ => ?_
  obtain ⟨a, e, ⟨xs, hq⟩, q⟩ := q1
  subst e
  cases r1
  obtain ⟨its, rv, p, hz⟩ := I1.tuple hq
  refine wpAny_pyIter_tuple (show s1.heap.IsTuple a its.toArray from p) ?_
  refine ⟨s1.heap.objs.size, [s1.heap.objs.size], _, _, H1, rfl, I1.kept (t' := s1.toks) fun b o e => Heap.get?_push_of_some _ e, turn_tuple a _, ⟨_, Heap.get?_push_size _ rfl, rfl, rfl⟩, fun b hb => ?_, q⟩
  have e : b = s1.heap.objs.size := by simpa using hb
  subst e
  exact I1.fpOk (Nat.le_refl _) (I1.hok.fresh (Nat.le_refl _))
theorem range_it {pins : List (Addr × Obj)} {σ : St} {H : Hp} {s : Shared} {R : It → Hp → Prop} {E : Value → Shared → Prop} {lo hi : Int} {t u v : Tok} {tk : Nat} (I : Inv X pins σ H s) (h1 : -(2 ^ 62) ≤ lo) (h2 : lo < 2 ^ 62) (h3 : -(2 ^ 62) ≤ hi) (h4 : hi < 2 ^ 62)
    (q : R (Itr lo (hi - lo).toNat) H) : wpAny (model X.prog X.w) X.A (pyIter (.ref s.heap.objs.size)) (PIE X pins σ tg R) E { s with heap := s.heap.push { cls := .type "range", data := .fields #[.int lo t, .int hi u, .int 1 v] }, toks := tk } := by
  refine wpAny_pyIter_range (IsRange.new ..) (small_one h1 h2 h3 h4) ?_
  have I1 : Inv X pins σ H { s with heap := s.heap.push { cls := .type "range", data := .fields #[.int lo t, .int hi u, .int 1 v] }, toks := tk } := I.kept fun b o e => Heap.get?_push_of_some _ e
  refine ⟨(s.heap.push { cls := .type "range", data := .fields #[.int lo t, .int hi u, .int 1 v] }).objs.size, [(s.heap.push { cls := .type "range", data := .fields #[.int lo t, .int hi u, .int 1 v] }).objs.size], _, _, H, rfl,
    I1.kept (t' := tk) fun b o e => Heap.get?_push_of_some _ e, turn_range _ lo (hi - lo).toNat, ?_, fun b hb => ?_, q⟩
  · have e1 : lo + ((0 : Nat) : Int) * 1 = lo := by simp
    have e2 : (((hi - lo).toNat : Nat) : Int) - ((0 : Nat) : Int) = Builtin.Range.rangeSize lo hi 1 := by rw [rangeSize_one]; split <;> omega
    show IsRangeIter _ _ (lo + ((0 : Nat) : Int) * 1) ((((hi - lo).toNat : Nat) : Int) - ((0 : Nat) : Int)) 1
    rw [e1, e2]
    exact Heap.get?_push_size _ rfl
  · have e : b = (s.heap.push { cls := .type "range", data := .fields #[.int lo t, .int hi u, .int 1 v] }).objs.size := by simpa using hb
    subst e
    exact I1.fpOk (Nat.le_refl _) (I1.hok.fresh (Nat.le_refl _))
def iRng1 (ta : TA) : TI := fun σ H R => ta σ H fun vs H1 => ∃ j : Int, vs = [.int j] ∧ -(2 ^ 62) ≤ j ∧ j < 2 ^ 62 ∧ R (Itr 0 j.toNat) H1
theorem pi_range1 {a : Expr} {ta : TA} {p pos : Pos} (hg : Gl X "range") (hm : X.mg "range" = none) (ha : PA X [a] ta) (hs : starEach [a] X.env = [(false, eval a X.env)] := by rfl) : PI X tg (.Call (.Name "range" p) [a] [] pos) (iRng1 ta) := by
  intro pins s σ H R I h
  refine Call_ (ld_blt I hg hm boot_range (PyProof.Rows.callWith_type1 (thn (ha pos pins s σ H _ I h) fun us s1 ⟨vs, H1, I1, r1, q1⟩ => ?_) hs rfl))
  obtain ⟨j, e, q1, q2, q⟩ := q1
  subst e
  cases r1 with
  | cons r rr =>
    cases rr
    obtain ⟨t, rfl⟩ := r
    exact call_range_1 (range_it I1 (by omega) (by omega) q1 q2 (by simpa using q))
def tFor (wi : TI) (g : TG) (tb : TS) : TS := fun D σ H => wi σ H fun J H1 => ∃ W : Nat → Nat → St → Hp → Prop, (∃ m, W 0 m σ H1) ∧ ∀ i m σ H, W i m σ H →
  (J.stop i H ∧ D.nx σ H) ∨ (J.go i H ∧ ∃ N : St → Hp → Prop, (∀ σ' H', N σ' H' → ∃ m', m' < m ∧ W (i + 1) m' σ' H') ∧ ∀ x H', J.yld i H x H' → g x σ H' fun σ2 H2 => tb { D with nx := N, ct := N, bk := D.nx } σ2 H2)
def pinsAt (fp : List Addr) (h : Heap) : List (Addr × Obj) := fp.filterMap fun b => (h.get? b).map fun o => (b, o)
theorem mem_pinsAt {fp : List Addr} {h : Heap} {b : Addr} {o : Obj} (hb : b ∈ fp) (e : h.get? b = some o) : (b, o) ∈ pinsAt fp h := List.mem_filterMap.mpr ⟨b, hb, by rw [e]; rfl⟩
theorem of_pinsAt {fp : List Addr} {h : Heap} {p : Addr × Obj} (hp : p ∈ pinsAt fp h) : p.1 ∈ fp ∧ h.get? p.1 = some p.2 := by
  obtain ⟨b, hb, e⟩ := List.mem_filterMap.mp hp
  cases q : h.get? b with
  | none => rw [q] at e; cases e
  | some o =>
    rw [q] at e
    have e' : (b, o) = p := Option.some.inj e
    subst e'
    exact ⟨hb, q⟩
theorem Inv.pinned {pins : List (Addr × Obj)} {σ : St} {H : Hp} {s : Shared} {fp : List Addr} (I : Inv X pins σ H s) (hf : ∀ b ∈ fp, FpOk X pins H b) (ho : ∀ b ∈ fp, ∃ o, s.heap.get? b = some o ∧ ∀ v, o.data ≠ .cell v) : Inv X (pins ++ pinsAt fp s.heap) σ H s :=
  I.pins_of fun p hp => (List.mem_append.mp hp).elim (fun z => I.pin p (List.mem_append_right _ z)) fun z => by
    obtain ⟨hb, e⟩ := of_pinsAt z
    obtain ⟨f0, f1, f2, _⟩ := hf p.1 hb
    obtain ⟨o, e', d⟩ := ho p.1 hb
    rw [e] at e'; cases e'
    exact ⟨e, f0, f1, f2, d⟩
theorem Inv.unpinned {pins pl : List (Addr × Obj)} {σ : St} {H : Hp} {s : Shared} (I : Inv X (pins ++ pl) σ H s) : Inv X pins σ H s := I.pins_of fun p hp => I.pin p (List.mem_append_right _ (List.mem_append_left _ hp))
theorem ps_for {iter : Expr} {body : List Stmt} {wi : TI} {g : TG} {tb : TS} {pos : Pos} (hp : PassesOwn (model X.prog X.w) X.A X.env X.xe) (hc : X.calm = true) (hi : PI X tg iter wi) (hg : PG X tg g) (hb : PSs X body tb)
    (hs : ∀ x, foldedSetIterable iter X.env x = pure x := by intro _; rfl) : PS X (.For tg iter body [] pos) (tFor wi g tb) := by
  intro pins s σ H D I h
  refine wpAny_For (thn (hi pins s σ H _ I h) fun v s1 h1 => thn h1 fun itv s2 h2 => ?_) hs
  obtain ⟨it, fp, tn, J, H2, e, I2, T, st2, f2, W, ⟨m0, w0⟩, turn⟩ := h2
  subst e
  -- what stays true of the iterator's objects through the loop
  have stat : ∀ {H' : Hp}, (∀ b ∈ fp, H' b = none) → ∀ b ∈ fp, FpOk X pins H' b := fun hn b hb => ⟨hn b hb, (f2 b hb).2⟩
  refine codeAny_forLoop_any (fun n s' => ∃ i σ' H', Inv X pins σ' H' s' ∧ tn i s'.heap ∧ (∀ b ∈ fp, H' b = none) ∧ W i n σ' H') ?_ m0 ⟨0, σ, H2, I2, st2, fun b hb => (f2 b hb).1, w0⟩
  rintro n s3 ⟨i, σ3, H3, I3, st3, fr3, w3⟩
  rcases turn i n σ3 H3 w3 with ⟨stop, qn⟩ | ⟨go, N, hN, step⟩
  · refine wpAny_passesOwn hp (thn (T.done X rfl rfl rfl hc i pins s3 σ3 H3 X.xe I3 (stat fr3) st3 stop) fun r s4 ⟨hr, I4⟩ => ?_)
    subst hr
    exact wpAny_execs_nil ⟨σ3, H3, I4, qn⟩
  · refine wpAny_passesOwn hp (thn (T.item X rfl rfl rfl hc i pins s3 σ3 H3 X.xe I3 (stat fr3) st3 go) fun r s4 ⟨u, hr, h4⟩ => ?_)
    subst hr
    refine wpAny_passesOwn hp (thn h4 fun _ s5 ⟨x, H5, I5, r5, y5, st5, fr5⟩ => ?_)
    have I5' := I5.pinned (stat fr5) (T.obj _ _ st5)
    refine wpAny_passesOwn hp (thn (hg _ s5 σ3 H5 x u _ I5' r5 (step x H5 y5)) fun _ s6 ⟨σ6, H6, I6, q6⟩ => ?_)
    refine wpAny_passesOwn hp (thn (hb _ s6 σ6 H6 _ I6 q6) fun f s7 q7 => ?_)
    have again : ∀ {σ7 : St} {H7 : Hp}, Inv X (pins ++ pinsAt fp s5.heap) σ7 H7 s7 → N σ7 H7 → ∃ m, m < n ∧ ∃ i σ' H', Inv X pins σ' H' s7 ∧ tn i s7.heap ∧ (∀ b ∈ fp, H' b = none) ∧ W i m σ' H' := fun {σ7 H7} I7 n7 => by
      obtain ⟨m', hm, w7⟩ := hN σ7 H7 n7
      refine ⟨m', hm, i + 1, σ7, H7, I7.unpinned, T.keep _ _ _ st5 fun b hb o e => (I7.pin (b, o) (List.mem_append_right _ (List.mem_append_right _ (mem_pinsAt hb e)))).1, fun b hb => ?_, w7⟩
      obtain ⟨o, e, d⟩ := T.obj _ _ st5 b hb
      exact (I7.pin (b, o) (List.mem_append_right _ (List.mem_append_right _ (mem_pinsAt hb e)))).2.1
    cases f with
    | next => obtain ⟨σ7, H7, I7, n7⟩ := q7; exact again I7 n7
    | cont => obtain ⟨σ7, H7, I7, n7⟩ := q7; exact again I7 n7
    | brk => obtain ⟨σ7, H7, I7, q7⟩ := q7; exact ⟨σ7, H7, I7.unpinned, q7⟩
    | ret v => obtain ⟨x7, σ7, H7, I7, r7, q7⟩ := q7; exact ⟨x7, σ7, H7, I7.unpinned, r7, q7⟩
end
theorem for_list {K : PySem.W.Frag} {a : Addr} {xs : List V} {g : TG} {tb : TS} {D : Ends} {σ : St} {H : Hp} (Pv : Nat → St → Hp → Prop) (h0 : Pv 0 σ H) (hl : ∀ i σ H, i ≤ xs.length → Pv i σ H → SqL K H a xs)
    (hs : ∀ i x σ H, xs[i]? = some x → Pv i σ H → g x σ H fun σ2 H2 => tb { D with nx := Pv (i + 1), ct := Pv (i + 1), bk := D.nx } σ2 H2) (hd : ∀ σ H, Pv xs.length σ H → D.nx σ H) :
    ∃ W : Nat → Nat → St → Hp → Prop, (∃ m, W 0 m σ H) ∧ ∀ i m σ H, W i m σ H →
      ((Itl K a).stop i H ∧ D.nx σ H) ∨ ((Itl K a).go i H ∧ ∃ N : St → Hp → Prop, (∀ σ' H', N σ' H' → ∃ m', m' < m ∧ W (i + 1) m' σ' H') ∧ ∀ x H', (Itl K a).yld i H x H' → g x σ H' fun σ2 H2 => tb { D with nx := N, ct := N, bk := D.nx } σ2 H2) := by
  refine ⟨fun i m σ H => m = xs.length - i ∧ i ≤ xs.length ∧ Pv i σ H, ⟨xs.length, by simp, Nat.zero_le _, h0⟩, ?_⟩
  rintro i m σ H ⟨rfl, hi, p⟩
  have q := hl i σ H hi p
  by_cases hlt : i < xs.length
  · refine .inr ⟨⟨xs, xs[i], q, by simp [hlt]⟩, Pv (i + 1), fun σ' H' p' => ⟨xs.length - (i + 1), by omega, rfl, hlt, p'⟩, fun x H' y => ?_⟩
    obtain ⟨e, y⟩ := y
    subst e
    exact hs i x σ _ (y xs q) p
  · have e : i = xs.length := by omega
    subst e
    exact .inl ⟨⟨xs, q, Nat.le_refl _⟩, hd σ H p⟩
theorem for_tup {K : PySem.W.Frag} {a : Addr} {xs : List V} {g : TG} {tb : TS} {D : Ends} {σ : St} {H : Hp} (Pv : Nat → St → Hp → Prop) (h0 : Pv 0 σ H) (hl : ∀ i σ H, i ≤ xs.length → Pv i σ H → SqT K H a xs)
    (hs : ∀ i x σ H, xs[i]? = some x → Pv i σ H → g x σ H fun σ2 H2 => tb { D with nx := Pv (i + 1), ct := Pv (i + 1), bk := D.nx } σ2 H2) (hd : ∀ σ H, Pv xs.length σ H → D.nx σ H) :
    ∃ W : Nat → Nat → St → Hp → Prop, (∃ m, W 0 m σ H) ∧ ∀ i m σ H, W i m σ H →
      ((Itt K a).stop i H ∧ D.nx σ H) ∨ ((Itt K a).go i H ∧ ∃ N : St → Hp → Prop, (∀ σ' H', N σ' H' → ∃ m', m' < m ∧ W (i + 1) m' σ' H') ∧ ∀ x H', (Itt K a).yld i H x H' → g x σ H' fun σ2 H2 => tb { D with nx := N, ct := N, bk := D.nx } σ2 H2) := by
  refine ⟨fun i m σ H => m = xs.length - i ∧ i ≤ xs.length ∧ Pv i σ H, ⟨xs.length, by simp, Nat.zero_le _, h0⟩, ?_⟩
  rintro i m σ H ⟨rfl, hi, p⟩
  have q := hl i σ H hi p
  by_cases hlt : i < xs.length
  · refine .inr ⟨⟨xs, xs[i], q, by simp [hlt]⟩, Pv (i + 1), fun σ' H' p' => ⟨xs.length - (i + 1), by omega, rfl, hlt, p'⟩, fun x H' y => ?_⟩
    obtain ⟨e, y⟩ := y
    subst e
    exact hs i x σ _ (y xs q) p
  · have e : i = xs.length := by omega
    subst e
    exact .inl ⟨⟨xs, q, Nat.le_refl _⟩, hd σ H p⟩
theorem for_range {lo : Int} {n : Nat} {g : TG} {tb : TS} {D : Ends} {σ : St} {H : Hp} (Pv : Nat → St → Hp → Prop) (h0 : Pv 0 σ H)
    (hs : ∀ i σ H, i < n → Pv i σ H → g (.int (lo + i)) σ H fun σ2 H2 => tb { D with nx := Pv (i + 1), ct := Pv (i + 1), bk := D.nx } σ2 H2) (hd : ∀ σ H, Pv n σ H → D.nx σ H) :
    ∃ W : Nat → Nat → St → Hp → Prop, (∃ m, W 0 m σ H) ∧ ∀ i m σ H, W i m σ H →
      ((Itr lo n).stop i H ∧ D.nx σ H) ∨ ((Itr lo n).go i H ∧ ∃ N : St → Hp → Prop, (∀ σ' H', N σ' H' → ∃ m', m' < m ∧ W (i + 1) m' σ' H') ∧ ∀ x H', (Itr lo n).yld i H x H' → g x σ H' fun σ2 H2 => tb { D with nx := N, ct := N, bk := D.nx } σ2 H2) := by
  refine ⟨fun i m σ H => m = n - i ∧ i ≤ n ∧ Pv i σ H, ⟨n, by simp, Nat.zero_le _, h0⟩, ?_⟩
  rintro i m σ H ⟨rfl, hi, p⟩
  by_cases hlt : i < n
  · refine .inr ⟨hlt, Pv (i + 1), fun σ' H' p' => ⟨n - (i + 1), by omega, rfl, hlt, p'⟩, fun x H' y => ?_⟩
    obtain ⟨e, y⟩ := y
    subst e y
    exact hs i σ _ hlt p
  · have e : i = n := by omega
    subst e
    exact .inl ⟨Nat.le_refl _, hd σ H p⟩
abbrev R2 := V → V → Hp → VK → Prop
def OpR (X : Cx) (f : Value → Value → Sem Value) (r : R2) : Prop :=
  ∀ (pins : List (Addr × Obj)) (s : Shared) (σ : St) (H : Hp) (x y : V) (v u : Value) (Q : VK), Inv X pins σ H s → RelV x v → RelV y u → r x y H Q →
    wpAny (model X.prog X.w) X.A (f v u) (EP X pins σ Q) X.xe s
def UnR (X : Cx) (f : Value → Sem Value) (r : V → Hp → VK → Prop) : Prop :=
  ∀ (pins : List (Addr × Obj)) (s : Shared) (σ : St) (H : Hp) (x : V) (v : Value) (Q : VK), Inv X pins σ H s → RelV x v → r x H Q →
    wpAny (model X.prog X.w) X.A (f v) (EP X pins σ Q) X.xe s
def CallR (X : Cx) (f : Value) (r : List V → Hp → VK → Prop) : Prop :=
  ∀ (pins : List (Addr × Obj)) (s : Shared) (σ : St) (H : Hp) (xs : List V) (us : List Value) (Q : VK), Inv X pins σ H s → Vals xs us → r xs H Q →
    wpAny (model X.prog X.w) X.A (call f us) (EP X pins σ Q) X.xe s
def tOp (r : R2) (ta tb : TE) : TE := fun σ H Q => ta σ H fun x H1 => tb σ H1 fun y H2 => r x y H2 Q
def tUn (r : V → Hp → VK → Prop) (ta : TE) : TE := fun σ H Q => ta σ H fun x H1 => r x H1 Q
def rI (C : Int → Int → Prop) (g : Int → Int → V) : R2 := fun x y H Q => ∃ i j, x = .int i ∧ y = .int j ∧ C i j ∧ Q (g i j) H
def rI0 (g : Int → Int → V) : R2 := fun x y H Q => ∃ i j, x = .int i ∧ y = .int j ∧ Q (g i j) H
def rU (g : Int → V) : V → Hp → VK → Prop := fun x H Q => ∃ i, x = .int i ∧ Q (g i) H
section
variable {X : Cx} {a b c : Expr} {ta tb tc : TE} {pos : Pos}
theorem binT (ha : PE X a ta) (hb : PE X b tb) {pins : List (Addr × Obj)} {s : Shared} {σ : St} {H : Hp} {R : V → V → Hp → Prop} (I : Inv X pins σ H s)
    (h : ta σ H fun x H1 => tb σ H1 fun y H2 => R x y H2) {Q : Value → Shared → Prop} {f : Value → Value → Sem Value}
    (hf : ∀ v u s2 x y H2, Inv X pins σ H2 s2 → RelV x v → RelV y u → R x y H2 → wpAny (model X.prog X.w) X.A (f v u) Q X.xe s2) :
    wpAny (model X.prog X.w) X.A (eval a X.env) (fun v s₁ => wpAny (model X.prog X.w) X.A (eval b X.env) (fun u s₂ => wpAny (model X.prog X.w) X.A (f v u) Q X.xe s₂) X.xe s₁) X.xe s := by
  refine thn (ha pins s σ H _ I h) fun v s1 ⟨x, H1, I1, r1, q1⟩ => ?_
  refine thn (hb pins s1 σ H1 _ I1 q1) fun u s2 ⟨y, H2, I2, r2, q2⟩ => ?_
  exact hf v u s2 x y H2 I2 r1 r2 q2
theorem pe_op {op : Operator} {r : R2} (ho : OpR X (binaryOp op) r) (ha : PE X a ta) (hb : PE X b tb) : PE X (.BinOp a op b pos) (tOp r ta tb) := by
  intro pins s σ H Q I h
  exact wpAny_BinOp (binT ha hb I h fun v u s2 x y H2 I2 rx ry q => ho pins s2 σ H2 x y v u Q I2 rx ry q)
theorem pe_un {op : UnaryOp} {r : V → Hp → VK → Prop} (ho : UnR X (unaryOp op) r) (ha : PE X a ta) : PE X (.UnaryOp op a pos) (tUn r ta) := by
  intro pins s σ H Q I h
  exact UnaryOp_ (thn (ha pins s σ H _ I h) fun v s1 ⟨x, H1, I1, r1, q1⟩ => ho pins s1 σ H1 x v Q I1 r1 q1)
theorem opI {f : Value → Value → Sem Value} {C : Int → Int → Prop} {g : Int → Int → Int}
    (rule : ∀ (i j : Int) (t u : Tok) (s : Shared) (Q : Value → Shared → Prop) (E : Value → Shared → Prop), C i j → Q (.int (g i j) s.toks) { s with toks := s.toks + 1 } → wpAny (model X.prog X.w) X.A (f (.int i t) (.int j u)) Q E s) :
    OpR X f (rI C fun i j => .int (g i j)) := by
  intro pins s σ H x y v u Q I rx ry h
  obtain ⟨i, j, rfl, rfl, hc, q⟩ := h
  obtain ⟨t, rfl⟩ := rx
  obtain ⟨t', rfl⟩ := ry
  exact rule i j t t' s _ _ hc ⟨.int (g i j), H, I.tok _, ⟨_, rfl⟩, q⟩
theorem opI0 {f : Value → Value → Sem Value} {g : Int → Int → Int}
    (rule : ∀ (i j : Int) (t u : Tok) (s : Shared) (Q : Value → Shared → Prop) (E : Value → Shared → Prop), Q (.int (g i j) s.toks) { s with toks := s.toks + 1 } → wpAny (model X.prog X.w) X.A (f (.int i t) (.int j u)) Q E s) :
    OpR X f (rI0 fun i j => .int (g i j)) := by
  intro pins s σ H x y v u Q I rx ry h
  obtain ⟨i, j, rfl, rfl, q⟩ := h
  obtain ⟨t, rfl⟩ := rx
  obtain ⟨t', rfl⟩ := ry
  exact rule i j t t' s _ _ ⟨.int (g i j), H, I.tok _, ⟨_, rfl⟩, q⟩
theorem opB0 {f : Value → Value → Sem Value} {g : Int → Int → Bool}
    (rule : ∀ (i j : Int) (t u : Tok) (s : Shared) (Q : Value → Shared → Prop) (E : Value → Shared → Prop), Q (.bool (g i j)) s → wpAny (model X.prog X.w) X.A (f (.int i t) (.int j u)) Q E s) :
    OpR X f (rI0 fun i j => .bl (g i j)) := by
  intro pins s σ H x y v u Q I rx ry h
  obtain ⟨i, j, rfl, rfl, q⟩ := h
  obtain ⟨t, rfl⟩ := rx
  obtain ⟨t', rfl⟩ := ry
  exact rule i j t t' s _ _ ⟨.bl (g i j), H, I, rfl, q⟩
def CDiv (i j : Int) : Prop := 0 < j ∧ j < 1073741824
def CPow (i j : Int) : Prop := 0 ≤ j ∧ j ≤ 1000000 ∧ i.natAbs < 2 ^ 64
def CMul (i j : Int) : Prop := (-(2 ^ 64) < i ∧ i < 2 ^ 64) ∨ (-(2 ^ 64) < j ∧ j < 2 ^ 64)
theorem CMul.ok {i j : Int} (h : CMul i j) : IntMulOk i j := by
  rcases h with ⟨h1, h2⟩ | ⟨h1, h2⟩
  · exact .of_left (intBits_le_64 h1 h2)
  · exact .of_right (intBits_le_64 h1 h2)
theorem op_add : OpR X (binaryOp .Add) (rI0 fun i j => .int (i + j)) := opI0 fun _ _ _ _ _ _ _ q => add_int q
theorem op_sub : OpR X (binaryOp .Sub) (rI0 fun i j => .int (i - j)) := opI0 fun _ _ _ _ _ _ _ q => sub_int q
theorem op_mul : OpR X (binaryOp .Mult) (rI CMul fun i j => .int (i * j)) := opI fun _ _ _ _ _ _ _ hc q => mul_int q hc.ok
theorem op_fdiv : OpR X (binaryOp .FloorDiv) (rI CDiv fun i j => .int (i / j)) := opI fun i j _ _ _ _ _ hc q => by
  have h1 : (0 : Int) < j := hc.1
  have h2 : j < 1073741824 := hc.2
  exact floordiv_int (by omega) (by rw [Int.fdiv_eq_ediv_of_nonneg i (by omega)]; exact q) (.inl (PyProof.noPylong_small (by omega)))
theorem op_mod : OpR X (binaryOp .Mod) (rI (fun _ j => 0 < j) fun i j => .int (i % j)) := opI fun i j _ _ _ _ _ hc q => by
  have h1 : (0 : Int) < j := hc
  exact mod_int' (by omega) (by rw [Int.fmod_eq_emod_of_nonneg i (by omega)]; exact q)
theorem op_pow : OpR X (binaryOp .Pow) (rI CPow fun i j => .int (i ^ j.toNat)) := opI fun _ _ _ _ _ _ _ hc q => pow_int_small hc.1 hc.2.1 hc.2.2 q
theorem unI {f : Value → Sem Value} {g : Int → Int}
    (rule : ∀ (i : Int) (t : Tok) (s : Shared) (Q : Value → Shared → Prop) (E : Value → Shared → Prop), Q (.int (g i) s.toks) { s with toks := s.toks + 1 } → wpAny (model X.prog X.w) X.A (f (.int i t)) Q E s) :
    UnR X f (rU fun i => .int (g i)) := by
  intro pins s σ H x v Q I rx h
  obtain ⟨i, rfl, q⟩ := h
  obtain ⟨t, rfl⟩ := rx
  exact rule i t s _ _ ⟨.int (g i), H, I.tok _, ⟨_, rfl⟩, q⟩
theorem un_neg : UnR X (unaryOp .USub) (rU fun i => .int (-i)) := unI fun _ _ _ _ _ q => neg_int q
end
def scal : V → V → Bool
  | .non, .non => true | .non, .int _ => true | .int _, .non => true | .non, .bl _ => true | .bl _, .non => true | .non, .str _ => true | .str _, .non => true
  | .int _, .int _ => true | .bl _, .bl _ => true | .str _, .str _ => true | .byt _, .byt _ => true
  | .int _, .str _ => true | .str _, .int _ => true | .bl _, .str _ => true | .str _, .bl _ => true
  | _, _ => false
def rEq : R2 := fun x y H Q => scal x y = true ∧ Q (.bl (decide (x = y))) H
def rNe : R2 := fun x y H Q => scal x y = true ∧ Q (.bl (!decide (x = y))) H
theorem dec_int {i j : Int} : decide (V.int i = V.int j) = (i == j) := by
  rw [Bool.eq_iff_iff]
  simp
theorem dec_bl {i j : Bool} : decide (V.bl i = V.bl j) = (i == j) := by
  rw [Bool.eq_iff_iff]
  simp
theorem dec_str {i j : Str} : decide (V.str i = V.str j) = (i == j) := by
  rw [Bool.eq_iff_iff]
  simp
theorem dec_byt {i j : Array UInt8} : decide (V.byt i = V.byt j) = (i.toList == j.toList) := by
  rw [Bool.eq_iff_iff]
  cases i
  cases j
  simp
section
variable {X : Cx} {a b c : Expr} {ta tb tc : TE} {pos : Pos}
theorem fin_bl {pins : List (Addr × Obj)} {σ : St} {H : Hp} {s : Shared} {Q : VK} {k k' : Bool} (I : Inv X pins σ H s) (q : Q (.bl k) H) (e : k = k') : EP X pins σ Q (.bool k') s := by
  subst e
  exact ⟨.bl k, H, I, rfl, q⟩
theorem op_eq : OpR X (compareOp .Eq) rEq := by
  intro pins s σ H x y v u Q I rx ry h
  obtain ⟨hs, q⟩ := h
  cases x with
  | non =>
    cases rx
    cases y with
    | non => cases ry; exact PySem.EqNone.eq_none_none (fin_bl I q (by simp))
    | bl j => cases ry; exact PySem.EqNone.eq_none_bool (fin_bl I q (by simp))
    | int j => obtain ⟨t', rfl⟩ := ry; exact PySem.EqNone.eq_none_int (fin_bl I q (by simp))
    | str j => obtain ⟨t', rfl⟩ := ry; exact PySem.EqNone.eq_none_str (fin_bl I q (by simp))
    | _ => exact absurd (show false = true from hs) Bool.false_ne_true
  | bl i =>
    cases rx
    cases y with
    | non => cases ry; exact PySem.EqNone.eq_bool_none (fin_bl I q (by simp))
    | bl j => cases ry; exact eq_bool (fin_bl I q dec_bl)
    | str j => obtain ⟨t', rfl⟩ := ry; exact PySem.EqMixed.eq_bool_str (fin_bl I q (by simp))
    | _ => exact absurd (show false = true from hs) Bool.false_ne_true
  | int i =>
    obtain ⟨t, rfl⟩ := rx
    cases y with
    | non => cases ry; exact PySem.EqNone.eq_int_none (fin_bl I q (by simp))
    | int j => obtain ⟨t', rfl⟩ := ry; exact eq_int (fin_bl I q dec_int)
    | str j => obtain ⟨t', rfl⟩ := ry; exact PySem.EqMixed.eq_int_str (fin_bl I q (by simp))
    | _ => exact absurd (show false = true from hs) Bool.false_ne_true
  | str i =>
    obtain ⟨t, rfl⟩ := rx
    cases y with
    | non => cases ry; exact PySem.EqNone.eq_str_none (fin_bl I q (by simp))
    | bl j => cases ry; exact PySem.EqMixed.eq_str_bool (fin_bl I q (by simp))
    | int j => obtain ⟨t', rfl⟩ := ry; exact PySem.EqMixed.eq_str_int (fin_bl I q (by simp))
    | str j => obtain ⟨t', rfl⟩ := ry; exact eq_str (fin_bl I q dec_str)
    | _ => exact absurd (show false = true from hs) Bool.false_ne_true
  | byt i =>
    obtain ⟨t, rfl⟩ := rx
    cases y with
    | byt j => obtain ⟨t', rfl⟩ := ry; exact PySem.W.eq_bytes (fin_bl I q dec_byt)
    | _ => exact absurd (show false = true from hs) Bool.false_ne_true
  | _ => cases y <;> exact absurd (show false = true from hs) Bool.false_ne_true
theorem op_ne : OpR X (compareOp .NotEq) rNe := by
  intro pins s σ H x y v u Q I rx ry h
  obtain ⟨hs, q⟩ := h
  cases x with
  | non =>
    cases rx
    cases y with
    | non => cases ry; exact PySem.EqNone.ne_none_none (fin_bl I q (by simp))
    | bl j => cases ry; exact PySem.EqNone.ne_none_bool (fin_bl I q (by simp))
    | int j => obtain ⟨t', rfl⟩ := ry; exact PySem.EqNone.ne_none_int (fin_bl I q (by simp))
    | str j => obtain ⟨t', rfl⟩ := ry; exact PySem.EqNone.ne_none_str (fin_bl I q (by simp))
    | _ => exact absurd (show false = true from hs) Bool.false_ne_true
  | bl i =>
    cases rx
    cases y with
    | non => cases ry; exact PySem.EqNone.ne_bool_none (fin_bl I q (by simp))
    | bl j => cases ry; exact ne_bool (fin_bl I q (congrArg not dec_bl))
    | str j => obtain ⟨t', rfl⟩ := ry; exact PySem.EqMixed.ne_bool_str (fin_bl I q (by simp))
    | _ => exact absurd (show false = true from hs) Bool.false_ne_true
  | int i =>
    obtain ⟨t, rfl⟩ := rx
    cases y with
    | non => cases ry; exact PySem.EqNone.ne_int_none (fin_bl I q (by simp))
    | int j => obtain ⟨t', rfl⟩ := ry; exact ne_int (fin_bl I q (congrArg not dec_int))
    | str j => obtain ⟨t', rfl⟩ := ry; exact PySem.EqMixed.ne_int_str (fin_bl I q (by simp))
    | _ => exact absurd (show false = true from hs) Bool.false_ne_true
  | str i =>
    obtain ⟨t, rfl⟩ := rx
    cases y with
    | non => cases ry; exact PySem.EqNone.ne_str_none (fin_bl I q (by simp))
    | bl j => cases ry; exact PySem.EqMixed.ne_str_bool (fin_bl I q (by simp))
    | int j => obtain ⟨t', rfl⟩ := ry; exact PySem.EqMixed.ne_str_int (fin_bl I q (by simp))
    | str j => obtain ⟨t', rfl⟩ := ry; exact ne_str (fin_bl I q (congrArg not dec_str))
    | _ => exact absurd (show false = true from hs) Bool.false_ne_true
  | byt i =>
    obtain ⟨t, rfl⟩ := rx
    cases y with
    | byt j => obtain ⟨t', rfl⟩ := ry; exact PySem.W.ne_bytes (fin_bl I q (congrArg not dec_byt))
    | _ => exact absurd (show false = true from hs) Bool.false_ne_true
  | _ => cases y <;> exact absurd (show false = true from hs) Bool.false_ne_true
theorem op_le : OpR X (compareOp .LtE) (rI0 fun i j => .bl (decide (i ≤ j))) := opB0 fun _ _ _ _ _ _ _ q => le_int q
theorem op_ge : OpR X (compareOp .GtE) (rI0 fun i j => .bl (decide (j ≤ i))) := opB0 fun _ _ _ _ _ _ _ q => ge_int q
theorem op_isN : OpR X (compareOp .Is) (fun x y H Q => y = .non ∧ Q (.bl (decide (x = .non))) H) := by
  intro pins s σ H x y v u Q I rx ry h
  obtain ⟨rfl, q⟩ := h
  cases ry
  refine is_none_gen (fin_bl I q ?_)
  cases x <;> first
    | (cases rx; rfl)
    | (obtain ⟨t, rfl⟩ := rx; rfl)
theorem OpR.or {f : Value → Value → Sem Value} {r r' : R2} (h : OpR X f r) (h' : OpR X f r') : OpR X f (fun x y H Q => r x y H Q ∨ r' x y H Q) := by
  intro pins s σ H x y v u Q I rx ry q
  rcases q with q | q
  · exact h pins s σ H x y v u Q I rx ry q
  · exact h' pins s σ H x y v u Q I rx ry q
theorem nomark (b : Expr) {op : CmpOp} (h : op ≠ .In := by decide) (h2 : op ≠ .NotIn := by decide) : behindInMarks op b = false := by
  have e1 : (op == CmpOp.In) = false := by cases op <;> first | rfl | exact absurd rfl h
  have e2 : (op == CmpOp.NotIn) = false := by cases op <;> first | rfl | exact absurd rfl h2
  cases b <;> simp [behindInMarks, e1, e2]
theorem pe_cmpR {op : CmpOp} {r : R2} (ho : OpR X (compareOp op) r) (ha : PE X a ta) (hb : PE X b tb) (hm : behindInMarks op b = false) : PE X (.Compare a [op] [b] pos) (tOp r ta tb) := by
  intro pins s σ H Q I h
  exact wpAny_Compare1 (binT ha hb I h fun v u s2 x y H2 I2 rx ry q => ho pins s2 σ H2 x y v u Q I2 rx ry q) hm
def tTest (t : TE) : TT := fun σ H Q => t σ H fun x H' => ∃ k, x = .bl k ∧ Q k H'
theorem pt_cmpR {op : CmpOp} {r : R2} (ho : OpR X (compareOp op) r) (ha : PE X a ta) (hb : PE X b tb) (hm : behindInMarks op b = false) : PT X (.Compare a [op] [b] pos) (tTest (tOp r ta tb)) := by
  intro pins s σ H Q I h
  refine wpAny_isTrue_Compare1 (thn (ha pins s σ H _ I h) fun v s1 ⟨x, H1, I1, r1, q1⟩ => thn (hb pins s1 σ H1 _ I1 q1) fun u s2 ⟨y, H2, I2, r2, q2⟩ =>
    thn (ho pins s2 σ H2 x y v u _ I2 r1 r2 q2) fun c s3 ⟨z, H3, I3, r3, k, e, q3⟩ => ?_) hm
  subst e
  cases r3
  exact wpAny_truthy_bool ⟨H3, I3, q3⟩
def tChain (r r' : R2) (ta tb tc : TE) : TE := fun σ H Q => ta σ H fun x H1 => tb σ H1 fun y H2 => r x y H2 fun z H3 => ∃ k, z = .bl k ∧
  (if k = true then tc σ H3 fun w' H4 => r' y w' H4 Q else Q (.bl false) H3)
theorem pt_chain {op op' : CmpOp} {r r' : R2} (ho : OpR X (compareOp op) r) (ho' : OpR X (compareOp op') r') (ha : PE X a ta) (hb : PE X b tb) (hc : PE X c tc)
    (hm : lastMarks [op, op'] [b, c] = false := by with_unfolding_all rfl) : PT X (.Compare a [op, op'] [b, c] pos) (tTest (tChain r r' ta tb tc)) := by
  intro pins s σ H Q I h
  refine isTrue_chain (thn (ha pins s σ H _ I h) fun v s1 ⟨x, H1, I1, r1, q1⟩ => test_link (thn (hb pins s1 σ H1 _ I1 q1) fun u s2 ⟨y, H2, I2, r2, q2⟩ =>
    thn (ho pins s2 σ H2 x y v u _ I2 r1 r2 q2) fun d s3 ⟨z, H3, I3, r3, k, e, q3⟩ => ?_)) hm
  subst e
  cases r3
  refine wpAny_truthy_bool ?_
  cases k with
  | false =>
    obtain ⟨k', e', q'⟩ := q3
    cases e'
    exact ite_ff ⟨H3, I3, q'⟩
  | true =>
    refine ite_tt (test_last (thn (hc pins s3 σ H3 _ I3 q3) fun w' s4 ⟨z', H4, I4, r4, q4⟩ => thn (ho' pins s4 σ H4 y z' u w' _ I4 r2 r4 q4) fun d' s5 ⟨z2, H5, I5, r5, k2, e2, q5⟩ => ?_))
    subst e2
    cases r5
    exact wpAny_truthy_bool ⟨H5, I5, q5⟩
theorem line63 : (sizeLine : Nat) < 2 ^ 63 := by rw [sizeLine_eq]; decide
theorem op_add_str : OpR X (binaryOp .Add) (fun x y H Q => ∃ i j, x = .str i ∧ y = .str j ∧ i.length + j.length ≤ sizeLine ∧ Q (.str (i ++ j)) H) := by
  intro pins s σ H x y v u Q I rx ry h
  obtain ⟨i, j, rfl, rfl, hz, q⟩ := h
  obtain ⟨t, rfl⟩ := rx
  obtain ⟨t', rfl⟩ := ry
  exact add_str (fun t' tk => ⟨.str (i ++ j), H, I.tok _, ⟨_, rfl⟩, q⟩) hz
theorem vals1 {x : V} {us : List Value} (r : Vals [x] us) : ∃ u, us = [u] ∧ RelV x u := by
  cases r with
  | cons r1 r2 => cases r2; exact ⟨_, rfl, r1⟩
theorem vals2 {x y : V} {us : List Value} (r : Vals [x, y] us) : ∃ u w', us = [u, w'] ∧ RelV x u ∧ RelV y w' := by
  cases r with
  | cons r1 r2 =>
    cases r2 with
    | cons r3 r4 => cases r4; exact ⟨_, _, rfl, r1, r3⟩
theorem call_str_int : CallR X (.type "str") (fun xs H Q => ∃ i, xs = [.int i] ∧ i.natAbs.log2 < 1920 ∧ Q (.str (toString i)) H) := by
  intro pins s σ H xs us Q I r h
  obtain ⟨i, rfl, hz, q⟩ := h
  obtain ⟨u, rfl, t, rfl⟩ := vals1 r
  exact PySem.P.str_of_int hz ⟨.str _, H, I.tok _, ⟨_, rfl⟩, q⟩
def LenV (K : PySem.W.Frag) (x : V) (H : Hp) (n : Nat) : Prop :=
  match x with
  | .str y => y.length ≤ sizeLine ∧ n = y.length
  | .byt y => y.size ≤ sizeLine ∧ n = y.size
  | .ref p => (∃ xs, SqL K H p xs ∧ n = xs.length) ∨ ∃ xs, SqT K H p xs ∧ n = xs.length
  | _ => False
theorem call_len : CallR X (.builtin "len") (fun xs H Q => ∃ x n, xs = [x] ∧ LenV X.K x H n ∧ Q (.int n) H) := by
  intro pins s σ H xs us Q I r h
  obtain ⟨x, n, rfl, e, q⟩ := h
  obtain ⟨u, rfl, rx⟩ := vals1 r
  have hl := line63
  have hs : sizeLine = 16777216 := sizeLine_eq
  cases x with
  | str y =>
    obtain ⟨t, rfl⟩ := rx
    obtain ⟨hy, e'⟩ : y.length ≤ sizeLine ∧ n = y.length := e
    subst e'
    exact len_str (by omega) ⟨.int _, H, I.tok _, ⟨_, rfl⟩, q⟩
  | byt y =>
    obtain ⟨t, rfl⟩ := rx
    obtain ⟨hy, e'⟩ : y.size ≤ sizeLine ∧ n = y.size := e
    subst e'
    exact PySem.W.len_bytes (by omega) ⟨.int _, H, I.tok _, ⟨_, rfl⟩, q⟩
  | ref p =>
    cases rx
    have e' : (∃ xs, SqL X.K H p xs ∧ n = xs.length) ∨ ∃ xs, SqT X.K H p xs ∧ n = xs.length := e
    rcases e' with ⟨xs, hx, e'⟩ | ⟨xs, hx, e'⟩
    · subst e'
      obtain ⟨its, r', pl, hz⟩ := I.list hx
      have hlen := r'.length
      exact Calls.call_len_list pl.isList (by simp only [List.size_toArray]; omega) ⟨.int xs.length, H, I.tok _, ⟨_, by simp only [List.size_toArray]; rw [hlen]⟩, q⟩
    · subst e'
      obtain ⟨its, r', pl, hz⟩ := I.tuple hx
      have hlen := r'.length
      exact len_tuple pl (by simp only [List.size_toArray]; omega) ⟨.int xs.length, H, I.tok _, ⟨_, by simp only [List.size_toArray]; rw [hlen]⟩, q⟩
  | _ => exact (show False from e).elim
end
structure ObjM (h : Heap) (x dx C : Addr) (mA : Str → Option Value) : Prop where
  obj : h.get? x = some (PySem.W.instObj C dx)
  ns : h.Ns1 dx mA
  ne : dx ≠ x
theorem lookIn_ns {h : Heap} {dx : Addr} {mA : Str → Option Value} (n : h.Ns1 dx mA) : ∃ od, h.get? dx = some od ∧ ∀ name, PySem.W.lookIn name od = some (mA name) := by
  obtain ⟨o, es, ep, ho, hd, hk, _, hm⟩ := n
  refine ⟨o, ho, fun name => ?_⟩
  have e := hm name
  unfold nsFind findBy at e
  rw [← Array.find?_toList] at e
  unfold PySem.W.lookIn
  rw [hd]
  dsimp only
  split
  · rename_i y q
    rw [q] at e
    exact congrArg some e
  · rename_i q
    rw [q] at e
    have a : es.toList.any (·.refKey) = false := by
      rw [List.any_eq_false]
      intro y hy
      obtain ⟨z, t, hkey⟩ := hk y (Array.mem_toList_iff.mp hy)
      simp [DictEntry.refKey, hkey]
    have a' : ¬ es.toList.any (·.refKey) = true := by rw [a]; exact Bool.false_ne_true
    rw [if_neg a']
    exact congrArg some e
theorem ObjM.look {h : Heap} {x dx C : Addr} {mA : Str → Option Value} (I : ObjM h x dx C mA) : ∃ od, PySem.W.InstAt h x (PySem.W.instObj C dx) C (some od) ∧ ∀ name, PySem.W.lookIn name od = some (mA name) :=
  let ⟨od, ho, hl⟩ := lookIn_ns I.ns
  ⟨od, ⟨I.obj, rfl, rfl, ho⟩, hl⟩
theorem RelO.some_of {v : V} {o : Option Value} (r : RelO (some v) o) : ∃ u, o = some u ∧ RelV v u := by
  cases o with
  | none => exact (show False from r).elim
  | some u => exact ⟨u, rfl, r⟩
section
variable {P : Program} {w : World} {H H' : Hp} {h h' : Heap} {a C dx : Addr} {fs fs' : List (Str × V)}
theorem ins_get (hok : HOk P w H h) (e : H a = some (.ins C dx fs)) : ∃ mA, ObjM h a dx C mA ∧ (∀ f, RelO (fs.lookup f) (mA f)) ∧ PySem.Within mA (fs.map (·.1)) ∧ fs.length ≤ 1000 ∧ H dx = some (.own a) := by
  obtain ⟨d, z, ne, ob, mA, n, r, q⟩ := (show ObjOk P w H h a (.ins C dx fs) from hok a _ e)
  exact ⟨mA, ⟨ob, n, ne⟩, r, q, z, d⟩
end
structure Cls (K : PySem.W.Frag) (C : Addr) : Prop where
  pg : PySem.W.plainGet K C Str.empty = true
  hd : PySem.W.hasDictIn K C = true
  po : PySem.W.plainOver K C = true
  sa : PySem.W.findIn K (.ref C) "__setattr__" = some (some (.builtin "object.__setattr__"))
theorem Cls.get {K : PySem.W.Frag} {C : Addr} (c : Cls K C) (f : Str) : PySem.W.plainGet K C f = true := c.pg
structure Meth (K : PySem.W.Frag) (C : Addr) (m : Str) (f : Addr) : Prop where
  at_ : PySem.W.findIn K (.ref C) m = some (some (.ref f))
  fn : PySem.W.isFn K (.ref f) = true
  kp : PySem.W.keepIn K (.ref f) = true
section
variable {X : Cx} {pins : List (Addr × Obj)} {σ : St} {H : Hp} {s : Shared} {a C dx : Addr} {fs : List (Str × V)} {f : Str} {v : V} {A : Around} {E : Value → Shared → Prop}
theorem Inv.made (I : Inv X pins σ H s) : Inv X pins σ (upd (upd H s.heap.objs.size (.own (s.heap.objs.size + 1))) (s.heap.objs.size + 1) (.ins C s.heap.objs.size []))
    { s with heap := (s.heap.push PySem.W.emptyDict).push (PySem.W.instObj C s.heap.objs.size) } := by
  have e1 : (s.heap.push PySem.W.emptyDict).get? s.heap.objs.size = some PySem.W.emptyDict := Heap.get?_push_size s.heap rfl
  have e2 : ((s.heap.push PySem.W.emptyDict).push (PySem.W.instObj C s.heap.objs.size)).get? (s.heap.objs.size + 1) = some (PySem.W.instObj C s.heap.objs.size) := by
    have := Heap.get?_push_size (s.heap.push PySem.W.emptyDict) (o := PySem.W.instObj C s.heap.objs.size) rfl
    rwa [Heap.size_push] at this
  have e3 : (s.heap.push PySem.W.emptyDict).Ns s.heap.objs.size (fun _ => none) := ⟨PySem.W.emptyDict, #[], _, e1, rfl, (fun e he => absurd he (by simp)), fun _ => rfl⟩
  have I1 := I.laid (a := s.heap.objs.size) (o := .own (s.heap.objs.size + 1)) (h' := s.heap.push PySem.W.emptyDict) (t' := s.toks) (fun b u q => Heap.get?_push_of_some _ q) (Nat.le_refl _) ⟨_, e1⟩
  refine I1.laid (a := s.heap.objs.size + 1) (o := .ins C s.heap.objs.size []) (t' := s.toks) (fun b u q => Heap.get?_push_of_some _ q) (Nat.le_of_eq (Heap.size_push _ _)) ?_
  have ne : s.heap.objs.size ≠ s.heap.objs.size + 1 := Nat.ne_of_lt (Nat.lt_succ_self _)
  refine ⟨by rw [upd_ne ne, upd_same], Nat.zero_le _, ne, e2, fun _ => none, (Heap.Ns1.of_empty e3).at fun o q => Heap.get?_push_of_some _ q, fun _ => True.intro, fun y hy => absurd rfl hy⟩
end
section
variable {X : Cx} {pins : List (Addr × Obj)} {σ : St} {H : Hp} {s : Shared} {A : Around} {E : Value → Shared → Prop} {Q : Value → Shared → Prop} {c : Value} {b : Bool}
inductive TyOf (K : PySem.W.Frag) (H : Hp) : V → Value → Prop where
  | non : TyOf K H .non (.type "NoneType")
  | bl (x : Bool) : TyOf K H (.bl x) (.type "bool")
  | int (i : Int) : TyOf K H (.int i) (.type "int")
  | str (x : Str) : TyOf K H (.str x) (.type "str")
  | flt (x : UInt64) : TyOf K H (.flt x) (.type "float")
  | lst {a : Addr} {xs : List V} (e : H a = some (.lst xs)) : TyOf K H (.ref a) (.type "list")
  | frz {a : Addr} {o : Obj} {xs : List V} (e : H a = some (.frz o (.lst xs))) : TyOf K H (.ref a) (.type "list")
  | tup {a : Addr} {xs : List V} (e : H a = some (.tup xs)) : TyOf K H (.ref a) (.type "tuple")
  | dK {a : Addr} {kvs : List (Key × V)} (e : H a = some (.dK kvs)) : TyOf K H (.ref a) (.type "dict")
  | dT {a : Addr} {kvs : List (List Key × V)} (e : H a = some (.dT kvs)) : TyOf K H (.ref a) (.type "dict")
  | ins {a C dx : Addr} {fs : List (Str × V)} (e : H a = some (.ins C dx fs)) (cl : Cls K C) (ha : PySem.W.findIn K (.ref C) "__class__" = some (some (.builtin "object.__class__")))
      (hn : PySem.W.specialIn K (.builtin "object.__class__") "__get__" = some (some (.builtin "getset_descriptor.__get__"))) (htk : PySem.W.takesIn K (.builtin "object.__class__") = some true)
      (hm : PySem.W.mroIn K C (.type "object") = some true) : TyOf K H (.ref a) (.ref C)
theorem isinst_ok {x : V} {u t : Value} (I : Inv X pins σ H s) (rx : RelV x u) (ty : TyOf X.K H x t) (e : PySem.W.kitOne X.K t c = some b) (h : ∀ tk, Q (.bool b) { s with toks := tk }) :
    wpAny (model X.prog X.w) A (call (.builtin "isinstance") [u, c]) Q E s := by
  cases ty with
  | non => cases (show u = Value.none from rx); exact PySem.W.kia_one PySem.W.kitx_none I.kIn True.intro e (fun z => nomatch z) h
  | bl y => cases (show u = Value.bool y from rx); exact PySem.W.kia_one PySem.W.kitx_bool I.kIn True.intro e (fun z => nomatch z) h
  | int i => obtain ⟨t, q⟩ := (show ∃ t, u = Value.int i t from rx); cases q; exact PySem.W.kia_one PySem.W.kitx_int I.kIn True.intro e (fun z => nomatch z) h
  | str y => obtain ⟨t, q⟩ := (show ∃ t, u = Value.str y t from rx); cases q; exact PySem.W.kia_one PySem.W.kitx_str I.kIn True.intro e (fun z => nomatch z) h
  | flt y => obtain ⟨t, q⟩ := (show ∃ t, u = Value.float y t from rx); cases q; exact PySem.W.kia_one PySem.W.kitx_float I.kIn True.intro e (fun z => nomatch z) h
  | @lst a xs ea =>
    cases (show u = Value.ref a from rx)
    obtain ⟨_, _, n, _, h1⟩ := (show ObjOk X.prog X.w H s.heap a (.lst xs) from I.hok a _ ea)
    exact PySem.W.kia_one PySem.W.kitx_list I.kIn ⟨_, h1, rfl⟩ e (fun z => nomatch z) h
  | @frz a ob xs ea =>
    cases (show u = Value.ref a from rx)
    obtain ⟨_, _, _, n, _, h1⟩ := (show ObjOk X.prog X.w H s.heap a (.frz ob (.lst xs)) from I.hok a _ ea)
    exact PySem.W.kia_one PySem.W.kitx_list I.kIn ⟨_, h1, rfl⟩ e (fun z => nomatch z) h
  | @tup a xs ea =>
    cases (show u = Value.ref a from rx)
    obtain ⟨_, _, _, p⟩ := (show ObjOk X.prog X.w H s.heap a (.tup xs) from I.hok a _ ea)
    obtain ⟨o, h1, h2, _⟩ := p
    exact PySem.W.kia_one PySem.W.kitx_tuple I.kIn ⟨o, h1, h2⟩ e (fun z => nomatch z) h
  | @dK a kvs ea =>
    cases (show u = Value.ref a from rx)
    obtain ⟨_, _, vs, _, p⟩ := (show ObjOk X.prog X.w H s.heap a (.dK kvs) from I.hok a _ ea)
    obtain ⟨o, es, ep, h1, h2, _⟩ := p
    exact PySem.W.kia_one PySem.W.kitx_dict I.kIn ⟨o, h1, h2.1⟩ e (fun z => nomatch z) h
  | @dT a kvs ea =>
    cases (show u = Value.ref a from rx)
    obtain ⟨_, _, xs, _, o, es, ep, h1, h2, _⟩ := (show ObjOk X.prog X.w H s.heap a (.dT kvs) from I.hok a _ ea)
    exact PySem.W.kia_one PySem.W.kitx_dict I.kIn ⟨o, h1, h2.1⟩ e (fun z => nomatch z) h
  | @ins a C dx fs ea cl ha hn htk hm =>
    cases (show u = Value.ref a from rx)
    obtain ⟨mA, O, _⟩ := ins_get I.hok ea
    obtain ⟨od, J, _⟩ := O.look
    exact PySem.W.kia_one (PySem.W.kitx_own (cl.get _) cl.hd ha hn htk hm) I.kIn J e (fun z => nomatch z) h
end
structure Room (k : Nat) (A : Around) : Prop where
  hd : A.handled = none
  dp : A.depth + 3 * k + 5 < recursionLimit
  un : A.units + 16 * k + 200 < cLine
  gd : A.guards = some []
theorem Room.mono {j k : Nat} {A : Around} (r : Room k A) (h : j ≤ k) : Room j A := ⟨r.hd, by have := r.dp; omega, by have := r.un; omega, r.gd⟩
theorem Room.deeper {k : Nat} {A : Around} (r : Room (k + 1) A) (env : Env) : Room k (A.deeper env) :=
  ⟨r.hd, by have := r.dp; show A.depth + 1 + 3 * k + 5 < _; omega, by have := r.un; show A.units + 3 + 16 * k + 200 < _; omega, r.gd⟩
theorem Room.in1 {k : Nat} {A : Around} (r : Room (k + 1) A) : Room k A.in1 :=
  ⟨r.hd, by have := r.dp; show A.depth + 3 * k + 5 < _; omega, by have := r.un; show A.units + 1 + 16 * k + 200 < _; omega, r.gd⟩
theorem Room.depth {k : Nat} {A : Around} (r : Room k A) : A.depth < recursionLimit := by have := r.dp; omega
theorem Room.units {k : Nat} {A : Around} (r : Room k A) : A.units + 64 < cLine := by have := r.un; omega
def tNil : TA := fun _ H Q => Q [] H
def tCons (ta : TE) (tr : TA) : TA := fun σ H Q => ta σ H fun x H1 => tr σ H1 fun xs H2 => Q (x :: xs) H2
section
variable {X : Cx} {e : Expr} {es : List Expr} {te : TE} {t : TA} {pos : Pos}
theorem pa_nil : PA X [] tNil := fun _ _ _ _ H Q I h => Calls.spliced_nil ⟨[], H, I, .nil, h⟩
theorem pa_cons (ha : PE X e te) (hr : PA X es t) (hs : starEach (e :: es) X.env = (false, eval e X.env) :: starEach es X.env := by rfl) : PA X (e :: es) (tCons te t) := by
  intro pos pins s σ H Q I h
  rw [hs]
  show wpAny _ _ (spliced ((false, eval e X.env) :: backTo pos (starEach es X.env))) _ _ s
  refine Calls.spliced_cons (thn (ha pins s σ H _ I h) fun u s1 ⟨x, H1, I1, r1, q1⟩ => ?_)
  exact thn (hr pos pins s1 σ H1 _ I1 q1) fun us s2 ⟨xs, H2, I2, r2, q2⟩ => ⟨x :: xs, H2, I2, .cons r1 r2, q2⟩
end
abbrev Sp := List V → Hp → VK → XK → Prop
abbrev CXT := List Env → Hp → Shared → XK → Value → Shared → Prop
structure Env0 (P : Program) (w : World) (K : PySem.W.Frag) (mg : Str → Option Value) (base : Heap) (A : Around) (outer : List Env) (s : Shared) (H : Hp) : Prop where
  frames : A.frames = some outer
  mod : Mod K mg base
  bs : ∀ b o, base.get? b = some o → s.heap.get? b = some o ∧ H b = none
  bsz : base.objs.size ≤ s.heap.objs.size
  funs : s.heap.FunFrames base outer
  frf : ∀ b ∈ frs outer, H b = none
  hok : HOk P w H s.heap
  bare : AllBare s.gens
def CE (outer : List Env) (P : Program) (w : World) (H : Hp) (s : Shared) (Q : VK) (u : Value) (s' : Shared) : Prop :=
  ∃ v H', s'.os = s.os ∧ AllBare s'.gens ∧ Un (frs outer) [] H H' s.heap s'.heap ∧ HOk P w H' s'.heap ∧ RelV v u ∧ Q v H'
def CR (CX : CXT) (outer : List Env) (P : Program) (w : World) (H : Hp) (s : Shared) (Q : VK) (E : XK) (r : Result) (s' : Shared) : Prop :=
  match r with
  | .ok (.ret u) => CE outer P w H s Q u s'
  | .ok _ => False
  | .error e => CX outer H s E e s'
structure FnOk (P : Program) (w : World) (K : PySem.W.Frag) (mg : Str → Option Value) (base : Heap) (CX : CXT) (k : Nat) (f : Addr) (fd : FuncData) (ps : List Str) (sp : Sp) : Prop where
  len : ∀ vs H Q E, sp vs H Q E → vs.length = ps.length
  run : ∀ (A : Around) (outer : List Env) (s : Shared) (H : Hp) (args : Args) (us : List Value) (vs : List V) (Q : VK) (E : XK), Room k A → Env0 P w K mg base A outer s H → BindsTo s fd args (ps.zip us) → Vals vs us → sp vs H Q E →
    codeAny (model P w) A (.call (.ref f) args) (CR CX outer P w H s Q E) s
theorem Env0.in1 {P : Program} {w : World} {K : PySem.W.Frag} {mg : Str → Option Value} {base : Heap} {A : Around} {outer : List Env} {s : Shared} {H : Hp} (e : Env0 P w K mg base A outer s H) :
    Env0 P w K mg base A.in1 outer s H := ⟨e.frames, e.mod, e.bs, e.bsz, e.funs, e.frf, e.hok, e.bare⟩
section
variable {X : Cx} {pins : List (Addr × Obj)} {σ : St} {H : Hp} {s s' : Shared}
theorem Inv.env0 (I : Inv X pins σ H s) : Env0 X.prog X.w X.K X.mg X.base X.A X.stack s H :=
  ⟨I.ok.frames, I.ok.mod, I.bs, Nat.le_trans I.ok.bsz I.sz, I.stack, I.stkFree, I.hok, I.bare⟩
theorem Inv.after {Q : VK} {u : Value} (I : Inv X pins σ H s) (h : CE X.stack X.prog X.w H s Q u s') : EP X pins σ Q u s' := by
  obtain ⟨v, H', os, bare, un, hok, r, q⟩ := h
  obtain ⟨hh, g, d, t, os'⟩ := s'
  obtain rfl : os' = s.os := os
  exact ⟨v, H', I.call (h' := hh) (g' := g) (d' := d) (t' := t) (ch := []) un hok bare (fun b z => absurd z (by simp)), r, q⟩
end
def tCall (sp : Sp) (dvs : List V) (E : XK) (t : TA) : TE := fun σ H Q => t σ H fun vs H1 => sp (vs ++ dvs) H1 Q E
def Binds (K : PySem.W.Frag) (fd : FuncData) (ps : List Str) (ds : List Value) : Prop :=
  ∀ (s : Shared) (us : List Value), K.In s.heap → (us ++ ds).length = ps.length → BindsTo s fd ⟨us, []⟩ (ps.zip (us ++ ds))
theorem Binds.all {K : PySem.W.Frag} {fd : FuncData} {ps : List Str} (h : ∀ us : List Value, us.length = ps.length → bindArgs fd ⟨us, []⟩ = pure (ps.zip us)) : Binds K fd ps [] := fun s us _ hl => by
  rw [List.append_nil] at hl ⊢
  exact .of_eq (h us hl)
def Passes (CX : CXT) (X : Cx) (E : XK) : Prop := ∀ (pins : List (Addr × Obj)) (σ : St) (H : Hp) (s : Shared) (e : Value) (s' : Shared), Inv X pins σ H s → CX X.stack H s E e s' → X.xe e s'
section
variable {X : Cx} {CX : CXT} {k : Nat} {f C : Addr} {fd : FuncData} {ps : List Str} {sp : Sp} {dvs : List V} {ds : List Value} {E : XK} {x m : Str} {p pos apos : Pos} {e o : Expr} {es : List Expr} {ta : TE} {t : TA}
theorem run_fn {pins : List (Addr × Obj)} {σ : St} {H : Hp} {s : Shared} {Q : VK} {us : List Value} {vs : List V} (F : FnOk X.prog X.w X.K X.mg X.base CX k f fd ps sp) (hr : Room k X.A) (hb : Binds X.K fd ps ds) (hd : Vals dvs ds) (hx : Passes CX X E)
    (I : Inv X pins σ H s) (r : Vals vs us) (h : sp (vs ++ dvs) H Q E) : wpAny (model X.prog X.w) X.A (call (.ref f) us) (EP X pins σ Q) X.xe s := by
  have r2 : Vals (vs ++ dvs) (us ++ ds) := r.append hd
  have hl : (us ++ ds).length = ps.length := by rw [← r2.length]; exact F.len _ _ _ _ h
  refine wpAny_call (codeAny_mono (F.run X.A X.stack s H ⟨us, []⟩ (us ++ ds) (vs ++ dvs) Q E hr I.env0 (hb s us I.kIn hl) r2 h) fun r s' hq => ?_)
  cases r with
  | error e => exact hx pins σ H s e s' I hq
  | ok fl =>
    cases fl with
    | ret u => exact I.after hq
    | next => exact False.elim hq
    | brk => exact False.elim hq
    | cont => exact False.elim hq
theorem pe_call (F : FnOk X.prog X.w X.K X.mg X.base CX k f fd ps sp) (hr : Room k X.A) (hg : Gl X x) (hm : X.mg x = some (.ref f)) (hk : PySem.W.keepIn X.K (.ref f) = true) (hb : Binds X.K fd ps ds) (hd : Vals dvs ds) (hx : Passes CX X E)
    (ha : PA X (e :: es) t) (hdb : (x == ("__debug__" : Str)) = false := by decide) (he : starEach (e :: es) X.env = (false, eval e X.env) :: starEach es X.env := by rfl) (hpl : (backTo pos (starEach es X.env)).any (·.1) = false := by rfl) :
    PE X (.Call (.Name x p) (e :: es) [] pos) (tCall sp dvs E t) := by
  intro pins s σ H Q I h
  refine wpAny_Call_Name_kw (ld_glob I hg hm ?_ hdb)
  refine PySem.W.callWith_K (h₀ := X.base) I.ok.mod.kin hk (thn (ha pos pins s σ H _ I h) fun us s1 ⟨vs, H1, I1, r, q⟩ => ⟨I1.kIn, ?_⟩) he hpl
  exact run_fn F hr hb hd hx I1 r q
structure Mk (K : PySem.W.Frag) (C f : Addr) : Prop where
  makes : PySem.W.makesIn K C = true
  init : PySem.W.findIn K (.ref C) "__init__" = some (some (.ref f))
  fn : PySem.W.isFn K (.ref f) = true
  kp : PySem.W.keepIn K (.ref C) = true
end
structure FnScope (N P : List Str) (sc : Scope) : Prop where
  kind : sc.kind = .function
  co : sc.isCoroutine = false
  gen : sc.isGenerator = false
  nd : N.Nodup
  pre : N.take P.length = P
  par : ∀ x ∈ P, sc.names.lookup x = some .local ∨ sc.names.lookup x = some .cell
  nofree : ∀ y ∈ sc.names, y.2 ≠ .free
theorem bindL_out {kindOf : Str → Option NameKind} {x : Str} : ∀ {binds : List (Str × Value)} {m : Str → Option Value}, (∀ v, (x, v) ∉ binds) → bindL kindOf binds m x = m x
  | [], _, _ => rfl
  | (n, v) :: r, m, h => by
    unfold bindL
    rw [bindL_out fun w hw => h w (List.mem_cons_of_mem _ hw)]
    split
    · have : x ≠ n := by rintro rfl; exact h v List.mem_cons_self
      simp [this]
    · rfl
theorem bindC_out {kindOf : Str → Option NameKind} {x : Str} : ∀ {binds : List (Str × Value)} {m : Str → Option Value}, (∀ v, (x, v) ∉ binds) → bindC kindOf binds m x = m x
  | [], _, _ => rfl
  | (n, v) :: r, m, h => by
    unfold bindC
    rw [bindC_out fun w hw => h w (List.mem_cons_of_mem _ hw)]
    split
    · rfl
    · have : x ≠ n := by rintro rfl; exact h v List.mem_cons_self
      simp [this]
theorem bindL_get {kindOf : Str → Option NameKind} {x : Str} {v : Value} : ∀ {P : List Str} {vs : List Value} {i : Nat} {m : Str → Option Value}, P.Nodup → P[i]? = some x → vs[i]? = some v → kindOf x = some .local →
    bindL kindOf (P.zip vs) m x = some v
  | [], _, _, _, _, h, _, _ => by simp at h
  | _ :: _, [], _, _, _, _, h, _ => by simp at h
  | p :: P, w :: vs, 0, m, nd, h1, h2, hk => by
    simp at h1 h2; subst h1; subst h2
    show bindL kindOf ((p, w) :: P.zip vs) m p = _
    unfold bindL
    rw [bindL_out fun v hv => (List.nodup_cons.mp nd).1 (List.of_mem_zip hv).1, if_pos hk]
    simp
  | p :: P, w :: vs, i + 1, m, nd, h1, h2, hk => by
    show bindL kindOf ((p, w) :: P.zip vs) m x = _
    unfold bindL
    exact bindL_get (i := i) (List.nodup_cons.mp nd).2 (by simpa using h1) (by simpa using h2) hk
theorem bindC_get {kindOf : Str → Option NameKind} {x : Str} {v : Value} : ∀ {P : List Str} {vs : List Value} {i : Nat} {m : Str → Option Value}, P.Nodup → P[i]? = some x → vs[i]? = some v → kindOf x ≠ some .local →
    bindC kindOf (P.zip vs) m x = some v
  | [], _, _, _, _, h, _, _ => by simp at h
  | _ :: _, [], _, _, _, _, h, _ => by simp at h
  | p :: P, w :: vs, 0, m, nd, h1, h2, hk => by
    simp at h1 h2; subst h1; subst h2
    show bindC kindOf ((p, w) :: P.zip vs) m p = _
    unfold bindC
    rw [bindC_out fun v hv => (List.nodup_cons.mp nd).1 (List.of_mem_zip hv).1, if_neg hk]
    simp
  | p :: P, w :: vs, i + 1, m, nd, h1, h2, hk => by
    show bindC kindOf ((p, w) :: P.zip vs) m x = _
    unfold bindC
    exact bindC_get (i := i) (List.nodup_cons.mp nd).2 (by simpa using h1) (by simpa using h2) hk
def start (N : List Str) (vs : List V) : St := vs.map some ++ List.replicate (N.length - vs.length) none
def cxOf (CX : CXT) (P : Program) (w : World) (K : PySem.W.Frag) (mg : Str → Option Value) (base : Heap) (N : List Str) (qual : Str) (scope : Scope) (f : Addr) (cd : Value) (A : Around) (outer : List Env) (s : Shared) (H : Hp) (E : XK) : Cx where
  prog := P
  w := w
  K := K
  mg := mg
  base := base
  A := A.deeper (envOfC qual scope s.heap.objs.size f cd)
  N := N
  s₀ := s
  H₀ := H
  env := envOfC qual scope s.heap.objs.size f cd
  outer := outer
  stack := envOfC qual scope s.heap.objs.size f cd :: outer
  ex := []
  calm := true
  fn := fun _ => true
  pn := []
  xe := fun e s' => wpAny (model P w) (A.deeper (envOfC qual scope s.heap.objs.size f cd)) (leaving (envOfC qual scope s.heap.objs.size f cd) e) (fun _ s'' => CX outer H s E e s'') (fun e' s'' => CX outer H s E e' s'') s'
theorem cell_has {sc : Scope} {n : Nat} {x : Str} (h : sc.names.lookup x = some .cell) : ∃ c, (cellsFrom n sc.names []).lookup x = some c := by
  have q := PySem.W.cellsFrom_some sc.names n [] (.inl h)
  exact Option.isSome_iff_exists.mp q
theorem inv_start {CX : CXT} {P : Program} {w : World} {K : PySem.W.Frag} {mg : Str → Option Value} {base : Heap} {N ps : List Str} {qual : Str} {scope : Scope} {f : Addr} {cd : Value} {A : Around} {outer : List Env} {s s1 : Shared} {H : Hp} {E : XK} {us : List Value} {vs : List V}
    (S : FnScope N ps scope) (hd : A.handled = none) (e0 : Env0 P w K mg base A outer s H) (hl : vs.length = ps.length) (r : Vals vs us)
    (x : InCallC s s.heap.objs.size (bindL (envOfC qual scope s.heap.objs.size f cd).kindOf (ps.zip us) fun _ => none) (cellsFrom (s.heap.objs.size + 1) scope.names []) (bindC (envOfC qual scope s.heap.objs.size f cd).kindOf (ps.zip us) fun _ => none) s1) :
    Inv (cxOf CX P w K mg base N qual scope f cd A outer s H E) [] (start N vs) H s1 := by
  have hpl : ps.length ≤ N.length := by have := congrArg List.length S.pre; rw [List.length_take] at this; omega
  obtain ⟨h1, tk, rfl, hk⟩ := x.done
  have noA : ∀ b : Addr, b ∉ (cxOf CX P w K mg base N qual scope f cd A outer s H E).ex := fun b z => absurd (show b ∈ ([] : List Addr) from z) (by simp)
  refine ⟨⟨e0.mod, S.kind, rfl, rfl, Nat.le_refl _, fun y z c h1 h2 => ?_, fun y hy => ?_, fun y c _ h => ?_, fun _ => hd, Around.frames_deeper e0.frames, .inr ⟨rfl, rfl⟩, fun b z => absurd z (noA b), e0.bs, e0.bsz, fun b _ _ => noA b, fun b z => absurd z (noA b), e0.funs, e0.frf⟩,
    rfl, e0.bare, Un.kept hk, ⟨_, x.toInCall.ns, fun i y v h1 h2 h3 => ?_⟩, fun y c h => ⟨_, x.cell y c h⟩, e0.hok.fresh (Nat.le_refl _), fun y c h => ?_, fun p hp => absurd (show p ∈ ([] : List (Addr × Obj)) from hp) (by simp), e0.hok.kept hk, ?_⟩
  · exact name_of_addr x.apart (PySem.mem_of_lookup h1) (PySem.mem_of_lookup h2)
  · have hy : scope.names.lookup y = some .cell ∨ scope.names.lookup y = some .free := hy
    rcases hy with hy | hy
    · exact cell_has hy
    · exact absurd rfl (S.nofree _ (PySem.mem_of_lookup hy))
  · exact Nat.le_of_lt (x.above y c (PySem.mem_of_lookup h))
  · have hi : i < vs.length := by
      unfold start at h2
      by_cases hi : i < vs.length
      · exact hi
      · rw [List.getElem?_append_right (by simpa using hi)] at h2
        rw [List.getElem?_replicate] at h2
        split at h2 <;> cases h2
    have ha : vs[i]? = some v := by
      unfold start at h2
      rw [List.getElem?_append_left (by simpa using hi), List.getElem?_map] at h2
      cases e : vs[i]? with
      | none => rw [e] at h2; cases h2
      | some a => rw [e] at h2; cases h2; rfl
    obtain ⟨u, hu, rv⟩ := r.get ha
    have hp : ps[i]? = some y := by
      rw [← S.pre, List.getElem?_take_of_lt (by omega)]; exact h1
    have ndP : ps.Nodup := by rw [← S.pre]; exact S.nd.sublist (List.take_sublist _ _)
    refine ⟨u, rv, ?_⟩
    rcases S.par y (List.mem_of_getElem? hp) with k | k
    · exact .inl ⟨k, bindL_get ndP hp hu k⟩
    · obtain ⟨c, e⟩ := cell_has (n := s.heap.objs.size + 1) k
      refine .inr ⟨.inl k, c, e, ?_⟩
      have q := x.cell y c e
      rw [bindC_get ndP hp hu (by show scope.names.lookup y ≠ _; rw [k]; decide)] at q
      exact q
  · exact e0.hok.fresh (Nat.le_of_lt (x.above y c (PySem.mem_of_lookup h)))
  · unfold start
    show _ = N.length
    rw [List.length_append, List.length_map, List.length_replicate]
    omega
theorem fn_of {CX : CXT} {P : Program} {w : World} {K : PySem.W.Frag} {mg : Str → Option Value} {base : Heap} {k : Nat} {f : Addr} {name qual : Str} {params : Arguments} {body : List Stmt} {scope : Scope} {dV kV doc pm cdv ct oc : Value} {an od : Option Addr}
    {osl : Array (Option Value)} {N ps : List Str} {sp : Sp} (lk : K.lookup f = some ⟨oc, od, .func (PySem.W.fnOf name qual params body scope dV kV doc pm an cdv ct), osl⟩) (hcd : PySem.W.codeIn K cdv qual = true) (S : FnScope N ps scope)
    (len : ∀ vs H Q E, sp vs H Q E → vs.length = ps.length)
    (hbody : ∀ (A : Around) (outer : List Env) (s : Shared) (H : Hp) (vs : List V) (Q : VK) (E : XK), Room k (A.deeper (envOfC qual scope s.heap.objs.size f cdv)) → sp vs H Q E →
      ∃ t, PSs (cxOf CX P w K mg base N qual scope f cdv A outer s H E) body t ∧ t { nx := fun _ H' => Q .non H', rt := Q } (start N vs) H) :
    FnOk P w K mg base CX (k + 1) f (PySem.W.fnOf name qual params body scope dV kV doc pm an cdv ct) ps sp := by
  refine ⟨len, fun A outer s H args us vs Q E hr e0 hb r hsp => ?_⟩
  have hl := len _ _ _ _ hsp
  have KX : K.In s.heap := e0.mod.kin.keeps fun b o e => (e0.bs b o e).1
  have lim : s.heap.NoLimit := e0.mod.nolimit.keeps fun b o e => (e0.bs b o e).1
  have hkind : ∀ y ∈ ps.zip us, scope.names.lookup y.1 = some .local ∨ (scope.names.lookup y.1 = some .cell ∧ ((cellsFrom (s.heap.objs.size + 1) scope.names []).lookup y.1).isSome = true) := fun ⟨n, v⟩ hy => by
    rcases S.par n (List.of_mem_zip hy).1 with q | q
    · exact .inl q
    · exact .inr ⟨q, PySem.W.cellsFrom_some _ _ _ (.inl q)⟩
  refine codeAny_call_function hr.depth (KX _ _ lk) rfl S.co S.gen rfl (PySem.W.codeRec_of KX hcd) (hb _ _ _ _ ?_)
  refine wpAny_newFunctionEnv_cells S.kind hkind fun env he s1 x => ?_
  subst he
  refine ⟨lim.keeps x.toInCall.keep, codeAny_func ?_⟩
  obtain ⟨t, ht, hq⟩ := hbody A outer s H vs Q E (hr.deeper _) hsp
  have I : Inv (cxOf CX P w K mg base N qual scope f cdv A outer s H E) [] (start N vs) H s1 := inv_start S hr.hd e0 hl r x
  refine wpAny_mono (ht [] s1 (start N vs) H _ I hq) (fun fl s' hs => ?_) fun e s' hs => hs
  have fin : ∀ {σ' : St} {H' : Hp} {v : V} {u : Value}, Inv (cxOf CX P w K mg base N qual scope f cdv A outer s H E) [] σ' H' s' → RelV v u → Q v H' → CE outer P w H s Q u s' :=
    fun {σ' H' v u} J rv q => ⟨v, H', J.os, J.bare, J.base, J.hok, rv, q⟩
  cases fl with
  | ret u =>
    obtain ⟨v, σ', H', J, rv, q⟩ := hs
    exact fin J rv q
  | next =>
    obtain ⟨σ', H', J, q⟩ := hs
    exact fin (v := V.non) (u := Value.none) J rfl q
  | brk =>
    obtain ⟨_, _, _, q⟩ := hs
    exact False.elim q
  | cont =>
    obtain ⟨_, _, _, q⟩ := hs
    exact False.elim q
section
variable {X : Cx} {x : Str} {p pos : Pos} {e : Expr} {es : List Expr} {t : TA} {id T : String} {r : List V → Hp → VK → Prop}
def tCB (r : List V → Hp → VK → Prop) (t : TA) : TE := fun σ H Q => t σ H fun vs H1 => r vs H1 Q
theorem pe_callB (hc : CallR X (.builtin id) r) (hg : Gl X x) (hm : X.mg x = none) (hv : bootBuiltins x = some (.builtin id)) (ha : PA X (e :: es) t) (hn : x ≠ "__name__" := by decide) (hdb : (x == ("__debug__" : Str)) = false := by decide)
    (he : starEach (e :: es) X.env = (false, eval e X.env) :: starEach es X.env := by rfl) (hpl : (backTo pos (starEach es X.env)).any (·.1) = false := by rfl) : PE X (.Call (.Name x p) (e :: es) [] pos) (tCB r t) := by
  intro pins s σ H Q I h
  refine wpAny_Call_Name_kw (ld_blt I hg hm hv ?_ hn hdb)
  exact PyProof.Rows.callWith_builtin1 (thn (ha pos pins s σ H _ I h) fun us s1 ⟨vs, H1, I1, r1, q1⟩ => hc pins s1 σ H1 vs us Q I1 r1 q1) he hpl
theorem pe_callTy (hc : CallR X (.type T) r) (hg : Gl X x) (hm : X.mg x = none) (hv : bootBuiltins x = some (.type T)) (ha : PA X (e :: es) t) (hn : x ≠ "__name__" := by decide) (hdb : (x == ("__debug__" : Str)) = false := by decide)
    (he : starEach (e :: es) X.env = (false, eval e X.env) :: starEach es X.env := by rfl) (hpl : (backTo pos (starEach es X.env)).any (·.1) = false := by rfl) : PE X (.Call (.Name x p) (e :: es) [] pos) (tCB r t) := by
  intro pins s σ H Q I h
  refine wpAny_Call_Name_kw (ld_blt I hg hm hv ?_ hn hdb)
  exact PyProof.Rows.callWith_type1 (thn (ha pos pins s σ H _ I h) fun us s1 ⟨vs, H1, I1, r1, q1⟩ => hc pins s1 σ H1 vs us Q I1 r1 q1) he hpl
end
end L2
namespace HT
open PySem PyProof.Rows
section
open PySem.SeqAt
open PySem.AutoSeq1 (wpAny_loadPart')
open PySem.MeetsSeq PySem.MeetsSeq2 PySem.MeetsSeq3
end
section
variable {prog : Program} {w : World} {A : Around} {E : Value → Shared → Prop} {s : Shared}
def sIx (n d : Nat) : Option Int → Nat
  | none => d
  | some v => if v < 0 then (v + (n : Int)).toNat else min v.toNat n
theorem sIx_nat (n d k : Nat) : sIx n d (some (k : Int)) = min k n := by
  show (if (k : Int) < 0 then ((k : Int) + (n : Int)).toNat else min (k : Int).toNat n) = min k n
  rw [if_neg (by omega), Int.toNat_natCast]
theorem sIx_le (n d : Nat) (hd : d ≤ n) (o : Option Int) : sIx n d o ≤ n := by
  cases o with
  | none => exact hd
  | some v =>
    show (if v < 0 then (v + (n : Int)).toNat else min v.toNat n) ≤ n
    by_cases hv : v < 0
    · rw [if_pos hv]; omega
    · rw [if_neg hv]; exact Nat.min_le_right _ _
theorem clip_eq (v : Int) (n d : Nat) : (if v < 0 then max (v + (n : Int)) 0 else min v (n : Int)) = ((sIx n d (some v) : Nat) : Int) := by
  show (if v < 0 then max (v + (n : Int)) 0 else min v (n : Int)) = (((if v < 0 then (v + (n : Int)).toNat else min v.toNat n) : Nat) : Int)
  by_cases hv : v < 0
  · simp only [if_pos hv]; omega
  · simp only [if_neg hv]; omega
theorem adjust_gen (lo hi : Option Int) (n : Nat) : Builtin.Slice.sliceAdjust lo hi 1 (n : Int) = (((sIx n 0 lo : Nat) : Int), ((sIx n n hi : Nat) : Int)) := by
  have h1 : ¬ ((1 : Int) < 0) := by omega
  unfold Builtin.Slice.sliceAdjust
  simp only [h1, if_false]
  refine Prod.ext ?_ ?_
  · cases lo with
    | none => rfl
    | some v => exact clip_eq v n 0
  · cases hi with
    | none => rfl
    | some v => exact clip_eq v n n
theorem places_gen (i j : Nat) : Builtin.Slice.slicePlaces (i : Int) (j : Int) 1 = j - i := by
  unfold Builtin.Slice.slicePlaces
  have h1 : (1 : Int) > 0 := by omega
  simp only [h1, if_true, Int.ediv_one]
  split <;> omega
theorem slicePart_ {v : Value} {o : Option Int} {Q : Option Int → Shared → Prop} (p : IsPart v o) (h : Q o s) : wpAny (model prog w) A (Builtin.Slice.slicePartIndex v) Q E s := by
  cases p with
  | none => exact slicePart_none h
  | int i t => exact slicePart_int h
theorem sliceApplied_gen {sl : Addr} {vl vu : Value} {lo hi : Option Int} {n : Nat} {Q : Int × Int × Nat → Shared → Prop} (hs : s.heap.IsSliceOf sl vl vu .none) (pl : IsPart vl lo) (pu : IsPart vu hi)
    (h : Q (((sIx n 0 lo : Nat) : Int), 1, sIx n n hi - sIx n 0 lo) s) : wpAny (model prog w) A (Builtin.Slice.sliceApplied (.ref sl) (pure (n : Int))) Q E s := by
  obtain ⟨os, hos, hcs, hds⟩ := id hs
  unfold Builtin.Slice.sliceApplied Builtin.Slice.sliceFields
  refine wpAny_bind (wpAny_bind (wpAny_field hos hds (x := vl) rfl (wpAny_bind (wpAny_field hos hds (x := vu) rfl (wpAny_bind (wpAny_field hos hds (x := .none) rfl (wpAny_pure ?_)))))))
  refine wpAny_bind (slicePart_none ?_)
  show wpAny _ _ (if ((1 : Int) == 0) = true then _ else _) _ _ s
  rw [if_neg (by decide)]
  refine wpAny_bind (slicePart_ pl (wpAny_bind (slicePart_ pu (wpAny_bind (wpAny_pure ?_)))))
  show wpAny _ _ (match Builtin.Slice.sliceAdjust lo hi 1 (n : Int) with | (lo, hi) => pure (lo, (1 : Int), Builtin.Slice.slicePlaces lo hi 1)) _ _ s
  rw [adjust_gen lo hi n]
  show wpAny _ _ (pure (((sIx n 0 lo : Nat) : Int), (1 : Int), Builtin.Slice.slicePlaces ((sIx n 0 lo : Nat) : Int) ((sIx n n hi : Nat) : Int) 1)) _ _ s
  rw [places_gen]
  exact wpAny_pure h
theorem pick_gen (xs : Array Value) (i k : Nat) : ((List.range k).filterMap fun (m : Nat) => xs[((i : Int) + (m : Int) * 1).toNat]?).toArray = ((xs.toList.drop i).take k).toArray := by
  have e : (fun (m : Nat) => xs[((i : Int) + (m : Int) * 1).toNat]?) = fun m => xs[i + m]? := by
    funext m
    have : ((i : Int) + (m : Int) * 1).toNat = i + m := by omega
    rw [this]
  rw [e]
  have := pick_run xs i k
  rw [List.filterMap_map] at this
  have e2 : ((fun x => xs[x]?) ∘ fun x => i + x) = fun m => xs[i + m]? := rfl
  rw [e2] at this
  rw [this]
theorem getItem_tuple_cut {t sl : Addr} {items : Array Value} {vl vu : Value} {lo hi : Option Int} {Q : Value → Shared → Prop} (ht : IsTup s.heap t items) (hs : s.heap.IsSliceOf sl vl vu .none) (pl : IsPart vl lo) (pu : IsPart vu hi)
    (hw : ¬ (sIx items.size 0 lo = 0 ∧ sIx items.size items.size hi = items.size))
    (h : Q (.ref s.heap.objs.size) { s with heap := s.heap.push { cls := .type "tuple", data := .seq ((items.toList.drop (sIx items.size 0 lo)).take (sIx items.size items.size hi - sIx items.size 0 lo)).toArray } })
    (hsz : items.size ≤ sizeLine) : wpAny (model prog w) A (getItem (.ref t) (.ref sl)) Q E s := by
  have htake : sizeOk (.seq ((items.toList.drop (sIx items.size 0 lo)).take (sIx items.size items.size hi - sIx items.size 0 lo)).toArray) := by
    show ((items.toList.drop (sIx items.size 0 lo)).take (sIx items.size items.size hi - sIx items.size 0 lo)).toArray.size ≤ sizeLine
    rw [List.size_toArray, List.length_take, List.length_drop, Array.length_toList]
    omega
  have hj : sIx items.size items.size hi ≤ items.size := sIx_le _ _ (Nat.le_refl _) hi
  obtain ⟨os, hos, hcs, hds⟩ := id hs
  have hTs : s.TypeIs (.ref sl) "slice" := ⟨os, hos, hcs⟩
  unfold getItem
  try with_reducible refine wpAny_holding ?_
  first | refine wpAny_bind (wpAny_pure ?_) | skip
  refine wpAny_bind (wpAny_sequenceKey ht.typeIs (by decide) ?_)
  refine wpAny_bind (wpAny_callSpecial?_slot (name := Str.ofString "__getitem__") ht.typeIs PyProof.Rows.slot_tuple_getitem
    (wpAny_call_entry PyProof.Rows.slot_tuple_getitem ht.typeIs entry_tuple_getitem ?_ (args_tuple_getitem _ _)))
  show wpAny _ _ (Builtin.Tuple.tupleItemsOf (.ref t) >>= _) _ _ s
  refine wpAny_bind (tupleItemsOf_ ht ?_)
  refine wpAny_bind (wpAny_typeOf hTs ?_)
  rw [if_pos (by decide)]
  refine wpAny_bind (sliceApplied_gen hs pl pu ?_)
  have hno : ¬ ((((sIx items.size 0 lo : Nat) : Int) == 0 && (1 : Int) == 1 && (sIx items.size items.size hi - sIx items.size 0 lo) == items.size) = true) := by
    intro q
    rw [Bool.and_eq_true, Bool.and_eq_true] at q
    have q1 : ((sIx items.size 0 lo : Nat) : Int) = 0 := eq_of_beq q.1.1
    have q2 : sIx items.size items.size hi - sIx items.size 0 lo = items.size := eq_of_beq q.2
    exact hw ⟨by omega, by omega⟩
  show wpAny _ _ (if (((sIx items.size 0 lo : Nat) : Int) == 0 && (1 : Int) == 1 && (sIx items.size items.size hi - sIx items.size 0 lo) == items.size) = true then _ else _) _ _ s
  rw [if_neg hno, pick_gen]
  first
    | exact wpAny_bind (m := Builtin.Tuple.tupleExact _) (wpAny_newObj_type (wpAny_pure ⟨_, rfl, wpAny_pure h⟩) htake)
    | exact wpAny_bind (m := Builtin.Tuple.tupleExact _) (wpAny_newObj_type (wpAny_bind (wpAny_pure (wpAny_pure ⟨_, rfl, wpAny_pure h⟩))) htake)
    | exact wpAny_bind (wpAny_bind (m := Builtin.Tuple.tupleExact _) (wpAny_newObj_type (wpAny_pure (wpAny_pure ⟨_, rfl, wpAny_pure h⟩)) htake))
    | exact wpAny_bind (wpAny_bind (m := Builtin.Tuple.tupleExact _) (wpAny_newObj_type (wpAny_pure ⟨_, rfl, wpAny_pure h⟩) htake))
end
end HT
namespace L2
open PySem PySem.Spec PyProof.Rows
abbrev TO := St → Hp → (Option Int → Hp → Prop) → Prop
def PO (X : Cx) (e : Option Expr) (t : TO) : Prop :=
  ∀ (pins : List (Addr × Obj)) (s : Shared) (σ : St) (H : Hp) (Q : Option Int → Hp → Prop), Inv X pins σ H s → t σ H Q →
    wpAny (model X.prog X.w) X.A (evalPart e X.env) (fun u s' => ∃ o H', Inv X pins σ H' s' ∧ IsPart u o ∧ Q o H') X.xe s
def tNoPart : TO := fun _ H Q => Q none H
def tPart (t : TE) : TO := fun σ H Q => t σ H fun x H1 => ∃ i, x = .int i ∧ Q (some i) H1
section
variable {X : Cx} {e : Expr} {te : TE} {lo hi : Option Expr} {tl th : TO} {pos p2 : Pos}
theorem po_none : PO X none tNoPart := by
  intro pins s σ H Q I h
  rw [evalPart_none]
  exact wpAny_pure ⟨none, H, I, .none, h⟩
theorem po_some (h : PE X e te) : PO X (some e) (tPart te) := by
  intro pins s σ H Q I hw
  rw [evalPart_some]
  refine thn (h pins s σ H _ I hw) fun u s1 ⟨x, H1, I1, r1, q1⟩ => ?_
  obtain ⟨i, rfl, q⟩ := q1
  obtain ⟨t, rfl⟩ := r1
  exact ⟨some i, H1, I1, .int i t, q⟩
def SlR (X : Cx) (r : V → Option Int → Option Int → Hp → VK → Prop) : Prop :=
  ∀ (pins : List (Addr × Obj)) (s : Shared) (σ : St) (H : Hp) (x : V) (v vl vu : Value) (lo hi : Option Int) (sl : Addr) (Q : VK), Inv X pins σ H s → RelV x v → s.heap.IsSliceOf sl vl vu .none → IsPart vl lo → IsPart vu hi → r x lo hi H Q →
    ∃ T id, typeLookup (.type T) "__getitem__" = pure (some (.builtin id)) ∧ s.TypeIs v T ∧ wpAny (model X.prog X.w) X.A (getItem v (.ref sl)) (EP X pins σ Q) X.xe s
theorem SlR.or {r r' : V → Option Int → Option Int → Hp → VK → Prop} (h : SlR X r) (h' : SlR X r') : SlR X (fun x lo hi H Q => r x lo hi H Q ∨ r' x lo hi H Q) := by
  intro pins s σ H x v vl vu lo hi sl Q I rx hs pl pu q
  rcases q with q | q
  · exact h pins s σ H x v vl vu lo hi sl Q I rx hs pl pu q
  · exact h' pins s σ H x v vl vu lo hi sl Q I rx hs pl pu q
def tSl (r : V → Option Int → Option Int → Hp → VK → Prop) (te : TE) (tl th : TO) : TE := fun σ H Q => te σ H fun x H1 => tl σ H1 fun l H2 => th σ H2 fun u H3 => r x l u H3 Q
theorem pe_slice {r : V → Option Int → Option Int → Hp → VK → Prop} (hr : SlR X r) (he : PE X e te) (hl : PO X lo tl) (hu : PO X hi th) : PE X (.Subscript e (.Slice lo hi none p2) pos) (tSl r te tl th) := by
  intro pins s σ H Q I h
  refine Subscript_ (thn (he pins s σ H _ I h) fun v s1 ⟨x, H1, I1, r1, q1⟩ => ?_)
  refine wpAny_Slice (thn (hl pins s1 σ H1 _ I1 q1) fun vl s2 ⟨l, H2, I2, pl, q2⟩ => thn (hu pins s2 σ H2 _ I2 q2) fun vu s3 ⟨u, H3, I3, pu, q3⟩ => ?_)
  rw [evalPart_none]
  refine wpAny_pure ?_
  have I4 : Inv X pins σ H3 { s3 with heap := s3.heap.push { cls := .type "slice", data := .fields #[vl, vu, .none] } } := I3.kept (t' := s3.toks) fun b ob q => Heap.get?_push_of_some _ q
  obtain ⟨T, id, hT, ht, hg⟩ := hr pins { s3 with heap := s3.heap.push { cls := .type "slice", data := .fields #[vl, vu, .none] } } σ H3 x v vl vu l u s3.heap.objs.size Q I4 r1 (Heap.IsSliceOf.new ..) pl pu q3
  show wpAny (model X.prog X.w) X.A (subscriptTail e (.Slice lo hi none p2) v (.ref s3.heap.objs.size)) (EP X pins σ Q) X.xe { s3 with heap := s3.heap.push { cls := .type "slice", data := .fields #[vl, vu, .none] } }
  exact tail_any (ops := [.ref s3.heap.objs.size, v]) ht hT hg (by with_unfolding_all rfl)
def cutV (xs : List V) (lo hi : Option Int) : List V := (xs.drop (HT.sIx xs.length 0 lo)).take (HT.sIx xs.length xs.length hi - HT.sIx xs.length 0 lo)
theorem cutV_length (xs : List V) (lo hi : Option Int) : (cutV xs lo hi).length ≤ xs.length := by
  unfold cutV
  rw [List.length_take, List.length_drop]
  omega
def rSlT (K : PySem.W.Frag) : V → Option Int → Option Int → Hp → VK → Prop := fun x lo hi H Q => ∃ a xs, x = .ref a ∧ SqT K H a xs ∧
  ¬ (HT.sIx xs.length 0 lo = 0 ∧ HT.sIx xs.length xs.length hi = xs.length) ∧ ∀ p, H p = none → Q (.ref p) (upd H p (.tup (cutV xs lo hi)))
theorem sl_tup : SlR X (rSlT X.K) := by
  intro pins s σ H x v vl vu lo hi sl Q I rx hs pl pu h
  obtain ⟨a, xs, rfl, hx, hw, q⟩ := h
  cases rx
  obtain ⟨its, r, ht, hz⟩ := I.tuple hx
  have hlen : its.toArray.size = xs.length := by rw [List.size_toArray]; exact r.length.symm
  refine ⟨"tuple", _, PyProof.Rows.slot_tuple_getitem.lookup, ht.typeIs, ?_⟩
  refine HT.getItem_tuple_cut ht hs pl pu (by rw [hlen]; exact hw) ?_ (by rw [hlen]; exact hz)
  rw [hlen]
  refine ⟨.ref s.heap.objs.size, _, I.laid (t' := s.toks) (o := .tup (cutV xs lo hi)) (fun b ob q => Heap.get?_push_of_some _ q) (Nat.le_refl _) ?_, rfl, q _ (I.hok.fresh (Nat.le_refl _))⟩
  exact ⟨Nat.le_trans (cutV_length xs lo hi) hz, _, (r.drop (HT.sIx xs.length 0 lo)).take (HT.sIx xs.length xs.length hi - HT.sIx xs.length 0 lo), IsTup.new _ _⟩
end
def ixN (n : Nat) (i : Int) : Option Nat := if 0 ≤ i then (if i < n then some i.toNat else none) else if -(n : Int) ≤ i then some (i + n).toNat else none
def atI {α : Type} (xs : List α) (i : Int) : Option α := (ixN xs.length i).bind fun j => xs[j]?
theorem ixN_seq {n : Nat} {i : Int} {j : Nat} (h : ixN n i = some j) : seqIndex? i n = some j ∧ j < n ∧ -(n : Int) ≤ i ∧ i < n := by
  unfold ixN at h
  by_cases h0 : 0 ≤ i
  · rw [if_pos h0] at h
    by_cases h1 : i < n
    · rw [if_pos h1] at h
      have e : i.toNat = j := Option.some.inj h
      exact ⟨by rw [seqIndex_of h0 h1, e], by omega, by omega, h1⟩
    · rw [if_neg h1] at h; cases h
  · rw [if_neg h0] at h
    by_cases h1 : -(n : Int) ≤ i
    · rw [if_pos h1] at h
      have e : (i + n).toNat = j := Option.some.inj h
      exact ⟨by rw [seqIndex_neg (by omega) h1, e], by omega, h1, by omega⟩
    · rw [if_neg h1] at h; cases h
theorem atI_get {α : Type} {xs : List α} {i : Int} {v : α} (h : atI xs i = some v) : ∃ j, seqIndex? i xs.length = some j ∧ xs[j]? = some v ∧ j < xs.length ∧ -(xs.length : Int) ≤ i ∧ i < xs.length := by
  unfold atI at h
  cases e : ixN xs.length i with
  | none => rw [e] at h; cases h
  | some j =>
    rw [e] at h
    obtain ⟨h1, h2, h3, h4⟩ := ixN_seq e
    exact ⟨j, h1, h, h2, h3, h4⟩
theorem atI_nat {α : Type} {xs : List α} {j : Nat} {v : α} (h : xs[j]? = some v) : atI xs (j : Int) = some v := by
  have hj : j < xs.length := (List.getElem?_eq_some_iff.mp h).1
  have e : ixN xs.length (j : Int) = some j := by
    unfold ixN
    rw [if_pos (by omega), if_pos (by omega)]; simp
  unfold atI; rw [e]; exact h
def PlainIx (b : Expr) : Prop := ∀ o i, subscripted b false o i = operate [o, i] (getItem o i)
def IxR (X : Cx) (r : R2) : Prop :=
  ∀ (value slice : Expr) (pins : List (Addr × Obj)) (s : Shared) (σ : St) (H : Hp) (x y : V) (v u : Value) (Q : VK), Inv X pins σ H s → RelV x v → RelV y u → r x y H Q →
    subscripted slice false v u = operate [v, u] (getItem v u) → wpAny (model X.prog X.w) X.A (subscriptTail value slice v u) (EP X pins σ Q) X.xe s
def MtR (X : Cx) (id : String) (r : V → List V → Hp → VK → Prop) : Prop :=
  ∀ (pins : List (Addr × Obj)) (s : Shared) (σ : St) (H : Hp) (x : V) (xs : List V) (v : Value) (us : List Value) (Q : VK), Inv X pins σ H s → RelV x v → Vals xs us → r x xs H Q →
    wpAny (model X.prog X.w) X.A (call (.builtin id) (v :: us)) (EP X pins σ Q) X.xe s
section
variable {X : Cx} {a b : Expr} {ta tb : TE} {pos : Pos}
theorem IxR.or {r r' : R2} (h : IxR X r) (h' : IxR X r') : IxR X (fun x y H Q => r x y H Q ∨ r' x y H Q) := by
  intro value slice pins s σ H x y v u Q I rx ry q hs
  rcases q with q | q
  · exact h value slice pins s σ H x y v u Q I rx ry q hs
  · exact h' value slice pins s σ H x y v u Q I rx ry q hs
theorem MtR.or {id : String} {r r' : V → List V → Hp → VK → Prop} (h : MtR X id r) (h' : MtR X id r') : MtR X id (fun x xs H Q => r x xs H Q ∨ r' x xs H Q) := by
  intro pins s σ H x xs v us Q I rx rs q
  rcases q with q | q
  · exact h pins s σ H x xs v us Q I rx rs q
  · exact h' pins s σ H x xs v us Q I rx rs q
theorem pe_ix {r : R2} (hr : IxR X r) (ha : PE X a ta) (hb : PE X b tb) (hs : PlainIx b) : PE X (.Subscript a b pos) (tOp r ta tb) := by
  intro pins s σ H Q I h
  exact Subscript_ (binT ha hb I h fun v u s2 x y H2 I2 rx ry q => hr a b pins s2 σ H2 x y v u Q I2 rx ry q (hs _ _))
def rIxL (K : PySem.W.Frag) : R2 := fun x y H Q => ∃ p xs i v, x = .ref p ∧ y = .int i ∧ SqL K H p xs ∧ atI xs i = some v ∧ Q v H
def rIxT (K : PySem.W.Frag) : R2 := fun x y H Q => ∃ p xs i v, x = .ref p ∧ y = .int i ∧ SqT K H p xs ∧ atI xs i = some v ∧ Q v H
def rIxS : R2 := fun x y H Q => ∃ z i c, x = .str z ∧ y = .int i ∧ z.length ≤ sizeLine ∧ atI z.cps.toList i = some c ∧ Q (.str ⟨#[c]⟩) H
theorem ix_list : IxR X (rIxL X.K) := by
  intro value slice pins s σ H x y v u Q I rx ry h hs
  obtain ⟨p, xs, i, z, rfl, rfl, hq, he, q⟩ := h
  cases rx
  obtain ⟨t, rfl⟩ := ry
  obtain ⟨its, r, pl, hz⟩ := I.list hq
  obtain ⟨j, h1, h2, h3, h4, h5⟩ := atI_get he
  obtain ⟨w, ew, rw'⟩ := r.get h2
  have hl := r.length
  have hn := line63
  have fin : EP X pins σ Q w s := ⟨z, H, I, rw', q⟩
  by_cases h0 : 0 ≤ i
  · have hj : i.toNat = j := by
      rw [seqIndex_of h0 h5] at h1
      exact Option.some.inj h1
    exact item_listR pl.isList h0 (by omega) (by rw [hj]; simpa using ew) fin hs
  · have hj : (i + (its.toArray.size : Int)).toNat = j := by
      rw [seqIndex_neg (by omega) h4] at h1
      rw [List.size_toArray, ← hl]
      exact Option.some.inj h1
    exact subscriptTail_builtinR (x := w) pl.isList.typeIs slot_list_getitem.lookup
      (wpAny_getItem_list_neg (Q := fun r s' => r = w ∧ EP X pins σ Q r s') pl.isList (by omega) (by rw [List.size_toArray] <;> omega) (by omega) (by rw [hj]; simpa using ew) ⟨rfl, fin⟩) hs
theorem ix_tup : IxR X (rIxT X.K) := by
  intro value slice pins s σ H x y v u Q I rx ry h hs
  obtain ⟨p, xs, i, z, rfl, rfl, hq, he, q⟩ := h
  cases rx
  obtain ⟨t, rfl⟩ := ry
  obtain ⟨its, r, pl, hz⟩ := I.tuple hq
  obtain ⟨j, h1, h2, h3, h4, h5⟩ := atI_get he
  obtain ⟨w, ew, rw'⟩ := r.get h2
  have hl := r.length
  have hn := line63
  have fin : EP X pins σ Q w s := ⟨z, H, I, rw', q⟩
  exact subscriptTail_builtinR (x := w) pl.typeIs slot_tuple_getitem.lookup
    (getItem_tuple (j := j) (Q := fun r s' => r = w ∧ EP X pins σ Q r s') pl (by omega) (by omega) (by rw [List.size_toArray, ← hl]; exact h1) (by simpa using ew) ⟨rfl, fin⟩) hs
theorem ix_str : IxR X rIxS := by
  intro value slice pins s σ H x y v u Q I rx ry h hs
  obtain ⟨z, i, c, rfl, rfl, hz, he, q⟩ := h
  obtain ⟨t, rfl⟩ := rx
  obtain ⟨t', rfl⟩ := ry
  obtain ⟨j, h1, h2, h3, h4, h5⟩ := atI_get he
  have hl : z.cps.toList.length = z.length := by simp [Str.length]
  rw [hl] at h1 h4 h5
  have hn := line63
  exact tail_any (typeIs_str s z t) slot_str_getitem.lookup (getItem_str (c := c) (by
    have e1 : decide (i < -(2 ^ 63 : Int)) = false := decide_eq_false (by omega)
    have e2 : decide (i ≥ 2 ^ 63) = false := decide_eq_false (by omega)
    rw [e1, e2, Bool.or_false]) (by rw [h1]; simpa using h2) ⟨.str ⟨#[c]⟩, H, I.tok _, ⟨_, rfl⟩, q⟩) hs
theorem Inv.lst {pins : List (Addr × Obj)} {σ : St} {H : Hp} {s : Shared} {p : Addr} {xs : List V} (I : Inv X pins σ H s) (h : H p = some (.lst xs)) :
    ∃ (its : List Value) (n : Nat), Vals xs its ∧ s.heap.get? p = some { cls := .type "list", data := .seq its.toArray n } ∧ xs.length ≤ sizeLine := by
  obtain ⟨z, its, n, r, e⟩ := I.hok p _ h
  exact ⟨its, n, r, e, z⟩
theorem slice_bounds (lo hi : Option Int) (n : Nat) : (sliceBounds lo hi none n).1 = ((HT.sIx n 0 lo : Nat) : Int) ∧ (sliceBounds lo hi none n).2.1 = ((HT.sIx n n hi : Nat) : Int) ∧ (sliceBounds lo hi none n).2.2 = 1 := by
  refine ⟨?_, ?_, rfl⟩
  · cases lo with
    | none => simp [sliceBounds, HT.sIx]
    | some i =>
      simp only [sliceBounds, HT.sIx, Option.getD_none, show (1 : Int) > 0 by decide, if_true]
      by_cases h : i < 0
      · simp only [h, if_true] <;> omega
      · simp only [h, if_false] <;> omega
  · cases hi with
    | none => simp [sliceBounds, HT.sIx]
    | some i =>
      simp only [sliceBounds, HT.sIx, Option.getD_none, show (1 : Int) > 0 by decide, if_true]
      by_cases h : i < 0
      · simp only [h, if_true] <;> omega
      · simp only [h, if_false] <;> omega
theorem slicePick_cut (its : List Value) (lo hi : Option Int) : slicePick its.toArray lo hi none = ((its.drop (HT.sIx its.length 0 lo)).take (HT.sIx its.length its.length hi - HT.sIx its.length 0 lo)).toArray := by
  obtain ⟨h1, h2, h3⟩ := slice_bounds lo hi its.toArray.size
  unfold slicePick
  rw [h1, h2, h3]
  simp only [sliceRange_one, pick_run, List.size_toArray] <;> rfl
def rSlL (K : PySem.W.Frag) : V → Option Int → Option Int → Hp → VK → Prop := fun x lo hi H Q => ∃ a xs, x = .ref a ∧ SqL K H a xs ∧ ∀ p, H p = none → Q (.ref p) (upd H p (.lst (cutV xs lo hi)))
theorem sl_list : SlR X (rSlL X.K) := by
  intro pins s σ H x v vl vu lo hi sl Q I rx hs pl pu h
  obtain ⟨a, xs, rfl, hx, q⟩ := h
  cases rx
  obtain ⟨its, r, ht, hz⟩ := I.list hx
  have hlen := r.length
  refine ⟨"list", _, slot_list_getitem.lookup, ht.isList.typeIs, ?_⟩
  refine wpAny_getItem_list_slice ht.isList hs pl pu .none (by simp) ?_ (by rw [List.size_toArray] <;> omega)
  rw [slicePick_cut, ← hlen]
  refine ⟨.ref s.heap.objs.size, _, I.laid (t' := s.toks) (o := .lst (cutV xs lo hi)) (fun b ob q => Heap.get?_push_of_some _ q) (Nat.le_refl _) ?_, rfl, q _ (I.hok.fresh (Nat.le_refl _))⟩
  exact ⟨Nat.le_trans (cutV_length xs lo hi) hz, _, 0, (r.drop (HT.sIx xs.length 0 lo)).take (HT.sIx xs.length xs.length hi - HT.sIx xs.length 0 lo), Heap.get?_push_size _ rfl⟩
def flatV : V → Bool
  | .non => true
  | .bl _ => true
  | .int _ => true
  | .str _ => true
  | _ => false
def eqV : V → V → Bool
  | .non, .non => true
  | .bl a, .bl b => a == b
  | .bl a, .int b => (if a then 1 else 0) == b
  | .int a, .bl b => a == (if b then 1 else 0)
  | .int a, .int b => a == b
  | .str a, .str b => a == b
  | _, _ => false
theorem eqAt_V {A : Around} {s : Shared} {y x : V} {u v : Value} (ry : RelV y u) (rx : RelV x v) (fy : flatV y = true) (fx : flatV x = true) : SeqAt.EqAt A s u v (eqV y x) := by
  cases y with
  | non =>
    cases ry
    cases x with
    | non => cases rx; exact SeqAt.EqAt.same _
    | bl b => cases rx; exact SeqAt.EqAt.none_bool b
    | int b => obtain ⟨t, rfl⟩ := rx; exact SeqAt.EqAt.none_int b t
    | str b => obtain ⟨t, rfl⟩ := rx; exact SeqAt.EqAt.none_str b t
    | _ => exact absurd (show false = true from fx) Bool.false_ne_true
  | bl a =>
    cases ry
    cases x with
    | non => cases rx; exact SeqAt.EqAt.bool_none a
    | bl b => cases rx; exact SeqAt.EqAt.bool_bool a b
    | int b => obtain ⟨t, rfl⟩ := rx; exact SeqAt.EqAt.bool_int a b t
    | str b => obtain ⟨t, rfl⟩ := rx; exact SeqAt.EqAt.bool_str a b t
    | _ => exact absurd (show false = true from fx) Bool.false_ne_true
  | int a =>
    obtain ⟨t', rfl⟩ := ry
    cases x with
    | non => cases rx; exact SeqAt.EqAt.int_none a t'
    | bl b => cases rx; exact SeqAt.EqAt.int_bool a t' b
    | int b => obtain ⟨t, rfl⟩ := rx; exact SeqAt.EqAt.int_int a t' b t
    | str b => obtain ⟨t, rfl⟩ := rx; exact SeqAt.EqAt.int_str a t' b t
    | _ => exact absurd (show false = true from fx) Bool.false_ne_true
  | str a =>
    obtain ⟨t', rfl⟩ := ry
    cases x with
    | non => cases rx; exact SeqAt.EqAt.str_none a t'
    | bl b => cases rx; exact SeqAt.EqAt.str_bool a t' b
    | int b => obtain ⟨t, rfl⟩ := rx; exact SeqAt.EqAt.str_int a t' b t
    | str b => obtain ⟨t, rfl⟩ := rx; exact SeqAt.EqAt.str_str a t' b t
    | _ => exact absurd (show false = true from fx) Bool.false_ne_true
  | _ => exact absurd (show false = true from fy) Bool.false_ne_true
def eqU (x : V) (u : Value) : Bool := match u with
  | .none => eqV .non x
  | .bool b => eqV (.bl b) x
  | .int i _ => eqV (.int i) x
  | .str z _ => eqV (.str z) x
  | _ => false
theorem eqU_of {x y : V} {u : Value} (r : RelV y u) (f : flatV y = true) : eqU x u = eqV y x := by
  cases y with
  | non => cases r; rfl
  | bl b => cases r; rfl
  | int i => obtain ⟨t, rfl⟩ := r; rfl
  | str z => obtain ⟨t, rfl⟩ := r; rfl
  | _ => exact absurd (show false = true from f) Bool.false_ne_true
theorem any_eqU {x : V} : ∀ {xs : List V} {us : List Value}, Vals xs us → xs.all flatV = true → us.any (eqU x) = xs.any fun y => eqV y x
  | _, _, .nil, _ => rfl
  | y :: xs, u :: us, .cons r t, f => by
    rw [List.all_cons, Bool.and_eq_true] at f
    rw [List.any_cons, List.any_cons, eqU_of r f.1, any_eqU t f.2]
theorem mem_eqAt {A : Around} {s : Shared} {x : V} {v : Value} (rx : RelV x v) (fx : flatV x = true) : ∀ {xs : List V} {us : List Value}, Vals xs us → xs.all flatV = true → ∀ u ∈ us, SeqAt.EqAt A s u v (eqU x u)
  | _, _, .nil, _ => fun u hu => by cases hu
  | y :: xs, u :: us, .cons r t, f => fun u' hu => by
    rw [List.all_cons, Bool.and_eq_true] at f
    rcases List.mem_cons.mp hu with rfl | hu
    · rw [eqU_of r f.1]; exact eqAt_V r rx f.1 fx
    · exact mem_eqAt rx fx t f.2 u' hu
def inV (x : V) (xs : List V) : Bool := xs.any fun y => eqV y x
def rIn (K : PySem.W.Frag) (neg : Bool) : R2 := fun x y H Q => ∃ p xs, y = .ref p ∧ (SqL K H p xs ∨ SqT K H p xs) ∧ flatV x = true ∧ xs.all flatV = true ∧ Q (.bl (if neg then !inV x xs else inV x xs)) H
theorem op_in_seq : OpR X (compareOp .In) (rIn X.K false) := by
  intro pins s σ H x y v u Q I rx ry h
  obtain ⟨p, xs, rfl, hq, fx, fs, q⟩ := h
  cases ry
  rcases hq with hq | hq
  · obtain ⟨its, r, pl, hz⟩ := I.list hq
    refine SeqAt.in_listAt (eqU x) pl.isList (fun w hw => mem_eqAt rx fx r fs w (by simpa using hw)) ⟨.bl _, H, I, rfl, ?_⟩
    rw [show its.toArray.any (eqU x) = its.any (eqU x) by simp, any_eqU r fs]
    exact q
  · obtain ⟨its, r, pl, hz⟩ := I.tuple hq
    refine SeqAt.in_tupleAt (eqU x) pl (fun w hw => mem_eqAt rx fx r fs w (by simpa using hw)) ⟨.bl _, H, I, rfl, ?_⟩
    rw [show its.toArray.any (eqU x) = its.any (eqU x) by simp, any_eqU r fs]
    exact q
theorem CallR.or {f : Value} {r r' : List V → Hp → VK → Prop} (h : CallR X f r) (h' : CallR X f r') : CallR X f (fun xs H Q => r xs H Q ∨ r' xs H Q) := by
  intro pins s σ H xs us Q I rs q
  rcases q with q | q
  · exact h pins s σ H xs us Q I rs q
  · exact h' pins s σ H xs us Q I rs q
theorem call_tuple_of : CallR X (.type "tuple") (fun xs H Q => ∃ p ys, xs = [.ref p] ∧ ((SqL X.K H p ys ∧ ∀ l, H l = none → Q (.ref l) (upd H l (.tup ys))) ∨ (SqT X.K H p ys ∧ Q (.ref p) H))) := by
  intro pins s σ H xs us Q I r h
  obtain ⟨p, ys, rfl, h⟩ := h
  obtain ⟨u, rfl, rx⟩ := vals1 r
  cases rx
  rcases h with ⟨hq, q⟩ | ⟨hq, q⟩
  · obtain ⟨its, r', pl, hz⟩ := I.list hq
    have hlen := r'.length
    refine call_tuple_list pl.isList (fun h' kp => ?_) (by simp only [List.size_toArray] <;> omega)
    have I1 : Inv X pins σ H { s with heap := h' } := I.kept (t' := s.toks) kp
    have I2 : Inv X pins σ (upd H h'.objs.size (.tup ys)) { s with heap := h'.push { cls := .type "tuple", data := .seq its.toArray } } :=
      I1.laid (t' := s.toks) (fun b o e => Heap.get?_push_of_some _ e) (Nat.le_refl _) (show ObjOk X.prog X.w _ _ _ (.tup ys) from ⟨hz, its, r', IsTup.new _ _⟩)
    exact ⟨.ref h'.objs.size, _, I2, rfl, q _ (I1.hok.fresh (Nat.le_refl _))⟩
  · obtain ⟨its, r', pl, hz⟩ := I.tuple hq
    exact call_tuple_same pl ⟨.ref p, H, I, rfl, q⟩
def tyV (K : PySem.W.Frag) (T : String) (x : V) (H : Hp) : Prop := match x with
  | .str _ => T = "str"
  | .int _ => T = "int"
  | .ref p => (T = "list" ∧ ∃ xs, SqL K H p xs) ∨ (T = "tuple" ∧ ∃ o, K.lookup p = some o ∧ o.cls = .type "tuple" ∧ o.dict = none) ∨
      (T = "dict" ∧ ((∃ kvs, H p = some (.dK kvs)) ∨ ∃ kvs, H p = some (.dT kvs))) ∨ (T = "set" ∧ ∃ S n, H p = some (.set S n))
  | _ => False
theorem tyV_is {pins : List (Addr × Obj)} {σ : St} {H : Hp} {s : Shared} {T : String} {x : V} {v : Value} (I : Inv X pins σ H s) (r : RelV x v) (ty : tyV X.K T x H) :
    s.TypeIs v T ∧ ∀ a, v = .ref a → ∃ ob, s.heap.get? a = some ob ∧ ob.dict = none := by
  cases x with
  | str z =>
    obtain ⟨t, rfl⟩ := r
    cases (show T = "str" from ty)
    exact ⟨typeIs_str s z t, fun _ e => nomatch e⟩
  | int i =>
    obtain ⟨t, rfl⟩ := r
    cases (show T = "int" from ty)
    exact ⟨typeIs_int s i t, fun _ e => nomatch e⟩
  | ref p =>
    cases r
    rcases ty with ⟨rfl, xs, hq⟩ | ⟨rfl, o, hk, hc, hd⟩ | ⟨rfl, hk⟩ | ⟨rfl, S, n, hk⟩
    · obtain ⟨its, _, pl, _⟩ := I.list hq
      refine ⟨pl.isList.typeIs, fun a e => ?_⟩
      cases e
      obtain ⟨o, n, e, c, hd, _⟩ := pl
      exact ⟨o, e, hd⟩
    · refine ⟨⟨o, I.kIn p o hk, hc⟩, fun a e => ?_⟩
      cases e
      exact ⟨o, I.kIn _ o hk, hd⟩
    · have z : ∃ o, s.heap.get? p = some o ∧ o.ExactDict := by
        rcases hk with ⟨kvs, hk⟩ | ⟨kvs, hk⟩
        · obtain ⟨_, _, _, _, o, _, _, e, ex, _⟩ := I.hok p _ hk
          exact ⟨o, e, ex⟩
        · obtain ⟨_, _, _, _, o, _, _, e, ex, _⟩ := I.hok p _ hk
          exact ⟨o, e, ex⟩
      obtain ⟨o, e, ex⟩ := z
      refine ⟨⟨o, e, ex.1⟩, fun a e2 => ?_⟩
      cases e2
      exact ⟨o, e, ex.2.1⟩
    · obtain ⟨o, _, _, _, e, ex, _⟩ := I.hok p _ hk
      refine ⟨⟨o, e, ex.1⟩, fun a e2 => ?_⟩
      cases e2
      exact ⟨o, e, ex.2.1⟩
  | _ => exact False.elim ty
def tBM (K : PySem.W.Frag) (T : String) (r : V → List V → Hp → VK → Prop) (to : TE) (t : TA) : TE := fun σ H Q => to σ H fun x H1 => tyV K T x H1 ∧ t σ H1 fun xs H2 => r x xs H2 Q
variable {o e : Expr} {es : List Expr} {to : TE} {t : TA} {name : Str} {apos cpos : Pos} {T id : String} {r : V → List V → Hp → VK → Prop}
theorem pe_bm (pa : PlainAttrs T) (slot : Slot T name id) (hty : typeOf (.builtin id) = pure (.type "method_descriptor")) (hm : MtR X id r) (ho : PE X o to) (ha : PA X (e :: es) t)
    (hbase : attributeBase o name X.env (eval o X.env) = eval o X.env := by rfl)
    (hfew : ((backTo cpos (starEach (e :: es) X.env)).all (fun x => !x.1) && (backToKw cpos (keywordEach [] X.env)).all (fun x => x.1.isSome)
      && decide ((e :: es).length + ([] : List Keyword).length + (if ([] : List Keyword).isEmpty then 0 else 1) < 30)) = true := by rfl)
    (hline : (apos.endLine == cpos.line) = true := by rfl) (hs : starEach (e :: es) X.env = (false, eval e X.env) :: starEach es X.env := by rfl) (hplain : (backTo cpos (starEach es X.env)).any (·.1) = false := by rfl) :
    PE X (.Call (.Attribute o name apos) (e :: es) [] cpos) (tBM X.K T r to t) := by
  intro pins s σ H Q I h
  refine wpAny_Call_method_late hbase hfew hline rfl (thn (ho pins s σ H _ I h) fun v s1 ⟨x, H1, I1, r1, ty, q1⟩ => ?_)
  obtain ⟨h1, h2⟩ := tyV_is I1 r1 ty
  refine ⟨T, id, pa, slot, hty, h1, h2, ?_⟩
  have hA := ha cpos pins s1 σ H1 _ I1 q1
  rw [hs] at hA ⊢
  refine Calls.callWith_builtin (by show (false || (backTo cpos (starEach es X.env)).any (·.1)) = false; rw [hplain] <;> rfl) (Calls.evalArgs_plain ?_)
  exact thn hA fun us s2 ⟨vs, H2, I2, r2, q2⟩ => hm pins s2 σ H2 x vs v us Q I2 r1 r2 q2
end
def MtM (X : Cx) (id : String) (r : V → List V → Hp → VK → Prop) : Prop :=
  ∀ (pins : List (Addr × Obj)) (s : Shared) (σ : St) (H : Hp) (x : V) (xs : List V) (v : Value) (us : List Value) (Q : VK), Inv X pins σ H s → RelV x v → Vals xs us → r x xs H Q →
    wpAny (model X.prog X.w) X.A (call (.builtin id) (v :: us)) (EP X pins σ Q) X.xe s
theorem Vals.one : ∀ {x : V} {us : List Value}, Vals [x] us → ∃ u, us = [u] ∧ RelV x u
  | _, _, .cons r .nil => ⟨_, rfl, r⟩
theorem Vals.two : ∀ {x y : V} {us : List Value}, Vals [x, y] us → ∃ u v, us = [u, v] ∧ RelV x u ∧ RelV y v
  | _, _, _, .cons r (.cons q .nil) => ⟨_, _, rfl, r, q⟩
theorem Vals.zero : ∀ {us : List Value}, Vals [] us → us = []
  | _, .nil => rfl
section
variable {X : Cx} {pins : List (Addr × Obj)} {σ : St} {H : Hp} {s : Shared} {l b : Addr} {xs ys zs : List V}
theorem Inv.lset {its its' : List Value} {n : Nat} {f : Array Value → Array Value} {t' : Nat} (I : Inv X pins σ H s) (hH : H l = some (.lst xs))
    (e : s.heap.get? l = some { cls := .type "list", data := .seq its.toArray n }) (hf : f its.toArray = its'.toArray) (hv : Vals ys its') (hz : ys.length ≤ sizeLine) :
    Inv X pins σ (upd H l (.lst ys)) { s with heap := s.heap.update l (Obj.mapSeq f), toks := t' } := by
  have q := PySem.IsL.update e f
  rw [hf] at q
  refine I.write (x := l) (e := l) (by rw [hH]; exact trivial) (.inl rfl) (fun b' u hb hu => (Heap.get?_update_other s.heap (Obj.mapSeq f) (Ne.symm hb)).trans hu) ⟨_, q⟩ ?_
  exact ⟨hz, its', _, hv, q⟩
theorem Inv.lnew {its : List Value} {t' : Nat} (I : Inv X pins σ H s) (hv : Vals ys its) (hz : ys.length ≤ sizeLine) :
    Inv X pins σ (upd H s.heap.objs.size (.lst ys)) { s with heap := s.heap.push { cls := .type "list", data := .seq its.toArray }, toks := t' } :=
  I.laid (fun _ _ q => Heap.get?_push_of_some _ q) (Nat.le_refl _) ⟨hz, its, 0, hv, Heap.get?_push_size _ rfl⟩
theorem Inv.fresh (I : Inv X pins σ H s) : H s.heap.objs.size = none := I.hok.fresh (Nat.le_refl _)
theorem Inv.lstM (I : Inv X pins σ H s) (hH : H l = some (.lst xs)) : xs.length ≤ sizeLine ∧ ∃ (its : List Value) (n : Nat), Vals xs its ∧ xs.length = its.length ∧ s.heap.get? l = some { cls := .type "list", data := .seq its.toArray n } := by
  obtain ⟨z, its, n, r, e⟩ := I.hok l _ hH
  exact ⟨z, its, n, r, r.length, e⟩
theorem notLongL {n : Nat} (h : n ≤ sizeLine) : Builtin.List.listTooLong n = false := by
  unfold Builtin.List.listTooLong
  exact decide_eq_false (by omega)
end
section
variable {X : Cx}
def rAppend : V → List V → Hp → VK → Prop := fun x vs H Q => ∃ l xs y, x = .ref l ∧ vs = [y] ∧ H l = some (.lst xs) ∧ xs.length < sizeLine ∧ Q .non (upd H l (.lst (xs ++ [y])))
theorem mt_append : MtM X "list.append" rAppend := by
  intro pins s σ H x vs v us Q I rx rv h
  obtain ⟨l, xs, y, rfl, rfl, hH, hz, q⟩ := h
  cases rx
  obtain ⟨u, rfl, ru⟩ := rv.one
  obtain ⟨z, its, n, r, hl, e⟩ := I.lstM hH
  refine call_meets F.slot_list_append ⟨_, e, rfl⟩ F.entry_list_append (F.args_list_append_2 _ _) (PySem.list_append l its.toArray n u (by rw [List.size_toArray]; omega)) ⟨e, ?_⟩
  refine ⟨.non, _, I.lset (its' := its ++ [u]) hH e (by simp) (r.append (.cons ru .nil)) ?_, rfl, q⟩
  rw [List.length_append, List.length_singleton]
  omega
def rExtend : V → List V → Hp → VK → Prop := fun x vs H Q => ∃ l b xs zs, x = .ref l ∧ vs = [.ref b] ∧ H l = some (.lst xs) ∧ H b = some (.lst zs) ∧ xs.length + zs.length ≤ sizeLine ∧ Q .non (upd H l (.lst (xs ++ zs)))
theorem mt_extend : MtM X "list.extend" rExtend := by
  intro pins s σ H x vs v us Q I rx rv h
  obtain ⟨l, b, xs, zs, rfl, rfl, hH, hB, hz, q⟩ := h
  cases rx
  obtain ⟨u, rfl, ru⟩ := rv.one
  cases ru
  obtain ⟨z, its, n, r, hl, e⟩ := I.lstM hH
  obtain ⟨z2, its2, n2, r2, hl2, e2⟩ := I.lstM hB
  have hsz : its.toArray.size + its2.toArray.size ≤ sizeLine := by rw [List.size_toArray, List.size_toArray]; omega
  have hlong : ¬ (!its.toArray.isEmpty && Builtin.List.listTooLong (its.toArray.size + its2.toArray.size)) = true := by
    rw [notLongL hsz, Bool.and_false]
    exact Bool.false_ne_true
  refine call_meets F.slot_list_extend ⟨_, e, rfl⟩ F.entry_list_extend (F.args_list_extend_2 _ _)
    (AutoSeq1.list_extend_list_list_0 l its.toArray n b its2.toArray n2 hlong (by rw [List.size_toArray]; omega) (by omega)) ⟨e, e2, ?_⟩
  refine ⟨.non, _, I.lset (its' := its ++ its2) hH e (by simp) (r.append r2) ?_, rfl, q⟩
  rw [List.length_append]
  omega
def rCat : R2 := fun x y H Q => ∃ l b xs zs, x = .ref l ∧ y = .ref b ∧ H l = some (.lst xs) ∧ H b = some (.lst zs) ∧ xs.length + zs.length ≤ sizeLine ∧ ∀ p, H p = none → Q (.ref p) (upd H p (.lst (xs ++ zs)))
theorem op_cat : OpR X (binaryOp .Add) rCat := by
  intro pins s σ H x y v u Q I rx ry h
  obtain ⟨l, b, xs, zs, rfl, rfl, hH, hB, hz, q⟩ := h
  cases rx
  cases ry
  obtain ⟨z, its, n, r, hl, e⟩ := I.lstM hH
  obtain ⟨z2, its2, n2, r2, hl2, e2⟩ := I.lstM hB
  refine PySem.P.add_list e e2 ?_ (by rw [List.size_toArray, List.size_toArray]; omega)
  have ea : its.toArray ++ its2.toArray = (its ++ its2).toArray := by simp
  rw [ea]
  exact ⟨.ref _, _, I.lnew (t' := s.toks) (r.append r2) (by rw [List.length_append]; omega), rfl, q _ I.fresh⟩
end
end L2
namespace Att
open PySem PySem.W PySem.Calls PyProof.Rows
theorem ints_of_wellAll {P : Params} {h : Heap} : ∀ (ns : List Int) (vs : List Value), WellAll P h vs (ns.map WData.int) → IntsAre vs ns := by
  intro ns
  induction ns with
  | nil =>
    intro vs w
    rw [List.map_nil] at w
    cases w
    exact .nil
  | cons n ns ih =>
    intro vs w
    rw [List.map_cons] at w
    cases w with
    | cons a b =>
      cases a
      exact .cons _ _ (ih _ b)
theorem script_of {l : OpenLaw} {n : Nat} (hn : l.most = some n) {P : Params} {h : Heap} {args : List WData} {vals : List Value}
    (hpre : l.row.toRowW.claim.pre args = true) (hwl : WellAll P h vals args) :
    ∃ a vs ns, vals = [Value.ref a] ∧ args = [WData.list (ns.map WData.int)] ∧ h.get? a = some { cls := .type "list", data := .seq vs.toArray } ∧ IntsAre vs ns ∧ ns.length ≤ n := by
  have hsh : WShape.hasAll [] args [.list .int] = true := (pre_splitW hpre).1
  have hc : l.pre.holds [] { args := args } = true := (pre_splitW hpre).2
  obtain ⟨d, r, rfl, h1, h2⟩ := hasAllW_cons hsh
  obtain rfl := hasAllW_nil h2
  obtain ⟨xs, rfl, h3⟩ := hasW_list h1
  obtain ⟨ns, rfl⟩ := items_int h3
  have hlen : ns.length ≤ n := by
    unfold OpenLaw.pre at hc
    have h4 : (WTm.not (.lt (.lit (.int (n : Int))) (.len (.arg 0)))).holds [] { args := [.list (ns.map .int)] } = true := by
      have h4 := (holds_andW hc).1
      rw [hn] at h4
      exact h4
    have h5 := condW_of h4 (w_not (w_lt w_lit (w_len_list (w_arg rfl))))
    rw [List.length_map] at h5
    refine Nat.le_of_not_lt fun q => ?_
    have q' : (n : Int) < ((ns.length : Nat) : Int) := by omega
    first
      | (rw [decide_eq_true q'] at h5; exact absurd h5 (by decide))
      | (simp at h5; omega)
  cases hwl with
  | cons w1 w2 =>
    cases w2
    cases w1 with
    | list ho hall => exact ⟨_, _, ns, rfl, rfl, ho, ints_of_wellAll ns _ hall, hlen⟩
theorem post_true (l : OpenLaw) (args : List WData) : l.row.toRowW.claim.post args (.bool true) args = true :=
  postW_of (r := l.row.toRowW) (X := (true == true))
    (show WShape.has [] (.bool true) .bool = true by first | rfl | decide | simp [WShape.has, WShape.arms, WShape.armsAll])
    (show (WTm.eq .res (.lit (.bool true))).value [] { args := args, res := some (.bool true), after := args } = some (.bool (true == true)) from w_eq_bool (w_res rfl) w_lit) rfl
theorem attach_call {l : OpenLaw} {n : Nat} {q : Program} {loose : List Str} {XP : (Str → Option Value) → Heap → Prop} {YP : World → Heap → Prop} {d : DefRec}
    (hn : l.most = some n) (hdf : d.params.defaults = [])
    (call : ∀ (w : World) (s₀ s₁ : Shared) (mg mb : Str → Option Value) (fa : Addr) (o : Obj) (pm cd doc : Value) (a : Addr) (vs : List Value) (ns : List Int),
      Ground q loose [] XP w s₀ mg mb s₁.heap → YP w s₁.heap →
      s₁.heap.get? fa = some o → o.data = .func (docDef d.name d.params d.body d.scope pm cd doc) → s₁.heap.CodeRec cd d.name → mg d.name = some (.ref fa) →
      s₁.heap.get? a = some { cls := .type "list", data := .seq vs.toArray } → IntsAre vs ns → ns.length ≤ n → s₁.gens = #[] →
      codeAny (model l.prog w) callerA (.call (.ref fa) ⟨[.ref a], []⟩) (fun r s' => r = .ok (.ret (.bool true)) ∧ OldK s₁.heap s'.heap ∧ s'.os = s₁.os ∧ AllBare s'.gens) s₁) :
    WalkO q loose XP YP l.row.toRowW d [] (fun f vs => PySem.call f vs) := by
  intro w s₀ s₁ mg mb G Y fa o pm cd doc dV kV ho hd hcd hD hmg hg args vals as hpre hlay hrd hwl hlo
  obtain rfl : dV = .none := Dflts.none hD hdf
  obtain rfl : kV = .none := Dflts.noKw hD
  obtain ⟨a, vs, ns, rfl, rfl, hobj, hints, hlen⟩ := script_of hn hpre hwl
  refine enter_call (codeAny_mono (call w s₀ s₁ mg mb fa o pm cd doc a vs ns G Y ho (fd_plain hd) hcd hmg hobj hints hlen hg) fun r s' hq => ?_)
  obtain ⟨rfl, h2, h3, h4⟩ := hq
  exact ⟨.inl ⟨.bool true, .bool true, [], rfl, fun _ => rfl, .bool true, post_true l _, fun _ => ⟨List.Pairwise.nil, fun _ hm => (nomatch hm)⟩⟩, h2, h3, h4⟩
end Att
namespace L2
open PySem PySem.Spec PyProof.Rows
theorem vals_ints : ∀ {vs : List Value} {ns : List Int}, IntsAre vs ns → Vals (ns.map V.int) vs
  | _, _, .nil => .nil
  | _, _, .cons n t h => .cons ⟨t, rfl⟩ (vals_ints h)
def Only (H : Hp) : Prop := ∀ b, H b = none ∨ ∃ o xs, H b = some (.frz o (.lst xs))
theorem law_call {P : Program} {w : World} {K : PySem.W.Frag} {mg mb : Str → Option Value} {CX : CXT} {k : Nat} {fa a : Addr} {fd : FuncData} {x : Str} {sp : Sp} {s₁ : Shared} {vs : List Value} {ns : List Int}
    (KX : K.In s₁.heap) (hns : s₁.heap.Ns mainGlobals mg) (hb : s₁.heap.Ns builtinsNs mb) (hbb : ∀ x : Str, x ≠ "__name__" → mb x = bootBuiltins x) (hlim : s₁.heap.NoLimit) (hg : s₁.gens = #[])
    (ha : s₁.heap.get? a = some { cls := .type "list", data := .seq vs.toArray }) (hi : IntsAre vs ns) (hl : ns.length ≤ sizeLine) (hr : Room k callerA)
    (F : ∀ base : Heap, K.In base → base.Ns mainGlobals mg → FnOk P w K mg base CX k fa fd [x] sp) (hbind : ∀ (s : Shared) (u : Value), BindsTo s fd ⟨[u], []⟩ [(x, u)])
    (hsp : ∀ H : Hp, Only H → SqL K H a (ns.map V.int) → sp [.ref a] H (fun v _ => v = .bl true) fun _ _ _ => False)
    (hCX : ∀ H e s', CX [] H s₁ (fun _ _ _ => False) e s' → False) :
    codeAny (model P w) callerA (.call (.ref fa) ⟨[.ref a], []⟩) (fun r s' => r = .ok (.ret (.bool true)) ∧ OldK s₁.heap s'.heap ∧ s'.os = s₁.os ∧ AllBare s'.gens) s₁ := by
  have rv := vals_ints hi
  have lenV := hi.length
  -- from an abstract heap in which nothing but the script may be tracked
  have core : ∀ H : Hp, Only H → SqL K H a (ns.map V.int) → HOk P w H s₁.heap → (∀ b, H b ≠ none → b = a) → (H a ≠ none → K.lookup a = none) →
      codeAny (model P w) callerA (.call (.ref fa) ⟨[.ref a], []⟩) (fun r s' => r = .ok (.ret (.bool true)) ∧ OldK s₁.heap s'.heap ∧ s'.os = s₁.os ∧ AllBare s'.gens) s₁ := by
    intro H hO hS hok hA hK
    have base_of : ∀ {b : Addr} {o : Obj}, s₁.heap.get? b = some o → H b = none → (hidT s₁.heap H).get? b = some o := fun e n => hidT_get e n
    have noA : ∀ {b : Addr} {o : Obj} {es : Array DictEntry} {ep : Nat}, s₁.heap.get? b = some o → o.data = .dict es ep → H b = none := fun {b o es ep} e d => by
      cases q : H b with
      | none => rfl
      | some u =>
        have e' : b = a := hA b (by rw [q]; simp)
        subst e'
        rw [ha] at e; cases e
        have d' : Data.seq vs.toArray _ = Data.dict es ep := d
        cases d'
    have nsK : ∀ {b : Addr} {m : Str → Option Value}, s₁.heap.Ns b m → (hidT s₁.heap H).Ns b m := fun {b m} ⟨o, es, ep, e, d, r⟩ => ⟨o, es, ep, base_of e (noA e d), d, r⟩
    have hKb : K.In (hidT s₁.heap H) := fun b o e => base_of (KX b o e) (by
      cases q : H b with
      | none => rfl
      | some u =>
        have e' : b = a := hA b (by rw [q]; simp)
        subst e'
        rw [hK (by rw [q]; simp)] at e; cases e)
    have hM : Mod K mg (hidT s₁.heap H) := ⟨hKb, nsK hns, ⟨mb, nsK hb, hbb⟩, let ⟨mc, h1, h2⟩ := hlim; ⟨mc, nsK h1, h2⟩⟩
    have e0 : Env0 P w K mg (hidT s₁.heap H) callerA [] s₁ H := ⟨rfl, hM, fun b o e => of_hidT e, Nat.le_of_eq (hidT_size _ _), trivial, fun b hb => absurd (show b ∈ ([] : List Addr) from hb) (by simp), hok, .of_eq hg⟩
    refine codeAny_mono ((F _ hKb (nsK hns)).run callerA [] s₁ H ⟨[.ref a], []⟩ [.ref a] [.ref a] _ _ hr e0 (hbind s₁ (.ref a)) (.cons rfl .nil) (hsp H hO hS)) fun r s' h => ?_
    cases r with
    | error e => exact (hCX H e s' h).elim
    | ok fl =>
      cases fl with
      | next => exact False.elim h
      | brk => exact False.elim h
      | cont => exact False.elim h
      | ret u =>
        obtain ⟨v, H', os, bare, un, hok', r', q⟩ := h
        have q' : v = .bl true := q
        subst q'
        obtain rfl : u = Value.bool true := r'
        refine ⟨rfl, OldK.of_keep fun b o e => ?_, os, bare⟩
        cases q : H b with
        | none => exact un.keep b o e q (by intro z; exact absurd (show b ∈ ([] : List Addr) from z) (by simp)) (by simp)
        | some u =>
          rcases hO b with z | ⟨ob, xs, z⟩
          · rw [q] at z; cases z
          · have z2 := un.frzs b ob _ z
            obtain ⟨e1, _⟩ := hok b _ z
            obtain ⟨e2, _⟩ := hok' b _ z2
            rw [e] at e1; cases e1
            exact e2
  cases hk : K.lookup a with
  | some o =>
    -- the script is one of the module's own objects
    have e := KX a o hk
    rw [ha] at e
    cases e
    refine core (fun _ => none) (fun _ => .inl rfl) (.inr ⟨_, vs.toArray, _, hk, rfl, rfl, rfl, by rw [List.size_toArray, lenV]; exact hl, by simpa using rv⟩) (fun b u z => by have z' : (none : Option HO) = some u := z; cases z') (fun b z => absurd rfl z) fun z => absurd rfl z
  | none =>
    refine core (fun b => if b = a then some (.frz { cls := .type "list", data := .seq vs.toArray } (.lst (ns.map V.int))) else none) (fun b => ?_) (.inl (.inr ⟨{ cls := .type "list", data := .seq vs.toArray }, if_pos rfl⟩)) (fun b u z => ?_) (fun b z => ?_) fun _ => hk
    · by_cases hb : b = a
      · exact .inr ⟨_, _, if_pos hb⟩
      · exact .inl (if_neg hb)
    · by_cases hb : b = a
      · have z' := (if_pos hb).symm.trans z
        cases z'
        subst hb
        exact ⟨ha, by rw [List.length_map]; exact hl, vs, _, rv, ha⟩
      · have z' := (if_neg hb).symm.trans z
        cases z'
    · by_cases hb : b = a
      · exact hb
      · exact absurd (if_neg hb) z
theorem walk_of {l : PySem.W.OpenLaw} {n k : Nat} {q : Program} {loose : List Str} {XP : (Str → Option Value) → Heap → Prop} {YP : World → Heap → Prop} {d : DefRec} {K : Params → PySem.W.Frag} {CX : World → CXT} {sp : World → Sp} {x : Str}
    (hn : l.most = some n) (hn2 : n ≤ sizeLine) (hdf : d.params.defaults = []) (hr : Room k callerA)
    (hY : ∀ (w : World) (h : Heap), YP w h → (K w.params).In h)
    (F : ∀ (w : World) (mg : Str → Option Value) (fa : Addr) (h : Heap), (K w.params).In h → h.Ns mainGlobals mg → mg d.name = some (.ref fa) →
      ∃ fd : FuncData, (∀ (s : Shared) (u : Value), BindsTo s fd ⟨[u], []⟩ [(x, u)]) ∧
        ∀ base : Heap, (K w.params).In base → base.Ns mainGlobals mg → FnOk l.prog w (K w.params) mg base (CX w) k fa fd [x] (sp w))
    (hsp : ∀ (w : World) (H : Hp) (a : Addr) (ns : List Int), ns.length ≤ n → Only H → SqL (K w.params) H a (ns.map V.int) → sp w [.ref a] H (fun v _ => v = .bl true) fun _ _ _ => False)
    (hCX : ∀ (w : World) (H : Hp) (s : Shared) (e : Value) (s' : Shared), CX w [] H s (fun _ _ _ => False) e s' → False) :
    PySem.W.WalkO q loose XP YP l.row.toRowW d [] (fun f vs => PySem.call f vs) := by
  refine Att.attach_call hn hdf fun w s₀ s₁ mg mb fa o pm cd doc a vs ns G Y ho hd hcd hmg hobj hints hlen hg => ?_
  have KX := hY w _ Y
  obtain ⟨fd, hb, hF⟩ := F w mg fa _ KX G.T.g hmg
  exact law_call KX G.T.g G.T.b G.T.builtins G.T.nolimit hg hobj hints (Nat.le_trans hlen hn2) hr hF hb (fun H hO hS => hsp w H a ns hlen hO hS) fun H e s' => hCX w H s₁ e s'
def defArgs (s : Stmt) : Arguments := match s with
  | .FunctionDef _ a _ _ _ _ _ _ _ _ => a
  | _ => { posonlyargs := [], args := [], vararg := none, kwonlyargs := [], kw_defaults := [], kwarg := none, defaults := [] }
def defBody (s : Stmt) : List Stmt := match s with
  | .FunctionDef _ _ b _ _ _ _ _ _ _ => b
  | _ => []
def defScope (s : Stmt) : Scope := match s with
  | .FunctionDef _ _ _ _ _ _ sc _ _ _ => sc
  | _ => { kind := .function, names := [], isGenerator := false, isCoroutine := false }
abbrev CX0 : CXT := fun _ _ _ _ _ _ => False
abbrev E0 : XK := fun _ _ _ => False
theorem pass0 {X : Cx} : Passes CX0 X E0 := fun _ _ _ _ _ _ _ h => h.elim
structure Fun (K : PySem.W.Frag) (x qual : Str) (st : Stmt) (f : Addr) (fd : FuncData) : Prop where
  ex : ∃ (oc : Value) (od : Option Addr) (kV doc pm : Value) (an : Option Addr) (cdv ct : Value) (osl : Array (Option Value)),
    fd = PySem.W.fnOf x qual (defArgs st) (defBody st) (defScope st) .none kV doc pm an cdv ct ∧ K.lookup f = some ⟨oc, od, .func fd, osl⟩ ∧ PySem.W.codeIn K cdv qual = true
  kp : PySem.W.keepIn K (.ref f) = true
section
variable {P : Program} {w : World} {K : PySem.W.Frag} {mg : Str → Option Value} {base : Heap}
theorem Fun.ok {x qual : Str} {st : Stmt} {f : Addr} {fd : FuncData} {N ps : List Str} {k : Nat} {sp : Sp} (F : Fun K x qual st f fd) (S : FnScope N ps (defScope st)) (len : ∀ vs H Q E, sp vs H Q E → vs.length = ps.length)
    (hbody : ∀ (cdv : Value) (A : Around) (outer : List Env) (s : Shared) (H : Hp) (vs : List V) (Q : VK) (E : XK), Room k (A.deeper (envOfC qual (defScope st) s.heap.objs.size f cdv)) → sp vs H Q E →
      ∃ t, PSs (cxOf CX0 P w K mg base N qual (defScope st) f cdv A outer s H E).nox (defBody st) t ∧ t { nx := fun _ H' => Q .non H', rt := Q } (start N vs) H) : FnOk P w K mg base CX0 (k + 1) f fd ps sp := by
  obtain ⟨oc, od, kV, doc, pm, an, cdv, ct, osl, rfl, lk, hcd⟩ := F.ex
  refine fn_of lk hcd S len fun A outer s H vs Q E hr hsp => ?_
  obtain ⟨t, h, q⟩ := hbody cdv A outer s H vs Q E hr hsp
  exact ⟨t, h.nox, q⟩
theorem Fun.binds {x qual : Str} {st : Stmt} {f : Addr} {fd : FuncData} {ps : List Str} (F : Fun K x qual st f fd)
    (h : ∀ (kV doc pm : Value) (an : Option Addr) (cdv ct : Value) (us : List Value), us.length = ps.length → bindArgs (PySem.W.fnOf x qual (defArgs st) (defBody st) (defScope st) .none kV doc pm an cdv ct) ⟨us, []⟩ = pure (ps.zip us)) : Binds K fd ps [] := by
  obtain ⟨oc, od, kV, doc, pm, an, cdv, ct, osl, rfl, lk, hcd⟩ := F.ex
  exact .all (h kV doc pm an cdv ct)
theorem fun_mk {x qual : Str} {st : Stmt} {f : Addr} {oc : Value} {od an : Option Addr} {osl : Array (Option Value)} {kV doc pm cdv ct : Value} (l : K.lookup f = some ⟨oc, od, .func (PySem.W.fnOf x qual (defArgs st) (defBody st) (defScope st) .none kV doc pm an cdv ct), osl⟩)
    (c : PySem.W.codeIn K cdv qual = true) (k : PySem.W.keepIn K (.ref f) = true) : Fun K x qual st f (PySem.W.fnOf x qual (defArgs st) (defBody st) (defScope st) .none kV doc pm an cdv ct) := ⟨⟨oc, od, kV, doc, pm, an, cdv, ct, osl, rfl, l, c⟩, k⟩
end
section
variable {X : Cx}
theorem pv (i : Nat) {x : Str} {pos : Pos} (hN : X.N[i]? = some x := by rfl) (hv : Vis X.env.scope x := by first | exact Or.inl rfl | exact Or.inr (Or.inl rfl) | exact Or.inr (Or.inr rfl)) (hd : (x == ("__debug__" : Str)) = false := by decide)
    (hcd : (x == ("__classdict__" : Str)) = false := by decide) : PE X (.Name x pos) (tVar i) := pe_var hN hv hd hcd
end
def Same (H H' : Hp) : Prop := ∀ b o, H b = some o → H' b = some o
theorem Same.refl (H : Hp) : Same H H := fun _ _ h => h
theorem Same.trans {H H1 H2 : Hp} (a : Same H H1) (b : Same H1 H2) : Same H H2 := fun c o h => b c o (a c o h)
theorem Same.seq {K : PySem.W.Frag} {H H' : Hp} {a : Addr} {xs : List V} (e : Same H H') (h : SqL K H a xs) : SqL K H' a xs := by
  rcases h with (h | ⟨o, h⟩) | h
  · exact .inl (.inl (e _ _ h))
  · exact .inl (.inr ⟨o, e _ _ h⟩)
  · exact .inr h
section
variable {κ : Type} [DecidableEq κ]
def valV (kvs : List (κ × V)) (k : κ) : Option V := (kvs.find? fun kv => decide (kv.1 = k)).map (·.2)
def putK (kvs : List (κ × V)) (k : κ) (v : V) : List (κ × V) :=
  if (kvs.any fun kv => decide (kv.1 = k)) = true then kvs.map (fun kv => if kv.1 = k then (kv.1, v) else kv) else kvs ++ [(k, v)]
theorem valV_pos {p : κ × V} {r : List (κ × V)} {k : κ} (e : p.1 = k) : valV (p :: r) k = some p.2 := by simp [valV, List.find?_cons, e]
theorem valV_neg {p : κ × V} {r : List (κ × V)} {k : κ} (e : ¬ p.1 = k) : valV (p :: r) k = valV r k := by simp [valV, List.find?_cons, e]
theorem RelO.isSome_eq {o : Option V} {u : Option Value} (r : RelO o u) : o.isSome = u.isSome := by
  cases o with
  | none => cases u with
    | none => rfl
    | some _ => exact (show False from r).elim
  | some _ => cases u with
    | none => exact (show False from r).elim
    | some _ => rfl
theorem RelO.getD {o : Option V} {u : Option Value} {d : V} {d' : Value} (r : RelO o u) (rd : RelV d d') : RelV (o.getD d) (u.getD d') := by
  cases o with
  | none => cases u with
    | none => exact rd
    | some _ => exact (show False from r).elim
  | some _ => cases u with
    | none => exact (show False from r).elim
    | some _ => exact r
theorem KV.val {kvs : List (κ × V)} {vs : List (κ × Value)} (r : KV kvs vs) (k : κ) : RelO (valV kvs k) (valueAt vs k) := by
  unfold KV at r
  induction r with
  | nil => exact True.intro
  | @cons p q ps qs h t ih =>
    obtain ⟨h1, h2⟩ := h
    by_cases e : p.1 = k
    · have e' : q.1 = k := h1.symm.trans e
      have b : valueAt (q :: qs) k = some q.2 := by simp [valueAt, List.find?_cons, e']
      rw [valV_pos e, b]; exact h2
    · have e' : ¬ q.1 = k := fun z => e (h1.trans z)
      have b : valueAt (q :: qs) k = valueAt qs k := by simp [valueAt, List.find?_cons, e']
      rw [valV_neg e, b]; exact ih
theorem KV.any {kvs : List (κ × V)} {vs : List (κ × Value)} (r : KV kvs vs) (k : κ) : (kvs.any fun kv => decide (kv.1 = k)) = vs.any fun kv => decide (kv.1 = k) := by
  unfold KV at r
  induction r with
  | nil => rfl
  | cons h t ih => rw [List.any_cons, List.any_cons, ih, h.1]
theorem KV.keys {kvs : List (κ × V)} {vs : List (κ × Value)} (r : KV kvs vs) : kvs.map (·.1) = vs.map (·.1) := by
  unfold KV at r
  induction r with
  | nil => rfl
  | cons h t ih => rw [List.map_cons, List.map_cons, ih, h.1]
theorem KV.length {kvs : List (κ × V)} {vs : List (κ × Value)} (r : KV kvs vs) : kvs.length = vs.length := Paired.length r
end
theorem kV_is {P : Program} {w : World} {k : Key} {u : Value} (r : RelV (kV k) u) : (mixKind P w).is k u = true := by
  cases k with
  | inl i => obtain ⟨t, e⟩ := (show ∃ t, u = Value.int i t from r); subst e; exact mixKind_int P w i t
  | inr x => obtain ⟨t, e⟩ := (show ∃ t, u = Value.str x t from r); subst e; exact mixKind_str P w x t
abbrev KT (H : Hp) : List (List Key × V) → List (List Key × Addr × Value) → Prop := Paired fun p q => p.1 = q.1 ∧ H q.2.1 = some (.tup (p.1.map kV)) ∧ RelV p.2 q.2.2
theorem KT.val {H : Hp} {kvs : List (List Key × V)} {xs : List (List Key × Addr × Value)} (r : KT H kvs xs) (k : List Key) : RelO (valV kvs k) ((atKey xs k).map (·.2)) := by
  induction r with
  | nil => exact True.intro
  | @cons p q ps qs h t ih =>
    obtain ⟨h1, _, h2⟩ := h
    by_cases e : p.1 = k
    · have e' : q.1 = k := h1.symm.trans e
      have b : atKey (q :: qs) k = some q.2 := by simp [atKey, List.find?_cons, e']
      rw [valV_pos e, b]; exact h2
    · have e' : ¬ q.1 = k := fun z => e (h1.trans z)
      have b : atKey (q :: qs) k = atKey qs k := by simp [atKey, List.find?_cons, e']
      rw [valV_neg e, b]; exact ih
def DGet (H : Hp) (a : Addr) (y : V) (r : Option V) : Prop :=
  (∃ kvs k, Rd H a (.dK kvs) ∧ y = kV k ∧ r = valV kvs k) ∨ ∃ kvs k b, Rd H a (.dT kvs) ∧ y = .ref b ∧ H b = some (.tup (k.map kV)) ∧ r = valV kvs k
def DPut (H : Hp) (a : Addr) (y v : V) (H' : Hp) : Prop :=
  (∃ kvs k, H a = some (.dK kvs) ∧ y = kV k ∧ kvs.length < sizeLine ∧ H' = upd H a (.dK (putK kvs k v))) ∨
  ∃ kvs k b, H a = some (.dT kvs) ∧ y = .ref b ∧ H b = some (.tup (k.map kV)) ∧ kvs.length < sizeLine ∧ H' = upd H a (.dT (putK kvs k v))
theorem DGet.k {H : Hp} {a : Addr} {kvs : List (Key × V)} {k : Key} (e : H a = some (.dK kvs)) : DGet H a (kV k) (valV kvs k) := .inl ⟨kvs, k, .inl e, rfl, rfl⟩
theorem DGet.t {H : Hp} {a b : Addr} {kvs : List (List Key × V)} {k : List Key} (e : H a = some (.dT kvs)) (eb : H b = some (.tup (k.map kV))) : DGet H a (.ref b) (valV kvs k) := .inr ⟨kvs, k, b, .inl e, rfl, eb, rfl⟩
theorem DPut.k {H : Hp} {a : Addr} {kvs : List (Key × V)} {k : Key} {v : V} (e : H a = some (.dK kvs)) (hl : kvs.length < sizeLine) : DPut H a (kV k) v (upd H a (.dK (putK kvs k v))) := .inl ⟨kvs, k, e, rfl, hl, rfl⟩
theorem DPut.t {H : Hp} {a b : Addr} {kvs : List (List Key × V)} {k : List Key} {v : V} (e : H a = some (.dT kvs)) (eb : H b = some (.tup (k.map kV))) (hl : kvs.length < sizeLine) :
    DPut H a (.ref b) v (upd H a (.dT (putK kvs k v))) := .inr ⟨kvs, k, b, e, rfl, eb, hl, rfl⟩
def NoSl (i : Expr) : Prop := ∀ ov iv, subscripted i false ov iv = operate [ov, iv] (getItem ov iv)
theorem subD_of {prog : Program} {w : World} {A : Around} {E : Value → Shared → Prop} {s : Shared} {env : Env} {value slice : Expr} {pos : Pos} {T id : String} {Q : Value → Shared → Prop}
    (hl : typeLookup (.type T) "__getitem__" = pure (some (.builtin id))) (hs : NoSl slice)
    (h : wpAny (model prog w) A (eval value env) (fun o s₁ => wpAny (model prog w) A (eval slice env) (fun i s₂ => s₂.TypeIs o T ∧ wpAny (model prog w) A (getItem o i) Q E s₂) E s₁) E s) :
    wpAny (model prog w) A (eval (.Subscript value slice pos) env) Q E s := by
  refine Subscript_ (wpAny_mono h (fun o s₁ h₁ => wpAny_mono h₁ (fun i s₂ h₂ => ?_) fun _ _ x => x) fun _ _ x => x)
  obtain ⟨hT, h₂⟩ := h₂
  unfold subscriptTail
  refine wpAny_bind ?_
  rw [getitemInPython_of_ne hT.not_modules]
  refine wpAny_bind (wpAny_specialOf hT hl ?_)
  have fin : wpAny (model prog w) A (subscripted slice false o i) (fun r s₃ => wpAny (model prog w) A (letTemporaryGo value o r >>= fun _ => pure r) Q E s₃) E s₂ := by
    rw [hs o i]
    exact wpAny_operating (wpAny_mono h₂ (fun r s₃ h₃ => wpAny_bind (wpAny_letTemporaryGo (wpAny_pure h₃))) fun _ _ x => x)
  first
    | exact wpAny_pure (wpAny_bind fin)
    | exact wpAny_bind (wpAny_pure (wpAny_bind fin))
    | exact wpAny_bind fin
end L2
set_option maxHeartbeats 4000000
namespace L2
open PySem PySem.Spec PyProof.Rows
section
variable {P : Program} {w : World} {K : PySem.W.Frag} {mg : Str → Option Value} {base : Heap} {CX : CXT} {x : Str} {ps : List Str} {sp : Sp} {j k : Nat}
structure Def (P : Program) (w : World) (K : PySem.W.Frag) (mg : Str → Option Value) (base : Heap) (CX : CXT) (k : Nat) (x : Str) (ps : List Str) (sp : Sp) : Prop where
  ex : ∃ (f : Addr) (fd : FuncData), FnOk P w K mg base CX k f fd ps sp ∧ mg x = some (.ref f) ∧ PySem.W.keepIn K (.ref f) = true ∧ Binds K fd ps []
def HasDef (K : PySem.W.Frag) (mg : Str → Option Value) (x : Str) (st : Stmt) : Prop := ∃ (f : Addr) (fd : FuncData), Fun K x x st f fd ∧ mg x = some (.ref f)
theorem HasDef.mk {st : Stmt} {f : Addr} {oc : Value} {od an : Option Addr} {osl : Array (Option Value)} {kV doc pm cdv ct : Value} (m : mg x = some (.ref f))
    (l : K.lookup f = some ⟨oc, od, .func (PySem.W.fnOf x x (defArgs st) (defBody st) (defScope st) .none kV doc pm an cdv ct), osl⟩)
    (c : PySem.W.codeIn K cdv x = true) (k : PySem.W.keepIn K (.ref f) = true) : HasDef K mg x st := ⟨f, _, fun_mk l c k, m⟩
theorem def_of {st : Stmt} {N : List Str} (h : HasDef K mg x st) (S : FnScope N ps (defScope st)) (len : ∀ vs H Q E, sp vs H Q E → vs.length = ps.length)
    (hb : ∀ (kV doc pm : Value) (an : Option Addr) (cdv ct : Value) (us : List Value), us.length = ps.length → bindArgs (PySem.W.fnOf x x (defArgs st) (defBody st) (defScope st) .none kV doc pm an cdv ct) ⟨us, []⟩ = pure (ps.zip us))
    (hbody : ∀ (f : Addr) (cdv : Value) (A : Around) (outer : List Env) (s : Shared) (H : Hp) (vs : List V) (Q : VK) (E : XK), Room k (A.deeper (envOfC x (defScope st) s.heap.objs.size f cdv)) → sp vs H Q E →
      ∃ t, PSs (cxOf CX P w K mg base N x (defScope st) f cdv A outer s H E).nox (defBody st) t ∧ t { nx := fun _ H' => Q .non H', rt := Q } (start N vs) H) : Def P w K mg base CX (k + 1) x ps sp := by
  obtain ⟨f, fd, F, m⟩ := h
  refine ⟨f, fd, ?_, m, F.kp, F.binds hb⟩
  obtain ⟨oc, od, kV, doc, pm, an, cdv, ct, osl, rfl, lk, hcd⟩ := F.ex
  refine fn_of lk hcd S len fun A outer s H vs Q E hr hsp => ?_
  obtain ⟨t, h, q⟩ := hbody f cdv A outer s H vs Q E hr hsp
  exact ⟨t, h.nox, q⟩
end
section
variable {X : Cx} {CX : CXT} {k m : Nat} {x : Str} {ps : List Str} {sp : Sp} {E : XK} {p pos : Pos} {e : Expr} {es : List Expr} {t : TA}
theorem pe_def (D : Def X.prog X.w X.K X.mg X.base CX k x ps sp) (hr : Room m X.A) (ha : PA X (e :: es) t) (hk : k ≤ m := by decide) (hx : Passes CX X E := by exact pass0) (hg : Gl X x := by rfl)
    (hdb : (x == ("__debug__" : Str)) = false := by decide) (he : starEach (e :: es) X.env = (false, eval e X.env) :: starEach es X.env := by rfl) (hpl : (backTo pos (starEach es X.env)).any (·.1) = false := by rfl) :
    PE X (.Call (.Name x p) (e :: es) [] pos) (tCall sp [] E t) := by
  obtain ⟨f, fd, F, hm, kp, b⟩ := D.ex
  exact pe_call F (hr.mono hk) hg hm kp b .nil hx ha hdb he hpl
end
def GlobIs (mg : Str → Option Value) (x : Str) (v : V) : Prop := ∃ u, mg x = some u ∧ RelV v u
theorem pe_gl {X : Cx} {x : Str} {v : V} {pos : Pos} (h : GlobIs X.mg x v) (hg : Gl X x := by rfl) (hd : (x == ("__debug__" : Str)) = false := by decide) : PE X (.Name x pos) (tC v) :=
  let ⟨_, e, r⟩ := h
  pe_glob hg e r hd
section
variable {X : Cx} {T : String} {pos : Pos}
theorem pe_ty {x : Str} (hg : Gl X x) (hm : X.mg x = none) (hv : bootBuiltins x = some (.type T)) (hn : x ≠ "__name__" := by decide) (hd : (x == ("__debug__" : Str)) = false := by decide) : PE X (.Name x pos) (tC (.ty T)) :=
  pe_bltn hg hm hv rfl hn hd
def clsIs (K : PySem.W.Frag) (t : Value) : V → Option Bool
  | .ty T => PySem.W.kitOne K t (.type T)
  | .ref C => PySem.W.kitOne K t (.ref C)
  | _ => none
theorem call_isinstance : CallR X (.builtin "isinstance") (fun xs H Q => ∃ x c t b, xs = [x, c] ∧ TyOf X.K H x t ∧ clsIs X.K t c = some b ∧ Q (.bl b) H) := by
  intro pins s σ H xs us Q I r h
  obtain ⟨x, c, t, b, rfl, ty, e, q⟩ := h
  obtain ⟨u, v, rfl, ru, rv⟩ := vals2 r
  cases c with
  | ty T =>
    obtain rfl : v = Value.type T := rv
    exact isinst_ok I ru ty e fun tk => ⟨.bl b, H, I.tok _, rfl, q⟩
  | ref C =>
    obtain rfl : v = Value.ref C := rv
    exact isinst_ok I ru ty e fun tk => ⟨.bl b, H, I.tok _, rfl, q⟩
  | _ => cases e
end
section
variable {X : Cx}
theorem vals_bools : ∀ {bs : List Bool} {us : List Value}, Vals (bs.map V.bl) us → LSm.BoolsAre us bs
  | [], _, .nil => .nil
  | b :: bs, _, .cons r t => by
    cases (show _ = Value.bool b from r)
    exact .cons b (vals_bools t)
theorem call_all (hc : X.calm = true) : CallR X (.builtin "all") (fun xs H Q => ∃ (p : Addr) (bs : List Bool), xs = [.ref p] ∧ SqL X.K H p (bs.map V.bl) ∧ Q (.bl (bs.all id)) H) := by
  intro pins s σ H xs us Q I r h
  obtain ⟨p, bs, rfl, hq, q⟩ := h
  obtain ⟨u, rfl, rx⟩ := vals1 r
  cases rx
  obtain ⟨its, rv, pl, hz⟩ := I.list hq
  have hb := vals_bools rv
  have hl := pl.isList
  have hlt : p < s.heap.objs.size := by obtain ⟨_, e, _⟩ := hl; exact Heap.lt_size e
  refine call_all_walk (wpAny_pyIter_list hl ?_)
  refine ⟨s.heap.objs.size, [s.heap.objs.size, p], [s.heap.objs.size], its.toArray.size, _, _, fun i => (bs[i]?).getD true, rfl, Walks.list (A := X.A.in1) (I.ok.hd hc) _ p (Nat.ne_of_lt hlt) its.toArray,
    ⟨⟨_, Heap.get?_push_size _ rfl, rfl, rfl⟩, hl.push _⟩, fun i v s' Q' E' hP hQ => ?_, fun h' tk hk => ?_⟩
  · obtain ⟨b, e, rfl⟩ := hb.get i v (by simpa using hP)
    simp only [e, Option.getD_some] at hQ
    exact wpAny_truthy_bool hQ
  · have e : ((List.range its.toArray.size).all fun i => (bs[i]?).getD true) = bs.all id := by
      rw [List.size_toArray, hb.length]; exact LSm.range_all bs
    rw [e]
    exact ⟨.bl _, H, I.kept (LSm.kept_iter hk), rfl, q⟩
end
section
variable {X : Cx}
theorem op_in_str1 : OpR X (compareOp .In) (fun x y H Q => ∃ c j, x = .str ⟨#[c]⟩ ∧ y = .str j ∧ Q (.bl (decide (c ∈ j.cps.toList))) H) := by
  intro pins s σ H x y v u Q I rx ry h
  obtain ⟨c, j, rfl, rfl, q⟩ := h
  obtain ⟨t, rfl⟩ := rx
  obtain ⟨t', rfl⟩ := ry
  exact in_str (fin_bl I q (PySem.StrLaws.found_one j c).symm)
def Its (z : Str) : It := ⟨fun i _ => i < z.cps.size, fun i H x H' => H' = H ∧ ∃ c, z.cps[i]? = some c ∧ x = .str ⟨#[c]⟩, fun i _ => z.cps.size ≤ i⟩
section
variable {P : Program} {w : World} {K : PySem.W.Frag} {tg : Expr}
theorem turn_strA (it : Addr) (z : Str) (t : Tok) : Turn P w K tg (Its z) [it] it (fun i h => h.IsStrIter it "str_ascii_iterator" z t i) where
  mem := by simp
  obj := fun i h st b hb => by
    have e : b = it := by simpa using hb
    subst e
    obtain ⟨o, e, c, d⟩ := st
    exact ⟨o, e, fun v z => by rw [d] at z; cases z⟩
  keep := fun i h h' st k => let ⟨o, e, r⟩ := st; ⟨o, k it (by simp) o e, r⟩
  item := by
    intro X hP hw hK hc i pins s σ H E I hf st hg
    subst hP hw hK
    obtain ⟨f0, f1, f2, f3, f4, f5⟩ := hf it (by simp)
    have hi : i < z.cps.size := hg
    refine wpAny_pyNext_ascii_item st (c := z.cps[i]) (by simp [hi]) fun h' st' sb => ?_
    have I1 : Inv X pins σ H { s with heap := h', toks := s.toks + 1 } := I.turned (fun b o hb e => sb.extBut b o hb e) f0 f1 f3 f4 f5
    obtain ⟨o, e, c, d⟩ := id st'
    exact ⟨_, rfl, go_of (s := { s with heap := h', toks := s.toks + 1 }) e c d (by decide) ⟨.str ⟨#[z.cps[i]]⟩, H, I1, ⟨_, rfl⟩, ⟨rfl, z.cps[i], by simp [hi], rfl⟩, st', fun b hb => (hf b hb).1⟩⟩
  done := by
    intro X hP hw hK hc i pins s σ H E I hf st hg
    subst hP hw hK
    obtain ⟨f0, f1, f2, f3, f4, f5⟩ := hf it (by simp)
    have hi : z.cps.size ≤ i := hg
    exact wpAny_pyNext_ascii_end (I.ok.hd hc) st (by simp [hi]) fun h' eb => ⟨rfl, I.turned (t' := s.toks) (fun b o hb e => eb b o hb e) f0 f1 f3 f4 f5⟩
  self := fun _ _ _ _ _ st h => wpAny_pyIter_striter_ascii st h
theorem turn_strW (it : Addr) (z : Str) (t : Tok) : Turn P w K tg (Its z) [it] it (fun i h => h.IsStrIter it "str_iterator" z t i) where
  mem := by simp
  obj := fun i h st b hb => by
    have e : b = it := by simpa using hb
    subst e
    obtain ⟨o, e, c, d⟩ := st
    exact ⟨o, e, fun v z => by rw [d] at z; cases z⟩
  keep := fun i h h' st k => let ⟨o, e, r⟩ := st; ⟨o, k it (by simp) o e, r⟩
  item := by
    intro X hP hw hK hc i pins s σ H E I hf st hg
    subst hP hw hK
    obtain ⟨f0, f1, f2, f3, f4, f5⟩ := hf it (by simp)
    have hi : i < z.cps.size := hg
    refine wpAny_pyNext_wide_item st (c := z.cps[i]) (by simp [hi]) fun h' st' sb => ?_
    have I1 : Inv X pins σ H { s with heap := h', toks := s.toks + 1 } := I.turned (fun b o hb e => sb.extBut b o hb e) f0 f1 f3 f4 f5
    obtain ⟨o, e, c, d⟩ := id st'
    exact ⟨_, rfl, go_of (s := { s with heap := h', toks := s.toks + 1 }) e c d (by decide) ⟨.str ⟨#[z.cps[i]]⟩, H, I1, ⟨_, rfl⟩, ⟨rfl, z.cps[i], by simp [hi], rfl⟩, st', fun b hb => (hf b hb).1⟩⟩
  done := by
    intro X hP hw hK hc i pins s σ H E I hf st hg
    subst hP hw hK
    obtain ⟨f0, f1, f2, f3, f4, f5⟩ := hf it (by simp)
    have hi : z.cps.size ≤ i := hg
    exact wpAny_pyNext_wide_end (I.ok.hd hc) st (by simp [hi]) fun h' eb => ⟨rfl, I.turned (t' := s.toks) (fun b o hb e => eb b o hb e) f0 f1 f3 f4 f5⟩
  self := fun _ _ _ _ _ st h => wpAny_pyIter_striter_wide st h
end
def iStr (tl : TE) : TI := fun σ H R => tl σ H fun x H1 => ∃ z, x = .str z ∧ R (Its z) H1
theorem pi_str {tg l : Expr} {tl : TE} (hl : PE X l tl) : PI X tg l (iStr tl) := by
  intro pins s σ H R I h
  refine thn (hl pins s σ H _ I h) fun v s1 ⟨x, H1, I1, r1, q1⟩ => ?_
  obtain ⟨z, e, q⟩ := q1
  subst e
  obtain ⟨t, rfl⟩ := r1
  have fp : ∀ (b : Addr), b ∈ [s1.heap.objs.size] → FpOk X pins H1 b := fun b hb => by
    have e : b = s1.heap.objs.size := by simpa using hb
    subst e
    exact I1.fpOk (Nat.le_refl _) (I1.hok.fresh (Nat.le_refl _))
  cases ha : z.cps.all (· < 128)
  · exact wpAny_pyIter_wide ha ⟨s1.heap.objs.size, [s1.heap.objs.size], _, _, H1, rfl, I1.kept (t' := s1.toks) fun b o e => Heap.get?_push_of_some _ e, turn_strW _ z t, ⟨_, Heap.get?_push_size _ rfl, rfl, rfl⟩, fp, q⟩
  · exact wpAny_pyIter_ascii ha ⟨s1.heap.objs.size, [s1.heap.objs.size], _, _, H1, rfl, I1.kept (t' := s1.toks) fun b o e => Heap.get?_push_of_some _ e, turn_strA _ z t, ⟨_, Heap.get?_push_size _ rfl, rfl, rfl⟩, fp, q⟩
end
def closOf (env : Env) : List (Str × NameKind) → Option (List (Str × Addr))
  | [] => some []
  | (n, k) :: r => if k = .free then (env.cells.lookup n).bind fun c => (closOf env r).map fun cl => cl ++ [(n, c)] else closOf env r
theorem closOf_lookup {env : Env} : ∀ {names : List (Str × NameKind)} {cl : List (Str × Addr)}, closOf env names = some cl → ∀ x c, cl.lookup x = some c → env.cells.lookup x = some c
  | [], cl, h, x, c, e => by
    cases (Option.some.inj h)
    cases e
  | (n, k) :: r, cl, h, x, c, e => by
    unfold closOf at h
    by_cases hk : k = .free
    · rw [if_pos hk] at h
      cases hc : env.cells.lookup n with
      | none => rw [hc] at h; cases h
      | some c' =>
        rw [hc] at h
        have h : (closOf env r).map (fun cl => cl ++ [(n, c')]) = some cl := h
        cases hr : closOf env r with
        | none => rw [hr] at h; cases h
        | some cl' =>
          rw [hr] at h
          have h : cl' ++ [(n, c')] = cl := Option.some.inj h
          subst h
          rw [List.lookup_append] at e
          cases h2 : cl'.lookup x with
          | some c2 =>
            rw [h2] at e
            have e : c2 = c := by simpa using e
            subst e
            exact closOf_lookup hr x c2 h2
          | none =>
            rw [h2] at e
            have e : List.lookup x [(n, c')] = some c := by simpa using e
            by_cases hx : x = n
            · subst hx
              have : c' = c := by simpa using e
              subst this
              exact hc
            · have hb : (x == n) = false := by simpa using hx
              simp [List.lookup_cons, hb] at e
    · rw [if_neg hk] at h
      exact closOf_lookup h x c e
theorem closureFor_go {env : Env} : ∀ (names : List (Str × NameKind)) (acc cl : List (Str × Addr)), closOf env names = some cl →
    (forIn (m := Sem) names acc fun x c => if x.2 == NameKind.free then (do let a ← cellOf env x.1; pure (ForInStep.yield ((x.1, a) :: c))) else pure (ForInStep.yield c)) = pure (cl ++ acc)
  | [], acc, cl, h => by
    cases (Option.some.inj h)
    rfl
  | (n, k) :: r, acc, cl, h => by
    unfold closOf at h
    rw [List.forIn_cons]
    by_cases hk : k = .free
    · rw [if_pos hk] at h
      cases hc : env.cells.lookup n with
      | none => rw [hc] at h; cases h
      | some c' =>
        rw [hc] at h
        have h : (closOf env r).map (fun cl => cl ++ [(n, c')]) = some cl := h
        cases hr : closOf env r with
        | none => rw [hr] at h; cases h
        | some cl' =>
          rw [hr] at h
          have h : cl' ++ [(n, c')] = cl := Option.some.inj h
          subst h
          have hb : (k == NameKind.free) = true := by simpa using hk
          have := closureFor_go r ((n, c') :: acc) cl' hr
          have ec : cellOf env n = pure c' := by unfold cellOf; rw [hc]
          simp only [hb, if_true, ec, pure_bind, bind_assoc]
          rw [this]
          simp
    · rw [if_neg hk] at h
      have hb : (k == NameKind.free) = false := by simpa using hk
      have := closureFor_go r acc cl h
      simp only [hb, Bool.false_eq_true, if_false, pure_bind]
      exact this
theorem closureFor_of {env : Env} {scope : Scope} {cl : List (Str × Addr)} (h : closOf env scope.names = some cl) : closureFor scope env = pure cl := by
  have := closureFor_go scope.names [] cl h
  rw [List.append_nil] at this
  have key : closureFor scope env = (forIn (m := Sem) scope.names ([] : List (Str × Addr)) fun x c => if x.2 == NameKind.free then (do let a ← cellOf env x.1; pure (ForInStep.yield ((x.1, a) :: c))) else pure (ForInStep.yield c)) >>= fun cs => pure cs := by
    unfold closureFor
    rfl
  rw [key, this]
  rfl
theorem comp_loop {prog : Program} {w : World} {A : Around} {R : Result → Shared → Prop} {s : Shared} {elt target iter : Expr} {ifs : List Expr} {scope : Scope} {pos : Pos} {it acc : Value} {env : Env} (I : Nat → Shared → Prop)
    (turn : ∀ n s, I n s → wpAny (model prog w) A (pyNext it) (fun r s₁ => match r with
      | none => R (.ok .next) s₁
      | some v => wpAny (model prog w) A (letOwnedTupleGo target it v) (fun _ s₀ => wpAny (model prog w) A (assign target env v) (fun _ s₂ =>
          wpAny (model prog w) A (forIn ifs true fun c r => if r = true then do let ok ← isTrue c env (eval c env); pure (ForInStep.yield ok) else pure (ForInStep.yield r)) (fun ok s₃ =>
            if ok = true then wpAny (model prog w) A (eval elt env) (fun x s₄ =>
              wpAny (model prog w) A (call (.builtin "list.append") [acc, x]) (fun _ s₅ => ∃ m, m < n ∧ I m s₅) (fun _ _ => False) s₄) (fun _ _ => False) s₃
            else ∃ m, m < n ∧ I m s₃) (fun _ _ => False) s₂) (fun _ _ => False) s₀) (fun _ _ => False) s₁) (fun _ _ => False) s)
    (n : Nat) (h : I n s) :
    codeAny (model prog w) A (.compLoop (.ListComp elt [⟨target, iter, ifs, 0⟩] scope pos) 0 it acc env) R s := by
  refine codeAny_loop rfl I (fun n s hI => ?_) n h
  show wpAny _ A ((compTurn (.ListComp elt [⟨target, iter, ifs, 0⟩] scope pos) 0 it acc env).onRaise (fun x => do noteFrame x env; theTreesLotGoes x)) _ _ s
  refine wpAny_noted ?_
  rw [compTurn_list]
  refine wpAny_bind (wpAny_standAt (wpAny_bind (wpAny_mono (turn n s hI) (fun r s₁ h₁ => ?_) fun _ _ h' => h'.elim)))
  cases r with
  | none => exact wpAny_pure h₁
  | some v =>
    refine wpAny_bind (wpAny_mono h₁ (fun _ s₀ h₀ => ?_) fun _ _ h' => h'.elim)
    refine wpAny_bind (wpAny_mono h₀ (fun _ s₂ h₂ => wpAny_bind (wpAny_mono h₂ (fun ok s₃ h₃ => ?_) fun _ _ h' => h'.elim)) fun _ _ h' => h'.elim)
    cases ok with
    | false => exact wpAny_pure ⟨rfl, h₃⟩
    | true =>
      exact wpAny_bind (wpAny_bind (wpAny_mono h₃ (fun x s₄ h₄ => wpAny_bind (wpAny_mono h₄ (fun _ s₅ h₅ => wpAny_pure (wpAny_pure ⟨rfl, h₅⟩)) fun _ _ h' => h'.elim)) fun _ _ h' => h'.elim))
def cxComp (X : Cx) (N : List Str) (scope : Scope) (cl : List (Str × Addr)) (pins : List (Addr × Obj)) (s : Shared) (H : Hp) (fp : List Addr) : Cx where
  prog := X.prog
  w := X.w
  K := X.K
  mg := X.mg
  base := X.base
  A := X.A
  N := N
  s₀ := s
  H₀ := H
  env := compEnvC scope cl s.heap.objs.size X.env
  outer := X.stack
  stack := X.stack
  ex := fp
  fn := fun _ => false
  calm := X.calm
  pn := X.pn ++ pins
  xe := fun _ _ => False
def compStart0 (nt : Nat) (fr : List Nat) (σ : St) : St := List.replicate nt none ++ fr.map fun i => (σ[i]?).getD none
structure CompNames (X : Cx) (N : List Str) (nt : Nat) (fr : List Nat) (scope : Scope) (cl : List (Str × Addr)) : Prop where
  len : N.length = nt + fr.length
  free : ∀ (j : Nat) (i : Nat) (x : Str), fr[j]? = some i → N[nt + j]? = some x → X.N[i]? = some x ∧ (∃ c, cl.lookup x = some c) ∧ (X.env.kindOf x = some .cell ∨ X.env.kindOf x = some .free) ∧
    ((relabel scope X.env).names.lookup x = some .cell ∨ (relabel scope X.env).names.lookup x = some .free)
  cells : ∀ x c, cl.lookup x = some c → X.env.cells.lookup x = some c
  has : ∀ x, ((relabel scope X.env).names.lookup x = some .cell ∨ (relabel scope X.env).names.lookup x = some .free) → ∃ c, cl.lookup x = some c
  kind : scope.kind = .function
theorem Vis_of_cell {X : Cx} {x : Str} (h : X.env.kindOf x = some .cell ∨ X.env.kindOf x = some .free) : Vis X.env.scope x := by
  rcases h with h | h
  · exact .inr (.inl h)
  · exact .inr (.inr h)
section
variable {X : Cx} {N : List Str} {nt : Nat} {fr : List Nat} {scope : Scope} {cl : List (Str × Addr)} {pins : List (Addr × Obj)} {σ : St} {H : Hp} {s : Shared} {fp : List Addr}
theorem comp_ok (I : Inv X pins σ H s) (cn : CompNames X N nt fr scope cl) (hf : ∀ b ∈ fp, FpOk X pins H b) (ho : ∀ b ∈ fp, b < s.heap.objs.size) : (cxComp X N scope cl pins s H fp).Ok where
  mod := I.mod
  kind := cn.kind
  glob := I.ok.glob
  blt := I.ok.blt
  above := Nat.le_refl _
  inj := fun x y c h1 h2 => I.ok.inj x y c (cn.cells x c h1) (cn.cells y c h2)
  has := fun x hx => cn.has x hx
  cab := fun x c h _ => by cases (show false = true from h)
  hd := I.ok.hd
  frames := I.ok.frames
  stk := .inl rfl
  exf := fun b hb => ⟨Nat.ne_of_lt (ho b hb), fun x c e => (hf b hb).2.2.2.2.1 x c (cn.cells x c e)⟩
  bs := I.bs
  bsz := Nat.le_trans I.ok.bsz I.sz
  noex := fun b o e hb => by
    rcases (hf b hb).2.2.2.1 with z | z
    · exact I.ok.noex b o e z
    · exact absurd (Nat.lt_of_lt_of_le (Heap.lt_size e) (Nat.le_trans I.ok.bsz z)) (Nat.lt_irrefl _)
  exfs := fun b hb z => (List.mem_cons.mp (I.stkSub b z)).elim (fun e => (hf b hb).2.1 e) fun e => (hf b hb).2.2.1 e
  funs := I.stack
  frf := I.stkFree
theorem comp_inv {h4 : Heap} {t' : Nat} (I : Inv X pins σ H s) (cn : CompNames X N nt fr scope cl) (hf : ∀ b ∈ fp, FpOk X pins H b) (ho : ∀ b ∈ fp, b < s.heap.objs.size)
    (k : ∀ b o, s.heap.get? b = some o → h4.get? b = some o) (hns : ∃ m, h4.Ns s.heap.objs.size m) : Inv (cxComp X N scope cl pins s H fp) [] (compStart0 nt fr σ) H { s with heap := h4, toks := t' } := by
  have ck : ∀ {c : Addr} {v : Option Value}, s.heap.IsCell c v → h4.IsCell c v := fun ⟨o, e, d⟩ => ⟨o, k _ o e, d⟩
  refine ⟨comp_ok I cn hf ho, rfl, I.bare, Un.kept k, ?_, fun x c e => ?_, ?_, fun x c e => ?_, fun p hp => ?_, I.hok.kept k, ?_⟩
  · obtain ⟨m, hm⟩ := hns
    refine ⟨m, hm, fun i x v e1 e2 _ => ?_⟩
    have e2 : (compStart0 nt fr σ)[i]? = some (some v) := e2
    have e1 : N[i]? = some x := e1
    unfold compStart0 at e2
    by_cases hi : i < nt
    · rw [List.getElem?_append_left (by simpa using hi), List.getElem?_replicate, if_pos hi] at e2
      cases e2
    · obtain ⟨j, rfl⟩ : ∃ j, i = nt + j := ⟨i - nt, by omega⟩
      rw [List.getElem?_append_right (by simp), List.length_replicate, Nat.add_sub_cancel_left, List.getElem?_map] at e2
      cases hj : fr[j]? with
      | none => rw [hj] at e2; cases e2
      | some i' =>
        rw [hj] at e2
        have e2 : (σ[i']?).getD none = some v := Option.some.inj e2
        have e3 : σ[i']? = some (some v) := by
          cases q : σ[i']? with
          | none => rw [q] at e2; cases e2
          | some o => rw [q] at e2; rw [show o = some v from e2]
        obtain ⟨hN, ⟨c, hc⟩, hk, hk'⟩ := cn.free j i' x hj e1
        obtain ⟨m0, _, hl⟩ := I.loc
        obtain ⟨u, r, l⟩ := hl i' x v hN e3 (Vis_of_cell hk)
        refine ⟨u, r, .inr ⟨hk', c, hc, ?_⟩⟩
        rcases l with ⟨hl', _⟩ | ⟨_, c', hc', hcell⟩
        · rcases hk with z | z <;> (rw [hl'] at z; cases z)
        · have hcc := cn.cells x c hc
          rw [hc'] at hcc; cases hcc
          exact ck hcell
  · obtain ⟨v, hv⟩ := I.cell x c (cn.cells x c e)
    exact ⟨v, ck hv⟩
  · exact I.hok.fresh (Nat.le_refl _)
  · exact I.freeC x c (cn.cells x c e)
  · have hp : p ∈ (X.pn ++ pins) ++ [] := hp
    rw [List.append_nil] at hp
    obtain ⟨e, n, ne, nf, d⟩ := I.pin p hp
    exact ⟨k p.1 p.2 e, n, Nat.ne_of_lt (Heap.lt_size e), fun z => (List.mem_cons.mp (I.stkSub p.1 z)).elim ne nf, d⟩
  · show (compStart0 nt fr σ).length = N.length
    unfold compStart0
    rw [cn.len, List.length_append, List.length_replicate, List.length_map]
theorem comp_back {H' : Hp} {s1 s' : Shared} {h' : Heap} {σ' : St} (I : Inv X pins σ H s) (hsz : s.heap.objs.size ≤ s1.heap.objs.size) (hos : s1.os = s.os) {H1 : Hp} (hH : Un (frs X.stack) fp H H1 s.heap s1.heap)
    (hf : ∀ b ∈ fp, FpOk X pins H b)
    (J : Inv (cxComp X N scope cl pins s1 H1 fp) [] σ' H' s') (sb : Heap.SameBut s1.heap.objs.size s'.heap h') : Inv X pins σ H' { s' with heap := h' } := by
  have u : Un (frs X.stack) fp H H' s.heap s'.heap := hH.trans J.base
  have lt : ∀ b o, s.heap.get? b = some o → b ≠ s1.heap.objs.size := fun b o e => Nat.ne_of_lt (Nat.lt_of_lt_of_le (Heap.lt_size e) hsz)
  have kk : ∀ b o, b ≠ s1.heap.objs.size → s'.heap.get? b = some o → h'.get? b = some o := fun b o hb e => sb.extBut b o hb e
  have u' : Un (frs X.stack) fp H H' s.heap h' := ⟨fun b o e n hb hx => kk b o (lt b o e) (u.keep b o e n hb hx), fun b o e n hb hx => let ⟨sl, z⟩ := u.slot b o e n hb hx; ⟨sl, kk b _ (lt b o e) z⟩, u.free,
    fun b o e hx => let ⟨o', z⟩ := u.there b o e hx; ⟨o', kk b o' (lt b o e) z⟩, u.tups, u.frzs, u.tbls⟩
  have nC : H' s1.heap.objs.size = none := J.free
  refine I.call' (s' := { s' with heap := h' }) (ch := fp) (J.os.trans hos) u' (fun a o e => ?_) J.bare fun b hb => ⟨(hf b hb).2.2.2.1, (hf b hb).2.1, (hf b hb).2.2.2.2.1, (hf b hb).2.2.2.2.2⟩
  refine (J.hok a o e).stay (fun b v hb q => kk b v ?_ q) (fun _ q => q) fun _ _ q => q
  rcases hb with z | z
  · rintro rfl
    rw [← z, nC] at e; cases e
  · rintro rfl
    rw [nC] at z; cases z
end
def freeB (X : Cx) (N : List Str) (nt : Nat) (scope : Scope) : List Nat → Nat → Bool
  | [], _ => true
  | i :: r, j => (match N[nt + j]? with
    | some x => decide (X.N[i]? = some x) && decide (scope.names.lookup x = some .free) && (decide (X.env.kindOf x = some .cell) || decide (X.env.kindOf x = some .free))
    | none => false) && freeB X N nt scope r (j + 1)
theorem freeB_at {X : Cx} {N : List Str} {nt : Nat} {scope : Scope} : ∀ {fr : List Nat} {k : Nat}, freeB X N nt scope fr k = true → ∀ (j i : Nat) (x : Str), fr[j]? = some i → N[nt + (k + j)]? = some x →
    X.N[i]? = some x ∧ scope.names.lookup x = some .free ∧ (X.env.kindOf x = some .cell ∨ X.env.kindOf x = some .free)
  | [], _, _, j, i, x, e, _ => by simp at e
  | i0 :: r, k, h, j, i, x, e1, e2 => by
    unfold freeB at h
    rw [Bool.and_eq_true] at h
    obtain ⟨h1, h2⟩ := h
    cases j with
    | zero =>
      have e1 : i0 = i := by simpa using e1
      subst e1
      rw [Nat.add_zero] at e2
      rw [e2] at h1
      simp only [Bool.and_eq_true, Bool.or_eq_true, decide_eq_true_eq] at h1
      exact ⟨h1.1.1, h1.1.2, h1.2⟩
    | succ j =>
      exact freeB_at h2 j i x (by simpa using e1) (by rw [show nt + (k + 1 + j) = nt + (k + (j + 1)) by omega]; exact e2)
theorem lookup_relabel {env : Env} : ∀ {names : List (Str × NameKind)} {x : Str} {k' : NameKind},
    (names.map fun (n, k) => if (k == NameKind.free && env.scope.kind == .function && env.kindOf n == some .cell) then (n, NameKind.cell) else (n, k)).lookup x = some k' →
    ∃ k, names.lookup x = some k ∧ (k = k' ∨ (k = .free ∧ k' = .cell))
  | [], _, _, h => by simp at h
  | (n, k) :: r, x, k', h => by
    have h : List.lookup x ((if (k == NameKind.free && env.scope.kind == .function && env.kindOf n == some .cell) = true then (n, NameKind.cell) else (n, k)) :: r.map _) = some k' := h
    cases hx : x == n with
    | true =>
      by_cases hc : (k == NameKind.free && env.scope.kind == .function && env.kindOf n == some .cell) = true
      · rw [if_pos hc] at h
        simp only [List.lookup_cons, hx] at h
        have hk : k = .free := by
          simp only [Bool.and_eq_true, beq_iff_eq] at hc
          exact hc.1.1
        exact ⟨k, by simp [List.lookup_cons, hx], .inr ⟨hk, (Option.some.inj h).symm⟩⟩
      · rw [if_neg hc] at h
        simp only [List.lookup_cons, hx] at h
        exact ⟨k, by simp [List.lookup_cons, hx], .inl (Option.some.inj h)⟩
    | false =>
      have h2 : List.lookup x (r.map fun (n, k) => if (k == NameKind.free && env.scope.kind == .function && env.kindOf n == some .cell) then (n, NameKind.cell) else (n, k)) = some k' := by
        by_cases hc : (k == NameKind.free && env.scope.kind == .function && env.kindOf n == some .cell) = true
        · rw [if_pos hc] at h; simpa only [List.lookup_cons, hx] using h
        · rw [if_neg hc] at h; simpa only [List.lookup_cons, hx] using h
      obtain ⟨k2, e2, o2⟩ := lookup_relabel h2
      exact ⟨k2, by simp only [List.lookup_cons, hx]; exact e2, o2⟩
theorem relabel_free {env : Env} : ∀ {names : List (Str × NameKind)} {x : Str}, names.lookup x = some .free →
    (names.map fun (n, k) => if (k == NameKind.free && env.scope.kind == .function && env.kindOf n == some .cell) then (n, NameKind.cell) else (n, k)).lookup x = some .cell ∨
    (names.map fun (n, k) => if (k == NameKind.free && env.scope.kind == .function && env.kindOf n == some .cell) then (n, NameKind.cell) else (n, k)).lookup x = some .free
  | [], _, h => by simp at h
  | (n, k) :: r, x, h => by
    show List.lookup x ((if (k == NameKind.free && env.scope.kind == .function && env.kindOf n == some .cell) = true then (n, NameKind.cell) else (n, k)) :: r.map _) = some .cell ∨ List.lookup x ((if (k == NameKind.free && env.scope.kind == .function && env.kindOf n == some .cell) = true then (n, NameKind.cell) else (n, k)) :: r.map _) = some .free
    cases hx : x == n with
    | true =>
      simp only [List.lookup_cons, hx] at h
      cases h
      by_cases hc : (NameKind.free == NameKind.free && env.scope.kind == .function && env.kindOf n == some .cell) = true
      · rw [if_pos hc]; left; simp [List.lookup_cons, hx]
      · rw [if_neg hc]; right; simp [List.lookup_cons, hx]
    | false =>
      simp only [List.lookup_cons, hx] at h
      have ih := relabel_free (env := env) h
      by_cases hc : (k == NameKind.free && env.scope.kind == .function && env.kindOf n == some .cell) = true
      · rw [if_pos hc]; simpa only [List.lookup_cons, hx] using ih
      · rw [if_neg hc]; simpa only [List.lookup_cons, hx] using ih
theorem closOf_has {env : Env} : ∀ {names : List (Str × NameKind)} {cl : List (Str × Addr)}, closOf env names = some cl → ∀ x, names.lookup x = some .free → ∃ c, cl.lookup x = some c
  | [], _, _, x, e => by simp at e
  | (n, k) :: r, cl, h, x, e => by
    unfold closOf at h
    by_cases hk : k = .free
    · rw [if_pos hk] at h
      cases hc : env.cells.lookup n with
      | none => rw [hc] at h; cases h
      | some c' =>
        rw [hc] at h
        have h : (closOf env r).map (fun cl => cl ++ [(n, c')]) = some cl := h
        cases hr : closOf env r with
        | none => rw [hr] at h; cases h
        | some cl' =>
          rw [hr] at h
          have h : cl' ++ [(n, c')] = cl := Option.some.inj h
          subst h
          rw [List.lookup_append]
          cases h2 : cl'.lookup x with
          | some c2 => exact ⟨c2, by simp⟩
          | none =>
            cases hx : x == n with
            | true => exact ⟨c', by simp [List.lookup_cons, hx]⟩
            | false =>
              simp only [List.lookup_cons, hx] at e
              obtain ⟨c3, e3⟩ := closOf_has hr x e
              rw [h2] at e3; cases e3
    · rw [if_neg hk] at h
      cases hx : x == n with
      | true =>
        simp only [List.lookup_cons, hx] at e
        exact absurd (Option.some.inj e) hk
      | false =>
        simp only [List.lookup_cons, hx] at e
        exact closOf_has h x e
theorem CompNames.of {X : Cx} {N : List Str} {nt : Nat} {fr : List Nat} {scope : Scope} {cl : List (Str × Addr)} (hcl : closOf X.env scope.names = some cl) (hlen : N.length = nt + fr.length) (hB : freeB X N nt scope fr 0 = true)
    (hcell : ∀ y ∈ scope.names, y.2 ≠ .cell) (hkind : scope.kind = .function) : CompNames X N nt fr scope cl where
  len := hlen
  free := fun j i x e1 e2 => by
    obtain ⟨h1, h2, h3⟩ := freeB_at hB j i x e1 (by rw [Nat.zero_add]; exact e2)
    exact ⟨h1, closOf_has hcl x h2, h3, relabel_free h2⟩
  cells := closOf_lookup hcl
  has := fun x hx => by
    have : scope.names.lookup x = some .free := by
      rcases hx with hx | hx
      · obtain ⟨k, e, o⟩ := lookup_relabel (names := scope.names) (env := X.env) hx
        rcases o with rfl | ⟨rfl, _⟩
        · exact absurd rfl (hcell _ (PySem.mem_of_lookup e))
        · exact e
      · obtain ⟨k, e, o⟩ := lookup_relabel (names := scope.names) (env := X.env) hx
        rcases o with rfl | ⟨rfl, _⟩
        · exact e
        · exact e
    exact closOf_has hcl x this
  kind := hkind
def PIf (X : Cx) (ifs : List Expr) (t : TT) : Prop :=
  ∀ (pins : List (Addr × Obj)) (s : Shared) (σ : St) (H : Hp) (Q : Bool → Hp → Prop), Inv X pins σ H s → t σ H Q →
    wpAny (model X.prog X.w) X.A (forIn ifs true fun c r => if r = true then do let ok ← isTrue c X.env (eval c X.env); pure (ForInStep.yield ok) else pure (ForInStep.yield r)) (TP X pins σ Q) X.xe s
def tTrue : TT := fun _ H Q => Q true H
theorem pif_nil {X : Cx} : PIf X [] tTrue := fun _ _ _ H _ I h => wpAny_pure ⟨H, I, h⟩
def CompGoal (J : It) (nt : Nat) (fr : List Nat) (g : TG) (c : TT) (te : TE) (σ : St) (H1 : Hp) (Q : VK) (acc : Addr) : Prop :=
  ∃ W : Nat → Nat → St → List V → Hp → Prop, (∃ m, W 0 m (compStart0 nt fr σ) [] (upd H1 acc (.lst []))) ∧ ∀ i m σ' ys H', W i m σ' ys H' → H' acc = some (.lst ys) ∧
    ((J.stop i H' ∧ Q (.ref acc) H') ∨ (J.go i H' ∧ ∀ x H2, J.yld i H' x H2 → g x σ' H2 fun σ2 H3 => c σ2 H3 fun b H4 => if b = true then
      te σ2 H4 fun y H5 => ys.length < sizeLine ∧ H5 acc = some (.lst ys) ∧ ∃ m', m' < m ∧ W (i + 1) m' σ2 (ys ++ [y]) (upd H5 acc (.lst (ys ++ [y])))
      else ∃ m', m' < m ∧ W (i + 1) m' σ2 ys H4))
def tComp (wi : TI) (nt : Nat) (fr : List Nat) (g : TG) (c : TT) (te : TE) : TE := fun σ H Q => wi σ H fun J H1 => ∀ acc, H1 acc = none → CompGoal J nt fr g c te σ H1 Q acc
section
variable {X : Cx} {target iter elt : Expr} {ifs : List Expr} {scope : Scope} {pos : Pos} {N : List Str} {nt : Nat} {fr : List Nat} {cl : List (Str × Addr)} {wi : TI} {g : TG} {c : TT} {te : TE}
theorem comp_fp {pins : List (Addr × Obj)} {σ : St} {H H1 : Hp} {s : Shared} {fp : List Addr} (I : Inv X pins σ H s) (cn : CompNames X N nt fr scope cl) (hf : ∀ b ∈ fp, FpOk X pins H b) (ho : ∀ b ∈ fp, b < s.heap.objs.size) {H' : Hp} (hn : ∀ b ∈ fp, H' b = none) :
    ∀ b ∈ fp, FpOk (cxComp X N scope cl pins s H1 fp) [] H' b := fun b hb =>
  ⟨hn b hb, Nat.ne_of_lt (ho b hb), fun z => (List.mem_cons.mp (I.stkSub b z)).elim (hf b hb).2.1 (hf b hb).2.2.1, .inl hb, fun x c e => (hf b hb).2.2.2.2.1 x c (cn.cells x c e), fun p hp => (hf b hb).2.2.2.2.2 p (by
    have hp : p ∈ (X.pn ++ pins) ++ [] := hp
    rw [List.append_nil] at hp
    exact hp)⟩
theorem comp_block {pins : List (Addr × Obj)} {σ : St} {s : Shared} {Q : VK} {itv : Value} {RR : Value → Addr → Result → Shared → Prop} {E : Value → Shared → Prop}
    (hc : X.calm = true) (cn : CompNames X N nt fr scope cl) (hcell : ∀ y ∈ scope.names, y.2 ≠ .cell)
    (hg : ∀ pins s H fp, PG (cxComp X N scope cl pins s H fp) target g) (hif : ∀ pins s H fp, PIf (cxComp X N scope cl pins s H fp) ifs c) (he : ∀ pins s H fp, PE (cxComp X N scope cl pins s H fp) elt te)
    (h : PIE X pins σ target (fun J H1 => ∀ acc, H1 acc = none → CompGoal J nt fr g c te σ H1 Q acc) itv s)
    (hRR : ∀ (acc C : Addr) (s' : Shared) (H' : Hp), (∃ m, s'.heap.Ns C m) → Inv X pins σ H' s' → FpOk X pins H' C → Q (.ref acc) H' → RR (.ref acc) C (.ok .next) s') :
    wpAny (model X.prog X.w) X.A (newList []) (fun acc s₃ => wpAny (model X.prog X.w) X.A (newFunctionEnv scope X.env.globals cl [] X.env.qual none .none (some X.env)) (fun cenv s₄ =>
      codeAny (model X.prog X.w) X.A (.compStart (.ListComp elt [⟨target, iter, ifs, 0⟩] scope pos) 0 itv acc { cenv with scope := relabel scope X.env }) (RR acc cenv.locals) s₄) E s₃) E s := by
  obtain ⟨it, fp, tn, J, H2, e, I2, T, st2, f2, R⟩ := h
  subst e
  have fo : ∀ b ∈ fp, b < s.heap.objs.size := fun b hb => let ⟨o, e, _⟩ := T.obj 0 _ st2 b hb; Heap.lt_size e
  refine wpAny_newObj_type (wpAny_newFunctionEnv hcell (by intro y hy; simp at hy) (fun h₁ hns₁ hsb₁ => ?_) cn.kind)
  dsimp only at hns₁ hsb₁ ⊢
  have ha : H2 s.heap.objs.size = none := I2.hok.fresh (Nat.le_refl _)
  have I3 : Inv X pins σ (upd H2 s.heap.objs.size (.lst [])) { s with heap := s.heap.push { cls := .type "list", data := .seq ([] : List Value).toArray } } :=
    I2.laid (t' := s.toks) (fun b u e => Heap.get?_push_of_some _ e) (Nat.le_refl _) ⟨Nat.zero_le _, [], 0, .nil, Heap.get?_push_size _ rfl⟩
  generalize hs3 : ({ s with heap := s.heap.push { cls := .type "list", data := .seq ([] : List Value).toArray } } : Shared) = s3 at I3
  have hh3 : s3.heap = s.heap.push { cls := .type "list", data := .seq ([] : List Value).toArray } := by rw [← hs3]
  have hsz : s3.heap.objs.size = s.heap.objs.size + 1 := by rw [hh3, Heap.size_push]
  have fne : ∀ b ∈ fp, b ≠ s.heap.objs.size := fun b hb => Nat.ne_of_lt (fo b hb)
  have f3 : ∀ b ∈ fp, FpOk X pins (upd H2 s.heap.objs.size (.lst [])) b := fun b hb => ⟨by rw [upd_ne (fne b hb)]; exact (f2 b hb).1, (f2 b hb).2⟩
  have fo3 : ∀ b ∈ fp, b < s3.heap.objs.size := fun b hb => by rw [hsz]; exact Nat.lt_succ_of_lt (fo b hb)
  have k3 : ∀ b o, s3.heap.get? b = some o → h₁.get? b = some o := fun b o e => hsb₁.extBut b o (by rw [← hh3]; exact Nat.ne_of_lt (Heap.lt_size e)) (by rw [← hh3]; exact Heap.get?_push_of_some _ e)
  have hns : ∃ m, h₁.Ns s3.heap.objs.size m := ⟨_, by rw [hh3]; exact hns₁⟩
  have I4 : Inv (cxComp X N scope cl pins s3 (upd H2 s.heap.objs.size (.lst [])) fp) [] (compStart0 nt fr σ) (upd H2 s.heap.objs.size (.lst [])) { s3 with heap := h₁, toks := s3.toks + ([] : List (Str × Value)).length } := comp_inv I3 cn f3 fo3 k3 hns
  have st4 : tn 0 h₁ := T.keep 0 _ _ st2 fun b hb o e => k3 b o (by rw [hh3]; exact Heap.get?_push_of_some _ e)
  obtain ⟨W, ⟨m0, w0⟩, turn⟩ := R s.heap.objs.size ha
  have stat : ∀ {H' : Hp}, (∀ b ∈ fp, H' b = none) → ∀ b ∈ fp, FpOk (cxComp X N scope cl pins s3 (upd H2 s.heap.objs.size (.lst [])) fp) [] H' b := fun hn => comp_fp I3 cn f3 fo3 hn
  have hH : Un (frs X.stack) fp H2 (upd H2 s.heap.objs.size (.lst [])) s.heap s3.heap := by
    rw [hh3]
    exact Un.laid (fun b u e => Heap.get?_push_of_some _ e) (Nat.le_refl _) ha
  have back : ∀ {σ' : St} {H' : Hp} {s' : Shared} {h' : Heap}, Inv (cxComp X N scope cl pins s3 (upd H2 s.heap.objs.size (.lst [])) fp) [] σ' H' s' → Heap.SameBut s3.heap.objs.size s'.heap h' → Inv X pins σ H' { s' with heap := h' } := fun J' sb =>
    comp_back I2 (by rw [hsz]; exact Nat.le_succ _) (by rw [← hs3]) hH f2 J' sb
  have loop : codeAny (model X.prog X.w) X.A (.compLoop (.ListComp elt [⟨target, iter, ifs, 0⟩] scope pos) 0 (.ref it) (.ref s.heap.objs.size) (compEnvC scope cl s3.heap.objs.size X.env)) (RR (.ref s.heap.objs.size) s3.heap.objs.size)
      { s3 with heap := h₁, toks := s3.toks + ([] : List (Str × Value)).length } := by
    refine comp_loop (fun n s' => ∃ i σ' ys H', Inv (cxComp X N scope cl pins s3 (upd H2 s.heap.objs.size (.lst [])) fp) [] σ' H' s' ∧ tn i s'.heap ∧ (∀ b ∈ fp, H' b = none) ∧ W i n σ' ys H') ?_ m0
      ⟨0, _, [], _, I4, st4, fun b hb => (f3 b hb).1, w0⟩
    rintro n s5 ⟨i, σ5, ys, H5, I5, st5, fr5, w5⟩
    obtain ⟨hacc, step⟩ := turn i n σ5 ys H5 w5
    rcases step with ⟨stop, q⟩ | ⟨go, step⟩
    · refine thn (T.done (cxComp X N scope cl pins s3 (upd H2 s.heap.objs.size (.lst [])) fp) rfl rfl rfl hc i [] s5 σ5 H5 (fun _ _ => False) I5 (stat fr5) st5 stop) fun r s6 ⟨hr, I6⟩ => ?_
      subst hr
      obtain ⟨m, hm, _⟩ := I6.loc
      exact hRR _ _ s6 H5 ⟨m, hm⟩ (back I6 (Heap.SameBut.refl _ _)) (I2.fpOk (by rw [hsz]; exact Nat.le_succ _) I6.free) q
    · refine thn (T.item (cxComp X N scope cl pins s3 (upd H2 s.heap.objs.size (.lst [])) fp) rfl rfl rfl hc i [] s5 σ5 H5 (fun _ _ => False) I5 (stat fr5) st5 go) fun r s6 ⟨u, hr, h6⟩ => ?_
      subst hr
      refine thn h6 fun _ s7 ⟨x, H7, I7, r7, y7, st7, fr7⟩ => ?_
      have I7' := I7.pinned (stat fr7) (T.obj _ _ st7)
      refine thn (hg pins s3 _ fp _ s7 σ5 H7 x u _ I7' r7 (step x H7 y7)) fun _ s8 ⟨σ8, H8, I8, q8⟩ => ?_
      have keepT : ∀ {σ' : St} {H' : Hp} {s' : Shared}, Inv (cxComp X N scope cl pins s3 (upd H2 s.heap.objs.size (.lst [])) fp) ([] ++ pinsAt fp s7.heap) σ' H' s' → tn (i + 1) s'.heap ∧ ∀ b ∈ fp, H' b = none := fun {σ' H' s'} I' =>
        ⟨T.keep _ _ _ st7 fun b hb o e => (I'.pin (b, o) (List.mem_append_right _ (List.mem_append_right _ (mem_pinsAt hb e)))).1, fun b hb => by
          obtain ⟨o, e, d⟩ := T.obj _ _ st7 b hb
          exact (I'.pin (b, o) (List.mem_append_right _ (List.mem_append_right _ (mem_pinsAt hb e)))).2.1⟩
      refine thn (hif pins s3 _ fp _ s8 σ8 H8 _ I8 q8) fun ok s9 ⟨H9, I9, q9⟩ => ?_
      cases ok with
      | false =>
        have q9 : ∃ m', m' < n ∧ W (i + 1) m' σ8 ys H9 := q9
        obtain ⟨m', hm, w9⟩ := q9
        exact ⟨m', hm, i + 1, σ8, ys, H9, I9.unpinned, (keepT I9).1, (keepT I9).2, w9⟩
      | true =>
        rw [if_pos rfl]
        refine thn (he pins s3 _ fp _ s9 σ8 H9 _ I9 q9) fun z s10 ⟨y, H10, I10, r10, hz, ha10, m', hm, w10⟩ => ?_
        refine thn (mt_append _ s10 σ8 H10 (.ref s.heap.objs.size) [y] (.ref s.heap.objs.size) [z] (fun v H' => v = .non ∧ H' = upd H10 s.heap.objs.size (.lst (ys ++ [y]))) I10 rfl (.cons r10 .nil) ⟨_, ys, y, rfl, rfl, ha10, hz, rfl, rfl⟩) fun v s11 ⟨_, H11, I11, _, _, e11⟩ => ?_
        subst e11
        exact ⟨m', hm, i + 1, σ8, ys ++ [y], _, I11.unpinned, (keepT I11).1, (keepT I11).2, w10⟩
  have fin : codeAny (model X.prog X.w) X.A (.compStart (.ListComp elt [⟨target, iter, ifs, 0⟩] scope pos) 0 (.ref it) (.ref s.heap.objs.size) (compEnvC scope cl s3.heap.objs.size X.env)) (RR (.ref s.heap.objs.size) s3.heap.objs.size)
      { s3 with heap := h₁, toks := s3.toks + ([] : List (Str × Value)).length } :=
    codeAny_compStart_list loop (T.self _ 0 _ _ _ st4 loop)
  rw [← hs3] at fin
  exact fin
theorem pe_comp (hi : PI X target iter wi) (hg : ∀ pins s H fp, PG (cxComp X N scope cl pins s H fp) target g) (hif : ∀ pins s H fp, PIf (cxComp X N scope cl pins s H fp) ifs c) (he : ∀ pins s H fp, PE (cxComp X N scope cl pins s H fp) elt te)
    (hc : X.calm = true := by rfl) (hcl : closOf X.env scope.names = some cl := by rfl) (hlen : N.length = nt + fr.length := by rfl) (hB : freeB X N nt scope fr 0 = true := by rfl)
    (hcell : ∀ y ∈ scope.names, y.2 ≠ .cell := by decide +kernel) (hkind : scope.kind = .function := by rfl) (hnames : ∀ y ∈ scope.names, y.2 = .local → scope.names.lookup y.1 = some .local := by decide +kernel)
    (hs : ∀ x, foldedSetIterable iter X.env x = pure x := by intro _; rfl) : PE X (.ListComp elt [⟨target, iter, ifs, 0⟩] scope pos) (tComp wi nt fr g c te) := by
  intro pins s σ H Q I h
  rw [eval_ListComp]
  refine wpAny_comprehension_free (use := none) rfl hs (closureFor_of hcl) hkind hnames (thn (hi pins s σ H _ I h) fun xv s1 h1 => thn h1 fun itv s2 h2 => ?_)
  exact comp_block hc (CompNames.of hcl hlen hB hcell hkind) hcell hg hif he h2 fun acc C s' H' ⟨m, hm⟩ hI hF hq => ⟨m, hm, fun h' sb => ⟨.ref acc, H', hI.turned (t' := s'.toks) (fun b o hb e => sb.extBut b o hb e) hF.1 hF.2.1 hF.2.2.2.1 hF.2.2.2.2.1 hF.2.2.2.2.2, rfl, hq⟩⟩
theorem ps_setc {i : Nat} {y : Str} {py spos : Pos} (hN : X.N.Nodup) (hyi : X.N[i]? = some y) (hy : Loc X.env.scope y) (hi : PI X target iter wi) (hg : ∀ pins s H fp, PG (cxComp X N scope cl pins s H fp) target g) (hif : ∀ pins s H fp, PIf (cxComp X N scope cl pins s H fp) ifs c) (he : ∀ pins s H fp, PE (cxComp X N scope cl pins s H fp) elt te)
    (hsw : swapsWith (.ListComp elt [⟨target, iter, ifs, 0⟩] scope pos) (some (.Name y py)) spos.line X.env = pure true := by rfl)
    (hc : X.calm = true := by rfl) (hcl : closOf X.env scope.names = some cl := by rfl) (hlen : N.length = nt + fr.length := by rfl) (hB : freeB X N nt scope fr 0 = true := by rfl)
    (hcell : ∀ y ∈ scope.names, y.2 ≠ .cell := by decide +kernel) (hkind : scope.kind = .function := by rfl) (hnames : ∀ y ∈ scope.names, y.2 = .local → scope.names.lookup y.1 = some .local := by decide +kernel)
    (hs : ∀ x, foldedSetIterable iter X.env x = pure x := by intro _; rfl) (hf : X.fn y = true ∨ X.env.scope.names.lookup y = some .local := by first | exact .inl rfl | exact .inr rfl | assumption) :
    PS X (.Assign [.Name y py] (.ListComp elt [⟨target, iter, ifs, 0⟩] scope pos) spos) (tAsg (tComp wi nt fr g c te) (gName i)) := by
  intro pins s σ H D I h
  rw [exec_Assign_Name_used _ _ _ _ hsw]
  refine wpAny_bind (wpAny_standAt (wpAny_bind ?_))
  show wpAny _ X.A (do let _ ← comprehension (.ListComp elt [⟨target, iter, ifs, 0⟩] scope pos) scope X.env _ (newList []) false (eval iter X.env) (some (assign (.Name y py) X.env))) _ _ s
  refine wpAny_bind (wpAny_mono (wpAny_comprehension_free (use := some (assign (.Name y py) X.env)) (Q := fun _ s' => SP X pins D .next s') rfl hs (closureFor_of hcl) hkind hnames (thn (hi pins s σ H _ I h) fun xv s1 h1 => thn h1 fun itv s2 h2 => ?_)) (fun _ s' hq => wpAny_pure (wpAny_pure hq)) fun _ _ e => e)
  refine comp_block (Q := fun x H1 => gName i x σ H1 D.nx) (RR := fun acc C => compPost (model X.prog X.w) X.A X.xe (some (assign (.Name y py) X.env)) (fun _ s' => SP X pins D .next s') acc C) hc (CompNames.of hcl hlen hB hcell hkind) hcell hg hif he h2 fun acc C s' H' ⟨m, hm⟩ hI hF hq => ?_
  show wpAny _ X.A (assign (.Name y py) X.env (.ref acc)) _ _ _
  refine wpAny_assign_Name (store_ok2 hI hN hyi hy (v := .ref acc) rfl (fun s3 I3 ⟨a, sb, ha⟩ => ?_) hf)
  have hne : C ≠ a := by
    rcases ha with rfl | ha
    · exact hF.2.1
    · exact fun z => hF.2.2.2.2.1 y a ha z.symm
  refine ⟨m, hm.sameBut sb hne, fun h' sb' => ⟨_, H', I3.turned (t' := s3.toks) (fun b o hb e => sb'.extBut b o hb e) hF.1 hF.2.1 hF.2.2.2.1 hF.2.2.2.2.1 hF.2.2.2.2.2, hq⟩⟩
end
structure ItemsOf (J : It) (xs : List V) (L : Hp → Prop) : Prop where
  go : ∀ i H, L H → i < xs.length → J.go i H
  yld : ∀ i H x H', L H → i < xs.length → J.yld i H x H' → H' = H ∧ xs[i]? = some x
  stop : ∀ H, L H → J.stop xs.length H
theorem items_list {K : PySem.W.Frag} {a : Addr} {xs : List V} : ItemsOf (Itl K a) xs (fun H => SqL K H a xs) :=
  ⟨fun i H h hi => ⟨xs, xs[i], h, by simp [hi]⟩, fun i H x H' h hi y => ⟨y.1, y.2 xs h⟩, fun H h => ⟨xs, h, Nat.le_refl _⟩⟩
theorem items_tup {K : PySem.W.Frag} {a : Addr} {xs : List V} : ItemsOf (Itt K a) xs (fun H => SqT K H a xs) :=
  ⟨fun i H h hi => ⟨xs, xs[i], h, by simp [hi]⟩, fun i H x H' h hi y => ⟨y.1, y.2 xs h⟩, fun H h => ⟨xs, h, Nat.le_refl _⟩⟩
def signsV (z : Str) : List V := z.cps.toList.map fun c => V.str ⟨#[c]⟩
theorem items_str {z : Str} : ItemsOf (Its z) (signsV z) (fun _ => True) :=
  ⟨fun i H _ hi => by show i < z.cps.size; simpa [signsV] using hi, fun i H x H' _ hi y => ⟨y.1, by
    obtain ⟨_, c, e, rfl⟩ := y
    have hi : i < z.cps.size := by simpa [signsV] using hi
    have e : z.cps[i] = c := by simpa [hi] using e
    simp [signsV, hi, e]⟩, fun H _ => by show z.cps.size ≤ _; simp [signsV]⟩
def CompW (xs : List V) (nt : Nat) (fvs : St) (Pv : Nat → List V → Hp → Prop) : Nat → Nat → St → List V → Hp → Prop := fun i m σ' ys H' =>
  m = xs.length - i ∧ i ≤ xs.length ∧ Pv i ys H' ∧ ∃ tv : List (Option V), tv.length = nt ∧ σ' = tv ++ fvs
theorem CompW.next {xs : List V} {nt : Nat} {fvs : St} {Pv : Nat → List V → Hp → Prop} {i : Nat} {tv : List (Option V)} {ys : List V} {H : Hp} (hi : i < xs.length) (p : Pv (i + 1) ys H) (ht : tv.length = nt) :
    ∃ m', m' < xs.length - i ∧ CompW xs nt fvs Pv (i + 1) m' (tv ++ fvs) ys H := ⟨xs.length - (i + 1), by omega, rfl, hi, p, tv, ht, rfl⟩
theorem comp_by {J : It} {xs : List V} {L : Hp → Prop} {σ : St} {H1 : Hp} {nt : Nat} {fr : List Nat} {g : TG} {c : TT} {te : TE} {Q : VK} {acc : Addr} (it : ItemsOf J xs L) (Pv : Nat → List V → Hp → Prop)
    (h0 : Pv 0 [] (upd H1 acc (.lst []))) (hL : ∀ i ys H', i ≤ xs.length → Pv i ys H' → L H' ∧ H' acc = some (.lst ys))
    (turn : ∀ i x tv ys H', xs[i]? = some x → i < xs.length → Pv i ys H' → tv.length = nt → g x (tv ++ fr.map fun i => (σ[i]?).getD none) H' fun σ2 H3 =>
      c σ2 H3 fun b H4 => if b = true then te σ2 H4 fun y H5 => ys.length < sizeLine ∧ H5 acc = some (.lst ys) ∧ ∃ m', m' < xs.length - i ∧ CompW xs nt (fr.map fun i => (σ[i]?).getD none) Pv (i + 1) m' σ2 (ys ++ [y]) (upd H5 acc (.lst (ys ++ [y])))
        else ∃ m', m' < xs.length - i ∧ CompW xs nt (fr.map fun i => (σ[i]?).getD none) Pv (i + 1) m' σ2 ys H4)
    (hd : ∀ ys H', Pv xs.length ys H' → Q (.ref acc) H') : CompGoal J nt fr g c te σ H1 Q acc := by
  refine ⟨CompW xs nt (fr.map fun i => (σ[i]?).getD none) Pv, ⟨xs.length, by simp, Nat.zero_le _, h0, List.replicate nt none, by simp, rfl⟩, ?_⟩
  rintro i m σ' ys H' ⟨rfl, hi, p, tv, htv, rfl⟩
  obtain ⟨l, ha⟩ := hL i ys H' hi p
  refine ⟨ha, ?_⟩
  by_cases hlt : i < xs.length
  · refine .inr ⟨it.go i H' l hlt, fun x H2 y => ?_⟩
    obtain ⟨rfl, hx⟩ := it.yld i H' x H2 l hlt y
    exact turn i x tv ys H2 hx hlt p htv
  · have e : i = xs.length := by omega
    subst e
    exact .inl ⟨it.stop H' l, hd ys H' p⟩
end L2
namespace L2
open PySem PySem.Spec PyProof.Rows PySem.SeqAt
inductive Dt where
  | non | bl (b : Bool) | int (i : Int) | str (x : Str) | lst (xs : List Dt) | tup (xs : List Dt)
mutual
def Rep (K : PySem.W.Frag) (H : Hp) : Dt → V → Prop
  | .non, v => v = .non
  | .bl b, v => v = .bl b
  | .int i, v => v = .int i
  | .str x, v => v = .str x
  | .lst ds, v => ∃ p xs, v = .ref p ∧ SqL K H p xs ∧ Reps K H ds xs
  | .tup ds, v => ∃ p xs, v = .ref p ∧ SqT K H p xs ∧ Reps K H ds xs
def Reps (K : PySem.W.Frag) (H : Hp) : List Dt → List V → Prop
  | [], xs => xs = []
  | d :: ds, xs => ∃ x r, xs = x :: r ∧ Rep K H d x ∧ Reps K H ds r
end
mutual
def depD : Dt → Nat
  | .lst xs => depDs xs + 1
  | .tup xs => depDs xs + 1
  | _ => 0
def depDs : List Dt → Nat
  | [] => 0
  | x :: xs => max (depD x) (depDs xs)
end
theorem Reps.length {K : PySem.W.Frag} {H : Hp} : ∀ {ds : List Dt} {xs : List V}, Reps K H ds xs → ds.length = xs.length
  | [], xs, h => by rw [show xs = [] from by simpa [Reps] using h]; rfl
  | d :: ds, xs, h => by
    obtain ⟨x, r, rfl, _, h2⟩ : ∃ x r, xs = x :: r ∧ Rep K H d x ∧ Reps K H ds r := by simpa [Reps] using h
    simp [Reps.length h2]
theorem Reps.get {K : PySem.W.Frag} {H : Hp} : ∀ {ds : List Dt} {xs : List V} {j : Nat} {d : Dt}, Reps K H ds xs → ds[j]? = some d → ∃ x, xs[j]? = some x ∧ Rep K H d x
  | [], _, _, _, _, e => by simp at e
  | d0 :: ds, xs, j, d, h, e => by
    obtain ⟨x, r, rfl, h1, h2⟩ : ∃ x r, xs = x :: r ∧ Rep K H d0 x ∧ Reps K H ds r := by simpa [Reps] using h
    cases j with
    | zero =>
      have e : d0 = d := by simpa using e
      subst e
      exact ⟨x, rfl, h1⟩
    | succ j =>
      obtain ⟨y, e1, e2⟩ := Reps.get (j := j) h2 (by simpa using e)
      exact ⟨y, by simpa using e1, e2⟩
end L2
namespace L2
open PySem PySem.Spec PyProof.Rows
def isIB : V → Bool
  | .int _ => true
  | .bl _ => true
  | _ => false
def isB : V → Bool
  | .bl _ => true
  | _ => false
def isS : V → Bool
  | .str _ => true
  | _ => false
section
variable {K : PySem.W.Frag} {H H' : Hp} {x : V} {n : String}
theorem bt_int (h : TyOf K H x (.type n)) : clsIs K (.type n) (.ty "int") = some (isIB x) := by cases h <;> rfl
theorem bt_bool (h : TyOf K H x (.type n)) : clsIs K (.type n) (.ty "bool") = some (isB x) := by cases h <;> rfl
theorem bt_str (h : TyOf K H x (.type n)) : clsIs K (.type n) (.ty "str") = some (isS x) := by cases h <;> rfl
theorem bt_list (h : TyOf K H x (.type n)) : clsIs K (.type n) (.ty "list") = some (n == "list") := by cases h <;> rfl
theorem bt_tuple (h : TyOf K H x (.type n)) : clsIs K (.type n) (.ty "tuple") = some (n == "tuple") := by cases h <;> rfl
end
theorem atI_0 {α : Type} {c : α} {cs : List α} : atI (c :: cs) (0 : Int) = some c := atI_nat (j := 0) rfl
theorem Same.new {H : Hp} {p : Addr} {o : HO} (h : H p = none) : Same H (upd H p o) := fun b u e => by
  rw [upd_ne (ne_of_none e h)]
  exact e
theorem Same.tup {K : PySem.W.Frag} {H H' : Hp} {a : Addr} {xs : List V} (e : Same H H') (h : SqT K H a xs) : SqT K H' a xs := by
  rcases h with (h | ⟨o, h⟩) | h
  · exact .inl (.inl (e _ _ h))
  · exact .inl (.inr ⟨o, e _ _ h⟩)
  · exact .inr h
def Off (p : Addr) (H H' : Hp) : Prop := ∀ b, b ≠ p → H' b = H b
theorem Off.trans {p : Addr} {H H1 H2 : Hp} (a : Off p H H1) (b : Off p H1 H2) : Off p H H2 := fun c h => (b c h).trans (a c h)
theorem Off.upd {p : Addr} {H : Hp} {o : HO} : Off p H (upd H p o) := fun _ h => upd_ne h
theorem Off.seq {K : PySem.W.Frag} {p a : Addr} {H H' : Hp} {xs : List V} (e : Off p H H') (ne : a ≠ p) (h : SqL K H a xs) : SqL K H' a xs := by
  rcases h with (h | ⟨o, h⟩) | h
  · exact .inl (.inl (by rw [e a ne]; exact h))
  · exact .inl (.inr ⟨o, by rw [e a ne]; exact h⟩)
  · exact .inr h
theorem small_line {n : Nat} (h : n ≤ 1000000) : n ≤ sizeLine := Nat.le_trans h (by decide)
theorem fnok_of {P : Program} {w : World} {K : PySem.W.Frag} {mg : Str → Option Value} {base : Heap} {CX : CXT} {x : Str} {ps : List Str} {sp : Sp} {k : Nat} {st : Stmt} {N : List Str} {f : Addr} {fd : FuncData}
    (F : Fun K x x st f fd) (S : FnScope N ps (defScope st)) (len : ∀ vs H Q E, sp vs H Q E → vs.length = ps.length)
    (hbody : ∀ (cdv : Value) (A : Around) (outer : List Env) (s : Shared) (H : Hp) (vs : List V) (Q : VK) (E : XK), Room k (A.deeper (envOfC x (defScope st) s.heap.objs.size f cdv)) → sp vs H Q E →
      ∃ t, PSs (cxOf CX P w K mg base N x (defScope st) f cdv A outer s H E).nox (defBody st) t ∧ t { nx := fun _ H' => Q .non H', rt := Q } (start N vs) H) : FnOk P w K mg base CX (k + 1) f fd ps sp := by
  obtain ⟨oc, od, kV, doc, pm, an, cdv, ct, osl, rfl, lk, hcd⟩ := F.ex
  refine fn_of lk hcd S len fun A outer s H vs Q E hr hsp => ?_
  obtain ⟨t, h, q⟩ := hbody cdv A outer s H vs Q E hr hsp
  exact ⟨t, h.nox, q⟩
structure ExcF (B newId initId : String) (bm : List Value) : Prop where
  call : ExcCallFacts B newId initId
  split : splitId newId = some (B, "__new__")
  kind : builtinKind newId = some .builtinFn
  row : Manifest.signature? newId = some ⟨.any, B, B, .cls, [⟨"args", .varPos, false⟩, ⟨"kwargs", .varKw, false⟩]⟩
  hasB : bm.contains (.type B) = true
  hasE : bm.contains (.type "BaseException") = true
  noA : bm.contains (.type "AttributeError") = false
  noN : bm.contains (.type "NameError") = false
  canon : Manifest.canonical newId = Manifest.canonical "BaseException.__new__"
theorem ExcF.under {B newId initId : String} {bm : List Value} (F : ExcF B newId initId bm) (R : Addr) : ExcF B newId initId (.ref R :: bm) :=
  ⟨F.call, F.split, F.kind, F.row, by rw [List.contains_cons, F.hasB, Bool.or_true], by rw [List.contains_cons, F.hasE, Bool.or_true], by rw [List.contains_cons, F.noA]; rfl, by rw [List.contains_cons, F.noN]; rfl, F.canon⟩
section
variable {prog : Program} {w : World} {M : Model} {A : Around} {E : Value → Shared → Prop} {R : Result → Shared → Prop} {h : Heap} {g : Array GenState} {d : Drawn} {t : Nat} {os : OsState}
variable {nm q : Str} {C N : Addr} {bs bm : List Value} {hdct : Bool} {sn : List Str} {sub : List Value} {ab : Bool} {col : Option Bool} {dd : Option Addr} {k0 k1 k2 k3 k5 : Option Value} {B newId initId : String}
theorem ExcF.has (F : ExcF B newId initId bm) : (Value.ref C :: bm).contains (.type B) = true := by rw [List.contains_cons, F.hasB, Bool.or_true]
end
def dctO (dx : Addr) (fs : List (Str × V)) : HO := .ext fun h => ∃ mA, h.Ns1 dx mA ∧ (∀ f, RelO (fs.lookup f) (mA f)) ∧ PySem.Within mA (fs.map (·.1)) ∧ fs.length ≤ 100
section
variable {X : Cx} {CX : CXT} {k m : Nat} {f C : Addr} {fd : FuncData} {ps : List Str} {sp : Sp} {E : XK} {x : Str} {p pos : Pos} {e : Expr} {es : List Expr} {t : TA} {bm : List Value}
structure ExcG (K : PySem.W.Frag) (C : Addr) : Prop where
  ga : PySem.W.findIn K (.ref C) "__getattribute__" = some (some (.builtin "BaseException.__getattribute__"))
  gb : PySem.W.findIn K (.ref C) "__getattr__" = some none
  mb : PySem.W.mroIn K C (.type "BaseException") = some true
  hd : PySem.W.hasDictIn K C = true
end
mutual
def pyD : Dt → PyData
  | .non => .none
  | .bl b => .bool b
  | .int i => .int i
  | .str x => .str x
  | .lst xs => .list (pyDs xs)
  | .tup xs => .tuple (pyDs xs)
def pyDs : List Dt → List PyData
  | [] => []
  | x :: xs => pyD x :: pyDs xs
end
structure ExcI (K : PySem.W.Frag) (C R : Addr) : Prop where
  g : ExcG K C
  mro : (PySem.W.clsIn K C).map (·.mro) = some [.ref C, .ref R, .type "ValueError", .type "Exception", .type "BaseException", .type "object"]
  ty : PySem.W.typeIn K (.ref C) = some (.type "type")
  ha : PySem.W.findIn K (.ref C) "__class__" = some (some (.builtin "object.__class__"))
  hn : PySem.W.specialIn K (.builtin "object.__class__") "__get__" = some (some (.builtin "getset_descriptor.__get__"))
  tk : PySem.W.takesIn K (.builtin "object.__class__") = some true
section
variable {prog : Program} {w : World} {A : Around} {E : Value → Shared → Prop} {s : Shared} {K : PySem.W.Frag} {e C R D : Addr} {oe : Obj} {odo : Option Obj}
theorem ExcI.in (G : ExcI K C R) (b : Value) : PySem.W.mroIn K C b = some ([Value.ref C, .ref R, .type "ValueError", .type "Exception", .type "BaseException", .type "object"].contains b) := by
  obtain ⟨cd, hc, hm⟩ := Option.map_eq_some_iff.mp G.mro
  unfold PySem.W.mroIn
  rw [hc, Option.bind_some, hm]
  rfl
end
structure Shm (m d : Nat) (x : PyData) : Prop where
  sh : x.showable = true
  ln : x.shown.length ≤ m
  dp : x.depth ≤ d
structure New (H H' : Hp) (p : Addr) (o : HO) : Prop where
  s : Same H H'
  e : H' p = some o
  n : ∀ a u, H a = some u → a ≠ p
theorem New.mk' {H : Hp} {p : Addr} {o : HO} (h : H p = none) : New H (upd H p o) p o := ⟨Same.new h, upd_same, fun a u q => ne_of_none q h⟩
section
variable {X : Cx} {es : List Expr} {t : TA} {pos : Pos}
def tTupA (t : TA) : TE := fun σ H Q => t σ H fun xs H1 => xs.length ≤ sizeLine ∧ ∀ p H', New H1 H' p (.tup xs) → Q (.ref p) H'
def tLstA (t : TA) : TE := fun σ H Q => t σ H fun xs H1 => xs.length ≤ sizeLine ∧ ∀ p H', New H1 H' p (.lst xs) → Q (.ref p) H'
theorem pe_tupA {x1} (h : PA X es t) : PE X (.Tuple es x1 pos) (tTupA t) := by
  intro pins s σ H Q I hq
  refine wpAny_Tuple_spliced (thn (h pos pins s σ H _ I hq) fun us s1 ⟨xs, H1, I1, r, z, q⟩ => ⟨by rw [← r.length]; exact z, ?_⟩)
  have hf : H1 s1.heap.objs.size = none := I1.hok.fresh (Nat.le_refl _)
  refine ⟨.ref s1.heap.objs.size, upd H1 s1.heap.objs.size (.tup xs), I1.laid (t' := s1.toks) (fun b u e => Heap.get?_push_of_some _ e) (Nat.le_refl _) ?_, rfl, q _ _ (.mk' hf)⟩
  exact ⟨z, us, r, ⟨_, Heap.get?_push_size _ rfl, rfl, _, rfl⟩⟩
theorem pe_lstA (h : PA X es t) : PE X (.List es pos) (tLstA t) := by
  intro pins s σ H Q I hq
  refine wpAny_List_spliced (thn (h pos pins s σ H _ I hq) fun us s1 ⟨xs, H1, I1, r, z, q⟩ => ⟨by rw [← r.length]; exact z, ?_⟩)
  have hf : H1 s1.heap.objs.size = none := I1.hok.fresh (Nat.le_refl _)
  refine ⟨.ref s1.heap.objs.size, upd H1 s1.heap.objs.size (.lst xs), I1.laid (t' := s1.toks) (fun b u e => Heap.get?_push_of_some _ e) (Nat.le_refl _) ?_, rfl, q _ _ (.mk' hf)⟩
  exact ⟨z, us, 0, r, Heap.get?_push_size _ rfl⟩
def rCatA : R2 := fun x y H Q => ∃ l b xs zs, x = .ref l ∧ y = .ref b ∧ H l = some (.lst xs) ∧ H b = some (.lst zs) ∧ xs.length + zs.length ≤ sizeLine ∧ ∀ p H', New H H' p (.lst (xs ++ zs)) → Q (.ref p) H'
theorem op_catA : OpR X (binaryOp .Add) rCatA := by
  intro pins s σ H x y v u Q I rx ry h
  obtain ⟨l, b, xs, zs, e1, e2, hH, hB, hz, q⟩ := h
  exact op_cat pins s σ H x y v u Q I rx ry ⟨l, b, xs, zs, e1, e2, hH, hB, hz, fun p hp => q p _ (.mk' hp)⟩
def rAppA : V → List V → Hp → VK → Prop := fun x vs H Q => ∃ l xs y, x = .ref l ∧ vs = [y] ∧ H l = some (.lst xs) ∧ xs.length < sizeLine ∧ ∀ H', Off l H H' → H' l = some (.lst (xs ++ [y])) → Q .non H'
theorem mt_appendA : MtM X "list.append" rAppA := by
  intro pins s σ H x vs v us Q I rx rv h
  obtain ⟨l, xs, y, e1, e2, hH, hz, q⟩ := h
  exact mt_append pins s σ H x vs v us Q I rx rv ⟨l, xs, y, e1, e2, hH, hz, q _ Off.upd upd_same⟩
theorem pe_appendA {o e : Expr} {to te : TE} {apos cpos : Pos} (ho : PE X o to) (he : PE X e te) (hbase : attributeBase o "append" X.env (eval o X.env) = eval o X.env := by rfl)
    (hfew : ((backTo cpos (starEach [e] X.env)).all (fun x => !x.1) && (backToKw cpos (keywordEach [] X.env)).all (fun x => x.1.isSome)
      && decide (([e] : List Expr).length + ([] : List Keyword).length + (if ([] : List Keyword).isEmpty then 0 else 1) < 30)) = true := by rfl)
    (hline : (apos.endLine == cpos.line) = true := by rfl) (hs : starEach [e] X.env = (false, eval e X.env) :: starEach [] X.env := by rfl) :
    PE X (.Call (.Attribute o "append" apos) [e] [] cpos) (tBM X.K "list" rAppA to (tCons te tNil)) :=
  pe_bm PySem.F.plainAttrs_list PySem.F.slot_list_append PySem.F.type_list_append mt_appendA ho (pa_cons he pa_nil hs) hbase hfew hline hs (by rfl)
end
section
variable {σ σ' : St} {H : Hp} {v x y : V} {vs : List V} {t ta tb : TE} {tr : TA} {i j : Nat} {a C : Addr} {f g : Str} {fs : List (Str × V)} {Q : VK} {D : Ends} {s u : TS} {K : PySem.W.Frag} {tg : TG} {c : TT}
theorem go_cons {Q : List V → Hp → Prop} (h : t σ H fun x H1 => tr σ H1 fun xs H2 => Q (x :: xs) H2) : tCons t tr σ H Q := h
theorem go_nil {Q : List V → Hp → Prop} (h : Q [] H) : tNil σ H Q := h
theorem go_seq (h : s { D with nx := u D } σ H) : tSeq s u D σ H := h
theorem go_nx {nx bk ct : St → Hp → Prop} {rt : VK} (h : nx σ H) : (Ends.mk nx rt bk ct).nx σ H := h
theorem go_next (h : D.nx σ H) : tNext D σ H := h
theorem go_asg (h : t σ H fun x H1 => tg x σ H1 D.nx) : tAsg t tg D σ H := h
theorem go_tupA (h : tr σ H fun xs H1 => xs.length ≤ sizeLine ∧ ∀ p H', New H1 H' p (.tup xs) → Q (.ref p) H') : tTupA tr σ H Q := h
theorem go_lstA (h : tr σ H fun xs H1 => xs.length ≤ sizeLine ∧ ∀ p H', New H1 H' p (.lst xs) → Q (.ref p) H') : tLstA tr σ H Q := h
theorem go_op {r : R2} (h : ta σ H fun x H1 => tb σ H1 fun y H2 => r x y H2 Q) : tOp r ta tb σ H Q := h
theorem go_ret (h : t σ H D.rt) : tRet t D σ H := h
theorem go_drop (h : t σ H fun _ H1 => D.nx σ H1) : tDrop t D σ H := h
theorem go_if (h : c σ H fun b H1 => if b = true then s D σ H1 else u D σ H1) : tIfS c s u D σ H := h
theorem go_test {Q : Bool → Hp → Prop} (h : t σ H fun x H' => ∃ k, x = .bl k ∧ Q k H') : tTest t σ H Q := h
theorem go_b {Q : Bool → Hp → Prop} (h : t σ H fun x H' => ∃ k, x = .bl k ∧ Q k H') : tB t σ H Q := h
theorem go_cb {r : List V → Hp → VK → Prop} (h : tr σ H fun vs H1 => r vs H1 Q) : tCB r tr σ H Q := h
end
def excT (a C : Addr) (dx : Option Addr) : HO := .ext fun h => ∃ oe vs, h.get? a = some oe ∧ oe.cls = .ref C ∧ oe.dict = dx ∧ oe.data = .fields vs
def ExcT (H : Hp) (x C : Addr) (fs : List (Str × V)) : Prop := (fs = [] ∧ H x = some (excT x C none)) ∨ ∃ dx, H x = some (excT x C (some dx)) ∧ H dx = some (dctO dx fs) ∧ dx ≠ x
theorem ExcT.mk {H : Hp} {a C dx : Addr} {fs : List (Str × V)} (hd : H dx = some (dctO dx fs)) (ha : H a = none) : ExcT (upd H a (excT a C (some dx))) a C fs :=
  .inr ⟨dx, upd_same, by rw [upd_ne (ne_of_none hd ha)]; exact hd, ne_of_none hd ha⟩
structure Caught (X : Cx) (pins : List (Addr × Obj)) (σ : St) (H : Hp) (s : Shared) (a C : Addr) (dx : Option Addr) : Prop where
  I : Inv X pins σ H s
  ha : H a = some (excT a C dx)
  tb : ∃ T oe vs oT ts, s.heap.get? a = some oe ∧ oe.data = .fields vs ∧ vs[1]? = some (.ref T) ∧ s.heap.get? T = some oT ∧ oT.data = .fields ts ∧ 3 < ts.size ∧ H T = none ∧ T ≠ X.env.locals ∧ (T ∈ X.ex ∨ X.s₀.heap.objs.size ≤ T) ∧ (∀ x c, X.env.cells.lookup x = some c → c ≠ T) ∧ ∀ p ∈ X.pn ++ pins, p.1 ≠ T
section
variable {X : Cx} {x n : Str} {d : Addr} {i : Nat} {b₀ : Stmt} {suite : List Stmt} {rest : List ExceptHandler} {th : Addr → TS} {tr : THd} {p pos : Pos}
theorem Caught.type {pins : List (Addr × Obj)} {σ : St} {H : Hp} {s : Shared} {a C : Addr} {dx : Option Addr} (c : Caught X pins σ H s a C dx) : PySem.W.Looks (model X.prog X.w) s.heap (typeOf (.ref a)) (.ref C) := by
  obtain ⟨⟨oe, vs, ge, gc, gd, gf⟩, _, _⟩ : ObjOk X.prog X.w H s.heap a (excT a C dx) := c.I.hok a _ c.ha
  exact gc ▸ (PySem.W.Looks.ld ge).andThen .now
end
section
variable {prog : Program} {w : World} {A : Around} {E : Value → Shared → Prop} {s : Shared}
theorem draw_list {it t : Addr} {items : Array Value} (hne : t ≠ it) : ∀ (n i : Nat) (s : Shared) (Q : List Value → Shared → Prop), s.heap.IsListIter it t i → s.heap.IsList t items → i + n ≤ items.size →
    (∀ h' : Heap, h'.IsListIter it t (i + n) → Heap.SameBut it s.heap h' → Q ((items.toList.drop i).take n) { s with heap := h' }) → wpAny (model prog w) A (draw (.ref it) n) Q E s
  | 0, i, s, Q, hit, _, _, hQ => by
    show wpAny _ _ (pure []) Q E s
    exact wpAny_pure (by simpa using hQ s.heap hit (Heap.SameBut.refl ..))
  | n + 1, i, s, Q, hit, ht, hle, hQ => by
    have hlt : i < items.size := by omega
    show wpAny _ _ (pyNext (.ref it) >>= _) Q E s
    refine wpAny_bind (wpAny_pyNext_list_item hit ht (x := items[i]) (by simp [hlt]) fun h₁ hit₁ hs₁ => ?_)
    refine wpAny_bind (wpAny_holding (draw_list hne n (i + 1) _ _ hit₁ (ht.extBut hs₁.extBut hne) (by omega) fun h₂ hit₂ hs₂ => wpAny_pure ?_))
    have hd : items.toList.drop i = items[i] :: items.toList.drop (i + 1) := by simp [List.drop_eq_getElem_cons, hlt]
    have := hQ h₂ (by rw [show i + (n + 1) = i + 1 + n by omega]; exact hit₂) (hs₁.trans hs₂)
    rw [hd, List.take_succ_cons] at this
    exact this
theorem unpackItems_list {t : Addr} {items : Array Value} {Q : List Value → Shared → Prop} (hh : A.handled = none) (ht : s.heap.IsList t items)
    (hQ : ∀ h', Heap.ExtBut s.heap.objs.size s.heap h' → Q items.toList { s with heap := h' }) : wpAny (model prog w) A (unpackItems (.ref t) items.size none) Q E s := by
  have hlt : t ≠ s.heap.objs.size := by obtain ⟨o, ho, _⟩ := ht; exact Nat.ne_of_lt (Heap.lt_size ho)
  unfold unpackItems
  refine wpAny_bind ?_
  unfold notIterableAtAll
  refine wpAny_bind (wpAny_specialOf ht.typeIs slot_list_iter.lookup ?_)
  refine wpAny_pure ?_
  simp only [Bool.false_eq_true, if_false]
  refine wpAny_bind (wpAny_holding (wpAny_pyIter_list ht ?_))
  refine wpAny_bind (wpAny_holding (draw_list hlt items.size 0 _ _ ⟨_, Heap.get?_push_size _ rfl, rfl, rfl⟩ (ht.push _) (by omega) fun h₁ hit₁ hs₁ => ?_))
  have hall : List.take items.size (List.drop 0 items.toList) = items.toList := by
    rw [List.drop_zero]; exact List.take_of_length_le (by simp)
  rw [hall]
  rw [if_neg (by simp)]
  have ht₁ : h₁.IsList t items := (ht.push _).extBut hs₁.extBut hlt
  refine wpAny_bind (wpAny_holding (wpAny_pyNext_list_end hh hit₁ ht₁ (by simp) fun h₂ he₂ => ?_))
  simp only [Option.isSome_none, Bool.false_eq_true, if_false]
  refine wpAny_pure (hQ h₂ fun b o hb e => he₂ b o hb (hs₁.extBut b o hb (Heap.get?_push_of_some _ e)))
theorem assign_Tuple_list {env : Env} {elts : List Expr} {x1} {pos : Pos} {t : Addr} {items : Array Value} {Q : Unit → Shared → Prop} (hh : A.handled = none) (ht : s.heap.IsList t items)
    (hn : (assignEach elts env).length = items.size) (hstar : (assignEach elts env).findIdx? (·.1) = none)
    (h : ∀ h', Heap.ExtBut s.heap.objs.size s.heap h' → wpAny (model prog w) A (assignInOrder ((assignEach elts env).map (·.2)) items.toList) Q E { s with heap := h' }) :
    wpAny (model prog w) A (assign (.Tuple elts x1 pos) env (.ref t)) Q E s := by
  rw [assign_Tuple]
  refine wpAny_bind (wpAny_standAt ?_)
  unfold unpack
  rw [hn, hstar]
  exact wpAny_bind (wpAny_holding (unpackItems_list hh ht h))
end
def gLst (K : PySem.W.Frag) (n : Nat) (t : TGs) : TG := fun v σ H Q => ∃ a xs, v = .ref a ∧ SqL K H a xs ∧ xs.length = n ∧ t xs σ H Q
theorem pg_lst {X : Cx} {pos : Pos} {es : List Expr} {k : Nat} {t : TGs} {n : Nat} (hc : X.calm = true) (h : PGs X es t)
    (hn : (assignEach es X.env).length = n := by rfl) (hst : (assignEach es X.env).findIdx? (·.1) = none := by rfl) : PG X (.Tuple es k pos) (gLst X.K n t) := by
  intro pins s σ H v u Q I r hw
  obtain ⟨a, xs, e1, hq, hl, hw⟩ := hw
  subst e1
  cases r
  obtain ⟨its, rv, ht, hz⟩ := I.list hq
  refine assign_Tuple_list (I.ok.hd hc) ht.isList (by simp [hn, ← hl, rv.length]) hst fun h' hx => ?_
  have I1 : Inv X pins σ H { s with heap := h' } := I.kept (t' := s.toks) fun b o e => hx b o (Nat.ne_of_lt (Heap.lt_size e)) e
  exact h pins _ σ H xs _ Q I1 (by simpa using rv) hw
section
variable {σ σ' : St} {H : Hp} {K : PySem.W.Frag} {p : Addr} {a b c d : V} {i0 i1 i2 i3 : Nat} {R : St → Hp → Prop}
theorem go_l2 (hp : SqL K H p [a, b]) (e : (σ.set i0 (some a)).set i1 (some b) = σ') (h : R σ' H) : gLst K 2 (gCons (gName i0) (gCons (gName i1) gNil)) (.ref p) σ H R :=
  ⟨p, _, rfl, hp, rfl, _, _, rfl, _, _, rfl, rfl, by rw [e]; exact h⟩
end
def rIsT (K : PySem.W.Frag) : List V → Hp → VK → Prop := fun xs H Q => ∃ x d t b, xs = [x, d] ∧ TyOf K H x t ∧ clsIs K t d = some b ∧ Q (.bl b) H
theorem call_isT {X : Cx} : CallR X (.builtin "isinstance") (rIsT X.K) := call_isinstance
section
variable {X : Cx} {pins : List (Addr × Obj)} {σ : St} {H : Hp} {s : Shared} {h' : Heap} {t' : Nat} {ch : List Addr}
theorem Inv.turnedN (I : Inv X pins σ H s) (hf : ∀ b ∈ ch, FpOk X pins H b) (k : ∀ b o, b ∉ ch → s.heap.get? b = some o → h'.get? b = some o) : Inv X pins σ H { s with heap := h', toks := t' } := by
  have off : ∀ b u, H b = some u → b ∉ ch := fun b u e z => by
    rw [(hf b z).1] at e
    cases e
  refine I.step (g' := s.gens) (d' := s.drawn) (ch := ch) (fun b hb => ?_) (fun b o _ _ hc e _ => k b o hc e) (fun b o _ _ hc e _ => ⟨o.slots, k b o hc e⟩) (fun _ _ _ _ n => n)
    (fun b o hc e => ⟨o, k b o hc e⟩) (fun _ _ e => e) (fun _ _ _ e => e) (fun b ps e => ⟨#[], by rw [e]; simp⟩) (fun m hm => ?_) (fun b u e => ?_) I.bare
  · obtain ⟨_, f1, _, f3, f4, f5⟩ := hf b hb
    exact ⟨f3, f1, f4, f5⟩
  · obtain ⟨o, es, ep, ho, r⟩ := hm
    exact ⟨o, es, ep, k _ o (fun z => (hf _ z).2.1 rfl) ho, r⟩
  · refine (I.hok b u e).stay (fun c v hc q => k c v ?_ q) (fun _ q => q) fun _ _ q => q
    rcases hc with z | z
    · rw [z]; exact off b u e
    · exact off c _ z
theorem Inv.turnedLaid {a : Addr} {o : HO} (I : Inv X pins σ H s) (hf : ∀ b ∈ ch, FpOk X pins H b) (k : ∀ b o, b ∉ ch → s.heap.get? b = some o → h'.get? b = some o) (ha : s.heap.objs.size ≤ a)
    (new : ObjOk X.prog X.w (upd H a o) h' a o) : Inv X pins σ (upd H a o) { s with heap := h', toks := t' } := by
  have I1 : Inv X pins σ H { s with heap := h', toks := t' } := I.turnedN hf k
  have hn : H a = none := I.hok.fresh ha
  refine I.step (g' := s.gens) (d' := s.drawn) (ch := ch) (fun b hb => ?_) (fun b u _ _ hc e _ => k b u hc e) (fun b u _ _ hc e _ => ⟨u.slots, k b u hc e⟩)
    (fun b u _ e n => by rw [upd_ne (Nat.ne_of_lt (Nat.lt_of_lt_of_le (Heap.lt_size e) ha))]; exact n)
    (fun b u hc e => ⟨u, k b u hc e⟩) (fun b xs e => by rw [upd_ne (ne_of_none e hn)]; exact e) (fun b u x e => by rw [upd_ne (ne_of_none e hn)]; exact e)
    (fun b ps e => ⟨#[], by rw [upd_ne (ne_of_none e hn), e]; simp⟩) (fun m hm => ?_) (fun b u e => ?_) I.bare
  · obtain ⟨_, f1, _, f3, f4, f5⟩ := hf b hb
    exact ⟨f3, f1, f4, f5⟩
  · obtain ⟨u, es, ep, ho, r⟩ := hm
    exact ⟨u, es, ep, k _ u (fun z => (hf _ z).2.1 rfl) ho, r⟩
  · by_cases hb : b = a
    · subst hb
      rw [upd_same] at e
      cases e
      exact new
    · rw [upd_ne hb] at e
      exact (I1.hok b u e).stay (fun _ _ _ q => q) (fun c q => by rw [upd_ne (ne_of_none q hn)]; exact q) fun c xs q => by rw [upd_ne (ne_of_none q hn)]; exact q
end
section
variable {X : Cx}
def rSlA (K : PySem.W.Frag) : V → Option Int → Option Int → Hp → VK → Prop := fun x lo hi H Q => ∃ a xs, x = .ref a ∧ SqL K H a xs ∧ ∀ p H', New H H' p (.lst (cutV xs lo hi)) → Q (.ref p) H'
theorem sl_listA : SlR X (rSlA X.K) := by
  intro pins s σ H x v vl vu lo hi sl Q I rx hs pl pu h
  obtain ⟨a, xs, e, hx, q⟩ := h
  exact sl_list pins s σ H x v vl vu lo hi sl Q I rx hs pl pu ⟨a, xs, e, hx, fun p hp => q p _ (.mk' hp)⟩
end
section
variable {σ : St} {H : Hp} {Q : VK} {v x y : V} {i j : Int} {K : PySem.W.Frag} {t ta tb tc : TE} {tr : TA} {s u : TS} {D : Ends} {c d : TT}
theorem wv0 {r : St} (h : Q v H) : tVar 0 (some v :: r) H Q := ⟨v, rfl, h⟩
theorem wv1 {o0 : Option V} {r : St} (h : Q v H) : tVar 1 (o0 :: some v :: r) H Q := ⟨v, rfl, h⟩
theorem wn1 {o0 : Option V} {o : Option V} {r : St} {R : St → Hp → Prop} (h : R (o0 :: some v :: r) H) : gName 1 v (o0 :: o :: r) H R := h
theorem wv2 {o0 o1 : Option V} {r : St} (h : Q v H) : tVar 2 (o0 :: o1 :: some v :: r) H Q := ⟨v, rfl, h⟩
theorem wn2 {o0 o1 : Option V} {o : Option V} {r : St} {R : St → Hp → Prop} (h : R (o0 :: o1 :: some v :: r) H) : gName 2 v (o0 :: o1 :: o :: r) H R := h
theorem wv3 {o0 o1 o2 : Option V} {r : St} (h : Q v H) : tVar 3 (o0 :: o1 :: o2 :: some v :: r) H Q := ⟨v, rfl, h⟩
theorem wn3 {o0 o1 o2 : Option V} {o : Option V} {r : St} {R : St → Hp → Prop} (h : R (o0 :: o1 :: o2 :: some v :: r) H) : gName 3 v (o0 :: o1 :: o2 :: o :: r) H R := h
theorem wv4 {o0 o1 o2 o3 : Option V} {r : St} (h : Q v H) : tVar 4 (o0 :: o1 :: o2 :: o3 :: some v :: r) H Q := ⟨v, rfl, h⟩
theorem wn4 {o0 o1 o2 o3 : Option V} {o : Option V} {r : St} {R : St → Hp → Prop} (h : R (o0 :: o1 :: o2 :: o3 :: some v :: r) H) : gName 4 v (o0 :: o1 :: o2 :: o3 :: o :: r) H R := h
theorem wv5 {o0 o1 o2 o3 o4 : Option V} {r : St} (h : Q v H) : tVar 5 (o0 :: o1 :: o2 :: o3 :: o4 :: some v :: r) H Q := ⟨v, rfl, h⟩
theorem wn5 {o0 o1 o2 o3 o4 : Option V} {o : Option V} {r : St} {R : St → Hp → Prop} (h : R (o0 :: o1 :: o2 :: o3 :: o4 :: some v :: r) H) : gName 5 v (o0 :: o1 :: o2 :: o3 :: o4 :: o :: r) H R := h
theorem wv6 {o0 o1 o2 o3 o4 o5 : Option V} {r : St} (h : Q v H) : tVar 6 (o0 :: o1 :: o2 :: o3 :: o4 :: o5 :: some v :: r) H Q := ⟨v, rfl, h⟩
theorem wn6 {o0 o1 o2 o3 o4 o5 : Option V} {o : Option V} {r : St} {R : St → Hp → Prop} (h : R (o0 :: o1 :: o2 :: o3 :: o4 :: o5 :: some v :: r) H) : gName 6 v (o0 :: o1 :: o2 :: o3 :: o4 :: o5 :: o :: r) H R := h
theorem wv7 {o0 o1 o2 o3 o4 o5 o6 : Option V} {r : St} (h : Q v H) : tVar 7 (o0 :: o1 :: o2 :: o3 :: o4 :: o5 :: o6 :: some v :: r) H Q := ⟨v, rfl, h⟩
theorem wn7 {o0 o1 o2 o3 o4 o5 o6 : Option V} {o : Option V} {r : St} {R : St → Hp → Prop} (h : R (o0 :: o1 :: o2 :: o3 :: o4 :: o5 :: o6 :: some v :: r) H) : gName 7 v (o0 :: o1 :: o2 :: o3 :: o4 :: o5 :: o6 :: o :: r) H R := h
theorem wv8 {o0 o1 o2 o3 o4 o5 o6 o7 : Option V} {r : St} (h : Q v H) : tVar 8 (o0 :: o1 :: o2 :: o3 :: o4 :: o5 :: o6 :: o7 :: some v :: r) H Q := ⟨v, rfl, h⟩
theorem wn8 {o0 o1 o2 o3 o4 o5 o6 o7 : Option V} {o : Option V} {r : St} {R : St → Hp → Prop} (h : R (o0 :: o1 :: o2 :: o3 :: o4 :: o5 :: o6 :: o7 :: some v :: r) H) : gName 8 v (o0 :: o1 :: o2 :: o3 :: o4 :: o5 :: o6 :: o7 :: o :: r) H R := h
theorem wv9 {o0 o1 o2 o3 o4 o5 o6 o7 o8 : Option V} {r : St} (h : Q v H) : tVar 9 (o0 :: o1 :: o2 :: o3 :: o4 :: o5 :: o6 :: o7 :: o8 :: some v :: r) H Q := ⟨v, rfl, h⟩
theorem wn9 {o0 o1 o2 o3 o4 o5 o6 o7 o8 : Option V} {o : Option V} {r : St} {R : St → Hp → Prop} (h : R (o0 :: o1 :: o2 :: o3 :: o4 :: o5 :: o6 :: o7 :: o8 :: some v :: r) H) : gName 9 v (o0 :: o1 :: o2 :: o3 :: o4 :: o5 :: o6 :: o7 :: o8 :: o :: r) H R := h
theorem wv10 {o0 o1 o2 o3 o4 o5 o6 o7 o8 o9 : Option V} {r : St} (h : Q v H) : tVar 10 (o0 :: o1 :: o2 :: o3 :: o4 :: o5 :: o6 :: o7 :: o8 :: o9 :: some v :: r) H Q := ⟨v, rfl, h⟩
theorem wn10 {o0 o1 o2 o3 o4 o5 o6 o7 o8 o9 : Option V} {o : Option V} {r : St} {R : St → Hp → Prop} (h : R (o0 :: o1 :: o2 :: o3 :: o4 :: o5 :: o6 :: o7 :: o8 :: o9 :: some v :: r) H) : gName 10 v (o0 :: o1 :: o2 :: o3 :: o4 :: o5 :: o6 :: o7 :: o8 :: o9 :: o :: r) H R := h
theorem wv11 {o0 o1 o2 o3 o4 o5 o6 o7 o8 o9 o10 : Option V} {r : St} (h : Q v H) : tVar 11 (o0 :: o1 :: o2 :: o3 :: o4 :: o5 :: o6 :: o7 :: o8 :: o9 :: o10 :: some v :: r) H Q := ⟨v, rfl, h⟩
theorem wn11 {o0 o1 o2 o3 o4 o5 o6 o7 o8 o9 o10 : Option V} {o : Option V} {r : St} {R : St → Hp → Prop} (h : R (o0 :: o1 :: o2 :: o3 :: o4 :: o5 :: o6 :: o7 :: o8 :: o9 :: o10 :: some v :: r) H) : gName 11 v (o0 :: o1 :: o2 :: o3 :: o4 :: o5 :: o6 :: o7 :: o8 :: o9 :: o10 :: o :: r) H R := h
theorem wv12 {o0 o1 o2 o3 o4 o5 o6 o7 o8 o9 o10 o11 : Option V} {r : St} (h : Q v H) : tVar 12 (o0 :: o1 :: o2 :: o3 :: o4 :: o5 :: o6 :: o7 :: o8 :: o9 :: o10 :: o11 :: some v :: r) H Q := ⟨v, rfl, h⟩
theorem wn12 {o0 o1 o2 o3 o4 o5 o6 o7 o8 o9 o10 o11 : Option V} {o : Option V} {r : St} {R : St → Hp → Prop} (h : R (o0 :: o1 :: o2 :: o3 :: o4 :: o5 :: o6 :: o7 :: o8 :: o9 :: o10 :: o11 :: some v :: r) H) : gName 12 v (o0 :: o1 :: o2 :: o3 :: o4 :: o5 :: o6 :: o7 :: o8 :: o9 :: o10 :: o11 :: o :: r) H R := h
theorem w_c (h : Q v H) : tC v σ H Q := h
theorem w_i0 {f : Int → Int → V} (h : Q (f i j) H) : rI0 f (.int i) (.int j) H Q := ⟨i, j, rfl, rfl, h⟩
theorem w_mod {f : Int → Int → V} (hj : 0 < j) (h : Q (f i j) H) : rI (fun _ j => 0 < j) f (.int i) (.int j) H Q := ⟨i, j, rfl, rfl, hj, h⟩
theorem w_div {f : Int → Int → V} (h0 : 0 < j) (h1 : j < 1073741824) (h : Q (f i j) H) : rI CDiv f (.int i) (.int j) H Q := ⟨i, j, rfl, rfl, ⟨h0, h1⟩, h⟩
theorem w_pow {f : Int → Int → V} (h0 : 0 ≤ j) (h1 : j ≤ 1000000) (h2 : i.natAbs < 2 ^ 64) (h : Q (f i j) H) : rI CPow f (.int i) (.int j) H Q := ⟨i, j, rfl, rfl, ⟨h0, h1, h2⟩, h⟩
theorem w_mulL {f : Int → Int → V} (h0 : -(2 ^ 64) < i) (h1 : i < 2 ^ 64) (h : Q (f i j) H) : rI CMul f (.int i) (.int j) H Q := ⟨i, j, rfl, rfl, .inl ⟨h0, h1⟩, h⟩
theorem w_mulR {f : Int → Int → V} (h0 : -(2 ^ 64) < j) (h1 : j < 2 ^ 64) (h : Q (f i j) H) : rI CMul f (.int i) (.int j) H Q := ⟨i, j, rfl, rfl, .inr ⟨h0, h1⟩, h⟩
theorem w_u {g : Int → V} (h : Q (g i) H) : rU g (.int i) H Q := ⟨i, rfl, h⟩
theorem w_un {r : V → Hp → VK → Prop} (h : ta σ H fun x H1 => r x H1 Q) : tUn r ta σ H Q := h
theorem w_eqi (h : Q (.bl (decide (i = j))) H) : rEq (.int i) (.int j) H Q := ⟨rfl, by rw [show decide (V.int i = V.int j) = decide (i = j) from decide_eq_decide.mpr ⟨fun e => by cases e; rfl, fun e => by rw [e]⟩]; exact h⟩
theorem w_nei (h : Q (.bl (!decide (i = j))) H) : rNe (.int i) (.int j) H Q := ⟨rfl, by rw [show decide (V.int i = V.int j) = decide (i = j) from decide_eq_decide.mpr ⟨fun e => by cases e; rfl, fun e => by rw [e]⟩]; exact h⟩
theorem w_eqs {a b : Str} (h : Q (.bl (decide (a = b))) H) : rEq (.str a) (.str b) H Q := ⟨rfl, by rw [show decide (V.str a = V.str b) = decide (a = b) from decide_eq_decide.mpr ⟨fun e => by cases e; rfl, fun e => by rw [e]⟩]; exact h⟩
theorem w_nes {a b : Str} (h : Q (.bl (!decide (a = b))) H) : rNe (.str a) (.str b) H Q := ⟨rfl, by rw [show decide (V.str a = V.str b) = decide (a = b) from decide_eq_decide.mpr ⟨fun e => by cases e; rfl, fun e => by rw [e]⟩]; exact h⟩
theorem w_neb {a b : Bool} (h : Q (.bl (!decide (a = b))) H) : rNe (.bl a) (.bl b) H Q := ⟨rfl, by rw [show decide (V.bl a = V.bl b) = decide (a = b) from decide_eq_decide.mpr ⟨fun e => by cases e; rfl, fun e => by rw [e]⟩]; exact h⟩
theorem w_bl {k : Bool} {R : Bool → Prop} (h : R k) : ∃ c, V.bl k = .bl c ∧ R c := ⟨k, rfl, h⟩
theorem w_not {R : Bool → Hp → Prop} (h : c σ H fun b H1 => R (!b) H1) : tNot c σ H R := h
theorem w_and {R : Bool → Hp → Prop} (h : c σ H fun b H1 => if b = true then d σ H1 R else R false H1) : tAnd c d σ H R := h
theorem w_or {R : Bool → Hp → Prop} (h : c σ H fun b H1 => if b = true then R true H1 else d σ H1 R) : tOr c d σ H R := h
theorem w_notV (h : ta σ H fun x H1 => ∃ c, x = .bl c ∧ Q (.bl (!c)) H1) : tNotV ta σ H Q := h
theorem w_andV (h : ta σ H fun x H1 => ∃ c, x = .bl c ∧ if c = true then tb σ H1 Q else Q (.bl false) H1) : tAndV ta tb σ H Q := h
theorem w_ifE (h : c σ H fun b H1 => if b = true then ta σ H1 Q else tb σ H1 Q) : tIf c ta tb σ H Q := h
theorem w_chain {r r' : R2} (h : ta σ H fun x H1 => tb σ H1 fun y H2 => r x y H2 fun z H3 => ∃ k, z = .bl k ∧ if k = true then tc σ H3 fun w H4 => r' y w H4 Q else Q (.bl false) H3) : tChain r r' ta tb tc σ H Q := h
theorem w_rt {nx bk ct : St → Hp → Prop} {rt : VK} (h : rt v H) : (Ends.mk nx rt bk ct).rt v H := h
theorem w_call {sp : Sp} {E : XK} (h : tr σ H fun vs H1 => sp vs H1 Q E) : tCall sp [] E tr σ H Q := by
  have e : (fun vs H1 => sp (vs ++ []) H1 Q E) = fun vs H1 => sp vs H1 Q E := by
    funext vs H1
    rw [List.append_nil]
  show tr σ H fun vs H1 => sp (vs ++ []) H1 Q E
  rw [e]
  exact h
theorem w_bm {T : String} {r : V → List V → Hp → VK → Prop} {to : TE} (h : to σ H fun x H1 => tyV K T x H1 ∧ tr σ H1 fun xs H2 => r x xs H2 Q) : tBM K T r to tr σ H Q := h
theorem w_slice {r : V → Option Int → Option Int → Hp → VK → Prop} {tl th : TO} (h : t σ H fun x H1 => tl σ H1 fun l H2 => th σ H2 fun u H3 => r x l u H3 Q) : tSl r t tl th σ H Q := h
theorem w_noPart {R : Option Int → Hp → Prop} (h : R none H) : tNoPart σ H R := h
theorem w_part {R : Option Int → Hp → Prop} (h : t σ H fun x H1 => ∃ i, x = .int i ∧ R (some i) H1) : tPart t σ H R := h
theorem w_int {R : Int → Prop} (h : R i) : ∃ k, V.int i = .int k ∧ R k := ⟨i, rfl, h⟩
theorem w_ixL {p : Addr} {xs : List V} (h : SqL K H p xs) (e : atI xs i = some v) (k : Q v H) : rIxL K (.ref p) (.int i) H Q := ⟨p, xs, i, v, rfl, rfl, h, e, k⟩
theorem w_ixT {p : Addr} {xs : List V} (h : SqT K H p xs) (e : atI xs i = some v) (k : Q v H) : rIxT K (.ref p) (.int i) H Q := ⟨p, xs, i, v, rfl, rfl, h, e, k⟩
def rLen (K : PySem.W.Frag) : List V → Hp → VK → Prop := fun xs H Q => ∃ x n, xs = [x] ∧ LenV K x H n ∧ Q (.int n) H
theorem w_lenL {p : Addr} {xs : List V} (h : SqL K H p xs) (k : Q (.int xs.length) H) : rLen K [.ref p] H Q := ⟨_, xs.length, rfl, .inl ⟨xs, h, rfl⟩, k⟩
theorem w_lenT {p : Addr} {xs : List V} (h : SqT K H p xs) (k : Q (.int xs.length) H) : rLen K [.ref p] H Q := ⟨_, xs.length, rfl, .inr ⟨xs, h, rfl⟩, k⟩
theorem w_lenS {z : Str} (h : z.length ≤ sizeLine) (k : Q (.int z.length) H) : rLen K [.str z] H Q := ⟨_, z.length, rfl, ⟨h, rfl⟩, k⟩
theorem w_is {x d : V} {tv : Value} {b : Bool} (ty : TyOf K H x tv) (e : clsIs K tv d = some b) (h : Q (.bl b) H) : rIsT K [x, d] H Q := ⟨x, d, tv, b, rfl, ty, e, h⟩
def rIsN : R2 := fun x y H Q => y = .non ∧ Q (.bl (decide (x = .non))) H
end
section
variable {X : Cx}
theorem call_lenN : CallR X (.builtin "len") (rLen X.K) := call_len
theorem op_isNN : OpR X (compareOp .Is) rIsN := op_isN
end
section
variable {A B p : Prop} [Decidable p] {b : Bool}
theorem i_dec (h1 : p → A) (h2 : ¬ p → B) : if decide p = true then A else B := by
  by_cases h : p
  · rw [if_pos (decide_eq_true h)]; exact h1 h
  · rw [if_neg (by simpa using h)]; exact h2 h
theorem i_pos (h : p) (k : A) : if decide p = true then A else B := by rw [if_pos (decide_eq_true h)]; exact k
theorem i_neg (h : ¬ p) (k : B) : if decide p = true then A else B := by rw [if_neg (by simpa using h)]; exact k
theorem i_npos (h : p) (k : B) : if (!decide p) = true then A else B := by rw [if_neg (by simpa using h)]; exact k
theorem i_nneg (h : ¬ p) (k : A) : if (!decide p) = true then A else B := by rw [if_pos (by simpa using h)]; exact k
end
section
variable {H H0 H1 H2 H' : Hp} {p q a : Addr} {o u : HO} {xs ys : List V}
theorem New.trans (n1 : New H H1 p o) (n2 : New H1 H2 q u) : New H H2 q u := ⟨n1.s.trans n2.s, n2.e, fun a v e => n2.n a v (n1.s a v e)⟩
def TupsAt (H : Hp) (ys : List V) (rows : List (List V)) : Prop := ys.length = rows.length ∧ ∀ (j : Nat) (r : List V), rows[j]? = some r → ∃ q, ys[j]? = some (.ref q) ∧ H q = some (.tup r)
theorem TupsAt.nil : TupsAt H [] [] := ⟨rfl, fun j r e => by simp at e⟩
end
section
variable {σ : St} {H : Hp} {Q : VK} {K : PySem.W.Frag} {tr : TA} {D : Ends} {i j : Int} {g : TG} {tb : TS} {a b : V} {p : Addr}
theorem w_tup2 {i0 i1 : Nat} {R : St → Hp → Prop} (hp : SqT K H p [a, b]) (h : gName i0 a σ H fun σ1 H1 => gName i1 b σ1 H1 R) : gTup K 2 (gCons (gName i0) (gCons (gName i1) gNil)) (.ref p) σ H R :=
  ⟨p, _, rfl, hp, rfl, _, _, rfl, _, _, rfl, rfl, h⟩
end
end L2
namespace L2
open PySem PySem.Spec PyProof.Rows PySem.SeqAt
section
variable {X : Cx} {a : Expr} {ta : TE} {pos : Pos}
def idV : V → Bool
  | .non => true
  | .bl _ => true
  | .int _ => true
  | .str _ => true
  | .ref _ => true
  | _ => false
theorem same_eqAt {A : Around} {s : Shared} {x : V} {u v : Value} (f : idV x = true) (ru : RelV x u) (rv : RelV x v) : EqAt A s u v true := by
  cases x with
  | non => cases ru; cases rv; exact EqAt.same _
  | bl b => cases ru; cases rv; exact EqAt.same _
  | ref b => cases ru; cases rv; exact EqAt.same _
  | int i =>
    obtain ⟨t, rfl⟩ := ru
    obtain ⟨t', rfl⟩ := rv
    have := EqAt.int_int (A := A) (s := s) i t i t'
    rwa [beq_self_eq_true] at this
  | str z =>
    obtain ⟨t, rfl⟩ := ru
    obtain ⟨t', rfl⟩ := rv
    have := EqAt.str_str (A := A) (s := s) z t z t'
    rwa [beq_self_eq_true] at this
  | _ => exact absurd (show false = true from f) Bool.false_ne_true
end
def Kp (b : Addr) (H H' : Hp) : Prop := ∀ x u, x ≠ b → H x = some u → H' x = some u
section
variable {b p : Addr} {H H1 H2 : Hp} {o : HO}
theorem Kp.trans (a : Kp b H H1) (c : Kp b H1 H2) : Kp b H H2 := fun x u n h => c x u n (a x u n h)
theorem Same.kp (s : Same H H1) : Kp b H H1 := fun x u _ h => s x u h
theorem Off.kp (f : Off b H H1) : Kp b H H1 := fun x u n h => by rw [f x n]; exact h
end
def rTOfA (K : PySem.W.Frag) : List V → Hp → VK → Prop := fun xs H Q => ∃ p ys, xs = [.ref p] ∧ ((SqL K H p ys ∧ ∀ l H', New H H' l (.tup ys) → Q (.ref l) H') ∨ (SqT K H p ys ∧ Q (.ref p) H))
theorem call_tuple_ofA {X : Cx} : CallR X (.type "tuple") (rTOfA X.K) := by
  intro pins s σ H xs us Q I r h
  obtain ⟨p, ys, e, h⟩ := h
  refine call_tuple_of pins s σ H xs us Q I r ⟨p, ys, e, ?_⟩
  rcases h with ⟨hq, q⟩ | h
  · exact .inl ⟨hq, fun l hl => q l _ (.mk' hl)⟩
  · exact .inr h
def ForL (K : PySem.W.Frag) (a : Addr) (g : TG) (tb : TS) (D : Ends) (σ : St) (H : Hp) : Prop := ∃ W : Nat → Nat → St → Hp → Prop, (∃ m, W 0 m σ H) ∧ ∀ i m σ H, W i m σ H →
  ((Itl K a).stop i H ∧ D.nx σ H) ∨ ((Itl K a).go i H ∧ ∃ N : St → Hp → Prop, (∀ σ' H', N σ' H' → ∃ m', m' < m ∧ W (i + 1) m' σ' H') ∧ ∀ x H', (Itl K a).yld i H x H' → g x σ H' fun σ2 H2 => tb { D with nx := N, ct := N, bk := D.nx } σ2 H2)
theorem w_forL {K : PySem.W.Frag} {te : TE} {g : TG} {tb : TS} {D : Ends} {σ : St} {H : Hp} (h : te σ H fun x H1 => ∃ a, x = .ref a ∧ (∃ xs, SqL K H1 a xs) ∧ ForL K a g tb D σ H1) : tFor (iList K te) g tb D σ H := h
theorem forL_by {K : PySem.W.Frag} {a : Addr} {xs : List V} {g : TG} {tb : TS} {D : Ends} {σ : St} {H : Hp} (Pv : Nat → St → Hp → Prop) (h0 : Pv 0 σ H) (hl : ∀ i σ H, i ≤ xs.length → Pv i σ H → SqL K H a xs)
    (hs : ∀ i x σ H, xs[i]? = some x → Pv i σ H → g x σ H fun σ2 H2 => tb { D with nx := Pv (i + 1), ct := Pv (i + 1), bk := D.nx } σ2 H2) (hd : ∀ σ H, Pv xs.length σ H → D.nx σ H) : ForL K a g tb D σ H := for_list Pv h0 hl hs hd
def CompAll (J : It) (nt : Nat) (fr : List Nat) (g : TG) (c : TT) (te : TE) (σ : St) (H1 : Hp) (Q : VK) : Prop := ∀ acc, H1 acc = none → CompGoal J nt fr g c te σ H1 Q acc
theorem w_compL {K : PySem.W.Frag} {t0 te : TE} {nt : Nat} {fr : List Nat} {g : TG} {c : TT} {σ : St} {H : Hp} {Q : VK} (h : t0 σ H fun x H1 => ∃ a, x = .ref a ∧ (∃ xs, SqL K H1 a xs) ∧ CompAll (Itl K a) nt fr g c te σ H1 Q) : tComp (iList K t0) nt fr g c te σ H Q := h
theorem comp_map {J : It} {xs : List V} {Lk : Hp → Prop} {te : TE} {σ : St} {H : Hp} {Q : VK} {fr : List Nat} {fvs : St} {P : Nat → V → Prop} (it : L2.ItemsOf J xs Lk) (hz : xs.length ≤ 1000000) (hf : (fr.map fun i => (σ[i]?).getD none) = fvs) (hL : ∀ H', Same H H' → Lk H')
    (turn : ∀ (i : Nat) (v : V) (H' : Hp) (R : VK), xs[i]? = some v → Same H H' → (∀ y H2, Same H' H2 → P i y → R y H2) → te (some v :: fvs) H' R)
    (k : ∀ l H' ys, New H H' l (.lst ys) → ys.length = xs.length → (∀ (i : Nat) (y : V), ys[i]? = some y → P i y) → Q (.ref l) H') : CompAll J 1 fr (gName 0) tTrue te σ H Q := by
  intro acc hacc
  subst hf
  have nacc : ∀ b u, H b = some u → b ≠ acc := fun b u e => ne_of_none e hacc
  refine comp_by it (fun i ys H' => H' acc = some (.lst ys) ∧ Same H H' ∧ ys.length = i ∧ ∀ (j : Nat) (y : V), ys[j]? = some y → P j y) ⟨upd_same, Same.new hacc, rfl, fun j y e => by simp at e⟩ (fun i ys H' _ h => ⟨hL H' h.2.1, h.1⟩) ?_ ?_
  · rintro i x tv ys H' hx hi ⟨ha, hs, hl, hp⟩ htv
    obtain ⟨tv0, rfl⟩ : ∃ a, tv = [a] := List.length_eq_one_iff.mp htv
    unfold gName tTrue
    dsimp only
    rw [if_pos rfl]
    refine turn i x H' _ hx hs fun y H2 s2 py => ⟨?_, s2 _ _ ha, CompW.next (tv := [some x]) hi ⟨upd_same, fun b u e => ?_, by rw [List.length_append, hl]; rfl, fun j z e => ?_⟩ rfl⟩
    · rw [hl]
      exact Nat.lt_of_lt_of_le hi (small_line hz)
    · rw [upd_ne (nacc b u e)]
      exact s2 _ _ (hs _ _ e)
    · by_cases hj : j < ys.length
      · rw [List.getElem?_append_left hj] at e
        exact hp j z e
      · rw [List.getElem?_append_right (by omega)] at e
        have hj2 : j - ys.length = 0 := by
          by_cases h0 : j - ys.length = 0
          · exact h0
          · rw [List.getElem?_eq_none (by simp; omega)] at e
            cases e
        rw [hj2] at e
        cases e
        have : j = i := by omega
        rw [this]
        exact py
  · rintro ys H' ⟨ha, hs, hl, hp⟩
    exact k acc H' ys ⟨hs, ha, nacc⟩ hl hp
section
variable {X : Cx} {pins : List (Addr × Obj)} {EX : St → XK} {k m : Nat} {x : Str} {ps : List Str} {sp : Sp} {p pos apos : Pos} {e o : Expr} {es : List Expr} {t : TA} {ta : TE} {f C : Addr} {fd : FuncData} {nm : Str}
structure CMeth (K : PySem.W.Frag) (C : Addr) (m : Str) (f : Addr) : Prop where
  ga : PySem.W.specialIn K (.ref C) "__getattribute__" = some (some (.builtin "type.__getattribute__"))
  rd : PySem.W.readsIn K C (.type "type") = true
  at_ : PySem.W.findCls K (.ref C) (.type "type") m = some (.val (.ref f))
  hi : PySem.W.handedIn (.ref f) = true
  kp : PySem.W.keepIn K (.ref f) = true
end
section
variable {P : Program} {w : World} {K : PySem.W.Frag} {mg : Str → Option Value} {base : Heap} {CX : CXT} {k : Nat} {x nm qual : Str} {ps : List Str} {sp : Sp} {C : Addr}
structure Met (P : Program) (w : World) (K : PySem.W.Frag) (mg : Str → Option Value) (base : Heap) (CX : CXT) (k : Nat) (C : Addr) (nm : Str) (ps : List Str) (sp : Sp) : Prop where
  ex : ∃ (f : Addr) (fd : FuncData), FnOk P w K mg base CX k f fd ps sp ∧ Meth K C nm f ∧ Binds K fd ps []
def FnAt (K : PySem.W.Frag) (nm qual : Str) (st : Stmt) (f : Addr) : Prop := ∃ fd : FuncData, Fun K nm qual st f fd
structure FnTells (P : Program) (w : World) (K : PySem.W.Frag) (mg : Str → Option Value) (base : Heap) (CX : CXT) (k : Nat) (f : Addr) (ps : List Str) (sp : Sp) : Prop where
  ex : ∃ fd : FuncData, FnOk P w K mg base CX k f fd ps sp ∧ Binds K fd ps []
theorem FnTells.met {f : Addr} (t : FnTells P w K mg base CX k f ps sp) (m : Meth K C nm f) : Met P w K mg base CX k C nm ps sp := let ⟨fd, F, b⟩ := t.ex; ⟨f, fd, F, m, b⟩
variable {st : Stmt} {N : List Str} {f : Addr}
end
end L2
namespace L2
open PySem PySem.Spec PyProof.Rows
abbrev numS (i : Int) : Str := Str.ofString (toString i)
def rAddS : R2 := fun x y H Q => ∃ i j, x = .str i ∧ y = .str j ∧ i.length + j.length ≤ sizeLine ∧ Q (.str (i ++ j)) H
def rStrI : List V → Hp → VK → Prop := fun xs H Q => ∃ i, xs = [.int i] ∧ i.natAbs.log2 < 1920 ∧ Q (.str (numS i)) H
def rJoin (K : PySem.W.Frag) : V → List V → Hp → VK → Prop := fun x xs H Q => ∃ sep p ts, x = .str sep ∧ xs = [.ref p] ∧ SqL K H p (ts.map V.str) ∧ sep.length ≤ 16 ∧ (ts.map (fun t => t.length)).sum + ts.length ≤ 1048576 ∧ Q (.str (sep.join ts)) H
theorem strsAre_of : ∀ {ts : List Str} {us : List Value}, Vals (ts.map V.str) us → StrsAre us ts
  | [], _, .nil => .nil
  | t :: ts, _, .cons r h => by
    obtain ⟨k, rfl⟩ := r
    exact .cons t k (strsAre_of h)
def tFmt (t : TE) : TE := fun σ H Q => t σ H fun x H1 => (∃ y, x = .str y ∧ y.length ≤ sizeLine ∧ Q (.str y) H1) ∨ ∃ i, x = .int i ∧ i.natAbs.log2 < 1920 ∧ Q (.str (numS i)) H1
def tFs : List TE → Str → TE
  | [], out => fun _ H Q => out.length ≤ sizeLine ∧ Q (.str out) H
  | t :: ts, out => fun σ H Q => t σ H fun x H1 => ∃ y, x = .str y ∧ (out ++ y).length ≤ sizeLine ∧ tFs ts (out ++ y) σ H1 Q
section
variable {X : Cx} {pos : Pos}
inductive PFs (X : Cx) : List Expr → List TE → Prop where
  | nil : PFs X [] []
  | cons {e : Expr} {t : TE} {es : List Expr} {ts : List TE} (h : PE X e t) (r : PFs X es ts) : PFs X (e :: es) (t :: ts)
theorem op_addS : OpR X (binaryOp .Add) rAddS := op_add_str
theorem call_strI : CallR X (.type "str") rStrI := call_str_int
theorem mt_join : MtR X "str.join" (rJoin X.K) := by
  intro pins s σ H x xs v us Q I rx rs h
  obtain ⟨sep, p, ts, rfl, rfl, hq, h1, h2, q⟩ := h
  obtain ⟨t, rfl⟩ := rx
  obtain ⟨u, rfl, r1⟩ := vals1 rs
  cases r1
  obtain ⟨its, r, pl, hz⟩ := I.list hq
  refine join_listW (items := its.toArray) (ys := ts) pl.isList (strsAre_of r) h1 h2 fun t' k => ⟨.str (sep.join ts), H, I.tok _, ⟨t', ?_⟩, q⟩
  show Value.str (Builtin.Str.glued sep ts) t' = _
  rw [StrLaws.glued_eq_join]
theorem pe_join {o e : Expr} {to te : TE} {apos cpos : Pos} (ho : PE X o to) (he : PE X e te) (hbase : attributeBase o "join" X.env (eval o X.env) = eval o X.env := by rfl)
    (hfew : ((backTo cpos (starEach [e] X.env)).all (fun x => !x.1) && (backToKw cpos (keywordEach [] X.env)).all (fun x => x.1.isSome)
      && decide (([e] : List Expr).length + ([] : List Keyword).length + (if ([] : List Keyword).isEmpty then 0 else 1) < 30)) = true := by rfl)
    (hline : (apos.endLine == cpos.line) = true := by rfl) (hs : starEach [e] X.env = (false, eval e X.env) :: starEach [] X.env := by rfl) :
    PE X (.Call (.Attribute o "join" apos) [e] [] cpos) (tBM X.K "str" (rJoin X.K) to (tCons te tNil)) :=
  pe_bm PySem.F.plainAttrs_str PySem.F.slot_str_join PySem.F.type_str_join mt_join ho (pa_cons he pa_nil hs) hbase hfew hline hs (by rfl)
theorem pe_fmt {e : Expr} {t : TE} (h : PE X e t) : PE X (.FormattedValue e (-1) none pos) (tFmt t) := by
  intro pins s σ H Q I hh
  refine FormattedValue_plain (thn (h pins s σ H _ I hh) fun v s1 ⟨x, H1, I1, r1, q1⟩ => ?_)
  rcases q1 with ⟨y, rfl, hz, q⟩ | ⟨i, rfl, hz, q⟩
  · obtain ⟨t, rfl⟩ := r1
    exact formatField_str (fun t' tk => ⟨.str y, H1, I1.tok _, ⟨_, rfl⟩, q⟩) hz
  · obtain ⟨t, rfl⟩ := r1
    exact formatField_int_small hz ⟨.str _, H1, I1.tok _, ⟨_, rfl⟩, q⟩
theorem fs_ok : ∀ {es : List Expr} {ts : List TE}, PFs X es ts → ∀ (out : Str) (pins : List (Addr × Obj)) (s : Shared) (σ : St) (H : Hp) (Q : VK), Inv X pins σ H s → tFs ts out σ H Q →
    wpAny (model X.prog X.w) X.A (joinParts out (evalEach es X.env)) (EP X pins σ Q) X.xe s
  | _, _, .nil, out, pins, s, σ, H, Q, I, h => joinParts_nil ⟨.str out, H, I.tok _, ⟨_, rfl⟩, h.2⟩ h.1
  | _, _, .cons he r, out, pins, s, σ, H, Q, I, h => by
    refine joinParts_cons (thn (he pins s σ H _ I h) fun v s1 ⟨x, H1, I1, r1, q1⟩ => ?_)
    obtain ⟨y, rfl, hz, q⟩ := q1
    obtain ⟨t, rfl⟩ := r1
    exact ⟨hz, fs_ok r _ pins s1 σ H1 Q I1 q⟩
theorem pe_fstr {a b : Expr} {es : List Expr} {ts : List TE} (h : PFs X (a :: b :: es) ts) : PE X (.JoinedStr (a :: b :: es) pos) (tFs ts Str.empty) := by
  intro pins s σ H Q I hh
  exact JoinedStr_many (fs_ok h _ pins s σ H Q I hh)
end
theorem pg_tupK {X : Cx} {K : PySem.W.Frag} {pos : Pos} {es : List Expr} {k : Nat} {t : TGs} {n : Nat} (hK : X.K = K) (hc : X.calm = true) (h : PGs X es t)
    (hn : (assignEach es X.env).length = n := by rfl) (hst : (assignEach es X.env).findIdx? (·.1) = none := by rfl) : PG X (.Tuple es k pos) (gTup K n t) := by
  subst hK
  exact pg_tup hc h hn hst
theorem comp_mapG {J : It} {xs : List V} {Lk : Hp → Prop} {te : TE} {g : TG} {σ : St} {H : Hp} {Q : VK} {fr : List Nat} {fvs : St} {nt : Nat} {P : Nat → V → Hp → Prop} (it : L2.ItemsOf J xs Lk) (hz : xs.length ≤ 1000000) (hf : (fr.map fun i => (σ[i]?).getD none) = fvs) (hL : ∀ H', Same H H' → Lk H')
    (hP : ∀ i y H1 H2, P i y H1 → (∀ q u, H1 q = some (.tup u) → H2 q = some (.tup u)) → P i y H2)
    (turn : ∀ (i : Nat) (v : V) (tv : St) (H' : Hp), xs[i]? = some v → Same H H' → tv.length = nt → ∃ tv' σ' : St, tv'.length = nt ∧ tv' ++ fvs = σ' ∧ (∀ R2 : St → Hp → Prop, R2 σ' H' → g v (tv ++ fvs) H' R2) ∧ ∀ R : VK, (∀ y H2, Same H' H2 → P i y H2 → R y H2) → te σ' H' R)
    (k : ∀ l H' ys, New H H' l (.lst ys) → ys.length = xs.length → (∀ (i : Nat) (y : V), ys[i]? = some y → P i y H') → Q (.ref l) H') : CompAll J nt fr g tTrue te σ H Q := by
  intro acc hacc
  subst hf
  have nacc : ∀ b u, H b = some u → b ≠ acc := fun b u e => ne_of_none e hacc
  refine comp_by it (fun i ys H' => H' acc = some (.lst ys) ∧ Same H H' ∧ ys.length = i ∧ ∀ (j : Nat) (y : V), ys[j]? = some y → P j y H') ⟨upd_same, Same.new hacc, rfl, fun j y e => by simp at e⟩ (fun i ys H' _ h => ⟨hL H' h.2.1, h.1⟩) ?_ ?_
  · rintro i x tv ys H' hx hi ⟨ha, hs, hl, hp⟩ htv
    obtain ⟨tv', _, ht', rfl, hg, he⟩ := turn i x tv H' hx hs htv
    refine hg _ ?_
    unfold tTrue
    dsimp only
    rw [if_pos rfl]
    refine he _ fun y H2 s2 py => ⟨by rw [hl]; exact Nat.lt_of_lt_of_le hi (small_line hz), s2 _ _ ha, CompW.next (tv := tv') hi ⟨upd_same, fun b u e => by rw [upd_ne (nacc b u e)]; exact s2 _ _ (hs _ _ e), by rw [List.length_append, hl]; rfl, fun j z e => ?_⟩ ht'⟩
    have stay : ∀ q u, H2 q = some (.tup u) → (upd H2 acc (.lst (ys ++ [y]))) q = some (.tup u) := fun q u h => by
      have ne : q ≠ acc := fun z => by
        rw [z, s2 _ _ ha] at h
        cases h
      rw [upd_ne ne]
      exact h
    by_cases hj : j < ys.length
    · rw [List.getElem?_append_left hj] at e
      exact hP _ _ _ _ (hP _ _ _ _ (hp j z e) fun q u h => s2 _ _ h) stay
    · rw [List.getElem?_append_right (by omega)] at e
      have hj2 : j - ys.length = 0 := by
        by_cases h0 : j - ys.length = 0
        · exact h0
        · rw [List.getElem?_eq_none (by simp; omega)] at e
          cases e
      rw [hj2] at e
      cases e
      have : j = i := by omega
      rw [this]
      exact hP _ _ _ _ py stay
  · rintro ys H' ⟨ha, hs, hl, hp⟩
    exact k acc H' ys ⟨hs, ha, nacc⟩ hl hp
def flatDt : V → Dt
  | .int i => .int i
  | .str x => .str x
  | .bl b => .bl b
  | _ => .non
def isFlat : V → Bool
  | .int _ => true
  | .str _ => true
  | .bl _ => true
  | .non => true
  | _ => false
def rExtA : V → List V → Hp → VK → Prop := fun x vs H Q => ∃ l b xs zs, x = .ref l ∧ vs = [.ref b] ∧ H l = some (.lst xs) ∧ H b = some (.lst zs) ∧ xs.length + zs.length ≤ sizeLine ∧ ∀ H', Off l H H' → H' l = some (.lst (xs ++ zs)) → Q .non H'
section
variable {X : Cx}
theorem mt_extA : MtM X "list.extend" rExtA := by
  intro pins s σ H x vs v us Q I rx rv h
  obtain ⟨l, b, xs, zs, e1, e2, hH, hB, hz, q⟩ := h
  exact mt_extend pins s σ H x vs v us Q I rx rv ⟨l, b, xs, zs, e1, e2, hH, hB, hz, q _ Off.upd upd_same⟩
theorem pe_extA {o e : Expr} {to te : TE} {apos cpos : Pos} (ho : PE X o to) (he : PE X e te) (hbase : attributeBase o "extend" X.env (eval o X.env) = eval o X.env := by rfl)
    (hfew : ((backTo cpos (starEach [e] X.env)).all (fun x => !x.1) && (backToKw cpos (keywordEach [] X.env)).all (fun x => x.1.isSome)
      && decide (([e] : List Expr).length + ([] : List Keyword).length + (if ([] : List Keyword).isEmpty then 0 else 1) < 30)) = true := by rfl)
    (hline : (apos.endLine == cpos.line) = true := by rfl) (hs : starEach [e] X.env = (false, eval e X.env) :: starEach [] X.env := by rfl) :
    PE X (.Call (.Attribute o "extend" apos) [e] [] cpos) (tBM X.K "list" rExtA to (tCons te tNil)) :=
  pe_bm PySem.F.plainAttrs_list PySem.F.slot_list_extend PySem.F.type_list_extend mt_extA ho (pa_cons he pa_nil hs) hbase hfew hline hs (by rfl)
end
end L2
namespace L2
open PySem PySem.Spec PyProof.Rows PySem.SeqAt
section
variable {H H' : Hp} {p a l : Addr} {o u : HO}
theorem New.at (n : New H H' p o) (h : H a = some u) : H' a = some u := n.s a u h
theorem Same.at (s : Same H H') (h : H a = some u) : H' a = some u := s a u h
theorem Off.at (f : Off l H H') (ne : a ≠ l) (h : H a = some u) : H' a = some u := by rw [f a ne]; exact h
theorem Kp.at (k : Kp l H H') (ne : a ≠ l) (h : H a = some u) : H' a = some u := k a u ne h
end
theorem cx_K {CX : CXT} {P : Program} {w : World} {K : PySem.W.Frag} {mg : Str → Option Value} {base : Heap} {N : List Str} {q : Str} {sc : Scope} {f : Addr} {cdv : Value} {A : Around} {outer : List Env} {s : Shared} {H : Hp} {E : XK} : (cxOf CX P w K mg base N q sc f cdv A outer s H E).nox.K = K := rfl
theorem cx_K2 {CX : CXT} {P : Program} {w : World} {K : PySem.W.Frag} {mg : Str → Option Value} {base : Heap} {N : List Str} {q : Str} {sc : Scope} {f : Addr} {cdv : Value} {A : Around} {outer : List Env} {s : Shared} {H : Hp} {E : XK} : (cxOf CX P w K mg base N q sc f cdv A outer s H E).K = K := rfl
def Hs (H : Hp) (a : Addr) : Prop := ∃ u, H a = some u
section
variable {H H' : Hp} {a p l : Addr} {o u : HO}
theorem Hs.of (h : H a = some u) : Hs H a := ⟨u, h⟩
theorem New.hs (n : New H H' p o) : Hs H' p := ⟨o, n.e⟩
end
section
variable {H : Hp} {Q : VK} {K : PySem.W.Frag} {l b : Addr} {xs ys : List V} {y : V} {σ : St} {D : Ends}
theorem w_tyL {R : Prop} (h : SqL K H l xs) (k : R) : tyV K "list" (.ref l) H ∧ R := ⟨.inl ⟨rfl, _, h⟩, k⟩
theorem w_app (h : H l = some (.lst xs)) (z : xs.length < sizeLine) (k : ∀ H', Off l H H' → H' l = some (.lst (xs ++ [y])) → Q .non H') : rAppA (.ref l) [y] H Q := ⟨l, xs, y, rfl, rfl, h, z, k⟩
theorem w_ext (h : H l = some (.lst xs)) (e : H b = some (.lst ys)) (z : xs.length + ys.length ≤ sizeLine) (k : ∀ H', Off l H H' → H' l = some (.lst (xs ++ ys)) → Q .non H') : rExtA (.ref l) [.ref b] H Q := ⟨l, b, xs, ys, rfl, rfl, h, e, z, k⟩
theorem w_slA {lo hi : Option Int} (h : SqL K H l xs) (k : ∀ p H', New H H' p (.lst (cutV xs lo hi)) → Q (.ref p) H') : rSlA K (.ref l) lo hi H Q := ⟨l, xs, rfl, h, k⟩
theorem w_catA (h : H l = some (.lst xs)) (e : H b = some (.lst ys)) (z : xs.length + ys.length ≤ sizeLine) (k : ∀ p H', New H H' p (.lst (xs ++ ys)) → Q (.ref p) H') : rCatA (.ref l) (.ref b) H Q := ⟨l, b, xs, ys, rfl, rfl, h, e, z, k⟩
theorem atL1 {x y : V} {r : List V} : atI (x :: y :: r) 1 = some y := atI_nat (j := 1) rfl
theorem atL2 {x y z : V} {r : List V} : atI (x :: y :: z :: r) 2 = some z := atI_nat (j := 2) rfl
theorem atL3 {x y z w : V} {r : List V} : atI (x :: y :: z :: w :: r) 3 = some w := atI_nat (j := 3) rfl
theorem i_tt {A B : Prop} (k : A) : if (true : Bool) = true then A else B := by rw [if_pos rfl]; exact k
theorem i_ff {A B : Prop} (k : B) : if (false : Bool) = true then A else B := by rw [if_neg (by decide)]; exact k
theorem i_ntt {A B : Prop} (k : B) : if (!true : Bool) = true then A else B := by rw [if_neg (by decide)]; exact k
theorem i_nff {A B : Prop} (k : A) : if (!false : Bool) = true then A else B := by rw [if_pos (by decide)]; exact k
theorem w_isTT (h : H l = some (.tup xs)) (k : Q (.bl true) H) : rIsT K [.ref l, .ty "tuple"] H Q := w_is (.tup h) (bt_tuple (.tup h)) k
theorem w_isLL (h : H l = some (.lst xs)) (k : Q (.bl true) H) : rIsT K [.ref l, .ty "list"] H Q := w_is (.lst h) (bt_list (.lst h)) k
theorem w_isTL (h : H l = some (.tup xs)) (k : Q (.bl false) H) : rIsT K [.ref l, .ty "list"] H Q := w_is (.tup h) (bt_list (.tup h)) k
theorem w_isLT (h : H l = some (.lst xs)) (k : Q (.bl false) H) : rIsT K [.ref l, .ty "tuple"] H Q := w_is (.lst h) (bt_tuple (.lst h)) k
theorem w_isII {i : Int} (k : Q (.bl true) H) : rIsT K [.int i, .ty "int"] H Q := w_is (TyOf.int (K := K) (H := H) i) (bt_int (TyOf.int (K := K) (H := H) i)) k
theorem w_isIB {i : Int} (k : Q (.bl false) H) : rIsT K [.int i, .ty "bool"] H Q := w_is (TyOf.int (K := K) (H := H) i) (bt_bool (TyOf.int (K := K) (H := H) i)) k
theorem small_lt {n : Nat} (h : n < 1000000) : n < sizeLine := Nat.lt_of_lt_of_le h (small_line (Nat.le_refl _))
theorem w_tupB {n i0 i1 : Nat} {a b : V} {R : St → Hp → Prop} (hn : n = 2) (hp : SqT K H l [a, b]) (h : gName i0 a σ H fun σ1 H1 => gName i1 b σ1 H1 R) : gTup K n (gCons (gName i0) (gCons (gName i1) gNil)) (.ref l) σ H R := by
  subst hn
  exact w_tup2 hp h
theorem tups_at {rows : List (List V)} {i : Nat} {v : V} (h : TupsAt H xs rows) (e : xs[i]? = some v) : ∃ r q, rows[i]? = some r ∧ v = .ref q ∧ H q = some (.tup r) := by
  have hi : i < rows.length := by rw [← h.1]; exact (List.getElem?_eq_some_iff.mp e).1
  obtain ⟨q, e1, e2⟩ := h.2 i rows[i] (by simp)
  rw [e] at e1
  exact ⟨rows[i], q, by simp, Option.some.inj e1, e2⟩
end
section
variable {K : PySem.W.Frag} {g : TG} {tb : TS} {D : Ends} {σ : St} {H : Hp} {tr : TA}
def ForR (lo : Int) (n : Nat) (g : TG) (tb : TS) (D : Ends) (σ : St) (H : Hp) : Prop := ∃ W : Nat → Nat → St → Hp → Prop, (∃ m, W 0 m σ H) ∧ ∀ i m σ H, W i m σ H →
  ((Itr lo n).stop i H ∧ D.nx σ H) ∨ ((Itr lo n).go i H ∧ ∃ N : St → Hp → Prop, (∀ σ' H', N σ' H' → ∃ m', m' < m ∧ W (i + 1) m' σ' H') ∧ ∀ x H', (Itr lo n).yld i H x H' → g x σ H' fun σ2 H2 => tb { D with nx := N, ct := N, bk := D.nx } σ2 H2)
theorem w_forR1 (h : tr σ H fun vs H1 => ∃ j : Int, vs = [.int j] ∧ -(2 ^ 62) ≤ j ∧ j < 2 ^ 62 ∧ ForR 0 j.toNat g tb D σ H1) : tFor (iRng1 tr) g tb D σ H := h
theorem l_by {a : Addr} {xs : List V} (h : SqL K H a xs) (k : ForL K a g tb D σ H) : ∃ a', V.ref a = .ref a' ∧ (∃ xs, SqL K H a' xs) ∧ ForL K a' g tb D σ H := ⟨a, rfl, ⟨xs, h⟩, k⟩
theorem c_by {a : Addr} {xs : List V} {nt : Nat} {fr : List Nat} {c : TT} {te : TE} {Q : VK} (h : SqL K H a xs) (k : CompAll (Itl K a) nt fr g c te σ H Q) : ∃ a', V.ref a = .ref a' ∧ (∃ xs, SqL K H a' xs) ∧ CompAll (Itl K a') nt fr g c te σ H Q := ⟨a, rfl, ⟨xs, h⟩, k⟩
end
section
variable {K : PySem.W.Frag} {H : Hp} {Q : VK} {E : XK} {x : V} {n : String} {p q : Addr} {a b c lo hi : Int}
def rowsN (ws : List (Nat × Nat)) : List (List V) := ws.map fun w => [V.int (w.1 : Nat), V.int (w.2 : Nat)]
theorem rowsN_len (ws : List (Nat × Nat)) : (rowsN ws).length = ws.length := List.length_map ..
end
section
variable {K : PySem.W.Frag} {g : TG} {tb : TS} {D : Ends} {σ : St} {H H' : Hp} {Q : VK} {l p q : Addr} {xs ys : List V} {rows : List (List V)}
theorem forR0_by {n : Nat} (Pv : Nat → St → Hp → Prop) (h0 : Pv 0 σ H) (hs : ∀ i σ H, i < n → Pv i σ H → g (.int i) σ H fun σ2 H2 => tb { D with nx := Pv (i + 1), ct := Pv (i + 1), bk := D.nx } σ2 H2) (hd : ∀ σ H, Pv n σ H → D.nx σ H) : ForR 0 n g tb D σ H :=
  for_range Pv h0 (fun i σ H hi h => by rw [Int.zero_add]; exact hs i σ H hi h) hd
theorem comp_V {te : TE} {fr : List Nat} {fvs : St} {F : V → V} (hq : SqL K H l xs) (hz : xs.length ≤ 1000000) (hf : (fr.map fun i => (σ[i]?).getD none) = fvs)
    (turn : ∀ (v : V) (H' : Hp) (R : VK), v ∈ xs → Same H H' → (∀ H2, Same H' H2 → R (F v) H2) → te (some v :: fvs) H' R)
    (k : ∀ p H', New H H' p (.lst (xs.map F)) → Q (.ref p) H') : CompAll (Itl K l) 1 fr (gName 0) tTrue te σ H Q := by
  refine comp_map (P := fun i y => ∃ v, xs[i]? = some v ∧ y = F v) (items_list (xs := xs)) hz hf (fun H' s => s.seq hq) (fun i v H' R hv s kk => ?_) fun p H' ys n hl hP => k p H' ?_
  · exact turn v H' R (List.mem_of_getElem? hv) s fun H2 s2 => kk _ _ s2 ⟨v, hv, rfl⟩
  · have e : ys = xs.map F := by
      apply List.ext_getElem?
      intro i
      rw [List.getElem?_map]
      by_cases hi : i < ys.length
      · obtain ⟨v, e1, e2⟩ := hP i ys[i] (by simp)
        rw [e1, List.getElem?_eq_getElem hi, e2]
        rfl
      · rw [List.getElem?_eq_none (by omega), List.getElem?_eq_none (by omega)]
        rfl
    rw [e] at n
    exact n
theorem comp_rows2 {te : TE} {n : Nat} {fr : List Nat} {fvs : St} {F : List V → V} (hq : H l = some (.lst xs)) (tp : TupsAt H xs rows) (hn : n = 2) (h2 : ∀ r ∈ rows, ∃ a b, r = [a, b]) (hz : xs.length ≤ 1000000) (hf : (fr.map fun i => (σ[i]?).getD none) = fvs)
    (turn : ∀ (a b : V) (H' : Hp) (R : VK), [a, b] ∈ rows → Same H H' → (∀ H2, Same H' H2 → R (F [a, b]) H2) → te (some a :: some b :: fvs) H' R)
    (k : ∀ p H', New H H' p (.lst (rows.map F)) → Q (.ref p) H') : CompAll (Itl K l) 2 fr (gTup K n (gCons (gName 0) (gCons (gName 1) gNil))) tTrue te σ H Q := by
  subst hn
  refine comp_mapG (P := fun i y _ => ∃ r, rows[i]? = some r ∧ y = F r) (items_list (xs := xs)) hz hf (fun H' s => s.seq (SqL.of hq)) (fun i y H1 H2 h _ => h) (fun i v tv H' hv s htv => ?_) fun p H' zs n hl hP => k p H' ?_
  · obtain ⟨r, q, e1, rfl, e2⟩ := tups_at tp hv
    obtain ⟨a, b, rfl⟩ := h2 r (List.mem_of_getElem? e1)
    obtain ⟨t0, t1, rfl⟩ : ∃ t0 t1, tv = [t0, t1] := by
      match tv, htv with
      | [t0, t1], _ => exact ⟨t0, t1, rfl⟩
    refine ⟨[some a, some b], some a :: some b :: fvs, rfl, rfl, fun R2 hR => ?_, fun R kk => turn a b H' R (List.mem_of_getElem? e1) s fun H2 s2 => kk _ _ s2 ⟨_, e1, rfl⟩⟩
    exact w_tup2 (SqT.of (s _ _ e2)) hR
  · have e : zs = rows.map F := by
      apply List.ext_getElem?
      intro i
      rw [List.getElem?_map]
      by_cases hi : i < zs.length
      · obtain ⟨r, e1, e2⟩ := hP i zs[i] (by simp)
        rw [e1, List.getElem?_eq_getElem hi, e2]
        rfl
      · have : ¬ i < rows.length := by rw [← tp.1]; omega
        rw [List.getElem?_eq_none (by omega), List.getElem?_eq_none (by omega)]
        rfl
    rw [e] at n
    exact n
theorem TupsAt.snoc {r : List V} (h : TupsAt H ys rows) (hq : H q = some (.tup r)) : TupsAt H (ys ++ [.ref q]) (rows ++ [r]) := by
  refine ⟨by rw [List.length_append, List.length_append, h.1]; rfl, fun j s z => ?_⟩
  by_cases hj : j < rows.length
  · rw [List.getElem?_append_left hj] at z
    obtain ⟨x, e1, e2⟩ := h.2 j s z
    exact ⟨x, by rw [List.getElem?_append_left (by rw [h.1]; exact hj)]; exact e1, e2⟩
  · have hj2 : j = rows.length := by
      have := (List.getElem?_eq_some_iff.mp z).1
      rw [List.length_append, List.length_singleton] at this
      omega
    subst hj2
    rw [List.getElem?_append_right (Nat.le_refl _), Nat.sub_self] at z
    cases z
    exact ⟨q, by rw [← h.1, List.getElem?_append_right (Nat.le_refl _), Nat.sub_self]; rfl, hq⟩
end
def isTup : HO → Bool
  | .tup _ => true
  | .frz _ _ => true
  | _ => false
def Tst (H H' : Hp) : Prop := ∀ q u, isTup u = true → H q = some u → H' q = some u
inductive Im where
  | tup (q : Addr) (r : List V)
  | tps (ys : List V) (rs : List (List V))
  | fct (φ : Hp → Prop) (st : ∀ H H', Tst H H' → φ H → φ H')
def Im.holds (H : Hp) : Im → Prop
  | .tup q r => H q = some (.tup r)
  | .tps ys rs => TupsAt H ys rs
  | .fct φ _ => φ H
theorem Im.stay {H H' : Hp} (t : Tst H H') : ∀ {f : Im}, f.holds H → f.holds H'
  | .tup q r, h => t q _ rfl h
  | .tps ys rs, h => ⟨h.1, fun j r e => let ⟨q, a, b⟩ := h.2 j r e; ⟨q, a, t q _ rfl b⟩⟩
  | .fct φ st, h => st H H' t h
class SH (H0 : outParam Hp) (M : outParam (List Addr)) (H : Hp) (L : outParam (List (Addr × HO))) (I : outParam (List Im)) : Prop where
  fr : ∀ b u, b ∉ M → H0 b = some u → H b = some u
  im : ∀ f ∈ I, f.holds H
  at' : ∀ c ∈ L, H c.1 = some c.2
  nd : (L.map (·.1)).Nodup
  mu : ∀ c ∈ L, isTup c.2 = false
  ch : ∀ c ∈ L, c.1 ∈ M ∨ ∀ b u, H0 b = some u → b ≠ c.1
inductive Up (l : Addr) (o' : HO) : List (Addr × HO) → List (Addr × HO) → Prop
  | head {o : HO} {L : List (Addr × HO)} : Up l o' ((l, o) :: L) ((l, o') :: L)
  | tail {c : Addr × HO} {L L' : List (Addr × HO)} (h : Up l o' L L') : Up l o' (c :: L) (c :: L')
theorem Up.keys {l : Addr} {o' : HO} {L L' : List (Addr × HO)} (h : Up l o' L L') : L'.map (·.1) = L.map (·.1) := by
  induction h with
  | head => rfl
  | tail h ih => rw [List.map_cons, List.map_cons, ih]
theorem Up.mem {l : Addr} {o' : HO} {L L' : List (Addr × HO)} (h : Up l o' L L') : l ∈ L.map (·.1) := by
  induction h with
  | head => exact List.mem_cons_self
  | tail h ih => exact List.mem_cons_of_mem _ ih
theorem Up.each {l : Addr} {o' : HO} {L L' : List (Addr × HO)} (h : Up l o' L L') (nd : (L.map (·.1)).Nodup) : ∀ c ∈ L', c = (l, o') ∨ (c ∈ L ∧ c.1 ≠ l) := by
  induction h with
  | @head o L =>
    intro c hc
    rcases List.mem_cons.mp hc with rfl | hc
    · exact .inl rfl
    · refine .inr ⟨List.mem_cons_of_mem _ hc, fun z => ?_⟩
      rw [List.map_cons] at nd
      exact (List.nodup_cons.mp nd).1 (by show l ∈ _; rw [← z]; exact List.mem_map_of_mem (f := (·.1)) hc)
  | @tail d L L' h ih =>
    intro c hc
    rw [List.map_cons] at nd
    have nd' := List.nodup_cons.mp nd
    rcases List.mem_cons.mp hc with rfl | hc
    · exact .inr ⟨List.mem_cons_self, fun z => nd'.1 (z ▸ h.mem)⟩
    · rcases ih nd'.2 c hc with e | ⟨e1, e2⟩
      · exact .inl e
      · exact .inr ⟨List.mem_cons_of_mem _ e1, e2⟩
theorem Up.src {l : Addr} {o' : HO} {L L' : List (Addr × HO)} (h : Up l o' L L') : ∃ o, (l, o) ∈ L := by
  induction h with
  | head => exact ⟨_, List.mem_cons_self⟩
  | tail h ih => obtain ⟨o, ho⟩ := ih; exact ⟨o, List.mem_cons_of_mem _ ho⟩
inductive Pk (c : Addr × HO) : List (Addr × HO) → List (Addr × HO) → Prop
  | head {L : List (Addr × HO)} : Pk c (c :: L) L
  | tail {d : Addr × HO} {L R : List (Addr × HO)} (h : Pk c L R) : Pk c (d :: L) (d :: R)
inductive Sb : List (Addr × HO) → List (Addr × HO) → Prop
  | nil {L : List (Addr × HO)} : Sb [] L
  | cons {c : Addr × HO} {L' L R : List (Addr × HO)} (h : Pk c L R) (t : Sb L' R) : Sb (c :: L') L
theorem Pk.mem {c : Addr × HO} {L R : List (Addr × HO)} (h : Pk c L R) : c ∈ L ∧ ∀ d ∈ R, d ∈ L := by
  induction h with
  | head => exact ⟨List.mem_cons_self, fun d hd => List.mem_cons_of_mem _ hd⟩
  | tail h ih =>
    refine ⟨List.mem_cons_of_mem _ ih.1, fun d hd => ?_⟩
    rcases List.mem_cons.mp hd with rfl | hd
    · exact List.mem_cons_self
    · exact List.mem_cons_of_mem _ (ih.2 d hd)
theorem Pk.nd {c : Addr × HO} {L R : List (Addr × HO)} (h : Pk c L R) (nd : (L.map (·.1)).Nodup) : (R.map (·.1)).Nodup ∧ ∀ d ∈ R, d.1 ≠ c.1 := by
  induction h with
  | head =>
    rw [List.map_cons] at nd
    have := List.nodup_cons.mp nd
    exact ⟨this.2, fun d hd z => this.1 (z ▸ List.mem_map_of_mem hd)⟩
  | @tail d L R h ih =>
    rw [List.map_cons] at nd
    have nd' := List.nodup_cons.mp nd
    obtain ⟨i1, i2⟩ := ih nd'.2
    refine ⟨by
      rw [List.map_cons, List.nodup_cons]
      refine ⟨fun z => ?_, i1⟩
      obtain ⟨x, hx, ex⟩ := List.mem_map.mp z
      exact nd'.1 (ex ▸ List.mem_map_of_mem (h.mem.2 x hx)), fun x hx => ?_⟩
    rcases List.mem_cons.mp hx with rfl | hx
    · exact fun z => nd'.1 (z ▸ List.mem_map_of_mem h.mem.1)
    · exact i2 x hx
theorem Sb.mem {L' L : List (Addr × HO)} (h : Sb L' L) : ∀ c ∈ L', c ∈ L := by
  induction h with
  | nil => intro c hc; cases hc
  | cons h t ih =>
    intro c hc
    rcases List.mem_cons.mp hc with rfl | hc
    · exact h.mem.1
    · exact h.mem.2 c (ih c hc)
theorem Sb.nd {L' L : List (Addr × HO)} (h : Sb L' L) : (L.map (·.1)).Nodup → (L'.map (·.1)).Nodup := by
  induction h with
  | nil => intro _; exact List.nodup_nil
  | cons h t ih =>
    intro nd
    obtain ⟨n1, n2⟩ := h.nd nd
    rw [List.map_cons, List.nodup_cons]
    refine ⟨fun z => ?_, ih n1⟩
    obtain ⟨x, hx, ex⟩ := List.mem_map.mp z
    exact n2 x (t.mem x hx) ex
section
variable {H0 H H' : Hp} {M : List Addr} {L L' : List (Addr × HO)} {I I' : List Im} {p q l a : Addr} {o o' u : HO} {xs ys r : List V} {rs : List (List V)} {K : PySem.W.Frag}
theorem SH.nil : SH H M H [] [] := ⟨fun _ _ _ h => h, (fun _ h => by cases h), (fun _ h => by cases h), List.nodup_nil, (fun _ h => by cases h), (fun _ h => by cases h)⟩
theorem SH.addM (F : SH H0 M H0 L I) (hm : p ∈ M) (h : H0 p = some o) (ht : isTup o = false) (ne : ∀ c ∈ L, c.1 ≠ p) : SH H0 M H0 ((p, o) :: L) I := by
  refine ⟨F.fr, F.im, ?_, ?_, ?_, ?_⟩
  · intro c hc
    rcases List.mem_cons.mp hc with rfl | hc
    · exact h
    · exact F.at' c hc
  · rw [List.map_cons, List.nodup_cons]
    refine ⟨fun z => ?_, F.nd⟩
    obtain ⟨x, hx, ex⟩ := List.mem_map.mp z
    exact ne x hx ex
  · intro c hc
    rcases List.mem_cons.mp hc with rfl | hc
    · exact ht
    · exact F.mu c hc
  · intro c hc
    rcases List.mem_cons.mp hc with rfl | hc
    · exact .inl hm
    · exact F.ch c hc
theorem SH.addT (F : SH H0 M H L I) (h : H q = some (.tup r)) : SH H0 M H L (.tup q r :: I) := ⟨F.fr, fun f hf => by
  rcases List.mem_cons.mp hf with rfl | hf
  · exact h
  · exact F.im f hf, F.at', F.nd, F.mu, F.ch⟩
theorem SH.addP (F : SH H0 M H L I) (h : TupsAt H ys rs) : SH H0 M H L (.tps ys rs :: I) := ⟨F.fr, fun f hf => by
  rcases List.mem_cons.mp hf with rfl | hf
  · exact h
  · exact F.im f hf, F.at', F.nd, F.mu, F.ch⟩
theorem SH.same (F : SH H0 M H L I) (s : Same H H') : SH H0 M H' L I := ⟨fun b u n e => s b u (F.fr b u n e), fun f hf => Im.stay (fun q u _ e => s q u e) (F.im f hf), fun c hc => s _ _ (F.at' c hc), F.nd, F.mu, F.ch⟩
theorem SH.newT (F : SH H0 M H L I) (n : New H H' q (.tup r)) : SH H0 M H' L (.tup q r :: I) := (F.same n.s).addT n.e
theorem SH.newO (F : SH H0 M H L I) (n : New H H' p o) (ht : isTup o = false) : SH H0 M H' ((p, o) :: L) I := by
  have F' := F.same n.s
  refine ⟨F'.fr, F'.im, ?_, ?_, ?_, ?_⟩
  · intro c hc
    rcases List.mem_cons.mp hc with rfl | hc
    · exact n.e
    · exact F'.at' c hc
  · rw [List.map_cons, List.nodup_cons]
    refine ⟨fun z => ?_, F.nd⟩
    obtain ⟨x, hx, ex⟩ := List.mem_map.mp z
    exact n.n _ _ (F.at' x hx) ex
  · intro c hc
    rcases List.mem_cons.mp hc with rfl | hc
    · exact ht
    · exact F.mu c hc
  · intro c hc
    rcases List.mem_cons.mp hc with rfl | hc
    · by_cases hm : p ∈ M
      · exact .inl hm
      · exact .inr fun b u e z => by
          by_cases hb : b ∈ M
          · exact hm (by have z' : b = p := z; rw [← z']; exact hb)
          · exact n.n b u (F.fr b u hb e) z
    · exact F.ch c hc
theorem SH.newL (F : SH H0 M H L I) (n : New H H' p (.lst xs)) : SH H0 M H' ((p, .lst xs) :: L) I := F.newO n rfl
theorem SH.kp (F : SH H0 M H L I) (k : Kp l H H') (e : H' l = some o') (u : Up l o' L L') (ht : isTup o' = false := by rfl) : SH H0 M H' L' I := by
  obtain ⟨o, ho⟩ := u.src
  have hl := F.at' _ ho
  have hu := F.mu _ ho
  refine ⟨fun b w nb e0 => k b w (fun z => ?_) (F.fr b w nb e0), fun f hf => Im.stay (fun q v hv e1 => k q _ (fun z => ?_) e1) (F.im f hf), fun c hc => ?_, by rw [u.keys]; exact F.nd, fun c hc => ?_, fun c hc => ?_⟩
  · rcases F.ch _ ho with h | h
    · exact nb (by rw [z]; exact h)
    · exact h b w e0 z
  · rw [z, hl] at e1
    cases e1
    rw [hu] at hv
    cases hv
  · rcases u.each F.nd c hc with rfl | ⟨h1, h2⟩
    · exact e
    · exact k _ _ h2 (F.at' c h1)
  · rcases u.each F.nd c hc with rfl | ⟨h1, h2⟩
    · exact ht
    · exact F.mu c h1
  · rcases u.each F.nd c hc with rfl | ⟨h1, h2⟩
    · exact F.ch (l, o) ho
    · exact F.ch c h1
theorem SH.offL (F : SH H0 M H L I) (f : Off l H H') (e : H' l = some (.lst xs)) (u : Up l (.lst xs) L L') : SH H0 M H' L' I := F.kp f.kp e u rfl
theorem SH.raw (F : SH H0 M H L I) (m : (a, o) ∈ L) : H a = some o := F.at' _ m
theorem SH.tup (F : SH H0 M H L I) (m : .tup q r ∈ I) : H q = some (.tup r) := F.im _ m
theorem SH.tps (F : SH H0 M H L I) (m : .tps ys rs ∈ I) : TupsAt H ys rs := F.im _ m
theorem SH.sq (F : SH H0 M H L I) (h : SqL K H0 a xs) (n : a ∉ M) : SqL K H a xs := by
  rcases h with (h | ⟨o, h⟩) | h
  · exact .inl (.inl (F.fr a _ n h))
  · exact .inl (.inr ⟨o, F.fr a _ n h⟩)
  · exact .inr h
theorem SH.sub (F : SH H0 M H L I) (s : Sb L' L) (t : ∀ f ∈ I', f ∈ I) : SH H0 M H L' I' := ⟨F.fr, fun f hf => F.im f (t f hf), fun c hc => F.at' c (s.mem c hc), s.nd F.nd, fun c hc => F.mu c (s.mem c hc), fun c hc => F.ch c (s.mem c hc)⟩
theorem SH.sm (F : SH H0 [] H L I) : Same H0 H := fun b u e => F.fr b u List.not_mem_nil e
theorem SH.nw (F : SH H0 [] H L I) (m : (q, o) ∈ L) : New H0 H q o := ⟨F.sm, F.at' _ m, fun b u e => by
  rcases F.ch _ m with h | h
  · exact absurd h List.not_mem_nil
  · exact h b u e⟩
theorem nm0 : a ∉ ([] : List Addr) := List.not_mem_nil
theorem SH.app (F : SH H0 M H L I) (m : .tps ys rs ∈ I) (m' : .tup q r ∈ I) : SH H0 M H L (.tps (ys ++ [.ref q]) (rs ++ [r]) :: I) := F.addP ((F.tps m).snoc (F.tup m'))
end
class Go (G : Prop) (G' : outParam Prop) : Prop where
  go : G' → G
theorem go1 {G G' : Prop} [h : Go G G'] (k : G') : G := h.go k
class LkL (L : List (Addr × HO)) (a : Addr) (o : outParam HO) : Prop where
  m : (a, o) ∈ L
class LkI (I : List Im) (a : Addr) (r : outParam (List V)) : Prop where
  m : .tup a r ∈ I
class LkP (I : List Im) (ys : List V) (rs : outParam (List (List V))) : Prop where
  m : .tps ys rs ∈ I
class LkU (L : List (Addr × HO)) (l : Addr) (o : HO) (L' : outParam (List (Addr × HO))) : Prop where
  u : Up l o L L'
class Old (H0 : Hp) (M : List Addr) (a : Addr) (o : outParam HO) : Prop where
  e : H0 a = some o
  n : a ∉ M
class OldQ (K : PySem.W.Frag) (H0 : Hp) (M : List Addr) (a : Addr) (xs : outParam (List V)) : Prop where
  e : SqL K H0 a xs
  n : a ∉ M
class OldP (H0 : Hp) (ys : List V) (rs : outParam (List (List V))) : Prop where
  e : TupsAt H0 ys rs
class Hat (H : Hp) (a : Addr) (o : outParam HO) : Prop where
  e : H a = some o
class SqA (K : PySem.W.Frag) (H : Hp) (a : Addr) (xs : outParam (List V)) : Prop where
  e : SqL K H a xs
class SqB (K : PySem.W.Frag) (H : Hp) (a : Addr) (xs : outParam (List V)) : Prop where
  e : SqT K H a xs
class AtI (xs : List V) (i : Int) (v : outParam V) : Prop where
  e : atI xs i = some v
section
variable {H0 H H' : Hp} {M : List Addr} {L L' : List (Addr × HO)} {I : List Im} {a p l : Addr} {o o' : HO} {c : Addr × HO} {f : Im} {r xs ys : List V} {rs : List (List V)} {K : PySem.W.Frag} {v v0 v1 v2 v3 : V}
instance lkL1 [h : LkL L a o] : LkL (c :: L) a o := ⟨List.mem_cons_of_mem _ h.m⟩
instance lkL0 : LkL ((a, o) :: L) a o := ⟨List.mem_cons_self⟩
instance lkI1 [h : LkI I a r] : LkI (f :: I) a r := ⟨List.mem_cons_of_mem _ h.m⟩
instance lkI0 : LkI (.tup a r :: I) a r := ⟨List.mem_cons_self⟩
instance lkP1 [h : LkP I ys rs] : LkP (f :: I) ys rs := ⟨List.mem_cons_of_mem _ h.m⟩
instance lkP0 : LkP (.tps ys rs :: I) ys rs := ⟨List.mem_cons_self⟩
instance lkU1 [h : LkU L l o L'] : LkU (c :: L) l o (c :: L') := ⟨.tail h.u⟩
instance lkU0 : LkU ((l, o') :: L) l o ((l, o) :: L) := ⟨.head⟩
instance hat_old [F : SH H0 M H L I] [h : Old H0 M a o] : Hat H a o := ⟨F.fr a o h.n h.e⟩
instance hat_tup [F : SH H0 M H L I] [h : LkI I a r] : Hat H a (.tup r) := ⟨F.tup h.m⟩
instance hat_lst [F : SH H0 M H L I] [h : LkL L a o] : Hat H a o := ⟨F.raw h.m⟩
instance sqA_old [F : SH H0 M H L I] [h : OldQ K H0 M a xs] : SqA K H a xs := ⟨F.sq h.e h.n⟩
instance sqA_hat [h : Hat H a (.lst xs)] : SqA K H a xs := ⟨.of h.e⟩
instance sqB_hat [h : Hat H a (.tup xs)] : SqB K H a xs := ⟨.of h.e⟩
instance at0 : AtI (v :: r) 0 v := ⟨atI_0⟩
instance at1 : AtI (v0 :: v :: r) 1 v := ⟨atL1⟩
instance at2 : AtI (v0 :: v1 :: v :: r) 2 v := ⟨atL2⟩
instance at3 : AtI (v0 :: v1 :: v2 :: v :: r) 3 v := ⟨atL3⟩
variable {Z : Addr → Hp → Prop} {R : Hp → Prop} {C dx : Addr} {fs : List (Str × V)}
instance nx_tup [F : SH H0 M H L I] : Go (∀ p H', New H H' p (.tup xs) → Z p H') (∀ H' p, SH H0 M H' L (.tup p xs :: I) → Z p H') := ⟨fun k p H' n => k H' p (F.newT n)⟩
instance nx_lst [F : SH H0 M H L I] : Go (∀ p H', New H H' p (.lst xs) → Z p H') (∀ H' p, SH H0 M H' ((p, .lst xs) :: L) I → Z p H') := ⟨fun k p H' n => k H' p (F.newL n)⟩
instance nx_off [F : SH H0 M H L I] [u : LkU L l (.lst xs) L'] : Go (∀ H', Off l H H' → H' l = some (.lst xs) → R H') (∀ H', SH H0 M H' L' I → R H') := ⟨fun k H' f e => k H' (F.offL f e u.u)⟩
instance nx_same [F : SH H0 M H L I] : Go (∀ H', Same H H' → R H') (∀ H', SH H0 M H' L I → R H') := ⟨fun k H' s => k H' (F.same s)⟩
def Sd (A B : Prop) : Prop := A ∧ B
theorem sd {A B : Prop} (a : A) (b : B) : Sd A B := ⟨a, b⟩
theorem SH.nwC {H0 : Hp} {L : List (Addr × HO)} {I : List Im} [F : SH H0 [] H L I] [h : LkL L p o] : New H0 H p o := F.nw h.m
theorem hatC [h : Hat H a o] : H a = some o := h.e
variable {Q : VK} {E : XK} {R' : Prop} {σ : St} {i j : Int} {f m : Str} {y : V} {b : Addr} {lo hi : Option Int}
instance go_made {n : Nat} : Go (n ≤ sizeLine ∧ ∀ p H', New H H' p o → Z p H') (Sd (n ≤ sizeLine) (∀ p H', New H H' p o → Z p H')) := ⟨id⟩
instance go_isTT [h : Hat H l (.tup xs)] : Go (rIsT K [.ref l, .ty "tuple"] H Q) (Q (.bl true) H) := ⟨w_isTT h.e⟩
instance go_isLL [h : Hat H l (.lst xs)] : Go (rIsT K [.ref l, .ty "list"] H Q) (Q (.bl true) H) := ⟨w_isLL h.e⟩
instance go_isTL [h : Hat H l (.tup xs)] : Go (rIsT K [.ref l, .ty "list"] H Q) (Q (.bl false) H) := ⟨w_isTL h.e⟩
instance go_isLT [h : Hat H l (.lst xs)] : Go (rIsT K [.ref l, .ty "tuple"] H Q) (Q (.bl false) H) := ⟨w_isLT h.e⟩
instance go_lenT [h : SqB K H l xs] : Go (rLen K [.ref l] H Q) (Q (.int xs.length) H) := ⟨w_lenT h.e⟩
instance go_lenL [h : SqA K H l xs] : Go (rLen K [.ref l] H Q) (Q (.int xs.length) H) := ⟨w_lenL h.e⟩
instance go_ixL [h : SqA K H l xs] [e : AtI xs i v] : Go (rIxL K (.ref l) (.int i) H Q) (Q v H) := ⟨w_ixL h.e e.e⟩
instance go_ixT [h : SqB K H l xs] [e : AtI xs i v] : Go (rIxT K (.ref l) (.int i) H Q) (Q v H) := ⟨w_ixT h.e e.e⟩
instance go_tyL [h : SqA K H l xs] : Go (tyV K "list" (.ref l) H ∧ R') R' := ⟨w_tyL h.e⟩
instance go_app [h : Hat H l (.lst xs)] : Go (rAppA (.ref l) [y] H Q) (Sd (xs.length < sizeLine) (∀ H', Off l H H' → H' l = some (.lst (xs ++ [y])) → Q .non H')) := ⟨fun s => w_app h.e s.1 s.2⟩
instance go_ext [h : Hat H l (.lst xs)] [h2 : Hat H b (.lst ys)] : Go (rExtA (.ref l) [.ref b] H Q) (Sd (xs.length + ys.length ≤ sizeLine) (∀ H', Off l H H' → H' l = some (.lst (xs ++ ys)) → Q .non H')) := ⟨fun s => w_ext h.e h2.e s.1 s.2⟩
instance go_catA [h : Hat H l (.lst xs)] [h2 : Hat H b (.lst ys)] : Go (rCatA (.ref l) (.ref b) H Q) (Sd (xs.length + ys.length ≤ sizeLine) (∀ p H', New H H' p (.lst (xs ++ ys)) → Q (.ref p) H')) := ⟨fun s => w_catA h.e h2.e s.1 s.2⟩
instance go_tup2 {n i0 i1 : Nat} {a b : V} {R : St → Hp → Prop} [h : SqB K H l [a, b]] : Go (gTup K n (gCons (gName i0) (gCons (gName i1) gNil)) (.ref l) σ H R) (Sd (n = 2) (gName i0 a σ H fun σ1 H1 => gName i1 b σ1 H1 R)) := ⟨fun s => w_tupB s.1 h.e s.2⟩
instance go_mod {f : Int → Int → V} : Go (rI (fun _ j => 0 < j) f (.int i) (.int j) H Q) (Sd (0 < j) (Q (f i j) H)) := ⟨fun s => w_mod s.1 s.2⟩
instance go_div {f : Int → Int → V} : Go (rI CDiv f (.int i) (.int j) H Q) (Sd (0 < j ∧ j < 1073741824) (Q (f i j) H)) := ⟨fun s => w_div s.1.1 s.1.2 s.2⟩
instance go_pow {f : Int → Int → V} : Go (rI CPow f (.int i) (.int j) H Q) (Sd (0 ≤ j ∧ j ≤ 1000000 ∧ i.natAbs < 2 ^ 64) (Q (f i j) H)) := ⟨fun s => w_pow s.1.1 s.1.2.1 s.1.2.2 s.2⟩
instance go_mul {f : Int → Int → V} : Go (rI CMul f (.int i) (.int j) H Q) (Sd ((-(2 ^ 64) < i ∧ i < 2 ^ 64) ∨ (-(2 ^ 64) < j ∧ j < 2 ^ 64)) (Q (f i j) H)) := ⟨fun s => s.1.elim (fun h => w_mulL h.1 h.2 s.2) (fun h => w_mulR h.1 h.2 s.2)⟩
end
instance go_go_seq {σ : L2.St} {H : Hp} {D : Ends} {s u : TS} : Go (tSeq s u D σ H) (s (Ends.mk (u D) (Ends.rt D) (Ends.bk D) (Ends.ct D)) σ H) := ⟨go_seq⟩
instance go_go_asg {σ : L2.St} {H : Hp} {t : TE} {D : Ends} {tg : TG} : Go (tAsg t tg D σ H) ((t σ H fun (x : V) (H1 : Hp) ↦ tg x σ H1 (Ends.nx D))) := ⟨go_asg⟩
instance go_go_ret {σ : L2.St} {H : Hp} {t : TE} {D : Ends} : Go (tRet t D σ H) (t σ H (Ends.rt D)) := ⟨go_ret⟩
instance go_go_if {σ : L2.St} {H : Hp} {D : Ends} {s u : TS} {c : TT} : Go (tIfS c s u D σ H) ((c σ H fun (b : Bool) (H1 : Hp) ↦ if b = true then s D σ H1 else u D σ H1)) := ⟨go_if⟩
instance go_go_drop {σ : L2.St} {H : Hp} {t : TE} {D : Ends} : Go (tDrop t D σ H) ((t σ H fun (x : V) (H1 : Hp) ↦ Ends.nx D σ H1)) := ⟨go_drop⟩
instance go_go_next {σ : L2.St} {H : Hp} {D : Ends} : Go (tNext D σ H) (Ends.nx D σ H) := ⟨go_next⟩
instance go_go_nx {σ : L2.St} {H : Hp} {nx bk ct : L2.St → Hp → Prop} {rt : VK} : Go (Ends.nx (Ends.mk nx rt bk ct) σ H) (nx σ H) := ⟨go_nx⟩
instance go_w_rt {H : Hp} {v : V} {nx bk ct : L2.St → Hp → Prop} {rt : VK} : Go (Ends.rt (Ends.mk nx rt bk ct) v H) (rt v H) := ⟨w_rt⟩
instance go_go_test {σ : L2.St} {H : Hp} {t : TE} {Q : Bool → Hp → Prop} : Go (tTest t σ H Q) ((t σ H fun (x : V) (H' : Hp) ↦ ∃ (k : Bool), x = V.bl k ∧ Q k H')) := ⟨go_test⟩
instance go_go_b {σ : L2.St} {H : Hp} {t : TE} {Q : Bool → Hp → Prop} : Go (tB t σ H Q) ((t σ H fun (x : V) (H' : Hp) ↦ ∃ (k : Bool), x = V.bl k ∧ Q k H')) := ⟨go_b⟩
instance go_go_op {σ : L2.St} {H : Hp} {ta tb : TE} {Q : VK} {r : R2} : Go (tOp r ta tb σ H Q) ((ta σ H fun (x : V) (H1 : Hp) ↦ tb σ H1 fun (y : V) (H2 : Hp) ↦ r x y H2 Q)) := ⟨go_op⟩
instance go_go_cb {σ : L2.St} {H : Hp} {tr : TA} {Q : VK} {r : List V → Hp → VK → Prop} : Go (tCB r tr σ H Q) ((tr σ H fun (vs : List V) (H1 : Hp) ↦ r vs H1 Q)) := ⟨go_cb⟩
instance go_go_cons {σ : L2.St} {H : Hp} {t : TE} {tr : TA} {Q : List V → Hp → Prop} : Go (tCons t tr σ H Q) ((t σ H fun (x : V) (H1 : Hp) ↦ tr σ H1 fun (xs : List V) (H2 : Hp) ↦ Q (x :: xs) H2)) := ⟨go_cons⟩
instance go_go_nil {σ : L2.St} {H : Hp} {Q : List V → Hp → Prop} : Go (tNil σ H Q) (Q [] H) := ⟨go_nil⟩
instance go_w_call {σ : L2.St} {H : Hp} {Q : VK} {tr : TA} {sp : Sp} {E : XK} : Go (tCall sp [] E tr σ H Q) ((tr σ H fun (vs : List V) (H1 : Hp) ↦ sp vs H1 Q E)) := ⟨w_call⟩
instance go_w_c {σ : L2.St} {H : Hp} {Q : VK} {v : V} : Go (tC v σ H Q) (Q v H) := ⟨w_c⟩
instance go_wv0 {H : Hp} {Q : VK} {v : V} {r : L2.St} : Go (tVar 0 (some v :: r) H Q) (Q v H) := ⟨wv0⟩
instance go_wv1 {H : Hp} {Q : VK} {v : V} {o0 : Option V} {r : L2.St} : Go (tVar 1 (o0 :: some v :: r) H Q) (Q v H) := ⟨wv1⟩
instance go_wv2 {H : Hp} {Q : VK} {v : V} {o0 o1 : Option V} {r : L2.St} : Go (tVar 2 (o0 :: o1 :: some v :: r) H Q) (Q v H) := ⟨wv2⟩
instance go_wv3 {H : Hp} {Q : VK} {v : V} {o0 o1 o2 : Option V} {r : L2.St} : Go (tVar 3 (o0 :: o1 :: o2 :: some v :: r) H Q) (Q v H) := ⟨wv3⟩
instance go_wv4 {H : Hp} {Q : VK} {v : V} {o0 o1 o2 o3 : Option V} {r : L2.St} : Go (tVar 4 (o0 :: o1 :: o2 :: o3 :: some v :: r) H Q) (Q v H) := ⟨wv4⟩
instance go_wv5 {H : Hp} {Q : VK} {v : V} {o0 o1 o2 o3 o4 : Option V} {r : L2.St} : Go (tVar 5 (o0 :: o1 :: o2 :: o3 :: o4 :: some v :: r) H Q) (Q v H) := ⟨wv5⟩
instance go_wv6 {H : Hp} {Q : VK} {v : V} {o0 o1 o2 o3 o4 o5 : Option V} {r : L2.St} : Go (tVar 6 (o0 :: o1 :: o2 :: o3 :: o4 :: o5 :: some v :: r) H Q) (Q v H) := ⟨wv6⟩
instance go_wv7 {H : Hp} {Q : VK} {v : V} {o0 o1 o2 o3 o4 o5 o6 : Option V} {r : L2.St} : Go (tVar 7 (o0 :: o1 :: o2 :: o3 :: o4 :: o5 :: o6 :: some v :: r) H Q) (Q v H) := ⟨wv7⟩
instance go_wv8 {H : Hp} {Q : VK} {v : V} {o0 o1 o2 o3 o4 o5 o6 o7 : Option V} {r : L2.St} : Go (tVar 8 (o0 :: o1 :: o2 :: o3 :: o4 :: o5 :: o6 :: o7 :: some v :: r) H Q) (Q v H) := ⟨wv8⟩
instance go_wv9 {H : Hp} {Q : VK} {v : V} {o0 o1 o2 o3 o4 o5 o6 o7 o8 : Option V} {r : L2.St} : Go (tVar 9 (o0 :: o1 :: o2 :: o3 :: o4 :: o5 :: o6 :: o7 :: o8 :: some v :: r) H Q) (Q v H) := ⟨wv9⟩
instance go_wv10 {H : Hp} {Q : VK} {v : V} {o0 o1 o2 o3 o4 o5 o6 o7 o8 o9 : Option V} {r : L2.St} : Go (tVar 10 (o0 :: o1 :: o2 :: o3 :: o4 :: o5 :: o6 :: o7 :: o8 :: o9 :: some v :: r) H Q) (Q v H) := ⟨wv10⟩
instance go_wv11 {H : Hp} {Q : VK} {v : V} {o0 o1 o2 o3 o4 o5 o6 o7 o8 o9 o10 : Option V} {r : L2.St} : Go (tVar 11 (o0 :: o1 :: o2 :: o3 :: o4 :: o5 :: o6 :: o7 :: o8 :: o9 :: o10 :: some v :: r) H Q) (Q v H) := ⟨wv11⟩
instance go_wv12 {H : Hp} {Q : VK} {v : V} {o0 o1 o2 o3 o4 o5 o6 o7 o8 o9 o10 o11 : Option V} {r : L2.St} : Go (tVar 12 (o0 :: o1 :: o2 :: o3 :: o4 :: o5 :: o6 :: o7 :: o8 :: o9 :: o10 :: o11 :: some v :: r) H Q) (Q v H) := ⟨wv12⟩
instance go_wn1 {H : Hp} {v : V} {o0 o : Option V} {r : L2.St} {R : L2.St → Hp → Prop} : Go (gName 1 v (o0 :: o :: r) H R) (R (o0 :: some v :: r) H) := ⟨wn1⟩
instance go_wn2 {H : Hp} {v : V} {o0 o1 o : Option V} {r : L2.St} {R : L2.St → Hp → Prop} : Go (gName 2 v (o0 :: o1 :: o :: r) H R) (R (o0 :: o1 :: some v :: r) H) := ⟨wn2⟩
instance go_wn3 {H : Hp} {v : V} {o0 o1 o2 o : Option V} {r : L2.St} {R : L2.St → Hp → Prop} : Go (gName 3 v (o0 :: o1 :: o2 :: o :: r) H R) (R (o0 :: o1 :: o2 :: some v :: r) H) := ⟨wn3⟩
instance go_wn4 {H : Hp} {v : V} {o0 o1 o2 o3 o : Option V} {r : L2.St} {R : L2.St → Hp → Prop} : Go (gName 4 v (o0 :: o1 :: o2 :: o3 :: o :: r) H R) (R (o0 :: o1 :: o2 :: o3 :: some v :: r) H) := ⟨wn4⟩
instance go_wn5 {H : Hp} {v : V} {o0 o1 o2 o3 o4 o : Option V} {r : L2.St} {R : L2.St → Hp → Prop} : Go (gName 5 v (o0 :: o1 :: o2 :: o3 :: o4 :: o :: r) H R) (R (o0 :: o1 :: o2 :: o3 :: o4 :: some v :: r) H) := ⟨wn5⟩
instance go_wn6 {H : Hp} {v : V} {o0 o1 o2 o3 o4 o5 o : Option V} {r : L2.St} {R : L2.St → Hp → Prop} : Go (gName 6 v (o0 :: o1 :: o2 :: o3 :: o4 :: o5 :: o :: r) H R) (R (o0 :: o1 :: o2 :: o3 :: o4 :: o5 :: some v :: r) H) := ⟨wn6⟩
instance go_wn7 {H : Hp} {v : V} {o0 o1 o2 o3 o4 o5 o6 o : Option V} {r : L2.St} {R : L2.St → Hp → Prop} : Go (gName 7 v (o0 :: o1 :: o2 :: o3 :: o4 :: o5 :: o6 :: o :: r) H R) (R (o0 :: o1 :: o2 :: o3 :: o4 :: o5 :: o6 :: some v :: r) H) := ⟨wn7⟩
instance go_wn8 {H : Hp} {v : V} {o0 o1 o2 o3 o4 o5 o6 o7 o : Option V} {r : L2.St} {R : L2.St → Hp → Prop} : Go (gName 8 v (o0 :: o1 :: o2 :: o3 :: o4 :: o5 :: o6 :: o7 :: o :: r) H R) (R (o0 :: o1 :: o2 :: o3 :: o4 :: o5 :: o6 :: o7 :: some v :: r) H) := ⟨wn8⟩
instance go_wn9 {H : Hp} {v : V} {o0 o1 o2 o3 o4 o5 o6 o7 o8 o : Option V} {r : L2.St} {R : L2.St → Hp → Prop} : Go (gName 9 v (o0 :: o1 :: o2 :: o3 :: o4 :: o5 :: o6 :: o7 :: o8 :: o :: r) H R) (R (o0 :: o1 :: o2 :: o3 :: o4 :: o5 :: o6 :: o7 :: o8 :: some v :: r) H) := ⟨wn9⟩
instance go_wn10 {H : Hp} {v : V} {o0 o1 o2 o3 o4 o5 o6 o7 o8 o9 o : Option V} {r : L2.St} {R : L2.St → Hp → Prop} : Go (gName 10 v (o0 :: o1 :: o2 :: o3 :: o4 :: o5 :: o6 :: o7 :: o8 :: o9 :: o :: r) H R) (R (o0 :: o1 :: o2 :: o3 :: o4 :: o5 :: o6 :: o7 :: o8 :: o9 :: some v :: r) H) := ⟨wn10⟩
instance go_wn11 {H : Hp} {v : V} {o0 o1 o2 o3 o4 o5 o6 o7 o8 o9 o10 o : Option V} {r : L2.St} {R : L2.St → Hp → Prop} : Go (gName 11 v (o0 :: o1 :: o2 :: o3 :: o4 :: o5 :: o6 :: o7 :: o8 :: o9 :: o10 :: o :: r) H R) (R (o0 :: o1 :: o2 :: o3 :: o4 :: o5 :: o6 :: o7 :: o8 :: o9 :: o10 :: some v :: r) H) := ⟨wn11⟩
instance go_wn12 {H : Hp} {v : V} {o0 o1 o2 o3 o4 o5 o6 o7 o8 o9 o10 o11 o : Option V} {r : L2.St} {R : L2.St → Hp → Prop} : Go (gName 12 v (o0 :: o1 :: o2 :: o3 :: o4 :: o5 :: o6 :: o7 :: o8 :: o9 :: o10 :: o11 :: o :: r) H R) (R (o0 :: o1 :: o2 :: o3 :: o4 :: o5 :: o6 :: o7 :: o8 :: o9 :: o10 :: o11 :: some v :: r) H) := ⟨wn12⟩
instance go_w_i0 {H : Hp} {Q : VK} {i j : Int} {f : Int → Int → V} : Go (rI0 f (V.int i) (V.int j) H Q) (Q (f i j) H) := ⟨w_i0⟩
instance go_w_u {H : Hp} {Q : VK} {i : Int} {g : Int → V} : Go (rU g (V.int i) H Q) (Q (g i) H) := ⟨w_u⟩
instance go_w_un {σ : L2.St} {H : Hp} {Q : VK} {ta : TE} {r : V → Hp → VK → Prop} : Go (tUn r ta σ H Q) ((ta σ H fun (x : V) (H1 : Hp) ↦ r x H1 Q)) := ⟨w_un⟩
instance go_w_eqi {H : Hp} {Q : VK} {i j : Int} : Go (rEq (V.int i) (V.int j) H Q) (Q (V.bl (decide (i = j))) H) := ⟨w_eqi⟩
instance go_w_nei {H : Hp} {Q : VK} {i j : Int} : Go (rNe (V.int i) (V.int j) H Q) (Q (V.bl !decide (i = j)) H) := ⟨w_nei⟩
instance go_w_eqs {H : Hp} {Q : VK} {a b : Str} : Go (rEq (V.str a) (V.str b) H Q) (Q (V.bl (decide (a = b))) H) := ⟨w_eqs⟩
instance go_w_nes {H : Hp} {Q : VK} {a b : Str} : Go (rNe (V.str a) (V.str b) H Q) (Q (V.bl !decide (a = b)) H) := ⟨w_nes⟩
instance go_w_neb {H : Hp} {Q : VK} {a b : Bool} : Go (rNe (V.bl a) (V.bl b) H Q) (Q (V.bl !decide (a = b)) H) := ⟨w_neb⟩
instance go_w_bl {k : Bool} {R : Bool → Prop} : Go (∃ (c : Bool), V.bl k = V.bl c ∧ R c) (R k) := ⟨w_bl⟩
instance go_w_not {σ : L2.St} {H : Hp} {c : TT} {R : Bool → Hp → Prop} : Go (tNot c σ H R) ((c σ H fun (b : Bool) (H1 : Hp) ↦ R (!b) H1)) := ⟨w_not⟩
instance go_w_and {σ : L2.St} {H : Hp} {c d : TT} {R : Bool → Hp → Prop} : Go (tAnd c d σ H R) ((c σ H fun (b : Bool) (H1 : Hp) ↦ if b = true then d σ H1 R else R false H1)) := ⟨w_and⟩
instance go_w_or {σ : L2.St} {H : Hp} {c d : TT} {R : Bool → Hp → Prop} : Go (tOr c d σ H R) ((c σ H fun (b : Bool) (H1 : Hp) ↦ if b = true then R true H1 else d σ H1 R)) := ⟨w_or⟩
instance go_w_notV {σ : L2.St} {H : Hp} {Q : VK} {ta : TE} : Go (tNotV ta σ H Q) ((ta σ H fun (x : V) (H1 : Hp) ↦ ∃ (c : Bool), x = V.bl c ∧ Q (V.bl !c) H1)) := ⟨w_notV⟩
instance go_w_andV {σ : L2.St} {H : Hp} {Q : VK} {ta tb : TE} : Go (tAndV ta tb σ H Q) ((ta σ H fun (x : V) (H1 : Hp) ↦ ∃ (c : Bool), x = V.bl c ∧ if c = true then tb σ H1 Q else Q (V.bl false) H1)) := ⟨w_andV⟩
instance go_w_ifE {σ : L2.St} {H : Hp} {Q : VK} {ta tb : TE} {c : TT} : Go (tIf c ta tb σ H Q) ((c σ H fun (b : Bool) (H1 : Hp) ↦ if b = true then ta σ H1 Q else tb σ H1 Q)) := ⟨w_ifE⟩
instance go_w_chain {σ : L2.St} {H : Hp} {Q : VK} {ta tb tc : TE} {r r' : R2} : Go (tChain r r' ta tb tc σ H Q) ((ta σ H fun (x : V) (H1 : Hp) ↦ tb σ H1 fun (y : V) (H2 : Hp) ↦ r x y H2 fun (z : V) (H3 : Hp) ↦ ∃ (k : Bool), z = V.bl k ∧ if k = true then tc σ H3 fun (w : V) (H4 : Hp) ↦ r' y w H4 Q else Q (V.bl false) H3)) := ⟨w_chain⟩
instance go_w_bm {σ : L2.St} {H : Hp} {Q : VK} {K : W.Frag} {tr : TA} {T : String} {r : V → List V → Hp → VK → Prop} {to : TE} : Go (tBM K T r to tr σ H Q) ((to σ H fun (x : V) (H1 : Hp) ↦ tyV K T x H1 ∧ tr σ H1 fun (xs : List V) (H2 : Hp) ↦ r x xs H2 Q)) := ⟨w_bm⟩
instance go_w_slice {σ : L2.St} {H : Hp} {Q : VK} {t : TE} {r : V → Option Int → Option Int → Hp → VK → Prop} {tl th : TO} : Go (tSl r t tl th σ H Q) ((t σ H fun (x : V) (H1 : Hp) ↦ tl σ H1 fun (l : Option Int) (H2 : Hp) ↦ th σ H2 fun (u : Option Int) (H3 : Hp) ↦ r x l u H3 Q)) := ⟨w_slice⟩
instance go_w_noPart {σ : L2.St} {H : Hp} {R : Option Int → Hp → Prop} : Go (tNoPart σ H R) (R none H) := ⟨w_noPart⟩
instance go_w_part {σ : L2.St} {H : Hp} {t : TE} {R : Option Int → Hp → Prop} : Go (tPart t σ H R) ((t σ H fun (x : V) (H1 : Hp) ↦ ∃ (i : Int), x = V.int i ∧ R (some i) H1)) := ⟨w_part⟩
instance go_w_int {i : Int} {R : Int → Prop} : Go (∃ (k : Int), V.int i = V.int k ∧ R k) (R i) := ⟨w_int⟩
instance go_go_tupA {σ : L2.St} {H : Hp} {tr : TA} {Q : VK} : Go (tTupA tr σ H Q) ((tr σ H fun (xs : List V) (H1 : Hp) ↦ List.length xs ≤ sizeLine ∧ ∀ (p : Addr) (H' : Hp), New H1 H' p (HO.tup xs) → Q (V.ref p) H')) := ⟨go_tupA⟩
instance go_go_lstA {σ : L2.St} {H : Hp} {tr : TA} {Q : VK} : Go (tLstA tr σ H Q) ((tr σ H fun (xs : List V) (H1 : Hp) ↦ List.length xs ≤ sizeLine ∧ ∀ (p : Addr) (H' : Hp), New H1 H' p (HO.lst xs) → Q (V.ref p) H')) := ⟨go_lstA⟩
instance go_w_isII {H : Hp} {Q : VK} {K : W.Frag} {i : Int} : Go (rIsT K [V.int i, V.ty "int"] H Q) (Q (V.bl true) H) := ⟨w_isII⟩
instance go_w_isIB {H : Hp} {Q : VK} {K : W.Frag} {i : Int} : Go (rIsT K [V.int i, V.ty "bool"] H Q) (Q (V.bl false) H) := ⟨w_isIB⟩
instance go_i_tt {A B : Prop} : Go (if true = true then A else B) (A) := ⟨i_tt⟩
instance go_i_ff {A B : Prop} : Go (if false = true then A else B) (B) := ⟨i_ff⟩
instance go_i_ntt {A B : Prop} : Go (if (!true) = true then A else B) (B) := ⟨i_ntt⟩
instance go_i_nff {A B : Prop} : Go (if (!false) = true then A else B) (A) := ⟨i_nff⟩
instance go_w_forR1 {g : TG} {tb : TS} {D : Ends} {σ : L2.St} {H : Hp} {tr : TA} : Go (tFor (iRng1 tr) g tb D σ H) ((tr σ H fun (vs : List V) (H1 : Hp) ↦ ∃ (j : Int), vs = [V.int j] ∧ -2 ^ 62 ≤ j ∧ j < 2 ^ 62 ∧ ForR 0 (Int.toNat j) g tb D σ H1)) := ⟨w_forR1⟩
instance go_w_forL {K : W.Frag} {te : TE} {g : TG} {tb : TS} {D : Ends} {σ : L2.St} {H : Hp} : Go (tFor (iList K te) g tb D σ H) ((te σ H fun (x : V) (H1 : Hp) ↦ ∃ (a : Addr), x = V.ref a ∧ (∃ (xs : List V), SqL K H1 a xs) ∧ ForL K a g tb D σ H1)) := ⟨w_forL⟩
instance go_w_compL {K : W.Frag} {t0 te : TE} {nt : Nat} {fr : List Nat} {g : TG} {c : TT} {σ : L2.St} {H : Hp} {Q : VK} : Go (tComp (iList K t0) nt fr g c te σ H Q) ((t0 σ H fun (x : V) (H1 : Hp) ↦ ∃ (a : Addr), x = V.ref a ∧ (∃ (xs : List V), SqL K H1 a xs) ∧ CompAll (Itl K a) nt fr g c te σ H1 Q)) := ⟨w_compL⟩
end L2
namespace L2
open PySem PySem.Spec PyProof.Rows
def Itq (lo st : Int) (n : Nat) : It := { go := fun i _ => i < n, yld := fun i H x H' => H' = H ∧ x = .int (lo + i * st), stop := fun i _ => n ≤ i }
theorem turn_steps {P : Program} {w : World} {K : PySem.W.Frag} {tg : Expr} (z : Addr) (lo st : Int) (n : Nat) : Turn P w K tg (Itq lo st n) [z] z (fun i h => IsRangeIter h z (lo + (i : Nat) * st) ((n : Int) - (i : Nat)) st) := by
  refine ⟨List.mem_singleton.mpr rfl, ?_, ?_, ?_, ?_, fun _ _ _ _ _ g h => wpAny_pyIter_rangeiter g h⟩
  · intro i h g b hb
    rw [List.mem_singleton.mp hb]
    refine ⟨_, g, fun v y => ?_⟩
    have y : Data.fields _ = Data.cell v := y
    cases y
  · exact fun i h h' g k => k z (List.mem_singleton.mpr rfl) _ g
  · intro X e1 e2 e3 hc i pins s σ H E I hf g hg
    subst e1
    subst e2
    subst e3
    have fp := hf z (List.mem_singleton.mpr rfl)
    refine (Walks.range (prog := X.prog) (w := X.w) (I.ok.hd hc) z lo st n).item i s _ _ hg g ?_
    rintro v h' tk ⟨t, rfl⟩ g2 kk
    have I1 : Inv X pins σ H { s with heap := h', toks := tk } := by
      refine I.turned (it := z) (fun b o hb e => kk b o (fun y => hb (List.mem_singleton.mp y)) e) ?_ ?_ ?_ ?_ ?_
      · exact fp.1
      · exact fp.2.1
      · exact fp.2.2.2.1
      · exact fp.2.2.2.2.1
      · exact fp.2.2.2.2.2
    exact ⟨_, rfl, go_of (s := { s with heap := h', toks := tk }) (n := "range_iterator") g2 rfl rfl (by decide) ⟨.int (lo + i * st), H, I1, ⟨t, rfl⟩, ⟨rfl, rfl⟩, g2, fun b hb => (hf b hb).1⟩⟩
  · intro X e1 e2 e3 hc i pins s σ H E I hf g hg
    subst e1
    subst e2
    subst e3
    have fp := hf z (List.mem_singleton.mpr rfl)
    have hg : n ≤ i := hg
    refine wpAny_pyNext_range_end (I.ok.hd hc) g (by omega) fun h' eb => ⟨rfl, ?_⟩
    refine I.turned (it := z) (t' := s.toks) (fun b o hb e => eb b o hb e) ?_ ?_ ?_ ?_ ?_
    · exact fp.1
    · exact fp.2.1
    · exact fp.2.2.2.1
    · exact fp.2.2.2.2.1
    · exact fp.2.2.2.2.2
theorem small_steps {a b c : Int} (h0 : 0 ≤ a) (h1 : a ≤ 1000000) (h2 : 0 ≤ b) (h3 : b ≤ 1000000) (h4 : 1 ≤ c) (h5 : c ≤ 1000) : Builtin.Range.small a b c = true ∧ 0 ≤ Builtin.Range.rangeSize a b c := by
  have hs : 0 ≤ Builtin.Range.rangeSize a b c ∧ Builtin.Range.rangeSize a b c ≤ 1000001 := by
    unfold Builtin.Range.rangeSize
    rw [if_pos (by omega)]
    split
    · have e1 : 0 ≤ (b - a - 1) / c := Int.ediv_nonneg (by omega) (by omega)
      have e2 : (b - a - 1) / c ≤ b - a - 1 := Int.ediv_le_self _ (by omega)
      omega
    · omega
  have fit : ∀ x : Int, 0 ≤ x → x ≤ 2000000 → Builtin.Range.rangeFitsLong x = true := fun x y1 y2 => by
    unfold Builtin.Range.rangeFitsLong
    rw [decide_eq_true (by omega), decide_eq_true (by omega)]
    rfl
  refine ⟨?_, hs.1⟩
  unfold Builtin.Range.small
  rw [fit a h0 (by omega), fit b h2 (by omega), fit c (by omega) (by omega), fit _ hs.1 (by omega), if_pos (by omega), fit (b + (c - 1)) (by omega) (by omega), Bool.or_true]
  rfl
section
variable {X : Cx} {tg : Expr}
theorem steps_it {pins : List (Addr × Obj)} {σ : St} {H : Hp} {s : Shared} {R : It → Hp → Prop} {E : Value → Shared → Prop} {lo hi st : Int} {t u v : Tok} {tk : Nat} (I : Inv X pins σ H s) (h0 : 0 ≤ lo) (h1 : lo ≤ 1000000) (h2 : 0 ≤ hi) (h3 : hi ≤ 1000000) (h4 : 1 ≤ st) (h5 : st ≤ 1000)
    (q : R (Itq lo st (Builtin.Range.rangeSize lo hi st).toNat) H) : wpAny (model X.prog X.w) X.A (pyIter (.ref s.heap.objs.size)) (PIE X pins σ tg R) E { s with heap := s.heap.push { cls := .type "range", data := .fields #[.int lo t, .int hi u, .int st v] }, toks := tk } := by
  obtain ⟨sm, sz⟩ := small_steps h0 h1 h2 h3 h4 h5
  refine wpAny_pyIter_range (IsRange.new ..) sm ?_
  generalize hh : s.heap.push { cls := .type "range", data := .fields #[.int lo t, .int hi u, .int st v] } = hp
  have I1 : Inv X pins σ H { s with heap := hp, toks := tk } := by
    rw [← hh]
    exact I.kept fun b o e => Heap.get?_push_of_some _ e
  refine ⟨hp.objs.size, [hp.objs.size], _, _, H, rfl, I1.kept (t' := tk) fun b o e => Heap.get?_push_of_some _ e, turn_steps _ lo st (Builtin.Range.rangeSize lo hi st).toNat, ?_, fun b hb => ?_, q⟩
  · show IsRangeIter _ _ (lo + ((0 : Nat) : Int) * st) ((((Builtin.Range.rangeSize lo hi st).toNat : Nat) : Int) - ((0 : Nat) : Int)) st
    rw [show lo + ((0 : Nat) : Int) * st = lo by simp, show (((Builtin.Range.rangeSize lo hi st).toNat : Nat) : Int) - ((0 : Nat) : Int) = Builtin.Range.rangeSize lo hi st by omega]
    exact Heap.get?_push_size _ rfl
  · rw [List.mem_singleton.mp hb]
    exact I1.fpOk (Nat.le_refl _) (I1.hok.fresh (Nat.le_refl _))
def iRng3 (ta : TA) : TI := fun σ H R => ta σ H fun vs H1 => ∃ i j c : Int, vs = [.int i, .int j, .int c] ∧ (0 ≤ i ∧ i ≤ 1000000 ∧ 0 ≤ j ∧ j ≤ 1000000 ∧ 1 ≤ c ∧ c ≤ 1000) ∧ R (Itq i c (Builtin.Range.rangeSize i j c).toNat) H1
theorem nopl {x c : Int} (h4 : 1 ≤ c) (h5 : c ≤ 1000) : Builtin.divisionGoesByPylong x c = false := by
  unfold Builtin.divisionGoesByPylong
  have e1 : c.natAbs.log2 < 10 := (Nat.log2_lt (by omega)).mpr (by omega)
  have e2 : c.natAbs.log2 / 30 = 0 := Nat.div_eq_of_lt (by omega)
  have e3 : (c == 0) = false := by
    rw [beq_eq_false_iff_ne]
    omega
  simp only [Bool.and_eq_false_iff, decide_eq_false_iff_not]
  left
  rw [e3, e2, if_neg (by decide)]
  omega
theorem pi_range3 {a b c : Expr} {ta : TA} {p pos : Pos} (hg : Gl X "range") (hm : X.mg "range" = none) (ha : PA X [a, b, c] ta) (hs : starEach [a, b, c] X.env = (false, eval a X.env) :: starEach [b, c] X.env := by rfl) (hs2 : ((backTo pos (starEach [b, c] X.env)).any fun x => x.fst) = false := by rfl) :
    PI X tg (.Call (.Name "range" p) [a, b, c] [] pos) (iRng3 ta) := by
  intro pins s σ H R I h
  refine Call_ (ld_blt I hg hm boot_range (PyProof.Rows.callWith_type1 (thn (ha pos pins s σ H _ I h) fun us s1 ⟨vs, H1, I1, r1, i, j, k, e, ⟨q1, q2, q3, q4, q5, q6⟩, q⟩ => ?_) hs hs2))
  subst e
  rcases r1 with _ | ⟨⟨t, rfl⟩, _ | ⟨⟨t2, rfl⟩, _ | ⟨⟨t3, rfl⟩, _ | _⟩⟩⟩
  exact call_range_3 (by omega) (steps_it I1 q1 q2 q3 q4 q5 q6 q) (.inl (nopl q5 q6))
end
section
variable {tr : TA} {g : TG} {tb : TS} {D : Ends} {σ : St} {H : Hp}
def ForS (lo st : Int) (n : Nat) (g : TG) (tb : TS) (D : Ends) (σ : St) (H : Hp) : Prop := ∃ W : Nat → Nat → St → Hp → Prop, (∃ m, W 0 m σ H) ∧ ∀ i m σ H, W i m σ H →
      ((Itq lo st n).stop i H ∧ D.nx σ H) ∨ ((Itq lo st n).go i H ∧ ∃ N : St → Hp → Prop, (∀ σ' H', N σ' H' → ∃ m', m' < m ∧ W (i + 1) m' σ' H') ∧ ∀ x H', (Itq lo st n).yld i H x H' → g x σ H' fun σ2 H2 => tb { D with nx := N, ct := N, bk := D.nx } σ2 H2)
theorem forS_by {lo st : Int} {n : Nat} (Pv : Nat → St → Hp → Prop) (h0 : Pv 0 σ H) (hs : ∀ i σ H, i < n → Pv i σ H → g (.int (lo + i * st)) σ H fun σ2 H2 => tb { D with nx := Pv (i + 1), ct := Pv (i + 1), bk := D.nx } σ2 H2) (hd : ∀ σ H, Pv n σ H → D.nx σ H) : ForS lo st n g tb D σ H := by
  refine ⟨fun i m σ H => m = n - i ∧ i ≤ n ∧ Pv i σ H, ⟨n, by simp, Nat.zero_le _, h0⟩, ?_⟩
  rintro i m σ H ⟨rfl, hi, p⟩
  by_cases hl : i < n
  · refine .inr ⟨hl, Pv (i + 1), fun σ' H' p' => ⟨n - (i + 1), by omega, rfl, hl, p'⟩, ?_⟩
    rintro x H' ⟨rfl, rfl⟩
    exact hs i σ H' hl p
  · have e : i = n := by omega
    subst e
    exact .inl ⟨Nat.le_refl _, hd σ H p⟩
instance go_forS : Go (tFor (iRng3 tr) g tb D σ H) (tr σ H fun vs H1 => ∃ i j c : Int, vs = [.int i, .int j, .int c] ∧ (0 ≤ i ∧ i ≤ 1000000 ∧ 0 ≤ j ∧ j ≤ 1000000 ∧ 1 ≤ c ∧ c ≤ 1000) ∧ ForS i c (Builtin.Range.rangeSize i j c).toNat g tb D σ H1) := ⟨id⟩
variable {K : PySem.W.Frag} {a : Addr} {xs : List V} {nt : Nat} {fr : List Nat} {c : TT} {te : TE} {Q : VK} {n m : Int}
instance go_cby [h : SqA K H a xs] : Go (∃ a', V.ref a = .ref a' ∧ (∃ xs, SqL K H a' xs) ∧ CompAll (Itl K a') nt fr g c te σ H Q) (CompAll (Itl K a) nt fr g c te σ H Q) := ⟨c_by h.e⟩
instance go_lby [h : SqA K H a xs] : Go (∃ a', V.ref a = .ref a' ∧ (∃ xs, SqL K H a' xs) ∧ ForL K a' g tb D σ H) (ForL K a g tb D σ H) := ⟨l_by h.e⟩
end
section
variable {L R L' : List (Addr × HO)} {a b : Addr} {o : HO} {c : Addr × HO} {H0 H : Hp} {M : List Addr} {I : List Im}
class PkC (c : Addr × HO) (L : List (Addr × HO)) (R : outParam (List (Addr × HO))) : Prop where
  p : Pk c L R
class SbC (L' L : List (Addr × HO)) : Prop where
  s : Sb L' L
instance pkC1 {d : Addr × HO} [h : PkC c L R] : PkC c (d :: L) (d :: R) := ⟨.tail h.p⟩
instance pkC0 : PkC c (c :: L) L := ⟨.head⟩
instance sbC0 : SbC [] L := ⟨.nil⟩
instance sbC1 [h : PkC c L R] [t : SbC L' R] : SbC (c :: L') L := ⟨.cons h.p t.s⟩
end
end L2
namespace L2
open PySem PySem.Spec PyProof.Rows PySem.SeqAt
section
variable {K : PySem.W.Frag} {H0 H : Hp} {M : List Addr} {L L' : List (Addr × HO)} {I : List Im} {l b a p : Addr} {xs ys r : List V} {v v0 v1 y : V} {Q : VK} {R : Hp → Prop} {R' : Prop} {te : TE} {fvs σ : St} {fr : List Nat} {i j : Int} {Z : Addr → Hp → Prop}
instance go_forR1 {g : TG} {tb : TS} {D : Ends} : Go (∃ j : Int, [V.int i] = [.int j] ∧ -(2 ^ 62) ≤ j ∧ j < 2 ^ 62 ∧ ForR 0 j.toNat g tb D σ H) (Sd (-(2 ^ 62) ≤ i ∧ i < 2 ^ 62) (ForR 0 i.toNat g tb D σ H)) := ⟨fun s => ⟨i, rfl, s.1.1, s.1.2, s.2⟩⟩
instance go_forS3 {g : TG} {tb : TS} {D : Ends} {m : Int} : Go (∃ i' j' c' : Int, [V.int i, V.int j, V.int m] = [.int i', .int j', .int c'] ∧ (0 ≤ i' ∧ i' ≤ 1000000 ∧ 0 ≤ j' ∧ j' ≤ 1000000 ∧ 1 ≤ c' ∧ c' ≤ 1000) ∧ ForS i' c' (Builtin.Range.rangeSize i' j' c').toNat g tb D σ H) (Sd (0 ≤ i ∧ i ≤ 1000000 ∧ 0 ≤ j ∧ j ≤ 1000000 ∧ 1 ≤ m ∧ m ≤ 1000) (ForS i m (Builtin.Range.rangeSize i j m).toNat g tb D σ H)) := ⟨fun s => ⟨i, j, m, rfl, s.1, s.2⟩⟩
end
end L2
namespace L2
open PySem PySem.Spec PyProof.Rows
abbrev ixBody (x : Str) (p1 p2 p3 : Pos) (j : Nat) : Expr := .Subscript (.Name x p1) (.Constant (.int 1) j p2) p3
structure LamScope (x : Str) (scope : Scope) : Prop where
  kind : scope.kind = .function
  co : scope.isCoroutine = false
  gen : scope.isGenerator = false
  loc : scope.names.lookup x = some .local
  nocell : ∀ y ∈ scope.names, y.2 ≠ .cell
  nodeb : (x == ("__debug__" : Str)) = false
theorem ObjOk.is {P : Program} {w : World} {H : Hp} {h : Heap} {a : Addr} {o : HO} (x : ObjOk P w H h a o) : ∃ ob, h.get? a = some ob := by
  cases o with
  | lst xs => obtain ⟨_, _, _, _, e⟩ := x; exact ⟨_, e⟩
  | tup xs => obtain ⟨_, _, _, ob, e, _⟩ := x; exact ⟨_, e⟩
  | dK kvs => obtain ⟨_, _, _, _, ob, _, _, e, _⟩ := x; exact ⟨_, e⟩
  | dT kvs => obtain ⟨_, _, _, _, ob, _, _, e, _⟩ := x; exact ⟨_, e⟩
  | set S n => obtain ⟨ob, _, _, _, e, _⟩ := x; exact ⟨_, e⟩
  | ins C dx fs => obtain ⟨_, _, _, e, _⟩ := x; exact ⟨_, e⟩
  | own y => exact x
  | xd fs => obtain ⟨_, ⟨ob, _, _, e, _⟩, _⟩ := x; exact ⟨_, e⟩
  | rng lo hi => obtain ⟨_, _, _, e⟩ := x; exact ⟨_, e⟩
  | frz ob u => exact ⟨_, x.1⟩
  | tbl ps => exact ⟨_, x⟩
  | met f y => exact ⟨_, x⟩
  | ext φ => exact x.2.1
def IsLam (H : Hp) (f : Addr) : Prop := ∃ (qual x : Str) (params : Arguments) (p1 p2 p3 : Pos) (j : Nat) (scope : Scope) (pm ctv : Value) (c' : Addr) (oc : Obj) (vs : Array Value) (t : Tok),
  H f = some (.frz (PySem.W.kla_obj "<lambda>" qual params (ixBody x p1 p2 p3 j) scope [] pm c' ctv) (.own f)) ∧ H c' = some (.frz oc (.own c')) ∧ oc.data = .fields vs ∧ vs[1]? = some (.str qual t) ∧ LamScope x scope ∧
  ∀ q : Addr, bindArgs (PySem.W.kla_fn "<lambda>" qual params (ixBody x p1 p2 p3 j) scope [] pm (.ref c') ctv) ⟨[.ref q], []⟩ = pure [(x, .ref q)]
def TabOk (pos : Pos) (qual : Str) (ps : Array Value) (H : Hp) : Prop := ps = #[] ∨ ∃ (c' : Addr) (oc : Obj) (vs : Array Value) (t : Tok), ps = #[rawInt pos.line, rawInt pos.col, .ref c'] ∧ H c' = some (.frz oc (.own c')) ∧ oc.data = .fields vs ∧ vs[1]? = some (.str qual t)
end L2
namespace L2
open PySem PySem.Spec PyProof.Rows PySem.SeqAt
def tx (cs : List Nat) : Str := ⟨cs.toArray⟩
theorem tx_len (cs : List Nat) : (tx cs).length = cs.length := by simp [tx, Str.length]
theorem tx_cps (cs : List Nat) : (tx cs).cps.toList = cs := by simp [tx]
theorem tx_inj {a b : List Nat} (h : tx a = tx b) : a = b := by
  have := congrArg (fun z : Str => z.cps.toList) h
  simpa [tx] using this
theorem append_tx (a b : List Nat) : tx a ++ tx b = tx (a ++ b) := by
  show Str.append _ _ = _
  unfold Str.append tx
  simp
section
variable {K : PySem.W.Frag} {H0 H : Hp} {M : List Addr} {L L' : List (Addr × HO)} {I : List Im} {l P f : Addr} {xs ys : List V} {v y : V} {Q : VK} {R : Hp → Prop} {te th : TE} {σ : St} {i : Int} {cs ds : List Nat} {j c : Nat} {pos : Pos} {qual : Str} {ps : Array Value}
instance go_rixS : Go (rIxS (.str (tx cs)) (.int i) H Q) (Sd (0 ≤ i ∧ i < cs.length ∧ cs.length ≤ 1000) (∀ c : Nat, cs[i.toNat]? = some c → Q (.str (tx [c])) H)) := ⟨fun s => by
  obtain ⟨⟨h0, h1, h2⟩, k⟩ := s
  have hl : i.toNat < cs.length := by omega
  refine ⟨tx cs, i, cs[i.toNat], rfl, rfl, by rw [tx_len]; exact small_line (by omega), ?_, k _ (by simp)⟩
  rw [tx_cps]
  obtain ⟨n, rfl⟩ : ∃ n : Nat, i = (n : Int) := ⟨i.toNat, by omega⟩
  exact atI_nat (by simp)⟩
instance go_raddS : Go (rAddS (.str (tx cs)) (.str (tx ds)) H Q) (Sd (cs.length + ds.length ≤ 1000) (Q (.str (tx (cs ++ ds))) H)) := ⟨fun s => ⟨_, _, rfl, rfl, by rw [tx_len, tx_len]; exact small_line (by have := s.1; omega), by rw [append_tx]; exact s.2⟩⟩
theorem w_tupD {n i0 i1 i2 i3 : Nat} {a b c d : V} {R : St → Hp → Prop} (hn : n = 4) (hp : SqT K H l [a, b, c, d]) (h : gName i0 a σ H fun σ1 H1 => gName i1 b σ1 H1 fun σ2 H2 => gName i2 c σ2 H2 fun σ3 H3 => gName i3 d σ3 H3 R) : gTup K n (gCons (gName i0) (gCons (gName i1) (gCons (gName i2) (gCons (gName i3) gNil)))) (.ref l) σ H R := by
  subst hn
  exact ⟨l, _, rfl, hp, rfl, _, _, rfl, _, _, rfl, _, _, rfl, _, _, rfl, rfl, h⟩
instance go_tup4 {n i0 i1 i2 i3 : Nat} {a b c d : V} {R : St → Hp → Prop} [h : SqB K H l [a, b, c, d]] : Go (gTup K n (gCons (gName i0) (gCons (gName i1) (gCons (gName i2) (gCons (gName i3) gNil)))) (.ref l) σ H R) (Sd (n = 4) (gName i0 a σ H fun σ1 H1 => gName i1 b σ1 H1 fun σ2 H2 => gName i2 c σ2 H2 fun σ3 H3 => gName i3 d σ3 H3 R)) := ⟨fun s => w_tupD s.1 h.e s.2⟩
theorem TabOk.st : ∀ H H', Tst H H' → TabOk pos qual ps H → TabOk pos qual ps H' := fun H H' t h => by
  rcases h with h | ⟨c', oc, vs, t', e, e1, e2⟩
  · exact .inl h
  · exact .inr ⟨c', oc, vs, t', e, t _ _ rfl e1, e2⟩
theorem IsLam.st : ∀ H H', Tst H H' → IsLam H f → IsLam H' f := fun H H' t h => by
  obtain ⟨a1, a2, a3, a4, a5, a6, a7, a8, a9, a10, a11, a12, a13, a14, e1, e2, r⟩ := h
  exact ⟨a1, a2, a3, a4, a5, a6, a7, a8, a9, a10, a11, a12, a13, a14, t _ _ rfl e1, t _ _ rfl e2, r⟩
end
def isFig (c : Nat) : Bool := decide (48 ≤ c) && decide (c ≤ 57)
structure Rw where
  nm : List Nat
  st : Nat
  sz : Nat
  pn : Nat
def Apart (r s : Rw) : Prop := r.nm ≠ s.nm ∧ (r.st + r.sz ≤ s.st ∨ s.st + s.sz ≤ r.st)
theorem Apart.symm {r s : Rw} (h : Apart r s) : Apart s r := ⟨fun z => h.1 z.symm, h.2.elim .inr .inl⟩
def rInS : R2 := fun x y H Q => ∃ c j, x = .str ⟨#[c]⟩ ∧ y = .str j ∧ Q (.bl (decide (c ∈ j.cps.toList))) H
section
variable {X : Cx} {K : PySem.W.Frag} {H : Hp} {Q : VK} {z : Str} {cs : List Nat} {c : Nat} {t0 te : TE} {nt : Nat} {fr : List Nat} {g : TG} {cc : TT} {σ fvs : St} {p f l : Addr} {bs : List Bool} {ys : List V} {rs : List Rw}
theorem op_inS : OpR X (compareOp .In) rInS := op_in_str1
instance go_inS : Go (rInS (.str (tx [c])) (.str z) H Q) (Q (.bl (decide (c ∈ z.cps.toList))) H) := ⟨fun k => ⟨c, z, rfl, rfl, k⟩⟩
instance go_isSS : Go (rIsT K [.str z, .ty "str"] H Q) (Q (.bl true) H) := ⟨fun k => w_is (TyOf.str (K := K) (H := H) z) (bt_str (TyOf.str (K := K) (H := H) z)) k⟩
instance go_lenS : Go (rLen K [.str (tx cs)] H Q) (Sd (cs.length ≤ 1000) (Q (.int cs.length) H)) := ⟨fun s => w_lenS (by rw [tx_len]; exact small_line (by have := s.1; omega)) (by rw [tx_len]; exact s.2)⟩
instance go_compS : Go (tComp (iStr t0) nt fr g cc te σ H Q) (t0 σ H fun x H1 => ∃ z, x = .str z ∧ CompAll (Its z) nt fr g cc te σ H1 Q) := ⟨id⟩
instance go_compS1 : Go (∃ z', V.str z = .str z' ∧ CompAll (Its z') nt fr g cc te σ H Q) (CompAll (Its z) nt fr g cc te σ H Q) := ⟨fun k => ⟨z, rfl, k⟩⟩
theorem comp_S {F : Nat → V} (hz : cs.length ≤ 1000) (hf : (fr.map fun i => (σ[i]?).getD none) = fvs) (turn : ∀ (c : Nat) (H' : Hp) (R : VK), c ∈ cs → Same H H' → (∀ H2, Same H' H2 → R (F c) H2) → te (some (.str (tx [c])) :: fvs) H' R)
    (k : ∀ p H', New H H' p (.lst (cs.map F)) → Q (.ref p) H') : CompAll (Its (tx cs)) 1 fr (gName 0) tTrue te σ H Q := by
  have e0 : signsV (tx cs) = cs.map fun c => V.str (tx [c]) := by
    unfold signsV
    rw [tx_cps]
    rfl
  refine comp_map (P := fun i y => ∃ c, cs[i]? = some c ∧ y = F c) (items_str (z := tx cs)) (by rw [e0, List.length_map]; omega) hf (fun _ _ => trivial) (fun i v H' R hv s kk => ?_) fun p H' ys n hl hP => k p H' ?_
  · rw [e0, List.getElem?_map] at hv
    cases e : cs[i]? with
    | none => rw [e] at hv; cases hv
    | some c =>
      rw [e] at hv
      cases hv
      exact turn c H' R (List.mem_of_getElem? e) s fun H2 s2 => kk _ _ s2 ⟨c, e, rfl⟩
  · have e : ys = cs.map F := by
      rw [e0, List.length_map] at hl
      apply List.ext_getElem?
      intro i
      rw [List.getElem?_map]
      by_cases hi : i < ys.length
      · obtain ⟨c, e1, e2⟩ := hP i ys[i] (by simp)
        rw [e1, List.getElem?_eq_getElem hi, e2]
        rfl
      · rw [List.getElem?_eq_none (by omega), List.getElem?_eq_none (by omega)]
        rfl
    rw [e] at n
    exact n
instance go_all [h : SqA K H p (bs.map V.bl)] : Go (∃ (p' : Addr) (bs' : List Bool), [V.ref p] = [.ref p'] ∧ SqL K H p' (bs'.map V.bl) ∧ Q (.bl (bs'.all id)) H) (Q (.bl (bs.all id)) H) := ⟨fun k => ⟨p, bs, rfl, h.e, k⟩⟩
end
end L2
namespace L2
open PySem PySem.Spec PyProof.Rows
end L2
namespace L2
open PySem PySem.W PySem.Spec PyProof.Rows
section
variable {n : Nat} {rk : Nat → Int} {α β : Type}
def Pp (n : Nat) (p : Array Nat) : Prop := p.Perm (List.range n).toArray
theorem Pp.size {p : Array Nat} (h : Pp n p) : p.size = n := by
  have := h.size_eq
  simpa using this
theorem Pp.ne {p : Array Nat} (h : Pp n p) {a b : Nat} (ha : a < n) (hb : b < n) (hab : a ≠ b) : p.getD a 0 ≠ p.getD b 0 := by
  have hs := h.size
  have e : ∀ k (hk : k < n), p.getD k 0 = p.toList[k]'(by simpa [hs] using hk) := fun k hk => by
    rw [Array.getD_eq_getD_getElem?, Array.getElem?_eq_getElem (by omega)]
    rfl
  have nd : p.toList.Nodup := (Array.perm_iff_toList_perm.mp h).nodup_iff.mpr (by simpa using List.nodup_range)
  rw [e a ha, e b hb]
  intro z
  exact hab ((List.getElem_inj nd).mp z)
end
end L2
namespace L2
open PySem PySem.W PySem.Calls PySem.Spec PyProof.Rows
end L2
namespace L2
open PySem PySem.Spec PyProof.Rows PySem.SeqAt
section
variable {K : PySem.W.Frag} {H : Hp} {Q : VK} {l p q : Addr} {x : V} {r xs ys zs : List V} {rs : List Rw}
theorem cut_tail : cutV (x :: r) (some 1) none = r := by
  unfold cutV
  rw [show (1 : Int) = ((1 : Nat) : Int) from rfl, HT.sIx_nat]
  show List.take ((x :: r).length - min 1 (x :: r).length) (List.drop (min 1 (x :: r).length) (x :: r)) = r
  rw [show min 1 (x :: r).length = 1 by simp only [List.length_cons]; omega]
  simp
instance go_slT [h : Hat H l (.tup (x :: r))] : Go (rSlT K (.ref l) (some 1) none H Q) (∀ p H', New H H' p (.tup r) → Q (.ref p) H') := ⟨fun k => ⟨l, _, rfl, SqT.of h.e, fun z => by
    have z := z.1
    rw [show (1 : Int) = ((1 : Nat) : Int) from rfl, HT.sIx_nat] at z
    simp only [List.length_cons] at z
    omega, fun p e => by rw [cut_tail]; exact k p _ (New.mk' e)⟩⟩
variable {σ : St} {nt : Nat} {fr : List Nat} {g : TG} {c : TT} {te t0 : TE}
instance go_compT : Go (tComp (iTup K t0) nt fr g c te σ H Q) (t0 σ H fun x H1 => ∃ a, x = .ref a ∧ (∃ xs, SqT K H1 a xs) ∧ CompAll (Itt K a) nt fr g c te σ H1 Q) := ⟨id⟩
instance go_tby [h : Hat H l (.tup xs)] : Go (∃ a, V.ref l = .ref a ∧ (∃ xs, SqT K H a xs) ∧ CompAll (Itt K a) nt fr g c te σ H Q) (CompAll (Itt K l) nt fr g c te σ H Q) := ⟨fun k => ⟨l, rfl, ⟨_, SqT.of h.e⟩, k⟩⟩
variable {R : St → Hp → Prop}
end
end L2
namespace L2
open PySem PySem.W PySem.Spec PyProof.Rows
section
variable {CX : CXT} {P : Program} {w : World} {K : PySem.W.Frag} {mg : Str → Option Value} {base : Heap} {k m : Nat} {x : Str} {ps : List Str} {sp : Sp} {ds : List Value} {dvs : List V}
structure DefD (P : Program) (w : World) (K : PySem.W.Frag) (mg : Str → Option Value) (base : Heap) (CX : CXT) (k : Nat) (x : Str) (ps : List Str) (sp : Sp) (ds : List Value) : Prop where
  ex : ∃ (f : Addr) (fd : FuncData), FnOk P w K mg base CX k f fd ps sp ∧ mg x = some (.ref f) ∧ PySem.W.keepIn K (.ref f) = true ∧ Binds K fd ps [] ∧ Binds K fd ps ds
theorem DefD.all (D : DefD P w K mg base CX k x ps sp ds) : Def P w K mg base CX k x ps sp :=
  let ⟨f, fd, F, a, b, c, _⟩ := D.ex
  ⟨f, fd, F, a, b, c⟩
end
def cval : Expr → Option V
  | .Constant (.str x) _ _ => some (.str x)
  | .Constant (.int i) _ _ => some (.int i)
  | .Constant (.bool b) _ _ => some (.bl b)
  | .Constant .none _ _ => some .non
  | _ => none
def cvals : List Expr → Option (List V)
  | [] => some []
  | e :: es => match cval e, cvals es with
    | some v, some vs => some (v :: vs)
    | _, _ => none
def tVals (vs : List V) : TA := fun _ H R => R vs H
section
variable {X : Cx}
theorem pe_strT {x : Str} {cs : List Nat} {j pos} (h : x = tx cs) : PE X (.Constant (.str x) j pos) (tC (.str (tx cs))) := by
  subst h
  exact pe_str
theorem pa_vals : ∀ {es : List Expr} {vs : List V}, cvals es = some vs → PA X es (tVals vs)
  | [], vs, h => by
    cases h
    exact pa_nil
  | e :: es, vs, h => by
    unfold cvals at h
    split at h
    · rename_i v vs' e1 e2
      cases h
      have ih := pa_vals e2
      unfold cval at e1
      split at e1
      · cases e1
        exact pa_cons (te := tC _) pe_str ih
      · cases e1
        exact pa_cons (te := tC _) pe_int ih
      · cases e1
        exact pa_cons (te := tC _) pe_bl ih
      · cases e1
        exact pa_cons (te := tC _) pe_non ih
      · cases e1
    · cases h
end
instance go_vals {σ : St} {H : Hp} {vs : List V} {R : List V → Hp → Prop} : Go (tVals vs σ H R) (R vs H) := ⟨fun h => h⟩
def joinC (c : Nat) : List (List Nat) → List Nat
  | [] => []
  | [p] => p
  | p :: q :: r => p ++ c :: joinC c (q :: r)
def splitC (c : Nat) : List Nat → List (List Nat)
  | [] => [[]]
  | x :: r => if x = c then [] :: splitC c r else match splitC c r with
    | [] => [[x]]
    | p :: ps => (x :: p) :: ps
theorem splitC_ne (c : Nat) (cs : List Nat) : ∃ p ps, splitC c cs = p :: ps := by
  induction cs with
  | nil => exact ⟨_, _, rfl⟩
  | cons x r ih =>
    obtain ⟨p, ps, e⟩ := ih
    unfold splitC
    split
    · exact ⟨_, _, rfl⟩
    · rw [e]
      exact ⟨_, _, rfl⟩
theorem splitC_no {c : Nat} {p : List Nat} (h : c ∉ p) : splitC c p = [p] := by
  induction p with
  | nil => rfl
  | cons x r ih =>
    have h1 : ¬ x = c := fun z => h (by rw [z]; exact List.mem_cons_self)
    unfold splitC
    rw [if_neg h1, ih fun z => h (List.mem_cons_of_mem _ z)]
theorem splitC_app {c : Nat} {p : List Nat} (h : c ∉ p) (r : List Nat) : splitC c (p ++ c :: r) = p :: splitC c r := by
  induction p with
  | nil =>
    show splitC c (c :: r) = _
    rw [splitC, if_pos rfl]
  | cons x q ih =>
    have h1 : ¬ x = c := fun z => h (by rw [z]; exact List.mem_cons_self)
    show splitC c (x :: (q ++ c :: r)) = _
    rw [splitC, if_neg h1, ih fun z => h (List.mem_cons_of_mem _ z)]
theorem split_join {c : Nat} : ∀ {ps : List (List Nat)}, ps ≠ [] → (∀ p ∈ ps, c ∉ p) → splitC c (joinC c ps) = ps
  | [], h, _ => absurd rfl h
  | [p], _, h => splitC_no (h p List.mem_cons_self)
  | p :: q :: r, _, h => by
    show splitC c (p ++ c :: joinC c (q :: r)) = _
    rw [splitC_app (h p List.mem_cons_self), split_join (by simp) fun z hz => h z (List.mem_cons_of_mem _ hz)]
theorem join_tx (c : Nat) : ∀ ps : List (List Nat), Str.join (tx [c]) (ps.map tx) = tx (joinC c ps)
  | [] => rfl
  | [p] => rfl
  | p :: q :: r => by
    have ih := join_tx c (q :: r)
    show tx p ++ tx [c] ++ Str.join (tx [c]) ((q :: r).map tx) = _
    rw [ih, append_tx, append_tx, List.append_assoc]
    rfl
theorem occ_run (cs : List Nat) (c limit : Nat) : ∀ (n lo free : Nat) (found : Array Nat), free ≤ lo → found.size + n ≤ limit →
    (forIn (List.range' lo n) (found, free) (StrLaws.occBody (tx cs) (tx [c]) cs.length limit)).run.fst.toList = found.toList ++ (List.range' lo n).filter (fun i => decide (cs[i]? = some c))
  | 0, lo, free, found, _, _ => by
    show (found, free).fst.toList = _
    simp
  | n + 1, lo, free, found, hf, hz => by
    have one : (lo + (tx [c]).length ≤ cs.length ∧ Builtin.Str.subAt (tx cs) (tx [c]) lo = true) ↔ cs[lo]? = some c := by
      have := StrLaws.subAt_one (tx cs) c lo
      rw [tx_len, tx_cps] at this
      exact this
    rw [List.range'_succ, List.forIn_cons, List.filter_cons]
    unfold StrLaws.occBody
    by_cases hc : cs[lo]? = some c
    · have h1 := one.mpr hc
      rw [if_pos ⟨⟨⟨by show found.size < limit; omega, hf⟩, h1.1⟩, h1.2⟩, if_pos (decide_eq_true hc)]
      have := occ_run cs c limit n (lo + 1) (lo + (tx [c]).length) (found.push lo) (by rw [tx_len]; exact Nat.le_refl _) (by rw [Array.size_push]; omega)
      refine Eq.trans this ?_
      rw [Array.toList_push, List.append_assoc]
      rfl
    · rw [if_neg (fun z => hc (one.mp ⟨z.1.2, z.2⟩)), if_neg (by simp [hc])]
      exact occ_run cs c limit n (lo + 1) free found (by omega) (by omega)
theorem occ_sign (cs : List Nat) (c : Nat) : Builtin.Str.occurrences (tx cs) (tx [c]) 0 cs.length (cs.length + 1) = (List.range' 0 cs.length).filter (fun i => decide (cs[i]? = some c)) := by
  have e := occ_run cs c (cs.length + 1) (cs.length + 1 - 0) 0 0 #[] (Nat.le_refl _) (by simp)
  rw [StrLaws.occ_eq]
  refine Eq.trans e ?_
  rw [show cs.length + 1 - 0 = cs.length + 1 by omega, List.range'_concat, List.filter_append]
  have : ([0 + 1 * cs.length] : List Nat).filter (fun i => decide (cs[i]? = some c)) = [] := by
    rw [List.filter_cons_of_neg]
    · rfl
    · rw [show 0 + 1 * cs.length = cs.length by omega, List.getElem?_eq_none (Nat.le_refl _)]
      simp
  rw [this]
  simp
theorem sub_tx (cs : List Nat) (i j : Nat) : Builtin.Str.strSub (tx cs) i j = tx ((cs.drop i).take (j - i)) := by
  have h : ∀ z : Str, z = tx z.cps.toList := fun z => by cases z; simp [tx]
  rw [h (Builtin.Str.strSub (tx cs) i j), StrLaws.strSub_toList, tx_cps]
theorem parts_sign (cs : List Nat) (c : Nat) : ∀ (n a : Nat), a + n = cs.length → StrLaws.partsFrom (tx cs) 1 a ((List.range' a n).filter fun i => decide (cs[i]? = some c)) = (splitC c (cs.drop a)).map tx
  | 0, a, h => by
    rw [List.drop_of_length_le (by omega)]
    show [Builtin.Str.strSub (tx cs) a (tx cs).length] = [tx []]
    rw [sub_tx, List.drop_of_length_le (by omega)]
    simp
  | n + 1, a, h => by
    have ih := parts_sign cs c n (a + 1) (by omega)
    obtain ⟨x, hx⟩ : ∃ x, cs[a]? = some x := ⟨cs[a]'(by omega), by simp⟩
    have hd : cs.drop a = x :: cs.drop (a + 1) := by
      rw [List.drop_eq_getElem_cons (show a < cs.length by omega)]
      rw [List.getElem?_eq_getElem (show a < cs.length by omega)] at hx
      rw [Option.some.inj hx]
    rw [List.range'_succ, List.filter_cons, hd]
    by_cases hc : x = c
    · rw [if_pos (by rw [hx, hc]; simp), splitC, if_pos hc, List.map_cons, ← ih]
      show Builtin.Str.strSub (tx cs) a a :: _ = _
      rw [sub_tx, Nat.sub_self, List.take_zero]
    · rw [if_neg (by rw [hx]; simp [hc]), splitC, if_neg hc]
      obtain ⟨p, ps, ep⟩ := splitC_ne c (cs.drop (a + 1))
      rw [ep] at ih ⊢
      generalize hr : (List.range' (a + 1) n).filter (fun i => decide (cs[i]? = some c)) = cuts at ih
      have hge : ∀ k ∈ cuts, a + 1 ≤ k := fun k hk => by
        rw [← hr] at hk
        have := List.mem_range'_1.mp (List.mem_filter.mp hk).1
        omega
      cases cuts with
      | nil =>
        have i1 : [Builtin.Str.strSub (tx cs) (a + 1) (tx cs).length] = tx p :: ps.map tx := ih
        show [Builtin.Str.strSub (tx cs) a (tx cs).length] = tx (x :: p) :: ps.map tx
        rw [sub_tx, tx_len] at i1 ⊢
        have e1 := (List.cons.inj i1).1
        have e2 := (List.cons.inj i1).2
        rw [← e2, ← tx_inj e1, hd, show cs.length - a = (cs.length - (a + 1)) + 1 by omega, List.take_succ_cons]
      | cons k r =>
        have hk := hge k List.mem_cons_self
        have i1 : Builtin.Str.strSub (tx cs) (a + 1) k :: StrLaws.partsFrom (tx cs) 1 (k + 1) r = tx p :: ps.map tx := ih
        show Builtin.Str.strSub (tx cs) a k :: StrLaws.partsFrom (tx cs) 1 (k + 1) r = tx (x :: p) :: ps.map tx
        rw [sub_tx] at i1 ⊢
        have e1 := (List.cons.inj i1).1
        have e2 := (List.cons.inj i1).2
        rw [e2, ← tx_inj e1, hd, show k - a = (k - (a + 1)) + 1 by omega, List.take_succ_cons]
theorem kind_low {c : Nat} (h : c < 256) (x : Str) : ¬ Builtin.Str.strKind x < Builtin.Str.strKind (tx [c]) := by
  have e : Builtin.Str.strKind (tx [c]) = 1 := by
    unfold Builtin.Str.strKind tx
    rw [if_pos (by simp [h])]
  rw [e]
  unfold Builtin.Str.strKind
  split
  · omega
  · split <;> omega
theorem split_tx {cs : List Nat} {c : Nat} (h : c < 256) : Txt.split (tx cs) (tx [c]) = (splitC c cs).map tx := by
  have key : Builtin.Str.partsBetween (tx cs) (Builtin.Str.occurrences (tx cs) (tx [c]) 0 cs.length (cs.length + 1)) (tx [c]).length = (splitC c cs).map tx := by
    rw [StrLaws.partsBetween_eq, occ_sign]
    have := parts_sign cs c cs.length 0 (by omega)
    rw [List.drop_zero] at this
    exact this
  have lx : (tx cs).length = cs.length := tx_len cs
  unfold Txt.split
  rw [lx]
  split
  · rename_i h1
    rw [Bool.or_eq_true, decide_eq_true_eq, decide_eq_true_eq] at h1
    rcases h1 with h1 | h1
    · have h1 : cs.length < 1 := h1
      have : cs = [] := List.length_eq_zero_iff.mp (by omega)
      rw [this]
      rfl
    · exact absurd h1 (kind_low h _)
  · split
    · rename_i h2
      rw [List.isEmpty_iff] at h2
      rw [h2] at key
      rw [← key, StrLaws.partsBetween_eq]
      show [tx cs] = [Builtin.Str.strSub (tx cs) 0 (tx cs).length]
      rw [StrLaws.sub_whole]
    · exact key
theorem vals_from : ∀ (k : Nat) (ts : List Str), Vals (ts.map V.str) (strsFrom k ts)
  | _, [] => .nil
  | k, t :: r => .cons ⟨_, rfl⟩ (vals_from (k + 1) r)
def rSplit : V → List V → Hp → VK → Prop := fun x xs H Q => ∃ (cs : List Nat) (c : Nat), x = .str (tx cs) ∧ xs = [.str (tx [c])] ∧ c < 256 ∧ cs.length ≤ 900000 ∧ ∀ p H', New H H' p (.lst ((splitC c cs).map fun d => V.str (tx d))) → Q (.ref p) H'
theorem splitC_len (c : Nat) (cs : List Nat) : (splitC c cs).length ≤ cs.length + 1 := by
  induction cs with
  | nil => exact Nat.le_refl _
  | cons x r ih =>
    obtain ⟨p, ps, e⟩ := splitC_ne c r
    unfold splitC
    split
    · simp only [List.length_cons]; omega
    · rw [e] at ih ⊢
      simp only [List.length_cons] at ih ⊢
      omega
section
variable {X : Cx}
theorem mt_split : MtR X "str.split" rSplit := by
  intro pins s σ H x xs v us Q I rx rs h
  obtain ⟨cs, c, rfl, rfl, hc, hz, q⟩ := h
  obtain ⟨t, rfl⟩ := rx
  obtain ⟨u, rfl, r1⟩ := vals1 rs
  obtain ⟨t2, rfl⟩ := r1
  have hsz : (tx cs).length ≤ sizeLine := by rw [tx_len]; exact small_line (by omega)
  have hy : ((tx [c]).length == 0) = false := rfl
  have lay : ∀ (its : List Value) (tk : Nat), Vals ((splitC c cs).map fun d => V.str (tx d)) its → EP X pins σ Q (.ref s.heap.objs.size) { s with toks := tk, heap := s.heap.push { cls := .type "list", data := .seq its.toArray } } := fun its tk r => by
    have hf : H s.heap.objs.size = none := I.hok.fresh (Nat.le_refl _)
    have zl : ((splitC c cs).map fun d => V.str (tx d)).length ≤ sizeLine := by
      rw [List.length_map]
      have := splitC_len c cs
      exact small_lt (n := (splitC c cs).length) (by omega) |> Nat.le_of_lt
    exact ⟨.ref s.heap.objs.size, upd H s.heap.objs.size (.lst _), I.laid (fun b w e => Heap.get?_push_of_some _ e) (Nat.le_refl _) ⟨zl, its, 0, r, Heap.get?_push_size _ rfl⟩, rfl, q _ _ (.mk' hf)⟩
  have sp := split_tx (cs := cs) hc
  unfold Txt.split at sp
  have one : (splitC c cs).map tx = [tx cs] → Vals ((splitC c cs).map fun d => V.str (tx d)) [.str (tx cs) t] := fun e => by
    have : ((splitC c cs).map fun d => V.str (tx d)) = [V.str (tx cs)] := by
      have := congrArg (List.map V.str) e
      rw [List.map_map] at this
      exact this
    rw [this]
    exact .cons ⟨_, rfl⟩ .nil
  cases h1 : (decide ((tx cs).length < (tx [c]).length) || decide (Builtin.Str.strKind (tx cs) < Builtin.Str.strKind (tx [c])))
  · rw [h1, if_neg (by decide)] at sp
    cases h2 : (Builtin.Str.occurrences (tx cs) (tx [c]) 0 (tx cs).length ((tx cs).length + 1)).isEmpty
    · rw [h2, if_neg (by decide)] at sp
      refine call_meets F.slot_str_split (typeIs_str _ _ _) F.entry_str_split (F.args_str_split_2 _ _) (meets_str_split_sep _ _ t t2 h1 hy h2 hsz ?_) ?_
      · rw [sp, List.length_map]
        have := splitC_len c cs
        exact Nat.le_of_lt (small_lt (by omega))
      · refine lay _ _ ?_
        rw [sp]
        have := vals_from s.toks ((splitC c cs).map tx)
        rw [List.map_map] at this
        exact this
    · rw [h2, if_pos rfl] at sp
      exact call_meets F.slot_str_split (typeIs_str _ _ _) F.entry_str_split (F.args_str_split_2 _ _) (meets_str_split_not_found _ _ t t2 h1 hy h2) (lay _ s.toks (one sp.symm))
  · rw [h1, if_pos rfl] at sp
    exact call_meets F.slot_str_split (typeIs_str _ _ _) F.entry_str_split (F.args_str_split_2 _ _) (meets_str_split_cannot_occur _ _ t t2 h1) (lay _ s.toks (one sp.symm))
theorem pe_split {o e : Expr} {to te : TE} {apos cpos : Pos} (ho : PE X o to) (he : PE X e te) (hb : attributeBase o "split" X.env (eval o X.env) = eval o X.env := by rfl)
    (hw : ((backTo cpos (starEach [e] X.env)).all (fun z => !z.1) && (backToKw cpos (keywordEach [] X.env)).all (fun z => z.1.isSome) && decide (([e] : List Expr).length + ([] : List Keyword).length + (if ([] : List Keyword).isEmpty then 0 else 1) < 30)) = true := by rfl)
    (hl : (apos.endLine == cpos.line) = true := by rfl) (hs : starEach [e] X.env = (false, eval e X.env) :: starEach [] X.env := by rfl) :
    PE X (.Call (.Attribute o "split" apos) [e] [] cpos) (tBM X.K "str" rSplit to (tCons te tNil)) :=
  pe_bm PySem.F.plainAttrs_str PySem.F.slot_str_split PySem.F.type_str_split mt_split ho (pa_cons he pa_nil hs) hb hw hl hs (by rfl)
def dg (n : Nat) : List Nat := (Nat.toDigits 10 n).map Char.toNat
theorem num_dg (n : Nat) : numS (n : Int) = tx (dg n) := by
  have h : ∀ z : Str, z = tx z.cps.toList := fun z => by cases z; simp [tx]
  rw [h (numS (n : Int)), PySem.W.KIN.signs_num]
  rfl
end
theorem dg_fig {n : Nat} : ∀ c ∈ dg n, isFig c = true := fun c hc => by
  obtain ⟨ch, hch, e⟩ := List.mem_map.mp hc
  have hd := Nat.isDigit_of_mem_toDigits (b := 10) (by decide) (by decide) hch
  rw [← e]
  unfold isFig
  unfold Char.isDigit at hd
  simp only [Bool.and_eq_true, decide_eq_true_eq] at hd ⊢
  exact ⟨hd.1, hd.2⟩
end L2
namespace L2
open PySem PySem.Spec PyProof.Rows PySem.SeqAt
class SplA (c : Nat) (cs : List Nat) (vs : outParam (List V)) : Prop where
  e : (splitC c cs).map (fun d => V.str (tx d)) = vs
class CutA (xs : List V) (lo hi : Option Int) (ys : outParam (List V)) : Prop where
  e : cutV xs lo hi = ys
class TxL (xs : List V) (ps : outParam (List (List Nat))) : Prop where
  e : xs = ps.map fun d => V.str (tx d)
section
variable {K : PySem.W.Frag} {H : Hp} {Q : VK} {σ : St} {t : TE} {ts : List TE} {a b cs : List Nat} {c n : Nat} {ps : List (List Nat)} {p l q : Addr} {xs ys r : List V} {lo hi : Option Int} {R : Str → Prop} {S : Int → Prop} {v v0 v1 v2 v3 v4 v5 : V} {i : Int} {z : Str} {bb : Bool}
instance go_split [s : SplA c cs xs] : Go (rSplit (.str (tx cs)) [.str (tx [c])] H Q) (Sd (c < 256 ∧ cs.length ≤ 900000) (∀ p H', New H H' p (.lst xs) → Q (.ref p) H')) := ⟨fun k => ⟨cs, c, rfl, rfl, k.1.1, k.1.2, by rw [s.e]; exact k.2⟩⟩
instance txl_map : TxL (ps.map fun d => V.str (tx d)) ps := ⟨rfl⟩
instance go_joinC [h : SqA K H p xs] [tl : TxL xs ps] : Go (rJoin K (.str (tx [c])) [.ref p] H Q) (Sd ((ps.map fun d => d.length).sum + ps.length ≤ 1000000) (Q (.str (tx (joinC c ps))) H)) := ⟨fun k => ⟨tx [c], p, ps.map tx, rfl, rfl, by rw [List.map_map]; have := h.e; rw [tl.e] at this; exact this, by rw [tx_len, List.length_singleton]; omega, by
    rw [List.map_map, List.length_map]
    have : (ps.map ((fun z : Str => z.length) ∘ tx)) = ps.map fun d => d.length := List.map_congr_left fun d _ => tx_len d
    rw [this]
    have := k.1
    omega, by rw [join_tx]; exact k.2⟩⟩
instance go_fs1 : Go (tFs (t :: ts) Str.empty σ H Q) (tFs (t :: ts) (tx []) σ H Q) := ⟨fun h => h⟩
instance go_slC [h : SqA K H l xs] [e : CutA xs lo hi ys] : Go (rSlA K (.ref l) lo hi H Q) (∀ p H', New H H' p (.lst ys) → Q (.ref p) H') := ⟨fun k => w_slA h.e (by rw [e.e]; exact k)⟩
instance at4 : AtI (v0 :: v1 :: v2 :: v3 :: v :: r) 4 v := ⟨atI_nat (j := 4) rfl⟩
instance at5 : AtI (v0 :: v1 :: v2 :: v3 :: v4 :: v :: r) 5 v := ⟨atI_nat (j := 5) rfl⟩
instance go_isNi : Go (rIsN (.int i) .non H Q) (Q (.bl false) H) := ⟨fun k => ⟨rfl, k⟩⟩
instance go_isNr : Go (rIsN (.ref p) .non H Q) (Q (.bl false) H) := ⟨fun k => ⟨rfl, k⟩⟩
end
end L2
namespace L2
open PySem PySem.W PySem.Calls PySem.Spec PyProof.Rows
end L2
namespace L2
open PySem PySem.Spec PyProof.Rows PySem.SeqAt
end L2
namespace L2
open PySem PySem.W PySem.Spec PyProof.Rows
end L2
namespace L2
open PySem PySem.Spec PyProof.Rows
end L2
namespace L2
open PySem PySem.W PySem.Calls PySem.Spec PyProof.Rows
end L2
namespace L2
open PySem PySem.Spec PyProof.Rows PySem.SeqAt
class TyA (K : PySem.W.Frag) (H : Hp) (v : V) (n : outParam String) : Prop where
  e : TyOf K H v (.type n)
section
variable {K : PySem.W.Frag} {H0 H : Hp} {M : List Addr} {L : List (Addr × HO)} {I : List Im} {v : V} {n : String} {a : Addr} {xs : List V} {b : Bool} {i lo hi : Int} {z : Str} {kvs : List (Key × V)} {Q : VK} {E : XK}
instance ty_int : TyA K H (.int i) "int" := ⟨.int i⟩
instance ty_str : TyA K H (.str z) "str" := ⟨.str z⟩
instance ty_lst [h : Hat H a (.lst xs)] : TyA K H (.ref a) "list" := ⟨.lst h.e⟩
instance ty_tup [h : Hat H a (.tup xs)] : TyA K H (.ref a) "tuple" := ⟨.tup h.e⟩
instance (priority := low) go_isI [t : TyA K H v n] : Go (rIsT K [v, .ty "int"] H Q) (Q (.bl (isIB v)) H) := ⟨fun k => w_is t.e (bt_int t.e) k⟩
instance (priority := low) go_isS [t : TyA K H v n] : Go (rIsT K [v, .ty "str"] H Q) (Q (.bl (isS v)) H) := ⟨fun k => w_is t.e (bt_str t.e) k⟩
instance (priority := low) go_isL [t : TyA K H v n] : Go (rIsT K [v, .ty "list"] H Q) (Q (.bl (n == "list")) H) := ⟨fun k => w_is t.e (bt_list t.e) k⟩
end
def EqVV (x y : V) (b : Bool) : Prop := (x = y ∧ idV x = true ∧ b = true) ∨ ∃ s t, x = .str s ∧ y = .str t ∧ b = (s == t)
theorem EqVV.at {A : Around} {s : Shared} {x y : V} {u v : Value} {b : Bool} (h : EqVV x y b) (ru : RelV x u) (rv : RelV y v) : EqAt A s u v b := by
  rcases h with ⟨rfl, hi, rfl⟩ | ⟨p, q, rfl, rfl, rfl⟩
  · exact same_eqAt hi ru rv
  · obtain ⟨t, rfl⟩ := ru
    obtain ⟨t', rfl⟩ := rv
    exact EqAt.str_str (A := A) (s := s) p t q t'
section
variable {X : Cx}
theorem eqs_at {A : Around} {s : Shared} {xs ys : List V} {us vs : List Value} {e : Nat → Bool} (ru : Vals xs us) (rv : Vals ys vs) (h : ∀ j a b, xs[j]? = some a → ys[j]? = some b → EqVV a b (e j)) (j : Nat) (h1 : j < us.toArray.size) (h2 : j < vs.toArray.size) : EqAt A s us.toArray[j] vs.toArray[j] (e j) := by
  have l1 : j < us.length := by simpa using h1
  have l2 : j < vs.length := by simpa using h2
  have l3 : j < xs.length := by rw [ru.length]; exact l1
  have l4 : j < ys.length := by rw [rv.length]; exact l2
  obtain ⟨u, eu, qu⟩ := ru.get (show xs[j]? = some xs[j] by simp)
  obtain ⟨v, ev, qv⟩ := rv.get (show ys[j]? = some ys[j] by simp)
  have z1 : us.toArray[j] = u := by
    have : us[j]? = some us[j] := by simp [l1]
    rw [this] at eu
    simpa using eu
  have z2 : vs.toArray[j] = v := by
    have : vs[j]? = some vs[j] := by simp [l2]
    rw [this] at ev
    simpa using ev
  rw [z1, z2]
  exact (h j _ _ (by simp) (by simp)).at qu qv
def rEqI (K : PySem.W.Frag) : R2 := fun x y H Q => ∃ p q xs, x = .ref p ∧ y = .ref q ∧ SqL K H p xs ∧ SqL K H q xs ∧ xs.all idV = true ∧ Q (.bl true) H
theorem op_eqI {k : Nat} (hr : Room k X.A) : OpR X (compareOp .Eq) (rEqI X.K) := by
  intro pins s σ H x y v u Q I rx ry h
  obtain ⟨p, q, xs, rfl, rfl, hp, hq, hf, qq⟩ := h
  cases rx
  cases ry
  obtain ⟨us, ru, pu, _⟩ := I.list hp
  obtain ⟨vs, rv, pw, _⟩ := I.list hq
  have hsz : us.toArray.size = vs.toArray.size := by simp [← ru.length, ← rv.length]
  have b := RcAt.lists (A := X.A) (s := s) (e := fun _ => true) pu.isList pw.isList hsz (by have := hr.un; omega) (fun j h1 h2 => eqs_at ru rv (e := fun _ => true) (fun j a b ha hb => by
    rw [ha] at hb
    cases hb
    exact .inl ⟨rfl, List.all_eq_true.mp hf _ (List.mem_of_getElem? ha), rfl⟩) j h1 h2)
  rw [show ((List.range us.toArray.size).all fun _ => true) = true by simp] at b
  exact b X.prog X.w X.xe _ ⟨.bl _, H, I, rfl, qq⟩
end
end L2
namespace L2
open PySem PySem.W PySem.Spec PyProof.Rows PySem.SeqAt
section
variable {X : Cx}
def rEqE (K : PySem.W.Frag) : R2 := fun x y H Q => ∃ p q xs, x = .ref p ∧ y = .ref q ∧ SqL K H p xs ∧ SqL K H q [] ∧ Q (.bl (decide (xs = []))) H
theorem op_eqE {k : Nat} (hr : Room k X.A) : OpR X (compareOp .Eq) (rEqE X.K) := by
  intro pins s σ H x y v u Q I rx ry h
  obtain ⟨p, q, xs, rfl, rfl, hp, hq, qq⟩ := h
  cases xs with
  | nil => exact op_eqI hr pins s σ H _ _ v u Q I rx ry ⟨p, q, [], rfl, rfl, hp, hq, rfl, qq⟩
  | cons a t =>
    cases rx
    cases ry
    obtain ⟨us, ru, pu, _⟩ := I.list hp
    obtain ⟨vs, rv, pw, _⟩ := I.list hq
    have h1 := ru.length
    have h2 := rv.length
    have b := RcAt.lists_lengths (A := X.A) (s := s) pu.isList pw.isList (by simp [← h1, ← h2]) (by have := hr.un; omega)
    exact b X.prog X.w X.xe _ ⟨.bl _, H, I, rfl, qq⟩
def rSlB : R2 := fun x y H Q => ∃ z j, x = .str z ∧ y = .int j ∧ z.length ≤ sizeLine ∧ Q (.str (Txt.slice z (some j) none)) H
def tSlB (te th : TE) : TE := fun σ H Q => te σ H fun x H1 => th σ H1 fun y H2 => rSlB x y H2 Q
theorem pe_slB {e lo : Expr} {te th : TE} {p2 pos : Pos} (he : PE X e te) (hu : PE X lo th) : PE X (.Subscript e (.Slice (some lo) none none p2) pos) (tSlB te th) := by
  intro pins s σ H Q I h
  refine Subscript_ (thn (he pins s σ H _ I h) fun v s1 ⟨x, H1, I1, r1, q1⟩ => ?_)
  refine wpAny_Slice (wpAny_evalPart_some (thn (hu pins s1 σ H1 _ I1 q1) fun vu s3 ⟨y, H3, I3, pu, z, j, e1, e2, hz, q3⟩ => wpAny_evalPart_none (wpAny_evalPart_none ?_)))
  subst e1
  subst e2
  obtain ⟨t, rfl⟩ := r1
  obtain ⟨t2, rfl⟩ := pu
  obtain ⟨Tn, id, h1, h2, h3⟩ := SBH.sliceItem_sn (prog := X.prog) (w := X.w) (A := X.A) (E := X.xe) (s := s3) (P := fun h => ∀ b o, s3.heap.get? b = some o → h.get? b = some o) (Q := EP X pins σ Q) (x := z) (t := t) (i := j) (ui := t2) (fun h ob k b o e4 => Heap.get?_push_of_some _ (k b o e4)) (fun _ _ e4 => e4) (fun h' t' k kp => ⟨.str _, H3, I3.kept kp, ⟨t', rfl⟩, q3⟩) hz
  exact tail_any (ops := [.ref s3.heap.objs.size, .str z t]) h2 h1 h3 (by with_unfolding_all rfl)
end
section
variable {K : PySem.W.Frag} {H : Hp} {Q : VK} {σ : St} {p q : Addr} {xs ys : List V} {te th : TE} {cs ds : List Nat} {j i : Int} {nms : List (List Nat)} {b : Bool} {a c : Nat}
instance go_eqE1 [h : SqA K H p xs] [h2 : Hat H q (.lst [])] : Go (rEqE K (.ref p) (.ref q) H Q) (Q (.bl (decide (xs = []))) H) := ⟨fun k => ⟨p, q, xs, rfl, rfl, h.e, SqL.of h2.e, k⟩⟩
instance go_slB : Go (tSlB te th σ H Q) (te σ H fun x H1 => th σ H1 fun y H2 => rSlB x y H2 Q) := ⟨id⟩
theorem inV_str (a : List Nat) (nms : List (List Nat)) : inV (.str (tx a)) (nms.map fun cs => V.str (tx cs)) = decide (a ∈ nms) := by
  unfold inV
  induction nms with
  | nil => simp
  | cons b t ih =>
    rw [List.map_cons, List.any_cons, ih]
    have e : eqV (.str (tx b)) (.str (tx a)) = decide (a = b) := by
      by_cases h : a = b
      · subst h
        simp [eqV]
      · rw [decide_eq_false h]
        have : tx b ≠ tx a := fun z => h (tx_inj z).symm
        simp [eqV, this]
    rw [e]
    by_cases h : a = b <;> simp [h]
instance go_inStr [h : SqA K H p (nms.map fun cs => V.str (tx cs))] : Go (rIn K false (.str (tx cs)) (.ref p) H Q) (Q (.bl (decide (cs ∈ nms))) H) := ⟨fun k => ⟨_, _, rfl, .inl h.e, rfl, List.all_eq_true.mpr (fun z hz => by obtain ⟨b, _, rfl⟩ := List.mem_map.mp hz; rfl), by rw [if_neg (by decide), inV_str]; exact k⟩⟩
end
inductive AnyK (H : Hp) : V → Prop
  | flt {v : V} (h : v = .non ∨ (∃ b, v = .bl b) ∨ (∃ i, v = .int i) ∨ ∃ z, v = .str z) : AnyK H v
  | lst {q : Addr} {xs : List V} (e : H q = some (.lst xs)) : AnyK H (.ref q)
  | tup {q : Addr} {xs : List V} (e : H q = some (.tup xs)) : AnyK H (.ref q)
theorem AnyK.ty {H : Hp} {v : V} (h : AnyK H v) (K : PySem.W.Frag) : ∃ n, TyOf K H v (.type n) := by
  cases h with
  | flt h =>
    rcases h with rfl | ⟨b, rfl⟩ | ⟨i, rfl⟩ | ⟨z, rfl⟩
    · exact ⟨_, .non⟩
    · exact ⟨_, .bl b⟩
    · exact ⟨_, .int i⟩
    · exact ⟨_, .str z⟩
  | lst e => exact ⟨_, .lst e⟩
  | tup e => exact ⟨_, .tup e⟩
theorem AnyK.id {H : Hp} {v : V} (h : AnyK H v) : idV v = true := by
  cases h with
  | flt h => rcases h with rfl | ⟨b, rfl⟩ | ⟨i, rfl⟩ | ⟨z, rfl⟩ <;> rfl
  | lst e => rfl
  | tup e => rfl
end L2
namespace L2
open PySem PySem.W PySem.Calls PySem.Spec PyProof.Rows
abbrev swBody (x : Str) (p1 p2 p3 p4 p5 p6 p7 : Pos) (j j2 j3 : Nat) : Expr := .Tuple [.Subscript (.Name x p1) (.Constant (.int 1) j p2) p3, .Subscript (.Name x p4) (.Constant (.int 0) j2 p5) p6] j3 p7
def IsLam2 (H : Hp) (f : Addr) : Prop := ∃ (qual x : Str) (params : Arguments) (p1 p2 p3 p4 p5 p6 p7 : Pos) (j j2 j3 : Nat) (scope : Scope) (pm ctv : Value) (c' : Addr) (oc : Obj) (vs : Array Value) (t : Tok),
  H f = some (.frz (PySem.W.kla_obj "<lambda>" qual params (swBody x p1 p2 p3 p4 p5 p6 p7 j j2 j3) scope [] pm c' ctv) (.own f)) ∧ H c' = some (.frz oc (.own c')) ∧ oc.data = .fields vs ∧ vs[1]? = some (.str qual t) ∧ LamScope x scope ∧
  ∀ q : Addr, bindArgs (PySem.W.kla_fn "<lambda>" qual params (swBody x p1 p2 p3 p4 p5 p6 p7 j j2 j3) scope [] pm (.ref c') ctv) ⟨[.ref q], []⟩ = pure [(x, .ref q)]
section
variable {K : PySem.W.Frag} {H0 H : Hp} {M : List Addr} {L L' : List (Addr × HO)} {I : List Im} {Q : VK} {l f P : Addr} {ys : List V} {ws : List (Nat × Nat)} {pos : Pos} {qual : Str} {ps : Array Value} {σ : St} {R : Hp → Prop}
theorem IsLam2.st : ∀ H H', Tst H H' → IsLam2 H f → IsLam2 H' f := fun H H' t h => by
  obtain ⟨a1, a2, a3, a4, a5, a6, a7, a8, a9, a10, a11, a12, a13, a14, a15, a16, a17, a18, a19, a20, e1, e2, r⟩ := h
  exact ⟨a1, a2, a3, a4, a5, a6, a7, a8, a9, a10, a11, a12, a13, a14, a15, a16, a17, a18, a19, a20, t _ _ rfl e1, t _ _ rfl e2, r⟩
end
end L2
namespace L2
open PySem PySem.W PySem.Spec PyProof.Rows
end L2
namespace L2
open PySem PySem.Spec PyProof.Rows PySem.SeqAt
abbrev flD (v : V) : PyData := pyD (flatDt v)
inductive ThD (H : Hp) : V → PyData → Prop
  | flat {v : V} (h : isFlat v = true) (z : Shm 500 1 (flD v)) : ThD H v (flD v)
  | lst {p : Addr} {vs : List V} (e : H p = some (.lst vs)) (h : ∀ v ∈ vs, isFlat v = true) (z : Shm 500 1 (.list (vs.map flD))) : ThD H (.ref p) (.list (vs.map flD))
  | tup {p : Addr} {vs : List V} (e : H p = some (.tup vs)) (h : ∀ v ∈ vs, isFlat v = true) (z : Shm 500 1 (.tuple (vs.map flD))) : ThD H (.ref p) (.tuple (vs.map flD))
  | dct {p : Addr} (e : H p = some (.dK [])) : ThD H (.ref p) (.dict [])
section
variable {H H' : Hp} {v : V} {d : PyData} {K : PySem.W.Frag}
theorem ThD.ty (h : ThD H v d) : ∃ n, TyOf K H v (.type n) := by
  cases h with
  | flat h z =>
    cases v with
    | non => exact ⟨_, .non⟩
    | bl b => exact ⟨_, .bl b⟩
    | int i => exact ⟨_, .int i⟩
    | str x => exact ⟨_, .str x⟩
    | _ => simp [isFlat] at h
  | lst e h z => exact ⟨_, .lst e⟩
  | tup e h z => exact ⟨_, .tup e⟩
  | dct e => exact ⟨_, .dK e⟩
end
section
variable {H H0 : Hp} {M : List Addr} {L : List (Addr × HO)} {I : List Im} {v : V} {d : PyData} {xs : List V} {ds : List PyData} {x : Str} {i : Int} {b : Bool} {K : PySem.W.Frag} {p : Addr} {Q : VK}
instance (priority := high) go_nesame : Go (rNe (.str x) (.str x) H Q) (Q (.bl false) H) := ⟨fun k => ⟨rfl, by simpa using k⟩⟩
instance (priority := high) go_eqsame : Go (rEq (.str x) (.str x) H Q) (Q (.bl true) H) := ⟨fun k => ⟨rfl, by simpa using k⟩⟩
end
structure Zp5 (z TI TO i1 i2 : Addr) : Prop where
  a : TI ≠ z ∧ TO ≠ z ∧ i1 ≠ z ∧ i2 ≠ z
  b : TI ≠ TO ∧ TI ≠ i1 ∧ TI ≠ i2
  c : TO ≠ i1 ∧ TO ≠ i2 ∧ i1 ≠ i2
def Itz (K : PySem.W.Frag) (a b : Addr) (xs ys : List V) : It :=
  ⟨fun i H => (SqL K H a xs ∧ SqL K H b ys) ∧ (i < xs.length ∧ i < ys.length), fun i H x H' => ∃ T u v, x = .ref T ∧ xs[i]? = some u ∧ ys[i]? = some v ∧ New H H' T (.tup [u, v]), fun i H => (SqL K H a xs ∧ SqL K H b ys) ∧ (xs.length ≤ i ∨ ys.length ≤ i)⟩
def ZpAt (z TI TO i1 i2 a b : Addr) (i : Nat) (h : Heap) : Prop := IsZip h z TI TO .none ∧ PySem.IsPair h TI (.ref i1) (.ref i2) ∧ (∃ u v, PySem.IsPair h TO u v) ∧ h.IsListIter i1 a i ∧ h.IsListIter i2 b i
section
variable {h : Heap} {z TI TO i1 i2 a b : Addr} {i : Nat}
theorem zp_apart (D : Zp5 z TI TO i1 i2) (st : ZpAt z TI TO i1 i2 a b i h) {xs ys : Array Value} (la : h.IsList a xs) (lb : h.IsList b ys) : ZipApart z TI TO i1 i2 a b := by
  obtain ⟨hz, _, ⟨u, v, hTO⟩, ⟨o1, g1, c1, _⟩, ⟨o2, g2, c2, _⟩⟩ := st
  have far : ∀ {l : Addr} {vs : Array Value} {c : Addr} {o : Obj} {n : String}, h.IsList l vs → h.get? c = some o → o.cls = .type n → n ≠ "list" → l ≠ c := fun {l vs c o n} hl hc ho hn e => by
    obtain ⟨ol, gl, cl, _⟩ := hl
    subst e
    rw [gl] at hc
    cases hc
    rw [cl] at ho
    exact hn (Value.type.inj ho).symm
  exact ⟨D.a.1, D.a.2.1, D.a.2.2.1, D.a.2.2.2, D.b.1, D.b.2.1, D.b.2.2, D.c.1, D.c.2.1, D.c.2.2,
    far la hz rfl (by decide), far la hTO rfl (by decide), far la g1 c1 (by decide), far la g2 c2 (by decide), far lb hz rfl (by decide), far lb hTO rfl (by decide), far lb g1 c1 (by decide), far lb g2 c2 (by decide)⟩
end
theorem zp_new (n : Nat) : Zp5 (n + 4) (n + 2) (n + 3) n (n + 1) := ⟨⟨fun e => absurd (show (n + 2 : Nat) = n + 4 from e) (by omega), fun e => absurd (show (n + 3 : Nat) = n + 4 from e) (by omega), fun e => absurd (show (n : Nat) = n + 4 from e) (by omega), fun e => absurd (show (n + 1 : Nat) = n + 4 from e) (by omega)⟩, ⟨fun e => absurd (show (n + 2 : Nat) = n + 3 from e) (by omega), fun e => absurd (show (n + 2 : Nat) = n from e) (by omega), fun e => absurd (show (n + 2 : Nat) = n + 1 from e) (by omega)⟩, fun e => absurd (show (n + 3 : Nat) = n from e) (by omega), fun e => absurd (show (n + 3 : Nat) = n + 1 from e) (by omega), fun e => absurd (show (n : Nat) = n + 1 from e) (by omega)⟩
theorem turn_zip {P : Program} {w : World} {K : PySem.W.Frag} {elts : List Expr} {x1} {pos : Pos} (a b z TI TO i1 i2 : Addr) (xs ys : List V) (D : Zp5 z TI TO i1 i2) :
    Turn P w K (.Tuple elts x1 pos) (Itz K a b xs ys) [z, TI, TO, i1, i2] z (ZpAt z TI TO i1 i2 a b) where
  mem := by simp
  obj := fun i h st c hc => by
    obtain ⟨hz, hI, ⟨u, v, hO⟩, ⟨o1, g1, _, d1⟩, ⟨o2, g2, _, d2⟩⟩ := st
    simp only [List.mem_cons, List.not_mem_nil, or_false] at hc
    rcases hc with rfl | rfl | rfl | rfl | rfl
    · exact ⟨_, hz, fun v e => by cases (show Data.fields _ = Data.cell v from e)⟩
    · exact ⟨_, hI, fun v e => by cases (show Data.seq _ _ = Data.cell v from e)⟩
    · exact ⟨_, hO, fun v e => by cases (show Data.seq _ _ = Data.cell v from e)⟩
    · exact ⟨o1, g1, fun v e => by rw [d1] at e; cases e⟩
    · exact ⟨o2, g2, fun v e => by rw [d2] at e; cases e⟩
  keep := fun i h h' st k => by
    obtain ⟨hz, hI, ⟨u, v, hO⟩, g1, g2⟩ := st
    exact ⟨k z (by simp) _ hz, k TI (by simp) _ hI, ⟨u, v, k TO (by simp) _ hO⟩, g1.at fun o q => k i1 (by simp) o q, g2.at fun o q => k i2 (by simp) o q⟩
  item := by
    intro X hP hw hK hc i pins s σ H E I hf st hg
    subst hP hw hK
    obtain ⟨⟨qa, qb⟩, ha, hb⟩ := hg
    obtain ⟨us, ru, pu, _⟩ := I.list qa
    obtain ⟨vs, rv, pv, _⟩ := I.list qb
    have DD := zp_apart D st pu.isList pv.isList
    obtain ⟨hz, hI, ⟨c1, c2, hO⟩, g1, g2⟩ := id st
    have hx : xs[i]? = some xs[i] := by simp [ha]
    have hy : ys[i]? = some ys[i] := by simp [hb]
    generalize xs[i] = x at hx
    generalize ys[i] = y at hy
    obtain ⟨u, hu, rx⟩ := ru.get hx
    obtain ⟨v, hv, ry⟩ := rv.get hy
    refine wpAny_pyNext_zip_item DD hz hI hO g1 g2 pu.isList pv.isList (x := u) (y := v) (by simpa using hu) (by simpa using hv) fun h1 a1 a2 a3 a4 a5 a6 hk => ?_
    refine ⟨_, rfl, wpAny_letOwnedTupleGo_zip a1 fun h2 he2 hs2 => ?_⟩
    have neT : s.heap.objs.size ≠ z := Nat.ne_of_gt (Heap.lt_size hz)
    have hT2 := (hs2.2 _ neT).trans a5
    have k2 : ∀ b o, b ∉ [z, TI, TO, i1, i2] → s.heap.get? b = some o → h2.get? b = some o := fun b o hb q => by
      simp only [List.mem_cons, List.not_mem_nil, or_false, not_or] at hb
      exact (hs2.2 b hb.1).trans (hk b o hb.1 hb.2.2.1 hb.2.2.2.1 hb.2.2.2.2 q)
    have new : ObjOk X.prog X.w (upd H s.heap.objs.size (.tup [x, y])) h2 s.heap.objs.size (.tup [x, y]) :=
      ⟨by show 2 ≤ sizeLine; decide, [u, v], .cons rx (.cons ry .nil), ⟨_, hT2, rfl, _, rfl⟩⟩
    refine ⟨.ref s.heap.objs.size, _, I.turnedLaid (t' := s.toks) hf k2 (Nat.le_refl _) new, rfl, ⟨_, x, y, rfl, hx, hy, .mk' (I.hok.fresh (Nat.le_refl _))⟩, ⟨he2, (hs2.2 TI DD.TIz).trans (hk TI _ DD.TIz DD.TITO DD.TIi1 DD.TIi2 hI), ⟨u, v, (hs2.2 TO DD.TOz).trans a2⟩, a3.at fun o q => (hs2.2 i1 DD.i1z).trans q, a4.at fun o q => (hs2.2 i2 DD.i2z).trans q⟩, fun b hb => ?_⟩
    have hbn := (hf b hb).1
    have hb' : b < s.heap.objs.size := by
      obtain ⟨o1, q1, _⟩ := g1
      obtain ⟨o2, q2, _⟩ := g2
      simp only [List.mem_cons, List.not_mem_nil, or_false] at hb
      rcases hb with rfl | rfl | rfl | rfl | rfl
      · exact Heap.lt_size hz
      · exact Heap.lt_size hI
      · exact Heap.lt_size hO
      · exact Heap.lt_size q1
      · exact Heap.lt_size q2
    rw [upd_ne (Nat.ne_of_lt hb')]
    exact hbn
  done := by
    intro X hP hw hK hc i pins s σ H E I hf st hg
    subst hP hw hK
    obtain ⟨⟨qa, qb⟩, hle⟩ := hg
    obtain ⟨us, ru, pu, _⟩ := I.list qa
    obtain ⟨vs, rv, pv, _⟩ := I.list qb
    have DD := zp_apart D st pu.isList pv.isList
    obtain ⟨hz, hI, ⟨c1, c2, hO⟩, g1, g2⟩ := id st
    have l1 := ru.length
    have l2 := rv.length
    refine wpAny_pyNext_zip_end (I.ok.hd hc) DD hz hI hO g1 g2 pu.isList pv.isList (by simp; omega) fun h' eb => ⟨rfl, I.turnedN (t' := s.toks) (ch := [z, TI, TO, i1, i2]) hf fun b o hb q => ?_⟩
    simp only [List.mem_cons, List.not_mem_nil, or_false, not_or] at hb
    exact eb b o hb.1 hb.2.2.1 hb.2.2.2.1 hb.2.2.2.2 q
  self := fun _ _ _ _ _ st h => wpAny_pyIter_zip st.1 h
theorem boot_zip : bootBuiltins "zip" = some (.type "zip") := by decide +kernel
def iZip (K : PySem.W.Frag) (ta : TA) : TI := fun σ H R => ta σ H fun vs H1 => ∃ a b xs ys, vs = [.ref a, .ref b] ∧ SqL K H1 a xs ∧ SqL K H1 b ys ∧ R (Itz K a b xs ys) H1
theorem pi_zip {X : Cx} {elts : List Expr} {x1} {tpos : Pos} {a b : Expr} {ta : TA} {p pos : Pos} (hg : Gl X "zip") (hm : X.mg "zip" = none) (ha : PA X [a, b] ta) (hs : starEach [a, b] X.env = [(false, eval a X.env), (false, eval b X.env)] := by rfl) (hs2 : starEach [b] X.env = [(false, eval b X.env)] := by rfl) :
    PI X (.Tuple elts x1 tpos) (.Call (.Name "zip" p) [a, b] [] pos) (iZip X.K ta) := by
  intro pins s σ H R I h
  refine Call_ (ld_blt I hg hm boot_zip (PyProof.Rows.callWith_type1 (thn (ha pos pins s σ H _ I h) fun us s1 ⟨vs, H1, I1, r1, q1⟩ => ?_) (by rw [hs, hs2]) (by rw [hs2]; rfl)))
  obtain ⟨l, m, xs, ys, e, hq, hq2, q⟩ := q1
  subst e
  obtain ⟨u, v, rfl, r, r2⟩ := vals2 r1
  cases r
  cases r2
  obtain ⟨its, rv, pl, hz⟩ := I1.list hq
  obtain ⟨its2, rv2, pl2, hz2⟩ := I1.list hq2
  refine call_zip_2 pl.isList pl2.isList fun h' b1 b2 b3 b4 b5 hsz hk => ?_
  have I2 : Inv X pins σ H1 { s1 with heap := h' } := I1.kept (t' := s1.toks) hk
  refine wpAny_pyIter_zip b1 ?_
  refine ⟨s1.heap.objs.size + 4, [s1.heap.objs.size + 4, s1.heap.objs.size + 2, s1.heap.objs.size + 3, s1.heap.objs.size, s1.heap.objs.size + 1], _, Itz X.K l m xs ys, H1, rfl, I2, turn_zip l m (s1.heap.objs.size + 4) (s1.heap.objs.size + 2) (s1.heap.objs.size + 3) s1.heap.objs.size (s1.heap.objs.size + 1) xs ys (zp_new _), ⟨b1, b2, ⟨_, _, b3⟩, b4, b5⟩, fun b hb => ?_, q⟩
  have hb' : s1.heap.objs.size ≤ b := by
    simp only [List.mem_cons, List.not_mem_nil, or_false] at hb
    rcases hb with rfl | rfl | rfl | rfl | rfl
    · exact Nat.le_add_right _ _
    · exact Nat.le_add_right _ _
    · exact Nat.le_add_right _ _
    · exact Nat.le_refl _
    · exact Nat.le_add_right _ _
  exact I1.fpOk hb' (I1.hok.fresh hb')
def ForZ (K : PySem.W.Frag) (a b : Addr) (xs ys : List V) (g : TG) (tb : TS) (D : Ends) (σ : St) (H : Hp) : Prop :=
    ∃ W : Nat → Nat → St → Hp → Prop, (∃ m, W 0 m σ H) ∧ ∀ i m σ H, W i m σ H →
      ((Itz K a b xs ys).stop i H ∧ D.nx σ H) ∨ ((Itz K a b xs ys).go i H ∧ ∃ N : St → Hp → Prop, (∀ σ' H', N σ' H' → ∃ m', m' < m ∧ W (i + 1) m' σ' H') ∧ ∀ x H', (Itz K a b xs ys).yld i H x H' → g x σ H' fun σ2 H2 => tb { D with nx := N, ct := N, bk := D.nx } σ2 H2)
theorem for_zip {K : PySem.W.Frag} {a b : Addr} {xs ys : List V} {g : TG} {tb : TS} {D : Ends} {σ : St} {H : Hp} (hlen : xs.length = ys.length) (Pv : Nat → St → Hp → Prop) (h0 : Pv 0 σ H) (hl : ∀ i σ H, i ≤ xs.length → Pv i σ H → SqL K H a xs ∧ SqL K H b ys)
    (hs : ∀ i x y T σ H H', xs[i]? = some x → ys[i]? = some y → Pv i σ H → New H H' T (.tup [x, y]) → g (.ref T) σ H' fun σ2 H2 => tb { D with nx := Pv (i + 1), ct := Pv (i + 1), bk := D.nx } σ2 H2) (hd : ∀ σ H, Pv xs.length σ H → D.nx σ H) :
    ForZ K a b xs ys g tb D σ H := by
  refine ⟨fun i m σ H => m = xs.length - i ∧ i ≤ xs.length ∧ Pv i σ H, ⟨xs.length, by simp, Nat.zero_le _, h0⟩, ?_⟩
  rintro i m σ H ⟨rfl, hi, p⟩
  have q := hl i σ H hi p
  by_cases hlt : i < xs.length
  · refine .inr ⟨⟨q, hlt, by omega⟩, Pv (i + 1), fun σ' H' p' => ⟨xs.length - (i + 1), by omega, rfl, hlt, p'⟩, fun x H' y => ?_⟩
    obtain ⟨T, u, v, rfl, hu, hv, n⟩ := y
    exact hs i u v T σ H H' hu hv p n
  · have e : i = xs.length := by omega
    subst e
    exact .inl ⟨⟨q, .inl (Nat.le_refl _)⟩, hd σ H p⟩
section
variable {K : PySem.W.Frag} {g : TG} {tb : TS} {D : Ends} {σ : St} {H : Hp} {tr : TA} {a b : Addr} {xs ys : List V}
instance go_forZ : Go (tFor (iZip K tr) g tb D σ H) (tr σ H fun vs H1 => ∃ a b xs ys, vs = [.ref a, .ref b] ∧ SqL K H1 a xs ∧ SqL K H1 b ys ∧ ForZ K a b xs ys g tb D σ H1) := ⟨fun h => h⟩
instance go_zby [h : SqA K H a xs] [h2 : SqA K H b ys] : Go (∃ a' b' xs' ys', [V.ref a, V.ref b] = [.ref a', .ref b'] ∧ SqL K H a' xs' ∧ SqL K H b' ys' ∧ ForZ K a' b' xs' ys' g tb D σ H) (ForZ K a b xs ys g tb D σ H) := ⟨fun k => ⟨a, b, xs, ys, rfl, h.e, h2.e, k⟩⟩
end
end L2
set_option maxHeartbeats 400000
namespace L2
open PySem PySem.Spec PyProof.Rows PySem.SeqAt
end L2
set_option maxHeartbeats 1000000
namespace L2
open PySem PySem.Spec PyProof.Rows PySem.SeqAt
def iOr (w1 w2 : TI) : TI := fun σ H R => w1 σ H R ∨ w2 σ H R
theorem pi_or {X : Cx} {tg it : Expr} {w1 w2 : TI} (h1 : PI X tg it w1) (h2 : PI X tg it w2) : PI X tg it (iOr w1 w2) := fun pins s σ H R I h => h.elim (h1 pins s σ H R I) (h2 pins s σ H R I)
section
variable {w1 w2 : TI} {nt : Nat} {fr : List Nat} {g : TG} {c : TT} {te : TE} {σ : L2.St} {H : Hp} {Q : VK}
theorem comp_inl (h : tComp w1 nt fr g c te σ H Q) : tComp (iOr w1 w2) nt fr g c te σ H Q := .inl h
theorem comp_inr (h : tComp w2 nt fr g c te σ H Q) : tComp (iOr w1 w2) nt fr g c te σ H Q := .inr h
end
mutual
def TrH (H : Hp) : Dt → V → Prop
  | .non, v => v = .non
  | .bl b, v => v = .bl b
  | .int i, v => v = .int i
  | .str x, v => v = .str x
  | .lst ds, v => ∃ p xs, v = .ref p ∧ H p = some (.lst xs) ∧ TrsH H ds xs
  | .tup ds, v => ∃ p xs, v = .ref p ∧ H p = some (.tup xs) ∧ TrsH H ds xs
def TrsH (H : Hp) : List Dt → List V → Prop
  | [], xs => xs = []
  | d :: ds, xs => ∃ x r, xs = x :: r ∧ TrH H d x ∧ TrsH H ds r
end
theorem TrsH.len {H : Hp} : ∀ {ds : List Dt} {xs : List V}, TrsH H ds xs → xs.length = ds.length
  | [], xs, h => by simp only [TrsH] at h; rw [h]; rfl
  | d :: ds, xs, h => by
    simp only [TrsH] at h
    obtain ⟨x, r, rfl, h1, h2⟩ := h
    rw [List.length_cons, List.length_cons, h2.len]
theorem TrsH.at {H : Hp} : ∀ {ds : List Dt} {xs : List V}, TrsH H ds xs → ∀ {i : Nat} {v : V}, xs[i]? = some v → ∃ d, ds[i]? = some d ∧ TrH H d v
  | [], xs, h, i, v, e => by simp only [TrsH] at h; rw [h] at e; cases e
  | d :: ds, xs, h, i, v, e => by
    simp only [TrsH] at h
    obtain ⟨x, r, rfl, h1, h2⟩ := h
    cases i with
    | zero => cases e; exact ⟨d, rfl, h1⟩
    | succ i => exact h2.at (i := i) e
theorem TrsH.of {H : Hp} : ∀ {ds : List Dt} {xs : List V}, xs.length = ds.length → (∀ (i : Nat) (v : V), xs[i]? = some v → ∃ d, ds[i]? = some d ∧ TrH H d v) → TrsH H ds xs
  | [], xs, hl, _ => by simp only [TrsH]; exact List.eq_nil_of_length_eq_zero hl
  | d :: ds, [], hl, _ => by cases hl
  | d :: ds, x :: r, hl, h => by
    simp only [TrsH]
    refine ⟨x, r, rfl, ?_, TrsH.of (by simpa using hl) fun i v e => h (i + 1) v e⟩
    obtain ⟨d', e, t⟩ := h 0 x rfl
    cases e
    exact t
mutual
def widD : Dt → Prop
  | .lst ds => ds.length ≤ 1000 ∧ widDs ds
  | .tup ds => ds.length ≤ 1000 ∧ widDs ds
  | _ => True
def widDs : List Dt → Prop
  | [] => True
  | d :: ds => widD d ∧ widDs ds
end
section
variable {H : Hp} {ds es : List Dt} {xs ys : List V}
theorem TrsH.append : ∀ {ds : List Dt} {xs : List V}, TrsH H ds xs → TrsH H es ys → TrsH H (ds ++ es) (xs ++ ys)
  | [], xs, h, h2 => by simp only [TrsH] at h; rw [h]; exact h2
  | d :: ds, xs, h, h2 => by
    simp only [TrsH] at h
    obtain ⟨x, r, rfl, a, b⟩ := h
    simp only [List.cons_append, TrsH]
    exact ⟨x, r ++ ys, rfl, a, b.append h2⟩
theorem TrsH.take (h : TrsH H ds xs) (n : Nat) : TrsH H (ds.take n) (xs.take n) := TrsH.of (by rw [List.length_take, List.length_take, h.len]) fun i v e => by
  rw [List.getElem?_take] at e ⊢
  by_cases hi : i < n
  · rw [if_pos hi] at e ⊢
    exact h.at e
  · rw [if_neg hi] at e
    cases e
theorem TrsH.one {d : Dt} {v : V} (h : TrH H d v) : TrsH H [d] [v] := by
  simp only [TrsH]
  exact ⟨v, [], rfl, h, rfl⟩
theorem TrH.flat {v : V} (h : isFlat v = true) : TrH H (flatDt v) v := by
  cases v <;> simp [isFlat] at h <;> simp [flatDt, TrH]
theorem TrH.lst {p : Addr} (h : H p = some (.lst xs)) (t : TrsH H ds xs) : TrH H (.lst ds) (.ref p) := by
  simp only [TrH]
  exact ⟨p, xs, rfl, h, t⟩
theorem TrH.tup {p : Addr} (h : H p = some (.tup xs)) (t : TrsH H ds xs) : TrH H (.tup ds) (.ref p) := by
  simp only [TrH]
  exact ⟨p, xs, rfl, h, t⟩
end
def Sm (n : Nat) (ds : List Dt) : Prop := ∀ d ∈ ds, depD d ≤ n ∧ widD d
theorem Sm.append {n : Nat} {ds es : List Dt} (h : Sm n ds) (h2 : Sm n es) : Sm n (ds ++ es) := fun d hd => (List.mem_append.mp hd).elim (h d) (h2 d)
theorem Sm.take {n : Nat} {ds : List Dt} (h : Sm n ds) (k : Nat) : Sm n (ds.take k) := fun d hd => h d (List.mem_of_mem_take hd)
theorem Sm.one {n : Nat} {d : Dt} (h : depD d ≤ n) (w : widD d) : Sm n [d] := fun e he => by rw [List.mem_singleton.mp he]; exact ⟨h, w⟩
end L2
set_option maxHeartbeats 4000000
namespace L2
open PySem PySem.Spec PyProof.Rows PySem.SeqAt
section
variable {prog : Program} {w : World} {A : Around} {E : Value → Shared → Prop} {s : Shared} {it t z TI TO i1 i2 a b : Addr} {i j : Nat} {items xs ys : Array Value} {x y u v : Value}
theorem nt_item (st : s.heap.IsTupleIter it t i) (tu : s.heap.IsTuple t items) (at_ : items[i]? = some x) {Q : Value → Shared → Prop} (k : ∀ h', h'.IsTupleIter it t (i + 1) → Heap.SameBut it s.heap h' → Q x { s with heap := h' }) :
    wpAny (model prog w) A (Builtin.SmallTypes.nextOf (.ref it)) Q E s := by
  obtain ⟨p, q1, _, m, q2⟩ := tu
  have ty := st.typeIs
  obtain ⟨o, e1, e2, e3⟩ := st
  unfold Builtin.SmallTypes.nextOf
  refine wpAny_bind (wpAny_callSpecial?_slot (name := Str.ofString "__next__") ty F.slot_tuple_iterator_next (wpAny_call_entry F.slot_tuple_iterator_next ty F.entry_tuple_iterator_next ?_ (F.args_tuple_iterator_next_1 _)))
  refine wpAny_bind (m := field (.ref it) 0) (wpAny_field e1 e3 (x := .ref t) rfl ?_)
  refine wpAny_bind (m := field (.ref it) 1) (wpAny_field e1 e3 (x := .int i 0) rfl ?_)
  refine wpAny_bind (m := seqItems? (.ref t)) (wpAny_seqItems q1 q2 ?_)
  simp only [Int.toNat_natCast, at_]
  refine wpAny_bind (wpAny_setField e1 e3 (by simp) (wpAny_pure ⟨x, rfl, wpAny_pure (k _ ⟨_, Heap.get?_update_self _ e1 (Obj.isFreed_of_fields (Obj.data_mapFields e3 _)), (Obj.cls_mapFields ..).trans e2, ?_⟩ (Heap.SameBut.update ..))⟩))
  rw [Obj.data_mapFields e3]
  simp [rawInt]
theorem nt_end (hh : A.handled = none) (st : s.heap.IsTupleIter it t i) (tu : s.heap.IsTuple t items) (at_ : items[i]? = none) {Q : Value → Shared → Prop} (k : ∀ h' e, Heap.ExtBut it s.heap h' → (∃ o, h'.get? e = some o ∧ o.cls = .type "StopIteration") → E (.ref e) { s with heap := h' }) :
    wpAny (model prog w) A (Builtin.SmallTypes.nextOf (.ref it)) Q E s := by
  obtain ⟨p, q1, _, m, q2⟩ := tu
  have ty := st.typeIs
  obtain ⟨o, e1, e2, e3⟩ := st
  unfold Builtin.SmallTypes.nextOf
  refine wpAny_bind (wpAny_callSpecial?_slot (name := Str.ofString "__next__") ty F.slot_tuple_iterator_next (wpAny_call_entry F.slot_tuple_iterator_next ty F.entry_tuple_iterator_next ?_ (F.args_tuple_iterator_next_1 _)))
  refine wpAny_bind (m := field (.ref it) 0) (wpAny_field e1 e3 (x := .ref t) rfl ?_)
  refine wpAny_bind (m := field (.ref it) 1) (wpAny_field e1 e3 (x := .int i 0) rfl ?_)
  refine wpAny_bind (m := seqItems? (.ref t)) (wpAny_seqItems q1 q2 ?_)
  simp only [Int.toNat_natCast, at_]
  refine wpAny_bind (wpAny_rule (wpAny_bind (wpAny_setField e1 e3 (by simp) ?_)))
  refine wpAny_bind (m := newExc (.type "StopIteration") []) ?_
  simp only [newExc, newTuple]
  refine wpAny_bind (wpAny_newObj_type ?_ (by size_fits))
  refine wpAny_bind (m := firstArgMember _ _) (wpAny_of_eq (a := Value.none) (by simp only [firstArgMember]; rfl) (wpAny_newObj_type ?_ (by size_fits)))
  simp only [raiseNew]
  refine wpAny_bind (wpAny_handled ?_)
  rw [show A.in1.handled = none from hh]
  exact wpAny_bind (wpAny_pure (wpAny_throw (k _ _ (((Heap.SameBut.update ..).extBut.push _).push _) ⟨_, Heap.get?_push_size _ rfl, rfl⟩)))
def ZtAt (z TI TO i1 i2 a b : Addr) (i : Nat) (h : Heap) : Prop := IsZip h z TI TO .none ∧ PySem.IsPair h TI (.ref i1) (.ref i2) ∧ (∃ u v, PySem.IsPair h TO u v) ∧ h.IsTupleIter i1 a i ∧ h.IsTupleIter i2 b i
def Zk (z TO i1 i2 : Addr) (h h' : Heap) : Prop := ∀ c o, c ≠ z → c ≠ TO → c ≠ i1 → c ≠ i2 → h.get? c = some o → h'.get? c = some o
theorem zt_item {Q : Option Value → Shared → Prop} (D : ZipApart z TI TO i1 i2 a b) (st : ZtAt z TI TO i1 i2 a b i s.heap) (ta : s.heap.IsTuple a xs) (tb : s.heap.IsTuple b ys) (hx : xs[i]? = some x) (hy : ys[i]? = some y)
    (k : ∀ h', IsZip h' z TI TO (rawInt s.heap.objs.size) → PySem.IsPair h' TO x y → h'.IsTupleIter i1 a (i + 1) → h'.IsTupleIter i2 b (i + 1) → PySem.IsPair h' s.heap.objs.size x y → Zk z TO i1 i2 s.heap h' → Q (some (.ref s.heap.objs.size)) { s with heap := h' }) :
    wpAny (model prog w) A (pyNext (.ref z)) Q E s := by
  obtain ⟨hz, hI, ⟨c1, c2, hO⟩, g1, g2⟩ := st
  have ty : s.TypeIs (.ref z) "zip" := ⟨_, hz, rfl⟩
  unfold pyNext
  refine wpAny_bind (wpAny_attempt (wpAny_callSpecial?_slot (name := Str.ofString "__next__") ty F.slot_zip_next (wpAny_call_entry F.slot_zip_next ty F.entry_zip_next ?_ (F.args_zip_next_1 _))))
  refine wpAny_bind (m := field (.ref z) 2) (wpAny_field hz rfl (x := .bool false) rfl ?_)
  refine wpAny_bind (m := field (.ref z) 3) (wpAny_field hz rfl (x := .ref TI) rfl (wpAny_bind (wpAny_seqItems hI rfl ?_)))
  refine wpAny_bind (m := Builtin.SmallTypes.ownedTupleIsFree (.ref z)) ?_
  unfold Builtin.SmallTypes.ownedTupleIsFree
  refine wpAny_bind (wpAny_field hz rfl (x := .none) rfl (wpAny_pure ?_))
  simp only [if_true]
  refine wpAny_bind (wpAny_rule (wpAny_bind (wpAny_field hz rfl (x := .ref TO) rfl (wpAny_bind (wpAny_setField_rec hz (by simp) fun h1 z1 s1 => wpAny_bind ?_)))))
  have z1 : IsZip h1 z TI TO .ellipsis := z1
  simp only [List.zipIdx_cons, List.zipIdx_nil, List.forIn_cons, List.forIn_nil]
  refine wpAny_bind (wpAny_bind (wpAny_onRaise (wpAny_bind (m := Builtin.SmallTypes.nextOf (.ref i1)) (nt_item (g1.extBut s1.extBut D.i1z) (ta.extBut s1.extBut D.l1z) hx fun h2 n2 s2 => wpAny_pure ?_))))
  have o2 : PySem.IsPair h2 TO c1 c2 := s2.extBut _ _ D.TOi1 (s1.extBut _ _ D.TOz hO)
  refine wpAny_bind (wpAny_seqItems o2 rfl (wpAny_bind (wpAny_updateSeq_pair o2 fun h3 o3 s3 => wpAny_bind (wpAny_letGo (wpAny_pure ?_)))))
  have o3 : PySem.IsPair h3 TO x c2 := o3
  refine wpAny_bind (wpAny_bind (wpAny_onRaise (wpAny_bind (m := Builtin.SmallTypes.nextOf (.ref i2)) (nt_item (((g2.extBut s1.extBut D.i2z).extBut s2.extBut D.i12.symm).extBut s3.extBut D.TOi2.symm) (((tb.extBut s1.extBut D.l2z).extBut s2.extBut D.l2i1).extBut s3.extBut D.l2TO) hy fun h4 n4 s4 => wpAny_pure ?_))))
  have o4 : PySem.IsPair h4 TO x c2 := s4.extBut _ _ D.TOi2 o3
  refine wpAny_bind (wpAny_seqItems o4 rfl (wpAny_bind (wpAny_updateSeq_pair o4 fun h5 o5 s5 => wpAny_bind (wpAny_letGo (wpAny_pure (wpAny_pure ?_))))))
  have o5 : PySem.IsPair h5 TO x y := o5
  refine wpAny_bind (wpAny_seqItems o5 rfl (wpAny_bind (wpAny_newTuple ?_)))
  have sz : h5.objs.size = s.heap.objs.size := by rw [s5.1, s4.1, s3.1, s2.1, s1.1]
  have z5 : IsZip h5 z TI TO .ellipsis := s5.extBut _ _ D.TOz.symm (s4.extBut _ _ D.i2z.symm (s3.extBut _ _ D.TOz.symm (s2.extBut _ _ D.i1z.symm z1)))
  have k5 : Zk z TO i1 i2 s.heap h5 := fun c o a1 a2 a3 a4 e => s5.extBut _ _ a2 (s4.extBut _ _ a4 (s3.extBut _ _ a2 (s2.extBut _ _ a3 (s1.extBut _ _ a1 e))))
  have m1 : h5.IsTupleIter i1 a (i + 1) := ((n2.extBut s3.extBut D.TOi1.symm).extBut s4.extBut D.i12).extBut s5.extBut D.TOi1.symm
  have m2 : h5.IsTupleIter i2 b (i + 1) := n4.extBut s5.extBut D.TOi2.symm
  have lz : z < h5.objs.size := Heap.lt_size z5
  refine wpAny_bind (m := Builtin.SmallTypes.ownedTupleHandOut (.ref z) (.ref h5.objs.size)) ?_
  unfold Builtin.SmallTypes.ownedTupleHandOut
  have z6 : IsZip (h5.push { cls := .type "tuple", data := .seq #[x, y] }) z TI TO .ellipsis := Heap.get?_push_of_some _ z5
  refine wpAny_bind (wpAny_setField_rec z6 (by simp) fun h7 z7 s7 => ?_)
  have z7 : IsZip h7 z TI TO (rawInt h5.objs.size) := z7
  refine wpAny_setField_rec z7 (by simp) fun h8 z8 s8 => wpAny_pure ⟨_, rfl, wpAny_pure ?_⟩
  have z8 : IsZip h8 z TI TO (rawInt h5.objs.size) := z8
  have up : ∀ c o, c ≠ z → h5.get? c = some o → h8.get? c = some o := fun c o h e => s8.extBut _ _ h (s7.extBut _ _ h (Heap.get?_push_of_some _ e))
  have t8 : PySem.IsPair h8 h5.objs.size x y := s8.extBut _ _ (Nat.ne_of_gt lz) (s7.extBut _ _ (Nat.ne_of_gt lz) (Heap.get?_push_size _ rfl))
  show Q (some (.ref h5.objs.size)) _
  rw [sz] at z8 t8 ⊢
  obtain ⟨p1, r1, y1⟩ := m1
  obtain ⟨p2, r2, y2⟩ := m2
  exact k h8 z8 (up _ _ D.TOz o5) ⟨p1, up _ _ D.i1z r1, y1⟩ ⟨p2, up _ _ D.i2z r2, y2⟩ t8 fun c o a1 a2 a3 a4 e => up c o a1 (k5 c o a1 a2 a3 a4 e)
theorem zt_end {Q : Option Value → Shared → Prop} (hh : A.handled = none) (D : ZipApart z TI TO i1 i2 a b) (st : ZtAt z TI TO i1 i2 a b i s.heap) (ta : s.heap.IsTuple a xs) (hx : xs[i]? = none)
    (k : ∀ h', Zk z TO i1 i2 s.heap h' → Q none { s with heap := h' }) : wpAny (model prog w) A (pyNext (.ref z)) Q E s := by
  obtain ⟨hz, hI, ⟨c1, c2, hO⟩, g1, g2⟩ := st
  have ty : s.TypeIs (.ref z) "zip" := ⟨_, hz, rfl⟩
  unfold pyNext
  refine wpAny_bind (wpAny_attempt (wpAny_callSpecial?_slot (name := Str.ofString "__next__") ty F.slot_zip_next (wpAny_call_entry F.slot_zip_next ty F.entry_zip_next ?_ (F.args_zip_next_1 _))))
  refine wpAny_bind (m := field (.ref z) 2) (wpAny_field hz rfl (x := .bool false) rfl ?_)
  refine wpAny_bind (m := field (.ref z) 3) (wpAny_field hz rfl (x := .ref TI) rfl (wpAny_bind (wpAny_seqItems hI rfl ?_)))
  refine wpAny_bind (m := Builtin.SmallTypes.ownedTupleIsFree (.ref z)) ?_
  unfold Builtin.SmallTypes.ownedTupleIsFree
  refine wpAny_bind (wpAny_field hz rfl (x := .none) rfl (wpAny_pure ?_))
  simp only [if_true]
  refine wpAny_bind (wpAny_rule (wpAny_bind (wpAny_field hz rfl (x := .ref TO) rfl (wpAny_bind (wpAny_setField_rec hz (by simp) fun h1 z1 s1 => wpAny_bind ?_)))))
  have z1 : IsZip h1 z TI TO .ellipsis := z1
  simp only [List.zipIdx_cons, List.zipIdx_nil, List.forIn_cons, List.forIn_nil]
  refine wpAny_bind (wpAny_bind (wpAny_onRaise (wpAny_bind (m := Builtin.SmallTypes.nextOf (.ref i1)) (nt_end (A := A.in1) (show A.in1.handled = none from hh) (g1.extBut s1.extBut D.i1z) (ta.extBut s1.extBut D.l1z) hx fun h2 e s2 he => ?_))))
  obtain ⟨oe, p1, p2⟩ := he
  have z2 : IsZip h2 z TI TO .ellipsis := s2 _ _ D.i1z.symm z1
  have ne : e ≠ z := fun q => by
    subst q
    rw [z2] at p1
    cases p1
    simp at p2
  refine wpAny_setField_rec z2 (by simp) fun h3 _ s3 => wpAny_bind (wpAny_isInstance (T := "StopIteration") (b := true) ⟨oe, s3.extBut _ _ ne p1, p2⟩ isSubtype_stop (wpAny_pure (k _ fun c o a1 _ a3 _ q => s3.extBut _ _ a1 (s2 _ _ a3 (s1.extBut _ _ a1 q)))))
end
section
variable {prog : Program} {w : World} {A : Around} {E : Value → Shared → Prop} {s : Shared}
def ztH (h : Heap) (a b : Addr) : Heap := ((((h.push { cls := .type "tuple_iterator", data := .fields #[.ref a, .int 0 0] }).push { cls := .type "tuple_iterator", data := .fields #[.ref b, .int 0 0] }).push { cls := .type "tuple", data := .seq #[.ref h.objs.size, .ref (h.objs.size + 1)] }).push { cls := .type "tuple", data := .seq #[.none, .none] }).push { cls := .type "zip", data := .fields #[.none, .bool false, .bool false, .ref (h.objs.size + 2), .ref (h.objs.size + 3)] }
theorem meets_zt (a b : Addr) (xs ys : Array Value) : Meets (Builtin.«zip.__new__» ⟨[.type "zip", .ref a, .ref b], []⟩) (fun _ R s => s.heap.IsTuple a xs ∧ s.heap.IsTuple b ys ∧ R (.ok (.ret (.ref (s.heap.objs.size + 4)))) { s with heap := ztH s.heap a b }) :=
  .of_wp fun prog w A R s h => by
    obtain ⟨hp, g, d, tk, os⟩ := s
    obtain ⟨ha, hb, h⟩ := h
    have hsub := sub_zip
    have e1 : Heap.IsTuple (Shared.heap ⟨hp, g, d, tk, os⟩) a xs := ha
    have e2 : Heap.IsTuple (Shared.heap ⟨hp.push { cls := .type "tuple_iterator", data := .fields #[.ref a, .int 0 0] }, g, d, tk, os⟩) b ys := hb.push _
    wp_walk using wpAny_pyIter_tuple e1, wpAny_pyIter_tuple e2
    refine ⟨_, rfl, ?_⟩
    simp only [ztH, Heap.size_push] at h ⊢
    exact h
theorem call_zt {a b : Addr} {xs ys : Array Value} {Q : Value → Shared → Prop} (ha : s.heap.IsTuple a xs) (hb : s.heap.IsTuple b ys)
    (k : ∀ h', ZtAt (s.heap.objs.size + 4) (s.heap.objs.size + 2) (s.heap.objs.size + 3) s.heap.objs.size (s.heap.objs.size + 1) a b 0 h' → (∀ c o, s.heap.get? c = some o → h'.get? c = some o) → Q (.ref (s.heap.objs.size + 4)) { s with heap := h' }) :
    wpAny (model prog w) A (call (.type "zip") [.ref a, .ref b]) Q E s := by
  refine callType_new F.called_zip (by decide) (F.typeCall_zip_2 _ _) (F.newCall_zip_2 _ _) (fun obj => F.args_object_init_3 obj _ _) F.entry_zip_new (meets_zt a b xs ys) ⟨ha, hb, ?_⟩
  have up : ∀ {h : Heap} {o p : Obj} {c : Addr}, h.get? c = some p → (h.push o).get? c = some p := fun e => Heap.get?_push_of_some _ e
  have at_ : ∀ {h : Heap} {n : Nat} {o : Obj} (_ : h.objs.size = n) (_ : o.isFreed = false), (h.push o).get? n = some o := fun e f => by subst e; exact Heap.get?_push_size _ f
  refine ⟨⟨_, at_ (by simp [Heap.size_push]) rfl, rfl⟩, k _ ⟨at_ (by simp [Heap.size_push]) rfl, up (up (at_ (by simp [Heap.size_push]) rfl)), ⟨_, _, up (at_ (by simp [Heap.size_push]) rfl)⟩, ⟨_, up (up (up (up (at_ rfl rfl)))), rfl, rfl⟩, ⟨_, up (up (up (at_ (by simp [Heap.size_push]) rfl))), rfl, rfl⟩⟩ fun c o e => up (up (up (up (up e))))⟩
end
def Itzt (a b : Addr) (xs ys : List V) : It :=
  ⟨fun i H => (H a = some (.tup xs) ∧ H b = some (.tup ys)) ∧ (i < xs.length ∧ i < ys.length), fun i H x H' => ∃ T u v, x = .ref T ∧ xs[i]? = some u ∧ ys[i]? = some v ∧ New H H' T (.tup [u, v]), fun i H => (H a = some (.tup xs) ∧ H b = some (.tup ys)) ∧ xs.length ≤ i⟩
theorem zt_apart {X : Cx} {pins : List (Addr × Obj)} {H : Hp} {z TI TO i1 i2 a b : Addr} {u v : HO} (D : Zp5 z TI TO i1 i2) (hf : ∀ c ∈ [z, TI, TO, i1, i2], FpOk X pins H c) (ha : H a = some u) (hb : H b = some v) : ZipApart z TI TO i1 i2 a b := by
  have n : ∀ c ∈ [z, TI, TO, i1, i2], H c = none := fun c hc => (hf c hc).1
  have na : ∀ c ∈ [z, TI, TO, i1, i2], a ≠ c := fun c hc e => by rw [e, n c hc] at ha; cases ha
  have nb : ∀ c ∈ [z, TI, TO, i1, i2], b ≠ c := fun c hc e => by rw [e, n c hc] at hb; cases hb
  exact ⟨D.a.1, D.a.2.1, D.a.2.2.1, D.a.2.2.2, D.b.1, D.b.2.1, D.b.2.2, D.c.1, D.c.2.1, D.c.2.2, na _ (by simp), na _ (by simp), na _ (by simp), na _ (by simp), nb _ (by simp), nb _ (by simp), nb _ (by simp), nb _ (by simp)⟩
theorem turn_zt {P : Program} {w : World} {K : PySem.W.Frag} {elts : List Expr} {x1} {pos : Pos} (a b z TI TO i1 i2 : Addr) (xs ys : List V) (D : Zp5 z TI TO i1 i2) :
    Turn P w K (.Tuple elts x1 pos) (Itzt a b xs ys) [z, TI, TO, i1, i2] z (ZtAt z TI TO i1 i2 a b) where
  mem := by simp
  obj := fun i h st c hc => by
    obtain ⟨hz, hI, ⟨u, v, hO⟩, ⟨o1, g1, _, d1⟩, ⟨o2, g2, _, d2⟩⟩ := st
    simp only [List.mem_cons, List.not_mem_nil, or_false] at hc
    rcases hc with rfl | rfl | rfl | rfl | rfl
    · exact ⟨_, hz, fun v e => by cases (show Data.fields _ = Data.cell v from e)⟩
    · exact ⟨_, hI, fun v e => by cases (show Data.seq _ _ = Data.cell v from e)⟩
    · exact ⟨_, hO, fun v e => by cases (show Data.seq _ _ = Data.cell v from e)⟩
    · exact ⟨o1, g1, fun v e => by rw [d1] at e; cases e⟩
    · exact ⟨o2, g2, fun v e => by rw [d2] at e; cases e⟩
  keep := fun i h h' st k => by
    obtain ⟨hz, hI, ⟨u, v, hO⟩, g1, g2⟩ := st
    exact ⟨k z (by simp) _ hz, k TI (by simp) _ hI, ⟨u, v, k TO (by simp) _ hO⟩, g1.at fun o q => k i1 (by simp) o q, g2.at fun o q => k i2 (by simp) o q⟩
  item := by
    intro X hP hw hK hc i pins s σ H E I hf st hg
    subst hP hw hK
    obtain ⟨⟨qa, qb⟩, ha, hb⟩ := hg
    obtain ⟨us, ru, pu, _⟩ := I.tuple (SqT.of qa)
    obtain ⟨vs, rv, pv, _⟩ := I.tuple (SqT.of qb)
    have DD := zt_apart D hf qa qb
    obtain ⟨hz, hI, ⟨c1, c2, hO⟩, g1, g2⟩ := id st
    have hx : xs[i]? = some xs[i] := by simp [ha]
    have hy : ys[i]? = some ys[i] := by simp [hb]
    generalize xs[i] = x at hx
    generalize ys[i] = y at hy
    obtain ⟨u, hu, rx⟩ := ru.get hx
    obtain ⟨v, hv, ry⟩ := rv.get hy
    refine zt_item DD st (show s.heap.IsTuple a us.toArray from pu) (show s.heap.IsTuple b vs.toArray from pv) (x := u) (y := v) (by simpa using hu) (by simpa using hv) fun h1 a1 a2 a3 a4 a5 hk => ?_
    refine ⟨_, rfl, wpAny_letOwnedTupleGo_zip a1 fun h2 he2 hs2 => ?_⟩
    have neT : s.heap.objs.size ≠ z := Nat.ne_of_gt (Heap.lt_size hz)
    have hT2 := (hs2.2 _ neT).trans a5
    have k2 : ∀ b o, b ∉ [z, TI, TO, i1, i2] → s.heap.get? b = some o → h2.get? b = some o := fun b o hb q => by
      simp only [List.mem_cons, List.not_mem_nil, or_false, not_or] at hb
      exact (hs2.2 b hb.1).trans (hk b o hb.1 hb.2.2.1 hb.2.2.2.1 hb.2.2.2.2 q)
    have new : ObjOk X.prog X.w (upd H s.heap.objs.size (.tup [x, y])) h2 s.heap.objs.size (.tup [x, y]) :=
      ⟨by show 2 ≤ sizeLine; decide, [u, v], .cons rx (.cons ry .nil), ⟨_, hT2, rfl, _, rfl⟩⟩
    refine ⟨.ref s.heap.objs.size, _, I.turnedLaid (t' := s.toks) hf k2 (Nat.le_refl _) new, rfl, ⟨_, x, y, rfl, hx, hy, .mk' (I.hok.fresh (Nat.le_refl _))⟩, ⟨he2, (hs2.2 TI DD.TIz).trans (hk TI _ DD.TIz DD.TITO DD.TIi1 DD.TIi2 hI), ⟨u, v, (hs2.2 TO DD.TOz).trans a2⟩, a3.at fun o q => (hs2.2 i1 DD.i1z).trans q, a4.at fun o q => (hs2.2 i2 DD.i2z).trans q⟩, fun b hb => ?_⟩
    have hbn := (hf b hb).1
    have hb' : b < s.heap.objs.size := by
      obtain ⟨o1, q1, _⟩ := g1
      obtain ⟨o2, q2, _⟩ := g2
      simp only [List.mem_cons, List.not_mem_nil, or_false] at hb
      rcases hb with rfl | rfl | rfl | rfl | rfl
      · exact Heap.lt_size hz
      · exact Heap.lt_size hI
      · exact Heap.lt_size hO
      · exact Heap.lt_size q1
      · exact Heap.lt_size q2
    rw [upd_ne (Nat.ne_of_lt hb')]
    exact hbn
  done := by
    intro X hP hw hK hc i pins s σ H E I hf st hg
    subst hP hw hK
    obtain ⟨⟨qa, qb⟩, hle⟩ := hg
    obtain ⟨us, ru, pu, _⟩ := I.tuple (SqT.of qa)
    have DD := zt_apart D hf qa qb
    have l1 := ru.length
    refine zt_end (I.ok.hd hc) DD st (show s.heap.IsTuple a us.toArray from pu) (by simp; omega) fun h' eb => ⟨rfl, I.turnedN (t' := s.toks) (ch := [z, TI, TO, i1, i2]) hf fun b o hb q => ?_⟩
    simp only [List.mem_cons, List.not_mem_nil, or_false, not_or] at hb
    exact eb b o hb.1 hb.2.2.1 hb.2.2.2.1 hb.2.2.2.2 q
  self := fun _ _ _ _ _ st h => wpAny_pyIter_zip st.1 h
def iZt (ta : TA) : TI := fun σ H R => ta σ H fun vs H1 => ∃ a b xs ys, vs = [.ref a, .ref b] ∧ H1 a = some (.tup xs) ∧ H1 b = some (.tup ys) ∧ R (Itzt a b xs ys) H1
theorem pi_zt {X : Cx} {elts : List Expr} {x1} {tpos : Pos} {a b : Expr} {ta : TA} {p pos : Pos} (hg : Gl X "zip") (hm : X.mg "zip" = none) (ha : PA X [a, b] ta) (hs : starEach [a, b] X.env = [(false, eval a X.env), (false, eval b X.env)] := by rfl) (hs2 : starEach [b] X.env = [(false, eval b X.env)] := by rfl) :
    PI X (.Tuple elts x1 tpos) (.Call (.Name "zip" p) [a, b] [] pos) (iZt ta) := by
  intro pins s σ H R I h
  refine Call_ (ld_blt I hg hm boot_zip (PyProof.Rows.callWith_type1 (thn (ha pos pins s σ H _ I h) fun us s1 ⟨vs, H1, I1, r1, q1⟩ => ?_) (by rw [hs, hs2]) (by rw [hs2]; rfl)))
  obtain ⟨l, m, xs, ys, e, hq, hq2, q⟩ := q1
  subst e
  obtain ⟨u, v, rfl, r, r2⟩ := vals2 r1
  cases r
  cases r2
  obtain ⟨its, rv, pl, hz⟩ := I1.tuple (SqT.of hq)
  obtain ⟨its2, rv2, pl2, hz2⟩ := I1.tuple (SqT.of hq2)
  refine call_zt (show s1.heap.IsTuple l its.toArray from pl) (show s1.heap.IsTuple m its2.toArray from pl2) fun h' b1 hk => ?_
  have I2 : Inv X pins σ H1 { s1 with heap := h' } := I1.kept (t' := s1.toks) hk
  refine wpAny_pyIter_zip b1.1 ?_
  refine ⟨s1.heap.objs.size + 4, [s1.heap.objs.size + 4, s1.heap.objs.size + 2, s1.heap.objs.size + 3, s1.heap.objs.size, s1.heap.objs.size + 1], _, Itzt l m xs ys, H1, rfl, I2, turn_zt l m (s1.heap.objs.size + 4) (s1.heap.objs.size + 2) (s1.heap.objs.size + 3) s1.heap.objs.size (s1.heap.objs.size + 1) xs ys (zp_new _), b1, fun b hb => ?_, q⟩
  have hb' : s1.heap.objs.size ≤ b := by
    simp only [List.mem_cons, List.not_mem_nil, or_false] at hb
    rcases hb with rfl | rfl | rfl | rfl | rfl
    · exact Nat.le_add_right _ _
    · exact Nat.le_add_right _ _
    · exact Nat.le_add_right _ _
    · exact Nat.le_refl _
    · exact Nat.le_add_right _ _
  exact I1.fpOk hb' (I1.hok.fresh hb')
structure ItemsZ (J : It) (xs ys : List V) (L : Hp → Prop) : Prop where
  go : ∀ i H, L H → i < xs.length → J.go i H
  yld : ∀ i H x H', L H → i < xs.length → J.yld i H x H' → ∃ T u v, x = .ref T ∧ xs[i]? = some u ∧ ys[i]? = some v ∧ New H H' T (.tup [u, v])
  stop : ∀ H, L H → J.stop xs.length H
theorem itemsZ_list {K : PySem.W.Frag} {a b : Addr} {xs ys : List V} (hn : xs.length = ys.length) : ItemsZ (Itz K a b xs ys) xs ys (fun H => SqL K H a xs ∧ SqL K H b ys) :=
  ⟨fun i H h hi => ⟨h, hi, by omega⟩, fun i H x H' h hi y => y, fun H h => ⟨h, .inl (Nat.le_refl _)⟩⟩
theorem itemsZ_tup {a b : Addr} {xs ys : List V} (hn : xs.length = ys.length) : ItemsZ (Itzt a b xs ys) xs ys (fun H => H a = some (.tup xs) ∧ H b = some (.tup ys)) :=
  ⟨fun i H h hi => ⟨h, hi, by omega⟩, fun i H x H' h hi y => y, fun H h => ⟨h, Nat.le_refl _⟩⟩
theorem comp_zipB {K : PySem.W.Frag} {J : It} {xs ys : List V} {Lk : Hp → Prop} {te : TE} {σ fvs : St} {fr : List Nat} {H : Hp} {Q : VK} {n : Nat} (f : Nat → Bool) (it : ItemsZ J xs ys Lk) (hn2 : n = 2) (hz : xs.length ≤ 1000000) (hf : (fr.map fun i => (σ[i]?).getD none) = fvs) (hL : ∀ H', Same H H' → Lk H')
    (turn : ∀ (i : Nat) (u v : V) (H' : Hp) (R : VK), xs[i]? = some u → ys[i]? = some v → Same H H' → (∀ H2, Same H' H2 → R (.bl (f i)) H2) → te (some u :: some v :: fvs) H' R)
    (k : ∀ p H', New H H' p (.lst (((List.range xs.length).map f).map V.bl)) → Q (.ref p) H') : CompAll J 2 fr (gTup K n (gCons (gName 0) (gCons (gName 1) gNil))) tTrue te σ H Q := by
  intro acc hacc
  subst hf hn2
  have nacc : ∀ b u, H b = some u → b ≠ acc := fun b u e => ne_of_none e hacc
  refine ⟨fun i m σ' zs H' => m = xs.length - i ∧ i ≤ xs.length ∧ (H' acc = some (.lst zs) ∧ Same H H' ∧ zs = ((List.range i).map f).map V.bl) ∧ ∃ tv : List (Option V), tv.length = 2 ∧ σ' = tv ++ fr.map fun i => (σ[i]?).getD none, ⟨xs.length, by simp, Nat.zero_le _, ⟨upd_same, Same.new hacc, rfl⟩, List.replicate 2 none, by simp, rfl⟩, ?_⟩
  rintro i m σ' zs H' ⟨rfl, hi, ⟨ha, hs, hzs⟩, tv, htv, rfl⟩
  refine ⟨ha, ?_⟩
  have l := hL H' hs
  by_cases hlt : i < xs.length
  · refine .inr ⟨it.go i H' l hlt, fun x H2 y => ?_⟩
    obtain ⟨T, u, v, rfl, hu, hv, nw⟩ := it.yld i H' x H2 l hlt y
    obtain ⟨t0, t1, rfl⟩ : ∃ a b, tv = [a, b] := by
      match tv, htv with
      | [a, b], _ => exact ⟨a, b, rfl⟩
    refine w_tup2 (SqT.of nw.e) ?_
    show te (some u :: some v :: fr.map fun i => (σ[i]?).getD none) H2 _
    refine turn i u v H2 _ hu hv (hs.trans nw.s) fun H3 s3 => ⟨?_, s3 _ _ (nw.s _ _ ha), xs.length - (i + 1), by omega, rfl, hlt, ⟨upd_same, fun b u e => ?_, ?_⟩, [some u, some v], rfl, rfl⟩
    · rw [hzs, List.length_map, List.length_map, List.length_range]
      exact Nat.lt_of_lt_of_le hlt (small_line hz)
    · rw [upd_ne (nacc b u e)]
      exact s3 _ _ (nw.s _ _ (hs _ _ e))
    · rw [hzs, List.range_succ, List.map_append, List.map_append]
      rfl
  · have e : i = xs.length := by omega
    subst e
    subst hzs
    exact .inl ⟨it.stop H' l, k acc H' ⟨hs, ha, nacc⟩⟩
section
variable {K : PySem.W.Frag} {te : TE} {g : TG} {c : TT} {σ : St} {H : Hp} {Q : VK} {tr : TA} {a b : Addr} {xs ys : List V} {nt : Nat} {fr : List Nat}
instance go_compZ : Go (tComp (iZip K tr) nt fr g c te σ H Q) (tr σ H fun vs H1 => ∃ a b xs ys, vs = [.ref a, .ref b] ∧ SqL K H1 a xs ∧ SqL K H1 b ys ∧ CompAll (Itz K a b xs ys) nt fr g c te σ H1 Q) := ⟨id⟩
instance go_compZt : Go (tComp (iZt tr) nt fr g c te σ H Q) (tr σ H fun vs H1 => ∃ a b xs ys, vs = [.ref a, .ref b] ∧ H1 a = some (.tup xs) ∧ H1 b = some (.tup ys) ∧ CompAll (Itzt a b xs ys) nt fr g c te σ H1 Q) := ⟨id⟩
instance go_zlby [h : SqA K H a xs] [h2 : SqA K H b ys] : Go (∃ a' b' xs' ys', [V.ref a, V.ref b] = [.ref a', .ref b'] ∧ SqL K H a' xs' ∧ SqL K H b' ys' ∧ CompAll (Itz K a' b' xs' ys') nt fr g c te σ H Q) (CompAll (Itz K a b xs ys) nt fr g c te σ H Q) := ⟨fun k => ⟨a, b, xs, ys, rfl, h.e, h2.e, k⟩⟩
instance go_ztby [h : Hat H a (.tup xs)] [h2 : Hat H b (.tup ys)] : Go (∃ a' b' xs' ys', [V.ref a, V.ref b] = [.ref a', .ref b'] ∧ H a' = some (.tup xs') ∧ H b' = some (.tup ys') ∧ CompAll (Itzt a' b' xs' ys') nt fr g c te σ H Q) (CompAll (Itzt a b xs ys) nt fr g c te σ H Q) := ⟨fun k => ⟨a, b, xs, ys, rfl, h.e, h2.e, k⟩⟩
end
end L2
namespace L2
open PySem PySem.W PySem.Spec PyProof.Rows
def ForT (K : PySem.W.Frag) (a : Addr) (g : TG) (tb : TS) (D : Ends) (σ : St) (H : Hp) : Prop := ∃ W : Nat → Nat → St → Hp → Prop, (∃ m, W 0 m σ H) ∧ ∀ i m σ H, W i m σ H →
  ((Itt K a).stop i H ∧ D.nx σ H) ∨ ((Itt K a).go i H ∧ ∃ N : St → Hp → Prop, (∀ σ' H', N σ' H' → ∃ m', m' < m ∧ W (i + 1) m' σ' H') ∧ ∀ x H', (Itt K a).yld i H x H' → g x σ H' fun σ2 H2 => tb { D with nx := N, ct := N, bk := D.nx } σ2 H2)
theorem forT_by {K : PySem.W.Frag} {a : Addr} {xs : List V} {g : TG} {tb : TS} {D : Ends} {σ : St} {H : Hp} (Pv : Nat → St → Hp → Prop) (h0 : Pv 0 σ H) (hl : ∀ i σ H, i ≤ xs.length → Pv i σ H → SqT K H a xs)
    (hs : ∀ i x σ H, xs[i]? = some x → Pv i σ H → g x σ H fun σ2 H2 => tb { D with nx := Pv (i + 1), ct := Pv (i + 1), bk := D.nx } σ2 H2) (hd : ∀ σ H, Pv xs.length σ H → D.nx σ H) : ForT K a g tb D σ H := for_tup Pv h0 hl hs hd
instance go_forT {K : PySem.W.Frag} {te : TE} {g : TG} {tb : TS} {D : Ends} {σ : St} {H : Hp} : Go (tFor (iTup K te) g tb D σ H) (te σ H fun x H1 => ∃ a, x = .ref a ∧ (∃ xs, SqT K H1 a xs) ∧ ForT K a g tb D σ H1) := ⟨fun h => h⟩
instance go_forTa {K : PySem.W.Frag} {g : TG} {tb : TS} {D : Ends} {σ : St} {H : Hp} {l : Addr} {xs : List V} [h : Hat H l (.tup xs)] : Go (∃ a, V.ref l = .ref a ∧ (∃ xs, SqT K H a xs) ∧ ForT K a g tb D σ H) (ForT K l g tb D σ H) := ⟨fun k => ⟨l, rfl, ⟨xs, SqT.of h.e⟩, k⟩⟩
end L2
namespace L2
open PySem PySem.Spec PyProof.Rows PySem.SeqAt
section
variable {X : Cx} {K : PySem.W.Frag} {H : Hp} {Q : VK} {p l : Addr} {nms : List (List Nat)} {cs : List Nat}
instance go_tupL {xs : List V} [h : Hat H p (.lst xs)] : Go (rTOfA K [.ref p] H Q) (∀ l H', New H H' l (.tup xs) → Q (.ref l) H') := ⟨fun k => ⟨p, xs, rfl, .inl ⟨.of h.e, k⟩⟩⟩
end
def hsR (qs : List Addr) (T : List (List V)) : List (Addr × HO) := (qs.zip T).map fun x => (x.1, HO.lst x.2)
theorem hsR_snoc {qs : List Addr} {T : List (List V)} (h : qs.length = T.length) (q : Addr) (r : List V) : hsR (qs ++ [q]) (T ++ [r]) = hsR qs T ++ [(q, .lst r)] := by
  unfold hsR
  rw [List.zip_append h, List.map_append]
  rfl
theorem hsR_at {qs : List Addr} {T : List (List V)} {i : Nat} {q : Addr} {r : List V} (h1 : qs[i]? = some q) (h2 : T[i]? = some r) : (q, HO.lst r) ∈ hsR qs T := by
  refine List.mem_map.mpr ⟨(q, r), ?_, rfl⟩
  refine List.mem_of_getElem? (i := i) ?_
  rw [List.getElem?_zip_eq_some]
  exact ⟨h1, h2⟩
end L2
namespace L2
open PySem PySem.Spec PyProof.Rows
section
variable {X : Cx} {pins : List (Addr × Obj)} {σ : St} {H : Hp} {s : Shared} {b : Addr}
theorem FpOk.to {H' : Hp} (f : FpOk X pins H b) (h : H' b = none) : FpOk X pins H' b := ⟨h, f.2⟩
end
section
variable {X : Cx} {H : Hp} {Q : VK} {w : List Nat}
def valF (w : List Nat) : Nat := w.foldl (fun a c => a * 10 + (c - 48)) 0
def rIntF : List V → Hp → VK → Prop := fun xs H Q => ∃ w : List Nat, xs = [.str (tx w)] ∧ (w.all isFig = true ∧ 1 ≤ w.length ∧ w.length ≤ 640) ∧ Q (.int (valF w : Nat)) H
theorem call_intF : CallR X (.type "int") rIntF := by
  intro pins s σ H xs us Q I r h
  obtain ⟨w, rfl, ⟨ha, h1, h2⟩, q⟩ := h
  obtain ⟨u, rfl, r1⟩ := vals1 r
  obtain ⟨t, rfl⟩ := r1
  have e : PySem.intText? (tx w) = some ((valF w : Nat) : Int) := by
    have d : PySem.NumText.AllDigits (tx w).cps.toList := fun c hc => by
      rw [tx_cps] at hc
      have := List.all_eq_true.mp ha c hc
      unfold isFig at this
      simp only [Bool.and_eq_true, decide_eq_true_eq] at this
      exact this
    have n : (tx w).cps.toList ≠ [] := fun z => by rw [tx_cps] at z; rw [z] at h1; simp at h1
    have := PySem.intText_digits d n (by rw [tx_len]; omega)
    rw [tx_cps] at this
    exact this
  exact PySem.W.KIN.call_text e (by rw [tx_len]; exact h2) ⟨.int (valF w : Nat), H, I.tok _, ⟨_, rfl⟩, q⟩
instance go_intF : Go (rIntF [.str (tx w)] H Q) (Sd (w.all isFig = true ∧ 1 ≤ w.length ∧ w.length ≤ 640) (Q (.int (valF w : Nat)) H)) := ⟨fun s => ⟨w, rfl, s.1, s.2⟩⟩
end
end L2
namespace M22
end M22
set_option maxHeartbeats 1000000
namespace L2
open PySem PySem.Spec PyProof.Rows PySem.SeqAt PySem.Builtin PySem.Builtin.Str
section
variable {X : Cx}
def rStart : V → List V → Hp → VK → Prop := fun x xs H Q => ∃ a b : PySem.Str, x = .str a ∧ xs = [.str b] ∧ Q (.bl (decide (0 + b.length ≤ a.length) && subAt a b 0)) H
theorem mt_start : MtR X "str.startswith" rStart := by
  intro pins s σ H x xs v us Q I rx rs h
  obtain ⟨a, b, rfl, rfl, q⟩ := h
  obtain ⟨t, rfl⟩ := rx
  obtain ⟨u, rfl, r1⟩ := vals1 rs
  obtain ⟨t2, rfl⟩ := r1
  refine call_meets PySem.F.slot_str_startswith (typeIs_str _ _ _) PySem.F.entry_str_startswith (PySem.F.args_str_startswith_2 _ _) (PySem.gives_str_startswith a b t t2).meets ?_
  exact ⟨.bl _, H, I, rfl, q⟩
theorem pe_start {o e : Expr} {to te : TE} {apos cpos : Pos} (ho : PE X o to) (he : PE X e te) (hb : attributeBase o "startswith" X.env (eval o X.env) = eval o X.env := by rfl)
    (hw : ((backTo cpos (starEach [e] X.env)).all (fun z => !z.1) && (backToKw cpos (keywordEach [] X.env)).all (fun z => z.1.isSome) && decide (([e] : List Expr).length + ([] : List Keyword).length + (if ([] : List Keyword).isEmpty then 0 else 1) < 30)) = true := by rfl)
    (hl : (apos.endLine == cpos.line) = true := by rfl) (hs : starEach [e] X.env = (false, eval e X.env) :: starEach [] X.env := by rfl) :
    PE X (.Call (.Attribute o "startswith" apos) [e] [] cpos) (tBM X.K "str" rStart to (tCons te tNil)) :=
  pe_bm PySem.F.plainAttrs_str PySem.F.slot_str_startswith PySem.F.type_str_startswith mt_start ho (pa_cons he pa_nil hs) hb hw hl hs (by rfl)
end
end L2
namespace L2
open PySem PySem.Spec PyProof.Rows PySem.SeqAt
def DicK (prog : Program) (w : World) (K : PySem.W.Frag) (a : Addr) (kvs : List (Key × V)) : Prop :=
  (a == sysModules) = false ∧ ∃ o es ep vs, K.lookup a = some o ∧ o.ExactDict ∧ o.data = .dict es ep ∧ KeysOf (mixKind prog w) es ∧ Pairs (mixKind prog w) es.toList vs ∧ (vs.map (·.1)).Nodup ∧ KV kvs vs
section
variable {X : Cx} {a : Addr} {kvs : List (Key × V)}
theorem DicK.at {pins : List (Addr × Obj)} {σ : St} {H : Hp} {s : Shared} (d : DicK X.prog X.w X.K a kvs) (I : Inv X pins σ H s) : ∃ vs, KV kvs vs ∧ s.heap.DictOf (mixKind X.prog X.w) a vs := by
  obtain ⟨_, o, es, ep, vs, h1, h2, h3, h4, h5, h6, h7⟩ := d
  exact ⟨vs, h7, o, es, ep, I.kIn _ _ h1, h2, h3, h4, h5, h6⟩
def rInD (kvs : List (Key × V)) (a : Addr) : R2 := fun x y H Q => ∃ k : Key, x = kV k ∧ y = .ref a ∧ Q (.bl (valV kvs k).isSome) H
theorem op_inD (d : DicK X.prog X.w X.K a kvs) : OpR X (compareOp .In) (rInD kvs a) := by
  intro pins s σ H x y v u Q I rx ry h
  obtain ⟨k, rfl, rfl, q⟩ := h
  cases ry
  obtain ⟨vs, rel, dd⟩ := d.at I
  refine wpAny_in_of (kV_is rx) d.1 dd.mapOf ?_
  rw [← (rel.val k).isSome_eq]
  exact ⟨.bl _, H, I.tok _, rfl, q⟩
def rIxD (kvs : List (Key × V)) (a : Addr) : R2 := fun x y H Q => ∃ (k : Key) (v : V), x = .ref a ∧ y = kV k ∧ valV kvs k = some v ∧ Q v H
theorem pe_dgetK {o i : Expr} {td ty : TE} {pos : Pos} (d : DicK X.prog X.w X.K a kvs) (ho : PE X o td) (hi : PE X i ty) (hs : NoSl i) : PE X (.Subscript o i pos) (tOp (rIxD kvs a) td ty) := by
  intro pins s σ H Q I h
  refine subD_of PySem.F.slot_dict_getitem.lookup hs (thn (ho pins s σ H _ I h) fun u s1 ⟨x, H1, I1, rx, q1⟩ => thn (hi pins s1 σ H1 _ I1 q1) fun iv s2 ⟨y, H2, I2, ry, k, z, ex, ey, l, q2⟩ => ?_)
  subst ex ey
  obtain rfl : u = Value.ref a := rx
  obtain ⟨vs, rel, dd⟩ := d.at I2
  obtain ⟨w', hw, rw'⟩ := RelO.some_of (v := z) (o := valueAt vs k) (by rw [← l]; exact rel.val k)
  exact ⟨dd.typeIs, wpAny_getItem_of (kV_is ry) dd.mapOf hw ⟨z, H2, I2.tok _, rw', q2⟩⟩
section
variable {H : Hp} {Q : VK} {k : Key} {v : V}
instance go_inD {x : Str} : Go (rInD kvs a (.str x) (.ref a) H Q) (Q (.bl (valV kvs (.inr x)).isSome) H) := ⟨fun q => ⟨.inr x, rfl, rfl, q⟩⟩
class ValK (kvs : List (Key × V)) (k : Key) (v : outParam V) : Prop where
  e : valV kvs k = some v
instance go_ixD {x : Str} [h : ValK kvs (.inr x) v] : Go (rIxD kvs a (.ref a) (.str x) H Q) (Q v H) := ⟨fun q => ⟨.inr x, v, rfl, rfl, h.e, q⟩⟩
end
end
end L2
set_option maxHeartbeats 4000000
namespace L2
open PySem PySem.Spec PyProof.Rows PySem.SeqAt
section
variable {prog : Program} {w : World} {A : Around} {E : Value → Shared → Prop} {s : Shared} {it t z TI TO i1 i2 a b : Addr} {i j : Nat} {items xs ys : Array Value} {x y u v : Value}
def ZmAt (z TI TO i1 i2 a b : Addr) (i : Nat) (h : Heap) : Prop := IsZip h z TI TO .none ∧ PySem.IsPair h TI (.ref i1) (.ref i2) ∧ (∃ u v, PySem.IsPair h TO u v) ∧ h.IsTupleIter i1 a i ∧ h.IsListIter i2 b i
theorem zm_item {Q : Option Value → Shared → Prop} (D : ZipApart z TI TO i1 i2 a b) (st : ZmAt z TI TO i1 i2 a b i s.heap) (ta : s.heap.IsTuple a xs) (tb : s.heap.IsList b ys) (hx : xs[i]? = some x) (hy : ys[i]? = some y)
    (k : ∀ h', IsZip h' z TI TO (rawInt s.heap.objs.size) → PySem.IsPair h' TO x y → h'.IsTupleIter i1 a (i + 1) → h'.IsListIter i2 b (i + 1) → PySem.IsPair h' s.heap.objs.size x y → Zk z TO i1 i2 s.heap h' → Q (some (.ref s.heap.objs.size)) { s with heap := h' }) :
    wpAny (model prog w) A (pyNext (.ref z)) Q E s := by
  obtain ⟨hz, hI, ⟨c1, c2, hO⟩, g1, g2⟩ := st
  have ty : s.TypeIs (.ref z) "zip" := ⟨_, hz, rfl⟩
  unfold pyNext
  refine wpAny_bind (wpAny_attempt (wpAny_callSpecial?_slot (name := Str.ofString "__next__") ty F.slot_zip_next (wpAny_call_entry F.slot_zip_next ty F.entry_zip_next ?_ (F.args_zip_next_1 _))))
  refine wpAny_bind (m := field (.ref z) 2) (wpAny_field hz rfl (x := .bool false) rfl ?_)
  refine wpAny_bind (m := field (.ref z) 3) (wpAny_field hz rfl (x := .ref TI) rfl (wpAny_bind (wpAny_seqItems hI rfl ?_)))
  refine wpAny_bind (m := Builtin.SmallTypes.ownedTupleIsFree (.ref z)) ?_
  unfold Builtin.SmallTypes.ownedTupleIsFree
  refine wpAny_bind (wpAny_field hz rfl (x := .none) rfl (wpAny_pure ?_))
  simp only [if_true]
  refine wpAny_bind (wpAny_rule (wpAny_bind (wpAny_field hz rfl (x := .ref TO) rfl (wpAny_bind (wpAny_setField_rec hz (by simp) fun h1 z1 s1 => wpAny_bind ?_)))))
  have z1 : IsZip h1 z TI TO .ellipsis := z1
  simp only [List.zipIdx_cons, List.zipIdx_nil, List.forIn_cons, List.forIn_nil]
  refine wpAny_bind (wpAny_bind (wpAny_onRaise (wpAny_bind (m := Builtin.SmallTypes.nextOf (.ref i1)) (nt_item (g1.extBut s1.extBut D.i1z) (ta.extBut s1.extBut D.l1z) hx fun h2 n2 s2 => wpAny_pure ?_))))
  have o2 : PySem.IsPair h2 TO c1 c2 := s2.extBut _ _ D.TOi1 (s1.extBut _ _ D.TOz hO)
  refine wpAny_bind (wpAny_seqItems o2 rfl (wpAny_bind (wpAny_updateSeq_pair o2 fun h3 o3 s3 => wpAny_bind (wpAny_letGo (wpAny_pure ?_)))))
  have o3 : PySem.IsPair h3 TO x c2 := o3
  refine wpAny_bind (wpAny_bind (wpAny_onRaise (wpAny_bind (m := Builtin.SmallTypes.nextOf (.ref i2)) (wpAny_nextOf_list_item (g2.at fun o q => s3.extBut _ _ D.TOi2.symm (s2.extBut _ _ D.i12.symm (s1.extBut _ _ D.i2z q))) (let ⟨o, q, r⟩ := tb; ⟨o, s3.extBut _ _ D.l2TO (s2.extBut _ _ D.l2i1 (s1.extBut _ _ D.l2z q)), r⟩) hy fun h4 n4 s4 => wpAny_pure ?_))))
  have o4 : PySem.IsPair h4 TO x c2 := s4.extBut _ _ D.TOi2 o3
  refine wpAny_bind (wpAny_seqItems o4 rfl (wpAny_bind (wpAny_updateSeq_pair o4 fun h5 o5 s5 => wpAny_bind (wpAny_letGo (wpAny_pure (wpAny_pure ?_))))))
  have o5 : PySem.IsPair h5 TO x y := o5
  refine wpAny_bind (wpAny_seqItems o5 rfl (wpAny_bind (wpAny_newTuple ?_)))
  have sz : h5.objs.size = s.heap.objs.size := by rw [s5.1, s4.1, s3.1, s2.1, s1.1]
  have z5 : IsZip h5 z TI TO .ellipsis := s5.extBut _ _ D.TOz.symm (s4.extBut _ _ D.i2z.symm (s3.extBut _ _ D.TOz.symm (s2.extBut _ _ D.i1z.symm z1)))
  have k5 : Zk z TO i1 i2 s.heap h5 := fun c o a1 a2 a3 a4 e => s5.extBut _ _ a2 (s4.extBut _ _ a4 (s3.extBut _ _ a2 (s2.extBut _ _ a3 (s1.extBut _ _ a1 e))))
  have m1 : h5.IsTupleIter i1 a (i + 1) := ((n2.extBut s3.extBut D.TOi1.symm).extBut s4.extBut D.i12).extBut s5.extBut D.TOi1.symm
  have m2 : h5.IsListIter i2 b (i + 1) := n4.at fun o q => s5.extBut _ _ D.TOi2.symm q
  have lz : z < h5.objs.size := Heap.lt_size z5
  refine wpAny_bind (m := Builtin.SmallTypes.ownedTupleHandOut (.ref z) (.ref h5.objs.size)) ?_
  unfold Builtin.SmallTypes.ownedTupleHandOut
  have z6 : IsZip (h5.push { cls := .type "tuple", data := .seq #[x, y] }) z TI TO .ellipsis := Heap.get?_push_of_some _ z5
  refine wpAny_bind (wpAny_setField_rec z6 (by simp) fun h7 z7 s7 => ?_)
  have z7 : IsZip h7 z TI TO (rawInt h5.objs.size) := z7
  refine wpAny_setField_rec z7 (by simp) fun h8 z8 s8 => wpAny_pure ⟨_, rfl, wpAny_pure ?_⟩
  have z8 : IsZip h8 z TI TO (rawInt h5.objs.size) := z8
  have up : ∀ c o, c ≠ z → h5.get? c = some o → h8.get? c = some o := fun c o h e => s8.extBut _ _ h (s7.extBut _ _ h (Heap.get?_push_of_some _ e))
  have t8 : PySem.IsPair h8 h5.objs.size x y := s8.extBut _ _ (Nat.ne_of_gt lz) (s7.extBut _ _ (Nat.ne_of_gt lz) (Heap.get?_push_size _ rfl))
  show Q (some (.ref h5.objs.size)) _
  rw [sz] at z8 t8 ⊢
  obtain ⟨p1, r1, y1⟩ := m1
  obtain ⟨p2, r2, y2⟩ := m2
  exact k h8 z8 (up _ _ D.TOz o5) ⟨p1, up _ _ D.i1z r1, y1⟩ ⟨p2, up _ _ D.i2z r2, y2⟩ t8 fun c o a1 a2 a3 a4 e => up c o a1 (k5 c o a1 a2 a3 a4 e)
theorem zm_end {Q : Option Value → Shared → Prop} (hh : A.handled = none) (D : ZipApart z TI TO i1 i2 a b) (st : ZmAt z TI TO i1 i2 a b i s.heap) (ta : s.heap.IsTuple a xs) (hx : xs[i]? = none)
    (k : ∀ h', Zk z TO i1 i2 s.heap h' → Q none { s with heap := h' }) : wpAny (model prog w) A (pyNext (.ref z)) Q E s := by
  obtain ⟨hz, hI, ⟨c1, c2, hO⟩, g1, g2⟩ := st
  have ty : s.TypeIs (.ref z) "zip" := ⟨_, hz, rfl⟩
  unfold pyNext
  refine wpAny_bind (wpAny_attempt (wpAny_callSpecial?_slot (name := Str.ofString "__next__") ty F.slot_zip_next (wpAny_call_entry F.slot_zip_next ty F.entry_zip_next ?_ (F.args_zip_next_1 _))))
  refine wpAny_bind (m := field (.ref z) 2) (wpAny_field hz rfl (x := .bool false) rfl ?_)
  refine wpAny_bind (m := field (.ref z) 3) (wpAny_field hz rfl (x := .ref TI) rfl (wpAny_bind (wpAny_seqItems hI rfl ?_)))
  refine wpAny_bind (m := Builtin.SmallTypes.ownedTupleIsFree (.ref z)) ?_
  unfold Builtin.SmallTypes.ownedTupleIsFree
  refine wpAny_bind (wpAny_field hz rfl (x := .none) rfl (wpAny_pure ?_))
  simp only [if_true]
  refine wpAny_bind (wpAny_rule (wpAny_bind (wpAny_field hz rfl (x := .ref TO) rfl (wpAny_bind (wpAny_setField_rec hz (by simp) fun h1 z1 s1 => wpAny_bind ?_)))))
  have z1 : IsZip h1 z TI TO .ellipsis := z1
  simp only [List.zipIdx_cons, List.zipIdx_nil, List.forIn_cons, List.forIn_nil]
  refine wpAny_bind (wpAny_bind (wpAny_onRaise (wpAny_bind (m := Builtin.SmallTypes.nextOf (.ref i1)) (nt_end (A := A.in1) (show A.in1.handled = none from hh) (g1.extBut s1.extBut D.i1z) (ta.extBut s1.extBut D.l1z) hx fun h2 e s2 he => ?_))))
  obtain ⟨oe, p1, p2⟩ := he
  have z2 : IsZip h2 z TI TO .ellipsis := s2 _ _ D.i1z.symm z1
  have ne : e ≠ z := fun q => by
    subst q
    rw [z2] at p1
    cases p1
    simp at p2
  refine wpAny_setField_rec z2 (by simp) fun h3 _ s3 => wpAny_bind (wpAny_isInstance (T := "StopIteration") (b := true) ⟨oe, s3.extBut _ _ ne p1, p2⟩ isSubtype_stop (wpAny_pure (k _ fun c o a1 _ a3 _ q => s3.extBut _ _ a1 (s2 _ _ a3 (s1.extBut _ _ a1 q)))))
end
section
variable {prog : Program} {w : World} {A : Around} {E : Value → Shared → Prop} {s : Shared}
def zmH (h : Heap) (a b : Addr) : Heap := ((((h.push { cls := .type "tuple_iterator", data := .fields #[.ref a, .int 0 0] }).push { cls := .type "list_iterator", data := .fields #[.ref b, .int 0 0] }).push { cls := .type "tuple", data := .seq #[.ref h.objs.size, .ref (h.objs.size + 1)] }).push { cls := .type "tuple", data := .seq #[.none, .none] }).push { cls := .type "zip", data := .fields #[.none, .bool false, .bool false, .ref (h.objs.size + 2), .ref (h.objs.size + 3)] }
theorem meets_zm (a b : Addr) (xs ys : Array Value) : Meets (Builtin.«zip.__new__» ⟨[.type "zip", .ref a, .ref b], []⟩) (fun _ R s => s.heap.IsTuple a xs ∧ s.heap.IsList b ys ∧ R (.ok (.ret (.ref (s.heap.objs.size + 4)))) { s with heap := zmH s.heap a b }) :=
  .of_wp fun prog w A R s h => by
    obtain ⟨hp, g, d, tk, os⟩ := s
    obtain ⟨ha, hb, h⟩ := h
    have hsub := sub_zip
    have e1 : Heap.IsTuple (Shared.heap ⟨hp, g, d, tk, os⟩) a xs := ha
    have e2 : Heap.IsList (Shared.heap ⟨hp.push { cls := .type "tuple_iterator", data := .fields #[.ref a, .int 0 0] }, g, d, tk, os⟩) b ys := let ⟨o, q, r⟩ := hb; ⟨o, Heap.get?_push_of_some _ q, r⟩
    wp_walk using wpAny_pyIter_tuple e1, wpAny_pyIter_list e2
    refine ⟨_, rfl, ?_⟩
    simp only [zmH, Heap.size_push] at h ⊢
    exact h
theorem call_zm {a b : Addr} {xs ys : Array Value} {Q : Value → Shared → Prop} (ha : s.heap.IsTuple a xs) (hb : s.heap.IsList b ys)
    (k : ∀ h', ZmAt (s.heap.objs.size + 4) (s.heap.objs.size + 2) (s.heap.objs.size + 3) s.heap.objs.size (s.heap.objs.size + 1) a b 0 h' → (∀ c o, s.heap.get? c = some o → h'.get? c = some o) → Q (.ref (s.heap.objs.size + 4)) { s with heap := h' }) :
    wpAny (model prog w) A (call (.type "zip") [.ref a, .ref b]) Q E s := by
  refine callType_new F.called_zip (by decide) (F.typeCall_zip_2 _ _) (F.newCall_zip_2 _ _) (fun obj => F.args_object_init_3 obj _ _) F.entry_zip_new (meets_zm a b xs ys) ⟨ha, hb, ?_⟩
  have up : ∀ {h : Heap} {o p : Obj} {c : Addr}, h.get? c = some p → (h.push o).get? c = some p := fun e => Heap.get?_push_of_some _ e
  have at_ : ∀ {h : Heap} {n : Nat} {o : Obj} (_ : h.objs.size = n) (_ : o.isFreed = false), (h.push o).get? n = some o := fun e f => by subst e; exact Heap.get?_push_size _ f
  refine ⟨⟨_, at_ (by simp [Heap.size_push]) rfl, rfl⟩, k _ ⟨at_ (by simp [Heap.size_push]) rfl, up (up (at_ (by simp [Heap.size_push]) rfl)), ⟨_, _, up (at_ (by simp [Heap.size_push]) rfl)⟩, ⟨_, up (up (up (up (at_ rfl rfl)))), rfl, rfl⟩, ⟨_, up (up (up (at_ (by simp [Heap.size_push]) rfl))), rfl, rfl⟩⟩ fun c o e => up (up (up (up (up e))))⟩
end
def Itzm (K : PySem.W.Frag) (a b : Addr) (xs ys : List V) : It :=
  ⟨fun i H => (SqT K H a xs ∧ SqL K H b ys) ∧ (i < xs.length ∧ i < ys.length), fun i H x H' => ∃ T u v, x = .ref T ∧ xs[i]? = some u ∧ ys[i]? = some v ∧ New H H' T (.tup [u, v]), fun i H => (SqT K H a xs ∧ SqL K H b ys) ∧ xs.length ≤ i⟩
theorem turn_zm {P : Program} {w : World} {K : PySem.W.Frag} {elts : List Expr} {x1} {pos : Pos} (a b z TI TO i1 i2 : Addr) (xs ys : List V) (DD : ZipApart z TI TO i1 i2 a b) :
    Turn P w K (.Tuple elts x1 pos) (Itzm K a b xs ys) [z, TI, TO, i1, i2] z (ZmAt z TI TO i1 i2 a b) where
  mem := by simp
  obj := fun i h st c hc => by
    obtain ⟨hz, hI, ⟨u, v, hO⟩, ⟨o1, g1, _, d1⟩, ⟨o2, g2, _, d2⟩⟩ := st
    simp only [List.mem_cons, List.not_mem_nil, or_false] at hc
    rcases hc with rfl | rfl | rfl | rfl | rfl
    · exact ⟨_, hz, fun v e => by cases (show Data.fields _ = Data.cell v from e)⟩
    · exact ⟨_, hI, fun v e => by cases (show Data.seq _ _ = Data.cell v from e)⟩
    · exact ⟨_, hO, fun v e => by cases (show Data.seq _ _ = Data.cell v from e)⟩
    · exact ⟨o1, g1, fun v e => by rw [d1] at e; cases e⟩
    · exact ⟨o2, g2, fun v e => by rw [d2] at e; cases e⟩
  keep := fun i h h' st k => by
    obtain ⟨hz, hI, ⟨u, v, hO⟩, g1, g2⟩ := st
    exact ⟨k z (by simp) _ hz, k TI (by simp) _ hI, ⟨u, v, k TO (by simp) _ hO⟩, g1.at fun o q => k i1 (by simp) o q, g2.at fun o q => k i2 (by simp) o q⟩
  item := by
    intro X hP hw hK hc i pins s σ H E I hf st hg
    subst hP hw hK
    obtain ⟨⟨qa, qb⟩, ha, hb⟩ := hg
    obtain ⟨us, ru, pu, _⟩ := I.tuple qa
    obtain ⟨vs, rv, pv, _⟩ := I.list qb
    obtain ⟨hz, hI, ⟨c1, c2, hO⟩, g1, g2⟩ := id st
    have hx : xs[i]? = some xs[i] := by simp [ha]
    have hy : ys[i]? = some ys[i] := by simp [hb]
    generalize xs[i] = x at hx
    generalize ys[i] = y at hy
    obtain ⟨u, hu, rx⟩ := ru.get hx
    obtain ⟨v, hv, ry⟩ := rv.get hy
    refine zm_item DD st (show s.heap.IsTuple a us.toArray from pu) pv.isList (x := u) (y := v) (by simpa using hu) (by simpa using hv) fun h1 a1 a2 a3 a4 a5 hk => ?_
    refine ⟨_, rfl, wpAny_letOwnedTupleGo_zip a1 fun h2 he2 hs2 => ?_⟩
    have neT : s.heap.objs.size ≠ z := Nat.ne_of_gt (Heap.lt_size hz)
    have hT2 := (hs2.2 _ neT).trans a5
    have k2 : ∀ b o, b ∉ [z, TI, TO, i1, i2] → s.heap.get? b = some o → h2.get? b = some o := fun b o hb q => by
      simp only [List.mem_cons, List.not_mem_nil, or_false, not_or] at hb
      exact (hs2.2 b hb.1).trans (hk b o hb.1 hb.2.2.1 hb.2.2.2.1 hb.2.2.2.2 q)
    have new : ObjOk X.prog X.w (upd H s.heap.objs.size (.tup [x, y])) h2 s.heap.objs.size (.tup [x, y]) :=
      ⟨by show 2 ≤ sizeLine; decide, [u, v], .cons rx (.cons ry .nil), ⟨_, hT2, rfl, _, rfl⟩⟩
    refine ⟨.ref s.heap.objs.size, _, I.turnedLaid (t' := s.toks) hf k2 (Nat.le_refl _) new, rfl, ⟨_, x, y, rfl, hx, hy, .mk' (I.hok.fresh (Nat.le_refl _))⟩, ⟨he2, (hs2.2 TI DD.TIz).trans (hk TI _ DD.TIz DD.TITO DD.TIi1 DD.TIi2 hI), ⟨u, v, (hs2.2 TO DD.TOz).trans a2⟩, a3.at fun o q => (hs2.2 i1 DD.i1z).trans q, a4.at fun o q => (hs2.2 i2 DD.i2z).trans q⟩, fun b hb => ?_⟩
    have hbn := (hf b hb).1
    have hb' : b < s.heap.objs.size := by
      obtain ⟨o1, q1, _⟩ := g1
      obtain ⟨o2, q2, _⟩ := g2
      simp only [List.mem_cons, List.not_mem_nil, or_false] at hb
      rcases hb with rfl | rfl | rfl | rfl | rfl
      · exact Heap.lt_size hz
      · exact Heap.lt_size hI
      · exact Heap.lt_size hO
      · exact Heap.lt_size q1
      · exact Heap.lt_size q2
    rw [upd_ne (Nat.ne_of_lt hb')]
    exact hbn
  done := by
    intro X hP hw hK hc i pins s σ H E I hf st hg
    subst hP hw hK
    obtain ⟨⟨qa, qb⟩, hle⟩ := hg
    obtain ⟨us, ru, pu, _⟩ := I.tuple qa
    have l1 := ru.length
    refine zm_end (I.ok.hd hc) DD st (show s.heap.IsTuple a us.toArray from pu) (by simp; omega) fun h' eb => ⟨rfl, I.turnedN (t' := s.toks) (ch := [z, TI, TO, i1, i2]) hf fun b o hb q => ?_⟩
    simp only [List.mem_cons, List.not_mem_nil, or_false, not_or] at hb
    exact eb b o hb.1 hb.2.2.1 hb.2.2.2.1 hb.2.2.2.2 q
  self := fun _ _ _ _ _ st h => wpAny_pyIter_zip st.1 h
theorem zm_apart {h : Heap} {l m : Addr} {xs ys : Array Value} (D : Zp5 (h.objs.size + 4) (h.objs.size + 2) (h.objs.size + 3) h.objs.size (h.objs.size + 1)) (t : h.IsTuple l xs) (g : h.IsList m ys) : ZipApart (h.objs.size + 4) (h.objs.size + 2) (h.objs.size + 3) h.objs.size (h.objs.size + 1) l m := by
  have a1 : l < h.objs.size := let ⟨_, q, _⟩ := t; Heap.lt_size q
  have a2 : m < h.objs.size := let ⟨_, q, _⟩ := g; Heap.lt_size q
  have na : ∀ {c x : Nat}, c < h.objs.size → h.objs.size ≤ x → c ≠ x := fun u v => by omega
  exact ⟨D.a.1, D.a.2.1, D.a.2.2.1, D.a.2.2.2, D.b.1, D.b.2.1, D.b.2.2, D.c.1, D.c.2.1, D.c.2.2, na a1 (by omega), na a1 (by omega), na a1 (by omega), na a1 (by omega), na a2 (by omega), na a2 (by omega), na a2 (by omega), na a2 (by omega)⟩
def iZm (K : PySem.W.Frag) (ta : TA) : TI := fun σ H R => ta σ H fun vs H1 => ∃ a b xs ys, vs = [.ref a, .ref b] ∧ SqT K H1 a xs ∧ SqL K H1 b ys ∧ R (Itzm K a b xs ys) H1
theorem pi_zm {X : Cx} {elts : List Expr} {x1} {tpos : Pos} {a b : Expr} {ta : TA} {p pos : Pos} (hg : Gl X "zip") (hm : X.mg "zip" = none) (ha : PA X [a, b] ta) (hs : starEach [a, b] X.env = [(false, eval a X.env), (false, eval b X.env)] := by rfl) (hs2 : starEach [b] X.env = [(false, eval b X.env)] := by rfl) :
    PI X (.Tuple elts x1 tpos) (.Call (.Name "zip" p) [a, b] [] pos) (iZm X.K ta) := by
  intro pins s σ H R I h
  refine Call_ (ld_blt I hg hm boot_zip (PyProof.Rows.callWith_type1 (thn (ha pos pins s σ H _ I h) fun us s1 ⟨vs, H1, I1, r1, q1⟩ => ?_) (by rw [hs, hs2]) (by rw [hs2]; rfl)))
  obtain ⟨l, m, xs, ys, e, hq, hq2, q⟩ := q1
  subst e
  obtain ⟨u, v, rfl, r, r2⟩ := vals2 r1
  cases r
  cases r2
  obtain ⟨its, rv, pl, hz⟩ := I1.tuple hq
  obtain ⟨its2, rv2, pl2, hz2⟩ := I1.list hq2
  refine call_zm (show s1.heap.IsTuple l its.toArray from pl) pl2.isList fun h' b1 hk => ?_
  have I2 : Inv X pins σ H1 { s1 with heap := h' } := I1.kept (t' := s1.toks) hk
  refine wpAny_pyIter_zip b1.1 ?_
  refine ⟨s1.heap.objs.size + 4, [s1.heap.objs.size + 4, s1.heap.objs.size + 2, s1.heap.objs.size + 3, s1.heap.objs.size, s1.heap.objs.size + 1], _, Itzm X.K l m xs ys, H1, rfl, I2, turn_zm l m (s1.heap.objs.size + 4) (s1.heap.objs.size + 2) (s1.heap.objs.size + 3) s1.heap.objs.size (s1.heap.objs.size + 1) xs ys (zm_apart (zp_new _) (show s1.heap.IsTuple l its.toArray from pl) pl2.isList), b1, fun b hb => ?_, q⟩
  have hb' : s1.heap.objs.size ≤ b := by
    simp only [List.mem_cons, List.not_mem_nil, or_false] at hb
    rcases hb with rfl | rfl | rfl | rfl | rfl
    · exact Nat.le_add_right _ _
    · exact Nat.le_add_right _ _
    · exact Nat.le_add_right _ _
    · exact Nat.le_refl _
    · exact Nat.le_add_right _ _
  exact I1.fpOk hb' (I1.hok.fresh hb')
theorem itemsZ_mix {K : PySem.W.Frag} {a b : Addr} {xs ys : List V} (hn : xs.length = ys.length) : ItemsZ (Itzm K a b xs ys) xs ys (fun H => SqT K H a xs ∧ SqL K H b ys) :=
  ⟨fun i H h hi => ⟨h, hi, by omega⟩, fun i H x H' _ _ y => y, fun H h => ⟨h, Nat.le_refl _⟩⟩
section
variable {K : PySem.W.Frag} {H : Hp} {Q : VK} {σ : St} {tr : TA} {nt : Nat} {fr : List Nat} {g : TG} {c : TT} {te : TE} {a b : Addr} {xs ys : List V}
instance go_compZm : Go (tComp (iZm K tr) nt fr g c te σ H Q) (tr σ H fun vs H1 => ∃ a b xs ys, vs = [.ref a, .ref b] ∧ SqT K H1 a xs ∧ SqL K H1 b ys ∧ CompAll (Itzm K a b xs ys) nt fr g c te σ H1 Q) := ⟨id⟩
instance go_zmby [h : SqB K H a xs] [h2 : SqA K H b ys] : Go (∃ a' b' xs' ys', [V.ref a, V.ref b] = [.ref a', .ref b'] ∧ SqT K H a' xs' ∧ SqL K H b' ys' ∧ CompAll (Itzm K a' b' xs' ys') nt fr g c te σ H Q) (CompAll (Itzm K a b xs ys) nt fr g c te σ H Q) := ⟨fun k => ⟨a, b, xs, ys, rfl, h.e, h2.e, k⟩⟩
end
end L2
set_option maxHeartbeats 1000000
namespace L2
open PySem PySem.Spec PyProof.Rows PySem.SeqAt
theorem comp_zipF {K : PySem.W.Frag} {J : It} {xs ys : List V} {Lk : Hp → Prop} {te : TE} {σ fvs : St} {fr : List Nat} {H : Hp} {Q : VK} {n : Nat} (f : Nat → V) (it : ItemsZ J xs ys Lk) (hn2 : n = 2) (hz : xs.length ≤ 1000000) (hf : (fr.map fun i => (σ[i]?).getD none) = fvs) (hL : ∀ H', Same H H' → Lk H')
    (turn : ∀ (i : Nat) (u v : V) (H' : Hp) (R : VK), xs[i]? = some u → ys[i]? = some v → Same H H' → (∀ H2, Same H' H2 → R (f i) H2) → te (some u :: some v :: fvs) H' R)
    (k : ∀ p H', New H H' p (.lst ((List.range xs.length).map f)) → Q (.ref p) H') : CompAll J 2 fr (gTup K n (gCons (gName 0) (gCons (gName 1) gNil))) tTrue te σ H Q := by
  intro acc hacc
  subst hf hn2
  have nacc : ∀ b u, H b = some u → b ≠ acc := fun b u e => ne_of_none e hacc
  refine ⟨fun i m σ' zs H' => m = xs.length - i ∧ i ≤ xs.length ∧ (H' acc = some (.lst zs) ∧ Same H H' ∧ zs = (List.range i).map f) ∧ ∃ tv : List (Option V), tv.length = 2 ∧ σ' = tv ++ fr.map fun i => (σ[i]?).getD none, ⟨xs.length, by simp, Nat.zero_le _, ⟨upd_same, Same.new hacc, rfl⟩, List.replicate 2 none, by simp, rfl⟩, ?_⟩
  rintro i m σ' zs H' ⟨rfl, hi, ⟨ha, hs, hzs⟩, tv, htv, rfl⟩
  refine ⟨ha, ?_⟩
  have l := hL H' hs
  by_cases hlt : i < xs.length
  · refine .inr ⟨it.go i H' l hlt, fun x H2 y => ?_⟩
    obtain ⟨T, u, v, rfl, hu, hv, nw⟩ := it.yld i H' x H2 l hlt y
    obtain ⟨t0, t1, rfl⟩ : ∃ a b, tv = [a, b] := by
      match tv, htv with
      | [a, b], _ => exact ⟨a, b, rfl⟩
    refine w_tup2 (SqT.of nw.e) ?_
    show te (some u :: some v :: fr.map fun i => (σ[i]?).getD none) H2 _
    refine turn i u v H2 _ hu hv (hs.trans nw.s) fun H3 s3 => ⟨?_, s3 _ _ (nw.s _ _ ha), xs.length - (i + 1), by omega, rfl, hlt, ⟨upd_same, fun b u e => ?_, ?_⟩, [some u, some v], rfl, rfl⟩
    · rw [hzs, List.length_map, List.length_range]
      exact Nat.lt_of_lt_of_le hlt (small_line hz)
    · rw [upd_ne (nacc b u e)]
      exact s3 _ _ (nw.s _ _ (hs _ _ e))
    · rw [hzs, List.range_succ, List.map_append]
      rfl
  · have e : i = xs.length := by omega
    subst e
    subst hzs
    exact .inl ⟨it.stop H' l, k acc H' ⟨hs, ha, nacc⟩⟩
section
variable {K : PySem.W.Frag} {H : Hp} {σ : St} {R : St → Hp → Prop} {g1 g2 : TG} {n : Nat} {l : Addr} {a b : V}
theorem gNil_e : (fun σ' H' => gNil [] σ' H' R) = R := by funext σ' H'; exact propext ⟨fun z => z.2, fun z => ⟨rfl, z⟩⟩
theorem gOne_e : (fun σ' H' => gCons g2 gNil [b] σ' H' R) = fun σ' H' => g2 b σ' H' R := by
  funext σ' H'
  refine propext ⟨fun ⟨v, r, e, q⟩ => ?_, fun q => ⟨b, [], rfl, ?_⟩⟩
  · cases e
    rw [gNil_e] at q
    exact q
  · rw [gNil_e]
    exact q
instance (priority := low) go_tupN2 [h : SqB K H l [a, b]] : Go (gTup K n (gCons g1 (gCons g2 gNil)) (.ref l) σ H R) (Sd (n = 2) (g1 a σ H fun σ1 H1 => g2 b σ1 H1 R)) := ⟨fun s => by
  obtain ⟨rfl, k⟩ := s
  refine ⟨l, _, rfl, h.e, rfl, a, [b], rfl, ?_⟩
  rw [gOne_e]
  exact k⟩
end
def numT (i : Int) : List Nat := if i < 0 then 45 :: dg i.natAbs else dg i.natAbs
theorem num_T (i : Int) : numS i = tx (numT i) := by
  cases i with
  | ofNat n =>
    unfold numT
    rw [if_neg (by simp)]
    exact num_dg n
  | negSucc n =>
    unfold numT
    rw [if_pos (by exact Int.negSucc_lt_zero n)]
    have h : ∀ z : Str, z = tx z.cps.toList := fun z => by cases z; simp [tx]
    rw [h (numS (Int.negSucc n))]
    unfold numS
    rw [PyProof.Rows.signs_ofString, show toString (Int.negSucc n) = "-" ++ Nat.repr (n + 1) from rfl, String.toList_append, show ("-" : String).toList = ['-'] by decide +kernel, Nat.toList_repr]
    rfl
theorem slice_dp (cs : List Nat) (j : Nat) (hj : j ≤ cs.length) : Txt.slice (tx cs) (some (j : Int)) none = tx (cs.drop j) := by
  have hn : ¬ ((j : Int) < 0) := by omega
  have hix : Builtin.Str.strSliceIndices (some (j : Int)) none 1 (tx cs).length = (List.range (cs.length - j)).map (j + ·) := by
    unfold Builtin.Str.strSliceIndices sliceRange
    dsimp only
    rw [tx_len]
    simp only [show (1 : Int) > 0 from by decide, if_true, hn, if_false]
    have e1 : max (0 : Int) (min (j : Int) (cs.length : Int)) = (j : Int) := by omega
    rw [e1]
    by_cases h : (j : Int) < (cs.length : Int)
    · rw [if_pos h]
      have e2 : (((cs.length : Int) - (j : Int) + 1 - 1) / 1).toNat = cs.length - j := by
        rw [Int.ediv_one]
        omega
      rw [e2]
      refine List.map_congr_left fun k _ => ?_
      show ((j : Int) + 1 * (k : Int)).toNat = j + k
      omega
    · rw [if_neg h, show cs.length - j = 0 by omega]
      rfl
  unfold Txt.slice
  rw [hix, List.length_map, List.length_range, tx_len]
  by_cases h : cs.length - j = cs.length
  · rw [if_pos (by rw [h]; simp)]
    by_cases h0 : j = 0
    · rw [h0]; rfl
    · have : cs.length = 0 := by omega
      rw [List.eq_nil_of_length_eq_zero this, List.drop_nil]
  · rw [if_neg (by simp [h])]
    unfold tx
    congr 2
    rw [List.filterMap_map]
    have hfm : ∀ (n : Nat), j + n ≤ cs.length → (List.range n).filterMap ((fun i => cs.toArray[i]?) ∘ fun x => j + x) = (cs.drop j).take n := by
      intro n
      induction n with
      | zero => intro _; rfl
      | succ n ih =>
        intro hn
        rw [List.range_succ, List.filterMap_append, ih (by omega), List.take_succ, List.filterMap_cons, List.filterMap_nil, List.getElem?_drop]
        have : ((fun i => cs.toArray[i]?) ∘ fun x => j + x) n = cs[j + n]? := by simp
        rw [this]
        cases cs[j + n]? <;> rfl
    have := hfm (cs.length - j) (by omega)
    rw [this, List.take_of_length_le (by rw [List.length_drop]; exact Nat.le_refl _)]
section
variable {K : PySem.W.Frag} {H : Hp} {Q : VK} {R : Prop} {cs : List Nat} {z : Str} {c : Nat}
instance (priority := high) go_rslB1 : Go (rSlB (.str (tx (c :: cs))) (.int 1) H Q) (Sd (cs.length ≤ 999) (Q (.str (tx cs)) H)) := ⟨fun s => ⟨_, 1, rfl, rfl, by rw [tx_len]; exact small_line (by have := s.1; simp; omega), by
  have := slice_dp (c :: cs) 1 (by simp)
  rw [show ((1 : Nat) : Int) = 1 from rfl] at this
  rw [this]
  exact s.2⟩⟩
instance (priority := low) go_tyS {K : PySem.W.Frag} {H : Hp} {z : Str} {R : Prop} : Go (tyV K "str" (.str z) H ∧ R) R := ⟨fun k => ⟨by first | exact .inr (.inr rfl) | exact .inr rfl | exact ⟨_, rfl⟩ | trivial, k⟩⟩
end
def rStrP : List V → Hp → VK → Prop := fun xs H Q => (∃ i : Int, xs = [.int i] ∧ i.natAbs < 10 ^ 30 ∧ Q (.str (tx (numT i))) H) ∨ ∃ z, xs = [.str z] ∧ Q (.str z) H
theorem call_strP {X : Cx} : CallR X (.type "str") rStrP := by
  intro pins s σ H xs us Q I r h
  rcases h with ⟨i, rfl, hb, q⟩ | ⟨z, rfl, q⟩
  · refine call_strI (X := X) pins s σ H _ _ Q I r ⟨i, rfl, ?_, by rw [num_T]; exact q⟩
    by_cases hz : i.natAbs = 0
    · rw [hz]; decide
    · exact (Nat.log2_lt hz).mpr (Nat.lt_trans hb (by decide +kernel))
  · obtain ⟨u, rfl, rx⟩ := vals1 r
    obtain ⟨t, rfl⟩ := rx
    exact PySem.P.str_of_str ⟨.str _, H, I, ⟨_, rfl⟩, q⟩
section
variable {H : Hp} {Q : VK} {i : Int} {z : Str}
instance go_strPi : Go (rStrP [.int i] H Q) (Sd (i.natAbs < 10 ^ 30) (Q (.str (tx (numT i))) H)) := ⟨fun s => .inl ⟨i, rfl, s.1, s.2⟩⟩
instance go_strPs : Go (rStrP [.str z] H Q) (Q (.str z) H) := ⟨fun s => .inr ⟨z, rfl, s⟩⟩
end
theorem getItem_tupW {prog : Program} {w : World} {A : Around} {E : Value → Shared → Prop} {s : Shared} {t sl : Addr} {items : Array Value} {vl vu : Value} {lo hi : Option Int} {Q : Value → Shared → Prop} (ht : IsTup s.heap t items) (hs : s.heap.IsSliceOf sl vl vu .none) (pl : IsPart vl lo) (pu : IsPart vu hi)
    (h0 : HT.sIx items.size 0 lo = 0) (h1 : HT.sIx items.size items.size hi = items.size) (h : Q (.ref t) s) : wpAny (model prog w) A (getItem (.ref t) (.ref sl)) Q E s := by
  obtain ⟨os, hos, hcs, hds⟩ := id hs
  have hT : s.TypeIs (.ref sl) "slice" := ⟨os, hos, hcs⟩
  unfold getItem
  try with_reducible refine wpAny_holding ?_
  first | refine wpAny_bind (wpAny_pure ?_) | skip
  refine wpAny_bind (wpAny_sequenceKey ht.typeIs (by decide) ?_)
  refine wpAny_bind (wpAny_callSpecial?_slot (name := Str.ofString "__getitem__") ht.typeIs PyProof.Rows.slot_tuple_getitem
    (wpAny_call_entry PyProof.Rows.slot_tuple_getitem ht.typeIs entry_tuple_getitem ?_ (args_tuple_getitem _ _)))
  show wpAny _ _ (Builtin.Tuple.tupleItemsOf (.ref t) >>= _) _ _ s
  refine wpAny_bind (tupleItemsOf_ ht ?_)
  refine wpAny_bind (wpAny_typeOf hT ?_)
  rw [if_pos (by decide)]
  refine wpAny_bind (HT.sliceApplied_gen hs pl pu ?_)
  rw [h0, h1]
  have hy : (((0 : Nat) : Int) == 0 && (1 : Int) == 1 && (items.size - 0) == items.size) = true := by simp
  show wpAny _ _ (if (((0 : Nat) : Int) == 0 && (1 : Int) == 1 && (items.size - 0) == items.size) = true then _ else _) _ _ s
  rw [if_pos hy]
  unfold Builtin.Tuple.tupleIsExact
  refine wpAny_bind (wpAny_bind (wpAny_typeOf ht.typeIs (wpAny_pure ?_)))
  rw [if_pos (by decide)]
  exact wpAny_bind (wpAny_rule (wpAny_pure ⟨_, rfl, wpAny_pure h⟩))
def WhI (n : Nat) (lo hi : Option Int) : Prop := HT.sIx n 0 lo = 0 ∧ HT.sIx n n hi = n
def rSlW (K : PySem.W.Frag) : V → Option Int → Option Int → Hp → VK → Prop := fun x lo hi H Q => ∃ a xs, x = .ref a ∧ SqT K H a xs ∧ (WhI xs.length lo hi → Q (.ref a) H) ∧ (¬ WhI xs.length lo hi → ∀ p, H p = none → Q (.ref p) (upd H p (.tup (cutV xs lo hi))))
theorem sl_tupW {X : Cx} : SlR X (rSlW X.K) := by
  intro pins s σ H x v vl vu lo hi sl Q I rx hs pl pu h
  obtain ⟨a, xs, rfl, hx, h1, h2⟩ := h
  by_cases hw : WhI xs.length lo hi
  · cases rx
    obtain ⟨its, r, ht, hz⟩ := I.tuple hx
    have e : its.toArray.size = xs.length := by rw [List.size_toArray]; exact r.length.symm
    refine ⟨"tuple", _, PyProof.Rows.slot_tuple_getitem.lookup, ht.typeIs, ?_⟩
    exact getItem_tupW ht hs pl pu (by rw [e]; exact hw.1) (by rw [e]; exact hw.2) ⟨.ref a, H, I, rfl, h1 hw⟩
  · exact sl_tup pins s σ H (.ref a) v vl vu lo hi sl Q I rx hs pl pu ⟨a, xs, rfl, hx, hw, h2 hw⟩
class WhA (xs : List V) (lo hi : Option Int) : Prop where
  e : WhI xs.length lo hi
class NwA (xs : List V) (lo hi : Option Int) : Prop where
  e : ¬ WhI xs.length lo hi
section
variable {K : PySem.W.Frag} {H : Hp} {Q : VK} {l : Addr} {xs ys : List V} {lo hi : Option Int}
instance go_slW [h : Hat H l (.tup xs)] [e : WhA xs lo hi] : Go (rSlW K (.ref l) lo hi H Q) (Q (.ref l) H) := ⟨fun k => ⟨l, xs, rfl, SqT.of h.e, fun _ => k, fun n => absurd e.e n⟩⟩
instance go_slN [h : Hat H l (.tup xs)] [e : NwA xs lo hi] [c : CutA xs lo hi ys] : Go (rSlW K (.ref l) lo hi H Q) (∀ p H', New H H' p (.tup ys) → Q (.ref p) H') := ⟨fun k => ⟨l, xs, rfl, SqT.of h.e, fun n => absurd n e.e, fun _ p e => by rw [c.e]; exact k p _ (New.mk' e)⟩⟩
end
end L2
set_option maxHeartbeats 4000000
namespace K01
open PySem L2 PyProof.Rows
def top (i : Nat) : Stmt := PySem.Challenge.pw_slideroom_k01_lines_read.main.body.getD i (.Pass ⟨0, 0, 0, 0⟩)
abbrev s_rfig : Stmt := top 6
theorem sc_rfig : FnScope ["word"] ["word"] (defScope s_rfig) := ⟨rfl, rfl, rfl, by decide +kernel, rfl, by decide +kernel, by decide +kernel⟩
abbrev s_rnum : Stmt := top 14
theorem sc_rnum : FnScope ["word", "number"] ["word"] (defScope s_rnum) := ⟨rfl, rfl, rfl, by decide +kernel, rfl, by decide +kernel, by decide +kernel⟩
abbrev s_rshape : Stmt := top 15
theorem sc_rshape : FnScope ["shape", "words", "told"] ["shape", "words"] (defScope s_rshape) := ⟨rfl, rfl, rfl, by decide +kernel, rfl, by decide +kernel, by decide +kernel⟩
abbrev s_rmem : Stmt := top 16
theorem sc_rmem : FnScope ["words"] ["words"] (defScope s_rmem) := ⟨rfl, rfl, rfl, by decide +kernel, rfl, by decide +kernel, by decide +kernel⟩
abbrev s_rslide : Stmt := top 17
theorem sc_rslide : FnScope ["words", "moves", "at", "move"] ["words"] (defScope s_rslide) := ⟨rfl, rfl, rfl, by decide +kernel, rfl, by decide +kernel, by decide +kernel⟩
abbrev s_rvals : Stmt := top 18
theorem sc_rvals : FnScope ["word", "size", "told"] ["word", "size"] (defScope s_rvals) := ⟨rfl, rfl, rfl, by decide +kernel, rfl, by decide +kernel, by decide +kernel⟩
abbrev s_rblock : Stmt := top 19
theorem sc_rblock : FnScope ["words", "row", "values"] ["words"] (defScope s_rblock) := ⟨rfl, rfl, rfl, by decide +kernel, rfl, by decide +kernel, by decide +kernel⟩
abbrev s_rstand : Stmt := top 20
theorem sc_rstand : FnScope ["words", "told", "rows", "values", "at", "block"] ["words"] (defScope s_rstand) := ⟨rfl, rfl, rfl, by decide +kernel, rfl, by decide +kernel, by decide +kernel⟩
abbrev s_rbehind : Stmt := top 21
theorem sc_rbehind : FnScope ["first", "words"] ["first", "words"] (defScope s_rbehind) := ⟨rfl, rfl, rfl, by decide +kernel, rfl, by decide +kernel, by decide +kernel⟩
abbrev s_rline : Stmt := top 22
theorem sc_rline : FnScope ["line", "words", "told"] ["line"] (defScope s_rline) := ⟨rfl, rfl, rfl, by decide +kernel, rfl, by decide +kernel, by decide +kernel⟩
abbrev s_wvals : Stmt := top 23
theorem sc_wvals : FnScope ["values"] ["values"] (defScope s_wvals) := ⟨rfl, rfl, rfl, by decide +kernel, rfl, by decide +kernel, by decide +kernel⟩
abbrev s_wstand : Stmt := top 24
theorem sc_wstand : FnScope ["many", "word", "mark", "rows", "values", "told", "row", "cells", "block", "written"] ["many", "word", "mark", "rows", "values"] (defScope s_wstand) := ⟨rfl, rfl, rfl, by decide +kernel, rfl, by decide +kernel, by decide +kernel⟩
abbrev s_wline : Stmt := top 25
theorem sc_wline : FnScope ["parts", "standing", "words", "name", "to"] ["parts"] (defScope s_wline) := ⟨rfl, rfl, rfl, by decide +kernel, rfl, by decide +kernel, by decide +kernel⟩
abbrev s_ldraws : Stmt := top 27
theorem sc_ldraws : FnScope ["_law_cell", "_law_many", "_law_found", "_law_number_here", "_law_k"] ["_law_cell", "_law_many"] (defScope s_ldraws) := ⟨rfl, rfl, rfl, by decide +kernel, rfl, by decide +kernel, by decide +kernel⟩
abbrev s_lword : Stmt := top 28
theorem sc_lword : FnScope ["_law_first", "_law_second", "_law_words", "_law_found", "_law_k", "_law_pick"] ["_law_first", "_law_second"] (defScope s_lword) := ⟨rfl, rfl, rfl, by decide +kernel, rfl, by decide +kernel, by decide +kernel⟩
abbrev s_lnum : Stmt := top 29
theorem sc_lnum : FnScope ["_law_cell", "_law_first", "_law_second", "_law_ways"] ["_law_cell", "_law_first", "_law_second"] (defScope s_lnum) := ⟨rfl, rfl, rfl, by decide +kernel, rfl, by decide +kernel, by decide +kernel⟩
abbrev s_lstand : Stmt := top 30
theorem sc_lstand : FnScope ["_law_cell", "_law_draws_here", "_law_rows", "_law_held", "_law_k", "_law_size", "_law_start", "_law_pins", "_law_name", "_law_values", "_law_j", "_law_number_here", "_law_mark"] ["_law_cell", "_law_draws_here"] (defScope s_lstand) := ⟨rfl, rfl, rfl, by decide +kernel, rfl, by decide +kernel, by decide +kernel⟩
abbrev s_lparts : Stmt := top 31
theorem sc_lparts : FnScope ["_law_cell", "_law_draws_here", "_law_words", "_law_word_here", "_law_name", "_law_number_here", "_law_value", "_law_moves", "_law_k"] ["_law_cell"] (defScope s_lparts) := ⟨rfl, rfl, rfl, by decide +kernel, rfl, by decide +kernel, by decide +kernel⟩
abbrev s_lline : Stmt := top 32
theorem sc_lline : FnScope ["_law_parts_here", "_law_words", "_law_name", "_law_start", "_law_size", "_law_pins", "_law_values"] ["_law_parts_here"] (defScope s_lline) := ⟨rfl, rfl, rfl, by decide +kernel, rfl, by decide +kernel, by decide +kernel⟩
abbrev s_same : Stmt := top 33
theorem sc_same : FnScope ["_law_told", "_law_due"] ["_law_told", "_law_due"] (defScope s_same) := ⟨rfl, rfl, rfl, by decide +kernel, rfl, by decide +kernel, by decide +kernel⟩
abbrev s_changed : Stmt := top 34
theorem sc_changed : FnScope ["_law_told", "_law_part"] ["_law_told"] (defScope s_changed) := ⟨rfl, rfl, rfl, by decide +kernel, rfl, by decide +kernel, by decide +kernel⟩
abbrev s_law : Stmt := top 35
theorem sc_law : FnScope ["_law_script", "_law_cell", "_law_parts_here", "_law_line_here", "_law_told", "_law_short", "_law_first", "_law_second", "_law_number_here"] ["_law_script"] (defScope s_law) := ⟨rfl, rfl, rfl, by decide +kernel, rfl, by decide +kernel, by decide +kernel⟩
def FIG : Str := "0123456789"
def shapesT : List (Str × List Str) := [("show", []), ("take", ["name", "N"]), ("fit", ["name", "N"]), ("give", ["name"]), ("pin", ["name"]), ("unpin", ["name"]), ("pins", ["name"]), ("read", ["name", "N"]), ("write", ["name", "N", "N"]), ("cell", ["name", "N"]), ("values", ["name"]), ("blocks", []), ("holes", []), ("order", []), ("look", ["N"]), ("plan", ["N"]), ("room", ["N"]), ("waste", []), ("pack", ["way"]), ("tidy", [])]
structure Txt (w : World) (K : PySem.W.Frag) (mg : Str → Option Value) (c : Nat → Addr) (R aM aS aT aB aD : Addr) (kv : List (Key × V)) : Prop where
  d_rfig : HasDef K mg "read_figures" s_rfig
  d_rnum : HasDef K mg "read_number" s_rnum
  d_rshape : HasDef K mg "read_shape" s_rshape
  d_rmem : HasDef K mg "read_memory" s_rmem
  d_rslide : HasDef K mg "read_slide" s_rslide
  d_rvals : HasDef K mg "read_values" s_rvals
  d_rblock : HasDef K mg "read_block" s_rblock
  d_rstand : HasDef K mg "read_stand" s_rstand
  d_rbehind : HasDef K mg "read_behind" s_rbehind
  d_rline : HasDef K mg "read_line" s_rline
  d_wvals : HasDef K mg "write_values" s_wvals
  d_wstand : HasDef K mg "write_standing" s_wstand
  d_wline : HasDef K mg "write_line" s_wline
  d_ldraws : HasDef K mg "_law_draws" s_ldraws
  d_lword : HasDef K mg "_law_word" s_lword
  d_lnum : HasDef K mg "_law_number" s_lnum
  d_lstand : HasDef K mg "_law_stand" s_lstand
  d_lparts : HasDef K mg "_law_parts" s_lparts
  d_lline : HasDef K mg "_law_line" s_lline
  d_same : HasDef K mg "_law_same" s_same
  d_changed : HasDef K mg "_law_changed" s_changed
  n_isinstance : mg "isinstance" = none
  n_int : mg "int" = none
  n_bool : mg "bool" = none
  n_str : mg "str" = none
  n_list : mg "list" = none
  n_tuple : mg "tuple" = none
  n_len : mg "len" = none
  n_all : mg "all" = none
  n_range : mg "range" = none
  n_zip : mg "zip" = none
  g_FIGURES : GlobIs mg "FIGURES" (.str FIG)
  g_MOST_FIGURES : GlobIs mg "MOST_FIGURES" (.int 30)
  g_BLOCK_WORDS : GlobIs mg "BLOCK_WORDS" (.int 6)
  g_MEMORY_SHAPE : GlobIs mg "MEMORY_SHAPE" (.ref aM)
  g_SLIDE_SHAPE : GlobIs mg "SLIDE_SHAPE" (.ref aS)
  g_STAND_SHAPE : GlobIs mg "STAND_SHAPE" (.ref aT)
  g_BLOCK_SHAPE : GlobIs mg "BLOCK_SHAPE" (.ref aB)
  g_SHAPES : GlobIs mg "SHAPES" (.ref aD)
  q_aM : ∀ H, SqT K H aM [.str "N", .str "word"]
  q_aS : ∀ H, SqT K H aS [.str "name", .str "N"]
  q_aT : ∀ H, SqT K H aT [.str "N", .str "word", .str "N"]
  q_aB : ∀ H, SqT K H aB [.str "name", .str "N", .str "N", .str "N"]
  q_aD : ∀ prog, DicK prog w K aD kv
  v_aD : ∀ x ws, (x, ws) ∈ shapesT → ∃ a, valV kv (.inr x) = some (.ref a) ∧ ∀ H, SqT K H a (ws.map V.str)
  g_R : mg "RoomError" = some (.ref R)
  c_R : (PySem.W.clsIn K R).isSome = true
  t_R : PySem.W.typeIn K (.ref R) = some (.type "type")
  m_R : PySem.W.mroIn K R (.type "BaseException") = some true
local macro_rules | `(tactic| k_tabat) => `(tactic| first
  | with_reducible assumption
  | (with_reducible exact New.e (by with_reducible assumption))
  | (with_reducible refine New.at (by with_reducible assumption) ?_; k_tabat)
  | (with_reducible refine Off.at (by with_reducible assumption) (by k_ne) ?_; k_tabat)
  | (with_reducible refine Kp.at (by with_reducible assumption) (by k_ne) ?_; k_tabat)
  | (with_reducible refine Same.at (by with_reducible assumption) ?_; k_tabat))
local macro_rules | `(tactic| k_ne) => `(tactic| first
  | with_reducible assumption
  | (with_reducible exact Ne.symm (by with_reducible assumption))
  | (with_reducible exact New.neA (by with_reducible assumption) (by k_in))
  | (with_reducible exact New.neB (by with_reducible assumption) (by k_in)))
local macro_rules | `(tactic| k_in) => `(tactic| first
  | (with_reducible exact Hs.of (by with_reducible assumption))
  | (with_reducible exact New.hs (by with_reducible assumption))
  | (with_reducible refine New.hsAt (by with_reducible assumption) ?_; k_in)
  | (with_reducible refine Off.hsAt (by with_reducible assumption) (by k_ne) ?_; k_in)
  | (with_reducible refine Kp.hsAt (by with_reducible assumption) (by k_ne) ?_; k_in)
  | (with_reducible refine Same.hsAt (by with_reducible assumption) ?_; k_in))
local macro_rules | `(tactic| k_flat) => `(tactic| first
  | with_reducible assumption
  | (with_reducible exact SqL.of (by k_tabat))
  | (with_reducible exact SqT.of (by k_tabat))
  | (with_reducible refine Same.seq (by with_reducible assumption) ?_; k_flat)
  | (with_reducible refine Same.seq (New.s (by with_reducible assumption)) ?_; k_flat)
  | (with_reducible refine Off.seq (by with_reducible assumption) (by k_ne) ?_; k_flat))
local macro_rules | `(tactic| k_keys) => `(tactic| first
  | with_reducible assumption
  | (with_reducible exact atI_0)
  | (with_reducible exact atL1)
  | (with_reducible exact atL2)
  | (with_reducible exact atL3)
  | with_unfolding_all rfl)
local macro_rules | `(tactic| k_room) => `(tactic| first
  | with_reducible assumption
  | decide
  | omega
  | (simp only [List.length_cons, List.length_nil, List.length_map, List.length_append, List.length_replicate]; omega))
local macro_rules | `(tactic| k_inst) => `(tactic| first
  | (with_reducible refine small_line ?_; first | omega | (simp only [List.length_cons, List.length_nil, List.length_map, List.length_append, List.length_replicate, rowsN_len]; omega))
  | (with_reducible refine small_lt ?_; first | omega | (simp only [List.length_cons, List.length_nil, List.length_map, List.length_append, List.length_replicate, rowsN_len]; omega))
  | with_unfolding_all exact Nat.le_of_ble_eq_true rfl
  | omega)
local macro_rules | `(tactic| k_upd) => `(tactic| first
  | with_reducible assumption
  | (intro b u e; k_tabat))
local macro_rules | `(tactic| k_updF) => `(tactic| first
  | with_reducible assumption
  | (intro b u nb e; k_tabat))
local macro_rules | `(tactic| k_all) => `(tactic| first
  | with_reducible assumption
  | (refine ⟨?_, ?_, ?_⟩; (focus (intro b u e; k_tabat)); (focus k_tabat); (focus (intro b u e; k_ne))))
local macro_rules | `(tactic| k_mem) => `(tactic| with_reducible (first
  | refine go_seq ?_ | refine go_asg ?_ | refine go_ret ?_ | refine go_if ?_ | refine go_drop ?_ | refine go_next ?_ | refine go_nx ?_ | refine w_rt ?_
  | refine go_test ?_ | refine go_b ?_ | refine go_op ?_ | refine go_cb ?_ | refine go_cons ?_ | refine go_nil ?_ | refine w_call ?_ | refine w_c ?_
  | refine wv0 ?_ | refine wv1 ?_ | refine wv2 ?_ | refine wv3 ?_ | refine wv4 ?_ | refine wv5 ?_ | refine wv6 ?_ | refine wv7 ?_ | refine wv8 ?_ | refine wv9 ?_ | refine wv10 ?_ | refine wv11 ?_ | refine wv12 ?_ | refine wv13 ?_
  | refine wn0 ?_ | refine wn1 ?_ | refine wn2 ?_ | refine wn3 ?_ | refine wn4 ?_ | refine wn5 ?_ | refine wn6 ?_ | refine wn7 ?_ | refine wn8 ?_ | refine wn9 ?_ | refine wn10 ?_ | refine wn11 ?_ | refine wn12 ?_ | refine wn13 ?_
  | refine w_i0 ?_ | refine w_u ?_ | refine w_un ?_ | refine w_eqi ?_ | refine w_nei ?_ | refine w_eqs ?_ | refine w_nes ?_ | refine w_eqb ?_ | refine w_neb ?_ | refine w_bl ?_ | refine w_not ?_ | refine w_and ?_ | refine w_or ?_ | refine w_notV ?_ | refine w_andV ?_ | refine w_orV ?_
  | refine w_ifE ?_ | refine w_chain ?_ | refine w_bm ?_ | refine w_bm0 ?_ | refine w_sub ?_ | refine w_slice ?_ | refine w_noPart ?_ | refine w_part ?_ | refine w_int ?_ | refine w_max ?_ | refine w_min ?_ | refine w_intB ?_ | refine w_intI ?_
  | refine w_mod (by decide) ?_ | refine w_div (by decide) (by decide) ?_ | refine w_pow (by decide) (by decide) (by decide) ?_ | refine w_mulL (by decide) (by decide) ?_ | refine w_mulR (by decide) (by decide) ?_ | refine go_tupA ?_ | refine go_lstA ?_ | refine w_notT ?_ | refine w_isB ?_ | refine w_isNB ?_ | refine w_revSl ?_ | refine w_din ?_ | refine w_dput ?_ | refine go_fs ?_ | refine go_fmt ?_ | refine go_fld ?_ | refine go_methB ?_ | refine go_makeB ?_ | refine go_sfldB ?_))
set_option hygiene false in
local macro_rules | `(tactic| k_meth) => `(tactic| first
  | k_mem
  | with_reducible (refine w_isTT (by k_tabat) ?_)
  | with_reducible (refine w_isLL (by k_tabat) ?_)
  | with_reducible (refine w_isTL (by k_tabat) ?_)
  | with_reducible (refine w_isLT (by k_tabat) ?_)
  | with_reducible refine w_isII ?_
  | with_reducible refine w_isIB ?_
  | with_reducible refine w_isBB ?_
  | with_reducible refine w_isBI ?_
  | with_reducible (refine w_ixL (by k_flat) (by k_keys) ?_)
  | with_reducible (refine w_ixT (by k_flat) (by k_keys) ?_)
  | with_reducible (refine w_lenL (by k_flat) ?_)
  | with_reducible (refine w_lenT (by k_flat) ?_)
  | with_reducible (refine made_ok (by k_inst) ?_; intro _ _ _)
  | with_reducible (refine w_tyL (by k_flat) ?_)
  | with_reducible (refine w_app (by k_tabat) (by k_inst) ?_; intro _ _ _)
  | with_reducible (refine w_clr (by k_tabat) ?_; intro _ _ _)
  | with_reducible (refine w_slA (by k_flat) ?_; intro _ _ _)
  | with_reducible (refine w_catA (by k_tabat) (by k_tabat) (by k_inst) ?_; intro _ _ _)
  | with_reducible (refine w_lofL (by k_flat) ?_; intro _ _ _)
  | with_reducible (refine w_rep1 (by k_tabat) (by omega) ?_; intro _ _ _)
  | with_reducible (refine i_pos (by k_room) ?_)
  | with_reducible (refine i_neg (by k_room) ?_)
  | with_reducible (refine i_npos (by k_room) ?_)
  | with_reducible (refine i_nneg (by k_room) ?_)
  | with_reducible (refine i_tt ?_)
  | with_reducible (refine i_ff ?_)
  | with_reducible (refine i_ntt ?_)
  | with_reducible (refine i_nff ?_)
  | with_reducible (refine w_tupB (by with_unfolding_all rfl) (by k_flat) ?_)
  | with_reducible (refine go_aug rfl ?_)
  | with_reducible refine w_not2 ?_
  | with_reducible refine go_ck ?_
  | with_reducible refine go_slc ?_
  | with_reducible (refine w_mod (by omega) ?_)
  | with_reducible (refine w_rng2 ?_)
  | with_reducible refine w_forE ?_
  | with_reducible refine w_forR1 ?_
  | with_reducible refine w_forR2 ?_
  | with_reducible refine w_forL ?_
  | with_reducible refine w_compL ?_)
end K01
namespace K01
open PySem L2 PyProof.Rows
local macro_rules | `(tactic| k_room) => `(tactic| first
  | with_reducible assumption
  | with_unfolding_all exact rfl
  | with_unfolding_all exact Nat.le_of_ble_eq_true rfl
  | omega
  | (with_reducible refine small_line ?_; first | omega | (simp only [List.length_cons, List.length_nil, List.length_map, List.length_append, List.length_replicate, rowsN_len, List.length_take, List.length_drop, List.length_set]; omega))
  | (with_reducible refine small_lt ?_; first | omega | (simp only [List.length_cons, List.length_nil, List.length_map, List.length_append, List.length_replicate, rowsN_len, List.length_take, List.length_drop, List.length_set]; omega))
  | (simp only [List.length_cons, List.length_nil, List.length_map, List.length_append, List.length_replicate, rowsN_len, List.length_take, List.length_drop, List.length_set]; omega)
  | decide)
local macro_rules | `(tactic| k_mem) => `(tactic| first
  | with_reducible assumption
  | decide
  | omega
  | (simp only [List.length_cons, List.length_nil, List.length_map, List.length_append, List.length_replicate, rowsN_len, List.length_take, List.length_drop, List.length_set]; omega))
set_option hygiene false in
local macro_rules | `(tactic| k_meth) => `(tactic| first
  | with_reducible refine go1 ?_
  | (intro H_ a_ dx_ (F_ : SH _ _ _ _ _) (ex_ : ExcT _ _ _ _); clear F; (have F := F_); clear F_; have exA_ := ExA.mk ex_)
  | (intro H_ (F_ : SH _ _ _ _ _); clear F; (have F := F_); clear F_)
  | (intro H_ p_ (F_ : SH _ _ _ _ _); clear F; (have F := F_); clear F_)
  | (intro H_ x_ dx_ (F_ : SH _ _ _ _ _); clear F; (have F := F_); clear F_)
  | (intro H_ p_ ys_ l_ (F_ : SH _ _ _ _ _); clear F; (have F := F_); clear F_)
  | with_reducible refine sd (by k_room) ?_
  | (intro (r_ : Int) (x_ : Int) (y_ : Int) (z_ : Int) lo_ hi_)
  | (intro (x_ : Int) (y_ : Int))
  | (intro (c_ : Int))
  | with_reducible refine i_pos (by k_mem) ?_
  | with_reducible refine i_neg (by k_mem) ?_
  | with_reducible refine i_npos (by k_mem) ?_
  | with_reducible refine i_nneg (by k_mem) ?_)
theorem fig_low (c : Nat) : decide (c ∈ FIG.cps.toList) = isFig c := by
  rw [show FIG.cps.toList = List.range' 48 10 by decide +kernel]
  unfold isFig
  rw [Bool.eq_iff_iff]
  simp only [decide_eq_true_eq, List.mem_range'_1, Bool.and_eq_true]
  omega
abbrev ts (d : List Nat) : V := V.str (tx d)
def oN : Option Nat → V
  | none => .non
  | some n => .int (n : Nat)
def okF (w : List Nat) : Bool := decide (1 ≤ w.length) && (decide (w.length ≤ 30) && (w.all isFig && !(decide (w.head? = some 48) && !decide (w = [48]))))
def rdFig (w : List Nat) : Option Nat := if okF w = true then some (valF w) else none
def sp_rfig : Sp := fun vs H Q _ => ∃ w : List Nat, vs = [ts w] ∧ w.length ≤ 1000 ∧ ∀ H', Same H H' → Q (oN (rdFig w)) H'
theorem okF_1 {w : List Nat} (h : ¬ (1 ≤ w.length ∧ w.length ≤ 30)) : rdFig w = none := by
  unfold rdFig okF
  rw [if_neg]
  simp only [Bool.and_eq_true, decide_eq_true_eq]
  exact fun z => h ⟨z.1, z.2.1⟩
theorem okF_2 {w : List Nat} (h : w.all isFig = false) : rdFig w = none := by
  unfold rdFig okF
  rw [if_neg]
  rw [h]
  simp
theorem okF_3 {w : List Nat} (h1 : w.head? = some 48) (h2 : ¬ w = [48]) : rdFig w = none := by
  unfold rdFig okF
  rw [if_neg]
  rw [decide_eq_true h1, decide_eq_false h2]
  simp
theorem okF_4 {w : List Nat} (h1 : 1 ≤ w.length ∧ w.length ≤ 30) (h2 : w.all isFig = true) (h3 : ¬ (w.head? = some 48 ∧ ¬ w = [48])) : rdFig w = some (valF w) := by
  unfold rdFig okF
  rw [if_pos]
  rw [decide_eq_true h1.1, decide_eq_true h1.2, h2]
  by_cases a : w.head? = some 48
  · by_cases b : w = [48]
    · simp [b]
    · exact absurd ⟨a, b⟩ h3
  · simp [a]
theorem dg_cut {n : Nat} (h : 10 ≤ n) : dg n = dg (n / 10) ++ [48 + n % 10] := by
  have hm : n % 10 < 10 := Nat.mod_lt n (by decide)
  have t : Nat.toDigits 10 (n / 10) ++ Nat.toDigits 10 (n % 10) = Nat.toDigits 10 (10 * (n / 10) + n % 10) := Nat.toDigits_append_toDigits (by decide) (by omega) hm
  rw [Nat.div_add_mod] at t
  unfold dg
  rw [← t, List.map_append, Nat.toDigits_of_lt_base hm]
  congr 1
  have : ∀ d, d < 10 → [Nat.digitChar d].map Char.toNat = [48 + d] := by decide
  exact this _ hm
theorem dg_small {n : Nat} (h : n < 10) : dg n = [48 + n] := by
  unfold dg
  rw [Nat.toDigits_of_lt_base h]
  have : ∀ d, d < 10 → [Nat.digitChar d].map Char.toNat = [48 + d] := by decide
  exact this _ h
theorem dg_length : ∀ (k : Nat) {n : Nat}, n < 10 ^ (k + 1) → 1 ≤ (dg n).length ∧ (dg n).length ≤ k + 1
  | 0, n, h => by rw [dg_small (by omega)]; simp
  | k + 1, n, h => by
    by_cases h9 : n < 10
    · rw [dg_small h9]; simp
    · rw [dg_cut (by omega), List.length_append, List.length_singleton]
      have := dg_length k (n := n / 10) (by rw [Nat.pow_succ] at h; omega)
      omega
theorem dg_head : ∀ {n : Nat}, 0 < n → ∃ c r, dg n = c :: r ∧ c ≠ 48 := by
  intro n
  induction n using Nat.strongRecOn with
  | _ n ih =>
    intro h
    by_cases h9 : n < 10
    · exact ⟨48 + n, [], dg_small h9, by omega⟩
    · obtain ⟨c, r, e, hc⟩ := ih (n / 10) (by omega) (by omega)
      exact ⟨c, r ++ [48 + n % 10], by rw [dg_cut (by omega), e]; rfl, hc⟩
theorem val_dg (n : Nat) : valF (dg n) = n := by
  induction n using Nat.strongRecOn with
  | _ n ih =>
    by_cases h9 : n < 10
    · rw [dg_small h9]; unfold valF; simp
    · have := ih (n / 10) (by omega)
      rw [dg_cut (by omega)]
      unfold valF at this ⊢
      rw [List.foldl_append, this]
      simp
      omega
theorem rd_dg {n : Nat} (h : n < 10 ^ 30) : rdFig (dg n) = some n := by
  have hl := dg_length 29 h
  rw [okF_4 hl (List.all_eq_true.mpr fun c hc => dg_fig c hc) ?_, val_dg]
  rintro ⟨h1, h2⟩
  by_cases h0 : n = 0
  · subst h0
    exact h2 (dg_small (by decide))
  · obtain ⟨c, r, e, hc⟩ := dg_head (n := n) (by omega)
    rw [e] at h1
    exact hc (Option.some.inj h1)
theorem dg_no45 {n : Nat} : ∃ c r, dg n = c :: r ∧ c ≠ 45 ∧ c ≠ 32 ∧ c ≠ 44 := by
  have hne : (dg n).length ≠ 0 := by
    unfold dg
    rw [List.length_map]
    have := Nat.length_toDigits_pos (b := 10) (n := n)
    omega
  cases e : dg n with
  | nil => rw [e] at hne; exact absurd rfl hne
  | cons c r =>
    have := dg_fig (n := n) c (by rw [e]; exact List.mem_cons_self)
    unfold isFig at this
    simp at this
    exact ⟨c, r, rfl, by omega, by omega, by omega⟩
theorem start_c {c : Nat} {r : List Nat} : (decide (0 + (tx [45]).length ≤ (tx (c :: r)).length) && PySem.Builtin.Str.subAt (tx (c :: r)) (tx [45]) 0) = decide (c = 45) := by
  have h1 : (tx [45]).length = 1 := rfl
  have h2 : (tx (c :: r)).length = r.length + 1 := by rw [tx_len]; rfl
  rw [h1, h2, decide_eq_true (by omega), Bool.true_and]
  unfold PySem.Builtin.Str.subAt
  rw [h1]
  simp [tx]
  rfl
class HdA (cs : List Nat) (b : outParam Bool) : Prop where
  e : (decide (0 + (tx [45]).length ≤ (tx cs).length) && PySem.Builtin.Str.subAt (tx cs) (tx [45]) 0) = b
instance go_start {H : Hp} {Q : VK} {cs : List Nat} {b : Bool} [h : HdA cs b] : Go (rStart (.str (tx cs)) [.str (tx [45])] H Q) (Q (.bl b) H) := ⟨fun k => ⟨_, _, rfl, rfl, by rw [h.e]; exact k⟩⟩
class FigA (w : List Nat) (o : outParam (Option Nat)) : Prop where
  e : rdFig w = o
instance go_rfigS {H : Hp} {Q : VK} {E : XK} {w : List Nat} {n : Nat} [a : FigA w (some n)] : Go (sp_rfig [ts w] H Q E) (Sd (w.length ≤ 1000) (∀ H', Same H H' → Q (.int (n : Nat)) H')) := ⟨fun s => ⟨w, rfl, s.1, by rw [a.e]; exact s.2⟩⟩
def sp_rnum : Sp := fun vs H Q _ => ∃ i : Int, vs = [ts (numT i)] ∧ i.natAbs < 10 ^ 30 ∧ ∀ H', Same H H' → Q (.int i) H'
section
variable {P : Program} {w : World} {K : PySem.W.Frag} {mg : Str → Option Value} {base : Heap} {c : Nat → Addr} {R aM aS aT aB aD : Addr} {kv : List (Key × V)}
theorem D_rfig (T : Txt w K mg c R aM aS aT aB aD kv) : Def P w K mg base CX0 1 "read_figures" ["word"] sp_rfig := by
  refine def_of T.d_rfig sc_rfig (fun vs H Q E h => ?_) (fun _ _ _ _ _ _ us hl => match us, hl with | [_], _ => rfl) (fun f cdv A outer s H vs Q E hr h => ?_)
  · obtain ⟨w, rfl, _⟩ := h
    rfl
  · obtain ⟨w, rfl, hw, k⟩ := h
    have nd := sc_rfig.nd
    refine ⟨_, (pss_cons (ps_if (pt_not (pt_chain op_le op_le pe_int (pe_callB call_lenN rfl T.n_len boot_len (pa_cons (pv 0) pa_nil)) (pe_gl T.g_MOST_FIGURES))) (pss_one (ps_ret pe_non)) pss_nil)
      (pss_cons (ps_if (pt_not (pt_val (pe_callB (call_all rfl) rfl T.n_all boot_all (pa_cons (pe_comp (N := ["sign"]) (nt := 1) (fr := []) (pi_str (pv 0)) (fun _ _ _ _ => (pg_name (i := 0) (show (["sign"] : List Str).Nodup from by decide +kernel) rfl (Or.inl rfl))) (fun _ _ _ _ => pif_nil) (fun _ _ _ _ => (pe_cmpR op_inS (pv 0) (pe_gl T.g_FIGURES) (by with_unfolding_all rfl)))) pa_nil)))) (pss_one (ps_ret pe_non)) pss_nil)
      (pss_cons (ps_if (PW.pt (pw_and (pt_cmpR op_eq (pe_ix ix_str (pv 0) pe_int (fun _ _ => rfl)) (pe_strT (cs := [48]) (by decide +kernel)) (nomark _)) (pw_and1 (pt_cmpR op_ne (pv 0) (pe_strT (cs := [48]) (by decide +kernel)) (nomark _))))) (pss_one (ps_ret pe_non)) pss_nil)
      (pss_one (ps_ret (pe_callTy call_intF rfl T.n_int boot_int (pa_cons (pv 0) pa_nil))))))), ?_⟩
    clear nd 
    rw [show start ["word"] [ts w] = [some (ts w)] from rfl]
    try dsimp only [cx_K, cx_K2]
    have F : SH H [] H [] [] := SH.nil
    by_cases h0 : 1 ≤ w.length
    · by_cases h30 : w.length ≤ 30
      · repeat k_meth
        refine comp_S (F := fun c => V.bl (isFig c)) (by omega) rfl (fun c H' R hm s kk => ?_) ?_
        · clear F
          have F : SH H' [] H' [] [] := SH.nil
          repeat k_meth
          rw [fig_low]
          exact kk _ (Same.refl _)
        · have e : (w.map fun c => V.bl (isFig c)) = (w.map isFig).map V.bl := by rw [List.map_map]; rfl
          rw [e]
          repeat k_meth
          refine ⟨_, _, rfl, SqA.e, ?_⟩
          rw [show (w.map isFig).all id = w.all isFig by rw [List.all_map]; rfl]
          cases ha : w.all isFig with
          | false =>
            rw [okF_2 ha] at k
            repeat k_meth
            exact k _ F.sm
          | true =>
            repeat k_meth
            intro c hc
            have hh : w.head? = some c := by rw [List.head?_eq_getElem?]; exact hc
            by_cases hc48 : c = 48
            · subst hc48
              have t48 : tx [48] = tx [48] := rfl
              by_cases hw0 : w = [48]
              · have kq := k
                rw [okF_4 ⟨h0, h30⟩ ha (fun z => z.2 hw0)] at kq
                have t2 : tx w = tx [48] := by rw [hw0]
                have sd5 : w.all isFig = true ∧ 1 ≤ w.length ∧ w.length ≤ 640 := ⟨ha, h0, by omega⟩
                repeat k_meth
                exact kq _ F.sm
              · rw [okF_3 hh hw0] at k
                have t2 : ¬ tx w = tx [48] := fun z => hw0 (tx_inj z)
                repeat k_meth
                exact k _ F.sm
            · have t48 : ¬ tx [c] = tx [48] := fun z => hc48 (by have := tx_inj z; simpa using this)
              rw [okF_4 ⟨h0, h30⟩ ha (fun z => by rw [hh] at z; exact hc48 (Option.some.inj z.1))] at k
              have sd5 : w.all isFig = true ∧ 1 ≤ w.length ∧ w.length ≤ 640 := ⟨ha, h0, by omega⟩
              repeat k_meth
              exact k _ F.sm
      · rw [okF_1 (by omega)] at k
        repeat k_meth
        exact k _ F.sm
    · rw [okF_1 (by omega)] at k
      repeat k_meth
      exact k _ F.sm
end
section
variable {P : Program} {w : World} {K : PySem.W.Frag} {mg : Str → Option Value} {base : Heap} {c : Nat → Addr} {R aM aS aT aB aD : Addr} {kv : List (Key × V)}
theorem D_rnum (T : Txt w K mg c R aM aS aT aB aD kv) : Def P w K mg base CX0 2 "read_number" ["word"] sp_rnum := by
  have D_rfig := D_rfig (P := P) (w := w) (base := base) T
  refine def_of T.d_rnum sc_rnum (fun vs H Q E h => ?_) (fun _ _ _ _ _ _ us hl => match us, hl with | [_], _ => rfl) (fun f cdv A outer s H vs Q E hr h => ?_)
  · obtain ⟨i, rfl, _⟩ := h
    rfl
  · obtain ⟨i, rfl, hi, k⟩ := h
    have nd := sc_rnum.nd
    refine ⟨_, (pss_cons (ps_if (pt_not (pt_val (pe_callB call_isT rfl T.n_isinstance boot_isinstance (pa_cons (pv 0) (pa_cons (pe_ty (T := "str") rfl T.n_str boot_str) pa_nil))))) (pss_one (ps_ret pe_non)) pss_nil)
      (pss_cons (ps_if (pt_not (pt_val (pe_start (pv 0) (pe_strT (cs := [45]) (by decide +kernel))))) (pss_one (ps_ret (pe_def D_rfig hr (pa_cons (pv 0) pa_nil)))) pss_nil)
      (pss_cons (ps_set (i := 1) nd rfl (Or.inl rfl) (pe_def D_rfig hr (pa_cons (pe_slB (pv 0) pe_int) pa_nil)))
      (pss_cons (ps_if (PW.pt (pw_or (pt_cmpR op_isNN (pv 1) pe_non (nomark _)) (pw_or1 (pt_cmpR op_eq (pv 1) pe_int (nomark _))))) (pss_one (ps_ret pe_non)) pss_nil)
      (pss_one (ps_ret (pe_un un_neg (pv 1)))))))), ?_⟩
    clear nd D_rfig
    rw [show start ["word", "number"] [ts (numT i)] = [some (ts (numT i)), none] from rfl]
    try dsimp only [cx_K, cx_K2]
    have F : SH H [] H [] [] := SH.nil
    have rd := rd_dg hi
    have fa : FigA (dg i.natAbs) (some i.natAbs) := ⟨rd⟩
    have ln := dg_length 29 hi
    by_cases h0 : i < 0
    · rw [show numT i = 45 :: dg i.natAbs from if_pos h0]
      have ha : HdA (45 :: dg i.natAbs) true := ⟨by rw [start_c]; rfl⟩
      repeat k_meth
      rw [show (-(i.natAbs : Int)) = i by omega]
      exact k _ F.sm
    · rw [show numT i = dg i.natAbs from if_neg h0]
      obtain ⟨c, r, e, hc, _⟩ := dg_no45 (n := i.natAbs)
      have ha : HdA (dg i.natAbs) false := ⟨by rw [e, start_c]; exact decide_eq_false hc⟩
      repeat k_meth
      rw [show (i.natAbs : Int) = i by omega]
      exact k _ F.sm
end
inductive Pa where
  | n (i : Int)
  | w (t : List Nat)
def paT : Pa → List Nat
  | .n i => numT i
  | .w t => t
def paV : Pa → V
  | .n i => .int i
  | .w t => ts t
def fits (k : Str) : Pa → Prop
  | .n i => k = tx [78] ∧ i.natAbs < 10 ^ 30
  | .w _ => k ≠ tx [78]
theorem pa_flat (ps : List Pa) : (ps.map paV).all flatV = true := List.all_eq_true.mpr fun z hz => by
  obtain ⟨b, _, rfl⟩ := List.mem_map.mp hz
  cases b <;> rfl
class InN (xs : List V) (b : outParam Bool) : Prop where
  e : inV .non xs = b
instance go_inN {K : PySem.W.Frag} {H : Hp} {Q : VK} {p : Addr} {xs : List V} {b : Bool} [h : SqA K H p xs] [a : InN xs b] : Go (rIn K false .non (.ref p) H Q) (Sd (xs.all flatV = true) (Q (.bl b) H)) := ⟨fun s => ⟨_, _, rfl, .inl h.e, rfl, s.1, by rw [if_neg (by decide), a.e]; exact s.2⟩⟩
theorem pa_inN (ps : List Pa) : InN (ps.map paV) false := ⟨by
  unfold inV
  rw [List.any_eq_false]
  intro z hz
  obtain ⟨b, _, rfl⟩ := List.mem_map.mp hz
  cases b <;> simp [paV, eqV]⟩
theorem map_at {α β : Type} {f : α → β} {xs : List α} {i : Nat} {v : β} (h : (xs.map f)[i]? = some v) : ∃ a, xs[i]? = some a ∧ v = f a := by
  rw [List.getElem?_map] at h
  cases e : xs[i]? with
  | none => rw [e] at h; cases h
  | some a => rw [e] at h; exact ⟨a, rfl, (Option.some.inj h).symm⟩
def sp_rshape (K : PySem.W.Frag) : Sp := fun vs H Q _ => ∃ (a p : Addr) (ks : List Str) (ps : List Pa), vs = [.ref a, .ref p] ∧ (∀ H, SqT K H a (ks.map V.str)) ∧ H p = some (.lst (ps.map fun b => ts (paT b))) ∧ ks.length = ps.length ∧ ps.length ≤ 1000 ∧ (∀ (i : Nat) k b, ks[i]? = some k → ps[i]? = some b → fits k b) ∧ ∀ q H', New H H' q (.lst (ps.map paV)) → Q (.ref q) H'
section
variable {P : Program} {w : World} {K : PySem.W.Frag} {mg : Str → Option Value} {base : Heap} {c : Nat → Addr} {R aM aS aT aB aD : Addr} {kv : List (Key × V)}
theorem D_rshape (T : Txt w K mg c R aM aS aT aB aD kv) : Def P w K mg base CX0 3 "read_shape" ["shape", "words"] (sp_rshape K) := by
  have D_rnum := D_rnum (P := P) (w := w) (base := base) T
  refine def_of T.d_rshape sc_rshape (fun vs H Q E h => ?_) (fun _ _ _ _ _ _ us hl => match us, hl with | [_, _], _ => rfl) (fun f cdv A outer s H vs Q E hr h => ?_)
  · obtain ⟨a, p, ks, ps, rfl, _⟩ := h
    rfl
  · obtain ⟨a, p, ks, ps, rfl, ha, hp, hl, hm, hf, k⟩ := h
    have nd := sc_rshape.nd
    refine ⟨_, (pss_cons (ps_if (pt_cmpR op_ne (pe_callB call_lenN rfl T.n_len boot_len (pa_cons (pv 1) pa_nil)) (pe_callB call_lenN rfl T.n_len boot_len (pa_cons (pv 0) pa_nil)) (nomark _)) (pss_one (ps_ret pe_non)) pss_nil)
      (pss_cons (ps_setc (i := 2) nd rfl (Or.inl rfl) (N := ["kind", "word"]) (nt := 2) (fr := []) (pi_zm rfl T.n_zip (pa_cons (pv 0) (pa_cons (pv 1) pa_nil))) (fun _ _ _ _ => (pg_tupK (K := K) (n := 2) rfl rfl (pgs_cons (pg_name (i := 0) (show (["kind", "word"] : List Str).Nodup from by decide +kernel) rfl (Or.inl rfl)) (pgs_cons (pg_name (i := 1) (show (["kind", "word"] : List Str).Nodup from by decide +kernel) rfl (Or.inl rfl)) pgs_nil)))) (fun _ _ _ _ => pif_nil) (fun _ _ _ _ => (pe_ifExp (pt_cmpR op_eq (pv 0) (pe_strT (cs := [78]) (by decide +kernel)) (nomark _)) (pe_def D_rnum hr (pa_cons (pv 1) pa_nil)) (pv 1))))
      (pss_one (ps_ret (pe_ifExp (pt_cmpR op_in_seq pe_non (pv 2) (by with_unfolding_all rfl)) pe_non (pv 2)))))), ?_⟩
    clear nd D_rnum
    rw [show start ["shape", "words", "told"] [.ref a, .ref p] = [some (.ref a), some (.ref p), none] from rfl]
    try dsimp only [cx_K, cx_K2]
    have hb : ∀ H', SqB K H' a (ks.map V.str) := fun H' => ⟨ha H'⟩
    have F : SH H [p] H [(p, .lst (ps.map fun b => ts (paT b)))] [] := SH.nil.addM List.mem_cons_self hp rfl (by simp)
    repeat k_meth
    refine comp_zipF (fun i => ((ps[i]?).map paV).getD .non) (itemsZ_mix (by simp [hl])) rfl (by simp; omega) rfl (fun H' s => ⟨ha H', SqL.of (s _ _ hp)⟩) (fun i u v H' R hu hv s kk => ?_) fun q H' nw => ?_
    · obtain ⟨kd, hk, rfl⟩ := map_at hu
      obtain ⟨b, hb2, rfl⟩ := map_at hv
      have ff := hf i kd b hk hb2
      rw [hb2] at kk
      clear F
      have F : SH H' [] H' [] [] := SH.nil
      cases b with
      | n i =>
        obtain ⟨rfl, hi⟩ := ff
        repeat k_meth
        exact ⟨i, rfl, hi, kk⟩
      | w t =>
        have e1 : decide (kd = tx [78]) = false := decide_eq_false ff
        repeat k_meth
        rw [e1]
        repeat k_meth
        exact kk _ (Same.refl _)
    · have F := F.newL nw
      have e : (List.range (List.map V.str ks).length).map (fun i => ((ps[i]?).map paV).getD V.non) = ps.map paV := by
        rw [List.length_map, hl]
        apply List.ext_getElem?
        intro j
        rw [List.getElem?_map, List.getElem?_map]
        by_cases h : j < ps.length
        · rw [List.getElem?_range h, List.getElem?_eq_getElem h]
          simp [List.getElem?_eq_getElem h]
        · rw [List.getElem?_eq_none (by rw [List.length_range]; omega), List.getElem?_eq_none (by omega)]
          rfl
      rw [e] at F nw
      have i1 := pa_inN ps
      have i2 := pa_flat ps
      repeat k_meth
      exact k _ _ nw
end
abbrev tFi : List Nat := [102, 105, 114, 115, 116]
theorem New.of {H H1 H2 : Hp} {q : Addr} {o : HO} (s : Same H H1) (n : New H1 H2 q o) : New H H2 q o := ⟨s.trans n.s, n.e, fun a u h => n.n a u (s _ _ h)⟩
def sp_rmem : Sp := fun vs H Q _ => ∃ (p : Addr) (i : Int) (t : List Nat), vs = [.ref p] ∧ (H p = some (.lst [ts (numT i), ts t]) ∨ (H p = some (.lst [ts (numT i)]) ∧ t = tFi)) ∧ i.natAbs < 10 ^ 30 ∧ ∀ q H', New H H' q (.lst [.int i, ts t]) → Q (.ref q) H'
def valsT : List Int → List Nat
  | [] => []
  | [i] => numT i
  | i :: j :: r => numT i ++ 44 :: valsT (j :: r)
theorem num_no {i : Int} {c : Nat} (h : c ∈ numT i) : c = 45 ∨ (48 ≤ c ∧ c ≤ 57) := by
  have hd : ∀ c, c ∈ dg i.natAbs → (48 ≤ c ∧ c ≤ 57) := fun c hc => by
    have := dg_fig (n := i.natAbs) c hc
    unfold isFig at this
    simp at this
    omega
  unfold numT at h
  split at h
  · rcases List.mem_cons.mp h with h | h
    · exact .inl h
    · exact .inr (hd c h)
  · exact .inr (hd c h)
theorem num_len {i : Int} (hi : i.natAbs < 10 ^ 30) : 1 ≤ (numT i).length ∧ (numT i).length ≤ 31 := by
  have := dg_length 29 hi
  unfold numT
  split
  · rw [List.length_cons]; omega
  · omega
theorem vals_split : ∀ {is : List Int}, is ≠ [] → splitC 44 (valsT is) = is.map numT
  | [], h => absurd rfl h
  | [i], _ => splitC_no fun h => by have := num_no h; omega
  | i :: j :: r, _ => by
    show splitC 44 (numT i ++ 44 :: valsT (j :: r)) = _
    rw [splitC_app (fun h => by have := num_no h; omega), vals_split (List.cons_ne_nil j r)]
    rfl
theorem vals_len : ∀ (is : List Int), (∀ i ∈ is, i.natAbs < 10 ^ 30) → (valsT is).length ≤ 32 * is.length
  | [], _ => Nat.le_refl _
  | [i], h => by have := (num_len (h i List.mem_cons_self)).2; show (numT i).length ≤ 32; omega
  | i :: j :: r, h => by
    have h1 := (num_len (h i List.mem_cons_self)).2
    have h2 := vals_len (j :: r) fun k hk => h k (List.mem_cons_of_mem _ hk)
    show (numT i ++ 44 :: valsT (j :: r)).length ≤ _
    rw [List.length_append, List.length_cons, List.length_cons]
    omega
def sp_rvals : Sp := fun vs H Q _ => ∃ (is : List Int), vs = [ts (valsT is), .int (is.length : Nat)] ∧ is ≠ [] ∧ is.length ≤ 100 ∧ (∀ i ∈ is, i.natAbs < 10 ^ 30) ∧ ∀ q H', New H H' q (.lst (is.map V.int)) → Q (.ref q) H'
section
variable {P : Program} {w : World} {K : PySem.W.Frag} {mg : Str → Option Value} {base : Heap} {c : Nat → Addr} {R aM aS aT aB aD : Addr} {kv : List (Key × V)}
theorem D_rmem (T : Txt w K mg c R aM aS aT aB aD kv) : Def P w K mg base CX0 4 "read_memory" ["words"] sp_rmem := by
  have D_rshape := D_rshape (P := P) (w := w) (base := base) T
  refine def_of T.d_rmem sc_rmem (fun vs H Q E h => ?_) (fun _ _ _ _ _ _ us hl => match us, hl with | [_], _ => rfl) (fun f cdv A outer s H vs Q E hr h => ?_)
  · obtain ⟨p, i, t, rfl, _⟩ := h
    rfl
  · obtain ⟨p, i, t, rfl, hp, hi, k⟩ := h
    have nd := sc_rmem.nd
    refine ⟨_, (pss_cons (ps_if (pt_cmpR op_eq (pe_callB call_lenN rfl T.n_len boot_len (pa_cons (pv 0) pa_nil)) pe_int (nomark _)) (pss_one (ps_ret (pe_def D_rshape hr (pa_cons (pe_gl T.g_MEMORY_SHAPE) (pa_cons (pe_op op_catA (pv 0) (pe_lstA (pa_cons (pe_strT (cs := [102, 105, 114, 115, 116]) (by decide +kernel)) pa_nil))) pa_nil))))) pss_nil)
      (pss_one (ps_ret (pe_def D_rshape hr (pa_cons (pe_gl T.g_MEMORY_SHAPE) (pa_cons (pv 0) pa_nil)))))), ?_⟩
    clear nd D_rshape
    rw [show start ["words"] [.ref p] = [some (.ref p)] from rfl]
    try dsimp only [cx_K, cx_K2]
    have F : SH H [] H [] [] := SH.nil
    have sh := T.q_aM
    have ft : ∀ (j : Nat) (kd : Str) b, ([("N" : Str), "word"] : List Str)[j]? = some kd → [Pa.n i, Pa.w t][j]? = some b → fits kd b := fun j kd b h1 h2 => by
      match j with
      | 0 => cases h1; cases h2; exact ⟨rfl, hi⟩
      | 1 => cases h1; cases h2; exact (by decide : (Str.ofString "word") ≠ tx [78])
      | j + 2 => cases h1
    rcases hp with hp | ⟨hp, rfl⟩
    · have o_hp := Old.mk (M := []) hp nm0
      repeat k_meth
      exact ⟨aM, p, ["N", "word"], [.n i, .w t], rfl, sh, hp, rfl, by simp, ft, k⟩
    · have o_hp := Old.mk (M := []) hp nm0
      repeat k_meth
      exact ⟨aM, p_, ["N", "word"], [.n i, .w tFi], rfl, sh, hatC, rfl, by simp, ft, fun q H' n => k q H' (New.of F.sm n)⟩
theorem D_rvals (T : Txt w K mg c R aM aS aT aB aD kv) : Def P w K mg base CX0 3 "read_values" ["word", "size"] sp_rvals := by
  have D_rnum := D_rnum (P := P) (w := w) (base := base) T
  refine def_of T.d_rvals sc_rvals (fun vs H Q E h => ?_) (fun _ _ _ _ _ _ us hl => match us, hl with | [_, _], _ => rfl) (fun f cdv A outer s H vs Q E hr h => ?_)
  · obtain ⟨is, rfl, _⟩ := h
    rfl
  · obtain ⟨is, rfl, hn, hl, hi, k⟩ := h
    have nd := sc_rvals.nd
    refine ⟨_, (pss_cons (ps_setc (i := 2) nd rfl (Or.inl rfl) (N := ["part"]) (nt := 1) (fr := []) (pi_list (pe_split (pv 0) (pe_strT (cs := [44]) (by decide +kernel)))) (fun _ _ _ _ => (pg_name (i := 0) (show (["part"] : List Str).Nodup from by decide +kernel) rfl (Or.inl rfl))) (fun _ _ _ _ => pif_nil) (fun _ _ _ _ => (pe_def D_rnum hr (pa_cons (pv 0) pa_nil))))
      (pss_one (ps_ret (pe_ifExp (PW.pt (pw_or (pt_cmpR op_ne (pe_callB call_lenN rfl T.n_len boot_len (pa_cons (pv 2) pa_nil)) (pv 1) (nomark _)) (pw_or1 (pt_cmpR op_in_seq pe_non (pv 2) (by with_unfolding_all rfl))))) pe_non (pv 2))))), ?_⟩
    clear nd D_rnum
    rw [show start ["word", "size", "told"] [ts (valsT is), .int (is.length : Nat)] = [some (ts (valsT is)), some (.int (is.length : Nat)), none] from rfl]
    try dsimp only [cx_K, cx_K2]
    have F : SH H [] H [] [] := SH.nil
    have sp : SplA 44 (valsT is) (is.map fun i => ts (numT i)) := ⟨by rw [vals_split hn, List.map_map]; rfl⟩
    have ln := vals_len is hi
    repeat k_meth
    refine comp_map (P := fun j y => ∃ i, is[j]? = some i ∧ y = .int i) (items_list (xs := is.map fun i => ts (numT i))) (by simp; omega) rfl (fun H' s => s.seq (SqA.e : SqL K H_ p_ _)) (fun j v H' R hv s kk => ?_) fun q H' ys nw hy hP => ?_
    · obtain ⟨i, hj, rfl⟩ := map_at hv
      clear F
      have F : SH H' [] H' [] [] := SH.nil
      repeat k_meth
      exact ⟨i, rfl, hi i (List.mem_of_getElem? hj), fun H2 s2 => kk _ _ s2 ⟨i, hj, rfl⟩⟩
    · have e : ys = is.map V.int := by
        rw [List.length_map] at hy
        apply List.ext_getElem?
        intro j
        rw [List.getElem?_map]
        by_cases h : j < ys.length
        · rw [List.getElem?_eq_getElem h]
          obtain ⟨i, h1, h2⟩ := hP j _ (List.getElem?_eq_getElem h)
          rw [h1, h2]
          rfl
        · rw [List.getElem?_eq_none (by omega), List.getElem?_eq_none (by omega)]
          rfl
      subst e
      have s0 := F.sm
      have F := F.newL nw
      have e1 : decide (((is.map V.int).length : Int) = (is.length : Int)) = true := decide_eq_true (by simp)
      have i1 : InN (is.map V.int) false := by
        have := pa_inN (is.map Pa.n)
        rw [List.map_map] at this
        exact this
      have i2 : (is.map V.int).all flatV = true := by
        have := pa_flat (is.map Pa.n)
        rw [List.map_map] at this
        exact this
      repeat k_meth
      rw [e1]
      repeat k_meth
      exact k _ _ (New.of s0 nw)
end
abbrev Mv := List Nat × Int
def mvT (m : Mv) : List V := [ts m.1, ts (numT m.2)]
def mvV (m : Mv) : List V := [ts m.1, .int m.2]
theorem cut_nn (xs : List V) (a b : Nat) (h : a + b ≤ xs.length) : cutV xs (some (a : Int)) (some ((a : Int) + (b : Int))) = (xs.drop a).take b := by
  unfold cutV
  rw [show (a : Int) + (b : Int) = ((a + b : Nat) : Int) by omega, HT.sIx_nat, HT.sIx_nat, show min a xs.length = a by omega, show min (a + b) xs.length - a = b by omega]
theorem flat_len {α : Type} {f : α → List V} {n : Nat} (h2 : ∀ a, (f a).length = n) (xs : List α) : (xs.flatMap f).length = n * xs.length := by
  induction xs with
  | nil => simp
  | cons a r ih => rw [List.flatMap_cons, List.length_append, ih, h2, List.length_cons, Nat.mul_add]; omega
theorem flat_at {α : Type} {f : α → List V} {n : Nat} (h2 : ∀ a, (f a).length = n) : ∀ {xs : List α} {i : Nat} {a : α}, xs[i]? = some a → ((xs.flatMap f).drop (n * i)).take n = f a
  | [], i, a, h => by cases h
  | x :: r, 0, a, h => by
    cases h
    rw [List.flatMap_cons, Nat.mul_zero, List.drop_zero, ← h2 x, List.take_left]
  | x :: r, i + 1, a, h => by
    rw [List.flatMap_cons, List.drop_append, List.drop_of_length_le (by rw [h2, Nat.mul_add]; omega), List.nil_append, h2, show n * (i + 1) - n = n * i by rw [Nat.mul_add]; omega]
    exact flat_at h2 (xs := r) h
theorem cut_blk {α : Type} {f : α → List V} {n : Nat} (h2 : ∀ a, (f a).length = n) (hd : List V) {m : Nat} (hm : hd.length = m) {xs : List α} {i : Nat} {a : α} (h : xs[i]? = some a) : cutV (hd ++ xs.flatMap f) (some ((m + n * i : Nat) : Int)) (some (((m + n * i : Nat) : Int) + (n : Int))) = f a := by
  have hi : i < xs.length := (List.getElem?_eq_some_iff.mp h).1
  have : n * i + n ≤ n * xs.length := by rw [show n * i + n = n * (i + 1) by rw [Nat.mul_add]; omega]; exact Nat.mul_le_mul_left n hi
  rw [cut_nn _ _ _ (by rw [List.length_append, flat_len h2]; omega), ← hm, List.drop_append, List.drop_of_length_le (by omega), List.nil_append, show hd.length + n * i - hd.length = n * i by omega, flat_at h2 h]
theorem steps2 (m : Nat) : (Builtin.Range.rangeSize 0 ((2 * m : Nat) : Int) 2).toNat = m := by
  unfold Builtin.Range.rangeSize
  rw [if_pos (by decide)]
  split <;> omega
theorem steps6 (m : Nat) : (Builtin.Range.rangeSize 3 ((3 + 6 * m : Nat) : Int) 6).toNat = m := by
  unfold Builtin.Range.rangeSize
  rw [if_pos (by decide)]
  split <;> omega
def sp_rslide : Sp := fun vs H Q _ => ∃ (p : Addr) (ms : List Mv), vs = [.ref p] ∧ H p = some (.lst (ms.flatMap mvT)) ∧ ms ≠ [] ∧ ms.length ≤ 100 ∧ (∀ m ∈ ms, m.2.natAbs < 10 ^ 30) ∧ ∀ q l ys H', SH H [] H' [(q, .lst [.ref l]), (l, .lst ys)] [.tps ys (ms.map mvV)] → Q (.ref q) H'
section
variable {P : Program} {w : World} {K : PySem.W.Frag} {mg : Str → Option Value} {base : Heap} {c : Nat → Addr} {R aM aS aT aB aD : Addr} {kv : List (Key × V)}
theorem D_rslide (T : Txt w K mg c R aM aS aT aB aD kv) : Def P w K mg base CX0 4 "read_slide" ["words"] sp_rslide := by
  have D_rshape := D_rshape (P := P) (w := w) (base := base) T
  refine def_of T.d_rslide sc_rslide (fun vs H Q E h => ?_) (fun _ _ _ _ _ _ us hl => match us, hl with | [_], _ => rfl) (fun f cdv A outer s H vs Q E hr h => ?_)
  · obtain ⟨p, ms, rfl, _⟩ := h
    rfl
  · obtain ⟨p, ms, rfl, hp, hn, hl, hi, k⟩ := h
    have nd := sc_rslide.nd
    refine ⟨_, (pss_cons (ps_set (i := 1) nd rfl (Or.inl rfl) (pe_lstA pa_nil))
      (pss_cons (ps_for PassesOwn.never rfl (pi_range3 rfl T.n_range (pa_cons pe_int (pa_cons (pe_callB call_lenN rfl T.n_len boot_len (pa_cons (pv 0) pa_nil)) (pa_cons pe_int pa_nil)))) (pg_name (i := 2) nd rfl (Or.inl rfl)) (pss_cons (ps_set (i := 3) nd rfl (Or.inl rfl) (pe_def D_rshape hr (pa_cons (pe_gl T.g_SLIDE_SHAPE) (pa_cons (pe_slice sl_listA (pv 0) (po_some (pv 2)) (po_some (pe_op op_add (pv 2) pe_int))) pa_nil))))
        (pss_cons (ps_if (pt_cmpR op_isNN (pv 3) pe_non (nomark _)) (pss_one (ps_ret pe_non)) pss_nil)
        (pss_one (ps_expr (pe_appendA (pv 1) (pe_callTy call_tuple_ofA rfl T.n_tuple boot_tuple (pa_cons (pv 3) pa_nil))))))))
      (pss_one (ps_ret (pe_ifExp (pt_cmpR (op_eqE hr) (pv 1) (pe_lstA pa_nil) (nomark _)) pe_non (pe_lstA (pa_cons (pv 1) pa_nil))))))), ?_⟩
    clear nd D_rshape
    rw [show start ["words", "moves", "at", "move"] [.ref p] = [some (.ref p), none, none, none] from rfl]
    try dsimp only [cx_K, cx_K2]
    have o_hp := Old.mk (M := []) hp nm0
    have F : SH H [] H [] [] := SH.nil
    have sh := T.q_aS
    have l2 : ∀ m, (mvT m).length = 2 := fun _ => rfl
    have fl := flat_len l2 ms
    repeat k_meth
    obtain ⟨mv, e⟩ : ∃ mv, mv = p_ := ⟨_, rfl⟩
    subst e
    rw [show ((ms.flatMap mvT).length : Int) = ((2 * ms.length : Nat) : Int) by rw [fl], steps2]
    refine forS_by (fun i σ' H' => ∃ (o2 o3 : Option V) (ys : List V), σ' = [some (.ref p), some (.ref mv), o2, o3] ∧ ys.length = i ∧ SH H [] H' [(mv, .lst ys)] [.tps ys ((ms.take i).map mvV)]) ⟨_, _, [], rfl, rfl, (F.addP (ys := []) (rs := []) TupsAt.nil).sub SbC.s (fun _ h => h)⟩ ?_ ?_
    · clear F
      rintro i σ' H' hlt ⟨_, _, ys, rfl, yl, F⟩
      obtain ⟨m, hm⟩ : ∃ m, ms[i]? = some m := ⟨ms[i], by simp⟩
      have cu := cut_blk l2 [] rfl hm
      rw [List.nil_append] at cu
      rw [show (0 : Int) + (i : Int) * 2 = ((0 + 2 * i : Nat) : Int) by omega]
      have ca : CutA (ms.flatMap mvT) (some ((0 + 2 * i : Nat) : Int)) (some (((0 + 2 * i : Nat) : Int) + 2)) (mvT m) := ⟨cu⟩
      have h30 := hi m (List.mem_of_getElem? hm)
      have ft : ∀ (j : Nat) (kd : Str) b, ([("name" : Str), "N"] : List Str)[j]? = some kd → [Pa.w m.1, Pa.n m.2][j]? = some b → fits kd b := fun j kd b h1 h2 => by
        match j with
        | 0 => cases h1; cases h2; exact (by decide : (Str.ofString "name") ≠ tx [78])
        | 1 => cases h1; cases h2; exact ⟨rfl, h30⟩
        | j + 2 => cases h1
      repeat k_meth
      refine ⟨aS, p_, ["name", "N"], [.w m.1, .n m.2], rfl, sh, hatC, rfl, by simp, ft, fun q H2 nw => ?_⟩
      have F := F.newL nw
      repeat k_meth
      have F2 := SH.app (ys := ys) (rs := (ms.take i).map mvV) (q := p_) (r := mvV m) F (LkP.m) (LkI.m)
      refine ⟨_, _, ys ++ [.ref p_], rfl, by rw [List.length_append, yl]; rfl, ?_⟩
      rw [show (ms.take (i + 1)).map mvV = (ms.take i).map mvV ++ [mvV m] by rw [List.take_succ, hm, List.map_append]; rfl]
      exact F2.sub SbC.s (by simp)
    · clear F
      rintro σ' H' ⟨_, _, ys, rfl, yl, F⟩
      have ne : ys ≠ [] := fun e => by
        rw [e] at yl
        exact hn (List.eq_nil_of_length_eq_zero yl.symm)
      repeat k_meth
      rw [List.take_length] at F
      exact k p_ mv ys H_ (F.sub SbC.s (fun _ h => h))
end
structure Bk where
  nm : List Nat
  st : Int
  pn : Int
  vs : List Int
def bkT (b : Bk) : List V := [ts [59], ts b.nm, ts (numT b.st), ts (numT (b.vs.length : Nat)), ts (numT b.pn), ts (valsT b.vs)]
def bkV (b : Bk) : List V := [ts b.nm, .int b.st, .int (b.vs.length : Nat), .int b.pn]
structure OkB (b : Bk) : Prop where
  st : b.st.natAbs < 10 ^ 30
  pn : b.pn.natAbs < 10 ^ 30
  vs : ∀ i ∈ b.vs, i.natAbs < 10 ^ 30
  ne : b.vs ≠ []
  ln : b.vs.length ≤ 100
def sp_rblock : Sp := fun vs H Q _ => ∃ (p : Addr) (b : Bk), vs = [.ref p] ∧ H p = some (.lst (bkT b)) ∧ OkB b ∧ ∀ t r v H', SH H [] H' [(v, .lst (b.vs.map V.int))] [.tup t [.ref r, .ref v], .tup r (bkV b)] → Q (.ref t) H'
theorem SH.prm {H0 H : Hp} {M : List Addr} {L L' : List (Addr × HO)} {I : List Im} (F : SH H0 M H L I) (h : L'.Perm L) : SH H0 M H L' I := ⟨F.fr, F.im, fun c hc => F.at' c (h.mem_iff.mp hc), (h.map _).nodup_iff.mpr F.nd, fun c hc => F.mu c (h.mem_iff.mp hc), fun c hc => F.ch c (h.mem_iff.mp hc)⟩
theorem SH.sbl {H0 H : Hp} {M : List Addr} {L L' : List (Addr × HO)} {I : List Im} (F : SH H0 M H L I) (h : L'.Sublist L) : SH H0 M H L' I := ⟨F.fr, F.im, fun c hc => F.at' c (h.mem hc), (h.map _).nodup F.nd, fun c hc => F.mu c (h.mem hc), fun c hc => F.ch c (h.mem hc)⟩
theorem SH.thn {H0 H H' : Hp} {L L2 : List (Addr × HO)} {I I2 : List Im} (F : SH H0 [] H L I) (G : SH H [] H' L2 I2) : SH H0 [] H' (L2 ++ L) (I2 ++ I) := by
  have F2 := F.same G.sm
  have fr : ∀ c ∈ L2, ∀ b u, H b = some u → b ≠ c.1 := fun c hc => (G.ch c hc).elim (fun h => absurd h List.not_mem_nil) id
  refine ⟨F2.fr, fun f hf => (List.mem_append.mp hf).elim (G.im f) (F2.im f), fun c hc => (List.mem_append.mp hc).elim (G.at' c) (F2.at' c), ?_, fun c hc => (List.mem_append.mp hc).elim (G.mu c) (F2.mu c), fun c hc => ?_⟩
  · rw [List.map_append, List.nodup_append]
    refine ⟨G.nd, F.nd, fun a ha b hb e => ?_⟩
    obtain ⟨x, hx, rfl⟩ := List.mem_map.mp ha
    obtain ⟨y, hy, rfl⟩ := List.mem_map.mp hb
    exact fr x hx _ _ (F.at' y hy) e.symm
  · rcases List.mem_append.mp hc with h | h
    · exact .inr fun b u e => fr c h b u (F.sm _ _ e)
    · exact F.ch c h
def sp_rstand : Sp := fun vs H Q _ => ∃ (p : Addr) (i j : Int) (t : List Nat) (bs : List Bk), vs = [.ref p] ∧ H p = some (.lst ([ts (numT i), ts t, ts (numT j)] ++ bs.flatMap bkT)) ∧ i.natAbs < 10 ^ 30 ∧ j.natAbs < 10 ^ 30 ∧ bs.length ≤ 100 ∧ (∀ b ∈ bs, OkB b) ∧ ∀ q l m ys qs H', qs.length = bs.length → SH H [] H' ((q, .lst [.int i, ts t, .int j, .ref l, .ref m]) :: (l, .lst ys) :: (m, .lst (qs.map V.ref)) :: hsR qs (bs.map fun b => b.vs.map V.int)) [.tps ys (bs.map bkV)] → Q (.ref q) H'
section
variable {P : Program} {w : World} {K : PySem.W.Frag} {mg : Str → Option Value} {base : Heap} {c : Nat → Addr} {R aM aS aT aB aD : Addr} {kv : List (Key × V)}
theorem D_rblock (T : Txt w K mg c R aM aS aT aB aD kv) : Def P w K mg base CX0 4 "read_block" ["words"] sp_rblock := by
  have D_rshape := D_rshape (P := P) (w := w) (base := base) T
  have D_rvals := D_rvals (P := P) (w := w) (base := base) T
  refine def_of T.d_rblock sc_rblock (fun vs H Q E h => ?_) (fun _ _ _ _ _ _ us hl => match us, hl with | [_], _ => rfl) (fun f cdv A outer s H vs Q E hr h => ?_)
  · obtain ⟨p, b, rfl, _⟩ := h
    rfl
  · obtain ⟨p, b, rfl, hp, ok, k⟩ := h
    have nd := sc_rblock.nd
    refine ⟨_, (pss_cons (ps_if (PW.pt (pw_or (pt_cmpR op_ne (pe_callB call_lenN rfl T.n_len boot_len (pa_cons (pv 0) pa_nil)) (pe_gl T.g_BLOCK_WORDS) (nomark _)) (pw_or1 (pt_cmpR op_ne (pe_ix ix_list (pv 0) pe_int (fun _ _ => rfl)) (pe_strT (cs := [59]) (by decide +kernel)) (nomark _))))) (pss_one (ps_ret pe_non)) pss_nil)
      (pss_cons (ps_set (i := 1) nd rfl (Or.inl rfl) (pe_def D_rshape hr (pa_cons (pe_gl T.g_BLOCK_SHAPE) (pa_cons (pe_slice sl_listA (pv 0) (po_some pe_int) (po_some pe_int)) pa_nil))))
      (pss_cons (ps_if (pt_cmpR op_isNN (pv 1) pe_non (nomark _)) (pss_one (ps_ret pe_non)) pss_nil)
      (pss_cons (ps_set (i := 2) nd rfl (Or.inl rfl) (pe_def D_rvals hr (pa_cons (pe_ix ix_list (pv 0) pe_int (fun _ _ => rfl)) (pa_cons (pe_ix ix_list (pv 1) pe_int (fun _ _ => rfl)) pa_nil))))
      (pss_one (ps_ret (pe_ifExp (pt_cmpR op_isNN (pv 2) pe_non (nomark _)) pe_non (pe_tupA (pa_cons (pe_callTy call_tuple_ofA rfl T.n_tuple boot_tuple (pa_cons (pv 1) pa_nil)) (pa_cons (pv 2) pa_nil)))))))))), ?_⟩
    clear nd D_rshape D_rvals
    rw [show start ["words", "row", "values"] [.ref p] = [some (.ref p), none, none] from rfl]
    try dsimp only [cx_K, cx_K2]
    have o_hp := Old.mk (M := []) hp nm0
    have F : SH H [] H [] [] := SH.nil
    have sh := T.q_aB
    have ft : ∀ (j : Nat) (kd : Str) d, ([("name" : Str), "N", "N", "N"] : List Str)[j]? = some kd → [Pa.w b.nm, Pa.n b.st, Pa.n (b.vs.length : Nat), Pa.n b.pn][j]? = some d → fits kd d := fun j kd b h1 h2 => by
      match j with
      | 0 => cases h1; cases h2; exact (by decide : (Str.ofString "name") ≠ tx [78])
      | 1 => cases h1; cases h2; exact ⟨rfl, ok.st⟩
      | 2 => cases h1; cases h2; exact ⟨rfl, by have := ok.ln; omega⟩
      | 3 => cases h1; cases h2; exact ⟨rfl, ok.pn⟩
      | j + 4 => cases h1
    have ca : CutA (bkT b) (some 1) (some 5) [ts b.nm, ts (numT b.st), ts (numT (b.vs.length : Nat)), ts (numT b.pn)] := ⟨rfl⟩
    have a0 : AtI (bkT b) 0 (ts [59]) := ⟨rfl⟩
    have a5 : AtI (bkT b) 5 (ts (valsT b.vs)) := ⟨rfl⟩
    repeat k_meth
    rw [show decide (((bkT b).length : Int) = 6) = true from decide_eq_true rfl]
    repeat k_meth
    refine ⟨aB, p_, ["name", "N", "N", "N"], [.w b.nm, .n b.st, .n (b.vs.length : Nat), .n b.pn], rfl, sh, hatC, rfl, by simp, ft, fun q H2 nw => ?_⟩
    have F := F.newL nw
    have a2 : AtI ([Pa.w b.nm, Pa.n b.st, Pa.n (b.vs.length : Nat), Pa.n b.pn].map paV) 2 (.int (b.vs.length : Nat)) := ⟨rfl⟩
    repeat k_meth
    refine ⟨b.vs, rfl, ok.ne, ok.ln, ok.vs, fun v H3 nw => ?_⟩
    have F := F.newL nw
    repeat k_meth
    exact k p_ _ v H_ (F.sub SbC.s (fun _ h => h))
theorem D_rstand (T : Txt w K mg c R aM aS aT aB aD kv) : Def P w K mg base CX0 5 "read_stand" ["words"] sp_rstand := by
  have D_rshape := D_rshape (P := P) (w := w) (base := base) T
  have D_rblock := D_rblock (P := P) (w := w) (base := base) T
  refine def_of T.d_rstand sc_rstand (fun vs H Q E h => ?_) (fun _ _ _ _ _ _ us hl => match us, hl with | [_], _ => rfl) (fun f cdv A outer s H vs Q E hr h => ?_)
  · obtain ⟨p, i, j, t, bs, rfl, _⟩ := h
    rfl
  · obtain ⟨p, i, j, t, bs, rfl, hp, hi, hj, hl, hb, k⟩ := h
    have nd := sc_rstand.nd
    refine ⟨_, (pss_cons (ps_set (i := 1) nd rfl (Or.inl rfl) (pe_def D_rshape hr (pa_cons (pe_gl T.g_STAND_SHAPE) (pa_cons (pe_slice sl_listA (pv 0) po_none (po_some pe_int)) pa_nil))))
      (pss_cons (ps_if (pt_cmpR op_isNN (pv 1) pe_non (nomark _)) (pss_one (ps_ret pe_non)) pss_nil)
      (pss_cons (ps_set (i := 2) nd rfl (Or.inl rfl) (pe_lstA pa_nil))
      (pss_cons (ps_set (i := 3) nd rfl (Or.inl rfl) (pe_lstA pa_nil))
      (pss_cons (ps_for PassesOwn.never rfl (pi_range3 rfl T.n_range (pa_cons pe_int (pa_cons (pe_callB call_lenN rfl T.n_len boot_len (pa_cons (pv 0) pa_nil)) (pa_cons (pe_gl T.g_BLOCK_WORDS) pa_nil)))) (pg_name (i := 4) nd rfl (Or.inl rfl)) (pss_cons (ps_set (i := 5) nd rfl (Or.inl rfl) (pe_def D_rblock hr (pa_cons (pe_slice sl_listA (pv 0) (po_some (pv 4)) (po_some (pe_op op_add (pv 4) (pe_gl T.g_BLOCK_WORDS)))) pa_nil)))
        (pss_cons (ps_if (pt_cmpR op_isNN (pv 5) pe_non (nomark _)) (pss_one (ps_ret pe_non)) pss_nil)
        (pss_cons (ps_expr (pe_appendA (pv 2) (pe_ix ix_tup (pv 5) pe_int (fun _ _ => rfl))))
        (pss_one (ps_expr (pe_appendA (pv 3) (pe_ix ix_tup (pv 5) pe_int (fun _ _ => rfl)))))))))
      (pss_one (ps_ret (pe_op op_catA (pv 1) (pe_lstA (pa_cons (pv 2) (pa_cons (pv 3) pa_nil))))))))))), ?_⟩
    clear nd D_rshape D_rblock
    rw [show start ["words", "told", "rows", "values", "at", "block"] [.ref p] = [some (.ref p), none, none, none, none, none] from rfl]
    try dsimp only [cx_K, cx_K2]
    have o_hp := Old.mk (M := []) hp nm0
    have F : SH H [] H [] [] := SH.nil
    have sh := T.q_aT
    have ft : ∀ (n : Nat) (kd : Str) d, ([("N" : Str), "word", "N"] : List Str)[n]? = some kd → [Pa.n i, Pa.w t, Pa.n j][n]? = some d → fits kd d := fun n kd b h1 h2 => by
      match n with
      | 0 => cases h1; cases h2; exact ⟨rfl, hi⟩
      | 1 => cases h1; cases h2; exact (by decide : (Str.ofString "word") ≠ tx [78])
      | 2 => cases h1; cases h2; exact ⟨rfl, hj⟩
      | n + 3 => cases h1
    have l6 : ∀ b, (bkT b).length = 6 := fun _ => rfl
    have fl := flat_len l6 bs
    have ca : CutA ([ts (numT i), ts t, ts (numT j)] ++ bs.flatMap bkT) none (some 3) [ts (numT i), ts t, ts (numT j)] := ⟨by
      unfold cutV
      rw [show (some (3 : Int)) = some ((3 : Nat) : Int) from rfl, HT.sIx_nat]
      show List.take (min 3 _ - 0) (List.drop 0 _) = _
      rw [List.length_append, show min 3 ([ts (numT i), ts t, ts (numT j)].length + (bs.flatMap bkT).length) - 0 = 3 by simp]
      rfl⟩
    repeat k_meth
    refine ⟨aT, p_, ["N", "word", "N"], [.n i, .w t, .n j], rfl, sh, hatC, rfl, by simp, ft, fun q H2 nw => ?_⟩
    have F := F.newL nw
    have fl2 : ([ts (numT i), ts t, ts (numT j)] ++ bs.flatMap bkT).length = 3 + 6 * bs.length := by rw [List.length_append, fl]; rfl
    repeat k_meth
    obtain ⟨vl, e⟩ : ∃ mv, mv = p_ := ⟨_, rfl⟩
    subst e
    obtain ⟨rl, e⟩ : ∃ mv, mv = p_ := ⟨_, rfl⟩
    subst e
    rw [show (([ts (numT i), ts t, ts (numT j)] ++ bs.flatMap bkT).length : Int) = ((3 + 6 * bs.length : Nat) : Int) by rw [fl2], steps6]
    have F0 : SH H [] H_ [(rl, .lst []), (vl, .lst []), (q, .lst ([Pa.n i, Pa.w t, Pa.n j].map paV))] [.tps [] []] := (F.addP (ys := []) (rs := []) TupsAt.nil).sub SbC.s (fun _ h => h)
    refine forS_by (fun n σ' H' => ∃ (o4 o5 : Option V) (ys : List V) (qs : List Addr), σ' = [some (.ref p), some (.ref q), some (.ref rl), some (.ref vl), o4, o5] ∧ ys.length = n ∧ qs.length = n ∧ SH H [] H' ((rl, .lst ys) :: (vl, .lst (qs.map V.ref)) :: (q, .lst [.int i, ts t, .int j]) :: hsR qs ((bs.take n).map fun b => b.vs.map V.int)) [.tps ys ((bs.take n).map bkV)]) ⟨_, _, [], [], rfl, rfl, rfl, F0⟩ ?_ ?_
    · clear F
      rintro n σ' H' hlt ⟨_, _, ys, qs, rfl, yl, ql, F⟩
      obtain ⟨b, hm⟩ : ∃ m, bs[n]? = some m := ⟨bs[n], by simp⟩
      have cu := cut_blk l6 [ts (numT i), ts t, ts (numT j)] (m := 3) rfl hm
      rw [show (3 : Int) + (n : Int) * 6 = ((3 + 6 * n : Nat) : Int) by omega]
      have cc : CutA ([ts (numT i), ts t, ts (numT j)] ++ bs.flatMap bkT) (some ((3 + 6 * n : Nat) : Int)) (some (((3 + 6 * n : Nat) : Int) + 6)) (bkT b) := ⟨cu⟩
      repeat k_meth
      refine ⟨p_, b, rfl, hatC, hb b (List.mem_of_getElem? hm), fun tt rr v H3 G => ?_⟩
      have F := SH.thn F G
      dsimp only [List.cons_append, List.nil_append] at F
      repeat k_meth
      have F2 := SH.app (ys := ys) (rs := (bs.take n).map bkV) (q := rr) (r := bkV b) F (LkP.m) (LkI.m)
      have F3 := SH.prm (SH.sbl F2 (((List.Sublist.refl _).cons _).cons_cons _)) (List.perm_append_singleton _ (_ :: _ :: _ :: _))
      refine ⟨_, _, ys ++ [.ref rr], qs ++ [v], rfl, by rw [List.length_append, yl]; rfl, by rw [List.length_append, ql]; rfl, ?_⟩
      rw [show (bs.take (n + 1)).map bkV = (bs.take n).map bkV ++ [bkV b] by rw [List.take_succ, hm, List.map_append]; rfl, show ((bs.take (n + 1)).map fun b => b.vs.map V.int) = ((bs.take n).map fun b => b.vs.map V.int) ++ [b.vs.map V.int] by rw [List.take_succ, hm, List.map_append]; rfl, hsR_snoc (by rw [List.length_map, List.length_take]; omega), List.map_append]
      exact ⟨F3.fr, fun f hf => F3.im f (by rw [List.mem_singleton.mp hf]; exact List.mem_cons_self), F3.at', F3.nd, F3.mu, F3.ch⟩
    · clear F
      rintro σ' H' ⟨_, _, ys, qs, rfl, yl, ql, F⟩
      repeat k_meth
      rw [List.take_length] at F
      exact k p_ rl vl ys qs H_ ql (SH.sbl F (((((List.Sublist.refl _).cons _).cons_cons _).cons_cons _).cons _ |>.cons_cons _))
end
abbrev tMe : List Nat := [109, 101, 109, 111, 114, 121]
abbrev tSl' : List Nat := [115, 108, 105, 100, 101]
abbrev tSt : List Nat := [115, 116, 97, 110, 100]
inductive Ln where
  | fl (f : List Nat) (ps : List Pa)
  | me (i : Int) (t : List Nat)
  | sl (ms : List Mv)
  | st (i : Int) (t : List Nat) (j : Int) (bs : List Bk)
def lnF : Ln → List Nat
  | .fl f _ => f
  | .me _ _ => tMe
  | .sl _ => tSl'
  | .st _ _ _ _ => tSt
def lnW : Ln → List V
  | .fl _ ps => ps.map fun b => ts (paT b)
  | .me i t => [ts (numT i), ts t]
  | .sl ms => ms.flatMap mvT
  | .st i t j bs => [ts (numT i), ts t, ts (numT j)] ++ bs.flatMap bkT
def OkL : Ln → Prop
  | .fl f ps => ∃ ks, (tx f, ks) ∈ shapesT ∧ ks.length = ps.length ∧ ps.length ≤ 1000 ∧ (∀ (i : Nat) k b, ks[i]? = some k → ps[i]? = some b → fits k b) ∧ f ≠ tMe ∧ f ≠ tSl' ∧ f ≠ tSt
  | .me i _ => i.natAbs < 10 ^ 30
  | .sl ms => ms ≠ [] ∧ ms.length ≤ 100 ∧ ∀ m ∈ ms, m.2.natAbs < 10 ^ 30
  | .st i _ j bs => i.natAbs < 10 ^ 30 ∧ j.natAbs < 10 ^ 30 ∧ bs.length ≤ 100 ∧ ∀ b ∈ bs, OkB b
def Body : Ln → List V → List (Addr × HO) → List Im → Prop
  | .fl _ ps, vs, X, I => vs = ps.map paV ∧ X = [] ∧ I = []
  | .me i t, vs, X, I => vs = [.int i, ts t] ∧ X = [] ∧ I = []
  | .sl ms, vs, X, I => ∃ l ys, vs = [.ref l] ∧ X = [(l, .lst ys)] ∧ I = [.tps ys (ms.map mvV)]
  | .st i t j bs, vs, X, I => ∃ l m ys, ∃ qs : List Addr, qs.length = bs.length ∧ vs = [.int i, ts t, .int j, .ref l, .ref m] ∧ X = (l, .lst ys) :: (m, .lst (qs.map V.ref)) :: hsR qs (bs.map fun b => b.vs.map V.int) ∧ I = [.tps ys (bs.map bkV)]
def ShW (p : Ln) (ws : List V) : Prop := ws = lnW p ∨ ∃ i, p = .me i tFi ∧ ws = [ts (numT i)]
def sp_rbehind : Sp := fun vs H Q _ => ∃ (a : Addr) (p : Ln) (ws : List V), vs = [ts (lnF p), .ref a] ∧ ShW p ws ∧ H a = some (.lst ws) ∧ OkL p ∧ ∀ q ys X I H', SH H [] H' ((q, .lst ys) :: X) I → Body p ys X I → Q (.ref q) H'
theorem tx_no {f g : List Nat} (h : f ≠ g) : decide (tx f = tx g) = false := decide_eq_false fun e => h (by
  have := congrArg Str.cps e
  unfold tx at this
  simpa using this)
theorem SH.ofN {H H' : Hp} {q : Addr} {xs : List V} (n : New H H' q (.lst xs)) : SH H [] H' [(q, .lst xs)] [] := SH.nil.newL n
section
variable {P : Program} {w : World} {K : PySem.W.Frag} {mg : Str → Option Value} {base : Heap} {c : Nat → Addr} {R aM aS aT aB aD : Addr} {kv : List (Key × V)}
theorem D_rbehind (T : Txt w K mg c R aM aS aT aB aD kv) : Def P w K mg base CX0 6 "read_behind" ["first", "words"] sp_rbehind := by
  have D_rmem := D_rmem (P := P) (w := w) (base := base) T
  have D_rslide := D_rslide (P := P) (w := w) (base := base) T
  have D_rstand := D_rstand (P := P) (w := w) (base := base) T
  have D_rshape := D_rshape (P := P) (w := w) (base := base) T
  refine def_of T.d_rbehind sc_rbehind (fun vs H Q E h => ?_) (fun _ _ _ _ _ _ us hl => match us, hl with | [_, _], _ => rfl) (fun f cdv A outer s H vs Q E hr h => ?_)
  · obtain ⟨a, p, ws, rfl, _⟩ := h
    rfl
  · obtain ⟨a, p, ws, rfl, sw, hp, ok, k⟩ := h
    have nd := sc_rbehind.nd
    refine ⟨_, (pss_cons (ps_if (pt_cmpR op_eq (pv 0) (pe_strT (cs := [109, 101, 109, 111, 114, 121]) (by decide +kernel)) (nomark _)) (pss_one (ps_ret (pe_def D_rmem hr (pa_cons (pv 1) pa_nil)))) pss_nil)
      (pss_cons (ps_if (pt_cmpR op_eq (pv 0) (pe_strT (cs := [115, 108, 105, 100, 101]) (by decide +kernel)) (nomark _)) (pss_one (ps_ret (pe_def D_rslide hr (pa_cons (pv 1) pa_nil)))) pss_nil)
      (pss_cons (ps_if (pt_cmpR op_eq (pv 0) (pe_strT (cs := [115, 116, 97, 110, 100]) (by decide +kernel)) (nomark _)) (pss_one (ps_ret (pe_def D_rstand hr (pa_cons (pv 1) pa_nil)))) pss_nil)
      (pss_one (ps_ret (pe_ifExp (pt_cmpR (op_inD (T.q_aD _)) (pv 0) (pe_gl T.g_SHAPES) (by with_unfolding_all rfl)) (pe_def D_rshape hr (pa_cons (pe_dgetK (T.q_aD _) (pe_gl T.g_SHAPES) (pv 0) (fun _ _ => rfl)) (pa_cons (pv 1) pa_nil))) pe_non)))))), ?_⟩
    clear nd D_rmem D_rslide D_rstand D_rshape
    rw [show start ["first", "words"] [ts (lnF p), .ref a] = [some (ts (lnF p)), some (.ref a)] from rfl]
    try dsimp only [cx_K, cx_K2]
    have o_hp := Old.mk (M := []) hp nm0
    have F : SH H [] H [] [] := SH.nil
    cases p with
    | fl f ps =>
      obtain ⟨ks, hm, hl, h1, hf, n1, n2, n3⟩ := ok
      obtain ⟨ad, hv, hs⟩ := T.v_aD _ _ hm
      have va : ValK kv (.inr (tx f)) (.ref ad) := ⟨hv⟩
      rcases sw with rfl | ⟨_, e, _⟩
      · rw [show lnF (.fl f ps) = f from rfl]
        repeat k_meth
        rw [tx_no n1]
        repeat k_meth
        rw [tx_no n2]
        repeat k_meth
        rw [tx_no n3]
        repeat k_meth
        rw [hv, show (some (V.ref ad)).isSome = true from rfl]
        repeat k_meth
        exact ⟨ad, a, ks, ps, rfl, hs, hp, hl, h1, hf, fun q H' n => k q _ [] [] H' (SH.ofN n) ⟨rfl, rfl, rfl⟩⟩
      · cases e
    | me i t =>
      rw [show lnF (.me i t) = tMe from rfl]
      repeat k_meth
      refine ⟨a, i, t, rfl, ?_, ok, fun q H' n => k q _ [] [] H' (SH.ofN n) ⟨rfl, rfl, rfl⟩⟩
      rcases sw with rfl | ⟨j, e, rfl⟩
      · exact .inl hp
      · cases e
        exact .inr ⟨hp, rfl⟩
    | sl ms =>
      rcases sw with rfl | ⟨_, e, _⟩
      · rw [show lnF (.sl ms) = tSl' from rfl]
        repeat k_meth
        exact ⟨a, ms, rfl, hp, ok.1, ok.2.1, ok.2.2, fun q l ys H' G => k q _ _ _ H' G ⟨l, ys, rfl, rfl, rfl⟩⟩
      · cases e
    | st i t j bs =>
      rcases sw with rfl | ⟨_, e, _⟩
      · rw [show lnF (.st i t j bs) = tSt from rfl]
        repeat k_meth
        exact ⟨a, i, j, t, bs, rfl, hp, ok.1, ok.2.1, ok.2.2.1, ok.2.2.2, fun q l m ys qs H' ql G => k q _ _ _ H' G ⟨l, m, ys, qs, ql, rfl, rfl, rfl⟩⟩
      · cases e
end
structure Rd (cs : List Nat) (p : Ln) : Prop where
  ex : ∃ wds ws, splitC 32 cs = wds ∧ (wds.map fun c => ts c) = ts (lnF p) :: ws ∧ ShW p ws ∧ [] ∉ wds
  ok : OkL p
  ln : cs.length ≤ 850000
theorem body_len : ∀ {p : Ln} {ys : List V} {X : List (Addr × HO)} {I : List Im}, OkL p → Body p ys X I → ys.length ≤ 1000
  | .fl _ ps, _, _, _, ok, b => by obtain ⟨ks, _, _, h, _⟩ := ok; obtain ⟨rfl, _⟩ := b; rw [List.length_map]; exact h
  | .me _ _, _, _, _, _, b => by obtain ⟨rfl, _⟩ := b; simp
  | .sl _, _, _, _, _, b => by obtain ⟨_, _, rfl, _⟩ := b; simp
  | .st _ _ _ _, _, _, _, _, b => by obtain ⟨_, _, _, _, _, rfl, _⟩ := b; simp
def Told (H H' : Hp) (v : Addr) (p : Ln) : Prop := ∃ ys X I, SH H [] H' X (.tup v (ts (lnF p) :: ys) :: I) ∧ Body p ys X I
def sp_rline : Sp := fun vs H Q _ => ∃ (cs : List Nat) (p : Ln), vs = [ts cs] ∧ Rd cs p ∧ ∀ v H', Told H H' v p → Q (.ref v) H'
section
variable {P : Program} {w : World} {K : PySem.W.Frag} {mg : Str → Option Value} {base : Heap} {c : Nat → Addr} {R aM aS aT aB aD : Addr} {kv : List (Key × V)}
theorem D_rline (T : Txt w K mg c R aM aS aT aB aD kv) : Def P w K mg base CX0 7 "read_line" ["line"] sp_rline := by
  have D_rbehind := D_rbehind (P := P) (w := w) (base := base) T
  refine def_of T.d_rline sc_rline (fun vs H Q E h => ?_) (fun _ _ _ _ _ _ us hl => match us, hl with | [_], _ => rfl) (fun f cdv A outer s H vs Q E hr h => ?_)
  · obtain ⟨cs, p, rfl, _⟩ := h
    rfl
  · obtain ⟨cs, p, rfl, rd, k⟩ := h
    have nd := sc_rline.nd
    refine ⟨_, (pss_cons (ps_if (pt_not (pt_val (pe_callB call_isT rfl T.n_isinstance boot_isinstance (pa_cons (pv 0) (pa_cons (pe_ty (T := "str") rfl T.n_str boot_str) pa_nil))))) pss_never pss_nil)
      (pss_cons (ps_set (i := 1) nd rfl (Or.inl rfl) (pe_split (pv 0) (pe_strT (cs := [32]) (by decide +kernel))))
      (pss_cons (ps_set (i := 2) nd rfl (Or.inl rfl) (pe_ifExp (pt_cmpR op_in_seq (pe_strT (cs := []) (by decide +kernel)) (pv 1) (by with_unfolding_all rfl)) pe_non (pe_def D_rbehind hr (pa_cons (pe_ix ix_list (pv 1) pe_int (fun _ _ => rfl)) (pa_cons (pe_slice sl_listA (pv 1) (po_some pe_int) po_none) pa_nil)))))
      (pss_cons (ps_if (pt_cmpR op_isNN (pv 2) pe_non (nomark _)) pss_never pss_nil)
      (pss_one (ps_ret (pe_callTy call_tuple_ofA rfl T.n_tuple boot_tuple (pa_cons (pe_op op_catA (pe_lstA (pa_cons (pe_ix ix_list (pv 1) pe_int (fun _ _ => rfl)) pa_nil)) (pv 2)) pa_nil)))))))), ?_⟩
    clear nd D_rbehind
    rw [show start ["line", "words", "told"] [ts cs] = [some (ts cs), none, none] from rfl]
    try dsimp only [cx_K, cx_K2]
    have F : SH H [] H [] [] := SH.nil
    obtain ⟨⟨wds, ws, hs, hw, sw, hn⟩, ok, ln⟩ := rd
    have wl : wds.length ≤ 850001 := by rw [← hs]; exact Nat.le_trans (splitC_len 32 cs) (by omega)
    have w2 : ws.length ≤ 850000 := by have := congrArg List.length hw; simp at this; omega
    have sp : SplA 32 cs (wds.map fun c => V.str (tx c)) := ⟨by rw [hs]⟩
    have a0 : AtI (wds.map fun c => V.str (tx c)) 0 (ts (lnF p)) := ⟨by
      rw [show (wds.map fun c => V.str (tx c)) = ts (lnF p) :: ws from hw]
      exact atI_0⟩
    have c1 : CutA (wds.map fun c => V.str (tx c)) (some 1) none ws := ⟨by
      rw [show (wds.map fun c => V.str (tx c)) = ts (lnF p) :: ws from hw]
      exact cut_tail⟩
    have e0 : decide (([] : List Nat) ∈ wds) = false := decide_eq_false hn
    repeat k_meth
    refine ⟨p_, p, ws, rfl, sw, hatC, ok, fun q ys X I H' G bo => ?_⟩
    have bl := body_len ok bo
    have F := SH.prm (SH.thn F G) (List.Perm.cons _ List.perm_append_comm)
    dsimp only [List.cons_append, List.nil_append] at F
    repeat k_meth
    have F2 : SH H [] H_ X _ := SH.sbl F (by repeat first | exact List.Sublist.refl _ | apply List.Sublist.cons)
    exact k p_ H_ ⟨ys, X, I, ⟨F2.fr, fun f hf => F2.im f (by rcases List.mem_cons.mp hf with rfl | hf; exact List.mem_cons_self; simp [hf]), F2.at', F2.nd, F2.mu, F2.ch⟩, bo⟩
end
theorem vals_join : ∀ is : List Int, valsT is = joinC 44 (is.map numT)
  | [] => rfl
  | [i] => rfl
  | i :: j :: r => by
    show numT i ++ 44 :: valsT (j :: r) = _
    rw [vals_join (j :: r)]
    rfl
def sp_wvals : Sp := fun vs H Q _ => ∃ (l : Addr) (is : List Int), vs = [.ref l] ∧ H l = some (.lst (is.map V.int)) ∧ is.length ≤ 100 ∧ (∀ i ∈ is, i.natAbs < 10 ^ 30) ∧ ∀ H', Same H H' → Q (ts (valsT is)) H'
theorem sum_le {ps : List (List Nat)} {n : Nat} (h : ∀ d ∈ ps, d.length ≤ n) : (ps.map fun d => d.length).sum ≤ n * ps.length := by
  induction ps with
  | nil => simp
  | cons a r ih =>
    rw [List.map_cons, List.sum_cons, List.length_cons, Nat.mul_add]
    have h1 := h a List.mem_cons_self
    have h2 := ih fun d hd => h d (List.mem_cons_of_mem _ hd)
    omega
def FmtS (x : V) (a : List Nat) (us : List TE) (σ : L2.St) (H : Hp) (Q : VK) : Prop := (∃ b, x = .str (tx b) ∧ a.length + b.length ≤ 900000 ∧ tFs us (tx (a ++ b)) σ H Q) ∨ ∃ i : Int, x = .int i ∧ i.natAbs < 10 ^ 30 ∧ a.length ≤ 900000 ∧ tFs us (tx (a ++ numT i)) σ H Q
section
variable {t : TE} {us : List TE} {a b : List Nat} {σ : L2.St} {H : Hp} {Q : VK} {i : Int}
theorem FmtS.one {x : V} (h : FmtS x a us σ H Q) : (∃ y, x = .str y ∧ y.length ≤ sizeLine ∧ ∃ z, V.str y = .str z ∧ (tx a ++ z).length ≤ sizeLine ∧ tFs us (tx a ++ z) σ H Q) ∨ ∃ j, x = .int j ∧ j.natAbs.log2 < 1920 ∧ ∃ z, V.str (numS j) = .str z ∧ (tx a ++ z).length ≤ sizeLine ∧ tFs us (tx a ++ z) σ H Q := by
  rcases h with ⟨b, rfl, hl, q⟩ | ⟨i, rfl, hi, ha, q⟩
  · exact .inl ⟨_, rfl, by rw [tx_len]; exact small_line (by omega), _, rfl, by rw [append_tx, tx_len, List.length_append]; exact small_line (by omega), by rw [append_tx]; exact q⟩
  · have := (num_len hi).2
    refine .inr ⟨_, rfl, ?_, _, rfl, by rw [num_T, append_tx, tx_len, List.length_append]; exact small_line (by omega), by rw [num_T, append_tx]; exact q⟩
    by_cases hz : i.natAbs = 0
    · rw [hz]; decide
    · exact (Nat.log2_lt hz).mpr (Nat.lt_trans hi (by decide +kernel))
instance (priority := high) go_fsV {n : Nat} : Go (tFs (tFmt (tVar n) :: us) (tx a) σ H Q) (tVar n σ H fun x H1 => FmtS x a us σ H1 Q) := ⟨fun ⟨x, h1, h2⟩ => ⟨x, h1, h2.one⟩⟩
instance go_FmtI : Go (FmtS (.int i) a us σ H Q) (Sd (i.natAbs < 10 ^ 30 ∧ a.length ≤ 900000) (tFs us (tx (a ++ numT i)) σ H Q)) := ⟨fun s => .inr ⟨i, rfl, s.1.1, s.1.2, s.2⟩⟩
instance go_FmtT : Go (FmtS (.str (tx b)) a us σ H Q) (Sd (a.length + b.length ≤ 900000) (tFs us (tx (a ++ b)) σ H Q)) := ⟨fun s => .inl ⟨b, rfl, s.1, s.2⟩⟩
instance (priority := high) go_fsC : Go (tFs (tC (.str (tx b)) :: us) (tx a) σ H Q) (Sd (a.length + b.length ≤ 900000) (tFs us (tx (a ++ b)) σ H Q)) := ⟨fun s => ⟨_, rfl, by rw [append_tx, tx_len, List.length_append]; exact small_line (by have := s.1; omega), by rw [append_tx]; exact s.2⟩⟩
instance (priority := high) go_fs9 : Go (tFs [] (tx a) σ H Q) (Sd (a.length ≤ 900000) (Q (.str (tx a)) H)) := ⟨fun k => ⟨by rw [tx_len]; exact small_line (by have := k.1; omega), k.2⟩⟩
end
section
variable {P : Program} {w : World} {K : PySem.W.Frag} {mg : Str → Option Value} {base : Heap} {c : Nat → Addr} {R aM aS aT aB aD : Addr} {kv : List (Key × V)}
theorem D_wvals (T : Txt w K mg c R aM aS aT aB aD kv) : Def P w K mg base CX0 1 "write_values" ["values"] sp_wvals := by
  refine def_of T.d_wvals sc_wvals (fun vs H Q E h => ?_) (fun _ _ _ _ _ _ us hl => match us, hl with | [_], _ => rfl) (fun f cdv A outer s H vs Q E hr h => ?_)
  · obtain ⟨l, is, rfl, _⟩ := h
    rfl
  · obtain ⟨l, is, rfl, hp, hl, hi, k⟩ := h
    have nd := sc_wvals.nd
    refine ⟨_, (pss_one (ps_ret (pe_join (pe_strT (cs := [44]) (by decide +kernel)) (pe_comp (N := ["value"]) (nt := 1) (fr := []) (pi_list (pv 0)) (fun _ _ _ _ => (pg_name (i := 0) (show (["value"] : List Str).Nodup from by decide +kernel) rfl (Or.inl rfl))) (fun _ _ _ _ => pif_nil) (fun _ _ _ _ => (pe_callTy call_strP rfl T.n_str boot_str (pa_cons (pv 0) pa_nil))))))), ?_⟩
    clear nd 
    rw [show start ["values"] [.ref l] = [some (.ref l)] from rfl]
    try dsimp only [cx_K, cx_K2]
    have o_hp := Old.mk (M := []) hp nm0
    have F : SH H [] H [] [] := SH.nil
    have hn : ((is.map numT).map fun d => d.length).sum ≤ 31 * (is.map numT).length := sum_le fun d hd => by
      obtain ⟨i, him, rfl⟩ := List.mem_map.mp hd
      exact (num_len (hi i him)).2
    rw [List.length_map] at hn
    rw [vals_join] at k
    repeat k_meth
    refine comp_V (F := fun v => match v with | .int i => ts (numT i) | v => v) (SqL.of hp) (by simp; omega) rfl (fun v H' R hv s kk => ?_) fun q H' nw => ?_
    · obtain ⟨i, him, rfl⟩ := List.mem_map.mp hv
      have h30 := hi i him
      clear F
      have F : SH H' [] H' [] [] := SH.nil
      repeat k_meth
      exact kk _ (Same.refl _)
    · rw [List.map_map, show ((fun v => match v with | .int i => ts (numT i) | v => v) ∘ V.int : Int → V) = (fun d => V.str (tx d)) ∘ numT from rfl, ← List.map_map] at nw
      have F := F.newL nw
      repeat k_meth
      exact k _ F.sm
end
def joinS (s : List Nat) : List (List Nat) → List Nat
  | [] => []
  | [p] => p
  | p :: q :: r => p ++ s ++ joinS s (q :: r)
theorem joinS_tx (s : List Nat) : ∀ ps : List (List Nat), Str.join (tx s) (ps.map tx) = tx (joinS s ps)
  | [] => rfl
  | [p] => rfl
  | p :: q :: r => by
    have ih := joinS_tx s (q :: r)
    show tx p ++ tx s ++ Str.join (tx s) ((q :: r).map tx) = _
    rw [ih, append_tx, append_tx]
    rfl
instance go_join3 {K : PySem.W.Frag} {H : Hp} {Q : VK} {p : Addr} {xs : List V} {ps : List (List Nat)} [h : SqA K H p xs] [tl : TxL xs ps] : Go (rJoin K (.str (tx [32, 59, 32])) [.ref p] H Q) (Sd ((ps.map fun d => d.length).sum + ps.length ≤ 1000000) (Q (.str (tx (joinS [32, 59, 32] ps))) H)) := ⟨fun k => ⟨tx [32, 59, 32], p, ps.map tx, rfl, rfl, by rw [List.map_map]; have := h.e; rw [tl.e] at this; exact this, by decide, by
  have := k.1
  rw [List.map_map, List.length_map]
  have e : (ps.map ((fun t : Str => t.length) ∘ tx)) = ps.map fun d => d.length := List.map_congr_left fun d _ => tx_len d
  rw [e]
  omega, by rw [joinS_tx]; exact k.2⟩⟩
theorem comp_VT {K : PySem.W.Frag} {H : Hp} {l : Addr} {xs : List V} {σ : L2.St} {Q : VK} {te : TE} {fr : List Nat} {fvs : L2.St} {F : V → V} (hq : H l = some (.tup xs)) (hz : xs.length ≤ 1000000) (hf : (fr.map fun i => (σ[i]?).getD none) = fvs)
    (turn : ∀ (v : V) (H' : Hp) (R : VK), v ∈ xs → Same H H' → (∀ H2, Same H' H2 → R (F v) H2) → te (some v :: fvs) H' R)
    (k : ∀ p H', New H H' p (.lst (xs.map F)) → Q (.ref p) H') : CompAll (Itt K l) 1 fr (gName 0) tTrue te σ H Q := by
  refine comp_map (P := fun i y => ∃ v, xs[i]? = some v ∧ y = F v) (items_tup (xs := xs)) hz hf (fun H' s => SqT.of (s _ _ hq)) (fun i v H' R hv s kk => ?_) fun p H' ys n hl hP => k p H' ?_
  · exact turn v H' R (List.mem_of_getElem? hv) s fun H2 s2 => kk _ _ s2 ⟨v, hv, rfl⟩
  · have e : ys = xs.map F := by
      apply List.ext_getElem?
      intro j
      rw [List.getElem?_map]
      by_cases h : j < ys.length
      · rw [List.getElem?_eq_getElem h]
        obtain ⟨v, h1, h2⟩ := hP j _ (List.getElem?_eq_getElem h)
        rw [h1, h2]
        rfl
      · rw [List.getElem?_eq_none (by omega), List.getElem?_eq_none (by omega)]
        rfl
    rw [← e]
    exact n
def strV : V → V
  | .int i => ts (numT i)
  | v => v
def rowT (b : Bk) : List (List Nat) := [b.nm, numT b.st, numT (b.vs.length : Nat), numT b.pn]
def blkL (b : Bk) : List Nat := joinC 32 (rowT b) ++ 32 :: valsT b.vs
def hdT (i : Int) (t : List Nat) (j : Int) : List Nat := numT i ++ 32 :: (t ++ 32 :: numT j)
def sp_wstand : Sp := fun vs H Q _ => ∃ (i j : Int) (t : List Nat) (l m : Addr) (ys : List V) (qs : List Addr) (bs : List Bk), vs = [.int i, ts t, .int j, .ref l, .ref m] ∧ H l = some (.lst ys) ∧ TupsAt H ys (bs.map bkV) ∧ H m = some (.lst (qs.map V.ref)) ∧ qs.length = bs.length ∧ (∀ (n : Nat) q b, qs[n]? = some q → bs[n]? = some b → H q = some (.lst (b.vs.map V.int))) ∧ i.natAbs < 10 ^ 30 ∧ j.natAbs < 10 ^ 30 ∧ t.length ≤ 100 ∧ bs.length ≤ 100 ∧ (∀ b ∈ bs, OkB b ∧ b.nm.length ≤ 100) ∧ ∀ H', Same H H' → Q (ts (joinS [32, 59, 32] (hdT i t j :: bs.map blkL))) H'
section
variable {P : Program} {w : World} {K : PySem.W.Frag} {mg : Str → Option Value} {base : Heap} {c : Nat → Addr} {R aM aS aT aB aD : Addr} {kv : List (Key × V)}
theorem D_wstand (T : Txt w K mg c R aM aS aT aB aD kv) : Def P w K mg base CX0 2 "write_standing" ["many", "word", "mark", "rows", "values"] sp_wstand := by
  have D_wvals := D_wvals (P := P) (w := w) (base := base) T
  refine def_of T.d_wstand sc_wstand (fun vs H Q E h => ?_) (fun _ _ _ _ _ _ us hl => match us, hl with | [_, _, _, _, _], _ => rfl) (fun f cdv A outer s H vs Q E hr h => ?_)
  · obtain ⟨i, j, t, l, m, ys, qs, bs, rfl, _⟩ := h
    rfl
  · obtain ⟨i, j, t, l, m, ys, qs, bs, rfl, hl, tp, hm, ql, hq, hi, hj, ht, h1, hb, k⟩ := h
    have nd := sc_wstand.nd
    refine ⟨_, (pss_cons (ps_set (i := 5) nd rfl (Or.inl rfl) (pe_lstA (pa_cons (pe_fstr (.cons (pe_fmt (pv 0)) (.cons (pe_strT (cs := [32]) (by decide +kernel)) (.cons (pe_fmt (pv 1)) (.cons (pe_strT (cs := [32]) (by decide +kernel)) (.cons (pe_fmt (pv 2)) .nil)))))) pa_nil)))
      (pss_cons (ps_for PassesOwn.never rfl (pi_zip rfl T.n_zip (pa_cons (pv 3) (pa_cons (pv 4) pa_nil))) (pg_tup rfl (pgs_cons (pg_name (i := 6) nd rfl (Or.inl rfl)) (pgs_cons (pg_name (i := 7) nd rfl (Or.inl rfl)) pgs_nil))) (pss_cons (ps_set (i := 8) nd rfl (Or.inl rfl) (pe_join (pe_strT (cs := [32]) (by decide +kernel)) (pe_comp (N := ["part"]) (nt := 1) (fr := []) (pi_tup (pv 6)) (fun _ _ _ _ => (pg_name (i := 0) (show (["part"] : List Str).Nodup from by decide +kernel) rfl (Or.inl rfl))) (fun _ _ _ _ => pif_nil) (fun _ _ _ _ => (pe_callTy call_strP rfl T.n_str boot_str (pa_cons (pv 0) pa_nil))))))
        (pss_cons (ps_set (i := 9) nd rfl (Or.inl rfl) (pe_def D_wvals hr (pa_cons (pv 7) pa_nil)))
        (pss_one (ps_expr (pe_appendA (pv 5) (pe_fstr (.cons (pe_fmt (pv 8)) (.cons (pe_strT (cs := [32]) (by decide +kernel)) (.cons (pe_fmt (pv 9)) .nil))))))))))
      (pss_one (ps_ret (pe_join (pe_strT (cs := [32, 59, 32]) (by decide +kernel)) (pv 5)))))), ?_⟩
    clear nd D_wvals
    rw [show start ["many", "word", "mark", "rows", "values", "told", "row", "cells", "block", "written"] [.int i, ts t, .int j, .ref l, .ref m] = [some (.int i), some (ts t), some (.int j), some (.ref l), some (.ref m), none, none, none, none, none] from rfl]
    try dsimp only [cx_K, cx_K2]
    have o_hl := Old.mk (M := []) hl nm0
    have o_hm := Old.mk (M := []) hm nm0
    have o_tp := OldP.mk tp
    have F : SH H [] H [] [] := SH.nil
    have ni := num_len hi
    have nj := num_len hj
    repeat k_meth
    obtain ⟨td, e⟩ : ∃ mv, mv = p_ := ⟨_, rfl⟩
    subst e
    have yl : ys.length = bs.length := by have := tp.1; rw [List.length_map] at this; omega
    have bkl : ∀ b ∈ bs, (blkL b).length ≤ 4000 := fun b hm => by
      have h := hb b hm
      have v := vals_len b.vs h.1.vs
      have n1 := num_len h.1.st
      have n2 := num_len h.1.pn
      have n3 := num_len (i := (b.vs.length : Nat)) (by have := h.1.ln; omega)
      have ln := h.1.ln
      unfold blkL rowT joinC joinC joinC joinC
      simp only [List.length_append, List.length_cons]
      omega
    refine for_zip (by rw [List.length_map]; omega) (fun n σ' H' => ∃ o6 o7 o8 o9 : Option V, σ' = [some (.int i), some (ts t), some (.int j), some (.ref l), some (.ref m), some (.ref td), o6, o7, o8, o9] ∧ SH H [] H' [(td, .lst ((hdT i t j :: (bs.take n).map blkL).map fun d => V.str (tx d)))] []) ⟨_, _, _, _, rfl, ?_⟩ ?_ ?_ ?_
    · rw [show [] ++ numT i ++ [32] ++ t ++ [32] ++ numT j = hdT i t j by unfold hdT; simp] at F
      exact F
    · rintro n σ' H' hn ⟨_, _, _, _, rfl, F⟩
      exact ⟨SqL.of (F.sm _ _ hl), SqL.of (F.sm _ _ hm)⟩
    · clear F
      rintro n x y Tp σ' H1 H2 hx hy ⟨_, _, _, _, rfl, F⟩ nw
      have hn : n < bs.length := by
        have := (List.getElem?_eq_some_iff.mp hx).1
        omega
      obtain ⟨b, hbn⟩ : ∃ b, bs[n]? = some b := ⟨bs[n], by simp⟩
      obtain ⟨q, hqn, rfl⟩ := map_at hy
      obtain ⟨ra, e1, e2⟩ := tp.2 n (bkV b) (by rw [List.getElem?_map, hbn]; rfl)
      rw [hx] at e1
      cases e1
      have o_r := Old.mk (M := []) e2 nm0
      have hq2 := hq n q b hqn hbn
      have o_q := Old.mk (M := []) hq2 nm0
      have F := F.newT nw
      have okb := hb b (List.mem_of_getElem? hbn)
      have bl1 := bkl b (List.mem_of_getElem? hbn)
      have n1 := num_len okb.1.st
      have n2 := num_len okb.1.pn
      have hz : ((b.vs.length : Nat) : Int).natAbs < 10 ^ 30 := by have := okb.1.ln; omega
      have n3 := num_len hz
      repeat k_meth
      refine comp_VT (F := strV) (F.sm _ _ e2) (by simp [bkV]) rfl (fun v H' R hv s kk => ?_) fun p1 H3 nw1 => ?_
      · clear F
        have F : SH H' [] H' [] [] := SH.nil
        have h1 := okb.1.st
        have h2 := okb.1.pn
        unfold bkV at hv
        simp only [List.mem_cons, List.not_mem_nil, or_false] at hv
        rcases hv with rfl | rfl | rfl | rfl
        all_goals
          repeat k_meth
          exact kk _ (Same.refl _)
      · have F := F.newL nw1
        rw [show (bkV b).map strV = (rowT b).map fun d => V.str (tx d) from rfl] at F
        have s1 : ((rowT b).map fun d => d.length).sum + (rowT b).length ≤ 1000000 := by
          unfold rowT
          simp
          omega
        repeat k_meth
        refine ⟨q, b.vs, rfl, F.sm _ _ hq2, okb.1.ln, okb.1.vs, fun H4 s4 => ?_⟩
        have F := F.same s4
        have jl : (joinC 32 (rowT b)).length + (valsT b.vs).length ≤ 4000 := by
          unfold blkL at bl1
          rw [List.length_append, List.length_cons] at bl1
          omega
        have al : ((hdT i t j :: (bs.take n).map blkL).map fun d => V.str (tx d)).length < sizeLine := by
          rw [List.length_map, List.length_cons, List.length_map, List.length_take]
          exact Nat.lt_of_lt_of_le (m := 1000) (by omega) (small_line (by omega))
        repeat k_meth
        refine ⟨_, _, _, _, rfl, ?_⟩
        rw [show [] ++ joinC 32 (rowT b) ++ [32] ++ valsT b.vs = blkL b by unfold blkL; simp] at F
        rw [show (hdT i t j :: (bs.take (n + 1)).map blkL).map (fun d => V.str (tx d)) = (hdT i t j :: (bs.take n).map blkL).map (fun d => V.str (tx d)) ++ [V.str (tx (blkL b))] by rw [List.take_succ, hbn]; simp]
        exact F.sub SbC.s (by simp)
    · rintro σ' H' ⟨_, _, _, _, rfl, F⟩
      rw [yl, List.take_length] at F
      have sm := sum_le (ps := hdT i t j :: bs.map blkL) (n := 4000) fun d hd => by
        rcases List.mem_cons.mp hd with rfl | hd
        · unfold hdT
          simp only [List.length_append, List.length_cons]
          omega
        · obtain ⟨b, hm, rfl⟩ := List.mem_map.mp hd
          exact bkl b hm
      rw [List.length_cons, List.length_map] at sm
      have sm2 : ((hdT i t j :: bs.map blkL).map fun d => d.length).sum + (hdT i t j :: bs.map blkL).length ≤ 1000000 := by
        rw [List.length_cons, List.length_map]
        omega
      repeat k_meth
      exact k _ F.sm
end
def lnX : Ln → List (List Nat)
  | .fl _ ps => ps.map paT
  | .me i t => [numT i, t]
  | .sl ms => ms.flatMap fun m => [m.1, numT m.2]
  | .st i t j bs => [numT i, t, numT j] ++ bs.flatMap fun b => [[59], b.nm, numT b.st, numT (b.vs.length : Nat), numT b.pn, valsT b.vs]
def lineT (p : Ln) : List Nat := joinC 32 (lnF p :: lnX p)
theorem joinC_app (c : Nat) : ∀ {a b : List (List Nat)}, a ≠ [] → b ≠ [] → joinC c (a ++ b) = joinC c a ++ c :: joinC c b
  | [], _, h, _ => absurd rfl h
  | [x], b, _, h => by
    cases b with
    | nil => exact absurd rfl h
    | cons y r => rfl
  | x :: y :: r, b, _, h => by
    show x ++ c :: joinC c ((y :: r) ++ b) = (x ++ c :: joinC c (y :: r)) ++ c :: joinC c b
    rw [joinC_app c (List.cons_ne_nil y r) h, List.append_assoc]
    rfl
theorem joinS_cons (s p : List Nat) {r : List (List Nat)} (h : r ≠ []) : joinS s (p :: r) = p ++ s ++ joinS s r := by
  cases r with
  | nil => exact absurd rfl h
  | cons q r => rfl
def bkX (b : Bk) : List (List Nat) := [[59], b.nm, numT b.st, numT (b.vs.length : Nat), numT b.pn, valsT b.vs]
theorem stand_join : ∀ (bs : List Bk) (ws : List (List Nat)), ws ≠ [] → joinS [32, 59, 32] (joinC 32 ws :: bs.map blkL) = joinC 32 (ws ++ bs.flatMap bkX)
  | [], ws, h => by simp [joinS]
  | b :: r, ws, h => by
    have e : blkL b = joinC 32 [b.nm, numT b.st, numT (b.vs.length : Nat), numT b.pn, valsT b.vs] := by
      unfold blkL rowT joinC joinC joinC joinC
      simp [joinC]
    rw [List.map_cons, joinS_cons _ _ (List.cons_ne_nil _ _), e, stand_join r _ (by simp), List.flatMap_cons, joinC_app 32 h (by simp [bkX])]
    show _ = _ ++ 32 :: ([59] ++ 32 :: joinC 32 _)
    simp [bkX]
theorem stand_line {i j : Int} {t : List Nat} {bs : List Bk} : tSt ++ 32 :: joinS [32, 59, 32] (hdT i t j :: bs.map blkL) = lineT (.st i t j bs) := by
  have := stand_join bs [numT i, t, numT j] (by simp)
  rw [show joinC 32 [numT i, t, numT j] = hdT i t j from rfl] at this
  rw [this]
  rfl
theorem joinC_len (c : Nat) : ∀ ps : List (List Nat), (joinC c ps).length ≤ (ps.map fun d => d.length).sum + ps.length
  | [] => by simp [joinC]
  | [p] => by simp [joinC]
  | p :: q :: r => by
    have := joinC_len c (q :: r)
    show (p ++ c :: joinC c (q :: r)).length ≤ _
    rw [List.length_append, List.length_cons, List.map_cons, List.sum_cons, List.length_cons]
    omega
def SmL (p : Ln) : Prop := (lnX p).length ≤ 200 ∧ (∀ d ∈ lnF p :: lnX p, d.length ≤ 4000) ∧ match p with
  | .st _ t _ bs => t.length ≤ 100 ∧ ∀ b ∈ bs, b.nm.length ≤ 100
  | _ => True
def sp_wline : Sp := fun vs H Q _ => ∃ (v : Addr) (p : Ln) (B : Hp), vs = [.ref v] ∧ Told B H v p ∧ OkL p ∧ SmL p ∧ ∀ H', Same H H' → Q (ts (lineT p)) H'
theorem line_sum {p : Ln} (h : SmL p) : ((lnF p :: lnX p).map fun d => d.length).sum + (lnF p :: lnX p).length ≤ 850000 := by
  have h1 := h.1
  have h2 := sum_le h.2.1
  rw [List.length_cons] at h2 ⊢
  omega
section
variable {P : Program} {w : World} {K : PySem.W.Frag} {mg : Str → Option Value} {base : Heap} {c : Nat → Addr} {R aM aS aT aB aD : Addr} {kv : List (Key × V)}
theorem D_wline (T : Txt w K mg c R aM aS aT aB aD kv) : Def P w K mg base CX0 3 "write_line" ["parts"] sp_wline := by
  have D_wstand := D_wstand (P := P) (w := w) (base := base) T
  refine def_of T.d_wline sc_wline (fun vs H Q E h => ?_) (fun _ _ _ _ _ _ us hl => match us, hl with | [_], _ => rfl) (fun f cdv A outer s H vs Q E hr h => ?_)
  · obtain ⟨v, p, B, rfl, _⟩ := h
    rfl
  · obtain ⟨v, p, B, rfl, td, ok, sm, k⟩ := h
    have nd := sc_wline.nd
    refine ⟨_, (pss_cons (ps_if (pt_cmpR op_eq (pe_ix ix_tup (pv 0) pe_int (fun _ _ => rfl)) (pe_strT (cs := [115, 116, 97, 110, 100]) (by decide +kernel)) (nomark _)) (pss_cons (ps_set (i := 1) nd rfl (Or.inl rfl) (pe_def D_wstand hr (pa_cons (pe_ix ix_tup (pv 0) pe_int (fun _ _ => rfl)) (pa_cons (pe_ix ix_tup (pv 0) pe_int (fun _ _ => rfl)) (pa_cons (pe_ix ix_tup (pv 0) pe_int (fun _ _ => rfl)) (pa_cons (pe_ix ix_tup (pv 0) pe_int (fun _ _ => rfl)) (pa_cons (pe_ix ix_tup (pv 0) pe_int (fun _ _ => rfl)) pa_nil)))))))
        (pss_one (ps_ret (pe_fstr (.cons (pe_strT (cs := [115, 116, 97, 110, 100, 32]) (by decide +kernel)) (.cons (pe_fmt (pv 1)) .nil)))))) pss_nil)
      (pss_cons (ps_set (i := 2) nd rfl (Or.inl rfl) (pe_lstA (pa_cons (pe_ix ix_tup (pv 0) pe_int (fun _ _ => rfl)) pa_nil)))
      (pss_cons (ps_if (pt_cmpR op_eq (pe_ix ix_tup (pv 0) pe_int (fun _ _ => rfl)) (pe_strT (cs := [115, 108, 105, 100, 101]) (by decide +kernel)) (nomark _)) (pss_one (ps_for PassesOwn.never rfl (pi_list (pe_ix ix_tup (pv 0) pe_int (fun _ _ => rfl))) (pg_tup rfl (pgs_cons (pg_name (i := 3) nd rfl (Or.inl rfl)) (pgs_cons (pg_name (i := 4) nd rfl (Or.inl rfl)) pgs_nil))) (pss_one (ps_expr (pe_extA (pv 2) (pe_lstA (pa_cons (pv 3) (pa_cons (pe_callTy call_strP rfl T.n_str boot_str (pa_cons (pv 4) pa_nil)) pa_nil)))))))) (pss_one (ps_expr (pe_extA (pv 2) (pe_comp (N := ["part"]) (nt := 1) (fr := []) (pi_tup (pe_slice sl_tup (pv 0) (po_some pe_int) po_none)) (fun _ _ _ _ => (pg_name (i := 0) (show (["part"] : List Str).Nodup from by decide +kernel) rfl (Or.inl rfl))) (fun _ _ _ _ => pif_nil) (fun _ _ _ _ => (pe_callTy call_strP rfl T.n_str boot_str (pa_cons (pv 0) pa_nil))))))))
      (pss_one (ps_ret (pe_join (pe_strT (cs := [32]) (by decide +kernel)) (pv 2))))))), ?_⟩
    clear nd D_wstand
    rw [show start ["parts", "standing", "words", "name", "to"] [.ref v] = [some (.ref v), none, none, none, none] from rfl]
    try dsimp only [cx_K, cx_K2]
    have F : SH H [] H [] [] := SH.nil
    obtain ⟨ys, X, I, G, bo⟩ := td
    have hv : H v = some (.tup (ts (lnF p) :: ys)) := G.im _ List.mem_cons_self
    have o_v := Old.mk (M := []) hv nm0
    have ls := line_sum sm
    cases p with
    | st i t j bs =>
      obtain ⟨l, m, zs, qs, ql, rfl, rfl, rfl⟩ := bo
      rw [show lnF (.st i t j bs) = tSt from rfl] at o_v
      have c1 := G.at' _ List.mem_cons_self
      have c2 : TupsAt H zs (bs.map bkV) := G.im _ (List.mem_cons_of_mem _ List.mem_cons_self)
      have c3 := G.at' _ (List.mem_cons_of_mem _ List.mem_cons_self)
      have c4 : ∀ (n : Nat) q (b : Bk), qs[n]? = some q → bs[n]? = some b → H q = some (.lst (b.vs.map V.int)) := fun n q b h1 h2 => G.at' (q, .lst (b.vs.map V.int)) (List.mem_cons_of_mem _ (List.mem_cons_of_mem _ (hsR_at h1 (by rw [List.getElem?_map, h2]; rfl))))
      clear G
      have jl : (joinS [32, 59, 32] (hdT i t j :: bs.map blkL)).length ≤ 850000 := by
        have e := congrArg List.length (stand_line (i := i) (j := j) (t := t) (bs := bs))
        have h2 : (lineT (.st i t j bs)).length ≤ _ := joinC_len 32 (lnF (.st i t j bs) :: lnX (.st i t j bs))
        have h3 := Nat.le_trans h2 ls
        rw [← e, List.length_append] at h3
        exact Nat.le_trans (Nat.le_trans (Nat.le_succ _) (Nat.le_add_left _ _)) h3
      repeat k_meth
      refine ⟨i, j, t, l, m, zs, qs, bs, rfl, c1, c2, c3, ql, c4, ok.1, ok.2.1, sm.2.2.1, ok.2.2.1, fun b hb => ⟨ok.2.2.2 b hb, sm.2.2.2 b hb⟩, fun H' s => ?_⟩
      have F := F.same s
      repeat k_meth
      have e := stand_line (i := i) (j := j) (t := t) (bs := bs)
      rw [← e] at k
      exact k _ F.sm
    | sl ms =>
      obtain ⟨l, zs, rfl, rfl, rfl⟩ := bo
      rw [show lnF (.sl ms) = tSl' from rfl] at o_v
      have c1 := G.at' _ List.mem_cons_self
      have c2 : TupsAt H zs (ms.map mvV) := G.im _ (List.mem_cons_of_mem _ List.mem_cons_self)
      clear G
      have o_l := Old.mk (M := []) c1 nm0
      have o_t := OldP.mk c2
      repeat k_meth
      obtain ⟨wd, e⟩ : ∃ mv, mv = p_ := ⟨_, rfl⟩
      subst e
      have zl : zs.length = ms.length := by have := c2.1; rw [List.length_map] at this; omega
      refine forL_by (xs := zs) (fun n σ' H' => ∃ o3 o4 : Option V, σ' = [some (.ref v), none, some (.ref wd), o3, o4] ∧ SH H [] H' [(wd, .lst ((tSl' :: (ms.take n).flatMap fun m => [m.1, numT m.2]).map fun d => V.str (tx d)))] []) ⟨_, _, rfl, F⟩ ?_ ?_ ?_
      · rintro n σ' H' hn ⟨_, _, rfl, F⟩
        exact SqL.of (F.sm _ _ c1)
      · clear F
        rintro n x σ' H' hx ⟨_, _, rfl, F⟩
        have hn : n < ms.length := by
          have := (List.getElem?_eq_some_iff.mp hx).1
          omega
        obtain ⟨m, hm⟩ : ∃ m, ms[n]? = some m := ⟨ms[n], by simp⟩
        obtain ⟨ra, e1, e2⟩ := c2.2 n (mvV m) (by rw [List.getElem?_map, hm]; rfl)
        rw [hx] at e1
        cases e1
        have e2 : H ra = some (.tup [ts m.1, .int m.2]) := e2
        have o_r := Old.mk (M := []) e2 nm0
        have h30 := ok.2.2 m (List.mem_of_getElem? hm)
        have h100 := ok.2.1
        have al : ((tSl' :: (ms.take n).flatMap fun m => [m.1, numT m.2]).map fun d => V.str (tx d)).length + [ts m.1, V.str (tx (numT m.2))].length ≤ sizeLine := by
          refine small_line ?_
          have : ∀ xs : List Mv, (xs.flatMap fun m => [m.1, numT m.2]).length = 2 * xs.length := fun xs => by
            induction xs with
            | nil => rfl
            | cons a r ih => rw [List.flatMap_cons, List.length_append, ih]; simp; omega
          rw [List.length_map, List.length_cons, this, List.length_take]
          simp
          omega
        repeat k_meth
        refine ⟨_, _, rfl, ?_⟩
        rw [show (tSl' :: (ms.take (n + 1)).flatMap fun m => [m.1, numT m.2]).map (fun d => V.str (tx d)) = (tSl' :: (ms.take n).flatMap fun m => [m.1, numT m.2]).map (fun d => V.str (tx d)) ++ [ts m.1, V.str (tx (numT m.2))] by rw [List.take_succ, hm]; simp]
        exact F.sub SbC.s (by simp)
      · rintro σ' H' ⟨_, _, rfl, F⟩
        rw [zl, List.take_length] at F
        have l2 : ((tSl' :: ms.flatMap fun m => [m.1, numT m.2]).map fun d => d.length).sum + (tSl' :: ms.flatMap fun m => [m.1, numT m.2]).length ≤ 1000000 := Nat.le_trans ls (by decide)
        repeat k_meth
        exact k _ F.sm
    | me i t =>
      obtain ⟨rfl, rfl, rfl⟩ := bo
      rw [show lnF (.me i t) = tMe from rfl] at o_v
      clear G
      repeat k_meth
      refine comp_VT (F := strV) (hatC : H_ p_ = some (.tup ([Pa.n i, Pa.w t].map paV))) (by simp) rfl (fun v H' R hv s kk => ?_) fun q H3 nw => ?_
      · clear F
        have F : SH H' [] H' [] [] := SH.nil
        obtain ⟨b, hb, rfl⟩ := List.mem_map.mp hv
        cases b with
        | n i =>
          have h30 : i.natAbs < 10 ^ 30 := by simp at hb; subst hb; exact ok
          rw [show paV (.n i) = .int i from rfl]
          repeat k_meth
          exact kk _ (Same.refl _)
        | w t =>
          rw [show paV (.w t) = ts t from rfl]
          repeat k_meth
          exact kk _ (Same.refl _)
      · have F := F.newL nw
        rw [show ([Pa.n i, Pa.w t].map paV).map strV = ([Pa.n i, Pa.w t].map paT).map fun d => V.str (tx d) by rw [List.map_map, List.map_map]; exact List.map_congr_left fun b _ => by cases b <;> rfl] at F
        have tl : TxL ([ts tMe] ++ ([Pa.n i, Pa.w t].map paT).map fun d => V.str (tx d)) (tMe :: [Pa.n i, Pa.w t].map paT) := ⟨rfl⟩
        have ln : [ts tMe].length + (([Pa.n i, Pa.w t].map paT).map fun d => V.str (tx d)).length ≤ sizeLine := small_line (by simp)
        have l2 : ((tMe :: [Pa.n i, Pa.w t].map paT).map fun d => d.length).sum + (tMe :: [Pa.n i, Pa.w t].map paT).length ≤ 1000000 := Nat.le_trans ls (by decide)
        repeat k_meth
        exact k _ F.sm
    | fl f ps =>
      obtain ⟨rfl, rfl, rfl⟩ := bo
      obtain ⟨ks, hm, hl, h1, hf, n1, n2, n3⟩ := ok
      rw [show lnF (.fl f ps) = f from rfl] at o_v
      clear G
      repeat k_meth
      rw [tx_no n3]
      repeat k_meth
      rw [tx_no n2]
      repeat k_meth
      refine comp_VT (F := strV) (hatC : H_ p_ = some (.tup (ps.map paV))) (by simp; omega) rfl (fun v H' R hv s kk => ?_) fun q H3 nw => ?_
      · clear F
        have F : SH H' [] H' [] [] := SH.nil
        obtain ⟨b, hb, rfl⟩ := List.mem_map.mp hv
        cases b with
        | n i =>
          have h30 : i.natAbs < 10 ^ 30 := by
            obtain ⟨n, hn, e⟩ := List.mem_iff_getElem.mp hb
            have hk : n < ks.length := by omega
            exact (hf n ks[n] (.n i) (by simp) (by rw [← e]; simp)).2
          rw [show paV (.n i) = .int i from rfl]
          repeat k_meth
          exact kk _ (Same.refl _)
        | w t =>
          rw [show paV (.w t) = ts t from rfl]
          repeat k_meth
          exact kk _ (Same.refl _)
      · have F := F.newL nw
        rw [show (ps.map paV).map strV = (ps.map paT).map fun d => V.str (tx d) by rw [List.map_map, List.map_map]; exact List.map_congr_left fun b _ => by cases b <;> rfl] at F
        have tl : TxL ([ts f] ++ (ps.map paT).map fun d => V.str (tx d)) (f :: ps.map paT) := ⟨rfl⟩
        have ln : [ts f].length + ((ps.map paT).map fun d => V.str (tx d)).length ≤ sizeLine := small_line (by simp; omega)
        have l2 : ((f :: ps.map paT).map fun d => d.length).sum + (f :: ps.map paT).length ≤ 1000000 := Nat.le_trans ls (by decide)
        repeat k_meth
        exact k _ F.sm
end
def sp_ldraws : Sp := fun vs H Q _ => ∃ (c : Int) (n : Nat), vs = [.int c, .int (n : Nat)] ∧ n ≤ 10 ∧ ∀ q (ds : List Nat) H', New H H' q (.lst (ds.map fun d : Nat => V.int (d : Int))) → ds.length = n → (∀ d ∈ ds, d < 10 ^ 6) → Q (.ref q) H'
def sp_lnum : Sp := fun vs H Q _ => ∃ (c : Int) (a b : Nat), vs = [.int c, .int (a : Nat), .int (b : Nat)] ∧ a < 10 ^ 7 ∧ b < 10 ^ 7 ∧ ∀ (r : Int) H', r.natAbs < 10 ^ 30 → Same H H' → Q (.int r) H'
section
variable {P : Program} {w : World} {K : PySem.W.Frag} {mg : Str → Option Value} {base : Heap} {c : Nat → Addr} {R aM aS aT aB aD : Addr} {kv : List (Key × V)}
theorem D_lnum (T : Txt w K mg c R aM aS aT aB aD kv) : Def P w K mg base CX0 1 "_law_number" ["_law_cell", "_law_first", "_law_second"] sp_lnum := by
  refine def_of T.d_lnum sc_lnum (fun vs H Q E h => ?_) (fun _ _ _ _ _ _ us hl => match us, hl with | [_, _, _], _ => rfl) (fun f cdv A outer s H vs Q E hr h => ?_)
  · obtain ⟨c0, a, b, rfl, _⟩ := h
    rfl
  · obtain ⟨c0, a, b, rfl, ha, hb, k⟩ := h
    have nd := sc_lnum.nd
    refine ⟨_, (pss_cons (ps_set (i := 3) nd rfl (Or.inl rfl) (pe_lstA (pa_cons (pe_op op_mod (pv 2) pe_int) (pa_cons (pe_op op_mod (pv 2) pe_int) (pa_cons (pe_op op_mod (pv 0) (pe_op op_pow pe_int pe_int)) (pa_cons (pe_op op_sub (pe_un un_neg pe_int) (pe_op op_mod (pv 2) pe_int)) pa_nil))))))
      (pss_cons (ps_set (i := 3) nd rfl (Or.inl rfl) (pe_op op_catA (pv 3) (pe_lstA (pa_cons (pe_op op_sub (pe_un un_neg pe_int) (pe_op op_mod (pv 0) (pe_op op_sub (pe_op op_pow pe_int pe_int) pe_int))) (pa_cons pe_int (pa_cons (pe_op op_sub (pe_op op_pow pe_int pe_int) pe_int) pa_nil))))))
      (pss_one (ps_ret (pe_ix ix_list (pv 3) (pe_op op_mod (pv 1) pe_int) (fun _ _ => rfl)))))), ?_⟩
    clear nd 
    rw [show start ["_law_cell", "_law_first", "_law_second", "_law_ways"] [.int c0, .int (a : Nat), .int (b : Nat)] = [some (.int c0), some (.int (a : Nat)), some (.int (b : Nat)), none] from rfl]
    try dsimp only [cx_K, cx_K2]
    have F : SH H [] H [] [] := SH.nil
    repeat k_meth
    have e30 : (10 : Int) ^ Int.toNat 30 = 1000000000000000000000000000000 := by decide +kernel
    have m30 : (10 : Nat) ^ 30 = 1000000000000000000000000000000 := by decide +kernel
    rw [m30] at k
    have hk : ∀ r : Int, r.natAbs < 1000000000000000000000000000000 → Q (.int r) H_ := fun r hr => k r H_ hr F.sm
    obtain ⟨j, hj, ej⟩ : ∃ j : Nat, j < 7 ∧ (a : Int) % 7 = (j : Int) := ⟨a % 7, by omega, by omega⟩
    rw [ej]
    have sq : SqL K H_ p_ _ := SqA.e
    rw [e30] at sq
    match j, hj with
    | 0, _ => exact w_ixL sq (atI_nat (j := 0) rfl) (hk _ (by omega))
    | 1, _ => exact w_ixL sq (atI_nat (j := 1) rfl) (hk _ (by omega))
    | 2, _ => exact w_ixL sq (atI_nat (j := 2) rfl) (hk _ (by omega))
    | 3, _ => exact w_ixL sq (atI_nat (j := 3) rfl) (hk _ (by omega))
    | 4, _ => exact w_ixL sq (atI_nat (j := 4) rfl) (hk _ (by omega))
    | 5, _ => exact w_ixL sq (atI_nat (j := 5) rfl) (hk _ (by omega))
    | 6, _ => exact w_ixL sq (atI_nat (j := 6) rfl) (hk _ (by omega))
theorem D_ldraws (T : Txt w K mg c R aM aS aT aB aD kv) : Def P w K mg base CX0 1 "_law_draws" ["_law_cell", "_law_many"] sp_ldraws := by
  refine def_of T.d_ldraws sc_ldraws (fun vs H Q E h => ?_) (fun _ _ _ _ _ _ us hl => match us, hl with | [_, _], _ => rfl) (fun f cdv A outer s H vs Q E hr h => ?_)
  · obtain ⟨c0, n, rfl, _⟩ := h
    rfl
  · obtain ⟨c0, n, rfl, hn, k⟩ := h
    have nd := sc_ldraws.nd
    refine ⟨_, (pss_cons (ps_set (i := 2) nd rfl (Or.inl rfl) (pe_lstA pa_nil))
      (pss_cons (ps_set (i := 3) nd rfl (Or.inl rfl) (pv 0))
      (pss_cons (ps_for PassesOwn.never rfl (pi_range1 rfl T.n_range (pa_cons (pv 1) pa_nil)) (pg_name (i := 4) nd rfl (Or.inl rfl)) (pss_one (ps_if (pt_cmpR op_ge (pv 0) (pe_op op_pow pe_int pe_int) (nomark _)) (pss_cons (ps_expr (pe_appendA (pv 2) (pe_op op_mod (pv 3) (pe_op op_pow pe_int pe_int))))
          (pss_one (ps_set (i := 3) nd rfl (Or.inl rfl) (pe_op op_fdiv (pv 3) (pe_op op_pow pe_int pe_int))))) (pss_cons (ps_set (i := 3) nd rfl (Or.inl rfl) (pe_op op_mod (pe_op op_add (pe_op op_add (pe_op op_mul (pv 3) pe_int) pe_int) (pv 4)) pe_int))
          (pss_one (ps_expr (pe_appendA (pv 2) (pe_op op_mod (pe_op op_fdiv (pe_op op_mod (pe_op op_mul (pv 3) pe_int) pe_int) pe_int) (pe_op op_pow pe_int pe_int)))))))))
      (pss_one (ps_ret (pv 2)))))), ?_⟩
    clear nd 
    rw [show start ["_law_cell", "_law_many", "_law_found", "_law_number_here", "_law_k"] [.int c0, .int (n : Nat)] = [some (.int c0), some (.int (n : Nat)), none, none, none] from rfl]
    try dsimp only [cx_K, cx_K2]
    have F : SH H [] H [] [] := SH.nil
    repeat k_meth
    obtain ⟨fo, e⟩ : ∃ mv, mv = p_ := ⟨_, rfl⟩
    subst e
    rw [show ((n : Int)).toNat = n from rfl]
    refine forR0_by (fun i σ' H' => ∃ (m : Int) (o4 : Option V) (ds : List Nat), σ' = [some (.int c0), some (.int (n : Nat)), some (.ref fo), some (.int m), o4] ∧ ds.length = i ∧ (∀ d ∈ ds, d < 10 ^ 6) ∧ SH H [] H' [(fo, .lst (ds.map fun d : Nat => V.int (d : Int)))] []) ⟨_, _, [], rfl, rfl, fun _ h => (by cases h), F⟩ ?_ ?_
    · clear F
      rintro i σ' H' hi ⟨m, _, ds, rfl, dl, hd, F⟩
      have al : (ds.map fun d : Nat => V.int (d : Int)).length < sizeLine := by
        rw [List.length_map]
        exact Nat.lt_of_lt_of_le (m := 1000) (by omega) (small_line (by omega))
      have e6 : (10 : Int) ^ Int.toNat 6 = 1000000 := by decide +kernel
      have fin : ∀ (x m : Int) (o4 : Option V) (H2 : Hp), SH H [] H2 [(fo, .lst ((ds.map fun d : Nat => V.int (d : Int)) ++ [.int (x % 10 ^ Int.toNat 6)]))] [] → ∃ (m' : Int) (o4' : Option V) (ds : List Nat), [some (.int c0), some (.int (n : Nat)), some (.ref fo), some (.int m), o4] = [some (.int c0), some (.int (n : Nat)), some (.ref fo), some (.int m'), o4'] ∧ ds.length = i + 1 ∧ (∀ d ∈ ds, d < 10 ^ 6) ∧ SH H [] H2 [(fo, .lst (ds.map fun d : Nat => V.int (d : Int)))] [] := fun x m o4 H2 G => by
        rw [e6] at G
        obtain ⟨r, hr, er⟩ : ∃ r : Nat, r < 1000000 ∧ x % 1000000 = (r : Int) := ⟨(x % 1000000).toNat, by omega, by omega⟩
        rw [er] at G
        refine ⟨m, o4, ds ++ [r], rfl, by rw [List.length_append, dl]; rfl, fun d h => ?_, ?_⟩
        · rcases List.mem_append.mp h with h | h
          · exact hd d h
          · rw [List.mem_singleton.mp h]; omega
        · rw [List.map_append]
          exact G
      repeat k_meth
      refine i_dec (fun h => ?_) (fun h => ?_)
      · repeat k_meth
        exact fin _ _ _ _ F
      · repeat k_meth
        exact fin _ _ _ _ F
    · rintro σ' H' ⟨m, _, ds, rfl, dl, hd, F⟩
      repeat k_meth
      exact k _ ds _ (SH.nwC (F := F) (p := fo)) dl hd
end
structure WOk (t : List Nat) : Prop where
  ne : t ≠ []
  no : 32 ∉ t
  ln : t.length ≤ 100
def sp_lword : Sp := fun vs H Q _ => ∃ (a b : Nat), vs = [.int (a : Nat), .int (b : Nat)] ∧ a < 10 ^ 7 ∧ b < 10 ^ 7 ∧ ∀ t H', WOk t → Same H H' → Q (ts t) H'
section
variable {P : Program} {w : World} {K : PySem.W.Frag} {mg : Str → Option Value} {base : Heap} {c : Nat → Addr} {R aM aS aT aB aD : Addr} {kv : List (Key × V)}
theorem D_lword (T : Txt w K mg c R aM aS aT aB aD kv) : Def P w K mg base CX0 1 "_law_word" ["_law_first", "_law_second"] sp_lword := by
  refine def_of T.d_lword sc_lword (fun vs H Q E h => ?_) (fun _ _ _ _ _ _ us hl => match us, hl with | [_, _], _ => rfl) (fun f cdv A outer s H vs Q E hr h => ?_)
  · obtain ⟨a, b, rfl, _⟩ := h
    rfl
  · obtain ⟨a, b, rfl, ha, hb, k⟩ := h
    have nd := sc_lword.nd
    refine ⟨_, (pss_cons (ps_set (i := 2) nd rfl (Or.inl rfl) (pe_lstA (pa_vals (vs := [.str "a", .str "b7", .str ";", .str "-", .str "show", .str "-3", .str "0+3", .str "First"]) (by with_unfolding_all rfl))))
      (pss_cons (ps_set (i := 2) nd rfl (Or.inl rfl) (pe_op op_catA (pv 2) (pe_lstA (pa_vals (vs := [.str "next", .str "halves", .str "ninesigns", .str "x,y", .str "a\n", .str "00", .str "|", .str "z>1"]) (by with_unfolding_all rfl)))))
      (pss_cons (ps_if (pt_cmpR op_eq (pe_op op_mod (pv 0) pe_int) pe_int (nomark _)) (pss_one (ps_ret (pe_ix ix_list (pv 2) (pe_op op_mod (pv 1) pe_int) (fun _ _ => rfl)))) pss_nil)
      (pss_cons (ps_set (i := 3) nd rfl (Or.inl rfl) (pe_strT (cs := []) (by decide +kernel)))
      (pss_cons (ps_for PassesOwn.never rfl (pi_range1 rfl T.n_range (pa_cons (pe_op op_add pe_int (pe_op op_mod (pe_op op_fdiv (pv 0) pe_int) pe_int)) pa_nil)) (pg_name (i := 4) nd rfl (Or.inl rfl)) (pss_cons (ps_set (i := 5) nd rfl (Or.inl rfl) (pe_op op_mod (pe_op op_add (pe_op op_fdiv (pv 1) (pe_op op_add (pv 4) pe_int)) (pe_op op_mul pe_int (pv 4))) pe_int))
        (pss_one (ps_set (i := 3) nd rfl (Or.inl rfl) (pe_op op_addS (pv 3) (pe_ix ix_str (pe_strT (cs := [97, 98, 99, 100, 101, 102, 103, 104, 105, 106, 107, 108, 109, 110, 111, 112, 113, 114, 115, 116, 117, 118, 119, 120, 121, 122, 48, 49, 50, 51, 52, 53, 54, 55, 56, 57]) (by decide +kernel)) (pv 5) (fun _ _ => rfl)))))))
      (pss_one (ps_ret (pv 3)))))))), ?_⟩
    clear nd 
    rw [show start ["_law_first", "_law_second", "_law_words", "_law_found", "_law_k", "_law_pick"] [.int (a : Nat), .int (b : Nat)] = [some (.int (a : Nat)), some (.int (b : Nat)), none, none, none, none] from rfl]
    try dsimp only [cx_K, cx_K2]
    have F : SH H [] H [] [] := SH.nil
    repeat k_meth
    refine i_dec (fun h => ?_) (fun h => ?_)
    · repeat k_meth
      have hk : ∀ (z : Str) (t : List Nat), z = tx t → WOk t → Q (.str z) H_ := fun z t e ok => by rw [e]; exact k t H_ ok F.sm
      obtain ⟨j, hj, ej⟩ : ∃ j : Nat, j < 16 ∧ (b : Int) % 16 = (j : Int) := ⟨b % 16, by omega, by omega⟩
      rw [ej]
      have sq : SqL K H_ p_ _ := SqA.e
      match j, hj with
      | 0, _ => exact w_ixL sq (atI_nat (j := 0) rfl) (hk _ [97] (by decide +kernel) ⟨by decide, by decide, by decide⟩)
      | 1, _ => exact w_ixL sq (atI_nat (j := 1) rfl) (hk _ [98, 55] (by decide +kernel) ⟨by decide, by decide, by decide⟩)
      | 2, _ => exact w_ixL sq (atI_nat (j := 2) rfl) (hk _ [59] (by decide +kernel) ⟨by decide, by decide, by decide⟩)
      | 3, _ => exact w_ixL sq (atI_nat (j := 3) rfl) (hk _ [45] (by decide +kernel) ⟨by decide, by decide, by decide⟩)
      | 4, _ => exact w_ixL sq (atI_nat (j := 4) rfl) (hk _ [115, 104, 111, 119] (by decide +kernel) ⟨by decide, by decide, by decide⟩)
      | 5, _ => exact w_ixL sq (atI_nat (j := 5) rfl) (hk _ [45, 51] (by decide +kernel) ⟨by decide, by decide, by decide⟩)
      | 6, _ => exact w_ixL sq (atI_nat (j := 6) rfl) (hk _ [48, 43, 51] (by decide +kernel) ⟨by decide, by decide, by decide⟩)
      | 7, _ => exact w_ixL sq (atI_nat (j := 7) rfl) (hk _ [70, 105, 114, 115, 116] (by decide +kernel) ⟨by decide, by decide, by decide⟩)
      | 8, _ => exact w_ixL sq (atI_nat (j := 8) rfl) (hk _ [110, 101, 120, 116] (by decide +kernel) ⟨by decide, by decide, by decide⟩)
      | 9, _ => exact w_ixL sq (atI_nat (j := 9) rfl) (hk _ [104, 97, 108, 118, 101, 115] (by decide +kernel) ⟨by decide, by decide, by decide⟩)
      | 10, _ => exact w_ixL sq (atI_nat (j := 10) rfl) (hk _ [110, 105, 110, 101, 115, 105, 103, 110, 115] (by decide +kernel) ⟨by decide, by decide, by decide⟩)
      | 11, _ => exact w_ixL sq (atI_nat (j := 11) rfl) (hk _ [120, 44, 121] (by decide +kernel) ⟨by decide, by decide, by decide⟩)
      | 12, _ => exact w_ixL sq (atI_nat (j := 12) rfl) (hk _ [97, 10] (by decide +kernel) ⟨by decide, by decide, by decide⟩)
      | 13, _ => exact w_ixL sq (atI_nat (j := 13) rfl) (hk _ [48, 48] (by decide +kernel) ⟨by decide, by decide, by decide⟩)
      | 14, _ => exact w_ixL sq (atI_nat (j := 14) rfl) (hk _ [124] (by decide +kernel) ⟨by decide, by decide, by decide⟩)
      | 15, _ => exact w_ixL sq (atI_nat (j := 15) rfl) (hk _ [122, 62, 49] (by decide +kernel) ⟨by decide, by decide, by decide⟩)
      | n + 16, h => exact absurd h (by omega)
    · repeat k_meth
      obtain ⟨n, hn, en⟩ : ∃ n : Nat, n < 9 ∧ (1 + (a : Int) / 3 % 9).toNat = n + 1 := ⟨a / 3 % 9, by omega, by omega⟩
      rw [en]
      obtain ⟨wd, e⟩ : ∃ mv, mv = p_ := ⟨_, rfl⟩
      subst e
      have sH := F.sm
      refine forR0_by (fun i σ' H' => ∃ (t : List Nat) (o4 o5 : Option V), σ' = [some (.int (a : Nat)), some (.int (b : Nat)), some (.ref wd), some (.str (tx t)), o4, o5] ∧ t.length = i ∧ 32 ∉ t ∧ SH H [] H' [] []) ⟨[], _, _, rfl, rfl, List.not_mem_nil, SH.nil.same sH⟩ ?_ ?_
      · clear F
        rintro i σ' H' hi ⟨t, _, _, rfl, tl, h32, F⟩
        have hd : 0 < (i : Int) + 1 ∧ (i : Int) + 1 < 1073741824 := by omega
        repeat k_meth
        intro c hc
        have hc32 : c ≠ 32 := fun e => by
          rw [e] at hc
          exact absurd (List.mem_of_getElem? hc) (by decide)
        repeat k_meth
        refine ⟨t ++ [c], _, _, rfl, by rw [List.length_append, tl]; rfl, fun h => ?_, F⟩
        rcases List.mem_append.mp h with h | h
        · exact h32 h
        · exact hc32 (List.mem_singleton.mp h).symm
      · clear F
        rintro σ' H' ⟨t, _, _, rfl, tl, h32, F⟩
        repeat k_meth
        exact k t _ ⟨fun e => (by rw [e] at tl; cases tl), h32, by omega⟩ F.sm
end
theorem split_join (c : Nat) : ∀ {ws : List (List Nat)}, ws ≠ [] → (∀ w ∈ ws, c ∉ w) → splitC c (joinC c ws) = ws
  | [], h, _ => absurd rfl h
  | [w], _, h => splitC_no (h w List.mem_cons_self)
  | w :: x :: r, _, h => by
    show splitC c (w ++ c :: joinC c (x :: r)) = _
    rw [splitC_app (h w List.mem_cons_self), split_join c (List.cons_ne_nil x r) fun y hy => h y (List.mem_cons_of_mem _ hy)]
theorem lnX_W : ∀ p : Ln, ((lnX p).map fun c => ts c) = lnW p
  | .fl _ ps => by show (ps.map paT).map _ = _; rw [List.map_map]; rfl
  | .me _ _ => rfl
  | .sl ms => by show (ms.flatMap _).map _ = ms.flatMap mvT; rw [List.map_flatMap]; rfl
  | .st i t j bs => by
    show ([numT i, t, numT j] ++ bs.flatMap _).map _ = [ts (numT i), ts t, ts (numT j)] ++ bs.flatMap bkT
    rw [List.map_append, List.map_flatMap]
    rfl
structure GdL (p : Ln) : Prop where
  ok : OkL p
  sm : SmL p
  wd : ∀ d ∈ lnF p :: lnX p, d ≠ [] ∧ 32 ∉ d
theorem GdL.rd {p : Ln} (g : GdL p) : Rd (lineT p) p :=
  ⟨⟨lnF p :: lnX p, lnW p, split_join 32 (List.cons_ne_nil _ _) (fun w h => (g.wd w h).2), by rw [List.map_cons, lnX_W], .inl rfl, fun h => (g.wd _ h).1 rfl⟩, g.ok, Nat.le_trans (joinC_len 32 _) (line_sum g.sm)⟩
theorem num_wd {i : Int} (h : i.natAbs < 10 ^ 30) : numT i ≠ [] ∧ 32 ∉ numT i := ⟨fun e => by have := (num_len h).1; rw [e] at this; exact absurd this (by decide), fun h => by have := num_no h; omega⟩
theorem vals_no : ∀ {is : List Int} {c : Nat}, c ∈ valsT is → c = 44 ∨ c = 45 ∨ (48 ≤ c ∧ c ≤ 57)
  | [], _, h => by cases h
  | [i], c, h => .inr (num_no h)
  | i :: j :: r, c, h => by
    rcases List.mem_append.mp (show c ∈ numT i ++ 44 :: valsT (j :: r) from h) with h | h
    · exact .inr (num_no h)
    · rcases List.mem_cons.mp h with h | h
      · exact .inl h
      · exact vals_no h
theorem vals_ne : ∀ {is : List Int}, is ≠ [] → (∀ i ∈ is, i.natAbs < 10 ^ 30) → valsT is ≠ []
  | [], h, _ => absurd rfl h
  | [i], _, h => (num_wd (h i List.mem_cons_self)).1
  | i :: j :: r, _, _ => fun e => by
    have := congrArg List.length (show numT i ++ 44 :: valsT (j :: r) = [] from e)
    rw [List.length_append] at this
    simp at this
theorem rd_short {i : Int} (h : i.natAbs < 10 ^ 30) : Rd (tMe ++ 32 :: numT i) (.me i tFi) :=
  ⟨⟨[tMe, numT i], [ts (numT i)], split_join 32 (ws := [tMe, numT i]) (by simp) (fun w hw => by
      rcases List.mem_cons.mp hw with rfl | hw
      · decide
      · rw [List.mem_singleton.mp hw]; exact (num_wd h).2), rfl, .inr ⟨i, rfl, rfl⟩, fun hm => by
      rcases List.mem_cons.mp hm with e | hm
      · exact absurd e (by decide)
      · exact (num_wd h).1 (List.mem_singleton.mp hm).symm⟩, h, by
    have := (num_len h).2
    rw [List.length_append, List.length_cons]
    exact Nat.le_trans (Nat.add_le_add_left (Nat.succ_le_succ this) _) (by decide)⟩
def sp_changed : Sp := fun vs H Q _ => ∃ (v : Addr) (p : Ln) (B : Hp), vs = [.ref v] ∧ Told B H v p ∧ OkL p ∧ ∀ H', Same B H' → Q .non H'
section
variable {P : Program} {w : World} {K : PySem.W.Frag} {mg : Str → Option Value} {base : Heap} {c : Nat → Addr} {R aM aS aT aB aD : Addr} {kv : List (Key × V)}
theorem D_changed (T : Txt w K mg c R aM aS aT aB aD kv) : Def P w K mg base CX0 1 "_law_changed" ["_law_told"] sp_changed := by
  refine def_of T.d_changed sc_changed (fun vs H Q E h => ?_) (fun _ _ _ _ _ _ us hl => match us, hl with | [_], _ => rfl) (fun f cdv A outer s H vs Q E hr h => ?_)
  · obtain ⟨v, p, B, rfl, _⟩ := h
    rfl
  · obtain ⟨v, p, B, rfl, td, ok, k⟩ := h
    have nd := sc_changed.nd
    refine ⟨_, (pss_one (ps_for PassesOwn.never rfl (pi_tup (pv 0)) (pg_name (i := 1) nd rfl (Or.inl rfl)) (pss_one (ps_if (pt_val (pe_callB call_isT rfl T.n_isinstance boot_isinstance (pa_cons (pv 1) (pa_cons (pe_ty (T := "list") rfl T.n_list boot_list) pa_nil)))) (pss_cons (ps_expr (pe_appendA (pv 1) pe_int))
          (pss_one (ps_if (pt_val (pe_callB call_isT rfl T.n_isinstance boot_isinstance (pa_cons (pe_ix ix_list (pv 1) pe_int (fun _ _ => rfl)) (pa_cons (pe_ty (T := "list") rfl T.n_list boot_list) pa_nil)))) (pss_one (ps_expr (pe_appendA (pe_ix ix_list (pv 1) pe_int (fun _ _ => rfl)) pe_int))) pss_nil))) pss_nil)))), ?_⟩
    clear nd 
    rw [show start ["_law_told", "_law_part"] [.ref v] = [some (.ref v), none] from rfl]
    try dsimp only [cx_K, cx_K2]
    obtain ⟨ys, X, I, F, bo⟩ := td
    cases p with
    | fl f ps =>
      obtain ⟨rfl, rfl, rfl⟩ := bo
      repeat k_meth
      refine forT_by (xs := ts f :: (ps).map paV) (fun n σ' H' => ∃ o : Option V, σ' = [some (.ref v), o] ∧ SH B [] H' [] [.tup v (ts f :: (ps).map paV)]) ⟨_, rfl, F⟩ ?_ ?_ ?_
      · rintro n σ' H' _ ⟨_, rfl, F⟩
        exact SqT.of (F.im _ List.mem_cons_self)
      · clear F
        rintro n x σ' H' hx ⟨_, rfl, F⟩
        rcases List.mem_cons.mp (List.mem_of_getElem? hx) with rfl | hm
        · repeat k_meth
          exact ⟨_, rfl, F⟩
        · obtain ⟨b, _, rfl⟩ := List.mem_map.mp hm
          cases b with
          | n i =>
            rw [show paV (.n i) = .int i from rfl]
            repeat k_meth
            exact ⟨_, rfl, F⟩
          | w t =>
            rw [show paV (.w t) = ts t from rfl]
            repeat k_meth
            exact ⟨_, rfl, F⟩
      · clear F
        rintro σ' H' ⟨_, rfl, F⟩
        exact k _ F.sm
    | me i t =>
      obtain ⟨rfl, rfl, rfl⟩ := bo
      repeat k_meth
      refine forT_by (xs := ts tMe :: ([Pa.n i, Pa.w t]).map paV) (fun n σ' H' => ∃ o : Option V, σ' = [some (.ref v), o] ∧ SH B [] H' [] [.tup v (ts tMe :: ([Pa.n i, Pa.w t]).map paV)]) ⟨_, rfl, F⟩ ?_ ?_ ?_
      · rintro n σ' H' _ ⟨_, rfl, F⟩
        exact SqT.of (F.im _ List.mem_cons_self)
      · clear F
        rintro n x σ' H' hx ⟨_, rfl, F⟩
        rcases List.mem_cons.mp (List.mem_of_getElem? hx) with rfl | hm
        · repeat k_meth
          exact ⟨_, rfl, F⟩
        · obtain ⟨b, _, rfl⟩ := List.mem_map.mp hm
          cases b with
          | n i =>
            rw [show paV (.n i) = .int i from rfl]
            repeat k_meth
            exact ⟨_, rfl, F⟩
          | w t =>
            rw [show paV (.w t) = ts t from rfl]
            repeat k_meth
            exact ⟨_, rfl, F⟩
      · clear F
        rintro σ' H' ⟨_, rfl, F⟩
        exact k _ F.sm
    | sl ms =>
      obtain ⟨l, zs, rfl, rfl, rfl⟩ := bo
      have c2 : TupsAt H zs (ms.map mvV) := F.im _ (List.mem_cons_of_mem _ List.mem_cons_self)
      have zl : zs.length = ms.length := by have := c2.1; rw [List.length_map] at this; omega
      have h100 := ok.2.1
      obtain ⟨m, ms', rfl⟩ : ∃ m ms', ms = m :: ms' := by
        cases ms with
        | nil => exact absurd rfl ok.1
        | cons m r => exact ⟨m, r, rfl⟩
      obtain ⟨a, e1, e2⟩ := c2.2 0 (mvV m) rfl
      obtain ⟨r0, rfl⟩ : ∃ r, zs = .ref a :: r := by
        cases zs with
        | nil => cases e1
        | cons z r => cases e1; exact ⟨r, rfl⟩
      have F := (F.addT e2).sub SbC.s (I' := [.tup v [ts tSl', .ref l], .tup a (mvV m)]) (L' := [(l, .lst (.ref a :: r0))]) (fun f hf => by rcases List.mem_cons.mp hf with rfl | hf; exact List.mem_cons_of_mem _ List.mem_cons_self; rw [List.mem_singleton.mp hf]; exact List.mem_cons_self)
      repeat k_meth
      refine forT_by (xs := [ts tSl', .ref l]) (fun n σ' H' => ∃ (o : Option V) (r : List V), σ' = [some (.ref v), o] ∧ r.length ≤ 200 + n ∧ SH B [] H' [(l, .lst (.ref a :: r))] [.tup v [ts tSl', .ref l], .tup a (mvV m)]) ⟨_, r0, rfl, by rw [List.length_cons, List.length_cons] at zl; rw [List.length_cons] at h100; omega, F⟩ ?_ ?_ ?_
      · rintro n σ' H' _ ⟨_, _, rfl, _, F⟩
        exact SqT.of (F.im _ List.mem_cons_self)
      · clear F
        rintro n x σ' H' hx ⟨_, r, rfl, hr2, F⟩
        have hn : n < 2 := (List.getElem?_eq_some_iff.mp hx).1
        rcases List.mem_cons.mp (List.mem_of_getElem? hx) with rfl | hm
        · repeat k_meth
          exact ⟨_, r, rfl, by omega, F⟩
        · cases List.mem_singleton.mp hm
          have al : (V.ref a :: r).length < sizeLine := Nat.lt_of_lt_of_le (m := 1000) (by rw [List.length_cons]; omega) (small_line (by omega))
          have a0 : AtI (V.ref a :: r ++ [.int 0]) 0 (.ref a) := ⟨atI_0⟩
          repeat k_meth
          rw [List.cons_append] at F
          exact ⟨_, r ++ [.int 0], rfl, by rw [List.length_append, List.length_singleton]; omega, F⟩
      · clear F
        rintro σ' H' ⟨_, _, rfl, _, F⟩
        exact k _ F.sm
    | st i t j bs =>
      obtain ⟨l, m, zs, qs, ql, rfl, rfl, rfl⟩ := bo
      have h100 := ok.2.2.1
      have c2 : TupsAt H zs (bs.map bkV) := F.im _ (List.mem_cons_of_mem _ List.mem_cons_self)
      have zl : zs.length = bs.length := by have := c2.1; rw [List.length_map] at this; omega
      cases bs with
      | nil =>
        cases qs with
        | cons _ _ => cases ql
        | nil =>
        cases zs with
        | cons _ _ => cases zl
        | nil =>
        have F : SH B [] H [(l, .lst []), (m, .lst [])] [.tup v [ts tSt, .int i, ts t, .int j, .ref l, .ref m], .tps [] []] := F
        have F : SH B [] H [(l, .lst ((List.replicate 0 (0 : Int)).map V.int)), (m, .lst ((List.replicate 0 (0 : Int)).map V.int))] [.tup v [ts tSt, .int i, ts t, .int j, .ref l, .ref m]] := ⟨F.fr, fun f hf => F.im f (by rw [List.mem_singleton.mp hf]; exact List.mem_cons_self), F.at', F.nd, F.mu, F.ch⟩
        repeat k_meth
        refine forT_by (xs := [ts tSt, .int i, ts t, .int j, .ref l, .ref m]) (fun n σ' H' => ∃ (o : Option V) (x y : Nat), σ' = [some (.ref v), o] ∧ x ≤ n ∧ y ≤ n ∧ SH B [] H' [(l, .lst ((List.replicate x 0).map V.int)), (m, .lst ((List.replicate y 0).map V.int))] [.tup v [ts tSt, .int i, ts t, .int j, .ref l, .ref m]]) ⟨_, 0, 0, rfl, Nat.le_refl _, Nat.le_refl _, F⟩ ?_ ?_ ?_
        · rintro n σ' H' _ ⟨_, _, _, rfl, _, _, F⟩
          exact SqT.of (F.im _ List.mem_cons_self)
        · clear F
          rintro n z σ' H' hx ⟨_, x, y, rfl, hx1, hy1, F⟩
          have hn : n < 6 := (List.getElem?_eq_some_iff.mp hx).1
          have al : ∀ w, w ≤ n → ((List.replicate w (0 : Int)).map V.int).length < sizeLine := fun w hw => Nat.lt_of_lt_of_le (m := 1000) (by rw [List.length_map, List.length_replicate]; omega) (small_line (by omega))
          have e0 : ∀ w, (List.replicate w (0 : Int)).map V.int ++ [.int 0] = (List.replicate (w + 1) 0).map V.int := fun w => by rw [List.replicate_succ', List.map_append]; rfl
          have a0 : ∀ w, AtI ((List.replicate w (0 : Int)).map V.int ++ [.int 0]) 0 (.int 0) := fun w => ⟨by rw [e0]; exact atI_0⟩
          have alx := al x hx1
          have aly := al y hy1
          have mem := List.mem_of_getElem? hx
          simp only [List.mem_cons, List.not_mem_nil, or_false] at mem
          rcases mem with rfl | rfl | rfl | rfl | rfl | rfl
          iterate 4
            · repeat k_meth
              exact ⟨_, x, y, rfl, by omega, by omega, F⟩
          · repeat k_meth
            rw [e0] at F
            exact ⟨_, x + 1, y, rfl, by omega, by omega, F⟩
          · repeat k_meth
            rw [e0] at F
            exact ⟨_, x, y + 1, rfl, by omega, by omega, F⟩
        · clear F
          rintro σ' H' ⟨_, _, _, rfl, _, _, F⟩
          exact k _ F.sm
      | cons b bs' =>
        cases qs with
        | nil => cases ql
        | cons q0 qs' =>
        obtain ⟨a, e1, e2⟩ := c2.2 0 (bkV b) rfl
        obtain ⟨r0, rfl⟩ : ∃ r, zs = .ref a :: r := by
          cases zs with
          | nil => cases e1
          | cons z r => cases e1; exact ⟨r, rfl⟩
        have w0 := (ok.2.2.2 b List.mem_cons_self).ln
        rw [List.length_cons] at zl ql h100
        rw [List.length_cons] at zl ql
        have F3 : SH B [] H [(l, .lst (.ref a :: r0)), (m, .lst (.ref q0 :: qs'.map V.ref)), (q0, .lst (b.vs.map V.int))] [.tup v [ts tSt, .int i, ts t, .int j, .ref l, .ref m], .tup a (bkV b)] := by
          have G := SH.sbl (L' := [(l, .lst (.ref a :: r0)), (m, .lst (.ref q0 :: qs'.map V.ref)), (q0, .lst (b.vs.map V.int))]) (F.addT e2) (((List.nil_sublist (hsR qs' (bs'.map fun b => b.vs.map V.int))).cons_cons _).cons_cons _ |>.cons_cons _)
          exact ⟨G.fr, fun f hf => G.im f (by rcases List.mem_cons.mp hf with rfl | hf; exact List.mem_cons_of_mem _ List.mem_cons_self; rw [List.mem_singleton.mp hf]; exact List.mem_cons_self), G.at', G.nd, G.mu, G.ch⟩
        clear F
        have F := F3
        clear F3
        repeat k_meth
        refine forT_by (xs := [ts tSt, .int i, ts t, .int j, .ref l, .ref m]) (fun n σ' H' => ∃ (o : Option V) (x y z : List V), σ' = [some (.ref v), o] ∧ x.length ≤ 200 + n ∧ y.length ≤ 200 + n ∧ z.length ≤ 200 + n ∧ SH B [] H' [(l, .lst (.ref a :: x)), (m, .lst (.ref q0 :: y)), (q0, .lst z)] [.tup v [ts tSt, .int i, ts t, .int j, .ref l, .ref m], .tup a (bkV b)]) ⟨_, r0, qs'.map V.ref, b.vs.map V.int, rfl, by omega, by rw [List.length_map]; omega, by rw [List.length_map]; omega, F⟩ ?_ ?_ ?_
        · rintro n σ' H' _ ⟨_, _, _, _, rfl, _, _, _, F⟩
          exact SqT.of (F.im _ List.mem_cons_self)
        · clear F
          rintro n u σ' H' hx ⟨_, x, y, z, rfl, lx, ly, lz, F⟩
          have hn : n < 6 := (List.getElem?_eq_some_iff.mp hx).1
          have al : ∀ (c : V) (w : List V), w.length ≤ 200 + n → (c :: w).length < sizeLine := fun c w hw => Nat.lt_of_lt_of_le (m := 1000) (by rw [List.length_cons]; omega) (small_line (by omega))
          have alx := al (.ref a) x lx
          have aly := al (.ref q0) y ly
          have alz : z.length < sizeLine := Nat.lt_of_lt_of_le (m := 1000) (by omega) (small_line (by omega))
          have a1 : AtI (V.ref a :: x ++ [.int 0]) 0 (.ref a) := ⟨atI_0⟩
          have a2 : AtI (V.ref q0 :: y ++ [.int 0]) 0 (.ref q0) := ⟨atI_0⟩
          have l1 : ∀ w : List V, w.length ≤ 200 + n → (w ++ [V.int 0]).length ≤ 200 + (n + 1) := fun w h => by rw [List.length_append, List.length_singleton]; omega
          have mem := List.mem_of_getElem? hx
          simp only [List.mem_cons, List.not_mem_nil, or_false] at mem
          rcases mem with rfl | rfl | rfl | rfl | rfl | rfl
          iterate 4
            · repeat k_meth
              exact ⟨_, x, y, z, rfl, by omega, by omega, by omega, F⟩
          · repeat k_meth
            rw [List.cons_append] at F
            exact ⟨_, x ++ [.int 0], y, z, rfl, l1 x lx, by omega, by omega, F⟩
          · repeat k_meth
            rw [List.cons_append] at F
            exact ⟨_, x, y ++ [.int 0], z ++ [.int 0], rfl, by omega, l1 y ly, l1 z lz, F⟩
        · clear F
          rintro σ' H' ⟨_, _, _, _, rfl, _, _, _, F⟩
          exact k _ F.sm
end
def mvF : List V → V
  | [.str z, .int i] => .str (z ++ tx [32] ++ tx (numT i))
  | _ => .non
instance (priority := high) go_raddL {H : Hp} {Q : VK} {cs ds : List Nat} : Go (rAddS (.str (tx cs)) (.str (tx ds)) H Q) (Sd (cs.length + ds.length ≤ 900000) (Q (.str (tx (cs ++ ds))) H)) := ⟨fun s => ⟨_, _, rfl, rfl, by rw [tx_len, tx_len]; exact small_line (by have := s.1; omega), by rw [append_tx]; exact s.2⟩⟩
theorem join_pairs : ∀ ms : List Mv, joinC 32 (ms.map fun m => m.1 ++ 32 :: numT m.2) = joinC 32 (ms.flatMap fun m => [m.1, numT m.2])
  | [] => rfl
  | [m] => rfl
  | m :: n :: r => by
    have ih := join_pairs (n :: r)
    show (m.1 ++ 32 :: numT m.2) ++ 32 :: joinC 32 ((n :: r).map fun m => m.1 ++ 32 :: numT m.2) = _
    rw [ih]
    show _ = m.1 ++ 32 :: (numT m.2 ++ 32 :: joinC 32 ((n :: r).flatMap fun m => [m.1, numT m.2]))
    simp
def sp_lline : Sp := fun vs H Q _ => ∃ (v : Addr) (p : Ln) (B : Hp), vs = [.ref v] ∧ Told B H v p ∧ GdL p ∧ ∀ H', Same H H' → Q (ts (lineT p)) H'
section
variable {P : Program} {w : World} {K : PySem.W.Frag} {mg : Str → Option Value} {base : Heap} {c : Nat → Addr} {R aM aS aT aB aD : Addr} {kv : List (Key × V)}
theorem D_lline (T : Txt w K mg c R aM aS aT aB aD kv) : Def P w K mg base CX0 1 "_law_line" ["_law_parts_here"] sp_lline := by
  refine def_of T.d_lline sc_lline (fun vs H Q E h => ?_) (fun _ _ _ _ _ _ us hl => match us, hl with | [_], _ => rfl) (fun f cdv A outer s H vs Q E hr h => ?_)
  · obtain ⟨v, p, B, rfl, _⟩ := h
    rfl
  · obtain ⟨v, p, B, rfl, td, gd, k⟩ := h
    have nd := sc_lline.nd
    refine ⟨_, (pss_cons (ps_if (pt_cmpR op_eq (pe_ix ix_tup (pv 0) pe_int (fun _ _ => rfl)) (pe_strT (cs := [115, 108, 105, 100, 101]) (by decide +kernel)) (nomark _)) (pss_one (ps_ret (pe_op op_addS (pe_strT (cs := [115, 108, 105, 100, 101, 32]) (by decide +kernel)) (pe_join (pe_strT (cs := [32]) (by decide +kernel)) (pe_comp (N := ["_law_name", "_law_to"]) (nt := 2) (fr := []) (pi_list (pe_ix ix_tup (pv 0) pe_int (fun _ _ => rfl))) (fun _ _ _ _ => (pg_tupK (K := K) (n := 2) rfl rfl (pgs_cons (pg_name (i := 0) (show (["_law_name", "_law_to"] : List Str).Nodup from by decide +kernel) rfl (Or.inl rfl)) (pgs_cons (pg_name (i := 1) (show (["_law_name", "_law_to"] : List Str).Nodup from by decide +kernel) rfl (Or.inl rfl)) pgs_nil)))) (fun _ _ _ _ => pif_nil) (fun _ _ _ _ => (pe_op op_addS (pe_op op_addS (pv 0) (pe_strT (cs := [32]) (by decide +kernel))) (pe_callTy call_strP rfl T.n_str boot_str (pa_cons (pv 1) pa_nil))))))))) pss_nil)
      (pss_cons (ps_setc (i := 1) nd rfl (Or.inl rfl) (N := ["_law_part"]) (nt := 1) (fr := []) (pi_tup (pe_slice sl_tupW (pv 0) po_none (po_some pe_int))) (fun _ _ _ _ => (pg_name (i := 0) (show (["_law_part"] : List Str).Nodup from by decide +kernel) rfl (Or.inl rfl))) (fun _ _ _ _ => pif_nil) (fun _ _ _ _ => (pe_callTy call_strP rfl T.n_str boot_str (pa_cons (pv 0) pa_nil))))
      (pss_cons (ps_if (pt_cmpR op_eq (pe_ix ix_tup (pv 0) pe_int (fun _ _ => rfl)) (pe_strT (cs := [115, 116, 97, 110, 100]) (by decide +kernel)) (nomark _)) (pss_one (ps_for PassesOwn.never rfl (pi_zip rfl T.n_zip (pa_cons (pe_ix ix_tup (pv 0) pe_int (fun _ _ => rfl)) (pa_cons (pe_ix ix_tup (pv 0) pe_int (fun _ _ => rfl)) pa_nil))) (pg_tup rfl (pgs_cons (pg_tup rfl (pgs_cons (pg_name (i := 2) nd rfl (Or.inl rfl)) (pgs_cons (pg_name (i := 3) nd rfl (Or.inl rfl)) (pgs_cons (pg_name (i := 4) nd rfl (Or.inl rfl)) (pgs_cons (pg_name (i := 5) nd rfl (Or.inl rfl)) pgs_nil))))) (pgs_cons (pg_name (i := 6) nd rfl (Or.inl rfl)) pgs_nil))) (pss_cons (ps_set (i := 1) nd rfl (Or.inl rfl) (pe_op op_catA (pv 1) (pe_lstA (pa_cons (pe_strT (cs := [59]) (by decide +kernel)) (pa_cons (pv 2) (pa_cons (pe_callTy call_strP rfl T.n_str boot_str (pa_cons (pv 3) pa_nil)) (pa_cons (pe_callTy call_strP rfl T.n_str boot_str (pa_cons (pv 4) pa_nil)) (pa_cons (pe_callTy call_strP rfl T.n_str boot_str (pa_cons (pv 5) pa_nil)) pa_nil))))))))
          (pss_one (ps_expr (pe_appendA (pv 1) (pe_join (pe_strT (cs := [44]) (by decide +kernel)) (pe_comp (N := ["_law_value"]) (nt := 1) (fr := []) (pi_list (pv 6)) (fun _ _ _ _ => (pg_name (i := 0) (show (["_law_value"] : List Str).Nodup from by decide +kernel) rfl (Or.inl rfl))) (fun _ _ _ _ => pif_nil) (fun _ _ _ _ => (pe_callTy call_strP rfl T.n_str boot_str (pa_cons (pv 0) pa_nil))))))))))) pss_nil)
      (pss_one (ps_ret (pe_join (pe_strT (cs := [32]) (by decide +kernel)) (pv 1))))))), ?_⟩
    clear nd 
    rw [show start ["_law_parts_here", "_law_words", "_law_name", "_law_start", "_law_size", "_law_pins", "_law_values"] [.ref v] = [some (.ref v), none, none, none, none, none, none] from rfl]
    try dsimp only [cx_K, cx_K2]
    have F : SH H [] H [] [] := SH.nil
    obtain ⟨ys, X, I, G, bo⟩ := td
    have hv : H v = some (.tup (ts (lnF p) :: ys)) := G.im _ List.mem_cons_self
    have o_v := Old.mk (M := []) hv nm0
    have ls := line_sum gd.sm
    have ok := gd.ok
    cases p with
    | me i t =>
      obtain ⟨rfl, rfl, rfl⟩ := bo
      rw [show lnF (.me i t) = tMe from rfl] at o_v hv
      clear G
      have wa : WhA [ts tMe, .int i, ts t] none (some 4) := ⟨rfl, rfl⟩
      have h30 : i.natAbs < 10 ^ 30 := ok
      repeat k_meth
      refine comp_VT (F := strV) (F.sm _ _ hv) (by simp) rfl (fun v H' R hv s kk => ?_) fun q H3 nw => ?_
      · clear F
        have F : SH H' [] H' [] [] := SH.nil
        simp only [List.mem_cons, List.not_mem_nil, or_false] at hv
        rcases hv with rfl | rfl | rfl
        all_goals
          repeat k_meth
          exact kk _ (Same.refl _)
      · have F := F.newL nw
        have tl : TxL ([ts tMe, .int i, ts t].map strV) [tMe, numT i, t] := ⟨rfl⟩
        have l2 : ([tMe, numT i, t].map fun d => d.length).sum + [tMe, numT i, t].length ≤ 1000000 := Nat.le_trans ls (by decide)
        repeat k_meth
        exact k _ F.sm
    | fl f ps =>
      obtain ⟨rfl, rfl, rfl⟩ := bo
      obtain ⟨ks, hm, hl, h1, hf, n1, n2, n3⟩ := ok
      rw [show lnF (.fl f ps) = f from rfl] at o_v hv
      clear G
      have l3 : ps.length ≤ 3 := by
        rw [← hl]
        have : ∀ x ∈ shapesT, x.2.length ≤ 3 := by decide
        exact this _ hm
      have wa : WhA (ts f :: ps.map paV) none (some 4) := ⟨by
        refine ⟨rfl, ?_⟩
        rw [show (some (4 : Int)) = some ((4 : Nat) : Int) from rfl, HT.sIx_nat, List.length_cons, List.length_map]
        omega⟩
      repeat k_meth
      rw [tx_no n2]
      repeat k_meth
      refine comp_VT (F := strV) (F.sm _ _ hv) (by simp; omega) rfl (fun v H' R hv s kk => ?_) fun q H3 nw => ?_
      · clear F
        have F : SH H' [] H' [] [] := SH.nil
        rcases List.mem_cons.mp hv with rfl | hv
        · repeat k_meth
          exact kk _ (Same.refl _)
        obtain ⟨b, hb, rfl⟩ := List.mem_map.mp hv
        cases b with
        | n i =>
          have h30 : i.natAbs < 10 ^ 30 := by
            obtain ⟨n, hn, e⟩ := List.mem_iff_getElem.mp hb
            have hk : n < ks.length := by omega
            exact (hf n ks[n] (.n i) (by simp) (by rw [← e]; simp)).2
          rw [show paV (.n i) = .int i from rfl]
          repeat k_meth
          exact kk _ (Same.refl _)
        | w t =>
          rw [show paV (.w t) = ts t from rfl]
          repeat k_meth
          exact kk _ (Same.refl _)
      · have F := F.newL nw
        have tl : TxL ((ts f :: ps.map paV).map strV) (f :: ps.map paT) := ⟨by
          rw [List.map_cons, List.map_map, List.map_cons, List.map_map]
          congr 1
          exact List.map_congr_left fun b _ => by cases b <;> rfl⟩
        have l2 : ((f :: ps.map paT).map fun d => d.length).sum + (f :: ps.map paT).length ≤ 1000000 := Nat.le_trans ls (by decide)
        repeat k_meth
        rw [tx_no n3]
        repeat k_meth
        exact k _ F.sm
    | sl ms =>
      obtain ⟨l, zs, rfl, rfl, rfl⟩ := bo
      rw [show lnF (.sl ms) = tSl' from rfl] at o_v hv
      have c1 := G.at' _ List.mem_cons_self
      have c2 : TupsAt H zs (ms.map mvV) := G.im _ (List.mem_cons_of_mem _ List.mem_cons_self)
      clear G
      have o_l := Old.mk (M := []) c1 nm0
      have o_t := OldP.mk c2
      have zl : zs.length = ms.length := by have := c2.1; rw [List.length_map] at this; omega
      have h100 := ok.2.1
      have wl : ∀ m ∈ ms, m.1.length ≤ 4000 := fun m hm => gd.sm.2.1 _ (List.mem_cons_of_mem _ (List.mem_flatMap.mpr ⟨m, hm, List.mem_cons_self⟩))
      repeat k_meth
      refine comp_rows2 (F := mvF) c1 c2 rfl (fun r hr => by obtain ⟨m, _, rfl⟩ := List.mem_map.mp hr; exact ⟨_, _, rfl⟩) (by omega) rfl (fun a b H' R hm s kk => ?_) fun q H3 nw => ?_
      · clear F
        have F : SH H' [] H' [] [] := SH.nil
        obtain ⟨m, hm2, e⟩ := List.mem_map.mp hm
        unfold mvV at e
        cases e
        replace hm := hm2
        clear hm2
        have h30 := ok.2.2 m hm
        have w1 := wl m hm
        have n1 := (num_len h30).2
        rw [show mvF [ts m.1, .int m.2] = ts (m.1 ++ [32] ++ numT m.2) by
          show V.str (tx m.1 ++ tx [32] ++ tx (numT m.2)) = _
          rw [append_tx, append_tx]] at kk
        repeat k_meth
        exact kk _ (Same.refl _)
      · have F := F.newL nw
        have tl : TxL ((ms.map mvV).map mvF) (ms.map fun m => m.1 ++ 32 :: numT m.2) := ⟨by
          rw [List.map_map, List.map_map]
          refine List.map_congr_left fun m _ => ?_
          show V.str (tx m.1 ++ tx [32] ++ tx (numT m.2)) = _
          rw [append_tx, append_tx]
          simp⟩
        have l2 : ((ms.map fun m => m.1 ++ 32 :: numT m.2).map fun d => d.length).sum ≤ 4100 * (ms.map fun m => m.1 ++ 32 :: numT m.2).length := sum_le fun d hd => by
          obtain ⟨m, hm, rfl⟩ := List.mem_map.mp hd
          have w1 := wl m hm
          have n1 := (num_len (ok.2.2 m hm)).2
          rw [List.length_append, List.length_cons]
          omega
        rw [List.length_map (as := ms)] at l2
        have l3 : ((ms.map fun m => m.1 ++ 32 :: numT m.2).map fun d => d.length).sum + (ms.map fun m => m.1 ++ 32 :: numT m.2).length ≤ 1000000 := by rw [List.length_map (as := ms)]; omega
        have l4 := joinC_len 32 (ms.map fun m => m.1 ++ 32 :: numT m.2)
        rw [List.length_map (as := ms)] at l4
        repeat k_meth
        rw [show lineT (.sl ms) = [115, 108, 105, 100, 101, 32] ++ joinC 32 (ms.map fun m => m.1 ++ 32 :: numT m.2) by
          rw [join_pairs]
          exact joinC_app 32 (a := [tSl']) (by simp) (by cases ms with | nil => exact absurd rfl ok.1 | cons m r => simp)] at k
        exact k _ F.sm
    | st i t j bs =>
      obtain ⟨l, m, zs, qs, ql, rfl, rfl, rfl⟩ := bo
      rw [show lnF (.st i t j bs) = tSt from rfl] at o_v hv
      have c1 := G.at' _ List.mem_cons_self
      have c2 : TupsAt H zs (bs.map bkV) := G.im _ (List.mem_cons_of_mem _ List.mem_cons_self)
      have c3 := G.at' _ (List.mem_cons_of_mem _ List.mem_cons_self)
      have c4 : ∀ (n : Nat) q (b : Bk), qs[n]? = some q → bs[n]? = some b → H q = some (.lst (b.vs.map V.int)) := fun n q b h1 h2 => G.at' (q, .lst (b.vs.map V.int)) (List.mem_cons_of_mem _ (List.mem_cons_of_mem _ (hsR_at h1 (by rw [List.getElem?_map, h2]; rfl))))
      clear G
      have hl : H l = some (.lst zs) := c1
      have hm : H m = some (.lst (qs.map V.ref)) := c3
      have o_l := Old.mk (M := []) hl nm0
      have o_m := Old.mk (M := []) hm nm0
      have zl : zs.length = bs.length := by have := c2.1; rw [List.length_map] at this; omega
      have h100 := ok.2.2.1
      have hi := ok.1
      have hj := ok.2.1
      have nw4 : NwA [ts tSt, .int i, ts t, .int j, .ref l, .ref m] none (some 4) := ⟨fun h => absurd (show 4 = 6 from h.2) (by decide)⟩
      have ca : CutA [ts tSt, .int i, ts t, .int j, .ref l, .ref m] none (some 4) [ts tSt, .int i, ts t, .int j] := ⟨rfl⟩
      repeat k_meth
      refine comp_VT (F := strV) (hatC : H_ p_ = some (.tup [ts tSt, .int i, ts t, .int j])) (by simp) rfl (fun v H' R hv s kk => ?_) fun q H3 nw => ?_
      · clear F
        have F : SH H' [] H' [] [] := SH.nil
        simp only [List.mem_cons, List.not_mem_nil, or_false] at hv
        rcases hv with rfl | rfl | rfl | rfl
        all_goals
          repeat k_meth
          exact kk _ (Same.refl _)
      · have F := F.newL nw
        repeat k_meth
        refine for_zip (by rw [List.length_map]; omega) (fun n σ' H' => ∃ (wd : Addr) (o2 o3 o4 o5 o6 : Option V), σ' = [some (.ref v), some (.ref wd), o2, o3, o4, o5, o6] ∧ SH H [] H' [(wd, .lst (([tSt, numT i, t, numT j] ++ (bs.take n).flatMap bkX).map fun d => V.str (tx d)))] []) ⟨q, _, _, _, _, _, rfl, F.sub (L' := [(q, .lst ([ts tSt, .int i, ts t, .int j].map strV))]) (I' := []) SbC.s (by simp)⟩ ?_ ?_ ?_
        · rintro n σ' H' hn ⟨_, _, _, _, _, _, rfl, F⟩
          exact ⟨SqL.of (F.sm _ _ hl), SqL.of (F.sm _ _ hm)⟩
        · clear F
          rintro n x y Tp σ' H1 H2 hx hy ⟨wd, _, _, _, _, _, rfl, F⟩ nw
          have hn : n < bs.length := by
            have := (List.getElem?_eq_some_iff.mp hx).1
            omega
          obtain ⟨b, hbn⟩ : ∃ b, bs[n]? = some b := ⟨bs[n], by simp⟩
          obtain ⟨q, hqn, rfl⟩ := map_at hy
          obtain ⟨ra, e1, e2⟩ := c2.2 n (bkV b) (by rw [List.getElem?_map, hbn]; rfl)
          rw [hx] at e1
          cases e1
          have e2 : H ra = some (.tup [ts b.nm, .int b.st, .int (b.vs.length : Nat), .int b.pn]) := e2
          have o_r := Old.mk (M := []) e2 nm0
          have hq2 := c4 n q b hqn hbn
          have o_q := Old.mk (M := []) hq2 nm0
          have F := F.newT nw
          have okb := ok.2.2.2 b (List.mem_of_getElem? hbn)
          have n1 := okb.st
          have n2 := okb.pn
          have hz : ((b.vs.length : Nat) : Int).natAbs < 10 ^ 30 := by have := okb.ln; omega
          have wl : ([tSt, numT i, t, numT j] ++ (bs.take n).flatMap bkX).length ≤ 700 := by
            have : ∀ xs : List Bk, (xs.flatMap bkX).length = 6 * xs.length := fun xs => by
              induction xs with
              | nil => rfl
              | cons a r ih => rw [List.flatMap_cons, List.length_append, ih, List.length_cons]; simp only [bkX, List.length_cons, List.length_nil]; omega
            rw [List.length_append, this, List.length_take]
            simp only [List.length_cons, List.length_nil]
            omega
          have al : (([tSt, numT i, t, numT j] ++ (bs.take n).flatMap bkX).map fun d => V.str (tx d)).length + [ts [59], ts b.nm, ts (numT b.st), ts (numT (b.vs.length : Nat)), ts (numT b.pn)].length ≤ sizeLine := by
            rw [List.length_map]
            refine Nat.le_trans (m := 1000) ?_ (small_line (by omega))
            simp only [List.length_cons, List.length_nil]
            omega
          repeat k_meth
          obtain ⟨w2, e⟩ : ∃ mv, mv = p_ := ⟨_, rfl⟩
          subst e
          refine comp_V (F := strV) (SqL.of (F.sm _ _ hq2)) (by have := okb.ln; simp; omega) rfl (fun v H' R hv s kk => ?_) fun q3 H4 nw => ?_
          · obtain ⟨i, him, rfl⟩ := List.mem_map.mp hv
            have h30 := okb.vs i him
            clear F
            have F : SH H' [] H' [] [] := SH.nil
            repeat k_meth
            exact kk _ (Same.refl _)
          · rw [List.map_map, show (strV ∘ V.int : Int → V) = (fun d => V.str (tx d)) ∘ numT from rfl, ← List.map_map] at nw
            have F := F.newL nw
            have sn : ((b.vs.map numT).map fun d => d.length).sum ≤ 31 * (b.vs.map numT).length := sum_le fun d hd => by
              obtain ⟨i, him, rfl⟩ := List.mem_map.mp hd
              exact (num_len (okb.vs i him)).2
            rw [List.length_map] at sn
            have sl1 := okb.ln
            have l2 : ((b.vs.map numT).map fun d => d.length).sum + (b.vs.map numT).length ≤ 1000000 := by rw [List.length_map]; omega
            have al2 : ((([tSt, numT i, t, numT j] ++ (bs.take n).flatMap bkX).map fun d => V.str (tx d)) ++ [ts [59], ts b.nm, ts (numT b.st), ts (numT (b.vs.length : Nat)), ts (numT b.pn)]).length < sizeLine := by
              rw [List.length_append, List.length_map]
              refine Nat.lt_of_lt_of_le (m := 1000) ?_ (small_line (by omega))
              simp only [List.length_cons, List.length_nil]
              omega
            repeat k_meth
            refine ⟨w2, _, _, _, _, _, rfl, ?_⟩
            rw [← vals_join] at F
            rw [show ([tSt, numT i, t, numT j] ++ (bs.take (n + 1)).flatMap bkX).map (fun d => V.str (tx d)) = ([tSt, numT i, t, numT j] ++ (bs.take n).flatMap bkX).map (fun d => V.str (tx d)) ++ [ts [59], ts b.nm, ts (numT b.st), ts (numT (b.vs.length : Nat)), ts (numT b.pn)] ++ [V.str (tx (valsT b.vs))] by rw [List.take_succ, hbn]; simp [bkX]]
            exact F.sub SbC.s (by simp)
        · clear F
          rintro σ' H' ⟨wd, _, _, _, _, _, rfl, F⟩
          rw [zl, List.take_length] at F
          have l2 : (([tSt, numT i, t, numT j] ++ bs.flatMap bkX).map fun d => d.length).sum + ([tSt, numT i, t, numT j] ++ bs.flatMap bkX).length ≤ 1000000 := Nat.le_trans ls (by decide)
          repeat k_meth
          exact k _ F.sm
end
structure Wd (d : List Nat) : Prop where
  ne : d ≠ []
  no : 32 ∉ d
  ln : d.length ≤ 4000
theorem WOk.wd {t : List Nat} (h : WOk t) : Wd t := ⟨h.ne, h.no, by have := h.ln; omega⟩
theorem num_Wd {i : Int} (h : i.natAbs < 10 ^ 30) : Wd (numT i) := ⟨(num_wd h).1, (num_wd h).2, by have := (num_len h).2; omega⟩
theorem OkB.wd {b : Bk} (h : OkB b) : Wd (valsT b.vs) := ⟨vals_ne h.ne h.vs, fun e => by have := vals_no e; omega, by have := vals_len b.vs h.vs; have := h.ln; omega⟩
theorem wd_st : Wd tSt := ⟨by decide, by decide, by decide⟩
theorem wd_sl : Wd tSl' := ⟨by decide, by decide, by decide⟩
theorem wd_me : Wd tMe := ⟨by decide, by decide, by decide⟩
theorem wd_sem : Wd [59] := ⟨by decide, by decide, by decide⟩
theorem flat6 (bs : List Bk) : (bs.flatMap bkX).length = 6 * bs.length := by
  induction bs with
  | nil => rfl
  | cons a r ih => rw [List.flatMap_cons, List.length_append, ih, List.length_cons]; simp only [bkX, List.length_cons, List.length_nil]; omega
theorem gd_st {i j : Int} {t : List Nat} {bs : List Bk} (hi : i.natAbs < 10 ^ 30) (hj : j.natAbs < 10 ^ 30) (wt : WOk t) (bl : bs.length ≤ 20) (hb : ∀ b ∈ bs, OkB b ∧ WOk b.nm) : GdL (.st i t j bs) := by
  have h : ∀ d ∈ lnF (.st i t j bs) :: lnX (.st i t j bs), Wd d := fun d hd => by
    rcases List.mem_cons.mp hd with rfl | hd
    · exact wd_st
    rcases List.mem_append.mp (show d ∈ [numT i, t, numT j] ++ bs.flatMap bkX from hd) with hd | hd
    · simp only [List.mem_cons, List.not_mem_nil, or_false] at hd
      rcases hd with rfl | rfl | rfl
      · exact num_Wd hi
      · exact wt.wd
      · exact num_Wd hj
    · obtain ⟨b, hm, hd⟩ := List.mem_flatMap.mp hd
      have ok := (hb b hm).1
      simp only [bkX, List.mem_cons, List.not_mem_nil, or_false] at hd
      rcases hd with rfl | rfl | rfl | rfl | rfl | rfl
      · exact wd_sem
      · exact (hb b hm).2.wd
      · exact num_Wd ok.st
      · exact num_Wd (by have := ok.ln; omega)
      · exact num_Wd ok.pn
      · exact ok.wd
  refine ⟨⟨hi, hj, by omega, fun b h => (hb b h).1⟩, ⟨?_, fun d hd => (h d hd).ln, wt.ln, fun b h => (hb b h).2.ln⟩, fun d hd => ⟨(h d hd).ne, (h d hd).no⟩⟩
  show ([numT i, t, numT j] ++ bs.flatMap bkX).length ≤ 200
  rw [List.length_append, flat6]
  simp only [List.length_cons, List.length_nil]
  omega
theorem gd_sl {ms : List Mv} (ne : ms ≠ []) (ml : ms.length ≤ 50) (hm : ∀ m ∈ ms, WOk m.1 ∧ m.2.natAbs < 10 ^ 30) : GdL (.sl ms) := by
  have h : ∀ d ∈ lnF (.sl ms) :: lnX (.sl ms), Wd d := fun d hd => by
    rcases List.mem_cons.mp hd with rfl | hd
    · exact wd_sl
    obtain ⟨m, hb, hd⟩ := List.mem_flatMap.mp hd
    simp only [List.mem_cons, List.not_mem_nil, or_false] at hd
    rcases hd with rfl | rfl
    · exact (hm m hb).1.wd
    · exact num_Wd (hm m hb).2
  refine ⟨⟨ne, by omega, fun m h => (hm m h).2⟩, ⟨?_, fun d hd => (h d hd).ln, trivial⟩, fun d hd => ⟨(h d hd).ne, (h d hd).no⟩⟩
  have : ∀ xs : List Mv, (xs.flatMap fun m => [m.1, numT m.2]).length = 2 * xs.length := fun xs => by
    induction xs with
    | nil => rfl
    | cons a r ih => rw [List.flatMap_cons, List.length_append, ih]; simp; omega
  show (ms.flatMap fun m => [m.1, numT m.2]).length ≤ 200
  rw [this]
  omega
theorem gd_me {i : Int} {t : List Nat} (hi : i.natAbs < 10 ^ 30) (wt : WOk t) : GdL (.me i t) := by
  have h : ∀ d ∈ lnF (.me i t) :: lnX (.me i t), Wd d := fun d hd => by
    rcases List.mem_cons.mp hd with rfl | hd
    · exact wd_me
    simp only [lnX, List.mem_cons, List.not_mem_nil, or_false] at hd
    rcases hd with rfl | rfl
    · exact num_Wd hi
    · exact wt.wd
  exact ⟨hi, ⟨by show 2 ≤ 200; decide, fun d hd => (h d hd).ln, trivial⟩, fun d hd => ⟨(h d hd).ne, (h d hd).no⟩⟩
theorem gd_fl {f : List Nat} {ps : List Pa} {ks : List Str} (hs : (tx f, ks) ∈ shapesT) (hl : ks.length = ps.length) (hf : ∀ (i : Nat) k b, ks[i]? = some k → ps[i]? = some b → fits k b) (wf : Wd f) (n1 : f ≠ tMe) (n2 : f ≠ tSl') (n3 : f ≠ tSt) (hw : ∀ b ∈ ps, Wd (paT b)) : GdL (.fl f ps) := by
  have l3 : ps.length ≤ 3 := by
    rw [← hl]
    have : ∀ x ∈ shapesT, x.2.length ≤ 3 := by decide
    exact this _ hs
  have h : ∀ d ∈ lnF (.fl f ps) :: lnX (.fl f ps), Wd d := fun d hd => by
    rcases List.mem_cons.mp hd with rfl | hd
    · exact wf
    obtain ⟨b, hb, rfl⟩ := List.mem_map.mp (show d ∈ ps.map paT from hd)
    exact hw b hb
  exact ⟨⟨ks, hs, hl, by omega, hf, n1, n2, n3⟩, ⟨by show (ps.map paT).length ≤ 200; rw [List.length_map]; omega, fun d hd => (h d hd).ln, trivial⟩, fun d hd => ⟨(h d hd).ne, (h d hd).no⟩⟩
theorem ten {ds : List Nat} (h : ds.length = 10) : ∃ d0 d1 d2 d3 d4 d5 d6 d7 d8 d9, ds = [d0, d1, d2, d3, d4, d5, d6, d7, d8, d9] := by
  match ds, h with
  | [d0, d1, d2, d3, d4, d5, d6, d7, d8, d9], _ => exact ⟨d0, d1, d2, d3, d4, d5, d6, d7, d8, d9, rfl⟩
abbrev dsV (ds : List Nat) : List V := ds.map fun d : Nat => V.int (d : Int)
def sp_lstand : Sp := fun vs H Q _ => ∃ (c : Int) (d : Addr) (ds : List Nat), vs = [.int c, .ref d] ∧ H d = some (.lst (dsV ds)) ∧ ds.length = 10 ∧ (∀ x ∈ ds, x < 10 ^ 6) ∧ ∀ v p H', Told H H' v p → GdL p → Q (.ref v) H'
section
variable {P : Program} {w : World} {K : PySem.W.Frag} {mg : Str → Option Value} {base : Heap} {c : Nat → Addr} {R aM aS aT aB aD : Addr} {kv : List (Key × V)}
theorem D_lstand (T : Txt w K mg c R aM aS aT aB aD kv) : Def P w K mg base CX0 2 "_law_stand" ["_law_cell", "_law_draws_here"] sp_lstand := by
  have D_lnum := D_lnum (P := P) (w := w) (base := base) T
  have D_lword := D_lword (P := P) (w := w) (base := base) T
  refine def_of T.d_lstand sc_lstand (fun vs H Q E h => ?_) (fun _ _ _ _ _ _ us hl => match us, hl with | [_, _], _ => rfl) (fun f cdv A outer s H vs Q E hr h => ?_)
  · obtain ⟨c0, d, ds, rfl, _⟩ := h
    rfl
  · obtain ⟨c0, d, ds, rfl, hd, dl, dm, k⟩ := h
    have nd := sc_lstand.nd
    refine ⟨_, (pss_cons (ps_set (i := 2) nd rfl (Or.inl rfl) (pe_lstA pa_nil))
      (pss_cons (ps_set (i := 3) nd rfl (Or.inl rfl) (pe_lstA pa_nil))
      (pss_cons (ps_for PassesOwn.never rfl (pi_range1 rfl T.n_range (pa_cons (pe_op op_mod (pe_ix ix_list (pv 1) pe_int (fun _ _ => rfl)) pe_int) pa_nil)) (pg_name (i := 4) nd rfl (Or.inl rfl)) (pss_cons (ps_set (i := 5) nd rfl (Or.inl rfl) (pe_op op_add pe_int (pe_op op_mod (pe_op op_fdiv (pe_op op_add (pe_ix ix_list (pv 1) pe_int (fun _ _ => rfl)) (pe_op op_mul pe_int (pv 4))) (pe_op op_add (pv 4) pe_int)) (pe_ix ix_list (pe_lstA (pa_cons pe_int (pa_cons pe_int (pa_cons pe_int pa_nil)))) (pe_op op_mod (pe_ix ix_list (pv 1) pe_int (fun _ _ => rfl)) pe_int) (fun _ _ => rfl)))))
        (pss_cons (ps_set (i := 6) nd rfl (Or.inl rfl) (pe_def D_lnum hr (pa_cons (pe_op op_fdiv (pv 0) (pe_op op_add (pv 4) pe_int)) (pa_cons (pe_op op_fdiv (pe_ix ix_list (pv 1) pe_int (fun _ _ => rfl)) (pe_op op_add (pv 4) pe_int)) (pa_cons (pe_op op_add (pe_ix ix_list (pv 1) pe_int (fun _ _ => rfl)) (pv 4)) pa_nil)))))
        (pss_cons (ps_set (i := 7) nd rfl (Or.inl rfl) (pe_def D_lnum hr (pa_cons (pe_op op_fdiv (pv 0) (pe_op op_add (pv 4) pe_int)) (pa_cons (pe_op op_fdiv (pe_ix ix_list (pv 1) pe_int (fun _ _ => rfl)) (pe_op op_add (pv 4) pe_int)) (pa_cons (pe_op op_add (pe_ix ix_list (pv 1) pe_int (fun _ _ => rfl)) (pv 4)) pa_nil)))))
        (pss_cons (ps_set (i := 8) nd rfl (Or.inl rfl) (pe_def D_lword hr (pa_cons (pe_op op_fdiv (pe_ix ix_list (pv 1) pe_int (fun _ _ => rfl)) (pe_op op_add (pv 4) pe_int)) (pa_cons (pe_op op_add (pe_ix ix_list (pv 1) pe_int (fun _ _ => rfl)) (pv 4)) pa_nil))))
        (pss_cons (ps_expr (pe_appendA (pv 2) (pe_tupA (pa_cons (pv 8) (pa_cons (pv 6) (pa_cons (pv 5) (pa_cons (pv 7) pa_nil)))))))
        (pss_cons (ps_set (i := 9) nd rfl (Or.inl rfl) (pe_lstA pa_nil))
        (pss_cons (ps_for PassesOwn.never rfl (pi_range1 rfl T.n_range (pa_cons (pv 5) pa_nil)) (pg_name (i := 10) nd rfl (Or.inl rfl)) (pss_one (ps_expr (pe_appendA (pv 9) (pe_def D_lnum hr (pa_cons (pe_op op_fdiv (pv 0) (pe_op op_add (pv 10) pe_int)) (pa_cons (pe_op op_add (pe_op op_fdiv (pe_ix ix_list (pv 1) pe_int (fun _ _ => rfl)) (pe_op op_add (pv 10) pe_int)) (pv 4)) (pa_cons (pe_op op_add (pe_ix ix_list (pv 1) pe_int (fun _ _ => rfl)) (pv 10)) pa_nil))))))))
        (pss_one (ps_expr (pe_appendA (pv 3) (pv 9))))))))))))
      (pss_cons (ps_set (i := 11) nd rfl (Or.inl rfl) (pe_def D_lnum hr (pa_cons (pe_op op_fdiv (pv 0) pe_int) (pa_cons (pe_ix ix_list (pv 1) pe_int (fun _ _ => rfl)) (pa_cons (pe_ix ix_list (pv 1) pe_int (fun _ _ => rfl)) pa_nil)))))
      (pss_cons (ps_set (i := 12) nd rfl (Or.inl rfl) (pe_def D_lnum hr (pa_cons (pe_op op_fdiv (pv 0) pe_int) (pa_cons (pe_ix ix_list (pv 1) pe_int (fun _ _ => rfl)) (pa_cons (pe_ix ix_list (pv 1) pe_int (fun _ _ => rfl)) pa_nil)))))
      (pss_one (ps_ret (pe_tupA (pa_cons (pe_strT (cs := [115, 116, 97, 110, 100]) (by decide +kernel)) (pa_cons (pv 11) (pa_cons (pe_def D_lword hr (pa_cons (pe_ix ix_list (pv 1) pe_int (fun _ _ => rfl)) (pa_cons (pe_ix ix_list (pv 1) pe_int (fun _ _ => rfl)) pa_nil))) (pa_cons (pv 12) (pa_cons (pv 2) (pa_cons (pv 3) pa_nil)))))))))))))), ?_⟩
    clear nd D_lnum D_lword
    rw [show start ["_law_cell", "_law_draws_here", "_law_rows", "_law_held", "_law_k", "_law_size", "_law_start", "_law_pins", "_law_name", "_law_values", "_law_j", "_law_number_here", "_law_mark"] [.int c0, .ref d] = [some (.int c0), some (.ref d), none, none, none, none, none, none, none, none, none, none, none] from rfl]
    try dsimp only [cx_K, cx_K2]
    obtain ⟨d0, d1, d2, d3, d4, d5, d6, d7, d8, d9, rfl⟩ := ten dl
    simp only [List.forall_mem_cons] at dm
    obtain ⟨m0, m1, m2, m3, m4, m5, m6, m7, m8, m9, _⟩ := dm
    have at_2 : AtI (dsV [d0, d1, d2, d3, d4, d5, d6, d7, d8, d9]) 2 (.int (d2 : Nat)) := ⟨atI_nat (j := 2) rfl⟩
    have at_3 : AtI (dsV [d0, d1, d2, d3, d4, d5, d6, d7, d8, d9]) 3 (.int (d3 : Nat)) := ⟨atI_nat (j := 3) rfl⟩
    have at_4 : AtI (dsV [d0, d1, d2, d3, d4, d5, d6, d7, d8, d9]) 4 (.int (d4 : Nat)) := ⟨atI_nat (j := 4) rfl⟩
    have at_5 : AtI (dsV [d0, d1, d2, d3, d4, d5, d6, d7, d8, d9]) 5 (.int (d5 : Nat)) := ⟨atI_nat (j := 5) rfl⟩
    have at_6 : AtI (dsV [d0, d1, d2, d3, d4, d5, d6, d7, d8, d9]) 6 (.int (d6 : Nat)) := ⟨atI_nat (j := 6) rfl⟩
    have at_7 : AtI (dsV [d0, d1, d2, d3, d4, d5, d6, d7, d8, d9]) 7 (.int (d7 : Nat)) := ⟨atI_nat (j := 7) rfl⟩
    have at_8 : AtI (dsV [d0, d1, d2, d3, d4, d5, d6, d7, d8, d9]) 8 (.int (d8 : Nat)) := ⟨atI_nat (j := 8) rfl⟩
    have at_9 : AtI (dsV [d0, d1, d2, d3, d4, d5, d6, d7, d8, d9]) 9 (.int (d9 : Nat)) := ⟨atI_nat (j := 9) rfl⟩
    have o_hd := Old.mk (M := []) hd nm0
    have F : SH H [] H [] [] := SH.nil
    repeat k_meth
    obtain ⟨vl, e⟩ : ∃ mv, mv = p_ := ⟨_, rfl⟩
    subst e
    obtain ⟨rl, e⟩ : ∃ mv, mv = p_ := ⟨_, rfl⟩
    subst e
    obtain ⟨n, hn, en⟩ : ∃ n : Nat, n < 7 ∧ ((d4 : Int) % 7).toNat = n := ⟨d4 % 7, by omega, by omega⟩
    rw [en]
    have F0 : SH H [] H_ [(rl, .lst []), (vl, .lst [])] [.tps [] []] := (F.addP (ys := []) (rs := []) TupsAt.nil).sub SbC.s (fun _ h => h)
    refine forR0_by (fun k σ' H' => ∃ (o4 o5 o6 o7 o8 o9 o10 : Option V) (ys : List V) (qs : List Addr) (bs : List Bk), σ' = [some (.int c0), some (.ref d), some (.ref rl), some (.ref vl), o4, o5, o6, o7, o8, o9, o10, none, none] ∧ ys.length = k ∧ qs.length = k ∧ bs.length = k ∧ (∀ b ∈ bs, OkB b ∧ WOk b.nm) ∧ SH H [] H' ((rl, .lst ys) :: (vl, .lst (qs.map V.ref)) :: hsR qs (bs.map fun b => b.vs.map V.int)) [.tps ys (bs.map bkV)]) ⟨_, _, _, _, _, _, _, [], [], [], rfl, rfl, rfl, rfl, fun _ h => (by cases h), F0⟩ ?_ ?_
    · clear F F0
      rintro k1 σ' H' hk ⟨_, _, _, _, _, _, _, ys, qs, bs, rfl, yl, ql, bl, hb, F⟩
      have hd1 : 0 < (k1 : Int) + 1 ∧ (k1 : Int) + 1 < 1073741824 := by omega
      have hd2 : 0 < (k1 : Int) + 2 ∧ (k1 : Int) + 2 < 1073741824 := by omega
      repeat k_meth
      obtain ⟨j3, hj3, ej3⟩ : ∃ j : Nat, j < 3 ∧ (d6 : Int) % 3 = (j : Int) := ⟨d6 % 3, by omega, by omega⟩
      rw [ej3]
      obtain ⟨m, hm0, hm1, am⟩ : ∃ m : Int, 0 < m ∧ m ≤ 24 ∧ AtI [V.int 3, V.int 5, V.int 24] (j3 : Int) (.int m) := by
        match j3, hj3 with
        | 0, _ => exact ⟨3, by decide, by decide, ⟨atI_nat (j := 0) rfl⟩⟩
        | 1, _ => exact ⟨5, by decide, by decide, ⟨atI_nat (j := 1) rfl⟩⟩
        | 2, _ => exact ⟨24, by decide, by decide, ⟨atI_nat (j := 2) rfl⟩⟩
      repeat k_meth
      obtain ⟨sz, s1, s24, es⟩ : ∃ sz : Nat, 1 ≤ sz ∧ sz ≤ 24 ∧ 1 + ((d5 : Int) + 3 * (k1 : Int)) / ((k1 : Int) + 1) % m = (sz : Int) := by
        have h1 := Int.emod_nonneg (((d5 : Int) + 3 * (k1 : Int)) / ((k1 : Int) + 1)) (show m ≠ 0 by omega)
        have h2 := Int.emod_lt_of_pos (((d5 : Int) + 3 * (k1 : Int)) / ((k1 : Int) + 1)) hm0
        exact ⟨(1 + ((d5 : Int) + 3 * (k1 : Int)) / ((k1 : Int) + 1) % m).toNat, by omega, by omega, by omega⟩
      rw [es]
      have dv : ∀ a : Nat, a / (k1 + 1) ≤ a := fun a => Nat.div_le_self ..
      have v7 := dv d7
      have v8 := dv d8
      have v9 := dv d9
      refine ⟨_, d7 / (k1 + 1), d5 + k1, rfl, by omega, by omega, fun st H2 hst s2 => ?_⟩
      have F := F.same s2
      repeat k_meth
      refine ⟨_, d8 / (k1 + 1), d6 + k1, rfl, by omega, by omega, fun pn H3 hpn s3 => ?_⟩
      have F := F.same s3
      repeat k_meth
      refine ⟨d9 / (k1 + 1), d2 + k1, rfl, by omega, by omega, fun nm H4 wnm s4 => ?_⟩
      have F := F.same s4
      have al : ys.length < sizeLine := Nat.lt_of_lt_of_le (m := 1000) (by omega) (small_line (by omega))
      repeat k_meth
      obtain ⟨vv, e⟩ : ∃ mv, mv = p_ := ⟨_, rfl⟩
      subst e
      obtain ⟨rr, e⟩ : ∃ mv, mv = p_ := ⟨_, rfl⟩
      subst e
      have F2 := SH.app (ys := ys) (rs := bs.map bkV) (q := rr) (r := [ts nm, .int st, .int (sz : Nat), .int pn]) F (LkP.m) (LkI.m)
      have F3 := SH.sbl F2 (((List.Sublist.refl _).cons _).cons_cons _)
      have F4 : SH H [] H_ ((vv, .lst (([] : List Int).map V.int)) :: (rl, .lst (ys ++ [.ref rr])) :: (vl, .lst (qs.map V.ref)) :: hsR qs (bs.map fun b => b.vs.map V.int)) [.tps (ys ++ [.ref rr]) (bs.map bkV ++ [[ts nm, .int st, .int (sz : Nat), .int pn]])] := ⟨F3.fr, fun f hf => F3.im f (by rw [List.mem_singleton.mp hf]; exact List.mem_cons_self), F3.at', F3.nd, F3.mu, F3.ch⟩
      clear F F2 F3
      rw [show ((sz : Int)).toNat = sz from rfl]
      refine forR0_by (fun j σ' H' => ∃ (o10 : Option V) (is : List Int), σ' = [some (.int c0), some (.ref d), some (.ref rl), some (.ref vl), some (.int (k1 : Nat)), some (.int (sz : Nat)), some (.int st), some (.int pn), some (ts nm), some (.ref vv), o10, none, none] ∧ is.length = j ∧ (∀ i ∈ is, i.natAbs < 10 ^ 30) ∧ SH H [] H' ((vv, .lst (is.map V.int)) :: (rl, .lst (ys ++ [.ref rr])) :: (vl, .lst (qs.map V.ref)) :: hsR qs (bs.map fun b => b.vs.map V.int)) [.tps (ys ++ [.ref rr]) (bs.map bkV ++ [[ts nm, .int st, .int (sz : Nat), .int pn]])]) ⟨_, [], rfl, rfl, fun _ h => (by cases h), F4⟩ ?_ ?_
      · clear F4
        rintro j σ' H' hj ⟨_, is, rfl, il, hi, F⟩
        have hd3 : 0 < (j : Int) + 1 ∧ (j : Int) + 1 < 1073741824 := by omega
        have v3 : d3 / (j + 1) ≤ d3 := Nat.div_le_self ..
        have al2 : (is.map V.int).length < sizeLine := Nat.lt_of_lt_of_le (m := 1000) (by rw [List.length_map]; omega) (small_line (by omega))
        repeat k_meth
        refine ⟨_, d3 / (j + 1) + k1, d4 + j, rfl, by omega, by omega, fun r H2 hr2 s2 => ?_⟩
        have F := F.same s2
        repeat k_meth
        refine ⟨_, is ++ [r], rfl, by rw [List.length_append, il]; rfl, fun i h => ?_, ?_⟩
        · rcases List.mem_append.mp h with h | h
          · exact hi i h
          · rw [List.mem_singleton.mp h]; exact hr2
        · rw [List.map_append]
          exact F
      · clear F4
        rintro σ' H' ⟨_, is, rfl, il, hi, F⟩
        have al2 : (qs.map V.ref).length < sizeLine := Nat.lt_of_lt_of_le (m := 1000) (by rw [List.length_map]; omega) (small_line (by omega))
        repeat k_meth
        have F5 := SH.prm F (List.perm_append_singleton _ (_ :: _ :: _))
        refine ⟨_, _, _, _, _, _, _, ys ++ [.ref rr], qs ++ [vv], bs ++ [⟨nm, st, pn, is⟩], rfl, by rw [List.length_append, yl]; rfl, by rw [List.length_append, ql]; rfl, by rw [List.length_append, bl]; rfl, fun b h => ?_, ?_⟩
        · rcases List.mem_append.mp h with h | h
          · exact hb b h
          · rw [List.mem_singleton.mp h]
            exact ⟨⟨hst, hpn, hi, fun e => by rw [show is = [] from e] at il; simp at il; omega, by show is.length ≤ 100; omega⟩, wnm⟩
        · rw [← il] at F5
          have e1 : hsR (qs ++ [vv]) ((bs ++ [(⟨nm, st, pn, is⟩ : Bk)]).map fun b : Bk => b.vs.map V.int) = hsR qs (bs.map fun b => b.vs.map V.int) ++ [(vv, .lst (is.map V.int))] := by
            rw [List.map_append]
            exact hsR_snoc (by rw [List.length_map]; omega) _ _
          rw [e1, List.map_append, List.map_append]
          exact F5
    · clear F F0
      rintro σ' H' ⟨_, _, _, _, _, _, _, ys, qs, bs, rfl, yl, ql, bl, hb, F⟩
      repeat k_meth
      refine ⟨_, d2, d3, rfl, by omega, by omega, fun i H2 hi s2 => ?_⟩
      have F := F.same s2
      repeat k_meth
      refine ⟨_, d7, d8, rfl, by omega, by omega, fun j H3 hj s3 => ?_⟩
      have F := F.same s3
      repeat k_meth
      refine ⟨d3, d6, rfl, by omega, by omega, fun t H4 wt s4 => ?_⟩
      have F := F.same s4
      repeat k_meth
      exact k p_ (.st i t j bs) _ ⟨_, _, _, F, rl, vl, ys, qs, by omega, rfl, rfl, rfl⟩ (gd_st hi hj wt (by omega) hb)
end
def sp_lparts : Sp := fun vs H Q _ => ∃ c : Int, vs = [.int c] ∧ ∀ v p H', Told H H' v p → GdL p → Q (.ref v) H'
theorem told_fl {H H' : Hp} {v : Addr} {f : List Nat} {ps : List Pa} {L : List (Addr × HO)} {I : List Im} (F : SH H [] H' L (.tup v (ts f :: ps.map paV) :: I)) : Told H H' v (.fl f ps) := ⟨_, [], [], ⟨F.fr, fun f hf => F.im f (by rw [List.mem_singleton.mp hf]; exact List.mem_cons_self), fun _ h => (by cases h), List.nodup_nil, fun _ h => (by cases h), fun _ h => (by cases h)⟩, rfl, rfl, rfl⟩
theorem told_me {H H' : Hp} {v : Addr} {i : Int} {t : List Nat} {L : List (Addr × HO)} {I : List Im} (F : SH H [] H' L (.tup v [ts tMe, .int i, ts t] :: I)) : Told H H' v (.me i t) := ⟨_, [], [], ⟨F.fr, fun f hf => F.im f (by rw [List.mem_singleton.mp hf]; exact List.mem_cons_self), fun _ h => (by cases h), List.nodup_nil, fun _ h => (by cases h), fun _ h => (by cases h)⟩, rfl, rfl, rfl⟩
class TxV (xs : List V) (nms : outParam (List (List Nat))) : Prop where
  e : xs = nms.map fun cs => V.str (tx cs)
instance go_inT {K : PySem.W.Frag} {H : Hp} {Q : VK} {p : Addr} {xs : List V} {nms : List (List Nat)} {cs : List Nat} [h : SqA K H p xs] [e : TxV xs nms] : Go (rIn K false (.str (tx cs)) (.ref p) H Q) (Q (.bl (decide (cs ∈ nms))) H) := ⟨fun k => by
  obtain ⟨h⟩ := h
  rw [e.e] at h
  have h2 : SqA K H p (nms.map fun cs => V.str (tx cs)) := ⟨h⟩
  exact go_inStr.1 k⟩
theorem at_str {xs : List V} (h : ∀ v ∈ xs, ∃ s, v = .str s) {j : Nat} (hj : j < xs.length) : ∃ w, AtI xs (j : Int) (ts w) := by
  obtain ⟨s, e⟩ := h xs[j] (List.getElem_mem hj)
  refine ⟨s.cps.toList, ⟨atI_nat ?_⟩⟩
  rw [List.getElem?_eq_getElem hj, e]
  rfl
theorem tx_inj {f g : List Nat} (h : tx f = tx g) : f = g := by
  have := congrArg Str.cps h
  unfold tx at this
  simpa using this
theorem fit1 {k0 : Str} {b0 : Pa} (h : fits k0 b0) : ∀ (i : Nat) k b, [k0][i]? = some k → [b0][i]? = some b → fits k b
  | 0, _, _, h1, h2 => by cases h1; cases h2; exact h
  | _ + 1, _, _, h1, _ => by cases h1
theorem fit2 {k0 k1 : Str} {b0 b1 : Pa} (h : fits k0 b0) (h' : fits k1 b1) : ∀ (i : Nat) k b, [k0, k1][i]? = some k → [b0, b1][i]? = some b → fits k b
  | 0, _, _, h1, h2 => by cases h1; cases h2; exact h
  | 1, _, _, h1, h2 => by cases h1; cases h2; exact h'
  | _ + 2, _, _, h1, _ => by cases h1
theorem fit3 {k0 k1 k2 : Str} {b0 b1 b2 : Pa} (h : fits k0 b0) (h' : fits k1 b1) (h'' : fits k2 b2) : ∀ (i : Nat) k b, [k0, k1, k2][i]? = some k → [b0, b1, b2][i]? = some b → fits k b
  | 0, _, _, h1, h2 => by cases h1; cases h2; exact h
  | 1, _, _, h1, h2 => by cases h1; cases h2; exact h'
  | 2, _, _, h1, h2 => by cases h1; cases h2; exact h''
  | _ + 3, _, _, h1, _ => by cases h1
abbrev kN : Str := "N"
theorem fitN {i : Int} (h : i.natAbs < 10 ^ 30) : fits kN (.n i) := ⟨by decide +kernel, h⟩
theorem fitW {k : Str} {t : List Nat} (h : k ≠ tx [78]) : fits k (.w t) := h
def okW (w : List Nat) : Prop := (w ≠ [] ∧ 32 ∉ w ∧ w.length ≤ 4000) ∧ w ≠ tMe ∧ w ≠ tSl' ∧ w ≠ tSt
instance : DecidablePred okW := fun w => by unfold okW; infer_instance
def gr0 : List (List Nat) := [[115, 104, 111, 119], [98, 108, 111, 99, 107, 115], [104, 111, 108, 101, 115], [111, 114, 100, 101, 114], [116, 105, 100, 121], [119, 97, 115, 116, 101]]
def gr1 : List (List Nat) := [[103, 105, 118, 101], [112, 105, 110], [117, 110, 112, 105, 110], [112, 105, 110, 115], [118, 97, 108, 117, 101, 115], [112, 97, 99, 107]]
def gr2 : List (List Nat) := [[108, 111, 111, 107], [112, 108, 97, 110], [114, 111, 111, 109]]
def gr3 : List (List Nat) := [[116, 97, 107, 101], [102, 105, 116], [114, 101, 97, 100], [99, 101, 108, 108]]
def tWr : List Nat := [119, 114, 105, 116, 101]
theorem gd0 {w : List Nat} (h : w ∈ gr0) : GdL (.fl w []) := by
  have : ∀ w ∈ gr0, okW w ∧ (tx w, ([] : List Str)) ∈ shapesT := by decide +kernel
  obtain ⟨⟨h1, h2, h3, h4⟩, hs⟩ := this w h
  exact gd_fl hs rfl (fun i k b h1 _ => by cases h1) ⟨h1.1, h1.2.1, h1.2.2⟩ h2 h3 h4 (fun b hb => by cases hb)
theorem gd1 {w t : List Nat} (h : w ∈ gr1) (wt : WOk t) : GdL (.fl w [.w t]) := by
  have : ∀ w ∈ gr1, okW w ∧ ((tx w, ([tx [110, 97, 109, 101]] : List Str)) ∈ shapesT ∨ (tx w, ([tx [119, 97, 121]] : List Str)) ∈ shapesT) := by decide +kernel
  obtain ⟨⟨h1, h2, h3, h4⟩, hs⟩ := this w h
  have hw : ∀ b ∈ [Pa.w t], Wd (paT b) := fun b hb => by rw [List.mem_singleton.mp hb]; exact wt.wd
  rcases hs with hs | hs
  · exact gd_fl hs rfl (fit1 (fitW (by decide +kernel))) ⟨h1.1, h1.2.1, h1.2.2⟩ h2 h3 h4 hw
  · exact gd_fl hs rfl (fit1 (fitW (by decide +kernel))) ⟨h1.1, h1.2.1, h1.2.2⟩ h2 h3 h4 hw
theorem gd2 {w : List Nat} {i : Int} (h : w ∈ gr2) (hi : i.natAbs < 10 ^ 30) : GdL (.fl w [.n i]) := by
  have : ∀ w ∈ gr2, okW w ∧ (tx w, ([kN] : List Str)) ∈ shapesT := by decide +kernel
  obtain ⟨⟨h1, h2, h3, h4⟩, hs⟩ := this w h
  exact gd_fl hs rfl (fit1 (fitN hi)) ⟨h1.1, h1.2.1, h1.2.2⟩ h2 h3 h4 fun b hb => by rw [List.mem_singleton.mp hb]; exact num_Wd hi
theorem gd3 {w t : List Nat} {i : Int} (h : w ∈ gr3) (wt : WOk t) (hi : i.natAbs < 10 ^ 30) : GdL (.fl w [.w t, .n i]) := by
  have : ∀ w ∈ gr3, okW w ∧ (tx w, ([tx [110, 97, 109, 101], kN] : List Str)) ∈ shapesT := by decide +kernel
  obtain ⟨⟨h1, h2, h3, h4⟩, hs⟩ := this w h
  exact gd_fl hs rfl (fit2 (fitW (by decide +kernel)) (fitN hi)) ⟨h1.1, h1.2.1, h1.2.2⟩ h2 h3 h4 fun b hb => by
    simp only [List.mem_cons, List.not_mem_nil, or_false] at hb
    rcases hb with rfl | rfl
    · exact wt.wd
    · exact num_Wd hi
theorem gd4 {t : List Nat} {i j : Int} (wt : WOk t) (hi : i.natAbs < 10 ^ 30) (hj : j.natAbs < 10 ^ 30) : GdL (.fl tWr [.w t, .n i, .n j]) := by
  have : okW tWr ∧ (tx tWr, ([tx [110, 97, 109, 101], kN, kN] : List Str)) ∈ shapesT := by decide +kernel
  obtain ⟨⟨h1, h2, h3, h4⟩, hs⟩ := this
  exact gd_fl hs rfl (fit3 (fitW (by decide +kernel)) (fitN hi) (fitN hj)) ⟨h1.1, h1.2.1, h1.2.2⟩ h2 h3 h4 fun b hb => by
    simp only [List.mem_cons, List.not_mem_nil, or_false] at hb
    rcases hb with rfl | rfl | rfl
    · exact wt.wd
    · exact num_Wd hi
    · exact num_Wd hj
instance tv_2 : TxV [V.str (tx [108, 111, 111, 107]), V.str (tx [112, 108, 97, 110]), V.str (tx [114, 111, 111, 109])] gr2 := ⟨rfl⟩
instance tv_3 : TxV [V.str (tx [116, 97, 107, 101]), V.str (tx [102, 105, 116]), V.str (tx [114, 101, 97, 100]), V.str (tx [99, 101, 108, 108])] gr3 := ⟨rfl⟩
instance tv_0 : TxV [V.str (Str.ofString "show"), V.str (Str.ofString "blocks"), V.str (Str.ofString "holes"), V.str (Str.ofString "order"), V.str (Str.ofString "tidy"), V.str (Str.ofString "waste")] gr0 := ⟨by
  rw [show Str.ofString "show" = tx [115, 104, 111, 119] by decide +kernel, show Str.ofString "blocks" = tx [98, 108, 111, 99, 107, 115] by decide +kernel, show Str.ofString "holes" = tx [104, 111, 108, 101, 115] by decide +kernel, show Str.ofString "order" = tx [111, 114, 100, 101, 114] by decide +kernel, show Str.ofString "tidy" = tx [116, 105, 100, 121] by decide +kernel, show Str.ofString "waste" = tx [119, 97, 115, 116, 101] by decide +kernel]
  rfl⟩
instance tv_1 : TxV [V.str (Str.ofString "give"), V.str (Str.ofString "pin"), V.str (Str.ofString "unpin"), V.str (Str.ofString "pins"), V.str (Str.ofString "values"), V.str (Str.ofString "pack")] gr1 := ⟨by
  rw [show Str.ofString "give" = tx [103, 105, 118, 101] by decide +kernel, show Str.ofString "pin" = tx [112, 105, 110] by decide +kernel, show Str.ofString "unpin" = tx [117, 110, 112, 105, 110] by decide +kernel, show Str.ofString "pins" = tx [112, 105, 110, 115] by decide +kernel, show Str.ofString "values" = tx [118, 97, 108, 117, 101, 115] by decide +kernel, show Str.ofString "pack" = tx [112, 97, 99, 107] by decide +kernel]
  rfl⟩
section
variable {P : Program} {w : World} {K : PySem.W.Frag} {mg : Str → Option Value} {base : Heap} {c : Nat → Addr} {R aM aS aT aB aD : Addr} {kv : List (Key × V)}
theorem D_lparts (T : Txt w K mg c R aM aS aT aB aD kv) : Def P w K mg base CX0 3 "_law_parts" ["_law_cell"] sp_lparts := by
  have D_ldraws := D_ldraws (P := P) (w := w) (base := base) T
  have D_lword := D_lword (P := P) (w := w) (base := base) T
  have D_lnum := D_lnum (P := P) (w := w) (base := base) T
  have D_lstand := D_lstand (P := P) (w := w) (base := base) T
  refine def_of T.d_lparts sc_lparts (fun vs H Q E h => ?_) (fun _ _ _ _ _ _ us hl => match us, hl with | [_], _ => rfl) (fun f cdv A outer s H vs Q E hr h => ?_)
  · obtain ⟨c0, rfl, _⟩ := h
    rfl
  · obtain ⟨c0, rfl, k⟩ := h
    have nd := sc_lparts.nd
    refine ⟨_, (pss_cons (ps_set (i := 1) nd rfl (Or.inl rfl) (pe_def D_ldraws hr (pa_cons (pv 0) (pa_cons pe_int pa_nil))))
      (pss_cons (ps_set (i := 2) nd rfl (Or.inl rfl) (pe_lstA (pa_vals (vs := [.str "show", .str "blocks", .str "holes", .str "order", .str "tidy", .str "waste", .str "give", .str "pin"]) (by with_unfolding_all rfl))))
      (pss_cons (ps_set (i := 2) nd rfl (Or.inl rfl) (pe_op op_catA (pv 2) (pe_lstA (pa_vals (vs := [.str "unpin", .str "pins", .str "values", .str "pack", .str "look", .str "plan", .str "room", .str "take"]) (by with_unfolding_all rfl)))))
      (pss_cons (ps_set (i := 2) nd rfl (Or.inl rfl) (pe_op op_catA (pv 2) (pe_lstA (pa_vals (vs := [.str "fit", .str "read", .str "cell", .str "write", .str "memory", .str "slide", .str "stand"]) (by with_unfolding_all rfl)))))
      (pss_cons (ps_set (i := 3) nd rfl (Or.inl rfl) (pe_ix ix_list (pv 2) (pe_op op_mod (pe_ix ix_list (pv 1) pe_int (fun _ _ => rfl)) pe_int) (fun _ _ => rfl)))
      (pss_cons (ps_set (i := 4) nd rfl (Or.inl rfl) (pe_def D_lword hr (pa_cons (pe_ix ix_list (pv 1) pe_int (fun _ _ => rfl)) (pa_cons (pe_ix ix_list (pv 1) pe_int (fun _ _ => rfl)) pa_nil))))
      (pss_cons (ps_set (i := 5) nd rfl (Or.inl rfl) (pe_def D_lnum hr (pa_cons (pv 0) (pa_cons (pe_ix ix_list (pv 1) pe_int (fun _ _ => rfl)) (pa_cons (pe_ix ix_list (pv 1) pe_int (fun _ _ => rfl)) pa_nil)))))
      (pss_cons (ps_if (pt_cmpR op_in_seq (pv 3) (pe_lstA (pa_vals (vs := [.str "show", .str "blocks", .str "holes", .str "order", .str "tidy", .str "waste"]) (by with_unfolding_all rfl))) (by with_unfolding_all rfl)) (pss_one (ps_ret (pe_tupA (pa_cons (pv 3) pa_nil)))) pss_nil)
      (pss_cons (ps_if (pt_cmpR op_in_seq (pv 3) (pe_lstA (pa_vals (vs := [.str "give", .str "pin", .str "unpin", .str "pins", .str "values", .str "pack"]) (by with_unfolding_all rfl))) (by with_unfolding_all rfl)) (pss_one (ps_ret (pe_tupA (pa_cons (pv 3) (pa_cons (pv 4) pa_nil))))) pss_nil)
      (pss_cons (ps_if (pt_cmpR op_in_seq (pv 3) (pe_lstA (pa_cons (pe_strT (cs := [108, 111, 111, 107]) (by decide +kernel)) (pa_cons (pe_strT (cs := [112, 108, 97, 110]) (by decide +kernel)) (pa_cons (pe_strT (cs := [114, 111, 111, 109]) (by decide +kernel)) pa_nil)))) (by with_unfolding_all rfl)) (pss_one (ps_ret (pe_tupA (pa_cons (pv 3) (pa_cons (pv 5) pa_nil))))) pss_nil)
      (pss_cons (ps_if (pt_cmpR op_in_seq (pv 3) (pe_lstA (pa_cons (pe_strT (cs := [116, 97, 107, 101]) (by decide +kernel)) (pa_cons (pe_strT (cs := [102, 105, 116]) (by decide +kernel)) (pa_cons (pe_strT (cs := [114, 101, 97, 100]) (by decide +kernel)) (pa_cons (pe_strT (cs := [99, 101, 108, 108]) (by decide +kernel)) pa_nil))))) (by with_unfolding_all rfl)) (pss_one (ps_ret (pe_tupA (pa_cons (pv 3) (pa_cons (pv 4) (pa_cons (pv 5) pa_nil)))))) pss_nil)
      (pss_cons (ps_if (pt_cmpR op_eq (pv 3) (pe_strT (cs := [119, 114, 105, 116, 101]) (by decide +kernel)) (nomark _)) (pss_cons (ps_set (i := 6) nd rfl (Or.inl rfl) (pe_def D_lnum hr (pa_cons (pe_op op_fdiv (pv 0) pe_int) (pa_cons (pe_ix ix_list (pv 1) pe_int (fun _ _ => rfl)) (pa_cons (pe_ix ix_list (pv 1) pe_int (fun _ _ => rfl)) pa_nil)))))
        (pss_one (ps_ret (pe_tupA (pa_cons (pv 3) (pa_cons (pv 4) (pa_cons (pv 5) (pa_cons (pv 6) pa_nil)))))))) pss_nil)
      (pss_cons (ps_if (pt_cmpR op_eq (pv 3) (pe_strT (cs := [109, 101, 109, 111, 114, 121]) (by decide +kernel)) (nomark _)) (pss_one (ps_ret (pe_tupA (pa_cons (pv 3) (pa_cons (pv 5) (pa_cons (pv 4) pa_nil)))))) pss_nil)
      (pss_cons (ps_if (pt_cmpR op_eq (pv 3) (pe_strT (cs := [115, 108, 105, 100, 101]) (by decide +kernel)) (nomark _)) (pss_cons (ps_set (i := 7) nd rfl (Or.inl rfl) (pe_lstA (pa_cons (pe_tupA (pa_cons (pv 4) (pa_cons (pv 5) pa_nil))) pa_nil)))
        (pss_cons (ps_for PassesOwn.never rfl (pi_range1 rfl T.n_range (pa_cons (pe_op op_mod (pe_ix ix_list (pv 1) pe_int (fun _ _ => rfl)) pe_int) pa_nil)) (pg_name (i := 8) nd rfl (Or.inl rfl)) (pss_cons (ps_set (i := 5) nd rfl (Or.inl rfl) (pe_def D_lnum hr (pa_cons (pv 0) (pa_cons (pe_op op_add (pe_ix ix_list (pv 1) pe_int (fun _ _ => rfl)) (pv 8)) (pa_cons (pe_ix ix_list (pv 1) pe_int (fun _ _ => rfl)) pa_nil)))))
          (pss_cons (ps_set (i := 4) nd rfl (Or.inl rfl) (pe_def D_lword hr (pa_cons (pe_op op_fdiv (pe_ix ix_list (pv 1) pe_int (fun _ _ => rfl)) (pe_op op_add (pv 8) pe_int)) (pa_cons (pe_op op_add (pe_ix ix_list (pv 1) pe_int (fun _ _ => rfl)) (pv 8)) pa_nil))))
          (pss_one (ps_expr (pe_appendA (pv 7) (pe_tupA (pa_cons (pv 4) (pa_cons (pv 5) pa_nil)))))))))
        (pss_one (ps_ret (pe_tupA (pa_cons (pv 3) (pa_cons (pv 7) pa_nil))))))) pss_nil)
      (pss_one (ps_ret (pe_def D_lstand hr (pa_cons (pv 0) (pa_cons (pv 1) pa_nil))))))))))))))))))), ?_⟩
    clear nd D_ldraws D_lword D_lnum D_lstand
    rw [show start ["_law_cell", "_law_draws_here", "_law_words", "_law_word_here", "_law_name", "_law_number_here", "_law_value", "_law_moves", "_law_k"] [.int c0] = [some (.int c0), none, none, none, none, none, none, none, none] from rfl]
    try dsimp only [cx_K, cx_K2]
    have F : SH H [] H [] [] := SH.nil
    repeat k_meth
    refine ⟨c0, 10, rfl, by omega, fun dq ds H1 nw dl dm => ?_⟩
    obtain ⟨d0, d1, d2, d3, d4, d5, d6, d7, d8, d9, rfl⟩ := ten dl
    simp only [List.forall_mem_cons] at dm
    obtain ⟨m0, m1, m2, m3, m4, m5, m6, m7, m8, m9, _⟩ := dm
    have F := F.newL nw
    have at_0 : AtI (dsV [d0, d1, d2, d3, d4, d5, d6, d7, d8, d9]) 0 (.int (d0 : Nat)) := ⟨atI_nat (j := 0) rfl⟩
    have at_1 : AtI (dsV [d0, d1, d2, d3, d4, d5, d6, d7, d8, d9]) 1 (.int (d1 : Nat)) := ⟨atI_nat (j := 1) rfl⟩
    have at_2 : AtI (dsV [d0, d1, d2, d3, d4, d5, d6, d7, d8, d9]) 2 (.int (d2 : Nat)) := ⟨atI_nat (j := 2) rfl⟩
    have at_3 : AtI (dsV [d0, d1, d2, d3, d4, d5, d6, d7, d8, d9]) 3 (.int (d3 : Nat)) := ⟨atI_nat (j := 3) rfl⟩
    have at_4 : AtI (dsV [d0, d1, d2, d3, d4, d5, d6, d7, d8, d9]) 4 (.int (d4 : Nat)) := ⟨atI_nat (j := 4) rfl⟩
    have at_5 : AtI (dsV [d0, d1, d2, d3, d4, d5, d6, d7, d8, d9]) 5 (.int (d5 : Nat)) := ⟨atI_nat (j := 5) rfl⟩
    have at_6 : AtI (dsV [d0, d1, d2, d3, d4, d5, d6, d7, d8, d9]) 6 (.int (d6 : Nat)) := ⟨atI_nat (j := 6) rfl⟩
    have at_7 : AtI (dsV [d0, d1, d2, d3, d4, d5, d6, d7, d8, d9]) 7 (.int (d7 : Nat)) := ⟨atI_nat (j := 7) rfl⟩
    have at_8 : AtI (dsV [d0, d1, d2, d3, d4, d5, d6, d7, d8, d9]) 8 (.int (d8 : Nat)) := ⟨atI_nat (j := 8) rfl⟩
    have at_9 : AtI (dsV [d0, d1, d2, d3, d4, d5, d6, d7, d8, d9]) 9 (.int (d9 : Nat)) := ⟨atI_nat (j := 9) rfl⟩
    repeat k_meth
    obtain ⟨j, hj, ej⟩ : ∃ j : Nat, j < 23 ∧ (d0 : Int) % 23 = (j : Int) := ⟨d0 % 23, by omega, by omega⟩
    rw [ej]
    obtain ⟨wd, aw⟩ := at_str (xs := [V.str (Str.ofString "show"), V.str (Str.ofString "blocks"), V.str (Str.ofString "holes"), V.str (Str.ofString "order"), V.str (Str.ofString "tidy"), V.str (Str.ofString "waste"), V.str (Str.ofString "give"), V.str (Str.ofString "pin")] ++ [V.str (Str.ofString "unpin"), V.str (Str.ofString "pins"), V.str (Str.ofString "values"), V.str (Str.ofString "pack"), V.str (Str.ofString "look"), V.str (Str.ofString "plan"), V.str (Str.ofString "room"), V.str (Str.ofString "take")] ++ [V.str (Str.ofString "fit"), V.str (Str.ofString "read"), V.str (Str.ofString "cell"), V.str (Str.ofString "write"), V.str (Str.ofString "memory"), V.str (Str.ofString "slide"), V.str (Str.ofString "stand")]) (j := j) (fun v hv => by
      simp only [List.mem_append, List.mem_cons, List.not_mem_nil, or_false] at hv
      rcases hv with (hv | hv) | hv
      all_goals
        repeat (first | exact ⟨_, hv⟩ | (rcases hv with rfl | hv; exact ⟨_, rfl⟩))) hj
    repeat k_meth
    replace F := F.sub (L' := [(dq, .lst (dsV [d0, d1, d2, d3, d4, d5, d6, d7, d8, d9]))]) (I' := []) SbC.s (by simp)
    refine ⟨d1, d2, rfl, by omega, by omega, fun nm H2 wnm s2 => ?_⟩
    replace F := F.same s2
    repeat k_meth
    refine ⟨c0, d3, d4, rfl, by omega, by omega, fun i H3 hi s3 => ?_⟩
    replace F := F.same s3
    repeat k_meth
    refine i_dec (fun h => ?_) (fun h0 => ?_)
    · repeat k_meth
      exact k p_ (.fl wd []) _ (told_fl F) (gd0 h)
    repeat k_meth
    refine i_dec (fun h => ?_) (fun h1 => ?_)
    · repeat k_meth
      exact k p_ (.fl wd [.w nm]) _ (told_fl F) (gd1 h wnm)
    repeat k_meth
    refine i_dec (fun h => ?_) (fun h2 => ?_)
    · repeat k_meth
      exact k p_ (.fl wd [.n i]) _ (told_fl F) (gd2 h hi)
    repeat k_meth
    refine i_dec (fun h => ?_) (fun h3 => ?_)
    · repeat k_meth
      exact k p_ (.fl wd [.w nm, .n i]) _ (told_fl F) (gd3 h wnm hi)
    repeat k_meth
    refine i_dec (fun h => ?_) (fun h4 => ?_)
    · have e := tx_inj h
      subst e
      repeat k_meth
      refine ⟨_, d5, d6, rfl, by omega, by omega, fun v H4 hv s4 => ?_⟩
      replace F := F.same s4
      repeat k_meth
      exact k p_ (.fl tWr [.w nm, .n i, .n v]) _ (told_fl F) (gd4 wnm hi hv)
    repeat k_meth
    refine i_dec (fun h => ?_) (fun h5 => ?_)
    · have e := tx_inj h
      subst e
      repeat k_meth
      exact k p_ (.me i nm) _ (told_me F) (gd_me hi wnm)
    repeat k_meth
    refine i_dec (fun h => ?_) (fun h6 => ?_)
    · have e := tx_inj h
      subst e
      repeat k_meth
      obtain ⟨mv, e⟩ : ∃ mv, mv = p_ := ⟨_, rfl⟩
      subst e
      obtain ⟨tp, e⟩ : ∃ mv, mv = p_ := ⟨_, rfl⟩
      subst e
      have ht : H_ tp = some (.tup (mvV (nm, i))) := F.im _ List.mem_cons_self
      have tq : TupsAt H_ [.ref tp] ([(nm, i)].map mvV) := ⟨rfl, fun n r e => by
        match n with
        | 0 => cases e; exact ⟨tp, rfl, ht⟩
        | n + 1 => cases e⟩
      have F0 : SH H [] H_ [(mv, .lst [.ref tp]), (dq, .lst (dsV [d0, d1, d2, d3, d4, d5, d6, d7, d8, d9]))] [.tps [.ref tp] ([(nm, i)].map mvV)] := (F.addP (ys := [.ref tp]) (rs := [(nm, i)].map mvV) tq).sub SbC.s (fun f hf => by rw [List.mem_singleton.mp hf]; exact List.mem_cons_self)
      obtain ⟨n, hn, en⟩ : ∃ n : Nat, n < 6 ∧ ((d5 : Int) % 6).toNat = n := ⟨d5 % 6, by omega, by omega⟩
      rw [en]
      refine forR0_by (fun n σ' H' => ∃ (o2 o4 o5 o8 : Option V) (ys : List V) (ms : List Mv), σ' = [some (.int c0), some (.ref dq), o2, some (ts tSl'), o4, o5, none, some (.ref mv), o8] ∧ ys.length = n + 1 ∧ ms.length = n + 1 ∧ (∀ m ∈ ms, WOk m.1 ∧ m.2.natAbs < 10 ^ 30) ∧ SH H [] H' [(mv, .lst ys), (dq, .lst (dsV [d0, d1, d2, d3, d4, d5, d6, d7, d8, d9]))] [.tps ys (ms.map mvV)]) ⟨_, _, _, _, [.ref tp], [(nm, i)], rfl, rfl, rfl, fun m hm => by rw [List.mem_singleton.mp hm]; exact ⟨wnm, hi⟩, F0⟩ ?_ ?_
      · clear F F0
        rintro k1 σ' H' hk ⟨_, _, _, _, ys, ms, rfl, yl, ml, hm, F⟩
        have hd1 : 0 < (k1 : Int) + 1 ∧ (k1 : Int) + 1 < 1073741824 := by omega
        have v6 : d6 / (k1 + 1) ≤ d6 := Nat.div_le_self ..
        have al : ys.length < sizeLine := Nat.lt_of_lt_of_le (m := 1000) (by omega) (small_line (by omega))
        repeat k_meth
        refine ⟨c0, d8 + k1, d9, rfl, by omega, by omega, fun i2 H5 hi2 s5 => ?_⟩
        replace F := F.same s5
        repeat k_meth
        refine ⟨d6 / (k1 + 1), d7 + k1, rfl, by omega, by omega, fun nm2 H6 wnm2 s6 => ?_⟩
        replace F := F.same s6
        repeat k_meth
        have F2 := SH.app (ys := ys) (rs := ms.map mvV) (q := p_) (r := mvV (nm2, i2)) F (LkP.m) (LkI.m)
        refine ⟨_, _, _, _, ys ++ [.ref p_], ms ++ [(nm2, i2)], rfl, by rw [List.length_append, yl]; rfl, by rw [List.length_append, ml]; rfl, fun m h => ?_, ?_⟩
        · rcases List.mem_append.mp h with h | h
          · exact hm m h
          · rw [List.mem_singleton.mp h]; exact ⟨wnm2, hi2⟩
        · rw [List.map_append]
          exact F2.sub SbC.s (by simp)
      · clear F F0
        rintro σ' H' ⟨_, _, _, _, ys, ms, rfl, yl, ml, hm, F⟩
        repeat k_meth
        exact k p_ (.sl ms) _ ⟨[.ref mv], [(mv, .lst ys)], [.tps ys (ms.map mvV)], F.sub SbC.s (fun _ h => h), mv, ys, rfl, rfl, rfl⟩ (gd_sl (fun e => by rw [e] at ml; cases ml) (by omega) hm)
    repeat k_meth
    refine ⟨c0, dq, [d0, d1, d2, d3, d4, d5, d6, d7, d8, d9], rfl, hatC, rfl, by simp only [List.forall_mem_cons]; exact ⟨m0, m1, m2, m3, m4, m5, m6, m7, m8, m9, fun _ h => (by cases h)⟩, fun v p H' td gd => k v p H' ?_ gd⟩
    obtain ⟨ys, X, I, G, bo⟩ := td
    have F2 := SH.thn (F.sub (L' := []) (I' := []) SbC.s (by simp)) G
    rw [List.append_nil, List.append_nil] at F2
    exact ⟨ys, X, I, F2, bo⟩
end
def SmB (x y : V) : Prop := (∃ i : Int, x = .int i ∧ y = .int i) ∨ ∃ t, x = ts t ∧ y = ts t
def SmT : Nat → Hp → V → V → Prop
  | 0, _, x, y => SmB x y
  | n + 1, H, x, y => SmB x y ∨ (∃ p q xs ys, x = .ref p ∧ y = .ref q ∧ H p = some (.tup xs) ∧ H q = some (.tup ys) ∧ xs.length = ys.length ∧ ys.length ≤ 1000 ∧ ∀ (i : Nat) u v, xs[i]? = some u → ys[i]? = some v → SmT n H u v) ∨
    ∃ p q xs ys, x = .ref p ∧ y = .ref q ∧ H p = some (.lst xs) ∧ H q = some (.lst ys) ∧ xs.length = ys.length ∧ ys.length ≤ 1000 ∧ ∀ (i : Nat) u v, xs[i]? = some u → ys[i]? = some v → SmT n H u v
theorem SmT.same {H H' : Hp} (s : Same H H') : ∀ {n : Nat} {x y : V}, SmT n H x y → SmT n H' x y
  | 0, _, _, h => h
  | n + 1, _, _, .inl h => .inl h
  | n + 1, _, _, .inr (.inl ⟨p, q, xs, ys, e1, e2, h1, h2, h3, h4, h⟩) => .inr (.inl ⟨p, q, xs, ys, e1, e2, s _ _ h1, s _ _ h2, h3, h4, fun i u v a b => SmT.same s (n := n) (h i u v a b)⟩)
  | n + 1, _, _, .inr (.inr ⟨p, q, xs, ys, e1, e2, h1, h2, h3, h4, h⟩) => .inr (.inr ⟨p, q, xs, ys, e1, e2, s _ _ h1, s _ _ h2, h3, h4, fun i u v a b => SmT.same s (n := n) (h i u v a b)⟩)
theorem SmT.base {H : Hp} {x y : V} (h : SmB x y) : ∀ {n : Nat}, SmT n H x y
  | 0 => h
  | _ + 1 => .inl h
def sp_sm (n : Nat) : Sp := fun vs H Q _ => ∃ x y, vs = [x, y] ∧ SmT n H x y ∧ ∀ H', Same H H' → Q (.bl true) H'
def sp_no : Sp := fun _ _ _ _ => False
theorem all_true (n : Nat) : ((List.range n).map fun _ => true).all id = true := by simp
section
variable {P : Program} {w : World} {K : PySem.W.Frag} {mg : Str → Option Value} {base : Heap} {c : Nat → Addr} {R aM aS aT aB aD : Addr} {kv : List (Key × V)}
theorem D_sameZ (T : Txt w K mg c R aM aS aT aB aD kv) : Def P w K mg base CX0 1 "_law_same" ["_law_told", "_law_due"] sp_no := by
  refine def_of T.d_same sc_same (fun vs H Q E h => h.elim) (fun _ _ _ _ _ _ us hl => match us, hl with | [_, _], _ => rfl) (fun f cdv A outer s H vs Q E hr h => h.elim)
theorem D_same0 (T : Txt w K mg c R aM aS aT aB aD kv) : Def P w K mg base CX0 2 "_law_same" ["_law_told", "_law_due"] (sp_sm 0) := by
  refine def_of T.d_same sc_same (fun vs H Q E h => ?_) (fun _ _ _ _ _ _ us hl => match us, hl with | [_, _], _ => rfl) (fun f cdv A outer s H vs Q E hr h => ?_)
  · obtain ⟨x, y, rfl, _⟩ := h
    rfl
  · obtain ⟨x, y, rfl, sm, k⟩ := h
    have nd := sc_same.nd
    refine ⟨_, (pss_cons (ps_if (pt_val (pe_callB call_isT rfl T.n_isinstance boot_isinstance (pa_cons (pv 1) (pa_cons (pe_ty (T := "int") rfl T.n_int boot_int) pa_nil)))) (pss_one (ps_ret (pe_and (pe_callB call_isT rfl T.n_isinstance boot_isinstance (pa_cons (pv 0) (pa_cons (pe_ty (T := "int") rfl T.n_int boot_int) pa_nil))) (pe_and (pe_not (pe_callB call_isT rfl T.n_isinstance boot_isinstance (pa_cons (pv 0) (pa_cons (pe_ty (T := "bool") rfl T.n_bool boot_bool) pa_nil)))) (pe_one (pe_cmpR op_eq (pv 0) (pv 1) (nomark _))))))) pss_nil)
      (pss_cons (ps_if (pt_val (pe_callB call_isT rfl T.n_isinstance boot_isinstance (pa_cons (pv 1) (pa_cons (pe_ty (T := "str") rfl T.n_str boot_str) pa_nil)))) (pss_one (ps_ret (pe_and (pe_callB call_isT rfl T.n_isinstance boot_isinstance (pa_cons (pv 0) (pa_cons (pe_ty (T := "str") rfl T.n_str boot_str) pa_nil))) (pe_one (pe_cmpR op_eq (pv 0) (pv 1) (nomark _)))))) pss_nil)
      (pss_cons (ps_if (PW.pt (pw_or (pt_cmpR op_ne (pe_callB call_isT rfl T.n_isinstance boot_isinstance (pa_cons (pv 1) (pa_cons (pe_ty (T := "tuple") rfl T.n_tuple boot_tuple) pa_nil))) (pe_callB call_isT rfl T.n_isinstance boot_isinstance (pa_cons (pv 0) (pa_cons (pe_ty (T := "tuple") rfl T.n_tuple boot_tuple) pa_nil))) (nomark _)) (pw_or1 (pt_cmpR op_ne (pe_callB call_isT rfl T.n_isinstance boot_isinstance (pa_cons (pv 1) (pa_cons (pe_ty (T := "list") rfl T.n_list boot_list) pa_nil))) (pe_callB call_isT rfl T.n_isinstance boot_isinstance (pa_cons (pv 0) (pa_cons (pe_ty (T := "list") rfl T.n_list boot_list) pa_nil))) (nomark _))))) (pss_one (ps_ret pe_bl)) pss_nil)
      (pss_one (ps_ret (pe_and (pe_cmpR op_eq (pe_callB call_lenN rfl T.n_len boot_len (pa_cons (pv 0) pa_nil)) (pe_callB call_lenN rfl T.n_len boot_len (pa_cons (pv 1) pa_nil)) (nomark _)) (pe_one (pe_callB (call_all rfl) rfl T.n_all boot_all (pa_cons (pe_comp (N := ["_law_one", "_law_other"]) (nt := 2) (fr := []) (pi_or (pi_zip rfl T.n_zip (pa_cons (pv 0) (pa_cons (pv 1) pa_nil))) (pi_zt rfl T.n_zip (pa_cons (pv 0) (pa_cons (pv 1) pa_nil)))) (fun _ _ _ _ => (pg_tupK (K := K) (n := 2) rfl rfl (pgs_cons (pg_name (i := 0) (show (["_law_one", "_law_other"] : List Str).Nodup from by decide +kernel) rfl (Or.inl rfl)) (pgs_cons (pg_name (i := 1) (show (["_law_one", "_law_other"] : List Str).Nodup from by decide +kernel) rfl (Or.inl rfl)) pgs_nil)))) (fun _ _ _ _ => pif_nil) (fun _ _ _ _ => (pe_def (D_sameZ (P := P) (w := w) (base := base) T) hr (pa_cons (pv 0) (pa_cons (pv 1) pa_nil))))) pa_nil))))))))), ?_⟩
    clear nd 
    rw [show start ["_law_told", "_law_due"] [x, y] = [some (x), some (y)] from rfl]
    try dsimp only [cx_K, cx_K2]
    have F : SH H [] H [] [] := SH.nil
    rcases sm with ⟨i, rfl, rfl⟩ | ⟨t, rfl, rfl⟩
    · repeat k_meth
      rw [decide_eq_true rfl]
      exact k _ F.sm
    · repeat k_meth
      rw [show isIB (ts t) = false from rfl]
      repeat k_meth
      exact k _ F.sm
theorem D_same1 (T : Txt w K mg c R aM aS aT aB aD kv) : Def P w K mg base CX0 3 "_law_same" ["_law_told", "_law_due"] (sp_sm 1) := by
  refine def_of T.d_same sc_same (fun vs H Q E h => ?_) (fun _ _ _ _ _ _ us hl => match us, hl with | [_, _], _ => rfl) (fun f cdv A outer s H vs Q E hr h => ?_)
  · obtain ⟨x, y, rfl, _⟩ := h
    rfl
  · obtain ⟨x, y, rfl, sm, k⟩ := h
    have nd := sc_same.nd
    refine ⟨_, (pss_cons (ps_if (pt_val (pe_callB call_isT rfl T.n_isinstance boot_isinstance (pa_cons (pv 1) (pa_cons (pe_ty (T := "int") rfl T.n_int boot_int) pa_nil)))) (pss_one (ps_ret (pe_and (pe_callB call_isT rfl T.n_isinstance boot_isinstance (pa_cons (pv 0) (pa_cons (pe_ty (T := "int") rfl T.n_int boot_int) pa_nil))) (pe_and (pe_not (pe_callB call_isT rfl T.n_isinstance boot_isinstance (pa_cons (pv 0) (pa_cons (pe_ty (T := "bool") rfl T.n_bool boot_bool) pa_nil)))) (pe_one (pe_cmpR op_eq (pv 0) (pv 1) (nomark _))))))) pss_nil)
      (pss_cons (ps_if (pt_val (pe_callB call_isT rfl T.n_isinstance boot_isinstance (pa_cons (pv 1) (pa_cons (pe_ty (T := "str") rfl T.n_str boot_str) pa_nil)))) (pss_one (ps_ret (pe_and (pe_callB call_isT rfl T.n_isinstance boot_isinstance (pa_cons (pv 0) (pa_cons (pe_ty (T := "str") rfl T.n_str boot_str) pa_nil))) (pe_one (pe_cmpR op_eq (pv 0) (pv 1) (nomark _)))))) pss_nil)
      (pss_cons (ps_if (PW.pt (pw_or (pt_cmpR op_ne (pe_callB call_isT rfl T.n_isinstance boot_isinstance (pa_cons (pv 1) (pa_cons (pe_ty (T := "tuple") rfl T.n_tuple boot_tuple) pa_nil))) (pe_callB call_isT rfl T.n_isinstance boot_isinstance (pa_cons (pv 0) (pa_cons (pe_ty (T := "tuple") rfl T.n_tuple boot_tuple) pa_nil))) (nomark _)) (pw_or1 (pt_cmpR op_ne (pe_callB call_isT rfl T.n_isinstance boot_isinstance (pa_cons (pv 1) (pa_cons (pe_ty (T := "list") rfl T.n_list boot_list) pa_nil))) (pe_callB call_isT rfl T.n_isinstance boot_isinstance (pa_cons (pv 0) (pa_cons (pe_ty (T := "list") rfl T.n_list boot_list) pa_nil))) (nomark _))))) (pss_one (ps_ret pe_bl)) pss_nil)
      (pss_one (ps_ret (pe_and (pe_cmpR op_eq (pe_callB call_lenN rfl T.n_len boot_len (pa_cons (pv 0) pa_nil)) (pe_callB call_lenN rfl T.n_len boot_len (pa_cons (pv 1) pa_nil)) (nomark _)) (pe_one (pe_callB (call_all rfl) rfl T.n_all boot_all (pa_cons (pe_comp (N := ["_law_one", "_law_other"]) (nt := 2) (fr := []) (pi_or (pi_zip rfl T.n_zip (pa_cons (pv 0) (pa_cons (pv 1) pa_nil))) (pi_zt rfl T.n_zip (pa_cons (pv 0) (pa_cons (pv 1) pa_nil)))) (fun _ _ _ _ => (pg_tupK (K := K) (n := 2) rfl rfl (pgs_cons (pg_name (i := 0) (show (["_law_one", "_law_other"] : List Str).Nodup from by decide +kernel) rfl (Or.inl rfl)) (pgs_cons (pg_name (i := 1) (show (["_law_one", "_law_other"] : List Str).Nodup from by decide +kernel) rfl (Or.inl rfl)) pgs_nil)))) (fun _ _ _ _ => pif_nil) (fun _ _ _ _ => (pe_def (D_same0 (P := P) (w := w) (base := base) T) hr (pa_cons (pv 0) (pa_cons (pv 1) pa_nil))))) pa_nil))))))))), ?_⟩
    clear nd 
    rw [show start ["_law_told", "_law_due"] [x, y] = [some (x), some (y)] from rfl]
    try dsimp only [cx_K, cx_K2]
    have F : SH H [] H [] [] := SH.nil
    obtain sm | sm1 | sm1 := sm
    · rcases sm with ⟨i, rfl, rfl⟩ | ⟨t, rfl, rfl⟩
      · repeat k_meth
        rw [decide_eq_true rfl]
        exact k _ F.sm
      · repeat k_meth
        rw [show isIB (ts t) = false from rfl]
        repeat k_meth
        exact k _ F.sm
    · obtain ⟨p, q, xs, ys, rfl, rfl, hp, hq, hl, h1, hs⟩ := sm1
      have o_q := Old.mk (M := []) hq nm0
      have o_p := Old.mk (M := []) hp nm0
      repeat k_meth
      rw [show isIB (.ref q) = false from rfl]
      repeat k_meth
      rw [show isS (.ref q) = false from rfl]
      repeat k_meth
      refine comp_inr ?_
      repeat k_meth
      refine comp_zipB (fun i => true) (itemsZ_tup hl) rfl (by omega) rfl (fun H' s => ⟨s _ _ hatC, s _ _ hatC⟩) (fun i v u H' R hv hu s kk => ?_) fun z H2 nw => ?_
      · have h2 := (hs i v u hv hu).same (F.sm.trans s)
        clear F
        have F : SH H' [] H' [] [] := SH.nil
        repeat k_meth
        exact ⟨v, u, rfl, h2, kk⟩
      · replace F := F.newL nw
        repeat k_meth
        rw [all_true]
        exact k _ F.sm
    · obtain ⟨p, q, xs, ys, rfl, rfl, hp, hq, hl, h1, hs⟩ := sm1
      have o_q := Old.mk (M := []) hq nm0
      have o_p := Old.mk (M := []) hp nm0
      repeat k_meth
      rw [show isIB (.ref q) = false from rfl]
      repeat k_meth
      rw [show isS (.ref q) = false from rfl]
      repeat k_meth
      refine comp_inl ?_
      repeat k_meth
      refine comp_zipB (fun i => true) (itemsZ_list hl) rfl (by omega) rfl (fun H' s => ⟨s.seq SqA.e, s.seq SqA.e⟩) (fun i v u H' R hv hu s kk => ?_) fun z H2 nw => ?_
      · have h2 := (hs i v u hv hu).same (F.sm.trans s)
        clear F
        have F : SH H' [] H' [] [] := SH.nil
        repeat k_meth
        exact ⟨v, u, rfl, h2, kk⟩
      · replace F := F.newL nw
        repeat k_meth
        rw [all_true]
        exact k _ F.sm
theorem D_same2 (T : Txt w K mg c R aM aS aT aB aD kv) : Def P w K mg base CX0 4 "_law_same" ["_law_told", "_law_due"] (sp_sm 2) := by
  refine def_of T.d_same sc_same (fun vs H Q E h => ?_) (fun _ _ _ _ _ _ us hl => match us, hl with | [_, _], _ => rfl) (fun f cdv A outer s H vs Q E hr h => ?_)
  · obtain ⟨x, y, rfl, _⟩ := h
    rfl
  · obtain ⟨x, y, rfl, sm, k⟩ := h
    have nd := sc_same.nd
    refine ⟨_, (pss_cons (ps_if (pt_val (pe_callB call_isT rfl T.n_isinstance boot_isinstance (pa_cons (pv 1) (pa_cons (pe_ty (T := "int") rfl T.n_int boot_int) pa_nil)))) (pss_one (ps_ret (pe_and (pe_callB call_isT rfl T.n_isinstance boot_isinstance (pa_cons (pv 0) (pa_cons (pe_ty (T := "int") rfl T.n_int boot_int) pa_nil))) (pe_and (pe_not (pe_callB call_isT rfl T.n_isinstance boot_isinstance (pa_cons (pv 0) (pa_cons (pe_ty (T := "bool") rfl T.n_bool boot_bool) pa_nil)))) (pe_one (pe_cmpR op_eq (pv 0) (pv 1) (nomark _))))))) pss_nil)
      (pss_cons (ps_if (pt_val (pe_callB call_isT rfl T.n_isinstance boot_isinstance (pa_cons (pv 1) (pa_cons (pe_ty (T := "str") rfl T.n_str boot_str) pa_nil)))) (pss_one (ps_ret (pe_and (pe_callB call_isT rfl T.n_isinstance boot_isinstance (pa_cons (pv 0) (pa_cons (pe_ty (T := "str") rfl T.n_str boot_str) pa_nil))) (pe_one (pe_cmpR op_eq (pv 0) (pv 1) (nomark _)))))) pss_nil)
      (pss_cons (ps_if (PW.pt (pw_or (pt_cmpR op_ne (pe_callB call_isT rfl T.n_isinstance boot_isinstance (pa_cons (pv 1) (pa_cons (pe_ty (T := "tuple") rfl T.n_tuple boot_tuple) pa_nil))) (pe_callB call_isT rfl T.n_isinstance boot_isinstance (pa_cons (pv 0) (pa_cons (pe_ty (T := "tuple") rfl T.n_tuple boot_tuple) pa_nil))) (nomark _)) (pw_or1 (pt_cmpR op_ne (pe_callB call_isT rfl T.n_isinstance boot_isinstance (pa_cons (pv 1) (pa_cons (pe_ty (T := "list") rfl T.n_list boot_list) pa_nil))) (pe_callB call_isT rfl T.n_isinstance boot_isinstance (pa_cons (pv 0) (pa_cons (pe_ty (T := "list") rfl T.n_list boot_list) pa_nil))) (nomark _))))) (pss_one (ps_ret pe_bl)) pss_nil)
      (pss_one (ps_ret (pe_and (pe_cmpR op_eq (pe_callB call_lenN rfl T.n_len boot_len (pa_cons (pv 0) pa_nil)) (pe_callB call_lenN rfl T.n_len boot_len (pa_cons (pv 1) pa_nil)) (nomark _)) (pe_one (pe_callB (call_all rfl) rfl T.n_all boot_all (pa_cons (pe_comp (N := ["_law_one", "_law_other"]) (nt := 2) (fr := []) (pi_or (pi_zip rfl T.n_zip (pa_cons (pv 0) (pa_cons (pv 1) pa_nil))) (pi_zt rfl T.n_zip (pa_cons (pv 0) (pa_cons (pv 1) pa_nil)))) (fun _ _ _ _ => (pg_tupK (K := K) (n := 2) rfl rfl (pgs_cons (pg_name (i := 0) (show (["_law_one", "_law_other"] : List Str).Nodup from by decide +kernel) rfl (Or.inl rfl)) (pgs_cons (pg_name (i := 1) (show (["_law_one", "_law_other"] : List Str).Nodup from by decide +kernel) rfl (Or.inl rfl)) pgs_nil)))) (fun _ _ _ _ => pif_nil) (fun _ _ _ _ => (pe_def (D_same1 (P := P) (w := w) (base := base) T) hr (pa_cons (pv 0) (pa_cons (pv 1) pa_nil))))) pa_nil))))))))), ?_⟩
    clear nd 
    rw [show start ["_law_told", "_law_due"] [x, y] = [some (x), some (y)] from rfl]
    try dsimp only [cx_K, cx_K2]
    have F : SH H [] H [] [] := SH.nil
    obtain sm | sm1 | sm1 := sm
    · rcases sm with ⟨i, rfl, rfl⟩ | ⟨t, rfl, rfl⟩
      · repeat k_meth
        rw [decide_eq_true rfl]
        exact k _ F.sm
      · repeat k_meth
        rw [show isIB (ts t) = false from rfl]
        repeat k_meth
        exact k _ F.sm
    · obtain ⟨p, q, xs, ys, rfl, rfl, hp, hq, hl, h1, hs⟩ := sm1
      have o_q := Old.mk (M := []) hq nm0
      have o_p := Old.mk (M := []) hp nm0
      repeat k_meth
      rw [show isIB (.ref q) = false from rfl]
      repeat k_meth
      rw [show isS (.ref q) = false from rfl]
      repeat k_meth
      refine comp_inr ?_
      repeat k_meth
      refine comp_zipB (fun i => true) (itemsZ_tup hl) rfl (by omega) rfl (fun H' s => ⟨s _ _ hatC, s _ _ hatC⟩) (fun i v u H' R hv hu s kk => ?_) fun z H2 nw => ?_
      · have h2 := (hs i v u hv hu).same (F.sm.trans s)
        clear F
        have F : SH H' [] H' [] [] := SH.nil
        repeat k_meth
        exact ⟨v, u, rfl, h2, kk⟩
      · replace F := F.newL nw
        repeat k_meth
        rw [all_true]
        exact k _ F.sm
    · obtain ⟨p, q, xs, ys, rfl, rfl, hp, hq, hl, h1, hs⟩ := sm1
      have o_q := Old.mk (M := []) hq nm0
      have o_p := Old.mk (M := []) hp nm0
      repeat k_meth
      rw [show isIB (.ref q) = false from rfl]
      repeat k_meth
      rw [show isS (.ref q) = false from rfl]
      repeat k_meth
      refine comp_inl ?_
      repeat k_meth
      refine comp_zipB (fun i => true) (itemsZ_list hl) rfl (by omega) rfl (fun H' s => ⟨s.seq SqA.e, s.seq SqA.e⟩) (fun i v u H' R hv hu s kk => ?_) fun z H2 nw => ?_
      · have h2 := (hs i v u hv hu).same (F.sm.trans s)
        clear F
        have F : SH H' [] H' [] [] := SH.nil
        repeat k_meth
        exact ⟨v, u, rfl, h2, kk⟩
      · replace F := F.newL nw
        repeat k_meth
        rw [all_true]
        exact k _ F.sm
theorem D_same (T : Txt w K mg c R aM aS aT aB aD kv) : Def P w K mg base CX0 5 "_law_same" ["_law_told", "_law_due"] (sp_sm 3) := by
  refine def_of T.d_same sc_same (fun vs H Q E h => ?_) (fun _ _ _ _ _ _ us hl => match us, hl with | [_, _], _ => rfl) (fun f cdv A outer s H vs Q E hr h => ?_)
  · obtain ⟨x, y, rfl, _⟩ := h
    rfl
  · obtain ⟨x, y, rfl, sm, k⟩ := h
    have nd := sc_same.nd
    refine ⟨_, (pss_cons (ps_if (pt_val (pe_callB call_isT rfl T.n_isinstance boot_isinstance (pa_cons (pv 1) (pa_cons (pe_ty (T := "int") rfl T.n_int boot_int) pa_nil)))) (pss_one (ps_ret (pe_and (pe_callB call_isT rfl T.n_isinstance boot_isinstance (pa_cons (pv 0) (pa_cons (pe_ty (T := "int") rfl T.n_int boot_int) pa_nil))) (pe_and (pe_not (pe_callB call_isT rfl T.n_isinstance boot_isinstance (pa_cons (pv 0) (pa_cons (pe_ty (T := "bool") rfl T.n_bool boot_bool) pa_nil)))) (pe_one (pe_cmpR op_eq (pv 0) (pv 1) (nomark _))))))) pss_nil)
      (pss_cons (ps_if (pt_val (pe_callB call_isT rfl T.n_isinstance boot_isinstance (pa_cons (pv 1) (pa_cons (pe_ty (T := "str") rfl T.n_str boot_str) pa_nil)))) (pss_one (ps_ret (pe_and (pe_callB call_isT rfl T.n_isinstance boot_isinstance (pa_cons (pv 0) (pa_cons (pe_ty (T := "str") rfl T.n_str boot_str) pa_nil))) (pe_one (pe_cmpR op_eq (pv 0) (pv 1) (nomark _)))))) pss_nil)
      (pss_cons (ps_if (PW.pt (pw_or (pt_cmpR op_ne (pe_callB call_isT rfl T.n_isinstance boot_isinstance (pa_cons (pv 1) (pa_cons (pe_ty (T := "tuple") rfl T.n_tuple boot_tuple) pa_nil))) (pe_callB call_isT rfl T.n_isinstance boot_isinstance (pa_cons (pv 0) (pa_cons (pe_ty (T := "tuple") rfl T.n_tuple boot_tuple) pa_nil))) (nomark _)) (pw_or1 (pt_cmpR op_ne (pe_callB call_isT rfl T.n_isinstance boot_isinstance (pa_cons (pv 1) (pa_cons (pe_ty (T := "list") rfl T.n_list boot_list) pa_nil))) (pe_callB call_isT rfl T.n_isinstance boot_isinstance (pa_cons (pv 0) (pa_cons (pe_ty (T := "list") rfl T.n_list boot_list) pa_nil))) (nomark _))))) (pss_one (ps_ret pe_bl)) pss_nil)
      (pss_one (ps_ret (pe_and (pe_cmpR op_eq (pe_callB call_lenN rfl T.n_len boot_len (pa_cons (pv 0) pa_nil)) (pe_callB call_lenN rfl T.n_len boot_len (pa_cons (pv 1) pa_nil)) (nomark _)) (pe_one (pe_callB (call_all rfl) rfl T.n_all boot_all (pa_cons (pe_comp (N := ["_law_one", "_law_other"]) (nt := 2) (fr := []) (pi_or (pi_zip rfl T.n_zip (pa_cons (pv 0) (pa_cons (pv 1) pa_nil))) (pi_zt rfl T.n_zip (pa_cons (pv 0) (pa_cons (pv 1) pa_nil)))) (fun _ _ _ _ => (pg_tupK (K := K) (n := 2) rfl rfl (pgs_cons (pg_name (i := 0) (show (["_law_one", "_law_other"] : List Str).Nodup from by decide +kernel) rfl (Or.inl rfl)) (pgs_cons (pg_name (i := 1) (show (["_law_one", "_law_other"] : List Str).Nodup from by decide +kernel) rfl (Or.inl rfl)) pgs_nil)))) (fun _ _ _ _ => pif_nil) (fun _ _ _ _ => (pe_def (D_same2 (P := P) (w := w) (base := base) T) hr (pa_cons (pv 0) (pa_cons (pv 1) pa_nil))))) pa_nil))))))))), ?_⟩
    clear nd 
    rw [show start ["_law_told", "_law_due"] [x, y] = [some (x), some (y)] from rfl]
    try dsimp only [cx_K, cx_K2]
    have F : SH H [] H [] [] := SH.nil
    obtain sm | sm1 | sm1 := sm
    · rcases sm with ⟨i, rfl, rfl⟩ | ⟨t, rfl, rfl⟩
      · repeat k_meth
        rw [decide_eq_true rfl]
        exact k _ F.sm
      · repeat k_meth
        rw [show isIB (ts t) = false from rfl]
        repeat k_meth
        exact k _ F.sm
    · obtain ⟨p, q, xs, ys, rfl, rfl, hp, hq, hl, h1, hs⟩ := sm1
      have o_q := Old.mk (M := []) hq nm0
      have o_p := Old.mk (M := []) hp nm0
      repeat k_meth
      rw [show isIB (.ref q) = false from rfl]
      repeat k_meth
      rw [show isS (.ref q) = false from rfl]
      repeat k_meth
      refine comp_inr ?_
      repeat k_meth
      refine comp_zipB (fun i => true) (itemsZ_tup hl) rfl (by omega) rfl (fun H' s => ⟨s _ _ hatC, s _ _ hatC⟩) (fun i v u H' R hv hu s kk => ?_) fun z H2 nw => ?_
      · have h2 := (hs i v u hv hu).same (F.sm.trans s)
        clear F
        have F : SH H' [] H' [] [] := SH.nil
        repeat k_meth
        exact ⟨v, u, rfl, h2, kk⟩
      · replace F := F.newL nw
        repeat k_meth
        rw [all_true]
        exact k _ F.sm
    · obtain ⟨p, q, xs, ys, rfl, rfl, hp, hq, hl, h1, hs⟩ := sm1
      have o_q := Old.mk (M := []) hq nm0
      have o_p := Old.mk (M := []) hp nm0
      repeat k_meth
      rw [show isIB (.ref q) = false from rfl]
      repeat k_meth
      rw [show isS (.ref q) = false from rfl]
      repeat k_meth
      refine comp_inl ?_
      repeat k_meth
      refine comp_zipB (fun i => true) (itemsZ_list hl) rfl (by omega) rfl (fun H' s => ⟨s.seq SqA.e, s.seq SqA.e⟩) (fun i v u H' R hv hu s kk => ?_) fun z H2 nw => ?_
      · have h2 := (hs i v u hv hu).same (F.sm.trans s)
        clear F
        have F : SH H' [] H' [] [] := SH.nil
        repeat k_meth
        exact ⟨v, u, rfl, h2, kk⟩
      · replace F := F.newL nw
        repeat k_meth
        rw [all_true]
        exact k _ F.sm
end
section
variable {H : Hp} {n : Nat} {p q : Addr} {xs ys : List V}
def BsV (x : V) : Prop := (∃ i : Int, x = .int i) ∨ ∃ t, x = ts t
theorem BsV.sm {x : V} (h : BsV x) : SmB x x := by
  rcases h with ⟨i, rfl⟩ | ⟨t, rfl⟩
  · exact .inl ⟨i, rfl, rfl⟩
  · exact .inr ⟨t, rfl, rfl⟩
theorem sm_tupB (h1 : H p = some (.tup xs)) (h2 : H q = some (.tup xs)) (hl : xs.length ≤ 1000) (hb : ∀ x ∈ xs, BsV x) : SmT (n + 1) H (.ref p) (.ref q) := .inr (.inl ⟨p, q, xs, xs, rfl, rfl, h1, h2, rfl, hl, fun i u v hu hv => by
  rw [hu] at hv
  cases hv
  exact SmT.base (hb u (List.mem_of_getElem? hu)).sm⟩)
theorem sm_lstB (h1 : H p = some (.lst xs)) (h2 : H q = some (.lst xs)) (hl : xs.length ≤ 1000) (hb : ∀ x ∈ xs, BsV x) : SmT (n + 1) H (.ref p) (.ref q) := .inr (.inr ⟨p, q, xs, xs, rfl, rfl, h1, h2, rfl, hl, fun i u v hu hv => by
  rw [hu] at hv
  cases hv
  exact SmT.base (hb u (List.mem_of_getElem? hu)).sm⟩)
theorem sm_rows {rows : List (List V)} (h1 : H p = some (.lst xs)) (h2 : H q = some (.lst ys)) (t1 : TupsAt H xs rows) (t2 : TupsAt H ys rows) (hl : rows.length ≤ 1000) (hr : ∀ r ∈ rows, r.length ≤ 1000 ∧ ∀ x ∈ r, BsV x) : SmT 2 H (.ref p) (.ref q) := .inr (.inr ⟨p, q, xs, ys, rfl, rfl, h1, h2, t1.1.trans t2.1.symm, by rw [t2.1]; exact hl, fun i u v hu hv => by
  obtain ⟨r, a, e1, rfl, e2⟩ := tups_at t1 hu
  obtain ⟨r2, b, e3, rfl, e4⟩ := tups_at t2 hv
  rw [e1] at e3
  cases e3
  have h := hr r (List.mem_of_getElem? e1)
  exact sm_tupB (n := 0) e2 e4 h.1 h.2⟩)
theorem pa_Bs (b : Pa) : BsV (paV b) := by
  cases b with
  | n i => exact .inl ⟨i, rfl⟩
  | w t => exact .inr ⟨t, rfl⟩
theorem sm2 {a b a2 b2 : V} (h1 : H p = some (.tup [a, b])) (h2 : H q = some (.tup [a2, b2])) (s1 : SmT n H a a2) (s2 : SmT n H b b2) : SmT (n + 1) H (.ref p) (.ref q) := .inr (.inl ⟨p, q, _, _, rfl, rfl, h1, h2, rfl, by simp, fun i u v hu hv => by
  match i with
  | 0 => cases hu; cases hv; exact s1
  | 1 => cases hu; cases hv; exact s2
  | i + 2 => cases hu⟩)
theorem told_sm {B B2 : Hp} {v v2 : Addr} : ∀ {p : Ln}, Told B H v p → Told B2 H v2 p → OkL p → SmT 3 H (.ref v) (.ref v2)
  | .fl f ps, ⟨ys, X, I, F, b⟩, ⟨ys2, X2, I2, F2, b2⟩, ok => by
    obtain ⟨rfl, rfl, rfl⟩ := b
    obtain ⟨rfl, rfl, rfl⟩ := b2
    obtain ⟨ks, hm, hl, h1, _⟩ := ok
    refine sm_tupB (F.im _ List.mem_cons_self) (F2.im _ List.mem_cons_self) (by
      have : ∀ x ∈ shapesT, x.2.length ≤ 3 := by decide
      have : ks.length ≤ 3 := this _ hm
      rw [List.length_cons, List.length_map]
      omega) fun x hx => ?_
    rcases List.mem_cons.mp hx with rfl | hx
    · exact .inr ⟨_, rfl⟩
    · obtain ⟨b, _, rfl⟩ := List.mem_map.mp hx
      exact pa_Bs b
  | .me i t, ⟨ys, X, I, F, b⟩, ⟨ys2, X2, I2, F2, b2⟩, ok => by
    obtain ⟨rfl, rfl, rfl⟩ := b
    obtain ⟨rfl, rfl, rfl⟩ := b2
    refine sm_tupB (F.im _ List.mem_cons_self) (F2.im _ List.mem_cons_self) (by simp) fun x hx => ?_
    simp only [List.mem_cons, List.not_mem_nil, or_false] at hx
    rcases hx with rfl | rfl | rfl
    · exact .inr ⟨_, rfl⟩
    · exact .inl ⟨_, rfl⟩
    · exact .inr ⟨_, rfl⟩
  | .sl ms, ⟨ys, X, I, F, b⟩, ⟨ys2, X2, I2, F2, b2⟩, ok => by
    obtain ⟨l, zs, rfl, rfl, rfl⟩ := b
    obtain ⟨l2, zs2, rfl, rfl, rfl⟩ := b2
    refine sm2 (F.im _ List.mem_cons_self) (F2.im _ List.mem_cons_self) (SmT.base (.inr ⟨_, rfl, rfl⟩)) (sm_rows (F.at' _ List.mem_cons_self) (F2.at' _ List.mem_cons_self) (F.im _ (List.mem_cons_of_mem _ List.mem_cons_self)) (F2.im _ (List.mem_cons_of_mem _ List.mem_cons_self)) (by rw [List.length_map]; have := ok.2.1; omega) fun r hr => ?_)
    obtain ⟨m, hm, rfl⟩ := List.mem_map.mp hr
    refine ⟨by simp [mvV], fun x hx => ?_⟩
    simp only [mvV, List.mem_cons, List.not_mem_nil, or_false] at hx
    rcases hx with rfl | rfl
    · exact .inr ⟨_, rfl⟩
    · exact .inl ⟨_, rfl⟩
  | .st i t j bs, ⟨ys, X, I, F, b⟩, ⟨ys2, X2, I2, F2, b2⟩, ok => by
    obtain ⟨l, m, zs, qs, ql, rfl, rfl, rfl⟩ := b
    obtain ⟨l2, m2, zs2, qs2, ql2, rfl, rfl, rfl⟩ := b2
    have hb := ok.2.2.1
    have sR : SmT 2 H (.ref l) (.ref l2) := sm_rows (F.at' _ List.mem_cons_self) (F2.at' _ List.mem_cons_self) (F.im _ (List.mem_cons_of_mem _ List.mem_cons_self)) (F2.im _ (List.mem_cons_of_mem _ List.mem_cons_self)) (by rw [List.length_map]; omega) fun r hr => by
      obtain ⟨b, hm, rfl⟩ := List.mem_map.mp hr
      refine ⟨by simp [bkV], fun x hx => ?_⟩
      simp only [bkV, List.mem_cons, List.not_mem_nil, or_false] at hx
      rcases hx with rfl | rfl | rfl | rfl
      · exact .inr ⟨_, rfl⟩
      · exact .inl ⟨_, rfl⟩
      · exact .inl ⟨_, rfl⟩
      · exact .inl ⟨_, rfl⟩
    have c : ∀ (qs : List Addr) (n : Nat) q (b : Bk), (∀ c ∈ hsR qs (bs.map fun b => b.vs.map V.int), H c.1 = some c.2) → qs[n]? = some q → bs[n]? = some b → H q = some (.lst (b.vs.map V.int)) := fun qs n q b h h1 h2 => h (q, .lst (b.vs.map V.int)) (hsR_at h1 (by rw [List.getElem?_map, h2]; rfl))
    have sV : SmT 2 H (.ref m) (.ref m2) := .inr (.inr ⟨m, m2, _, _, rfl, rfl, F.at' _ (List.mem_cons_of_mem _ List.mem_cons_self), F2.at' _ (List.mem_cons_of_mem _ List.mem_cons_self), by rw [List.length_map, List.length_map]; omega, by rw [List.length_map]; omega, fun n u w hu hw => by
      obtain ⟨q, hq, rfl⟩ := map_at hu
      obtain ⟨q2, hq2, rfl⟩ := map_at hw
      have hn : n < bs.length := by rw [← ql]; exact (List.getElem?_eq_some_iff.mp hq).1
      obtain ⟨b, hbn⟩ : ∃ b, bs[n]? = some b := ⟨bs[n], by simp⟩
      have a1 := c qs n q b (fun c hc => F.at' c (List.mem_cons_of_mem _ (List.mem_cons_of_mem _ hc))) hq hbn
      have a2 := c qs2 n q2 b (fun c hc => F2.at' c (List.mem_cons_of_mem _ (List.mem_cons_of_mem _ hc))) hq2 hbn
      refine sm_lstB (n := 0) a1 a2 (by rw [List.length_map]; have := (ok.2.2.2 b (List.mem_of_getElem? hbn)).ln; omega) fun x hx => ?_
      obtain ⟨i, _, rfl⟩ := List.mem_map.mp hx
      exact .inl ⟨i, rfl⟩⟩)
    exact .inr (.inl ⟨v, v2, _, _, rfl, rfl, F.im _ List.mem_cons_self, F2.im _ List.mem_cons_self, rfl, by simp, fun n u w hu hw => by
      match n with
      | 0 => cases hu; cases hw; exact SmT.base (.inr ⟨_, rfl, rfl⟩)
      | 1 => cases hu; cases hw; exact SmT.base (.inl ⟨_, rfl, rfl⟩)
      | 2 => cases hu; cases hw; exact SmT.base (.inr ⟨_, rfl, rfl⟩)
      | 3 => cases hu; cases hw; exact SmT.base (.inl ⟨_, rfl, rfl⟩)
      | 4 => cases hu; cases hw; exact sR
      | 5 => cases hu; cases hw; exact sV
      | n + 6 => cases hu⟩)
end
theorem Told.same {B H H' : Hp} {v : Addr} {p : Ln} (t : Told B H v p) (s : Same H H') : Told B H' v p := by
  obtain ⟨ys, X, I, F, b⟩ := t
  exact ⟨ys, X, I, F.same s, b⟩
theorem Told.sm {B H : Hp} {v : Addr} {p : Ln} (t : Told B H v p) : Same B H := by
  obtain ⟨ys, X, I, F, b⟩ := t
  exact F.sm
def sp_law (K : PySem.W.Frag) : Sp := fun vs H Q _ => ∃ (a : Addr) (ns : List Int), vs = [.ref a] ∧ SqL K H a (ns.map V.int) ∧ ns.length ≤ 63 ∧ ∀ H', Q (.bl true) H'
theorem cut63 {xs : List V} (h : xs.length ≤ 63) : cutV xs none (some 63) = xs := by
  unfold cutV
  rw [show (some (63 : Int)) = some ((63 : Nat) : Int) from rfl, HT.sIx_nat]
  show List.take (min 63 xs.length - 0) (List.drop 0 xs) = xs
  rw [show min 63 xs.length - 0 = xs.length by omega]
  simp
theorem two {ds : List Nat} (h : ds.length = 2) : ∃ x y, ds = [x, y] := by
  match ds, h with
  | [x, y], _ => exact ⟨x, y, rfl⟩
theorem lnF_me {p : Ln} (ok : OkL p) (h : lnF p = tMe) : ∃ i t, p = .me i t := by
  cases p with
  | fl f ps => obtain ⟨ks, _, _, _, _, n1, _⟩ := ok; exact absurd h n1
  | me i t => exact ⟨i, t, rfl⟩
  | sl ms => exact absurd (show tSl' = tMe from h) (by decide)
  | st i t j bs => exact absurd (show tSt = tMe from h) (by decide)
instance go_lst2 {K : PySem.W.Frag} {H : Hp} {p : Addr} {a b : V} {σ : L2.St} {R : L2.St → Hp → Prop} {n i0 i1 : Nat} [h : SqA K H p [a, b]] : Go (gLst K n (gCons (gName i0) (gCons (gName i1) gNil)) (.ref p) σ H R) (Sd (n = 2) (gName i0 a σ H fun σ1 H1 => gName i1 b σ1 H1 R)) := ⟨fun s => by
  obtain ⟨rfl, k⟩ := s
  exact go_l2 h.e rfl k⟩
theorem me_line (i : Int) : lineT (.me i tFi) = [109, 101, 109, 111, 114, 121, 32] ++ numT i ++ [32, 102, 105, 114, 115, 116] := by
  show tMe ++ 32 :: (numT i ++ 32 :: tFi) = _
  simp
theorem wok_fi : WOk tFi := ⟨by decide, by decide, by decide⟩
section
variable {P : Program} {w : World} {K : PySem.W.Frag} {mg : Str → Option Value} {base : Heap} {c : Nat → Addr} {R aM aS aT aB aD : Addr} {kv : List (Key × V)}
theorem ok_law (T : Txt w K mg c R aM aS aT aB aD kv) {f : Addr} {fd : FuncData} (F : Fun K "law" "law" s_law f fd) : FnOk P w K mg base CX0 8 f fd ["_law_script"] (sp_law K) := by
  have D_same := D_same (P := P) (w := w) (base := base) T
  have D_lparts := D_lparts (P := P) (w := w) (base := base) T
  have D_lline := D_lline (P := P) (w := w) (base := base) T
  have D_rline := D_rline (P := P) (w := w) (base := base) T
  have D_changed := D_changed (P := P) (w := w) (base := base) T
  have D_ldraws := D_ldraws (P := P) (w := w) (base := base) T
  have D_lnum := D_lnum (P := P) (w := w) (base := base) T
  have D_wline := D_wline (P := P) (w := w) (base := base) T
  have D_rnum := D_rnum (P := P) (w := w) (base := base) T
  refine fnok_of F sc_law (fun vs H Q E h => ?_) (fun cdv A outer s H vs Q E hr h => ?_)
  · obtain ⟨a, ns, rfl, _⟩ := h
    rfl
  · obtain ⟨a, ns, rfl, hS, hl, k⟩ := h
    have nd := sc_law.nd
    refine ⟨_, (pss_cons (ps_for PassesOwn.never rfl (pi_list (pe_slice sl_listA (pv 0) po_none (po_some pe_int))) (pg_name (i := 1) nd rfl (Or.inl rfl)) (pss_cons (ps_set (i := 2) nd rfl (Or.inl rfl) (pe_def D_lparts hr (pa_cons (pv 1) pa_nil)))
        (pss_cons (ps_set (i := 3) nd rfl (Or.inl rfl) (pe_def D_lline hr (pa_cons (pv 2) pa_nil)))
        (pss_cons (ps_set (i := 4) nd rfl (Or.inl rfl) (pe_def D_rline hr (pa_cons (pv 3) pa_nil)))
        (pss_cons (ps_if (PW.pt (pw_or (pt_not (pt_val (pe_callB call_isT rfl T.n_isinstance boot_isinstance (pa_cons (pv 4) (pa_cons (pe_ty (T := "tuple") rfl T.n_tuple boot_tuple) pa_nil))))) (pw_or (pt_not (pt_val (pe_def D_same hr (pa_cons (pv 4) (pa_cons (pv 2) pa_nil))))) (pw_or1 (pt_cmpR op_ne (pe_def D_wline hr (pa_cons (pv 4) pa_nil)) (pv 3) (nomark _)))))) (pss_one (ps_ret pe_bl)) pss_nil)
        (pss_cons (ps_expr (pe_def D_changed hr (pa_cons (pv 4) pa_nil)))
        (pss_cons (ps_if (pt_not (pt_val (pe_def D_same hr (pa_cons (pe_def D_rline hr (pa_cons (pv 3) pa_nil)) (pa_cons (pv 2) pa_nil))))) (pss_one (ps_ret pe_bl)) pss_nil)
        (pss_cons (ps_if (pt_cmpR op_eq (pe_ix ix_tup (pv 2) pe_int (fun _ _ => rfl)) (pe_strT (cs := [109, 101, 109, 111, 114, 121]) (by decide +kernel)) (nomark _)) (pss_cons (ps_set (i := 5) nd rfl (Or.inl rfl) (pe_def D_rline hr (pa_cons (pe_op op_addS (pe_strT (cs := [109, 101, 109, 111, 114, 121, 32]) (by decide +kernel)) (pe_callTy call_strP rfl T.n_str boot_str (pa_cons (pe_ix ix_tup (pv 2) pe_int (fun _ _ => rfl)) pa_nil))) pa_nil)))
          (pss_cons (ps_if (pt_not (pt_val (pe_def D_same hr (pa_cons (pv 5) (pa_cons (pe_tupA (pa_cons (pe_strT (cs := [109, 101, 109, 111, 114, 121]) (by decide +kernel)) (pa_cons (pe_ix ix_tup (pv 2) pe_int (fun _ _ => rfl)) (pa_cons (pe_strT (cs := [102, 105, 114, 115, 116]) (by decide +kernel)) pa_nil)))) pa_nil))))) (pss_one (ps_ret pe_bl)) pss_nil)
          (pss_one (ps_if (pt_cmpR op_ne (pe_def D_wline hr (pa_cons (pv 5) pa_nil)) (pe_op op_addS (pe_op op_addS (pe_strT (cs := [109, 101, 109, 111, 114, 121, 32]) (by decide +kernel)) (pe_callTy call_strP rfl T.n_str boot_str (pa_cons (pe_ix ix_tup (pv 2) pe_int (fun _ _ => rfl)) pa_nil))) (pe_strT (cs := [32, 102, 105, 114, 115, 116]) (by decide +kernel))) (nomark _)) (pss_one (ps_ret pe_bl)) pss_nil)))) pss_nil)
        (pss_cons (ps_asg (pe_def D_ldraws hr (pa_cons (pv 1) (pa_cons pe_int pa_nil))) (pg_lst rfl (pgs_cons (pg_name (i := 6) nd rfl (Or.inl rfl)) (pgs_cons (pg_name (i := 7) nd rfl (Or.inl rfl)) pgs_nil))))
        (pss_cons (ps_set (i := 8) nd rfl (Or.inl rfl) (pe_def D_lnum hr (pa_cons (pv 1) (pa_cons (pv 7) (pa_cons (pv 6) pa_nil)))))
        (pss_one (ps_if (pt_not (pt_val (pe_def D_same hr (pa_cons (pe_def D_rnum hr (pa_cons (pe_callTy call_strP rfl T.n_str boot_str (pa_cons (pv 8) pa_nil)) pa_nil)) (pa_cons (pv 8) pa_nil))))) (pss_one (ps_ret pe_bl)) pss_nil))))))))))))
      (pss_one (ps_ret (pe_def D_same hr (pa_cons (pe_def D_rline hr (pa_cons (pe_strT (cs := [115, 104, 111, 119]) (by decide +kernel)) pa_nil)) (pa_cons (pe_tupA (pa_cons (pe_strT (cs := [115, 104, 111, 119]) (by decide +kernel)) pa_nil)) pa_nil)))))), ?_⟩
    clear nd D_same D_lparts D_lline D_rline D_changed D_ldraws D_lnum D_wline D_rnum
    rw [show start ["_law_script", "_law_cell", "_law_parts_here", "_law_line_here", "_law_told", "_law_short", "_law_first", "_law_second", "_law_number_here"] [.ref a] = [some (.ref a), none, none, none, none, none, none, none, none] from rfl]
    try dsimp only [cx_K, cx_K2]
    have F : SH H [] H [] [] := SH.nil
    have o_hS := OldQ.mk (M := []) hS nm0
    have ca : CutA (ns.map V.int) none (some 63) (ns.map V.int) := ⟨cut63 (by rw [List.length_map]; exact hl)⟩
    repeat k_meth
    have sm0 := F.sm
    have hp0 : H_ p_ = some (.lst (ns.map V.int)) := hatC
    clear F
    refine forL_by (xs := ns.map V.int) (fun i σ' H' => ∃ o1 o2 o3 o4 o5 o6 o7 o8 : Option V, σ' = [some (.ref a), o1, o2, o3, o4, o5, o6, o7, o8] ∧ Same H_ H') ⟨_, _, _, _, _, _, _, _, rfl, Same.refl _⟩ ?_ ?_ ?_
    · rintro i σ' H' hi ⟨_, _, _, _, _, _, _, _, rfl, s1⟩
      exact SqL.of (s1 _ _ hp0)
    · rintro i v σ' H' hv ⟨_, _, _, _, _, _, _, _, rfl, s0⟩
      obtain ⟨c0, _, rfl⟩ := List.mem_map.mp (List.mem_of_getElem? hv)
      have F : SH H' [] H' [] [] := SH.nil
      repeat k_meth
      refine ⟨c0, rfl, fun v p H1 td gd => ?_⟩
      have s01 : Same H_ H1 := s0.trans td.sm
      obtain ⟨pys, hv1⟩ : ∃ ys, H1 v = some (.tup (ts (lnF p) :: ys)) := by
        obtain ⟨ys, X, I, G, bo⟩ := td
        exact ⟨ys, G.im _ List.mem_cons_self⟩
      clear F
      have F : SH H1 [] H1 [] [] := SH.nil
      have o_v := Old.mk (M := []) hv1 nm0
      repeat k_meth
      refine ⟨v, p, H', rfl, td, gd, fun H2 s2 => ?_⟩
      replace F := F.same s2
      repeat k_meth
      refine ⟨lineT p, p, rfl, gd.rd, fun u H3 td2 => ?_⟩
      obtain ⟨uys, hu⟩ : ∃ ys, H3 u = some (.tup (ts (lnF p) :: ys)) := by
        obtain ⟨ys, X, I, G, bo⟩ := td2
        exact ⟨ys, G.im _ List.mem_cons_self⟩
      replace F := (F.same td2.sm).addT hu
      have s13 : Same H1 H3 := s2.trans td2.sm
      repeat k_meth
      refine ⟨.ref u, .ref v, rfl, told_sm td2 (td.same s13) gd.ok, fun H4 s4 => ?_⟩
      replace F := F.same s4
      repeat k_meth
      refine ⟨u, p, H2, rfl, td2.same s4, gd.ok, gd.sm, fun H5 s5 => ?_⟩
      replace F := F.same s5
      repeat k_meth
      refine ⟨u, p, H2, rfl, td2.same (s4.trans s5), gd.ok, fun H6 s6 => ?_⟩
      clear F
      have s16 : Same H1 H6 := s2.trans s6
      have F : SH H1 [] H6 [] [] := SH.nil.same s16
      repeat k_meth
      refine ⟨lineT p, p, rfl, gd.rd, fun u2 H7 td3 => ?_⟩
      replace F := F.same td3.sm
      repeat k_meth
      refine ⟨.ref u2, .ref v, rfl, told_sm td3 (td.same (s16.trans td3.sm)) gd.ok, fun H8 s8 => ?_⟩
      replace F := F.same s8
      repeat k_meth
      refine i_dec (fun h => ?_) (fun h => ?_)
      · obtain ⟨i, t, rfl⟩ := lnF_me gd.ok (tx_inj h)
        have hi : i.natAbs < 10 ^ 30 := gd.ok
        have ni := num_len hi
        have gf := gd_me hi wok_fi
        have hv2 : H1 v = some (.tup [ts tMe, .int i, ts t]) := by
          obtain ⟨ys, X, I, G, bo⟩ := td
          obtain ⟨rfl, _⟩ := bo
          exact G.im _ List.mem_cons_self
        have o_v := Old.mk (M := []) hv2 nm0
        repeat k_meth
        refine ⟨_, .me i tFi, rfl, rd_short hi, fun us Hs ts_ => ?_⟩
        have s1s : Same H1 Hs := (F.same ts_.sm).sm
        replace s01 := s01.trans s1s
        have o_v3 := Old.mk (M := []) (s1s _ _ hv2) nm0
        clear F o_v
        have F : SH Hs [] Hs [] [] := SH.nil
        repeat k_meth
        have st : Same Hs H_ := F.sm
        refine ⟨.ref us, .ref p_, rfl, told_sm (ts_.same st) (told_me F) gf.ok, fun Ht st2 => ?_⟩
        replace F := F.same st2
        repeat k_meth
        refine ⟨us, .me i tFi, _, rfl, ts_.same (st.trans st2), gf.ok, gf.sm, fun Hu su => ?_⟩
        rw [me_line]
        replace F := F.same su
        repeat k_meth
        refine ⟨c0, 2, rfl, by omega, fun q ds H9 nw dl dm => ?_⟩
        obtain ⟨d0, d1, rfl⟩ := two dl
        simp only [List.forall_mem_cons] at dm
        have m0 := dm.1
        have m1 := dm.2.1
        have nw : New _ _ q (.lst [.int (d0 : Nat), .int (d1 : Nat)]) := nw
        replace F := F.newL nw
        repeat k_meth
        refine ⟨c0, d1, d0, rfl, by omega, by omega, fun r H10 hr10 s10 => ?_⟩
        replace F := F.same s10
        repeat k_meth
        refine ⟨r, rfl, hr10, fun H11 s11 => ?_⟩
        replace F := F.same s11
        repeat k_meth
        refine ⟨.int r, .int r, rfl, SmT.base (.inl ⟨r, rfl, rfl⟩), fun H12 s12 => ?_⟩
        replace F := F.same s12
        repeat k_meth
        exact ⟨_, _, _, _, _, _, _, _, rfl, s01.trans F.sm⟩
      · repeat k_meth
        refine ⟨c0, 2, rfl, by omega, fun q ds H9 nw dl dm => ?_⟩
        obtain ⟨d0, d1, rfl⟩ := two dl
        simp only [List.forall_mem_cons] at dm
        have m0 := dm.1
        have m1 := dm.2.1
        have nw : New _ _ q (.lst [.int (d0 : Nat), .int (d1 : Nat)]) := nw
        replace F := F.newL nw
        repeat k_meth
        refine ⟨c0, d1, d0, rfl, by omega, by omega, fun r H10 hr10 s10 => ?_⟩
        replace F := F.same s10
        repeat k_meth
        refine ⟨r, rfl, hr10, fun H11 s11 => ?_⟩
        replace F := F.same s11
        repeat k_meth
        refine ⟨.int r, .int r, rfl, SmT.base (.inl ⟨r, rfl, rfl⟩), fun H12 s12 => ?_⟩
        replace F := F.same s12
        repeat k_meth
        exact ⟨_, _, _, _, _, _, _, _, rfl, s01.trans F.sm⟩
    · rintro σ' H' ⟨_, _, _, _, _, _, _, _, rfl, s1⟩
      have F : SH H' [] H' [] [] := SH.nil
      have g0 : GdL (.fl [115, 104, 111, 119] []) := gd0 (by decide)
      repeat k_meth
      refine ⟨_, .fl [115, 104, 111, 119] [], rfl, g0.rd, fun u H2 td => ?_⟩
      clear F
      have F : SH H2 [] H2 [] [] := SH.nil
      repeat k_meth
      refine ⟨.ref u, .ref p_, rfl, told_sm (td.same F.sm) (told_fl F) g0.ok, fun H4 s4 => ?_⟩
      exact k _
end
section
variable {K : PySem.W.Frag} {a : Addr}
def entW (w : World) (x : Str × Tok × Addr) : DictEntry := ⟨PyData.keyHash w.params x.1, .str x.1 x.2.1, .ref x.2.2⟩
abbrev kvS (xs : List (Str × Tok × Addr)) : List (Key × V) := xs.map fun x => (.inr x.1, .ref x.2.2)
theorem pairs_S {prog : Program} {w : World} : ∀ xs : List (Str × Tok × Addr), Pairs (mixKind prog w) (xs.map (entW w)) (xs.map fun x => ((.inr x.1 : Key), Value.ref x.2.2))
  | [] => .nil
  | x :: r => .cons (mixKind_str prog w x.1 x.2.1) rfl (pairs_S r)
theorem kv_S : ∀ xs : List (Str × Tok × Addr), KV (kvS xs) (xs.map fun x => ((.inr x.1 : Key), Value.ref x.2.2))
  | [] => Paired.nil
  | x :: r => Paired.cons ⟨rfl, rfl⟩ (kv_S r)
theorem dic_of {w : World} {xs : List (Str × Tok × Addr)} {ep : Nat} (hs : (a == sysModules) = false) (l : K.lookup a = some ⟨.type "dict", none, .dict (xs.map (entW w)).toArray ep, #[]⟩) (nd : (xs.map fun x => x.1).Nodup) (prog : Program) : DicK prog w K a (kvS xs) := by
  refine ⟨hs, _, _, _, xs.map fun x => ((.inr x.1 : Key), Value.ref x.2.2), l, ⟨rfl, rfl, rfl⟩, rfl, fun e he => ?_, pairs_S xs, ?_, kv_S xs⟩
  · obtain ⟨x, _, rfl⟩ := List.mem_map.mp (List.mem_toArray.mp he)
    exact ⟨.inr x.1, mixKind_str prog w x.1 x.2.1, rfl⟩
  · rw [List.map_map]
    have := List.Pairwise.map (S := fun a b : Key => a ≠ b) (Sum.inr : Str → Key) (fun a b h e => h (Sum.inr.inj e)) nd
    rw [List.map_map] at this
    exact this
theorem val_S : ∀ {xs : List (Str × Tok × Addr)} {x : Str} {t : Tok} {b : Addr}, (xs.map fun x => x.1).Nodup → (x, t, b) ∈ xs → valV (kvS xs) (.inr x) = some (.ref b)
  | y :: r, x, t, b, nd, h => by
    rw [List.map_cons, List.nodup_cons] at nd
    show ((kvS (y :: r)).find? fun kv => decide (kv.1 = .inr x)).map (·.2) = _
    rw [show kvS (y :: r) = (.inr y.1, .ref y.2.2) :: kvS r from rfl, List.find?_cons]
    rcases List.mem_cons.mp h with e | h
    · subst e
      rw [show decide ((Sum.inr x : Key) = .inr x) = true from decide_eq_true rfl]
      rfl
    · have ne : ¬ (Sum.inr y.1 : Key) = .inr x := fun e => nd.1 (by
        rw [Sum.inr.inj e]
        exact List.mem_map.mpr ⟨_, h, rfl⟩)
      rw [show decide ((Sum.inr y.1 : Key) = .inr x) = false from decide_eq_false ne]
      exact val_S nd.2 h
abbrev Tp0 (K : PySem.W.Frag) (a : Addr) : Prop := ∃ n xd xs, K.lookup a = some ⟨.type "tuple", xd, .seq #[] n, xs⟩
abbrev Tp1 (K : PySem.W.Frag) (a : Addr) (x : Str) : Prop := ∃ t n xd xs, K.lookup a = some ⟨.type "tuple", xd, .seq #[.str x t] n, xs⟩
abbrev Tp2 (K : PySem.W.Frag) (a : Addr) (x y : Str) : Prop := ∃ t u n xd xs, K.lookup a = some ⟨.type "tuple", xd, .seq #[.str x t, .str y u] n, xs⟩
abbrev Tp3 (K : PySem.W.Frag) (a : Addr) (x y z : Str) : Prop := ∃ t u v n xd xs, K.lookup a = some ⟨.type "tuple", xd, .seq #[.str x t, .str y u, .str z v] n, xs⟩
abbrev Tp4 (K : PySem.W.Frag) (a : Addr) (x y z q : Str) : Prop := ∃ t u v p n xd xs, K.lookup a = some ⟨.type "tuple", xd, .seq #[.str x t, .str y u, .str z v, .str q p] n, xs⟩
theorem Tp0.sq (h : Tp0 K a) (H : Hp) : SqT K H a [] := let ⟨_, _, _, l⟩ := h; .inr ⟨_, _, _, l, rfl, rfl, by decide, .nil⟩
theorem Tp1.sq {x : Str} (h : Tp1 K a x) (H : Hp) : SqT K H a [.str x] := let ⟨_, _, _, _, l⟩ := h; .inr ⟨_, _, _, l, rfl, rfl, by show 1 ≤ sizeLine; decide, .cons ⟨_, rfl⟩ .nil⟩
theorem Tp2.sq {x y : Str} (h : Tp2 K a x y) (H : Hp) : SqT K H a [.str x, .str y] := let ⟨_, _, _, _, _, l⟩ := h; .inr ⟨_, _, _, l, rfl, rfl, by show 2 ≤ sizeLine; decide, .cons ⟨_, rfl⟩ (.cons ⟨_, rfl⟩ .nil)⟩
theorem Tp3.sq {x y z : Str} (h : Tp3 K a x y z) (H : Hp) : SqT K H a [.str x, .str y, .str z] := let ⟨_, _, _, _, _, _, l⟩ := h; .inr ⟨_, _, _, l, rfl, rfl, by show 3 ≤ sizeLine; decide, .cons ⟨_, rfl⟩ (.cons ⟨_, rfl⟩ (.cons ⟨_, rfl⟩ .nil))⟩
theorem Tp4.sq {x y z q : Str} (h : Tp4 K a x y z q) (H : Hp) : SqT K H a [.str x, .str y, .str z, .str q] := let ⟨_, _, _, _, _, _, _, l⟩ := h; .inr ⟨_, _, _, l, rfl, rfl, by show 4 ≤ sizeLine; decide, .cons ⟨_, rfl⟩ (.cons ⟨_, rfl⟩ (.cons ⟨_, rfl⟩ (.cons ⟨_, rfl⟩ .nil)))⟩
end
abbrev LkH (K : PySem.W.Frag) (g : Addr) (m q : Str) (st : Stmt) (xd xn : Option Addr) (xs : Array (Option Value)) (xo xk xe xp xc xt : Value) : Prop := K.lookup g = some ⟨xo, xd, .func (PySem.W.fnOf m q (defArgs st) (defBody st) (defScope st) .none xk xe xp xn xc xt), xs⟩ ∧ PySem.W.codeIn K xc q = true ∧ PySem.W.keepIn K (.ref g) = true
abbrev DfH (K : PySem.W.Frag) (m : Str) (st : Stmt) : Prop := ∃ g xd xn xs xo xk xe xp xc xt, PySem.W.nsIn K mainGlobals m = some (some (.ref g)) ∧ LkH K g m m st xd xn xs xo xk xe xp xc xt
abbrev MeH (K : PySem.W.Frag) (C : Addr) (m q : Str) (st : Stmt) : Prop := ∃ g xd xn xs xo xk xe xp xc xt, PySem.W.findIn K (.ref C) m = some (some (.ref g)) ∧ PySem.W.isFn K (.ref g) = true ∧ LkH K g m q st xd xn xs xo xk xe xp xc xt
abbrev CdH (K : PySem.W.Frag) (C : Addr) (m q : Str) (st : Stmt) : Prop := ∃ g xd xn xs xo xk xe xp xc xt, PySem.W.specialIn K (.ref C) "__getattribute__" = some (some (.builtin "type.__getattribute__")) ∧ PySem.W.readsIn K C (.type "type") = true ∧ PySem.W.findCls K (.ref C) (.type "type") m = some (.val (.ref g)) ∧ LkH K g m q st xd xn xs xo xk xe xp xc xt
abbrev ClH (K : PySem.W.Frag) (C : Addr) : Prop := PySem.W.plainGet K C Str.empty = true ∧ PySem.W.hasDictIn K C = true ∧ PySem.W.plainOver K C = true ∧ PySem.W.findIn K (.ref C) "__setattr__" = some (some (.builtin "object.__setattr__")) ∧ PySem.W.makesIn K C = true ∧ PySem.W.keepIn K (.ref C) = true
section
variable {K : PySem.W.Frag} {h : Heap} {mg : Str → Option Value} {C : Addr} {m q : Str} {st : Stmt}
theorem DfH.has (d : DfH K m st) (X : K.In h) (G : h.Ns mainGlobals mg) : HasDef K mg m st := let ⟨_, _, _, _, _, _, _, _, _, _, a, l, c, k⟩ := d; HasDef.mk (PySem.W.mg_of X G a) l c k
theorem MeH.me (d : MeH K C m q st) : ∃ f, FnAt K m q st f ∧ Meth K C m f := let ⟨g, _, _, _, _, _, _, _, _, _, a, f, l, c, k⟩ := d; ⟨g, ⟨_, fun_mk (st := st) l c k⟩, ⟨a, f, k⟩⟩
theorem MeH.mk (d : MeH K C "__init__" q st) (c : ClH K C) : ∃ f, FnAt K "__init__" q st f ∧ Mk K C f := let ⟨g, _, _, _, _, _, _, _, _, _, a, f, l, cd, k⟩ := d; ⟨g, ⟨_, fun_mk (st := st) l cd k⟩, ⟨c.2.2.2.2.1, a, f, c.2.2.2.2.2⟩⟩
theorem CdH.cd (d : CdH K C m q st) : ∃ f, FnAt K m q st f ∧ CMeth K C m f := let ⟨g, _, _, _, _, _, _, _, _, _, a, r, f, l, c, k⟩ := d; ⟨g, ⟨_, fun_mk (st := st) l c k⟩, ⟨a, r, f, by rfl, k⟩⟩
end
theorem all_mk {l : PySem.W.OpenLaw} {w : World} {K : PySem.W.Frag} {h : Heap} {mg : Str → Option Value} {fa g21_ : Addr} (X : K.In h) (G : h.Ns mainGlobals mg) (hfa : mg "law" = some (.ref fa))
    {R aM aS aT aB aD : Addr} {ep : Nat} {t0 t1 t2 t3 t4 t5 t6 t7 t8 t9 t10 t11 t12 t13 t14 t15 t16 t17 t18 t19 : Tok} {b0 b1 b2 b3 b4 b5 b6 b7 b8 b9 b10 b11 b12 b13 b14 b15 b16 b17 b18 b19 : Addr}
    (eR : PySem.W.nsIn K mainGlobals "RoomError" = some (some (.ref R)))
    (eh : PySem.W.specialIn K (.builtin "object.__class__") "__get__" = some (some (.builtin "getset_descriptor.__get__")))
    (et : PySem.W.takesIn K (.builtin "object.__class__") = some true)
    {od21_ an21_ : Option Addr} {sl21_ : Array (Option Value)} {oc21_ kV21_ dc21_ pm21_ cd21_ ct21_ : Value}
    (d0_ : DfH K "read_figures" s_rfig)
    (d1_ : DfH K "read_number" s_rnum)
    (d2_ : DfH K "read_shape" s_rshape)
    (d3_ : DfH K "read_memory" s_rmem)
    (d4_ : DfH K "read_slide" s_rslide)
    (d5_ : DfH K "read_values" s_rvals)
    (d6_ : DfH K "read_block" s_rblock)
    (d7_ : DfH K "read_stand" s_rstand)
    (d8_ : DfH K "read_behind" s_rbehind)
    (d9_ : DfH K "read_line" s_rline)
    (d10_ : DfH K "write_values" s_wvals)
    (d11_ : DfH K "write_standing" s_wstand)
    (d12_ : DfH K "write_line" s_wline)
    (d13_ : DfH K "_law_draws" s_ldraws)
    (d14_ : DfH K "_law_word" s_lword)
    (d15_ : DfH K "_law_number" s_lnum)
    (d16_ : DfH K "_law_stand" s_lstand)
    (d17_ : DfH K "_law_parts" s_lparts)
    (d18_ : DfH K "_law_line" s_lline)
    (d19_ : DfH K "_law_same" s_same)
    (d20_ : DfH K "_law_changed" s_changed)
    (a21_ : PySem.W.nsIn K mainGlobals "law" = some (some (.ref g21_))) (l21_ : K.lookup g21_ = some ⟨oc21_, od21_, .func (PySem.W.fnOf "law" "law" (defArgs s_law) (defBody s_law) (defScope s_law) .none kV21_ dc21_ pm21_ an21_ cd21_ ct21_), sl21_⟩) (c21_ : PySem.W.codeIn K cd21_ "law" = true) (k21_ : PySem.W.keepIn K (.ref g21_) = true)
    (nb0 : PySem.W.nsIn K mainGlobals "isinstance" = some none)
    (nb1 : PySem.W.nsIn K mainGlobals "int" = some none)
    (nb2 : PySem.W.nsIn K mainGlobals "bool" = some none)
    (nb3 : PySem.W.nsIn K mainGlobals "str" = some none)
    (nb4 : PySem.W.nsIn K mainGlobals "list" = some none)
    (nb5 : PySem.W.nsIn K mainGlobals "tuple" = some none)
    (nb6 : PySem.W.nsIn K mainGlobals "len" = some none)
    (nb7 : PySem.W.nsIn K mainGlobals "all" = some none)
    (nb8 : PySem.W.nsIn K mainGlobals "range" = some none)
    (nb9 : PySem.W.nsIn K mainGlobals "zip" = some none)
    {tk0 : Tok} (con0 : PySem.W.nsIn K mainGlobals "FIGURES" = some (some (.str FIG tk0)))
    {tk1 : Tok} (con1 : PySem.W.nsIn K mainGlobals "MOST_FIGURES" = some (some (.int 30 tk1)))
    {tk2 : Tok} (con2 : PySem.W.nsIn K mainGlobals "BLOCK_WORDS" = some (some (.int 6 tk2)))
    (con3 : PySem.W.nsIn K mainGlobals "MEMORY_SHAPE" = some (some (.ref aM)))
    (con4 : PySem.W.nsIn K mainGlobals "SLIDE_SHAPE" = some (some (.ref aS)))
    (con5 : PySem.W.nsIn K mainGlobals "STAND_SHAPE" = some (some (.ref aT)))
    (con6 : PySem.W.nsIn K mainGlobals "BLOCK_SHAPE" = some (some (.ref aB)))
    (con7 : PySem.W.nsIn K mainGlobals "SHAPES" = some (some (.ref aD)))
    {nmR qR : Str} {NR : Addr} {bsR bmR : List Value} {hdR : Bool} {snR : List Str} {subR : List Value} {abR : Bool} {colR : Option Bool} {ddR : Option Addr} {k0R k1R k2R k3R k5R : Option Value} {newR : String}
    (zc : K.lookup R = some (excClassObj nmR qR R NR bsR bmR hdR snR subR abR colR ddR k0R k1R k2R k3R k5R newR)) (zt : PySem.W.typeIn K (.ref R) = some (.type "type")) (zm : PySem.W.mroIn K R (.type "BaseException") = some true)
    (hsD : (aD == sysModules) = false)
    (lD : K.lookup aD = some ⟨.type "dict", none, .dict #[⟨PyData.keyHash w.params "show", .str "show" t0, .ref b0⟩, ⟨PyData.keyHash w.params "take", .str "take" t1, .ref b1⟩, ⟨PyData.keyHash w.params "fit", .str "fit" t2, .ref b2⟩, ⟨PyData.keyHash w.params "give", .str "give" t3, .ref b3⟩, ⟨PyData.keyHash w.params "pin", .str "pin" t4, .ref b4⟩, ⟨PyData.keyHash w.params "unpin", .str "unpin" t5, .ref b5⟩, ⟨PyData.keyHash w.params "pins", .str "pins" t6, .ref b6⟩, ⟨PyData.keyHash w.params "read", .str "read" t7, .ref b7⟩, ⟨PyData.keyHash w.params "write", .str "write" t8, .ref b8⟩, ⟨PyData.keyHash w.params "cell", .str "cell" t9, .ref b9⟩, ⟨PyData.keyHash w.params "values", .str "values" t10, .ref b10⟩, ⟨PyData.keyHash w.params "blocks", .str "blocks" t11, .ref b11⟩, ⟨PyData.keyHash w.params "holes", .str "holes" t12, .ref b12⟩, ⟨PyData.keyHash w.params "order", .str "order" t13, .ref b13⟩, ⟨PyData.keyHash w.params "look", .str "look" t14, .ref b14⟩, ⟨PyData.keyHash w.params "plan", .str "plan" t15, .ref b15⟩, ⟨PyData.keyHash w.params "room", .str "room" t16, .ref b16⟩, ⟨PyData.keyHash w.params "waste", .str "waste" t17, .ref b17⟩, ⟨PyData.keyHash w.params "pack", .str "pack" t18, .ref b18⟩, ⟨PyData.keyHash w.params "tidy", .str "tidy" t19, .ref b19⟩] ep, #[]⟩)
    (s0_ : Tp0 K b0)
    (s1_ : Tp2 K b1 "name" "N")
    (s2_ : Tp2 K b2 "name" "N")
    (s3_ : Tp1 K b3 "name")
    (s4_ : Tp1 K b4 "name")
    (s5_ : Tp1 K b5 "name")
    (s6_ : Tp1 K b6 "name")
    (s7_ : Tp2 K b7 "name" "N")
    (s8_ : Tp3 K b8 "name" "N" "N")
    (s9_ : Tp2 K b9 "name" "N")
    (s10_ : Tp1 K b10 "name")
    (s11_ : Tp0 K b11)
    (s12_ : Tp0 K b12)
    (s13_ : Tp0 K b13)
    (s14_ : Tp1 K b14 "N")
    (s15_ : Tp1 K b15 "N")
    (s16_ : Tp1 K b16 "N")
    (s17_ : Tp0 K b17)
    (s18_ : Tp1 K b18 "way")
    (s19_ : Tp0 K b19)
    (saM : Tp2 K aM "N" "word")
    (saS : Tp2 K aS "name" "N")
    (saT : Tp3 K aT "N" "word" "N")
    (saB : Tp4 K aB "name" "N" "N" "N")
    : ∃ fd : FuncData, (∀ (s : Shared) (v : Value), BindsTo s fd ⟨[v], []⟩ [("_law_script", v)]) ∧ ∀ base : Heap, K.In base → base.Ns mainGlobals mg → FnOk l.prog w K mg base CX0 8 fa fd ["_law_script"] (sp_law K) := by
  have e := hfa.symm.trans (PySem.W.mg_of X G a21_)
  cases e
  have nd : (([("show", t0, b0), ("take", t1, b1), ("fit", t2, b2), ("give", t3, b3), ("pin", t4, b4), ("unpin", t5, b5), ("pins", t6, b6), ("read", t7, b7), ("write", t8, b8), ("cell", t9, b9), ("values", t10, b10), ("blocks", t11, b11), ("holes", t12, b12), ("order", t13, b13), ("look", t14, b14), ("plan", t15, b15), ("room", t16, b16), ("waste", t17, b17), ("pack", t18, b18), ("tidy", t19, b19)] : List (Str × Tok × Addr)).map fun x => x.1).Nodup := (by decide +kernel : (["show", "take", "fit", "give", "pin", "unpin", "pins", "read", "write", "cell", "values", "blocks", "holes", "order", "look", "plan", "room", "waste", "pack", "tidy"] : List Str).Nodup)
  have hm : ∀ y ∈ ([("show", t0, b0), ("take", t1, b1), ("fit", t2, b2), ("give", t3, b3), ("pin", t4, b4), ("unpin", t5, b5), ("pins", t6, b6), ("read", t7, b7), ("write", t8, b8), ("cell", t9, b9), ("values", t10, b10), ("blocks", t11, b11), ("holes", t12, b12), ("order", t13, b13), ("look", t14, b14), ("plan", t15, b15), ("room", t16, b16), ("waste", t17, b17), ("pack", t18, b18), ("tidy", t19, b19)] : List (Str × Tok × Addr)), valV (kvS [("show", t0, b0), ("take", t1, b1), ("fit", t2, b2), ("give", t3, b3), ("pin", t4, b4), ("unpin", t5, b5), ("pins", t6, b6), ("read", t7, b7), ("write", t8, b8), ("cell", t9, b9), ("values", t10, b10), ("blocks", t11, b11), ("holes", t12, b12), ("order", t13, b13), ("look", t14, b14), ("plan", t15, b15), ("room", t16, b16), ("waste", t17, b17), ("pack", t18, b18), ("tidy", t19, b19)]) (.inr y.1) = some (.ref y.2.2) := fun y hy => val_S nd hy
  simp only [List.forall_mem_cons] at hm
  obtain ⟨v0_, v1_, v2_, v3_, v4_, v5_, v6_, v7_, v8_, v9_, v10_, v11_, v12_, v13_, v14_, v15_, v16_, v17_, v18_, v19_, _⟩ := hm
  have T : Txt w K mg (fun i => ([] : List Addr).getD i 0) R aM aS aT aB aD (kvS [("show", t0, b0), ("take", t1, b1), ("fit", t2, b2), ("give", t3, b3), ("pin", t4, b4), ("unpin", t5, b5), ("pins", t6, b6), ("read", t7, b7), ("write", t8, b8), ("cell", t9, b9), ("values", t10, b10), ("blocks", t11, b11), ("holes", t12, b12), ("order", t13, b13), ("look", t14, b14), ("plan", t15, b15), ("room", t16, b16), ("waste", t17, b17), ("pack", t18, b18), ("tidy", t19, b19)]) := {
    q_aM := saM.sq
    q_aS := saS.sq
    q_aT := saT.sq
    q_aB := saB.sq
    q_aD := fun prog => dic_of (xs := [("show", t0, b0), ("take", t1, b1), ("fit", t2, b2), ("give", t3, b3), ("pin", t4, b4), ("unpin", t5, b5), ("pins", t6, b6), ("read", t7, b7), ("write", t8, b8), ("cell", t9, b9), ("values", t10, b10), ("blocks", t11, b11), ("holes", t12, b12), ("order", t13, b13), ("look", t14, b14), ("plan", t15, b15), ("room", t16, b16), ("waste", t17, b17), ("pack", t18, b18), ("tidy", t19, b19)]) hsD lD nd prog
    v_aD := fun x ws hx => by
      simp only [shapesT, List.mem_cons, List.not_mem_nil, or_false, Prod.mk.injEq] at hx
      rcases hx with ⟨rfl, rfl⟩ | ⟨rfl, rfl⟩ | ⟨rfl, rfl⟩ | ⟨rfl, rfl⟩ | ⟨rfl, rfl⟩ | ⟨rfl, rfl⟩ | ⟨rfl, rfl⟩ | ⟨rfl, rfl⟩ | ⟨rfl, rfl⟩ | ⟨rfl, rfl⟩ | ⟨rfl, rfl⟩ | ⟨rfl, rfl⟩ | ⟨rfl, rfl⟩ | ⟨rfl, rfl⟩ | ⟨rfl, rfl⟩ | ⟨rfl, rfl⟩ | ⟨rfl, rfl⟩ | ⟨rfl, rfl⟩ | ⟨rfl, rfl⟩ | ⟨rfl, rfl⟩
      · exact ⟨b0, v0_, s0_.sq⟩
      · exact ⟨b1, v1_, s1_.sq⟩
      · exact ⟨b2, v2_, s2_.sq⟩
      · exact ⟨b3, v3_, s3_.sq⟩
      · exact ⟨b4, v4_, s4_.sq⟩
      · exact ⟨b5, v5_, s5_.sq⟩
      · exact ⟨b6, v6_, s6_.sq⟩
      · exact ⟨b7, v7_, s7_.sq⟩
      · exact ⟨b8, v8_, s8_.sq⟩
      · exact ⟨b9, v9_, s9_.sq⟩
      · exact ⟨b10, v10_, s10_.sq⟩
      · exact ⟨b11, v11_, s11_.sq⟩
      · exact ⟨b12, v12_, s12_.sq⟩
      · exact ⟨b13, v13_, s13_.sq⟩
      · exact ⟨b14, v14_, s14_.sq⟩
      · exact ⟨b15, v15_, s15_.sq⟩
      · exact ⟨b16, v16_, s16_.sq⟩
      · exact ⟨b17, v17_, s17_.sq⟩
      · exact ⟨b18, v18_, s18_.sq⟩
      · exact ⟨b19, v19_, s19_.sq⟩
    d_rfig := d0_.has X G
    d_rnum := d1_.has X G
    d_rshape := d2_.has X G
    d_rmem := d3_.has X G
    d_rslide := d4_.has X G
    d_rvals := d5_.has X G
    d_rblock := d6_.has X G
    d_rstand := d7_.has X G
    d_rbehind := d8_.has X G
    d_rline := d9_.has X G
    d_wvals := d10_.has X G
    d_wstand := d11_.has X G
    d_wline := d12_.has X G
    d_ldraws := d13_.has X G
    d_lword := d14_.has X G
    d_lnum := d15_.has X G
    d_lstand := d16_.has X G
    d_lparts := d17_.has X G
    d_lline := d18_.has X G
    d_same := d19_.has X G
    d_changed := d20_.has X G
    n_isinstance := PySem.W.mg_none_of X G nb0
    n_int := PySem.W.mg_none_of X G nb1
    n_bool := PySem.W.mg_none_of X G nb2
    n_str := PySem.W.mg_none_of X G nb3
    n_list := PySem.W.mg_none_of X G nb4
    n_tuple := PySem.W.mg_none_of X G nb5
    n_len := PySem.W.mg_none_of X G nb6
    n_all := PySem.W.mg_none_of X G nb7
    n_range := PySem.W.mg_none_of X G nb8
    n_zip := PySem.W.mg_none_of X G nb9
    g_FIGURES := ⟨_, PySem.W.mg_of X G con0, ⟨_, rfl⟩⟩
    g_MOST_FIGURES := ⟨_, PySem.W.mg_of X G con1, ⟨_, rfl⟩⟩
    g_BLOCK_WORDS := ⟨_, PySem.W.mg_of X G con2, ⟨_, rfl⟩⟩
    g_MEMORY_SHAPE := ⟨_, PySem.W.mg_of X G con3, rfl⟩
    g_SLIDE_SHAPE := ⟨_, PySem.W.mg_of X G con4, rfl⟩
    g_STAND_SHAPE := ⟨_, PySem.W.mg_of X G con5, rfl⟩
    g_BLOCK_SHAPE := ⟨_, PySem.W.mg_of X G con6, rfl⟩
    g_SHAPES := ⟨_, PySem.W.mg_of X G con7, rfl⟩
    g_R := PySem.W.mg_of X G eR
    c_R := by unfold PySem.W.clsIn; rw [zc]; rfl
    t_R := zt
    m_R := zm
 }
  refine ⟨PySem.W.fnOf "law" "law" (defArgs s_law) (defBody s_law) (defScope s_law) .none kV21_ dc21_ pm21_ an21_ cd21_ ct21_, fun s v => .of_eq rfl, fun base _ _ => ?_⟩
  exact ok_law T (fun_mk (st := s_law) l21_ c21_ k21_)
theorem walk {l : PySem.W.OpenLaw} {q : Program} {loose : List Str} {XP : (Str → Option Value) → Heap → Prop} {YP : World → Heap → Prop} {d : DefRec} {K : Params → PySem.W.Frag} (hn : l.most = some 63) (hdf : d.params.defaults = [])
    (hY : ∀ (w : World) (h : Heap), YP w h → (K w.params).In h)
    (F : ∀ (w : World) (mg : Str → Option Value) (fa : Addr) (h : Heap), (K w.params).In h → h.Ns mainGlobals mg → mg d.name = some (.ref fa) →
      ∃ fd : FuncData, (∀ (s : Shared) (u : Value), BindsTo s fd ⟨[u], []⟩ [("_law_script", u)]) ∧ ∀ base : Heap, (K w.params).In base → base.Ns mainGlobals mg → FnOk l.prog w (K w.params) mg base CX0 8 fa fd ["_law_script"] (sp_law (K w.params))) :
    PySem.W.WalkO q loose XP YP l.row.toRowW d [] (fun f vs => PySem.call f vs) :=
  L2.walk_of (n := 63) (k := 8) (x := "_law_script") (CX := fun _ => CX0) (sp := fun w => sp_law (K w.params)) hn (by decide) hdf ⟨rfl, by decide, by decide, rfl⟩ hY F (fun _ _ a ns hl _ hS => ⟨a, ns, rfl, hS, hl, fun _ => rfl⟩) fun _ _ _ _ _ z => z
end K01
namespace PySem.W.Fast
def tw10868630345060194211:Unit:=()
def tw14501640514278260667:Unit:=()
def tw16886727651022667087:Unit:=()
def tw10025288636288774100:Unit:=()
def tw10118875866128624128:Unit:=()
def tw10130941650892166558:Unit:=()
def tw10388801898692463053:Unit:=()
def tw10608289222746820427:Unit:=()
def tw10610046871411319662:Unit:=()
def tw10626829690375138926:Unit:=()
def tw10710646149983398221:Unit:=()
def tw10800263398977033776:Unit:=()
def tw10842112440332427397:Unit:=()
def tw10895816320100222384:Unit:=()
def tw10977343300945160686:Unit:=()
def tw11052707485291474733:Unit:=()
def tw11223747802475562988:Unit:=()
def tw11309479149075169649:Unit:=()
def tw11312279892150729704:Unit:=()
def tw11341443200024913012:Unit:=()
def tw11345192726590529288:Unit:=()
def tw11357392905549622831:Unit:=()
def tw11368953653194488599:Unit:=()
def tw11370351948489170155:Unit:=()
def tw11608435404976793356:Unit:=()
def tw11817263940577178377:Unit:=()
def tw11881272298697905023:Unit:=()
def tw11904789643291319993:Unit:=()
def tw11930295850740015406:Unit:=()
def tw11941516934151905808:Unit:=()
def tw11988259116028774966:Unit:=()
def tw12072158060752540067:Unit:=()
def tw12239234661904534373:Unit:=()
def tw1224219413482232241:Unit:=()
def tw12404988487186196425:Unit:=()
def tw12602933279814269628:Unit:=()
def tw12735174804175897624:Unit:=()
def tw12913581296265851219:Unit:=()
def tw12954171866058929136:Unit:=()
def tw1296982407542778519:Unit:=()
def tw13121155833060503011:Unit:=()
def tw13133532185870709090:Unit:=()
def tw13210086651686897049:Unit:=()
def tw13283655431949403567:Unit:=()
def tw13287046968219026624:Unit:=()
def tw13295351032435801405:Unit:=()
def tw13313139013083357669:Unit:=()
def tw13382740683605726752:Unit:=()
def tw13428529561004850473:Unit:=()
def tw13616571646872459443:Unit:=()
def tw13785251853511722993:Unit:=()
def tw13859027651379756929:Unit:=()
def tw14051203849984593125:Unit:=()
def tw14107688225513917446:Unit:=()
def tw14144634161848168772:Unit:=()
def tw14177358345379921876:Unit:=()
def tw14364333066952878547:Unit:=()
def tw14390253626248297083:Unit:=()
def tw14431999128361329498:Unit:=()
def tw14588288592933331918:Unit:=()
def tw1466258204146502944:Unit:=()
def tw14720948674908165477:Unit:=()
def tw14826504090466107209:Unit:=()
def tw14852863708585909531:Unit:=()
def tw14914455860721688279:Unit:=()
def tw1494718287255883319:Unit:=()
def tw15030727525286595950:Unit:=()
def tw1506612213096430091:Unit:=()
def tw15073834530167685737:Unit:=()
def tw15119145185036100134:Unit:=()
def tw15168540863616348218:Unit:=()
def tw15171001974892702327:Unit:=()
def tw15185474271202448742:Unit:=()
def tw15354546976317597251:Unit:=()
def tw15365355814078620230:Unit:=()
def tw15509329238997622401:Unit:=()
def tw15557033081967431548:Unit:=()
def tw15725186320108173872:Unit:=()
def tw15833538213844148806:Unit:=()
def tw15864958832404888020:Unit:=()
def tw16214968418905250570:Unit:=()
def tw16505853267638481306:Unit:=()
def tw16907919942075239247:Unit:=()
def tw17115386931952650642:Unit:=()
def tw17128573948401978691:Unit:=()
def tw17310306098107466681:Unit:=()
def tw17371914445959217258:Unit:=()
def tw17398681060810303859:Unit:=()
def tw17447134881678899919:Unit:=()
def tw17480755333232976935:Unit:=()
def tw17586178863926732368:Unit:=()
def tw1780276800142562067:Unit:=()
def tw17820119956435507072:Unit:=()
def tw17861603269582970240:Unit:=()
def tw17863796119661550647:Unit:=()
def tw17983952980214310511:Unit:=()
def tw18030306021537588890:Unit:=()
def tw1810991700474337605:Unit:=()
def tw18120200476782208768:Unit:=()
def tw182627510413060604:Unit:=()
def tw18301461710148055843:Unit:=()
def tw18440920709934077086:Unit:=()
def tw1868430990269022946:Unit:=()
def tw1900626246582586725:Unit:=()
def tw1944407726606581560:Unit:=()
def tw2036932106172292662:Unit:=()
def tw2158275790713111742:Unit:=()
def tw2163316110791415566:Unit:=()
def tw2243066246187994972:Unit:=()
def tw2324846123623368561:Unit:=()
def tw2358878178598549885:Unit:=()
def tw2402007761916564979:Unit:=()
def tw2528954603823087422:Unit:=()
def tw258314942648386943:Unit:=()
def tw2616123375378890134:Unit:=()
def tw2775430897892294262:Unit:=()
def tw2785570987485156434:Unit:=()
def tw2809625833437317980:Unit:=()
def tw2861487242499359460:Unit:=()
def tw2961595379150635158:Unit:=()
def tw3130848371152545095:Unit:=()
def tw3133305154509337524:Unit:=()
def tw3137662206748469375:Unit:=()
def tw3167881481581273741:Unit:=()
def tw3231255063176690411:Unit:=()
def tw3234981464547113926:Unit:=()
def tw3309461924298380743:Unit:=()
def tw3321303086762052493:Unit:=()
def tw3361152530096409742:Unit:=()
def tw3525074808937632055:Unit:=()
def tw3719192679728953852:Unit:=()
def tw389628411947200890:Unit:=()
def tw3932463251347779048:Unit:=()
def tw4020286059781270565:Unit:=()
def tw4026840667070386913:Unit:=()
def tw4032025400221596907:Unit:=()
def tw4072387131797911964:Unit:=()
def tw4075466929508163201:Unit:=()
def tw4184669847201451916:Unit:=()
def tw4221206785248329989:Unit:=()
def tw426167814873354525:Unit:=()
def tw4290356574884162536:Unit:=()
def tw4367623128850563174:Unit:=()
def tw437003192176512678:Unit:=()
def tw4561582281396200826:Unit:=()
def tw4565830459006463018:Unit:=()
def tw4616402994331270648:Unit:=()
def tw4621097939703558287:Unit:=()
def tw4656972619516757752:Unit:=()
def tw4716599063267682095:Unit:=()
def tw4946636746799153542:Unit:=()
def tw5035313958053806686:Unit:=()
def tw5036427049852361882:Unit:=()
def tw5099849781647959638:Unit:=()
def tw5123590329084532398:Unit:=()
def tw5132793498563433834:Unit:=()
def tw51465652689881194:Unit:=()
def tw5166459461806384743:Unit:=()
def tw5210867944383183148:Unit:=()
def tw5237235599932204145:Unit:=()
def tw5290453773669979295:Unit:=()
def tw5543265978382361591:Unit:=()
def tw555286984920922037:Unit:=()
def tw5640625030334360598:Unit:=()
def tw5677311087702735073:Unit:=()
def tw5779930300854665387:Unit:=()
def tw580842673924786324:Unit:=()
def tw5823498495251304210:Unit:=()
def tw5959756132150643520:Unit:=()
def tw6055236478070215531:Unit:=()
def tw6058833106135395605:Unit:=()
def tw6136811772947371659:Unit:=()
def tw6291955595953272494:Unit:=()
def tw6377114151008857911:Unit:=()
def tw642913923226980724:Unit:=()
def tw6471182671070552947:Unit:=()
def tw6782092987242964935:Unit:=()
def tw6789025338941749107:Unit:=()
def tw6907260702590545435:Unit:=()
def tw6938947748314661312:Unit:=()
def tw6941257233952359184:Unit:=()
def tw695918042142344973:Unit:=()
def tw7198765822305529925:Unit:=()
def tw7200665537771315440:Unit:=()
def tw7316204435050530108:Unit:=()
def tw7519482245634228434:Unit:=()
def tw7689132568112121169:Unit:=()
def tw7739606259176307285:Unit:=()
def tw7751250883187598285:Unit:=()
def tw7820653332875628848:Unit:=()
def tw7888297894855676268:Unit:=()
def tw7920823968288577457:Unit:=()
def tw7986828414049119990:Unit:=()
def tw8012213366857570759:Unit:=()
def tw8013808403122529701:Unit:=()
def tw8180178632074648231:Unit:=()
def tw8229343383985958063:Unit:=()
def tw8528671663199154791:Unit:=()
def tw8714172077137703842:Unit:=()
def tw875377453122455355:Unit:=()
def tw8845476230226325262:Unit:=()
def tw8930230151161036534:Unit:=()
def tw8988197832206224395:Unit:=()
def tw9009499772558534691:Unit:=()
def tw9152387213456659601:Unit:=()
def tw9412574655051473589:Unit:=()
def tw949710924824070520:Unit:=()
def tw9498650271583183872:Unit:=()
def tw9535379201235096597:Unit:=()
def tw9784618107197371707:Unit:=()
def tw9821350086453233523:Unit:=()
def tw9824903702527225736:Unit:=()
def tw9844657060337963653:Unit:=()
def tw10303144482396853991:Unit:=()
def tw121625994143587865:Unit:=()
def tw12636580442326819002:Unit:=()
def tw4558878573488983859:Unit:=()
def tw9287588140312555235:Unit:=()
def tw11959618748502596252:Unit:=()
def tw12472099141147609593:Unit:=()
def tw12827688203908448292:Unit:=()
def tw1900025535915976274:Unit:=()
def tw3257609491528533399:Unit:=()
def tw6555741288492931161:Unit:=()
def tw14372444806267272798:Unit:=()
end PySem.W.Fast
open PySem PySem.W PyProof.Rows
set_option maxRecDepth 100000 in
set_option maxHeartbeats 0 in
theorem PySem.Challenge.cw_slideroom_k01_lines_read_holds : PySem.Challenge.rw_slideroom_k01_lines_read.Holds := by
  w_on; o_law; k_head; (case hw => w_witness2)
  k_fill
  refine K01.walk (l := PySem.Challenge.rw_slideroom_k01_lines_read) rfl rfl (fun w h Y => PySem.W.kIn_of Y) ?F
  case F =>
    intro w mg fa h KX G hmg
    refine' K01.all_mk KX G hmg ?_ ?_ ?_ ?_ ?_ ?_ ?_ ?_ ?_ ?_ ?_ ?_ ?_ ?_ ?_ ?_ ?_ ?_ ?_ ?_ ?_ ?_ ?_ ?_ ?_ ?_ ?_ ?_ ?_ ?_ ?_ ?_ ?_ ?_ ?_ ?_ ?_ ?_ ?_ ?_ ?_ ?_ ?_ ?_ ?_ ?_ ?_ ?_ ?_ ?_ ?_ ?_ ?_ ?_ ?_ ?_ ?_ ?_ ?_ ?_ ?_ ?_ ?_ ?_ ?_ ?_ ?_ ?_ ?_ ?_ ?_ ?_ ?_ ?_ ?_
    all_goals try first
      | k_is
      | exact ⟨_, _, _, by k_is⟩
      | exact ⟨_, _, _, _, by k_is⟩
      | exact ⟨_, _, _, _, _, by k_is⟩
      | exact ⟨_, _, _, _, _, _, by k_is⟩
      | exact ⟨_, _, _, _, _, _, _, by k_is⟩
      | exact ⟨_, _, _, _, _, _, _, _, _, _, by k_is, by k_is, by k_is, by k_is⟩
      | exact ⟨_, _, _, _, _, _, _, _, _, _, by k_is, by k_is, by k_is, by k_is, by k_is⟩
      | exact ⟨_, _, _, _, _, _, _, _, _, _, by k_is, by k_is, by k_is, by k_is, by k_is, by k_is⟩
      | exact ⟨by k_is, by k_is, by k_is, by k_is, by k_is, by k_is⟩
    all_goals first | rfl | decide
