/- A map of numbers that says which there are: how it is read, gone through and asked. No conditions. -/
import Derived.Test.YtijiolkjnlgleaaWords
import Derived.Test.YtijiolkjnlgleaaMath
import Derived.Maps.OwnOps
import Derived.Maps.OwnSet
import Derived.Maps.RangeWalk
namespace Go.Proofs.Ytijiolkjnlgleaa
open Go.RowKit Go.Maps

abbrev key (x : Int) : Lit := .int .i64 x
abbrev yes : DataW Unit := .lit (.bool true)
/-- The map that says true of each number of l. -/
def mapOf (l : List Int) : DataW Unit := setOf yes (l.map key)

theorem keys_are (l : List Int) : ∀ x ∈ l.map key, WideAt.IsKeyLit x := by
  intro x hx
  obtain ⟨z, _, rfl⟩ := List.mem_map.1 hx
  trivial

theorem mapOf_nil : mapOf [] = .map [] := rfl
theorem mapOf_snoc (l : List Int) (x : Int) : mapOf (l ++ [x]) = (mapOf l).put (key x) yes := by
  unfold mapOf
  rw [List.map_append, List.map_singleton, setOf_snoc]

theorem same_key (x y : Int) : (key x).sameKey (key y) = (x == y) := by
  rw [Bool.eq_iff_iff]
  simp [Lit.sameKey]

theorem has_mapOf (l : List Int) (x : Int) : has (mapOf l) (key x) = l.contains x := by
  unfold mapOf
  rw [has_setOf yes (key x) _ (keys_are l), List.any_map, List.contains_eq_any_beq]
  congr 1
  funext y
  simp only [Function.comp]
  rw [same_key, BEq.comm]

theorem key_ne {x y : Int} (h : x ≠ y) : key x ≠ key y := fun e => h (by simpa using e)

theorem isMap_mapOf (l : List Int) : IsMap (mapOf l) := (tidy_setOf yes _ (keys_are l)).isMap

theorem at_mapOf (x : Int) : ∀ (l : List Int), (mapOf l).atKey (key x) (.lit (.bool false)) = .lit (.bool (l.contains x)) := by
  intro l
  have : ∀ r : List Int, (mapOf r.reverse).atKey (key x) (.lit (.bool false)) = .lit (.bool (r.reverse.contains x)) := by
    intro r
    induction r with
    | nil => rfl
    | cons y r ih =>
      rw [List.reverse_cons, mapOf_snoc]
      by_cases e : x = y
      · subst e
        rw [atKey_put_same (k := key x) (isMap_mapOf _) (show WideAt.IsKeyLit (key x) from trivial)]
        simp
      · rw [atKey_put_other (key_ne e), ih]
        simp [e]
  simpa using this l.reverse

/-- 'm[k]' of such a map. -/
theorem plainElem_bool_inv {P : Program} {e : TypeId} (he : P.underlying e = some .bool) {v : Value} {z : DataW Unit × List MemPlace} (h : plainElem P e v = some z) : ∃ x, v = .bool x ∧ z = (.lit (.bool x), []) := by
  unfold plainElem at h
  rw [he] at h
  cases v <;> simp at h
  exact ⟨_, rfl, h.symm⟩

theorem wpList_asked {P : Program} (w : World) {ops : Array Oper} {rest : List Oper} {o : Oper} {a : Act} {Q : Exit → Act → World → Prop}
    (hg : o.guard = none) (m x : Operand) (t : TypeId) (hop : o.op = Op.lookup t m x false)
    (k e : TypeId) (K : Keyed P k) (ht : P.underlying t = some (.map k e)) (he : P.underlying e = some .bool) (hz : (zeroValue e).run P w = .ok (.bool false) w) (b n : Nat) (l : List Int)
    (hm : a.eval m = .map (some b)) (hown : w.ownsMap P k (plainElem P e) b n (mapOf l)) (z : Int) (q : Bool) (hx : a.eval x = .int .i64 z) (hkey : keyOf P k (.int .i64 z) = some (key z)) (hq : l.contains z = q)
    (hK : wpList P ops Q rest (a.put o.dst (.bool q)) w) :
    wpList P ops Q (o :: rest) a w := by
  refine wpList_plain hg fun K' hK' => ?_
  obtain ⟨v, ps, hrun, hv⟩ := hown.lookup K ht hz (plainElem_bool he false) hkey
  rw [at_mapOf, hq] at hv
  obtain ⟨c, rfl, hc⟩ := plainElem_bool_inv he hv
  simp only [Prod.mk.injEq, DataW.lit.injEq, Lit.bool.injEq] at hc
  obtain ⟨rfl, _⟩ := hc
  unfold Oper.wp
  simp [execOp, hop, hm, hx, hrun, Result.andThen]
  exact hK' _ _ hK

/-- The step of a range over such a map. -/
theorem wpList_next_asked {P : Program} (w : World) {ops : Array Oper} {rest : List Oper} {o : Oper} {a : Act} {Q : Exit → Act → World → Prop} (hg : o.guard = none) (it : Operand) (hop : o.op = Op.next it false) (k e : TypeId) (K : Keyed P k) (hk : P.underlying k = some (.int .i64))
    (b r n : Nat) (D : DataW Unit) (left : Lit → Bool) (cnt : Nat) (hit : a.eval it = .pointer (some ⟨r, 0, none⟩)) (h : w.ranges P k (plainElem P e) b r n D left cnt)
    (hDone : cnt = 0 → (∀ kl, left kl = false) → wpList P ops Q rest (a.put o.dst (.tuple #[.bool false])) w)
    (hMore : ∀ (x : Int) (v : Value) (w' : World) (cnt' : Nat), (Lit.int .i64 x).wf = true → left (key x) = true → has D (key x) = true → w'.ranges P k (plainElem P e) b r n D (fun z => left z && !z.sameKey (key x)) cnt' → cnt' < cnt →
      w.grownBy w' (some r) → w'.heap.size = w.heap.size → (Instr.entry (.pointer (some ⟨r, 0, none⟩))).run P w' = .ok (.tuple #[.int .i64 x, v]) w' → wpList P ops Q rest (a.put o.dst (.tuple #[.bool true, .int .i64 x, v])) w') :
    wpList P ops Q (o :: rest) a w :=
  wpList_next_ranges w hg it hop k K (plainElem P e) (Value.int .i64) (fun v : Value => v) (fun key' kl hkey => by obtain ⟨x, rfl, _⟩ := Maps.keyOf_int_inv hk hkey; exact ⟨x, rfl⟩) (fun v y hv => ⟨v, rfl⟩)
    b r n D left cnt hit h hDone (fun x c kl y w' cnt' hkey hlk hv hat hrg hlt hgr hsz hen => by
      obtain ⟨x', ex, rfl, hwx⟩ := Maps.keyOf_int_inv hk hkey
      cases ex
      exact hMore x c w' cnt' hwx hlk (has_true_of_atKey hat) hrg hlt hgr hsz hen)

/-- What was met so far: each once; a number is among them just where the map has it and it is no longer to come. -/
def Met (l : List Int) (left : Lit → Bool) (ss : List Int) : Prop := ss.Nodup ∧ ∀ x, x ∈ ss ↔ (x ∈ l ∧ left (key x) = false)

theorem met_start (l : List Int) : Met l (has (mapOf l)) [] := ⟨List.nodup_nil, fun x => by
  rw [has_mapOf]
  by_cases h : x ∈ l <;> simp [h]⟩

theorem met_step {l ss : List Int} {left : Lit → Bool} (h : Met l left ss) {x : Int} (hlk : left (key x) = true) (hh : has (mapOf l) (key x) = true) : Met l (fun z => left z && !z.sameKey (key x)) (ss ++ [x]) := by
  rw [has_mapOf] at hh
  have hx : x ∈ l := by simpa using hh
  have hnew : x ∉ ss := fun hx => by have := ((h.2 x).1 hx).2; rw [hlk] at this; cases this
  refine ⟨List.nodup_append.2 ⟨h.1, by simp, fun a ha b hb => by simp at hb; subst hb; exact fun e => hnew (e ▸ ha)⟩, fun y => ?_⟩
  rw [List.mem_append, h.2 y, List.mem_singleton]
  by_cases hy : y = x
  · subst hy; simp [hx, same_key]
  · simp [hy, same_key]

theorem met_end {l ss : List Int} {left : Lit → Bool} (h : Met l left ss) (hl : ∀ kl, left kl = false) : ss.mergeSort (fun x y => decide (x ≤ y)) = sset l :=
  sorted_sset h.1 fun z => (h.2 z).trans (by simp [hl])

end Go.Proofs.Ytijiolkjnlgleaa
