/- Words for layer 10's proofs: a slice whose cells are numbers (pairs, edges, ends), read flat; one that is the call's own; how both are kept. No conditions. -/
import Derived.Below
import Derived.OwnWalk
import Derived.Laws.OwnMore
import Derived.Laws.AppendOwnNone
import Derived.Deep.AppendLies
import Derived.Deep.Draws
namespace Go.Proofs.YtiiadkjiofkonaaGreat
open Go.RowKit

theorem hide {p : Prop} (h : p) : Hid p := h

abbrev ints (zs : List Int) : List Value := zs.map (Value.int .i64)

/-- The slice at A, of n elements of s cells each, reads flat as zs and lies below block B (nothing is asked of the address of an empty one). -/
def Nums (w : World) (B s : Nat) (A : Option Addr) (n : Nat) (zs : List Int) : Prop :=
  zs.length = n * s ∧ (0 < n → ∃ b off, A = some ⟨b, off, none⟩ ∧ b < B ∧ ∀ i, i < n * s → w.cell? ⟨b, off + i, none⟩ = some (.int .i64 (zs.getD i 0)))

section
variable {w w' : World} {B B' s n : Nat} {A : Option Addr} {zs : List Int}

theorem Nums.nil : Nums w B s A 0 [] := ⟨by simp, fun h => absurd h (by omega)⟩

theorem Nums.below (h : Nums w B s A n zs) (hb : Below B' w w') (hB : B ≤ B') : Nums w' B s A n zs :=
  ⟨h.1, fun hn => by
    obtain ⟨b, off, e, hlt, hc⟩ := h.2 hn
    exact ⟨b, off, e, hlt, fun i hi => (hb.cell (p := ⟨b, off + i, none⟩) (Nat.lt_of_lt_of_le hlt hB)).trans (hc i hi)⟩⟩

theorem Nums.more (h : Nums w B s A n zs) (hB : B ≤ B') : Nums w B' s A n zs :=
  ⟨h.1, fun hn => by
    obtain ⟨b, off, e, hlt, hc⟩ := h.2 hn
    exact ⟨b, off, e, Nat.lt_of_lt_of_le hlt hB, hc⟩⟩

/-- One number of a slice of numbers. -/
theorem Nums.at_ {k : Nat} (h : Nums w B 1 A n zs) (hk : k < n) : ∃ b off, A = some ⟨b, off, none⟩ ∧ b < B ∧ w.cell? ⟨b, off + k, none⟩ = some (.int .i64 (zs.getD k 0)) := by
  obtain ⟨b, off, e, hlt, hc⟩ := h.2 (by omega)
  exact ⟨b, off, e, hlt, hc k (by omega)⟩

theorem Nums.cells {ad : Addr} (h : Nums w B s (some ad) n zs) : ∀ j u, (ints zs)[j]? = some u → w.cell? (ad.add j) = some u := by
  intro j u hu
  have hl := h.1
  have hj : j < n * s := by have := (List.getElem?_eq_some_iff.1 hu).1; simpa [hl] using this
  have hn : 0 < n := by rcases Nat.eq_zero_or_pos n with rfl | h0; · simp at hj
                        · exact h0
  obtain ⟨b, off, e, _, hc⟩ := h.2 hn
  have e' : ad = ⟨b, off, none⟩ := by simpa using e
  subst e'
  rw [Addr.add_lit, hc j hj, ← hu]
  simp [List.getD_eq_getElem?_getD, show j < zs.length by omega]

/-- A row of the call's own reads so. -/
theorem own_nums {base e : Nat} {c : Nat} (h : w.ownsRow base e s (.slice A n c) n (ints zs)) : Nums w w.heap.size s A n zs := by
  have hl : zs.length = n * s := by simpa using h.1
  refine ⟨hl, fun hn => ?_⟩
  rcases h.2 with ⟨_, h0⟩ | ⟨g, cap, cur, hv, hb, hg, hc, hm, hs, ht⟩
  · omega
  · have hA : A = some ⟨g, 0, none⟩ := by simp at hv; exact hv.1
    subst hA
    refine ⟨g, 0, rfl, (Array.getElem?_eq_some_iff.1 hg).1, fun i hi => ?_⟩
    rw [Nat.zero_add, cell_of_row w g i cur e (0, 0) hg]
    have e : (cur.toList.take (n * s))[i]? = (ints zs)[i]? := by rw [ht]
    rw [List.getElem?_take, if_pos hi] at e
    rw [← Array.getElem?_toList, e]
    simp [List.getD_eq_getElem?_getD, show i < zs.length by omega]

theorem own_form {base e : Nat} {v : Value} {xs : List Value} (h : w.ownsRow base e s v n xs) : ∃ A c, v = .slice A n c ∧ (A = none → c = 0) := by
  rcases h.2 with ⟨rfl, rfl⟩ | ⟨g, cap, cur, rfl, _⟩
  · exact ⟨none, 0, rfl, fun _ => rfl⟩
  · exact ⟨_, _, rfl, fun h => by cases h⟩

theorem own_below {base e : Nat} {v : Value} {xs : List Value} (h : w.ownsRow base e s v n xs) (hb : Below w.heap.size w w') : w'.ownsRow base e s v n xs := by
  refine ⟨h.1, ?_⟩
  rcases h.2 with h0 | ⟨g, cap, cur, hv, hB, hg, r⟩
  · exact .inl h0
  · exact .inr ⟨g, cap, cur, hv, hB, (hb.block g (Array.getElem?_eq_some_iff.1 hg).1).trans hg, r⟩

end

/-- 'append' of a slice that reads as zs onto a row of the call's own. -/
theorem wpList_append_nums {P : Program} (w : World) {ops : Array Oper} {rest : List Oper} {o : Oper} {a : Act} {Q : Exit → Act → World → Prop} (hgd : o.guard = none) (x y : Operand) (t : TypeId)
    (ho : o.op = .call { callee := .builtin .append, args := #[x, y], argTypes := #[t, t] })
    (base : Nat) (e : TypeId) (i : TypeInfo) (z : Value) (size bytes : Nat) (ht : P.underlying t = some (.slice e)) (hi : P.info? e = some i) (hz : i.zero = some z) (hsize : i.size = size) (hby : i.bytes = bytes) (hzs : z.cells.size = size) (hsz : 0 < size)
    (v : Value) (n : Nat) (ys : List Int) (hs : a.eval x = v) (hown : w.ownsRow base e size v n (ints ys)) (A : Option Addr) (m c B : Nat) (zs : List Int) (hx : a.eval y = .slice A m c) (hc : A = none → c = 0) (hr : Nums w B size A m zs)
    (h63 : n + m ≤ maxLen) (hbytes : (n + m) * bytes ≤ 140737488355328) (hbase : base ≤ w.heap.size)
    (h : ∀ v' w', w'.ownsRow base e size v' (n + m) (ints (ys ++ zs)) → Below base w w' → wpList P ops Q rest (a.put o.dst v') w') : wpList P ops Q (o :: rest) a w := by
  rcases A with _ | ad
  · obtain rfl := hc rfl
    have hn0 : m = 0 := by
      rcases Nat.eq_zero_or_pos m with h0 | h0
      · exact h0
      · obtain ⟨_, _, e, _⟩ := hr.2 h0
        cases e
    subst hn0
    have hzs0 : zs = [] := by have := hr.1; simpa using this
    subst hzs0
    refine wpList_append_own_none hgd x y t ho base e i size ht hi v n (ints ys) hs hown hx ?_
    exact h v w (by simpa using hown) (Below.refl _ _)
  · refine wpList_append_own w hgd x y t ho base e i z size bytes ht hi hz hsize hby hzs hsz v n (ints ys) hs hown ad m c (ints zs) hx (by simpa using hr.1) hr.cells (ints_oneCell _ _) h63 hbytes hbase ?_
    intro v' w' hown' hg _
    refine h v' w' (by simpa using hown') ((Below.refl _ _).grown hg hbase fun j ej => (hown.lt j ej).1)

/-- What a call tells that tells one value, and writes nothing that lay there. -/
def Drew (v : Value) (w : World) (e : Ending) (w' : World) : Prop := e = .returned v ∧ Below w.heap.size w w'
/-- .. one new slice, of elements of s cells of type t, that reads flat as zs. -/
def Told (w : World) (t s : Nat) (zs : List Int) (e : Ending) (w' : World) : Prop :=
  ∃ A n c, e = .returned (.slice A n c) ∧ (A = none → c = 0) ∧ w'.ownsRow w.heap.size t s (.slice A n c) n (ints zs) ∧ Below w.heap.size w w'

theorem Below.drewN {B : Nat} {a w : World} (h : Below B a w) (n : Nat) : Below B a (w.drewN n) := ⟨h.os, h.tape, h.output, h.size, h.block⟩


section
variable {w w' u u' : World} {A : Option Addr} {n c base base' e s : Nat} {zs : List Int} {v : Value} {xs : List Value}
theorem Nums.step (h : Nums u u.heap.size s A n zs) (hb : Below u.heap.size u u') : Nums u' u'.heap.size s A n zs := (h.below hb (Nat.le_refl _)).more hb.size
theorem own_less (h : w.ownsRow base e s v n xs) (hb : base' ≤ base) : w.ownsRow base' e s v n xs := by
  refine ⟨h.1, ?_⟩
  rcases h.2 with h0 | ⟨g, cap, cur, hv, hB, r⟩
  · exact .inl h0
  · exact .inr ⟨g, cap, cur, hv, Nat.le_trans hb hB, r⟩
end
end Go.Proofs.YtiiadkjiofkonaaGreat
