/- What stays of the nodes of a graph that is the call's own: their properties are shared. -/
import Derived.Test.YtiiadkjiofkonaaGreatCSem
import Derived.WalkKit
import Derived.Below
import Derived.Deep.QuietTactic
import Derived.BigQuiet
import Derived.Shelf.Abstract
namespace Go.Proofs.YtiiadkjiofkonaaGreat
open Go.RowKit
set_option linter.unusedVariables false

/-- One node of a graph that is the call's own. -/
theorem Own.at_ {u : World} {B : Nat} {v : Gv} {G : GL} {L : List (Int × Sl)} (o : Own u B v G L) {k : Nat} (hk : k < v.N.n) : ∃ g, v.N.A = some ⟨g, 0, none⟩ ∧ B ≤ g ∧ g < u.heap.size ∧ u.cell? ⟨g, k * 2, none⟩ = some (.int .i64 (G.N.getD k (0, [])).1) ∧ u.cell? ⟨g, k * 2 + 1, none⟩ = some (.slice (L.getD k (0, noSl)).2.A (L.getD k (0, noSl)).2.n (L.getD k (0, noSl)).2.c) := by
  have hm := o.many
  rcases o.rows.2 with ⟨_, h0⟩ | ⟨g, cap, cur, hv, hB, hg, _, _, _, ht⟩
  · omega
  · have hA : v.N.A = some ⟨g, 0, none⟩ := by injection hv
    have hL : k < L.length := by rw [o.len]; omega
    obtain ⟨e1, e2⟩ := cellsN_at L k hL
    have hat : ∀ (j : Nat) (x : Value), j < v.N.n * 2 → (cellsN L)[j]? = some x → u.cell? ⟨g, j, none⟩ = some x := fun j x hj hx => by
      rw [cell_of_row u g j cur 61 (0, 0) hg]
      have h := congrArg (fun l : List Value => l[j]?) ht
      simp only [List.getElem?_take, hj, if_true, Array.getElem?_toList] at h
      rw [h, hx]
    exact ⟨g, hA, hB, (Array.getElem?_eq_some_iff.1 hg).1, by rw [hat _ _ (by omega) e1, o.ids k (by omega)], hat _ _ (by omega) e2⟩
/-- Headers L lead to the properties of M, in rows from block B on. -/
def Lst (w : World) (B : Nat) (L : List (Int × Sl)) (M : List Nd) : Prop := L.length = M.length ∧ ∀ i, i < M.length → (L.getD i (0, noSl)).1 = (M.getD i (0, [])).1 ∧ w.ownsRow B 83 2 (.slice (L.getD i (0, noSl)).2.A (L.getD i (0, noSl)).2.n (L.getD i (0, noSl)).2.c) (L.getD i (0, noSl)).2.n (ints (flat2 (M.getD i (0, [])).2))
theorem Lst.nil (w : World) (B : Nat) : Lst w B [] [] := ⟨rfl, fun i hi => by cases hi⟩
theorem Lst.push {w : World} {B : Nat} {L : List (Int × Sl)} {M : List Nd} {z : Int} {h : Sl} {l : List Pr} (p : Lst w B L M) (hp : w.ownsRow B 83 2 (.slice h.A h.n h.c) h.n (ints (flat2 l))) : Lst w B (L ++ [(z, h)]) (M ++ [(z, l)]) := by
  refine ⟨by simp [p.1], fun i hi => ?_⟩
  simp only [List.length_append, List.length_cons, List.length_nil] at hi
  by_cases e : i = M.length
  · subst e
    have e1 : (L ++ [(z, h)]).getD M.length (0, noSl) = (z, h) := by simp [List.getD_eq_getElem?_getD, ← p.1]
    have e2 : (M ++ [(z, l)]).getD M.length (0, []) = (z, l) := by simp [List.getD_eq_getElem?_getD]
    rw [e1, e2]
    exact ⟨rfl, hp⟩
  · have hi' : i < M.length := by omega
    have e1 : (L ++ [(z, h)]).getD i (0, noSl) = L.getD i (0, noSl) := by simp [List.getD_eq_getElem?_getD, List.getElem?_append, p.1, hi']
    have e2 : (M ++ [(z, l)]).getD i (0, []) = M.getD i (0, []) := by simp [List.getD_eq_getElem?_getD, List.getElem?_append, hi']
    rw [e1, e2]
    exact p.2 i hi'
theorem filtN_no {w : World} {B : Nat} {L : List (Int × Sl)} {N : List Nd} {p : Int → Bool} {k : Nat} {z : Int} (hk : k < N.length) (hz : (N.getD k (0, [])).1 = z) (hq : p z = false) (h : Lst w B L ((N.take k).filter fun d => p d.1)) : Hid (Lst w B L ((N.take (k + 1)).filter fun d => p d.1)) := by
  show Lst _ _ _ _
  rw [getD_take (d := (0, [])) hk, List.filter_append, List.filter_cons]
  simp only [hz, hq]
  simpa using h
theorem filtN_yes {w : World} {B : Nat} {L : List (Int × Sl)} {N : List Nd} {p : Int → Bool} {k : Nat} {z : Int} {h0 : Sl} (hk : k < N.length) (hz : (N.getD k (0, [])).1 = z) (hq : p z = true) (h : Lst w B L ((N.take k).filter fun d => p d.1)) (hp : w.ownsRow B 83 2 (.slice h0.A h0.n h0.c) h0.n (ints (flat2 (N.getD k (0, [])).2))) : Hid (Lst w B (L ++ [(z, h0)]) ((N.take (k + 1)).filter fun d => p d.1)) := by
  show Lst _ _ _ _
  have e : (N.take (k + 1)).filter (fun d => p d.1) = ((N.take k).filter fun d => p d.1) ++ [(z, (N.getD k (0, [])).2)] := by
    rw [getD_take (d := (0, [])) hk, List.filter_append, List.filter_cons]
    simp only [hz, hq]
    simp [← hz]
  rw [e]
  exact h.push hp
/-- A graph that is the call's own, its nodes another row. -/
theorem Own.other {w u : World} {B m c : Nat} {A : Option Addr} {v : Gv} {G : GL} {L0 L : List (Int × Sl)} {M : List Nd} (O : Own w B v G L0) (hB : B ≤ w.heap.size) (p : Lst w B L M) (o : u.ownsRow w.heap.size 61 2 (.slice A m c) m (cellsN L)) (b : Below w.heap.size w u) : Own u B ⟨⟨A, m, c⟩, v.E, v.x, v.y⟩ ⟨M, G.E, G.x, G.y⟩ L :=
  ⟨own_less o hB, p.1, fun i hi => (p.2 i hi).1, fun i hi => own_below (p.2 i hi).2 b, own_below O.edg b, O.x, O.y⟩

set_option maxRecDepth 100000 in
set_option maxHeartbeats 2000000 in
theorem stayN_any (g B0 : Nat) (p : Int → Bool) (v : Gv) (G : GL) (L0 : List (Int × Sl)) (B : Nat) (w : World) (hO : Own w B v G L0) (hB : B ≤ w.heap.size) (hn : v.N.n ≤ 1000)
    (eg : ∀ args w, (callFunc g args).run Tryz.prog w = .ok (.enter g args) w) (hp : Hid (∀ u a A n c q, Below w.heap.size w u → Hid (p a = q) → Calls Tryz.prog g #[.agg #[.int .i64 a, .slice A n c], .pointer (some ⟨B0, 0, none⟩)] u (Drew (.bool q) u))) :
    Calls Tryz.prog 108 #[.slice v.N.A v.N.n v.N.c, .func (.func g) #[] #[.pointer (some ⟨B0, 0, none⟩)]] w fun e w' => ∃ (s : Sl), e = .returned (.slice s.A s.n s.c) ∧ ∃ L, Hid (Own w' B ⟨s, v.E, v.x, v.y⟩ ⟨G.N.filter fun d => p d.1, G.E, G.x, G.y⟩ L) ∧ Hid (Below w.heap.size w w') := by
  obtain ⟨⟨A, n, c⟩, vE, vx, vy⟩ := v
  dsimp only at hn ⊢
  have HO := hide hO
  have HL : Hid (n = G.N.length) := hO.many
  clear hO
  obtain ⟨i0, hi0, hz0, hz1, hz2⟩ := info_parts info58
  have H1 := hide hi0
  have H2 := hide hz0
  have H3 := hide hz1
  have H4 := hide hz2
  clear hi0 hz0 hz1 hz2
  go_enter Tryz.func108, Tryz.ntmps108
  go_wp2
  go_loopw [5, 10] (fun l i wr => ∃ (k m : Nat) (A' : Option Addr) (c' : Nat) (L : List (Int × Sl)), k ≤ n ∧ i = .int .i64 k ∧ l = .slice A' m c' ∧ m ≤ k ∧ Hid (wr.ownsRow w.heap.size 61 2 (.slice A' m c') m (cellsN L)) ∧ Hid (Lst w B L ((G.N.take k).filter fun d => p d.1)) ∧ Hid (Below w.heap.size w wr))
    (fun _ i _ => n - (intOf i).toNat)
  case atStart => exact ⟨0, 0, none, 0, [], by omega, rfl, rfl, by omega, World.ownsRow_nil _ _ _ _, Lst.nil _ _, Below.refl _ _⟩
  case round =>
    obtain ⟨k, m, A', c', L, hk, rfl, rfl, hm, HR, HT, HB⟩ := hrel
    by_cases hlt : k < n
    · obtain ⟨b0, e0, -, hb0, c0, c1⟩ := HO.out.at_ (k := k) hlt
      dsimp only at e0
      subst e0
      have HP := hide (HO.out.prs k (by have := HL.out; omega))
      have HK : Hid (k < G.N.length) := by have := HL.out; show _ < _; omega
      obtain ⟨z, HZ⟩ : ∃ z, Hid ((G.N.getD k (0, [])).1 = z) := ⟨_, rfl⟩
      rw [HZ.out] at c0
      obtain ⟨⟨hA, hh, hcc⟩, hx⟩ : ∃ x, (L0.getD k (0, noSl)).2 = x := ⟨_, rfl⟩
      rw [hx] at c1 HP
      dsimp only at c1 HP
      have d0 := (HB.out.cell (p := ⟨b0, _, none⟩) hb0).trans c0
      have d1 := (HB.out.cell (p := ⟨b0, _, none⟩) hb0).trans c1
      clear c0 c1 hx
      obtain ⟨q, HQ⟩ : ∃ q, Hid (p z = q) := ⟨_, rfl⟩
      have BB := hide (HB.out.alloc HB.out.size (.cells #[.int .i64 z, .slice hA hh hcc] 61))
      go_wp2_with fail
      refine (hp.out _ z hA hh hcc q BB.out HQ).mono ?_
      rintro e u1 ⟨rfl, hu1⟩
      obtain ⟨HR1, HB1⟩ := round_call HR.out HB.out hu1
      have BX := box_cells hu1
      have b0 := BX.1
      have b9 := BX.2
      clear hu1 BX
      cases q
      · go_wp2
        go_roundw
        case rel => exact ⟨k + 1, m, A', c', L, by omega, by go_num, rfl, by omega, HR1, filtN_no HK.out HZ.out HQ.out HT.out, HB1⟩
        case measure => simp [intOf]; omega
      · go_wp2_with (at_builtin; refine wpList_append_own _ rfl _ _ 24 rfl w.heap.size 61 i0 (.agg #[.int .i64 0, .slice none 0 0]) 2 32 Tryz.underlying24 H1.out H2.out H3.out H4.out rfl (by decide) _ m _ rfl (HR1.out.alloc _) ⟨u1.heap.size, 0, none⟩ 1 1 [.int .i64 z, .slice hA hh hcc] rfl rfl (cells_new _ _ _ _ rfl) (node_one z hA hh hcc) (by simp only [maxLen]; omega) (by omega) (by have := HB1.out.size; simp; omega) ?_; intro v' w2 hown hg _; obtain ⟨A2, c2, rfl, HA2, HR2, HB2⟩ := round_append HR1.out HB1.out hown hg; clear hown hg)
        have HR3 : Hid (w2.ownsRow w.heap.size 61 2 (.slice A2 (m + 1) c2) (m + 1) (cellsN (L ++ [(z, ⟨hA, hh, hcc⟩)]))) := by
          have e : cellsN (L ++ [(z, ⟨hA, hh, hcc⟩)]) = cellsN L ++ [.int .i64 z, .slice hA hh hcc] := by rw [cellsN_append]; rfl
          show World.ownsRow _ _ _ _ _ _ _
          rw [e]
          exact HR2.out
        go_roundw
        case rel => exact ⟨k + 1, m + 1, A2, c2, _, by omega, by go_num, rfl, by omega, HR3, filtN_yes HK.out HZ.out HQ.out HT.out HP.out, HB2⟩
        case measure => simp [intOf]; omega
    · go_wp2
      go_ret
      have HT' := HT.out
      rw [List.take_of_length_le (by have := HL.out; omega)] at HT'
      exact ⟨⟨A', m, c'⟩, rfl, L, HO.out.other hB HT' HR.out HB.out, HB⟩

set_option maxRecDepth 100000 in
set_option maxHeartbeats 2000000 in
theorem without_any (v : Gv) (G : GL) (L0 : List (Int × Sl)) (B : Nat) (x : Int) (w : World) (hO : Own w B v G L0) (hB : B ≤ w.heap.size) (hn : v.N.n ≤ 1000) :
    Calls Tryz.prog 98 #[.slice v.N.A v.N.n v.N.c, .int .i64 x] w fun e w' => ∃ (s : Sl), e = .returned (.slice s.A s.n s.c) ∧ ∃ L, Hid (Own w' B ⟨s, v.E, v.x, v.y⟩ ⟨G.N.filter fun d => d.1 != x, G.E, G.x, G.y⟩ L) ∧ Hid (Below w.heap.size w w') := by
  obtain ⟨⟨A, n, c⟩, vE, vx, vy⟩ := v
  dsimp only at hn ⊢
  have HO := hide hO
  clear hO
  have B1 := hide ((Below.refl w.heap.size w).alloc (Nat.le_refl _) (.cells #[.int .i64 x] 3))
  have hmf : ∀ (fn : Fn) (first cap : Array Value) (w : World), (Instr.makeFunc fn first cap).run Tryz.prog w = .ok (.func fn first cap) w := fun _ _ _ _ => rfl
  have eg : ∀ args w, (callFunc 109 args).run Tryz.prog w = .ok (.enter 109 args) w := enters_of Tryz.func109 (by kernel_rfl) rfl
  have HC := hide (stayN_any 109 w.heap.size (fun z => z != x) ⟨⟨A, n, c⟩, vE, vx, vy⟩ G L0 B (w.alloc (.cells #[.int .i64 x] 3)) (HO.out.step B1.out) (by simp; omega) hn eg (fun u a A n c q hb hq => withoutP_any a A n c x q w.heap.size u (Nat.lt_of_lt_of_le (by simp) hb.size) ((hb.cell (p := ⟨w.heap.size, 0, none⟩) (by simp)).trans (cell_of_row _ _ 0 _ 3 (0, 0) (heap_alloc_new w _))) hq))
  clear eg
  go_enter Tryz.func98, Tryz.ntmps98
  go_wp2_with fail
  refine HC.out.mono ?_
  rintro e u1 ⟨s, rfl, L, HS, HB⟩
  have HB2 := hide (B1.out.trans (HB.out.mono B1.out.size))
  go_wp2
  go_ret
  exact ⟨s, rfl, L, HS, HB2⟩

end Go.Proofs.YtiiadkjiofkonaaGreat
