/- What Write tells, for every list of operations, and what the document's Ops tells, for every list of numbers. -/
import Derived.Test.YtpldcmhbbhjhgaaWalksB
namespace Go.Proofs.Ytpldcmhbbhjhgaa
open Go.RowKit
set_option linter.unusedVariables false

theorem Try.info3 : (Try.prog.info? 3).map (fun i => (i.zero, i.size, i.bytes)) = some (some (.int .i64 0), 1, 8) := by kernel_rfl
theorem Try.info23 : (Try.prog.info? 23).map (fun i => (i.zero, i.size, i.bytes)) = some (some (.agg zeros5), 5, 40) := by kernel_rfl

/-- The cells of a block that was just laid. -/
theorem cells_new (w : World) (cs : List Value) (t g : Nat) (hg : g = w.heap.size) : ∀ j u, cs[j]? = some u → (w.alloc (.cells cs.toArray t)).cell? ((⟨g, 0, none⟩ : Addr).add j) = some u := by
  intro j u hu
  subst hg
  rw [Addr.add_lit, Nat.zero_add, cell_of_row _ w.heap.size j _ t (0, 0) (heap_alloc_new w _)]
  simpa using hu

theorem five_cells (p q r s t : Int) : ∀ u ∈ [Value.int .i64 p, .int .i64 q, .int .i64 r, .int .i64 s, .int .i64 t], u.oneCell' = true := ints_oneCell .i64 [p, q, r, s, t]

/-- What a round's call leaves: the row as it was, and nothing old is written. -/
theorem round_call {w wr u1 : World} {e s n : Nat} {v : Value} {xs : List Value} {o : Obj} (h : wr.ownsRow w.heap.size e s v n xs) (hb : Below w.heap.size w wr) (hu : Below (wr.alloc o).heap.size (wr.alloc o) u1) :
    Hid (u1.ownsRow w.heap.size e s v n xs) ∧ Hid (Below w.heap.size w u1) :=
  ⟨own_below (h.alloc o) hu, (hb.alloc hb.size o).trans (hu.mono (by have := hb.size; simp; omega))⟩

theorem round_call0 {w wr u1 : World} {e s n : Nat} {v : Value} {xs : List Value} (h : wr.ownsRow w.heap.size e s v n xs) (hb : Below w.heap.size w wr) (hu : Below wr.heap.size wr u1) :
    Hid (u1.ownsRow w.heap.size e s v n xs) ∧ Hid (Below w.heap.size w u1) :=
  ⟨own_below h hu, hb.trans (hu.mono hb.size)⟩

/-- What an append in a round leaves. -/
theorem round_append {w u1 w2 : World} {e s n m : Nat} {v v' : Value} {xs ys : List Value} {o o' : Obj} (h : u1.ownsRow w.heap.size e s v n xs) (hb : Below w.heap.size w u1)
    (hown : w2.ownsRow w.heap.size e s v' (n + m) ys) (hg : ((u1.alloc o).alloc o').grownBy w2 v.ownBlock) :
    ∃ A c, v' = .slice A (n + m) c ∧ Hid (A = none → c = 0) ∧ Hid (w2.ownsRow w.heap.size e s (.slice A (n + m) c) (n + m) ys) ∧ Hid (Below w.heap.size w w2) := by
  obtain ⟨A, c, rfl, hA⟩ := own_form hown
  exact ⟨A, c, rfl, hA, hown, ((hb.alloc hb.size o).alloc (by have := hb.size; simp; omega) o').grown hg (by have := hb.size; simp; omega) fun j ej => (h.lt j ej).1⟩

theorem flat_next {zs : List Int} {k : Nat} {p q r s t : Int} {ok : Bool} (h : k * 5 + 5 ≤ zs.length) (hp : Pl (zs.getD (k * 5) 0) (zs.getD (k * 5 + 1) 0) (zs.getD (k * 5 + 2) 0) (zs.getD (k * 5 + 3) 0) (zs.getD (k * 5 + 4) 0) p q r s t ok) :
    Hid (flat (zs.take ((k + 1) * 5)) = flat (zs.take (k * 5)) ++ (if ok then [p, q, r, s, t] else [])) := by
  cases ok
  · exact (flat_no h hp).trans (by simp)
  · exact flat_yes h hp

theorem own_none (w : World) (B e s : Nat) (zs : List Int) : Hid (w.ownsRow B e s (.slice none 0 0) 0 (ints (flat (zs.take (0 * 5))))) := by
  show World.ownsRow _ _ _ _ _ _ _
  simpa [flat] using World.ownsRow_nil w B e s
theorem next_no {u : World} {B e sz k m : Nat} {v : Value} {zs : List Int} {p q r s t : Int} (HF : Hid (flat (zs.take ((k + 1) * 5)) = flat (zs.take (k * 5)) ++ (if false = true then [p, q, r, s, t] else [])))
    (h : u.ownsRow B e sz v m (ints (flat (zs.take (k * 5))))) : Hid (u.ownsRow B e sz v m (ints (flat (zs.take ((k + 1) * 5))))) := by
  show World.ownsRow _ _ _ _ _ _ _
  rw [HF.out]
  simpa using h
theorem next_yes {u : World} {B e sz k m : Nat} {v : Value} {zs : List Int} {p q r s t : Int} (HF : Hid (flat (zs.take ((k + 1) * 5)) = flat (zs.take (k * 5)) ++ (if true = true then [p, q, r, s, t] else [])))
    (h : u.ownsRow B e sz v m (ints (flat (zs.take (k * 5))) ++ [.int .i64 p, .int .i64 q, .int .i64 r, .int .i64 s, .int .i64 t])) : Hid (u.ownsRow B e sz v m (ints (flat (zs.take ((k + 1) * 5))))) := by
  show World.ownsRow _ _ _ _ _ _ _
  rw [HF.out]
  simpa using h

set_option maxHeartbeats 2000000 in
theorem write_any (A : Option Addr) (n c B : Nat) (zs : List Int) (w : World) (h : Nums w B 5 A n zs) (hB : B ≤ w.heap.size) (hn : n ≤ 65536) :
    Calls Try.prog 18 #[.slice A n c] w (Told w 3 1 (flat zs)) := by
  obtain ⟨i0, hi0, hz0, hz1, hz2⟩ := info_parts Try.info3
  have H1 := hide hi0
  have H2 := hide hz0
  have H3 := hide hz1
  have H4 := hide hz2
  clear hi0 hz0 hz1 hz2
  have HL := hide h.1
  have HN := hide h
  clear h
  go_enter Try.func18, Try.ntmps18
  go_wp2
  go_loopw [3, 10] (fun l i wr => ∃ (k m : Nat) (A' : Option Addr) (c' : Nat), k ≤ n ∧ i = .int .i64 k ∧ l = .slice A' m c' ∧ m ≤ k * 5 ∧ Hid (A' = none → c' = 0) ∧ Hid (wr.ownsRow w.heap.size 3 1 (.slice A' m c') m (ints (flat (zs.take (k * 5))))) ∧ Hid (Below w.heap.size w wr))
    (fun _ i _ => n - (intOf i).toNat)
  case atStart => exact ⟨0, 0, none, 0, by omega, rfl, rfl, by omega, fun _ => rfl, own_none _ _ _ _ _, Below.refl _ _⟩
  case round =>
    obtain ⟨k, m, A', c', hk, rfl, rfl, hm, HA, HR, HB⟩ := hrel
    by_cases hlt : k < n
    · have hlen : k * 5 + 5 ≤ zs.length := by have := HL.out; omega
      obtain ⟨b, off, rfl, hb, e0, e1, e2, e3, e4⟩ := (HN.out.below HB.out hB).five hlt
      obtain ⟨p, q, r, s, t, ok, hp⟩ := Pl.some_ (zs.getD (k * 5) 0) (zs.getD (k * 5 + 1) 0) (zs.getD (k * 5 + 2) 0) (zs.getD (k * 5 + 3) 0) (zs.getD (k * 5 + 4) 0)
      have HF := flat_next hlen hp
      have HP := hide hp
      clear hp hlen
      generalize zs.getD (k * 5) 0 = z0 at e0 HP
      generalize zs.getD (k * 5 + 1) 0 = z1 at e1 HP
      generalize zs.getD (k * 5 + 2) 0 = z2 at e2 HP
      generalize zs.getD (k * 5 + 3) 0 = z3 at e3 HP
      generalize zs.getD (k * 5 + 4) 0 = z4 at e4 HP
      go_wp2_with fail
      refine (plain_any _ _ _ _ _ _ _ _ _ _ _ _ HP).mono ?_
      rintro e u1 ⟨rfl, hu1⟩
      obtain ⟨HR1, HB1⟩ := round_call HR.out HB.out hu1
      clear hu1 e0 e1 e2 e3 e4
      cases ok
      · go_wp2
        go_roundw
        case rel => exact ⟨k + 1, m, A', c', by omega, by go_num, rfl, by omega, HA, next_no HF (HR1.out.alloc _), HB1.out.alloc HB1.out.size _⟩
        case measure => simp [intOf]; omega
      · go_wp2_with (at_builtin; refine wpList_append_own _ rfl _ _ 24 rfl w.heap.size 3 i0 (.int .i64 0) 1 8 Try.underlying24 H1.out H2.out H3.out H4.out rfl (by decide) _ m _ rfl ((HR1.out.alloc _).alloc _) ⟨u1.heap.size + 1, 0, none⟩ 5 5 [.int .i64 p, .int .i64 q, .int .i64 r, .int .i64 s, .int .i64 t] rfl rfl (cells_new _ _ _ _ (by simp)) (five_cells _ _ _ _ _) (by simp only [maxLen]; omega) (by omega) (by have := HB1.out.size; simp; omega) ?_; intro v' w2 hown hg _; obtain ⟨A2, c2, rfl, HA2, HR2, HB2⟩ := round_append HR1.out HB1.out hown hg; clear hown hg)
        go_roundw
        case rel => exact ⟨k + 1, m + 5, A2, c2, by omega, by go_num, rfl, by omega, HA2, next_yes HF HR2.out, HB2.out⟩
        case measure => simp [intOf]; omega
    · obtain rfl : k = n := by omega
      go_wp2
      go_ret
      refine ⟨A', m, c', rfl, HA.out, ?_, HB.out⟩
      have := HR.out
      rwa [List.take_of_length_le (by have := HL.out; omega)] at this

set_option maxHeartbeats 2000000 in
theorem rwrite_any (A : Option Addr) (n c B : Nat) (zs : List Int) (w : World) (h : Nums w B 5 A n zs) (hB : B ≤ w.heap.size) (hn : n ≤ 65536) :
    Calls Try.prog 19 #[.slice A n c] w (Told w 3 1 (flat zs)) := by
  obtain ⟨i0, hi0, hz0, hz1, hz2⟩ := info_parts Try.info3
  have H1 := hide hi0
  have H2 := hide hz0
  have H3 := hide hz1
  have H4 := hide hz2
  clear hi0 hz0 hz1 hz2
  have HL := hide h.1
  have HN := hide h
  clear h
  go_enter Try.func19, Try.ntmps19
  go_wp2
  go_loopw [3, 10] (fun l i wr => ∃ (k m : Nat) (A' : Option Addr) (c' : Nat), k ≤ n ∧ i = .int .i64 k ∧ l = .slice A' m c' ∧ m ≤ k * 5 ∧ Hid (A' = none → c' = 0) ∧ Hid (wr.ownsRow w.heap.size 3 1 (.slice A' m c') m (ints (flat (zs.take (k * 5))))) ∧ Hid (Below w.heap.size w wr))
    (fun _ i _ => n - (intOf i).toNat)
  case atStart => exact ⟨0, 0, none, 0, by omega, rfl, rfl, by omega, fun _ => rfl, own_none _ _ _ _ _, Below.refl _ _⟩
  case round =>
    obtain ⟨k, m, A', c', hk, rfl, rfl, hm, HA, HR, HB⟩ := hrel
    by_cases hlt : k < n
    · have hlen : k * 5 + 5 ≤ zs.length := by have := HL.out; omega
      obtain ⟨b, off, rfl, hb, e0, e1, e2, e3, e4⟩ := (HN.out.below HB.out hB).five hlt
      obtain ⟨p, q, r, s, t, ok, hp⟩ := Pl.some_ (zs.getD (k * 5) 0) (zs.getD (k * 5 + 1) 0) (zs.getD (k * 5 + 2) 0) (zs.getD (k * 5 + 3) 0) (zs.getD (k * 5 + 4) 0)
      have HF := flat_next hlen hp
      have HP := hide hp
      clear hp hlen
      generalize zs.getD (k * 5) 0 = z0 at e0 HP
      generalize zs.getD (k * 5 + 1) 0 = z1 at e1 HP
      generalize zs.getD (k * 5 + 2) 0 = z2 at e2 HP
      generalize zs.getD (k * 5 + 3) 0 = z3 at e3 HP
      generalize zs.getD (k * 5 + 4) 0 = z4 at e4 HP
      go_wp2_with fail
      refine (rplain_any _ _ _ _ _ _ _ _ _ _ _ _ HP).mono ?_
      rintro e u1 ⟨rfl, hu1⟩
      obtain ⟨HR1, HB1⟩ := round_call HR.out HB.out hu1
      clear hu1 e0 e1 e2 e3 e4
      cases ok
      · go_wp2
        go_roundw
        case rel => exact ⟨k + 1, m, A', c', by omega, by go_num, rfl, by omega, HA, next_no HF (HR1.out.alloc _), HB1.out.alloc HB1.out.size _⟩
        case measure => simp [intOf]; omega
      · go_wp2_with (at_builtin; refine wpList_append_own _ rfl _ _ 24 rfl w.heap.size 3 i0 (.int .i64 0) 1 8 Try.underlying24 H1.out H2.out H3.out H4.out rfl (by decide) _ m _ rfl ((HR1.out.alloc _).alloc _) ⟨u1.heap.size + 1, 0, none⟩ 5 5 [.int .i64 p, .int .i64 q, .int .i64 r, .int .i64 s, .int .i64 t] rfl rfl (cells_new _ _ _ _ (by simp)) (five_cells _ _ _ _ _) (by simp only [maxLen]; omega) (by omega) (by have := HB1.out.size; simp; omega) ?_; intro v' w2 hown hg _; obtain ⟨A2, c2, rfl, HA2, HR2, HB2⟩ := round_append HR1.out HB1.out hown hg; clear hown hg)
        go_roundw
        case rel => exact ⟨k + 1, m + 5, A2, c2, by omega, by go_num, rfl, by omega, HA2, next_yes HF HR2.out, HB2.out⟩
        case measure => simp [intOf]; omega
    · obtain rfl : k = n := by omega
      go_wp2
      go_ret
      refine ⟨A', m, c', rfl, HA.out, ?_, HB.out⟩
      have := HR.out
      rwa [List.take_of_length_le (by have := HL.out; omega)] at this

set_option maxHeartbeats 2000000 in
theorem rops_any (A : Option Addr) (n c B : Nat) (zs : List Int) (w : World) (h : Nums w B 1 A n zs) (hc : n ≤ c) (hB : B ≤ w.heap.size) (hn : n ≤ 65536) :
    Calls Try.prog 16 #[.slice A n c] w (Told w 23 5 (flat zs)) := by
  obtain ⟨i0, hi0, hz0, hz1, hz2⟩ := info_parts Try.info23
  have H1 := hide hi0
  have H2 := hide hz0
  have H3 := hide hz1
  have H4 := hide hz2
  clear hi0 hz0 hz1 hz2
  have HL := hide h.1
  have HN := hide h
  clear h
  go_enter Try.func16, Try.ntmps16
  go_wp2
  go_loopw [3, 4] (fun l i wr => ∃ (k m : Nat) (A' : Option Addr) (c' : Nat), k * 5 ≤ n ∧ i = .int .i64 ((k * 5 : Nat) : Int) ∧ l = .slice A' m c' ∧ m ≤ k ∧ Hid (A' = none → c' = 0) ∧ Hid (wr.ownsRow w.heap.size 23 5 (.slice A' m c') m (ints (flat (zs.take (k * 5))))) ∧ Hid (Below w.heap.size w wr))
    (fun _ i _ => n - (intOf i).toNat)
  case atStart => exact ⟨0, 0, none, 0, by omega, rfl, rfl, by omega, fun _ => rfl, own_none _ _ _ _ _, Below.refl _ _⟩
  case round =>
    obtain ⟨k, m, A', c', hk, rfl, rfl, hm, HA, HR, HB⟩ := hrel
    by_cases hlt : k * 5 + 5 ≤ n
    · have hlen : k * 5 + 5 ≤ zs.length := by have := HL.out; omega
      obtain ⟨b, off, rfl, hb, e0, e1, e2, e3, e4⟩ := (HN.out.below HB.out hB).five1 hlt
      obtain ⟨p, q, r, s, t, ok, hp⟩ := Pl.some_ (zs.getD (k * 5) 0) (zs.getD (k * 5 + 1) 0) (zs.getD (k * 5 + 2) 0) (zs.getD (k * 5 + 3) 0) (zs.getD (k * 5 + 4) 0)
      have HF := flat_next hlen hp
      have HP := hide hp
      clear hp hlen
      generalize zs.getD (k * 5) 0 = z0 at e0 HP
      generalize zs.getD (k * 5 + 1) 0 = z1 at e1 HP
      generalize zs.getD (k * 5 + 2) 0 = z2 at e2 HP
      generalize zs.getD (k * 5 + 3) 0 = z3 at e3 HP
      generalize zs.getD (k * 5 + 4) 0 = z4 at e4 HP
      have hcond : decide (((k * 5 : Nat) : Int) + 5 ≤ (n : Int)) = true := by simp; omega
      have hbw : b < wr.heap.size := by have := HB.out.size; omega
      generalize hj : k * 5 = j at *
      go_wp2_with fail
      refine (rop_yes _ _ _ _ _ _ _ _ _ _ _ _ _ _ wr hbw e0 e1 e2 e3 e4 HP).mono ?_
      rintro e u1 ⟨rfl, hu1⟩
      obtain ⟨HR1, HB1⟩ := round_call0 HR.out HB.out hu1
      clear hu1 e0 e1 e2 e3 e4 hcond
      have hj5 : ((j : Int) + 5) = (((k + 1) * 5 : Nat) : Int) := by omega
      subst hj
      cases ok
      · go_wp2
        go_roundw
        case rel => exact ⟨k + 1, m, A', c', by omega, congrArg (Value.int .i64) (by omega), rfl, by omega, HA, next_no HF (HR1.out.alloc _), HB1.out.alloc HB1.out.size _⟩
        case measure => simp [intOf]; omega
      · go_wp2_with (at_builtin; refine wpList_append_own _ rfl _ _ 30 rfl w.heap.size 23 i0 (.agg zeros5) 5 40 Try.underlying30 H1.out H2.out H3.out H4.out rfl (by decide) _ m _ rfl ((HR1.out.alloc _).alloc _) ⟨u1.heap.size + 1, 0, none⟩ 1 1 [.int .i64 p, .int .i64 q, .int .i64 r, .int .i64 s, .int .i64 t] rfl rfl (cells_new _ _ _ _ (by simp)) (five_cells _ _ _ _ _) (by simp only [maxLen]; omega) (by omega) (by have := HB1.out.size; simp; omega) ?_; intro v' w2 hown hg _; obtain ⟨A2, c2, rfl, HA2, HR2, HB2⟩ := round_append HR1.out HB1.out hown hg; clear hown hg)
        go_roundw
        case rel => exact ⟨k + 1, m + 1, A2, c2, by omega, congrArg (Value.int .i64) (by omega), rfl, by omega, HA2, next_yes HF HR2.out, HB2.out⟩
        case measure => simp [intOf]; omega
    · have hcond : decide (((k * 5 : Nat) : Int) + 5 ≤ (n : Int)) = false := by simp; omega
      have HE : Hid (flat (zs.take (k * 5)) = flat zs) := flat_end zs k (by have := HL.out; omega) (by have := HL.out; omega)
      generalize k * 5 = j at *
      go_wp2
      go_ret
      refine ⟨A', m, c', rfl, HA.out, ?_, HB.out⟩
      have := HR.out
      rwa [HE.out] at this


end Go.Proofs.Ytpldcmhbbhjhgaa
