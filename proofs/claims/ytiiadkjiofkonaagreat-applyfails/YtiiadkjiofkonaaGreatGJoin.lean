/- Properties put among others, and those of two nodes joined: the code's. -/
import Derived.Test.YtiiadkjiofkonaaGreatGFind
import Derived.Test.YtiiadkjiofkonaaGreatGConcat
import Derived.Test.YtiiadkjiofkonaaGreatGSort
import Derived.WalkKit
import Derived.Below
import Derived.Deep.QuietTactic
import Derived.BigQuiet
import Derived.Laws.EntriesVeiled
import Derived.Shelf.Abstract
namespace Go.Proofs.YtiiadkjiofkonaaGreat
open Go.RowKit
set_option linter.unusedVariables false

set_option maxRecDepth 100000 in
set_option maxHeartbeats 1000000 in
theorem joinedP_any (a b : Int) (g : Nat) (A : Option Addr) (n c : Nat) (L : List Pr) (q : Bool) (u : World) (hg : g < u.heap.size) (hc : u.cell? ⟨g, 0, none⟩ = some (.slice A n c)) (hN : Nums u u.heap.size 2 A n (flat2 L)) (hn : n ≤ 1000) (hq : Hid (decide (atf (fun z : Pr => z.1) L a < 0) = q)) :
    Calls Tryz.prog 110 #[.agg #[.int .i64 a, .int .i64 b], .pointer (some ⟨g, 0, none⟩)] u (Drew (.bool q) u) := by
  have hne : g ≠ u.heap.size := by omega
  have B1 := hide ((Below.refl u.heap.size u).alloc (Nat.le_refl _) (.cells #[.int .i64 a, .int .i64 b] 83))
  have N1 := hide ((hN.below B1.out (Nat.le_refl _)).more B1.out.size)
  obtain ⟨r, HR⟩ : ∃ r, Hid (atf (fun z : Pr => z.1) L a = r) := ⟨_, rfl⟩
  have HQ : Hid (decide (r < 0) = q) := by show _ = _; rw [← hq.out, HR.out]
  clear hN
  go_enter Tryz.func110, Tryz.ntmps110
  go_wp2_with fail
  refine (findP_any A n c L a r _ N1.out hn HR).mono ?_
  rintro e u1 ⟨rfl, hu1⟩
  have HB1 := hide (B1.out.trans (hu1.mono B1.out.size))
  have hq' := HQ.out
  clear hu1
  go_wp2
  go_ret
  exact ⟨by simp_all, HB1.out⟩

/-- Those of M whose keys are not L's. -/
def missing (L M : List Pr) : List Pr := M.filter fun p => decide (atf (fun z : Pr => z.1) L p.1 < 0)
def sel2 (x y : Sl) (i : Nat) : Sl := if i = 0 then x else y
def sel3 (x y z : Sl) (i : Nat) : Sl := if i = 0 then x else if i = 1 then y else z
theorem two_heads {w : World} {B : Nat} {x y : Sl} {P Q : List Pr} (hP : Props w B x P) (hQ : Props w B y Q) (t : Nat) (hB : B ≤ w.heap.size) : ∀ i, i < 2 → (w.alloc (.cells #[.slice x.A x.n x.c, .slice y.A y.n y.c] t)).cell? ⟨w.heap.size, i, none⟩ = some (.slice (sel2 x y i).A (sel2 x y i).n (sel2 x y i).c) ∧ Props (w.alloc (.cells #[.slice x.A x.n x.c, .slice y.A y.n y.c] t)) (w.heap.size + 1) (sel2 x y i) (([P, Q] : List (List Pr)).getD i []) := by
  intro i hi
  have b := (Below.refl w.heap.size w).alloc (Nat.le_refl _) (.cells #[.slice x.A x.n x.c, .slice y.A y.n y.c] t)
  rw [cell_of_row _ _ i _ t (0, 0) (heap_alloc_new w _)]
  match i, hi with
  | 0, _ => exact ⟨rfl, (hP.below b hB).more (by omega)⟩
  | 1, _ => exact ⟨rfl, (hQ.below b hB).more (by omega)⟩

set_option maxRecDepth 100000 in
set_option maxHeartbeats 4000000 in
theorem joined_any (A : Option Addr) (n c : Nat) (L : List Pr) (A' : Option Addr) (n' c' : Nat) (M : List Pr) (w : World) (hN : Props w w.heap.size ⟨A, n, c⟩ L) (hM : Props w w.heap.size ⟨A', n', c'⟩ M) (hsum : n + n' ≤ 1000) :
    Calls Tryz.prog 100 #[.slice A n c, .slice A' n' c'] w fun e w' => ∃ (h : Sl), e = .returned (.slice h.A h.n h.c) ∧ ∃ (l : List Pr), Hid (l.Perm (L ++ missing L M)) ∧ Hid (l.Pairwise fun a b => ¬ b.1 < a.1) ∧ Hid (w'.ownsRow w.heap.size 83 2 (.slice h.A h.n h.c) h.n (ints (flat2 l))) ∧ Hid (Below w.heap.size w w') := by
  have hmf : ∀ (fn : Fn) (first cap : Array Value) (w : World), (Instr.makeFunc fn first cap).run Tryz.prog w = .ok (.func fn first cap) w := fun _ _ _ _ => rfl
  have eg : ∀ args w, (callFunc 110 args).run Tryz.prog w = .ok (.enter 110 args) w := enters_of Tryz.func110 (by kernel_rfl) rfl
  obtain ⟨W, hW⟩ : ∃ W, Hid (w.alloc (.cells #[.slice A n c] 34) = W) := ⟨_, rfl⟩
  have B1 : Hid (Below w.heap.size w W) := by show Below _ _ _; rw [← hW.out]; exact (Below.refl w.heap.size w).alloc (Nat.le_refl _) _
  have HZ : Hid (w.heap.size < W.heap.size) := by show _ < _; rw [← hW.out]; simp
  have C1 : Hid (W.cell? ⟨w.heap.size, 0, none⟩ = some (.slice A n c)) := by show _ = _; rw [← hW.out]; exact cell_of_row _ _ 0 _ 34 (0, 0) (heap_alloc_new w _)
  have N1 := hide ((hN.below B1.out (Nat.le_refl _)).more B1.out.size)
  have M1 := hide ((hM.below B1.out (Nat.le_refl _)).more B1.out.size)
  clear hN hM
  have HC := hide (stayP_any 110 w.heap.size (fun p => decide (atf (fun z : Pr => z.1) L p.1 < 0)) A' n' c' M W M1.out.1 (by omega) eg (fun u a b q hb hq => joinedP_any a b w.heap.size A n c L q u (Nat.lt_of_lt_of_le HZ.out hb.size) ((hb.cell (p := ⟨w.heap.size, 0, none⟩) HZ.out).trans C1.out) ((N1.out.1.below hb (Nat.le_refl _)).more hb.size) (by omega) hq))
  clear eg
  go_enter Tryz.func100, Tryz.ntmps100
  go_wp2_with fail
  have hW' := hW.out
  rw [hW']
  clear hW hW'
  refine HC.out.mono ?_
  rintro e u1 ⟨A1, n1, c1, rfl, hA1, hr1, hu1⟩
  have B2 := hide (B1.out.trans (hu1.mono B1.out.size))
  have c0 := (hu1.cell (p := ⟨w.heap.size, 0, none⟩) HZ.out).trans C1.out
  have N2 := hide ((N1.out.below hu1 (Nat.le_refl _)).more hu1.size)
  have P2 : Hid (Props u1 u1.heap.size ⟨A1, n1, c1⟩ (missing L M)) := ⟨own_nums hr1, hA1⟩
  have hlt : w.heap.size < u1.heap.size := Nat.lt_of_lt_of_le HZ.out hu1.size
  have HS2 : Hid ((([L, missing L M] : List (List Pr)).flatten).length ≤ 1000) := by
    have e1 := N1.out.len
    have e2 := M1.out.len
    have e3 : (missing L M).length ≤ M.length := List.length_filter_le _ _
    dsimp only at e1 e2
    show _ ≤ _
    simp
    omega
  clear hr1 hu1 HC C1 N1 M1 B1 HZ
  go_wp2_with fail
  have TH := hide (two_heads N2.out P2.out 34 (Nat.le_refl _))
  refine (concat_any u1.heap.size 2 (sel2 ⟨A, n, c⟩ ⟨A1, n1, c1⟩) [L, missing L M] _ (by simp) (by omega) rfl (by simp only [World.size_alloc]; exact TH) HS2.out).mono ?_
  rintro e u2 ⟨A2, n2, c2, rfl, hA2, hr2, hu2⟩
  have B3 := hide ((B2.out.alloc B2.out.size (.cells #[.slice A n c, .slice A1 n1 c1] 34)).trans (hu2.mono (by have := B2.out.size; simp; omega)))
  have R3 := hide (own_less hr2 (show w.heap.size ≤ _ by have := B2.out.size; simp; omega))
  have hn2 : n2 ≤ 1000 := by have := HS2.out; have h3 := R3.out.1; simp [flat2_len] at h3 this; omega
  clear hr2 hu2 c0 TH N2 P2
  go_wp2_with fail
  refine (sortP_any A2 n2 c2 w.heap.size _ u2 R3.out hn2).mono ?_
  rintro e u3 ⟨rfl, l, hp, hs, hr, hb⟩
  have B4 : Hid (Below w.heap.size w u3) := B3.out.trans hb.out
  have HP : Hid (l.Perm (L ++ missing L M)) := by
    have e : ([L, missing L M] : List (List Pr)).flatten = L ++ missing L M := by simp
    show List.Perm _ _
    rw [← e]
    exact hp.out
  clear hp hb HS2
  go_wp2
  go_ret
  exact ⟨⟨A2, n2, c2⟩, rfl, l, HP, hs, hr, B4⟩

/-- A property put among others. -/
def putP (l : List Pr) (k v : Int) : List Pr := (l.filter fun p => decide (p.1 < k)) ++ [(k, v)] ++ l.filter fun p => decide (k < p.1)
theorem three_heads {w : World} {B : Nat} {x y z : Sl} {P Q R : List Pr} (hP : Props w B x P) (hQ : Props w B y Q) (hR : Props w B z R) (t : Nat) (hB : B ≤ w.heap.size) : ∀ i, i < 3 → (w.alloc (.cells #[.slice x.A x.n x.c, .slice y.A y.n y.c, .slice z.A z.n z.c] t)).cell? ⟨w.heap.size, i, none⟩ = some (.slice (sel3 x y z i).A (sel3 x y z i).n (sel3 x y z i).c) ∧ Props (w.alloc (.cells #[.slice x.A x.n x.c, .slice y.A y.n y.c, .slice z.A z.n z.c] t)) (w.heap.size + 1) (sel3 x y z i) (([P, Q, R] : List (List Pr)).getD i []) := by
  intro i hi
  have b := (Below.refl w.heap.size w).alloc (Nat.le_refl _) (.cells #[.slice x.A x.n x.c, .slice y.A y.n y.c, .slice z.A z.n z.c] t)
  rw [cell_of_row _ _ i _ t (0, 0) (heap_alloc_new w _)]
  match i, hi with
  | 0, _ => exact ⟨rfl, (hP.below b hB).more (by omega)⟩
  | 1, _ => exact ⟨rfl, (hQ.below b hB).more (by omega)⟩
  | 2, _ => exact ⟨rfl, (hR.below b hB).more (by omega)⟩

set_option maxRecDepth 100000 in
set_option maxHeartbeats 4000000 in
theorem withPair_any (A : Option Addr) (n c : Nat) (L : List Pr) (k v : Int) (w : World) (hN : Props w w.heap.size ⟨A, n, c⟩ L) (hn : n ≤ 400) :
    Calls Tryz.prog 88 #[.slice A n c, .agg #[.int .i64 k, .int .i64 v]] w (Told w 83 2 (flat2 (putP L k v))) := by
  have hmf : ∀ (fn : Fn) (first cap : Array Value) (w : World), (Instr.makeFunc fn first cap).run Tryz.prog w = .ok (.func fn first cap) w := fun _ _ _ _ => rfl
  have eb : ∀ args w, (callFunc 105 args).run Tryz.prog w = .ok (.enter 105 args) w := enters_of Tryz.func105 (by kernel_rfl) rfl
  have ea : Hid (∀ args w, (callFunc 106 args).run Tryz.prog w = .ok (.enter 106 args) w) := enters_of Tryz.func106 (by kernel_rfl) rfl
  obtain ⟨W, hW⟩ : ∃ W, Hid (w.alloc (.cells #[.int .i64 k, .int .i64 v] 83) = W) := ⟨_, rfl⟩
  have B1 : Hid (Below w.heap.size w W) := by show Below _ _ _; rw [← hW.out]; exact (Below.refl w.heap.size w).alloc (Nat.le_refl _) _
  have HZ : Hid (w.heap.size < W.heap.size) := by show _ < _; rw [← hW.out]; simp
  have C1 : Hid (∀ u, Below W.heap.size W u → u.cell? ⟨w.heap.size, 0, none⟩ = some (.int .i64 k) ∧ u.cell? ⟨w.heap.size, 1, none⟩ = some (.int .i64 v) ∧ w.heap.size < u.heap.size) := fun u hu => by
    have h : u.heap[w.heap.size]? = some (.cells #[.int .i64 k, .int .i64 v] 83 (0, 0)) := (hu.block _ HZ.out).trans (by rw [← hW.out]; exact heap_alloc_new w _)
    exact ⟨cell_of_row _ _ 0 _ 83 (0, 0) h, cell_of_row _ _ 1 _ 83 (0, 0) h, Nat.lt_of_lt_of_le HZ.out hu.size⟩
  have N1 := hide ((hN.below B1.out (Nat.le_refl _)).more B1.out.size)
  clear hN
  have HC := hide (stayP_any 105 w.heap.size (fun p => decide (p.1 < k)) A n c L W N1.out.1 (by omega) eb (fun u a b q hb hq => belowP_any a b k q w.heap.size u (C1.out u hb).2.2 (C1.out u hb).1 hq))
  clear eb
  go_enter Tryz.func88, Tryz.ntmps88
  go_wp2_with fail
  have hW' := hW.out
  rw [hW']
  clear hW hW'
  refine HC.out.mono ?_
  rintro e u1 ⟨A1, n1, c1, rfl, hA1, hr1, hu1⟩
  have B2 := hide hu1
  have N2 := hide ((N1.out.below hu1 (Nat.le_refl _)).more hu1.size)
  have P2 : Hid (Props u1 u1.heap.size ⟨A1, n1, c1⟩ (L.filter fun p => decide (p.1 < k))) := ⟨own_nums hr1, hA1⟩
  clear hr1 hu1 HC
  have HC2 := hide (stayP_any 106 w.heap.size (fun p => decide (k < p.1)) A n c L u1 N2.out.1 (by omega) ea.out (fun u a b q hb hq => aboveP_any a b k q w.heap.size u (C1.out u (B2.out.trans (hb.mono B2.out.size))).2.2 (C1.out u (B2.out.trans (hb.mono B2.out.size))).1 hq))
  go_wp2_with fail
  refine HC2.out.mono ?_
  rintro e u2 ⟨A2, n2, c2, rfl, hA2, hr2, hu2⟩
  have B3 := hide (B2.out.trans (hu2.mono B2.out.size))
  have P3 := hide ((P2.out.below hu2 (Nat.le_refl _)).more hu2.size)
  have Q3 : Hid (Props u2 u2.heap.size ⟨A2, n2, c2⟩ (L.filter fun p => decide (k < p.1))) := ⟨own_nums hr2, hA2⟩
  obtain ⟨k0, k1, k2⟩ := C1.out u2 B3.out
  have HS2 : Hid ((([L.filter (fun p => decide (p.1 < k)), [(k, v)], L.filter fun p => decide (k < p.1)] : List (List Pr)).flatten).length ≤ 1000) := by
    have e1 := N1.out.len
    have e2 : (L.filter fun p => decide (p.1 < k)).length ≤ L.length := List.length_filter_le _ _
    have e3 : (L.filter fun p => decide (k < p.1)).length ≤ L.length := List.length_filter_le _ _
    dsimp only at e1
    show _ ≤ _
    simp
    omega
  have B4 := hide (B1.out.trans (B3.out.mono B1.out.size))
  obtain ⟨V, hV⟩ : ∃ V, Hid (u2.alloc (.cells #[.int .i64 k, .int .i64 v] 83) = V) := ⟨_, rfl⟩
  have BV : Hid (Below u2.heap.size u2 V) := by show Below _ _ _; rw [← hV.out]; exact (Below.refl _ u2).alloc (Nat.le_refl _) _
  have EV : Hid (V.heap.size = u2.heap.size + 1) := by show _ = _; rw [← hV.out]; simp
  have RV : Hid (Props V V.heap.size ⟨some ⟨u2.heap.size, 0, none⟩, 1, 1⟩ [(k, v)]) := by
    show Props _ _ _ _
    rw [← hV.out]
    refine ⟨⟨rfl, fun _ => ⟨u2.heap.size, 0, rfl, by simp, fun i hi => ?_⟩⟩, fun h => by cases h⟩
    rw [cell_of_row _ _ (0 + i) _ 83 (0, 0) (heap_alloc_new u2 _)]
    match i, hi with
    | 0, _ => rfl
    | 1, _ => rfl
  have P4 := hide ((P3.out.below BV.out (Nat.le_refl _)).more BV.out.size)
  have Q4 := hide ((Q3.out.below BV.out (Nat.le_refl _)).more BV.out.size)
  clear hr2 hu2 HC2 C1 N1 N2 P2 P3 Q3 B1 B2 B3 HZ ea
  go_wp2_with fail
  have hV' := hV.out
  rw [hV']
  have TH := hide (three_heads P4.out RV.out Q4.out 34 (Nat.le_refl _))
  have B5 := hide (B4.out.trans (BV.out.mono B4.out.size))
  clear hV hV'
  have TH2 : Hid (∀ i, i < 3 → (V.alloc (.cells #[.slice A1 n1 c1, .slice (some ⟨u2.heap.size, 0, none⟩) 1 1, .slice A2 n2 c2] 34)).cell? ⟨V.heap.size, i, none⟩ = some (.slice (sel3 ⟨A1, n1, c1⟩ ⟨some ⟨u2.heap.size, 0, none⟩, 1, 1⟩ ⟨A2, n2, c2⟩ i).A (sel3 ⟨A1, n1, c1⟩ ⟨some ⟨u2.heap.size, 0, none⟩, 1, 1⟩ ⟨A2, n2, c2⟩ i).n (sel3 ⟨A1, n1, c1⟩ ⟨some ⟨u2.heap.size, 0, none⟩, 1, 1⟩ ⟨A2, n2, c2⟩ i).c) ∧ Props (V.alloc (.cells #[.slice A1 n1 c1, .slice (some ⟨u2.heap.size, 0, none⟩) 1 1, .slice A2 n2 c2] 34)) (V.alloc (.cells #[.slice A1 n1 c1, .slice (some ⟨u2.heap.size, 0, none⟩) 1 1, .slice A2 n2 c2] 34)).heap.size (sel3 ⟨A1, n1, c1⟩ ⟨some ⟨u2.heap.size, 0, none⟩, 1, 1⟩ ⟨A2, n2, c2⟩ i) (([L.filter (fun p => decide (p.1 < k)), [(k, v)], L.filter fun p => decide (k < p.1)] : List (List Pr)).getD i [])) := by
    rw [World.size_alloc]
    exact TH
  have HCC := hide (concat_any V.heap.size 3 (sel3 ⟨A1, n1, c1⟩ ⟨some ⟨u2.heap.size, 0, none⟩, 1, 1⟩ ⟨A2, n2, c2⟩) [L.filter (fun p => decide (p.1 < k)), [(k, v)], L.filter fun p => decide (k < p.1)] (V.alloc (.cells #[.slice A1 n1 c1, .slice (some ⟨u2.heap.size, 0, none⟩) 1 1, .slice A2 n2 c2] 34)) (by rw [World.size_alloc]; omega) (by omega) rfl TH2 HS2.out)
  have hcc := HCC.out
  rw [EV.out] at hcc
  refine hcc.mono ?_
  clear hcc HCC TH2
  rintro e u3 ⟨A3, n3, c3, rfl, hA3, hr3, hu3⟩
  have B6 := hide ((B5.out.alloc B5.out.size (.cells #[.slice A1 n1 c1, .slice (some ⟨u2.heap.size, 0, none⟩) 1 1, .slice A2 n2 c2] 34)).trans (hu3.mono (by have := B5.out.size; simp; omega)))
  have R6 := hide (own_less hr3 (show w.heap.size ≤ _ by have := B5.out.size; simp; omega))
  clear hr3 hu3 k0 k1 k2 TH
  go_wp2
  go_ret
  refine ⟨A3, n3, c3, rfl, hA3, ?_, B6.out⟩
  have := R6.out
  simpa [putP] using this

end Go.Proofs.YtiiadkjiofkonaaGreat
