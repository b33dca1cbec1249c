/- What Set, Union, Within and Copy tell, for every list: the code's and the document's; and the chapter's example. -/
import Derived.Test.YtijiolkjnlgleaaWalksB
namespace Go.Proofs.Ytijiolkjnlgleaa
open Go.RowKit Go.Maps
set_option linter.unusedVariables false

section
variable {w w' u u' : World} {A : Option Addr} {n c base base' e s : Nat} {zs : List Int} {v : Value} {xs : List Value}
theorem Nums.step (h : Nums u u.heap.size s A n zs) (hb : Below u.heap.size u u') : Nums u' u'.heap.size s A n zs := (h.below hb (Nat.le_refl _)).more hb.size
theorem own_less (h : w.ownsRow base e s v n xs) (hb : base' ≤ base) : w.ownsRow base' e s v n xs := by
  refine ⟨h.1, ?_⟩
  rcases h.2 with h0 | ⟨g, cap, cur, hv, hB, r⟩
  · exact .inl h0
  · exact .inr ⟨g, cap, cur, hv, Nat.le_trans hb hB, r⟩
theorem own_len {v : Value} (h : w.ownsRow base 3 1 v n (ints zs)) : n = zs.length := by
  have := h.1
  simp at this
  omega
theorem Nums.lit (w : World) (zs : List Int) (t n : Nat) (h : zs.length = n) : Nums (w.alloc (.cells (ints zs).toArray t)) (w.heap.size + 1) 1 (some ⟨w.heap.size, 0, none⟩) n zs := by
  refine ⟨by omega, fun _ => ⟨w.heap.size, 0, rfl, by omega, fun i hi => ?_⟩⟩
  rw [cell_of_row _ w.heap.size (0 + i) _ t (0, 0) (heap_alloc_new w _)]
  have hi' : i < zs.length := by omega
  simp [hi']
end

/-- A new list of numbers that was told. -/
theorem told_of {w w' : World} {A : Option Addr} {n c : Nat} {zs : List Int} {base : Nat} (hA : A = none → c = 0) (h : w'.ownsRow base 3 1 (.slice A n c) n (ints zs)) (hb : Below w.heap.size w w') (hB : w.heap.size ≤ base) : Told w 3 1 zs (.returned (.slice A n c)) w' :=
  ⟨A, n, c, rfl, hA, own_less h hB, hb⟩

theorem each1 (A : Option Addr) (n c : Nat) (zs : List Int) (w : World) (h : Nums w w.heap.size 1 A n zs) (hw : Hid (∀ z ∈ zs, (Lit.int .i64 z).wf = true)) (hn : n ≤ 17592186044416) :
    Calls Try.prog 25 #[.slice (some ⟨w.heap.size, 0, none⟩) 1 1] (w.alloc (.cells #[.slice A n c] 22)) fun e w' => e = .returned (.map (some (w.heap.size + 1))) ∧ Hid (Mapped w' (w.heap.size + 1) n zs) ∧ Hid (Below w.heap.size w w') := by
  have hb : Below w.heap.size w (w.alloc (.cells #[.slice A n c] 22)) := (Below.refl _ _).alloc (Nat.le_refl _) _
  have e1 : upto (fun _ => zs) 1 = zs := by simp [upto, List.range_succ]
  refine (eachOnce_any w.heap.size 1 (fun _ => A) (fun _ => n) (fun _ => c) (fun _ => zs) _ (by omega) (by simp) ?_ (fun _ _ => h.step hb) (fun _ _ => hw.out) ?_).mono ?_
  · intro j hj
    obtain rfl : j = 0 := by omega
    rw [cell_of_row _ w.heap.size 0 _ 22 (0, 0) (heap_alloc_new w _)]
    rfl
  · intro j hj
    obtain rfl : j = 0 := by omega
    simp [upto]; omega
  · rintro e w' ⟨rfl, hm, hb'⟩
    rw [e1] at hm
    have hl := h.1
    have hm' : Mapped w' (w.heap.size + 1) n zs := by
      have := World.ownsMap.mono hm (n' := n) (by omega)
      simpa using this
    exact ⟨by simp, hm', hb.trans (hb'.mono (by simp))⟩

theorem each2 (A A' : Option Addr) (n c n' c' : Nat) (zs ys : List Int) (w : World) (h : Nums w w.heap.size 1 A n zs) (h' : Nums w w.heap.size 1 A' n' ys) (hw : Hid (∀ z ∈ zs, (Lit.int .i64 z).wf = true)) (hw' : Hid (∀ z ∈ ys, (Lit.int .i64 z).wf = true)) (hn : n ≤ 17592186044416) (hn' : n' ≤ 17592186044416) :
    Calls Try.prog 25 #[.slice (some ⟨w.heap.size, 0, none⟩) 2 2] (w.alloc (.cells #[.slice A n c, .slice A' n' c'] 22)) fun e w' => e = .returned (.map (some (w.heap.size + 1))) ∧ Hid (Mapped w' (w.heap.size + 1) (n + n') (zs ++ ys)) ∧ Hid (Below w.heap.size w w') := by
  have hb : Below w.heap.size w (w.alloc (.cells #[.slice A n c, .slice A' n' c'] 22)) := (Below.refl _ _).alloc (Nat.le_refl _) _
  have l1 := h.1
  have l2 := h'.1
  have e0 : upto (fun j => if j = 0 then zs else ys) 1 = zs := by simp [upto, List.range_succ]
  have e1 : upto (fun j => if j = 0 then zs else ys) 2 = zs ++ ys := by simp [upto, List.range_succ]
  refine (eachOnce_any w.heap.size 2 (fun j => if j = 0 then A else A') (fun j => if j = 0 then n else n') (fun j => if j = 0 then c else c') (fun j => if j = 0 then zs else ys) _ (by omega) (by simp) ?_ ?_ ?_ ?_).mono ?_
  · intro j hj
    rw [cell_of_row _ w.heap.size j _ 22 (0, 0) (heap_alloc_new w _)]
    match j, hj with
    | 0, _ => rfl
    | 1, _ => rfl
  · intro j hj
    match j, hj with
    | 0, _ => exact h.step hb
    | 1, _ => exact h'.step hb
  · intro j hj
    match j, hj with
    | 0, _ => exact hw.out
    | 1, _ => exact hw'.out
  · intro j hj
    match j, hj with
    | 0, _ => simp [upto]; omega
    | 1, _ => rw [e0]; simp; omega
  · rintro e w' ⟨rfl, hm, hb'⟩
    rw [e1] at hm
    have hm' : Mapped w' (w.heap.size + 1) (n + n') (zs ++ ys) := by
      have := World.ownsMap.mono hm (n' := n + n') (by simp; omega)
      simpa using this
    exact ⟨by simp, hm', hb.trans (hb'.mono (by simp))⟩

set_option maxHeartbeats 400000 in
theorem set_any (A : Option Addr) (n c : Nat) (zs : List Int) (w : World) (h : Nums w w.heap.size 1 A n zs) (hw : Hid (∀ z ∈ zs, (Lit.int .i64 z).wf = true)) (hn : n ≤ 17592186044416) :
    Calls Try.prog 11 #[.slice A n c] w (Told w 3 1 (sset zs)) := by
  go_enter Try.func11, Try.ntmps11
  go_wp2_with fail
  refine (each1 A n c zs w h hw hn).mono ?_
  rintro e w1 ⟨rfl, hm, hb⟩
  go_wp2_with fail
  refine (rising_any _ n zs w1 hm.out (by omega)).mono ?_
  rintro e w2 ⟨A2, n2, c2, rfl, hA2, hr2, hb2⟩
  go_wp2
  go_ret
  exact told_of hA2 hr2 (hb.out.trans (hb2.mono hb.out.size)) hb.out.size

set_option maxHeartbeats 400000 in
theorem union_any (A A' : Option Addr) (n c n' c' : Nat) (zs ys : List Int) (w : World) (h : Nums w w.heap.size 1 A n zs) (h' : Nums w w.heap.size 1 A' n' ys) (hw : Hid (∀ z ∈ zs, (Lit.int .i64 z).wf = true)) (hw' : Hid (∀ z ∈ ys, (Lit.int .i64 z).wf = true)) (hn : n ≤ 17592186044416) (hn' : n' ≤ 17592186044416) :
    Calls Try.prog 22 #[.slice A n c, .slice A' n' c'] w (Told w 3 1 (sset (zs ++ ys))) := by
  go_enter Try.func22, Try.ntmps22
  go_wp2_with fail
  refine (each2 A A' n c n' c' zs ys w h h' hw hw' hn hn').mono ?_
  rintro e w1 ⟨rfl, hm, hb⟩
  go_wp2_with fail
  refine (rising_any _ (n + n') (zs ++ ys) w1 hm.out (by omega)).mono ?_
  rintro e w2 ⟨A2, n2, c2, rfl, hA2, hr2, hb2⟩
  go_wp2
  go_ret
  exact told_of hA2 hr2 (hb.out.trans (hb2.mono hb.out.size)) hb.out.size

set_option maxHeartbeats 1000000 in
theorem within_any (A A' : Option Addr) (n m c c' : Nat) (xs ys : List Int) (q : Bool) (w : World) (h : Nums w w.heap.size 1 A n xs) (h' : Nums w w.heap.size 1 A' m ys) (hwx : Hid (∀ z ∈ xs, (Lit.int .i64 z).wf = true)) (hw : Hid (∀ z ∈ ys, (Lit.int .i64 z).wf = true)) (hq : Hid (within xs ys = q)) (hn : n ≤ 17592186044416) (hm : m ≤ 17592186044416) :
    Calls Try.prog 20 #[.slice A n c, .slice A' m c'] w (Drew (.bool q) w) := by
  have HL : Hid (xs.length = n) := by have := h.1; show _ = _; omega
  go_enter Try.func20, Try.ntmps20
  go_wp2_with fail
  refine (each1 A' m c' ys w h' hw hm).mono ?_
  rintro e w1 ⟨rfl, HM, HB⟩
  have HX := hide (h.below HB.out (Nat.le_refl _))
  clear h h'
  go_wp2
  go_loopw [13] (fun i wr => ∃ k : Nat, k ≤ n ∧ i = .int .i64 k ∧ Hid (∀ j, j < k → ys.contains (xs.getD j 0) = true) ∧ wr = w1) (fun i _ => n - (intOf i).toNat)
  case atStart => exact ⟨0, by omega, rfl, (fun j hj => by omega), rfl⟩
  case round =>
    obtain ⟨k, hk, rfl, HS, rfl⟩ := hrel
    by_cases hlt : k < n
    · obtain ⟨b, off, rfl, _, hc⟩ := HX.out.at_ hlt
      have HK : Hid (keyOf Try.prog 3 (.int .i64 (xs.getD k 0)) = some (key (xs.getD k 0))) := keyOf_int_mk Try.underlying3 (hwx.out _ (by have := HL.out; simp [show k < xs.length by omega]))
      cases e : ys.contains (xs.getD k 0)
      · have HF : Hid (q = false) := by
          rw [← hq.out]
          exact not_within (by have := HL.out; omega) e
        have HE := hide e
        clear e HS
        generalize xs.getD k 0 = z at hc HE HK
        go_wp2_with (at_lookup; refine wpList_asked _ rfl _ _ 36 rfl 3 4 law3 Try.underlying36 Try.underlying4 (zero4 _) _ _ ys rfl HM.out z false rfl HK.out HE.out ?_)
        go_ret
        rw [HF.out]
        exact ⟨rfl, HB.out⟩
      · have HS' : Hid (∀ j, j < k + 1 → ys.contains (xs.getD j 0) = true) := fun j hj => by
          by_cases ej : j = k
          · subst ej; exact e
          · exact HS.out j (by omega)
        have HE := hide e
        clear e HS
        generalize xs.getD k 0 = z at hc HE HK
        go_wp2_with (at_lookup; refine wpList_asked _ rfl _ _ 36 rfl 3 4 law3 Try.underlying36 Try.underlying4 (zero4 _) _ _ ys rfl HM.out z true rfl HK.out HE.out ?_)
        go_roundw
        case rel => exact ⟨k + 1, by omega, by go_num, HS', trivial⟩
        case measure => simp [intOf]; omega
    · have HF : Hid (q = true) := by
        rw [← hq.out]
        exact all_within fun j hj => HS.out j (by have := HL.out; omega)
      go_wp2
      go_ret
      rw [HF.out]
      exact ⟨rfl, HB.out⟩

/-- 'append' of one number onto a row of the call's own. -/
theorem wpList_append_one {P : Program} (w : World) {ops : Array Oper} {rest : List Oper} {o : Oper} {a : Act} {Q : Exit → Act → World → Prop} (hgd : o.guard = none) (x y : Operand) (t : TypeId)
    (ho : o.op = .call { callee := .builtin .append, args := #[x, y], argTypes := #[t, t] })
    (base : Nat) (i : TypeInfo) (ht : P.underlying t = some (.slice 3)) (hi : P.info? 3 = some i) (hz : i.zero = some (.int .i64 0)) (hsize : i.size = 1) (hby : i.bytes = 8)
    (A : Option Addr) (n c : Nat) (ys : List Int) (hs : a.eval x = .slice A n c) (hown : w.ownsRow base 3 1 (.slice A n c) n (ints ys)) (g : Nat) (z : Int) (hx : a.eval y = .slice (some ⟨g, 0, none⟩) 1 1)
    (hc : ∀ j u, ([Value.int .i64 z])[j]? = some u → w.cell? ((⟨g, 0, none⟩ : Addr).add j) = some u)
    (hn : n < 17592186044416) (hbase : base ≤ w.heap.size)
    (h : ∀ A' c' w', Hid (w'.ownsRow base 3 1 (.slice A' (n + 1) c') (n + 1) (ints (ys ++ [z]))) → Hid (Below base w w') → wpList P ops Q rest (a.put o.dst (.slice A' (n + 1) c')) w') : wpList P ops Q (o :: rest) a w := by
  refine wpList_append_own w hgd x y t ho base 3 i (.int .i64 0) 1 8 ht hi hz hsize hby rfl (by omega) _ n (ints ys) hs hown ⟨g, 0, none⟩ 1 1 [.int .i64 z] hx rfl hc (ints_oneCell _ [z]) (by unfold maxLen; omega) (by omega) hbase ?_
  intro v' w' hown' hg _
  obtain ⟨A', c', rfl, _⟩ := own_form hown'
  exact h A' c' w' (by show World.ownsRow _ _ _ _ _ _ _; simpa using hown') ((Below.refl _ _).grown hg hbase fun j ej => (hown.lt j ej).1)

set_option maxRecDepth 100000 in
set_option maxHeartbeats 2000000 in
theorem rset_any (A : Option Addr) (n c : Nat) (zs : List Int) (w : World) (h : Nums w w.heap.size 1 A n zs) (hn : n ≤ 17592186044416) :
    Calls Try.prog 13 #[.slice A n c] w (Told w 3 1 (sset zs)) := by
  obtain ⟨i0, hi, hz0, hz1, hz2⟩ := info_parts Try.info3
  have H1 := hide hi
  have H2 := hide hz0
  have H3 := hide hz1
  have H4 := hide hz2
  have HL : Hid (zs.length = n) := by have := h.1; show _ = _; omega
  have HN := hide h
  clear hi hz0 hz1 hz2 h
  go_enter Try.func13, Try.ntmps13
  go_wp2
  go_loopw [3, 10] (fun v i wr => ∃ (k : Nat) (out : List Int) (A1 : Option Addr) (c1 : Nat), k ≤ n ∧ i = .int .i64 k ∧ v = .slice A1 out.length c1 ∧ Hid (wr.ownsRow w.heap.size 3 1 (.slice A1 out.length c1) out.length (ints out)) ∧ Hid (Some_ zs k out) ∧ Hid (Below w.heap.size w wr))
    (fun _ i _ => n - (intOf i).toNat)
  case atStart => exact ⟨0, [], none, 0, by omega, rfl, rfl, World.ownsRow_nil _ _ _ _, some_start zs, Below.refl _ _⟩
  case round =>
    obtain ⟨k, out, A1, c1, hk, rfl, rfl, HR, HS, HB⟩ := hrel
    by_cases hlt : k < n
    · have t0 : decide ((k : Int) < (n : Int)) = true := by simp; omega
      have HO : Hid (out.length ≤ k) := HS.out.2.2.2.2
      go_wp2
      go_loopw [4, 5, 14] (fun x y i wr => ∃ (j : Nat) (b : Int) (m : Bool), j ≤ n ∧ i = .int .i64 j ∧ x = .int .i64 b ∧ y = .bool m ∧ Hid (pick (fun x => !out.contains x) (zs.take j) = (b, m)) ∧ Hid (wr.ownsRow w.heap.size 3 1 (.slice A1 out.length c1) out.length (ints out)) ∧ Hid (Below w.heap.size w wr)) (fun _ _ i _ => n - (intOf i).toNat)
      case atStart => exact ⟨0, 0, false, by omega, rfl, rfl, rfl, rfl, HR, HB⟩
      case round =>
        clear HR HB
        obtain ⟨j, b, m, hj, rfl, rfl, rfl, HP, HR, HB⟩ := hrel
        by_cases hlj : j < n
        · obtain ⟨g, off, rfl, _, hc⟩ := (HN.out.below HB.out (Nat.le_refl _)).at_ hlj
          have HT := hide (take_snoc (l := zs) (k := j) (by have := HL.out; omega))
          generalize zs.getD j 0 = z at hc HT
          cases e : out.contains z
          · have HE := hide e
            clear e
            cases m
            · have HP' : Hid (pick (fun x => !out.contains x) (zs.take (j + 1)) = (z, true)) := by show _ = _; rw [HT.out, pick_snoc, HP.out, HE.out]; simp
              clear HP HT
              go_wp2_with fail
              refine (rhas_no A1 out.length c1 wr.heap.size out z wr (own_nums HR.out) HE (by have := HO.out; omega)).mono ?_
              rintro e w' ⟨rfl, rfl⟩
              go_wp2
              go_roundw
              case rel => exact ⟨j + 1, z, true, by omega, by go_num, rfl, rfl, HP', HR, HB⟩
              case measure => simp [intOf]; omega
            · by_cases c2 : z < b
              · have t2 : decide (z < b) = true := by simp; omega
                have HP' : Hid (pick (fun x => !out.contains x) (zs.take (j + 1)) = (z, true)) := by show _ = _; rw [HT.out, pick_snoc, HP.out, HE.out]; simp [t2]
                clear HP HT
                go_wp2_with fail
                refine (rhas_no A1 out.length c1 wr.heap.size out z wr (own_nums HR.out) HE (by have := HO.out; omega)).mono ?_
                rintro e w' ⟨rfl, rfl⟩
                go_wp2
                go_roundw
                case rel => exact ⟨j + 1, z, true, by omega, by go_num, rfl, rfl, HP', HR, HB⟩
                case measure => simp [intOf]; omega
              · have t2 : decide (z < b) = false := by simp; omega
                have HP' : Hid (pick (fun x => !out.contains x) (zs.take (j + 1)) = (b, true)) := by show _ = _; rw [HT.out, pick_snoc, HP.out, HE.out]; simp [t2]
                clear HP HT
                go_wp2_with fail
                refine (rhas_no A1 out.length c1 wr.heap.size out z wr (own_nums HR.out) HE (by have := HO.out; omega)).mono ?_
                rintro e w' ⟨rfl, rfl⟩
                go_wp2
                go_roundw
                case rel => exact ⟨j + 1, b, true, by omega, by go_num, rfl, rfl, HP', HR, HB⟩
                case measure => simp [intOf]; omega
          · have HE := hide e
            clear e
            cases m
            · have HP' : Hid (pick (fun x => !out.contains x) (zs.take (j + 1)) = (b, false)) := by show _ = _; rw [HT.out, pick_snoc, HP.out, HE.out]; simp
              clear HP HT
              go_wp2_with fail
              refine (rhas_yes A1 out.length c1 wr.heap.size out z wr (own_nums HR.out) HE (by have := HO.out; omega)).mono ?_
              rintro e w' ⟨rfl, rfl⟩
              go_wp2
              go_roundw
              case rel => exact ⟨j + 1, b, false, by omega, by go_num, rfl, rfl, HP', HR, HB⟩
              case measure => simp [intOf]; omega
            · have HP' : Hid (pick (fun x => !out.contains x) (zs.take (j + 1)) = (b, true)) := by show _ = _; rw [HT.out, pick_snoc, HP.out, HE.out]; simp
              clear HP HT
              go_wp2_with fail
              refine (rhas_yes A1 out.length c1 wr.heap.size out z wr (own_nums HR.out) HE (by have := HO.out; omega)).mono ?_
              rintro e w' ⟨rfl, rfl⟩
              go_wp2
              go_roundw
              case rel => exact ⟨j + 1, b, true, by omega, by go_num, rfl, rfl, HP', HR, HB⟩
              case measure => simp [intOf]; omega
        · have HQ : Hid (pick (fun x => !out.contains x) zs = (b, m)) := by
            have e := HP.out
            rw [List.take_of_length_le (by have := HL.out; omega)] at e
            exact e
          cases m
          · have HS' := hide (some_no HS.out HQ.out)
            go_wp2
            go_roundw
            case rel => exact ⟨k + 1, out, A1, c1, by omega, by go_num, rfl, HR, HS', HB⟩
            case measure => simp [intOf]; omega
          · have HS' := hide (some_yes HS.out HQ.out)
            go_wp2_with (at_builtin; refine wpList_append_one _ rfl _ _ 22 rfl w.heap.size i0 Try.underlying22 H1.out H2.out H3.out H4.out A1 out.length c1 out rfl (HR.out.alloc _) wr.heap.size b rfl (cell_one_new _ _ _) (by have := HO.out; omega) (by have := HB.out.size; simp; omega) ?_; intro A3 c3 w3 HR3 HB3)
            have HB4 := hide ((HB.out.alloc HB.out.size (.cells #[.int .i64 b] 3)).trans HB3.out)
            have HR4 : Hid (w3.ownsRow w.heap.size 3 1 (.slice A3 (out ++ [b]).length c3) (out ++ [b]).length (ints (out ++ [b]))) := by
              show World.ownsRow _ _ _ _ _ _ _
              simpa using HR3.out
            go_roundw
            case rel => exact ⟨k + 1, out ++ [b], A3, c3, by omega, by go_num, by simp, HR4, HS', HB4⟩
            case measure => simp [intOf]; omega
    · have HE : Hid (out = sset zs) := by
        refine some_end ?_
        have : k = zs.length := by have := HL.out; omega
        rw [← this]
        exact HS.out
      go_wp2
      go_ret
      have hr := HR.out
      rw [HE.out] at hr ⊢
      rcases hr.2 with ⟨e, _⟩ | ⟨g, cap, cur, e, _⟩
      · exact ⟨_, _, _, rfl, (fun _ => by simp at e; exact e.2.2), hr, HB.out⟩
      · exact ⟨_, _, _, rfl, (fun h0 => by rw [h0] at e; simp at e), hr, HB.out⟩

set_option maxHeartbeats 400000 in
theorem copy_any (A : Option Addr) (n c : Nat) (zs : List Int) (w : World) (h : Nums w w.heap.size 1 A n zs) (hA : Hid (A = none → c = 0)) (hn : n ≤ 17592186044416) :
    Calls Try.prog 10 #[.slice A n c] w (Told w 3 1 zs) := by
  obtain ⟨i0, hi, hz0, hz1, hz2⟩ := info_parts Try.info3
  have H1 := hide hi
  have H2 := hide hz0
  have H3 := hide hz1
  have H4 := hide hz2
  clear hi hz0 hz1 hz2
  go_enter Try.func10, Try.ntmps10
  go_wp2_with (at_builtin; refine wpList_append_nums _ rfl _ _ 22 rfl w.heap.size 3 i0 (.int .i64 0) 1 8 Try.underlying22 H1.out H2.out H3.out H4.out rfl (by omega) (.slice none 0 0) 0 [] rfl (World.ownsRow_nil _ _ _ _) A n c w.heap.size zs rfl hA.out h (by unfold maxLen; omega) (by omega) (Nat.le_refl _) ?_; intro v1 w1 hown1 hb1)
  go_ret
  rw [Nat.zero_add, List.nil_append] at hown1
  obtain ⟨A1, c1, rfl, hA1⟩ := own_form hown1
  exact ⟨_, _, _, rfl, hA1, hown1, hb1⟩

set_option maxHeartbeats 400000 in
theorem runion_any (A A' : Option Addr) (n c n' c' : Nat) (zs ys : List Int) (w : World) (h : Nums w w.heap.size 1 A n zs) (h' : Nums w w.heap.size 1 A' n' ys) (hA : Hid (A = none → c = 0)) (hA' : Hid (A' = none → c' = 0)) (hn : n + n' ≤ 17592186044416) :
    Calls Try.prog 23 #[.slice A n c, .slice A' n' c'] w (Told w 3 1 (sset (zs ++ ys))) := by
  obtain ⟨i0, hi, hz0, hz1, hz2⟩ := info_parts Try.info3
  have H1 := hide hi
  have H2 := hide hz0
  have H3 := hide hz1
  have H4 := hide hz2
  clear hi hz0 hz1 hz2
  have tok1 : True := trivial
  have HY := hide h'
  clear h'
  go_enter Try.func23, Try.ntmps23
  go_wp2_with (first
    | (at_builtin; have _t := tok1; refine wpList_append_nums _ rfl _ _ 22 rfl w.heap.size 3 i0 (.int .i64 0) 1 8 Try.underlying22 H1.out H2.out H3.out H4.out rfl (by omega) (.slice none 0 0) 0 [] rfl (World.ownsRow_nil _ _ _ _) A n c w.heap.size zs rfl hA.out h (by unfold maxLen; omega) (by omega) (Nat.le_refl _) ?_; intro v1 w1 hown1 hb1; have HO1 := hide hown1; have HB1 := hide hb1; have HY1 := hide (HY.out.below hb1 (Nat.le_refl _)); clear tok1 hown1 hb1)
    | (at_builtin; refine wpList_append_nums _ rfl _ _ 22 rfl w.heap.size 3 i0 (.int .i64 0) 1 8 Try.underlying22 H1.out H2.out H3.out H4.out rfl (by omega) v1 (0 + n) ([] ++ zs) rfl HO1.out A' n' c' w.heap.size ys rfl hA'.out HY1.out (by unfold maxLen; omega) (by omega) HB1.out.size ?_; intro v2 w2 hown2 hb2; have HO2 := hide hown2; have HB2 := hide (HB1.out.trans hb2); clear hown2 hb2))
  obtain ⟨A2, c2, rfl, hA2⟩ := own_form HO2.out
  have HO3 : Hid (w2.ownsRow w.heap.size 3 1 (.slice A2 (n + n') c2) (n + n') (ints (zs ++ ys))) := by
    show World.ownsRow _ _ _ _ _ _ _
    simpa using HO2.out
  rw [Nat.zero_add]
  refine (rset_any A2 (n + n') c2 (zs ++ ys) w2 (own_nums HO3.out) hn).mono ?_
  rintro e w3 ⟨A3, n3, c3, rfl, hA3, hr3, hb3⟩
  go_wp2
  go_ret
  exact told_of hA3 hr3 (HB2.out.trans (hb3.mono HB2.out.size)) HB2.out.size

theorem live_set (w : World) : Calls Try.prog 11 #[.slice (some ⟨w.heap.size, 0, none⟩) 3 3] (w.alloc (.cells #[.int .i64 3, .int .i64 1, .int .i64 3] 3)) fun e w' =>
    ∃ A c, e = .returned (.slice A 2 c) ∧ Hid (Nums w' w'.heap.size 1 A 2 [1, 3]) ∧ Hid (Below w.heap.size w w') := by
  have hb : Below w.heap.size w (w.alloc (.cells #[.int .i64 3, .int .i64 1, .int .i64 3] 3)) := (Below.refl _ _).alloc (Nat.le_refl _) _
  refine (set_any _ 3 3 [3, 1, 3] _ ((Nums.lit w [3, 1, 3] 3 3 rfl).more (by simp)) (by intro z hz; simp at hz; rcases hz with rfl | rfl | rfl <;> decide) (by omega)).mono ?_
  rintro e w1 ⟨A, n, c, rfl, hA, hr, hb1⟩
  have hs : sset [3, 1, 3] = [1, 3] := by decide
  rw [hs] at hr
  obtain rfl : n = 2 := own_len hr
  exact ⟨A, c, rfl, own_nums hr, hb.trans (hb1.mono (by simp))⟩

set_option maxHeartbeats 400000 in
theorem live_yes (w : World) : Calls Try.prog 9 #[] w (Drew (.bool true) w) := by
  have HP : Hid (pick (fun z => decide ((1 : Int) < z)) [1, 3] = (3, true)) := by show _ = _; decide
  go_enter Try.func9, Try.ntmps9
  go_wp2_with fail
  refine (live_set w).mono ?_
  rintro e w1 ⟨A, c, rfl, HN, HB⟩
  go_wp2_with fail
  refine (above_any A 2 c w1.heap.size [1, 3] 1 3 true w1 HN.out HP (by omega)).mono ?_
  rintro e w1' ⟨rfl, rfl⟩
  go_wp2_with fail
  refine (same_yes _ _ _ _ _ w1.heap.size (w1.heap.size + 1) [1, 3] _ (HN.out.below ((Below.refl _ _).alloc (Nat.le_refl _) _) (Nat.le_refl _)) (Nums.lit w1 [1, 3] 3 2 rfl) (by omega)).mono ?_
  rintro e w2 ⟨rfl, hb2⟩
  go_wp2
  go_ret
  exact ⟨rfl, (HB.out.alloc HB.out.size _).trans (hb2.mono (by have := HB.out.size; simp; omega))⟩

end Go.Proofs.Ytijiolkjnlgleaa
