/- What Reclaim tells, of any pool that is not great: the code's and the document's. -/
import Derived.Test.YtfdbbfjnianahaaGrown
namespace Go.Proofs.Ytfdbbfjnianahaa
open Go.RowKit
set_option linter.unusedVariables false

/-- What stands while the slots are gone through: the copy q is own, its box is block t. -/
structure Rec (w u : World) (cs : Array Value) (t gG gS gT : Nat) (A3 : Option Addr) (n n3 c0 c1 c2 c3 : Nat) (P : PL) : Prop where
  two : Two w u cs
  own : Owns u (w.heap.size + 2) ⟨some ⟨gG, 0, none⟩, some ⟨gS, 0, none⟩, some ⟨gT, 0, none⟩, A3, n, n, n, n3, c0, c1, c2, c3⟩ P
  box : PBox u t (C4 (some ⟨gG, 0, none⟩) (some ⟨gS, 0, none⟩) (some ⟨gT, 0, none⟩) A3 n n n n3 c0 c1 c2 c3)
  off : Off ⟨some ⟨gG, 0, none⟩, some ⟨gS, 0, none⟩, some ⟨gT, 0, none⟩, A3, n, n, n, n3, c0, c1, c2, c3⟩ t
  ge : w.heap.size + 2 ≤ t

theorem cells_new (w : World) (cs : List Value) (t g : Nat) (hg : g = w.heap.size) : ∀ j u, cs[j]? = some u → (w.alloc (.cells cs.toArray t)).cell? ((⟨g, 0, none⟩ : Addr).add j) = some u := by
  intro j u hu
  subst hg
  rw [Addr.add_lit, Nat.zero_add, cell_of_row _ w.heap.size j _ t (0, 0) (heap_alloc_new w _)]
  simpa using hu

section
variable {w u : World} {cs : Array Value} {t gG gS gT : Nat} {A3 : Option Addr} {n n3 c0 c1 c2 c3 : Nat} {G S W F : List Int}

/-- Behind the three stores, and the new element's block. -/
abbrev Mid (u : World) (gG gS gT k : Nat) (x : Int) : World := (((u.setCell ⟨gS, k, none⟩ (.int .i64 0)).setCell ⟨gT, k, none⟩ (.int .i64 0)).setCell ⟨gG, k, none⟩ (.int .i64 x)).alloc (.cells #[.int .i64 (k : Int)] 3)

theorem Rec.mid (h : Rec w u cs t gG gS gT A3 n n3 c0 c1 c2 c3 ⟨G, S, W, F⟩) (k : Nat) (x : Int) :
    Rec w (Mid u gG gS gT k x) cs t gG gS gT A3 n n3 c0 c1 c2 c3 ⟨G.set k x, S.set k 0, W.set k 0, F⟩ := by
  have hG := (own_ge h.own.g).1
  have hS := (own_ge h.own.s).1
  have hT := (own_ge h.own.t).1
  obtain ⟨o1, o2, o3, o4⟩ := h.off
  have q1 := o1 _ rfl
  have q2 := o2 _ rfl
  have q3 := o3 _ rfl
  dsimp only at hG hS hT q1 q2 q3
  exact ⟨(((h.two.far (by omega) _ _).far (by omega) _ _).far (by omega) _ _).alloc _, (((h.own.setS k 0).setT k 0).setG k x).alloc _, (((h.box.other (by omega) _).other (by omega) _).other (by omega) _).alloc _, ⟨o1, o2, o3, o4⟩, h.ge⟩

theorem Rec.grown {w2 : World} {g' cap : Nat} {k : Int} (h : Rec w u cs t gG gS gT A3 n n3 c0 c1 c2 c3 ⟨G, S, W, F⟩) (hown : w2.ownsRow (w.heap.size + 2) 3 1 (.slice (some ⟨g', 0, none⟩) (n3 + 1) cap) (n3 + 1) (ints F ++ [.int .i64 k]))
    (hg : u.grownBy w2 (Value.slice A3 n3 c3).ownBlock) (hl : (Value.slice A3 n3 c3).ownBlock = some g' ∨ g' = u.heap.size) :
    PBox w2 t (C4 (some ⟨gG, 0, none⟩) (some ⟨gS, 0, none⟩) (some ⟨gT, 0, none⟩) A3 n n n n3 c0 c1 c2 c3) ∧
    Rec w (w2.setCell ⟨t, 3, none⟩ (.slice (some ⟨g', 0, none⟩) (n3 + 1) cap)) cs t gG gS gT (some ⟨g', 0, none⟩) n (n3 + 1) c0 c1 c2 cap ⟨G, S, W, F ++ [k]⟩ := by
  have hb : PBox w2 t (C4 (some ⟨gG, 0, none⟩) (some ⟨gS, 0, none⟩) (some ⟨gT, 0, none⟩) A3 n n n n3 c0 c1 c2 c3) := h.box.grown hg h.off.2.2.2
  have ho : Off ⟨some ⟨gG, 0, none⟩, some ⟨gS, 0, none⟩, some ⟨gT, 0, none⟩, some ⟨g', 0, none⟩, n, n, n, n3 + 1, c0, c1, c2, cap⟩ t := by
    refine ⟨h.off.1, h.off.2.1, h.off.2.2.1, fun a ha => ?_⟩
    dsimp only at ha
    simp only [Option.some.injEq] at ha
    subst ha
    dsimp only
    rcases hl with h1 | rfl
    · obtain ⟨x, hx, hy⟩ := own_block_addr h1
      have := h.off.2.2.2 x hx
      omega
    · have := h.box.lt
      omega
  refine ⟨hb, ⟨(h.two.grown hg fun a ha => (own_addr h.own.f a ha).1).far h.ge _ _, (h.own.grown hown hg hl).box ho _ _, ?_, ho, h.ge⟩⟩
  exact hb.set 3 _
end

set_option maxHeartbeats 4000000 in
theorem reclaim_any (p : Pl) (P : PL) (B : Nat) (b : Bool) (upto : Int) (w : World) (hr : Reads w B p P) (hB : B ≤ w.heap.size) (hm : Small p) (hb : Hid (b = true ↔ MayBe P)) :
    Calls Try.prog 23 #[p.val, .int .i64 upto] w (Tell2 w (recQ b P upto) (recN b P upto)) := by
  obtain ⟨i0, hi0, hz0, hz1, hz2⟩ := info_parts Try.info3
  have H1 := hide hi0
  have H2 := hide hz0
  have H3 := hide hz1
  have H4 := hide hz2
  clear hi0 hz0 hz1 hz2
  obtain ⟨A0, A1, A2, A3, n0, n1, n2, n3, c0, c1, c2, c3⟩ := p
  obtain ⟨G, S, W, F⟩ := P
  have HM := hide hm
  obtain ⟨m0, m1, m2, m3⟩ := hm
  dsimp only at m0 m1 m2 m3
  have T0 := hide (Two.first w (C4 A0 A1 A2 A3 n0 n1 n2 n3 c0 c1 c2 c3))
  have R0 := hide (hr.below T0.out.1 hB)
  have HR := hide hr
  have lg := hide (show G.length = n0 by have := hr.g.1; simpa using this)
  have ls := hide (show S.length = n1 by have := hr.s.1; simpa using this)
  have lt := hide (show W.length = n2 by have := hr.t.1; simpa using this)
  have lf := hide (show F.length = n3 by have := hr.f.1; simpa using this)
  clear hr
  go_enter Try.func23, Try.ntmps23
  go_wp2_with fail
  refine (mayBe_any ⟨A0, A1, A2, A3, n0, n1, n2, n3, c0, c1, c2, c3⟩ ⟨G, S, W, F⟩ B b _ R0.out (Nat.le_trans hB T0.out.1.size) HM.out hb).mono ?_
  rintro e u1 ⟨rfl, hu1⟩
  have T1 := hide (T0.out.step hu1)
  clear hu1 T0 R0
  have hc := T1.out.2.1.cells
  have hl := T1.out.2.1.lt
  cases b with
  | false =>
    clear hc hl
    obtain ⟨y0, f0, y1, f1, y2, f2, y3, f3⟩ := zero_cells T1.out.2.2
    go_wp2
    refine bodyPost_ret (results_row_tmp rfl _ _ (w.heap.size + 1) 24 _ (0, 0) _ rfl (set4_heap T1.out.2.2 _ _ _ _) Try.underlying24 rfl Try.size24) rfl ⟨noPl, rfl, told_none _ _, set4_below T1.out.1 (by omega) _ _ _ _⟩
  | true =>
    have MB := may_of hb rfl
    obtain ⟨k1, k2, k3, k4, k5, k6⟩ := MB
    dsimp only at k1 k2 k3 k4
    have hn01 : n1 = n0 := by have := lg.out; have := ls.out; omega
    have hn02 : n2 = n0 := by have := lg.out; have := lt.out; omega
    have hn1 : 1 ≤ n0 := by have := lg.out; omega
    have hn64 : n0 ≤ 64 := by have := lg.out; omega
    have HSlot : Hid (∀ k, k < n0 → 0 ≤ G.getD k 0 ∧ G.getD k 0 ≤ 1099511627775) := fun k hk => by
      have := k5 k (by dsimp only; have := lg.out; omega)
      simp only [SlotOk] at this
      omega
    subst hn01
    subst hn02
    clear k1 k2 k3 k4 k5 k6
    obtain ⟨n, rfl⟩ : ∃ n, n = n2 := ⟨_, rfl⟩
    have R1' := hide (HR.out.below T1.out.1 hB)
    have HS1 := hide T1.out.1.size
    go_wp2_with fail
    refine (fresh_any ⟨A0, A1, A2, A3, n, n, n, n3, c0, c1, c2, c3⟩ ⟨G, S, W, F⟩ B _ R1'.out (Nat.le_trans hB HS1.out) HM.out).mono ?_
    rintro e u2 ⟨q, rfl, hq, hu2⟩
    have T2 := hide (T1.out.step hu2)
    clear hc hl
    obtain ⟨a0, a1, a2, a3, p0, p1, p2, p3, d0, d1, d2, d3⟩ := q
    obtain rfl : n = p0 := by have : G.length = p0 := by simpa using hq.g.1
                              have := lg.out; omega
    obtain rfl : n = p1 := by have : S.length = p1 := by simpa using hq.s.1
                              have := ls.out; omega
    obtain rfl : n = p2 := by have : W.length = p2 := by simpa using hq.t.1
                              have := lt.out; omega
    obtain rfl : n3 = p3 := by have : F.length = p3 := by simpa using hq.f.1
                               have := lf.out; omega
    obtain ⟨gG, hG⟩ := own_some hq.g (by dsimp only; omega)
    obtain ⟨gS, hS⟩ := own_some hq.s (by dsimp only; omega)
    obtain ⟨gT, hT⟩ := own_some hq.t (by dsimp only; omega)
    dsimp only at hG hS hT
    subst hG
    subst hS
    subst hT
    have s1 := T1.out.size
    have HRec0 : Hid (Rec w (u2.alloc (.cells (C4 (some ⟨gG, 0, none⟩) (some ⟨gS, 0, none⟩) (some ⟨gT, 0, none⟩) a3 n n n n3 d0 d1 d2 d3) 24)) (C4 A0 A1 A2 A3 n n n n3 c0 c1 c2 c3) u2.heap.size gG gS gT a3 n n3 d0 d1 d2 d3 ⟨G, S, W, F⟩) :=
      ⟨T2.out.alloc _, (hq.less s1).alloc _, PBox.new u2 _, hq.off (Nat.le_refl _), T2.out.size⟩
    have hc := T2.out.2.1.cells
    have hl := T2.out.2.1.lt
    obtain ⟨t, HTE⟩ : ∃ t, Hid (u2.heap.size = t) := ⟨_, rfl⟩
    clear hq hu2
    go_wp2
    rw [HTE.out]
    rw [HTE.out] at HRec0
    clear hc hl HTE
    go_loopw [7, 19] (fun c i wr => ∃ (k m m3' : Nat) (A3' : Option Addr) (c3' : Nat) (G' S' W' F' : List Int), k ≤ n ∧ i = .int .i64 k ∧ c = .int .i64 m ∧ m ≤ k ∧ m3' ≤ n3 + k ∧ Hid (recP ⟨G, S, W, F⟩ upto k = ⟨G', S', W', F'⟩) ∧ Hid (recC ⟨G, S, W, F⟩ upto k = m) ∧ Hid (Rec w wr (C4 A0 A1 A2 A3 n n n n3 c0 c1 c2 c3) t gG gS gT A3' n m3' d0 d1 d2 c3' ⟨G', S', W', F'⟩))
      (fun _ i _ => n - (intOf i).toNat)
    case atStart => exact ⟨0, 0, n3, a3, d3, G, S, W, F, by omega, rfl, rfl, by omega, by omega, rfl, rfl, HRec0⟩
    case round =>
      obtain ⟨k, m, m3', A3', c3', G', S', W', F', hk, rfl, rfl, hmk, hm3, HP, HC, HRec⟩ := hrel
      clear HRec0 T1 T2 R1'
      have hc := HRec.out.two.2.1.cells
      have hl := HRec.out.two.2.1.lt
      by_cases hlt : k < n
      · have R2 := HR.out.below HRec.out.two.1 hB
        obtain ⟨bG, oG, eG, hbG, cG⟩ := R2.g.at_ hlt
        obtain ⟨bS, oS, eS, hbS, cS⟩ := R2.s.at_ hlt
        obtain ⟨bT, oT, eT, hbT, cT⟩ := R2.t.at_ hlt
        dsimp only at eG eS eT cG cS cT
        subst eG
        subst eS
        subst eT
        obtain ⟨sv, ES⟩ : ∃ sv, Hid (S.getD k 0 = sv) := ⟨_, rfl⟩
        obtain ⟨gv, EG⟩ : ∃ gv, Hid (G.getD k 0 = gv) := ⟨_, rfl⟩
        obtain ⟨tv, ET⟩ : ∃ tv, Hid (W.getD k 0 = tv) := ⟨_, rfl⟩
        have hg1 := (HSlot.out k hlt).1
        have hg2 := (HSlot.out k hlt).2
        rw [EG.out] at cG hg1 hg2
        rw [ES.out] at cS
        rw [ET.out] at cT
        have HG' : Hid (G'.getD k 0 = gv) := by
          have := (recP_later ⟨G, S, W, F⟩ upto k k (Nat.le_refl _)).1
          rw [HP.out] at this
          exact this.trans EG.out
        clear R2
        by_cases t1 : sv = 2
        · by_cases t2 : tv ≤ upto
          · have e1 : (sv != 2) = false := by simpa using t1
            have e2 : decide (upto < tv) = false := by simp; omega
            by_cases t3 : gv < 1099511627775
            · have HD : Hid (Due ⟨G, S, W, F⟩ upto k) := ⟨ES.out.trans t1, by show W.getD k 0 ≤ upto; rw [ET.out]; exact t2, by show G.getD k 0 < _; rw [EG.out]; exact t3⟩
              clear t1
              go_wp2_with fail
              refine (isGen_yes _ _ _ (by omega) (by omega) (by omega) (by omega)).mono ?_
              rintro e w' ⟨rfl, rfl⟩
              have hcb := HRec.out.box.cells
              have hlb := HRec.out.box.lt
              have x1 := own_at HRec.out.own.s hlt
              have x2 := HRec.out.own.s.frozenAt k
              have x3 := (own_ge HRec.out.own.s).2
              have x4 := own_at HRec.out.own.t hlt
              have x5 := HRec.out.own.t.frozenAt k
              have x6 := (own_ge HRec.out.own.t).2
              have x7 := own_at HRec.out.own.g hlt
              have x8 := HRec.out.own.g.frozenAt k
              have x9 := (own_ge HRec.out.own.g).2
              dsimp only at x1 x2 x3 x4 x5 x6 x7 x8 x9
              rw [HG'.out] at x7
              generalize S'.getD k 0 = sx at x1
              generalize W'.getD k 0 = tx at x4
              have HMid := hide (HRec.out.mid k (gv + 1))
              have HSz : Hid (w.heap.size + 2 ≤ (Mid wr gG gS gT k (gv + 1)).heap.size) := by have := HRec.out.two.size; show _ ≤ _; simp; omega
              have ne1 := hide (HRec.out.own.gs _ _ rfl rfl)
              have ne2 := hide (HRec.out.own.gt _ _ rfl rfl)
              have ne3 := hide (HRec.out.own.st _ _ rfl rfl)
              have n1 : gG ≠ gS := ne1.out
              have n2 : gG ≠ gT := ne2.out
              have n3 : gS ≠ gT := ne3.out
              have n1' : gS ≠ gG := n1.symm
              have n2' : gT ≠ gG := n2.symm
              have n3' : gT ≠ gS := n3.symm
              have n4 : gG ≠ t := HRec.out.off.1 _ rfl
              have n5 : gS ≠ t := HRec.out.off.2.1 _ rfl
              have n6 : gT ≠ t := HRec.out.off.2.2.1 _ rfl
              have n4' : t ≠ gG := n4.symm
              have n5' : t ≠ gS := n5.symm
              have n6' : t ≠ gT := n6.symm
              have sz := HRec.out.two.size
              go_wp2_with (at_builtin; refine wpList_append_lies _ rfl _ _ 22 rfl (w.heap.size + 2) 3 i0 (.int .i64 0) 1 8 Try.underlying22 H1.out H2.out H3.out H4.out rfl (by decide) _ m3' _ rfl HMid.out.own.f ⟨wr.heap.size, 0, none⟩ 1 1 [.int .i64 (k : Int)] rfl rfl (cells_new _ _ _ _ (by simp)) (ints_oneCell .i64 [(k : Int)]) (by decide) (by simp only [maxLen]; omega) (by omega) HSz.out _ rfl ?_; intro g' cap w2 hown hg hl hlt2; have HGr := hide (HMid.out.grown hown hg hl); have hcb := HGr.out.1.cells; have hlb := HGr.out.1.lt; have hfb := HGr.out.1.frozen; clear hown hg hl)
              go_roundw
              case rel => exact ⟨k + 1, m + 1, m3' + 1, some ⟨g', 0, none⟩, cap, _, _, _, _, by omega, by go_num, by go_num, by omega, by omega, by show _ = _; rw [recP, if_pos HD.out, recOne, HP.out]; rw [HG'.out], by show _ = _; rw [recC, if_pos HD.out, HC.out], HGr.out.2⟩
              case measure => simp [intOf]; omega
            · have HD : Hid (¬ Due ⟨G, S, W, F⟩ upto k) := fun h => t3 (EG.out ▸ h.2.2)
              clear t1
              have HGN : Hid ((k : Int) < 0 ∨ 1024 ≤ (k : Int) ∨ gv + 1 < 0 ∨ 1099511627776 ≤ gv + 1) := by show _ ∨ _; omega
              go_wp2_with fail
              refine (isGen_no _ _ _ HGN).mono ?_
              rintro e w' ⟨rfl, rfl⟩
              go_wp2
              go_roundw
              case rel => exact ⟨k + 1, m, m3', A3', c3', G', S', W', F', by omega, by go_num, rfl, by omega, by omega, by show _ = _; rw [recP, if_neg HD.out]; exact HP.out, by show _ = _; rw [recC, if_neg HD.out]; exact HC.out, HRec⟩
              case measure => simp [intOf]; omega
          · have HD : Hid (¬ Due ⟨G, S, W, F⟩ upto k) := fun h => t2 (ET.out ▸ h.2.1)
            have e1 : (sv != 2) = false := by simpa using t1
            have e2 : decide (upto < tv) = true := by simp; omega
            clear t1
            go_wp2
            go_roundw
            case rel => exact ⟨k + 1, m, m3', A3', c3', G', S', W', F', by omega, by go_num, rfl, by omega, by omega, by show _ = _; rw [recP, if_neg HD.out]; exact HP.out, by show _ = _; rw [recC, if_neg HD.out]; exact HC.out, HRec⟩
            case measure => simp [intOf]; omega
        · have HD : Hid (¬ Due ⟨G, S, W, F⟩ upto k) := fun h => t1 (ES.out ▸ h.1)
          have e1 : (sv != 2) = true := by simpa using t1
          clear t1
          go_wp2
          go_roundw
          case rel => exact ⟨k + 1, m, m3', A3', c3', G', S', W', F', by omega, by go_num, rfl, by omega, by omega, by show _ = _; rw [recP, if_neg HD.out]; exact HP.out, by show _ = _; rw [recC, if_neg HD.out]; exact HC.out, HRec⟩
          case measure => simp [intOf]; omega
      · have HKN : Hid (k = n) := by show _ = _; omega
        have hcb := HRec.out.box.cells
        have hlb := HRec.out.box.lt
        obtain ⟨y0, f0, y1, f1, y2, f2, y3, f3⟩ := zero_cells HRec.out.two.2.2
        have HT := hide ((HRec.out.own.set4 (k := w.heap.size + 1) (by omega) (.slice (some ⟨gG, 0, none⟩) n d0) (.slice (some ⟨gS, 0, none⟩) n d1) (.slice (some ⟨gT, 0, none⟩) n d2) (.slice A3' m3' c3')).told.less (by omega : w.heap.size ≤ w.heap.size + 2))
        have HQ : Hid (recQ true ⟨G, S, W, F⟩ upto = ⟨G', S', W', F'⟩) := by show recP _ _ G.length = _; rw [lg.out, ← HKN.out]; exact HP.out
        have HN : Hid (recN true ⟨G, S, W, F⟩ upto = (m : Int)) := by show ((recC _ _ G.length : Nat) : Int) = _; rw [lg.out, ← HKN.out, HC.out]
        go_wp2
        refine bodyPost_ret (results_row_tmp rfl _ _ (w.heap.size + 1) 24 _ (0, 0) _ rfl (set4_heap HRec.out.two.2.2 _ _ _ _) Try.underlying24 rfl Try.size24) rfl ⟨⟨some ⟨gG, 0, none⟩, some ⟨gS, 0, none⟩, some ⟨gT, 0, none⟩, A3', n, n, n, m3', d0, d1, d2, c3'⟩, by rw [HN.out]; rfl, by rw [HQ.out]; exact HT.out, set4_below HRec.out.two.1 (by omega) _ _ _ _⟩

end Go.Proofs.Ytfdbbfjnianahaa
