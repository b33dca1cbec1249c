/- An edge is seen from both its ends, and from no other node. (The statement tendrillaw10.GraphEdges.) -/
import Derived.Test.YthjoeologpkbbaaRows
import Derived.Test.YthjoeologpkbbaaLMath
import Derived.Test.YthjoeologpkbbaaGLive
import Derived.Test.YthjoeologpkbbaaFrame
import Derived.WalkKit
import Derived.Below
import Derived.Deep.QuietTactic
import Derived.BigQuiet
import Derived.Deep.DeepCutAuto
import Derived.Shelf.Abstract
namespace Go.Proofs.Ythjoeologpkbbaa.graphEdges
open Go.Joins Go.ChangeShapes Go.WideShapes Go.ChangeAt Go.RowKit Go.Deep
set_option linter.unusedVariables false

open Go.Proofs.Ythjoeologpkbbaa
theorem isN_at {G : GL} {c0 c1 c2 c3 c4 : Int} {k : Nat} (o : Okg c0 c1 c2 c3 c4 G) (hk : k < G.N.length) : isN G (G.N.getD k (0, [])).1 = true := by
  have h : atf (fun z : Nd => z.1) G.N (G.N.getD k (0, [])).1 = k := atf_here (d := (0, [])) hk (fun j hj e => by have := o.nr.lt k j hj hk; omega) rfl
  unfold isN
  rw [h]
  simp
theorem sum_le {l : List Nat} {B : Nat} (h : ∀ x ∈ l, x ≤ B) : l.sum ≤ l.length * B := by
  induction l with
  | nil => simp
  | cons a l ih => have h1 := ih fun x hx => h x (by simp [hx]); have h2 := h a (by simp); simp only [List.sum_cons, List.length_cons, Nat.add_mul, Nat.one_mul]; omega
theorem outsN_le (G : GL) (k : Nat) : outsN G k ≤ k * G.E.length := by
  refine Nat.le_trans (sum_le (B := G.E.length) fun x hx => ?_) (Nat.mul_le_mul_right _ (by simp; omega))
  obtain ⟨z, _, rfl⟩ := List.mem_map.1 hx
  exact outs_le _
theorem insN_le (G : GL) (k : Nat) : insN G k ≤ k * G.E.length := by
  refine Nat.le_trans (sum_le (B := G.E.length) fun x hx => ?_) (Nat.mul_le_mul_right _ (by simp; omega))
  obtain ⟨z, _, rfl⟩ := List.mem_map.1 hx
  exact ins_le _

set_option maxRecDepth 100000 in
set_option maxHeartbeats 8000000 in
theorem walk (n0 e0 p0 i0 j0 : Int) (v1 : Gv) (G1 : GL) (w : World) (w1 : Sees w w.heap.size v1 G1) (s1 : v1.N.n ≤ 9223372036854775807) (t1 : v1.E.n ≤ 9223372036854775807) (u1 : ∀ j, j < G1.N.length → (G1.N.getD j (0, [])).2.length ≤ 9223372036854775807) :
    Calls Try.prog 7 #[.agg #[.int .i64 n0, .int .i64 e0, .int .i64 p0, .int .i64 i0, .int .i64 j0], v1.val] w (Drew (.bool true) w) := by
  obtain ⟨⟨nA, nn, nc⟩, ⟨eA, en, ec⟩, x, y⟩ := v1
  have SW := hide w1
  have HN := hide s1
  have HE := hide t1
  have HP := hide u1
  clear w1 s1 t1 u1
  show Calls Try.prog 7 #[.agg #[.int .i64 n0, .int .i64 e0, .int .i64 p0, .int .i64 i0, .int .i64 j0], .agg #[.slice nA nn nc, .slice eA en ec, .int .i64 x, .int .i64 y]] w _
  obtain ⟨W, hW⟩ : ∃ W, Hid ((w.alloc (.cells #[.int .i64 n0, .int .i64 e0, .int .i64 p0, .int .i64 i0, .int .i64 j0] 23)).alloc (.cells #[.slice nA nn nc, .slice eA en ec, .int .i64 x, .int .i64 y] 27) = W) := ⟨_, rfl⟩
  have BB : Hid (Bx2 w W #[.int .i64 n0, .int .i64 e0, .int .i64 p0, .int .i64 i0, .int .i64 j0] #[.slice nA nn nc, .slice eA en ec, .int .i64 x, .int .i64 y]) := by show Bx2 _ _ _ _; rw [← hW.out]; exact ⟨boxed2 w _ _, heap_alloc2_old w _ _, heap_alloc2_new w _ _⟩
  obtain ⟨q, hq⟩ := bool_of (FewG G1 ∧ Okg n0 e0 p0 i0 j0 G1)
  have HQ := hide hq
  clear hq
  go_enter Try.func7, Try.ntmps7
  go_upto_region 1 with fail
  have hW' := hW.out
  rw [hW']
  clear hW hW'
  go_wp2_with fail
  refine (live_any W).mono ?_
  rintro e u1 ⟨rfl, hu⟩
  have BB1 := hide (BB.out.step hu)
  clear hu BB
  obtain ⟨hc, hg, lc, lg⟩ := BB1.out.cells
  go_wp2_with fail
  refine (may_any n0 e0 p0 i0 j0 ⟨⟨nA, nn, nc⟩, ⟨eA, en, ec⟩, x, y⟩ G1 q u1 ((SW.out.below BB1.out.bel (Nat.le_refl _)).more BB1.out.bel.size) HN.out HE.out HP.out HQ).mono ?_
  rintro e u2 ⟨rfl, hu⟩
  have BB2 := hide (BB1.out.step hu)
  clear hu BB1 hc hg lc lg
  cases q
  · go_wp2
    go_ret
    exact ⟨rfl, BB2.out.bel⟩
  · have HF : Hid (FewG G1) := (HQ.out.1 rfl).1
    have HO : Hid (Okg n0 e0 p0 i0 j0 G1) := (HQ.out.1 rfl).2
    have HS : Hid (Small G1) := HO.out.small HF.out
    have LN : Hid (G1.N.length = nn) := SW.out.nodes.1
    have LE : Hid (en = G1.E.length) := edges_len SW.out.edges
    have hnn : nn ≤ 100 := by have := HF.out.2.1; have := LN.out; omega
    have hen : en ≤ 100 := by have := HF.out.2.2; have := LE.out; omega
    clear HN HE HP HQ
    obtain ⟨hc, hg, lc, lg⟩ := BB2.out.cells
    go_wp2
    clear hc hg lc lg
    go_loopw [5, 6, 31] (fun a b i wx => ∃ k : Nat, k ≤ nn ∧ i = .int .i64 k ∧ a = .int .i64 (outsN G1 k : Nat) ∧ b = .int .i64 (insN G1 k : Nat) ∧ Hid (Bx2 w wx #[.int .i64 n0, .int .i64 e0, .int .i64 p0, .int .i64 i0, .int .i64 j0] #[.slice nA nn nc, .slice eA en ec, .int .i64 x, .int .i64 y])) (fun _ _ i _ => nn - (intOf i).toNat)
    case atStart => exact ⟨0, by omega, rfl, rfl, rfl, BB2⟩
    case round =>
      obtain ⟨k, hk, rfl, rfl, rfl, BR⟩ := hrel
      clear BB2
      by_cases hlt : k < nn
      · obtain ⟨b1, off, e, hb1, d0, ⟨hA, hh, hcc⟩, d1, hP⟩ := SW.out.nodes.at_ hlt
        dsimp only at e d1
        subst e
        have HK : Hid (k < G1.N.length) := by have := LN.out; show _ < _; omega
        have HIS := hide (isN_at HO.out HK.out)
        have hok : outsN G1 k ≤ 10000 := by have := outsN_le G1 k; have := LE.out; have : k * G1.E.length ≤ 100 * 100 := Nat.mul_le_mul (by omega) (by omega); omega
        have hik : insN G1 k ≤ 10000 := by have := insN_le G1 k; have := LE.out; have : k * G1.E.length ≤ 100 * 100 := Nat.mul_le_mul (by omega) (by omega); omega
        obtain ⟨z, HZ⟩ : ∃ z, Hid ((G1.N.getD k (0, [])).1 = z) := ⟨_, rfl⟩
        have HZ' := HZ.out
        rw [HZ'] at d0 HIS
        clear HZ'
        obtain ⟨ok, HOK⟩ : ∃ p, Hid (outsN G1 k = p) := ⟨_, rfl⟩
        obtain ⟨ik, HIK⟩ : ∃ p, Hid (insN G1 k = p) := ⟨_, rfl⟩
        have HOK' := HOK.out
        have HIK' := HIK.out
        rw [HOK'] at hok ⊢
        rw [HIK'] at hik ⊢
        clear HOK' HIK'
        have k0 := (BR.out.bel.cell (p := ⟨b1, _, none⟩) hb1).trans d0
        have k1 := (BR.out.bel.cell (p := ⟨b1, _, none⟩) hb1).trans d1
        clear d0 d1 hP
        go_upto_region 9 with fail
        clear k0 k1
        obtain ⟨U, hU⟩ : ∃ U, Hid (wr.alloc (.cells #[.int .i64 z, .slice hA hh hcc] 58) = U) := ⟨_, rfl⟩
        obtain ⟨gn, hgn⟩ : ∃ g, Hid (wr.heap.size = g) := ⟨_, rfl⟩
        have BU : Hid (Bx2 w U #[.int .i64 n0, .int .i64 e0, .int .i64 p0, .int .i64 i0, .int .i64 j0] #[.slice (some ⟨b1, off, none⟩) nn nc, .slice eA en ec, .int .i64 x, .int .i64 y]) := by show Bx2 _ _ _ _; rw [← hU.out]; exact BR.out.al _
        have HNd : Hid (U.heap[gn]? = some (.cells #[.int .i64 z, .slice hA hh hcc] 58 (0, 0))) := by show _ = _; rw [← hU.out, ← hgn.out]; exact heap_alloc_new _ _
        have hU' := hU.out
        have hg' := hgn.out
        rw [hU', hg']
        clear hU hgn hU' hg' BR
        have SWU := hide ((SW.out.below BU.out.bel (Nat.le_refl _)).more BU.out.bel.size)
        obtain ⟨hc, hg, lc, lg⟩ := BU.out.cells
        obtain ⟨t0, -, t1⟩ := bx_all HNd.out
        go_wp2_with fail
        refine (near_any ⟨⟨some ⟨b1, off, none⟩, nn, nc⟩, ⟨eA, en, ec⟩, x, y⟩ G1 (outs G1 z) (ins G1 z) z 0 U SWU.out HS.out (hide (nearR_ok HIS.out))).mono ?_
        rintro e uu3 ⟨⟨oA, on, oc⟩, ⟨iA, im, ic⟩, rfl, ho, hi, hb⟩
        have BB3 := hide (BU.out.step hb.out)
        have HN3 := hide (bx_step HNd.out hb.out)
        have SW3 := hide (SWU.out.step hb.out)
        have P3 : Hid (Props uu3 uu3.heap.size ⟨oA, on, oc⟩ (outs G1 z)) := ⟨own_nums ho.out, own_nil_cap ho.out⟩
        have Pi : Hid (Props uu3 uu3.heap.size ⟨iA, im, ic⟩ (ins G1 z)) := ⟨own_nums hi.out, own_nil_cap hi.out⟩
        have LO : Hid (on = (outs G1 z).length) := P3.out.len
        have LI : Hid (im = (ins G1 z).length) := Pi.out.len
        have hon : on ≤ 100 := by have := LO.out; have := outs_le (G := G1) z; have := LE.out; omega
        have him : im ≤ 100 := by have := LI.out; have := ins_le (G := G1) z; have := LE.out; omega
        clear hb ho hi hc hg lc lg t0 t1 BU HNd SWU
        go_wp2
        go_loopw [55] (fun i wx => ∃ m : Nat, m ≤ on ∧ i = .int .i64 m ∧ Hid (Below uu3.heap.size uu3 wx)) (fun i _ => on - (intOf i).toNat)
        case atStart => exact ⟨0, by omega, rfl, Below.refl _ _⟩
        case round =>
          obtain ⟨m, hm, rfl, HB⟩ := hrel
          by_cases hml : m < on
          · obtain ⟨qb, qo, qe, hqb, d0, d1⟩ := P3.out.at_ hml
            dsimp only at qe d0 d1
            subst qe
            have HM : Hid (m < (outs G1 z).length) := by have := P3.out.len; dsimp only at this; show _ < _; omega
            have HME := hide (outs_mem HM.out)
            generalize ((outs G1 z).getD m (0, 0)).1 = z1 at d0 HME
            generalize ((outs G1 z).getD m (0, 0)).2 = z2 at d1 HME
            have q0 := (HB.out.cell (p := ⟨qb, _, none⟩) hqb).trans d0
            have q1 := (HB.out.cell (p := ⟨qb, _, none⟩) hqb).trans d1
            clear d0 d1
            go_upto_region 17 with fail
            clear q0 q1
            obtain ⟨V, hV⟩ : ∃ V, Hid (wr.alloc (.cells #[.int .i64 z1, .int .i64 z2] 61) = V) := ⟨_, rfl⟩
            obtain ⟨gv, hgv⟩ : ∃ g, Hid (wr.heap.size = g) := ⟨_, rfl⟩
            have BV : Hid (Below uu3.heap.size uu3 V) := by show Below _ _ _; rw [← hV.out]; exact HB.out.alloc HB.out.size _
            have HV : Hid (V.heap[gv]? = some (.cells #[.int .i64 z1, .int .i64 z2] 61 (0, 0))) := by show _ = _; rw [← hV.out, ← hgv.out]; exact heap_alloc_new _ _
            have hV' := hV.out
            have hg' := hgv.out
            rw [hV', hg']
            clear hV hgv hV' hg'
            have BBV := hide (BB3.out.step BV.out)
            have HNV := hide (bx_step HN3.out BV.out)
            have SWV := hide (SW3.out.step BV.out)
            obtain ⟨hc, hg, lc, lg⟩ := BBV.out.cells
            go_wp2
            clear hc hg lc lg
            go_loopw [14, 62] (fun c i wx => ∃ p : Nat, p ≤ en ∧ i = .int .i64 p ∧ c = .int .i64 (metN G1.E p (z1, z, z2) : Nat) ∧ Hid (Below V.heap.size V wx)) (fun _ i _ => en - (intOf i).toNat)
            case atStart => exact ⟨0, by omega, rfl, rfl, Below.refl _ _⟩
            case round =>
              obtain ⟨p, hp, rfl, rfl, HBp⟩ := hrel
              by_cases hpl : p < en
              · obtain ⟨rb, ro, re, hrb, f0, f1, f2⟩ := edge_at SWV.out.edges hpl
                dsimp only at re
                subst re
                have HMS := hide (metN_succ (e := (z1, z, z2)) (show p < G1.E.length by have := LE.out; omega))
                have hcn : metN G1.E p (z1, z, z2) ≤ 1000 := by have : metN G1.E p (z1, z, z2) ≤ G1.E.length := by { unfold metN; exact Nat.le_trans List.countP_le_length (List.length_take_le' _ _) }; have := LE.out; omega
                obtain ⟨cn, hcn'⟩ : ∃ c, Hid (metN G1.E p (z1, z, z2) = c) := ⟨_, rfl⟩
                have hcn'' := hcn'.out
                rw [hcn''] at hcn HMS ⊢
                clear hcn''
                have HED : Hid (G1.E.getD p (0, 0, 0) = ((G1.E.getD p (0, 0, 0)).1, (G1.E.getD p (0, 0, 0)).2.1, (G1.E.getD p (0, 0, 0)).2.2)) := rfl
                have HMS' := HMS.out
                rw [HED.out] at HMS'
                have HMT := hide HMS'
                clear HMS HMS' HED
                generalize (G1.E.getD p (0, 0, 0)).1 = y1 at f0 HMT
                generalize (G1.E.getD p (0, 0, 0)).2.1 = y2 at f1 HMT
                generalize (G1.E.getD p (0, 0, 0)).2.2 = y3 at f2 HMT
                have g0 := (HBp.out.cell (p := ⟨rb, _, none⟩) hrb).trans f0
                have g1 := (HBp.out.cell (p := ⟨rb, _, none⟩) hrb).trans f1
                have g2 := (HBp.out.cell (p := ⟨rb, _, none⟩) hrb).trans f2
                clear f0 f1 f2
                go_upto_region 21 with fail
                clear g0 g1 g2
                obtain ⟨T, hT⟩ : ∃ T, Hid (wr.alloc (.cells #[.int .i64 y1, .int .i64 y2, .int .i64 y3] 63) = T) := ⟨_, rfl⟩
                obtain ⟨gt, hgt⟩ : ∃ g, Hid (wr.heap.size = g) := ⟨_, rfl⟩
                have BT : Hid (Below V.heap.size V T) := by show Below _ _ _; rw [← hT.out]; exact HBp.out.alloc HBp.out.size _
                have HT : Hid (T.heap[gt]? = some (.cells #[.int .i64 y1, .int .i64 y2, .int .i64 y3] 63 (0, 0))) := by show _ = _; rw [← hT.out, ← hgt.out]; exact heap_alloc_new _ _
                have hT' := hT.out
                have hg' := hgt.out
                rw [hT', hg']
                clear hT hgt hT' hg'
                obtain ⟨t0, -, t1⟩ := bx_all HT.out
                obtain ⟨t2, -, t3⟩ := bx_all (bx_step HV.out BT.out)
                obtain ⟨t4, -, t5⟩ := bx_all (bx_step HNV.out BT.out)
                cases hb : (((y1, y2, y3) : Ed) == (z1, z, z2))
                · have HMF : Hid (cn = metN G1.E (p + 1) (z1, z, z2)) := by show _ = _; rw [HMT.out, hb]; rfl
                  have hb' : (y1 == z1 && y2 == z && y3 == z2) = false := by rw [← hb, Bool.eq_iff_iff]; simp [and_assoc]
                  have he : ∀ u : World, (Op.equalIn 10000 63 (.agg #[.int .i64 y1, .int .i64 y2, .int .i64 y3]) (.agg #[.int .i64 z1, .int .i64 z, .int .i64 z2])).run Try.prog u = .ok false u := fun u => by rw [eq63, hb']
                  clear hb hb' HMT
                  go_wp2
                  go_roundw
                  case rel => exact ⟨p + 1, by omega, by go_num, by rw [← HMF.out], BT⟩
                  case measure => simp [intOf]; omega
                · have HMF : Hid (cn + 1 = metN G1.E (p + 1) (z1, z, z2)) := by show _ = _; rw [HMT.out, hb]; rfl
                  have hb' : (y1 == z1 && y2 == z && y3 == z2) = true := by rw [← hb, Bool.eq_iff_iff]; simp [and_assoc]
                  have he : ∀ u : World, (Op.equalIn 10000 63 (.agg #[.int .i64 y1, .int .i64 y2, .int .i64 y3]) (.agg #[.int .i64 z1, .int .i64 z, .int .i64 z2])).run Try.prog u = .ok true u := fun u => by rw [eq63, hb']
                  clear hb hb' HMT
                  go_wp2
                  go_roundw
                  case rel => exact ⟨p + 1, by omega, by go_num, by rw [← HMF.out]; go_num, BT⟩
                  case measure => simp [intOf]; omega
              · obtain rfl : p = en := by omega
                have HM1 : Hid (metN G1.E p (z1, z, z2) = 1) := by
                  show _ = _
                  have := metN_all HO.out HME.out
                  rwa [← LE.out] at this
                rw [HM1.out]
                go_wp2
                go_roundw
                case rel => exact ⟨m + 1, by omega, by go_num, hide (BV.out.trans (HBp.out.mono BV.out.size))⟩
                case measure => simp [intOf]; omega
          · obtain rfl : m = on := by omega
            go_wp2
            obtain ⟨uu4, huu4⟩ : ∃ u, Hid (wr = u) := ⟨_, rfl⟩
            have huu4' := huu4.out
            rw [huu4'] at HB ⊢
            have BB4 := hide (BB3.out.step HB.out)
            have HN4 := hide (bx_step HN3.out HB.out)
            have SW4 := hide (SW3.out.step HB.out)
            have P4 : Hid (Props uu4 uu4.heap.size ⟨iA, im, ic⟩ (ins G1 z)) := (Pi.out.below HB.out (Nat.le_refl _)).more HB.out.size
            clear BB3 HN3 SW3 Pi HB huu4 huu4' P3
            go_loopw [83] (fun i wx => ∃ m2 : Nat, m2 ≤ im ∧ i = .int .i64 m2 ∧ Hid (Below uu4.heap.size uu4 wx)) (fun i _ => im - (intOf i).toNat)
            case atStart => exact ⟨0, by omega, rfl, Below.refl _ _⟩
            case round =>
              obtain ⟨m2, hm2, rfl, HB⟩ := hrel
              by_cases hml : m2 < im
              · obtain ⟨qb, qo, qe, hqb, d0, d1⟩ := P4.out.at_ hml
                dsimp only at qe d0 d1
                subst qe
                have HM : Hid (m2 < (ins G1 z).length) := by have := P4.out.len; dsimp only at this; show _ < _; omega
                have HME := hide (ins_mem HM.out)
                generalize ((ins G1 z).getD m2 (0, 0)).1 = z1 at d0 HME
                generalize ((ins G1 z).getD m2 (0, 0)).2 = z2 at d1 HME
                have q0 := (HB.out.cell (p := ⟨qb, _, none⟩) hqb).trans d0
                have q1 := (HB.out.cell (p := ⟨qb, _, none⟩) hqb).trans d1
                clear d0 d1
                go_upto_region 30 with fail
                clear q0 q1
                obtain ⟨V, hV⟩ : ∃ V, Hid (wr.alloc (.cells #[.int .i64 z1, .int .i64 z2] 61) = V) := ⟨_, rfl⟩
                obtain ⟨gv, hgv⟩ : ∃ g, Hid (wr.heap.size = g) := ⟨_, rfl⟩
                have BV : Hid (Below uu4.heap.size uu4 V) := by show Below _ _ _; rw [← hV.out]; exact HB.out.alloc HB.out.size _
                have HV : Hid (V.heap[gv]? = some (.cells #[.int .i64 z1, .int .i64 z2] 61 (0, 0))) := by show _ = _; rw [← hV.out, ← hgv.out]; exact heap_alloc_new _ _
                have hV' := hV.out
                have hg' := hgv.out
                rw [hV', hg']
                clear hV hgv hV' hg'
                have BBV := hide (BB4.out.step BV.out)
                have HNV := hide (bx_step HN4.out BV.out)
                have SWV := hide (SW4.out.step BV.out)
                obtain ⟨hc, hg, lc, lg⟩ := BBV.out.cells
                go_wp2
                clear hc hg lc lg
                go_loopw [19, 90] (fun c i wx => ∃ p : Nat, p ≤ en ∧ i = .int .i64 p ∧ c = .int .i64 (metN G1.E p (z1, z2, z) : Nat) ∧ Hid (Below V.heap.size V wx)) (fun _ i _ => en - (intOf i).toNat)
                case atStart => exact ⟨0, by omega, rfl, rfl, Below.refl _ _⟩
                case round =>
                  obtain ⟨p, hp, rfl, rfl, HBp⟩ := hrel
                  by_cases hpl : p < en
                  · obtain ⟨rb, ro, re, hrb, f0, f1, f2⟩ := edge_at SWV.out.edges hpl
                    dsimp only at re
                    subst re
                    have HMS := hide (metN_succ (e := (z1, z2, z)) (show p < G1.E.length by have := LE.out; omega))
                    have hcn : metN G1.E p (z1, z2, z) ≤ 1000 := by have : metN G1.E p (z1, z2, z) ≤ G1.E.length := by { unfold metN; exact Nat.le_trans List.countP_le_length (List.length_take_le' _ _) }; have := LE.out; omega
                    obtain ⟨cn, hcn'⟩ : ∃ c, Hid (metN G1.E p (z1, z2, z) = c) := ⟨_, rfl⟩
                    have hcn'' := hcn'.out
                    rw [hcn''] at hcn HMS ⊢
                    clear hcn''
                    have HED : Hid (G1.E.getD p (0, 0, 0) = ((G1.E.getD p (0, 0, 0)).1, (G1.E.getD p (0, 0, 0)).2.1, (G1.E.getD p (0, 0, 0)).2.2)) := rfl
                    have HMS' := HMS.out
                    rw [HED.out] at HMS'
                    have HMT := hide HMS'
                    clear HMS HMS' HED
                    generalize (G1.E.getD p (0, 0, 0)).1 = y1 at f0 HMT
                    generalize (G1.E.getD p (0, 0, 0)).2.1 = y2 at f1 HMT
                    generalize (G1.E.getD p (0, 0, 0)).2.2 = y3 at f2 HMT
                    have g0 := (HBp.out.cell (p := ⟨rb, _, none⟩) hrb).trans f0
                    have g1 := (HBp.out.cell (p := ⟨rb, _, none⟩) hrb).trans f1
                    have g2 := (HBp.out.cell (p := ⟨rb, _, none⟩) hrb).trans f2
                    clear f0 f1 f2
                    go_upto_region 34 with fail
                    clear g0 g1 g2
                    obtain ⟨T, hT⟩ : ∃ T, Hid (wr.alloc (.cells #[.int .i64 y1, .int .i64 y2, .int .i64 y3] 63) = T) := ⟨_, rfl⟩
                    obtain ⟨gt, hgt⟩ : ∃ g, Hid (wr.heap.size = g) := ⟨_, rfl⟩
                    have BT : Hid (Below V.heap.size V T) := by show Below _ _ _; rw [← hT.out]; exact HBp.out.alloc HBp.out.size _
                    have HT : Hid (T.heap[gt]? = some (.cells #[.int .i64 y1, .int .i64 y2, .int .i64 y3] 63 (0, 0))) := by show _ = _; rw [← hT.out, ← hgt.out]; exact heap_alloc_new _ _
                    have hT' := hT.out
                    have hg' := hgt.out
                    rw [hT', hg']
                    clear hT hgt hT' hg'
                    obtain ⟨t0, -, t1⟩ := bx_all HT.out
                    obtain ⟨t2, -, t3⟩ := bx_all (bx_step HV.out BT.out)
                    obtain ⟨t4, -, t5⟩ := bx_all (bx_step HNV.out BT.out)
                    cases hb : (((y1, y2, y3) : Ed) == (z1, z2, z))
                    · have HMF : Hid (cn = metN G1.E (p + 1) (z1, z2, z)) := by show _ = _; rw [HMT.out, hb]; rfl
                      have hb' : (y1 == z1 && y2 == z2 && y3 == z) = false := by rw [← hb, Bool.eq_iff_iff]; simp [and_assoc]
                      have he : ∀ u : World, (Op.equalIn 10000 63 (.agg #[.int .i64 y1, .int .i64 y2, .int .i64 y3]) (.agg #[.int .i64 z1, .int .i64 z2, .int .i64 z])).run Try.prog u = .ok false u := fun u => by rw [eq63, hb']
                      clear hb hb' HMT
                      go_wp2
                      go_roundw
                      case rel => exact ⟨p + 1, by omega, by go_num, by rw [← HMF.out], BT⟩
                      case measure => simp [intOf]; omega
                    · have HMF : Hid (cn + 1 = metN G1.E (p + 1) (z1, z2, z)) := by show _ = _; rw [HMT.out, hb]; rfl
                      have hb' : (y1 == z1 && y2 == z2 && y3 == z) = true := by rw [← hb, Bool.eq_iff_iff]; simp [and_assoc]
                      have he : ∀ u : World, (Op.equalIn 10000 63 (.agg #[.int .i64 y1, .int .i64 y2, .int .i64 y3]) (.agg #[.int .i64 z1, .int .i64 z2, .int .i64 z])).run Try.prog u = .ok true u := fun u => by rw [eq63, hb']
                      clear hb hb' HMT
                      go_wp2
                      go_roundw
                      case rel => exact ⟨p + 1, by omega, by go_num, by rw [← HMF.out]; go_num, BT⟩
                      case measure => simp [intOf]; omega
                  · obtain rfl : p = en := by omega
                    have HM1 : Hid (metN G1.E p (z1, z2, z) = 1) := by
                      show _ = _
                      have := metN_all HO.out HME.out
                      rwa [← LE.out] at this
                    rw [HM1.out]
                    go_wp2
                    go_roundw
                    case rel => exact ⟨m2 + 1, by omega, by go_num, hide (BV.out.trans (HBp.out.mono BV.out.size))⟩
                    case measure => simp [intOf]; omega
              · obtain rfl : m2 = im := by omega
                have BF := hide (BB4.out.step HB.out)
                have HON : Hid (((ok + m : Nat) : Int) = (outsN G1 (k + 1) : Nat)) := by show _ = _; rw [outsN_succ HK.out, HZ.out, HOK.out, ← LO.out]
                have HIN : Hid (((ik + m2 : Nat) : Int) = (insN G1 (k + 1) : Nat)) := by show _ = _; rw [insN_succ HK.out, HZ.out, HIK.out, ← LI.out]
                go_wp2
                go_roundw
                case rel => exact ⟨k + 1, by omega, by go_num, by rw [← HON.out]; go_num, by rw [← HIN.out]; go_num, BF⟩
                case measure => simp [intOf]; omega

      · obtain rfl : k = nn := by omega
        have HO1 : Hid (outsN G1 k = en) := by show _ = _; have := outsN_all HO.out; rw [LN.out, ← LE.out] at this; exact this
        have HI1 : Hid (insN G1 k = en) := by show _ = _; have := insN_all HO.out; rw [LN.out, ← LE.out] at this; exact this
        rw [HO1.out, HI1.out]
        obtain ⟨hc, hg, lc, lg⟩ := BR.out.cells
        go_wp2
        go_ret
        exact ⟨rfl, BR.out.bel⟩

set_option maxRecDepth 100000 in
theorem lifted (os : Os) (started : os.Started) (H : Type) (enc : TypeId × Value → H) :
    ReturnsInHanded {} Try.checked os 7 .any (Rows.graphEdgesSpec.pre6 enc Try.prog Try.f7 Rows.graphEdgesRow.domain false) (Rows.graphEdgesSpec.post enc Try.prog Try.f7 false true false false) := by
  refine returnsInHanded_of_change (C := Try.checked) own started (by kernel_rfl) Try.func7
    (ChangeSpec.witness6 (enc := enc) (C := Try.checked) false ⟨#[], #[.agg #[.int .i64 0, .int .i64 0, .int .i64 0, .int .i64 0, .int .i64 0], .agg #[.slice none 0 0, .slice none 0 0, .int .i64 0, .int .i64 0]], []⟩ 8 (by kernel_rfl) (by kernel_rfl) (by kernel_rfl) (by kernel_rfl)) ?_
  intro W base args ds gs before hval0 hW hcnd _
  have hval : ∀ (j : Nat) t v, Try.f7.params[j]? = some t → args[j]? = some v → Value.okWide Try.prog W .any base t v := hval0
  have hW' := hW
  obtain ⟨p, q, hA0, hV, rfl, hfz, hnd⟩ := hW
  have hA : DataW.TrodAll enc Try.prog W 0 (fun _ => true) true Try.f7.params.toList args.toList ds p := hA0
  rw [Try.params7] at hA hval
  obtain ⟨x0, vs0, d0, ds0, p0_, q0, hargs, rfl, rfl, h0, r0⟩ := trodAll_cons hA
  obtain ⟨x1, vs1, d1, ds1, p1_, q1, rfl, rfl, rfl, h1, r1⟩ := trodAll_cons r0
  obtain ⟨rfl, rfl, rfl⟩ := trodAll_nil r1
  obtain rfl : args = #[x0, x1] := by cases args; simp_all
  obtain ⟨rfl, rfl⟩ := trodVars_none hV
  have lt0 : ∀ x ∈ p0_, x.block < W.heap.size := by obtain ⟨m, hm⟩ := h0; exact DataW.trod_lt m _ _ _ hm
  have lt1 : ∀ x ∈ p1_, x.block < W.heap.size := by obtain ⟨m, hm⟩ := h1; exact DataW.trod_lt m _ _ _ hm
  obtain ⟨n0, e0, p0, i0, j0, rfl⟩ := open_cfg (hval 0 23 x0 rfl rfl) h0
  obtain ⟨v1, G1, rfl, w1, s1, t1, u1, -, -⟩ := open_graph (hval 1 27 x1 rfl rfl) h1
  clear hA0 hval0
  refine (walk n0 e0 p0 i0 j0 v1 G1 W w1 s1 t1 u1).mono fun e W' ⟨he, bel⟩ => ?_
  subst he
  exact ⟨_, rfl, _, _, _, [], _, [], hW', trodAll_mk1 (shut_bool Try.underlying4 _), (trodAll_cons_mk (Below.trod laidOut (by kernel_rfl) (of_decide_eq_true (by kernel_rfl)) h0 bel lt0) (trodAll_cons_mk (Below.trod laidOut (by kernel_rfl) (of_decide_eq_true (by kernel_rfl)) h1 bel lt1) trodAll_mk0)), rfl, bel.frame _, fun h => by cases h⟩

theorem over : Rows.graphEdgesRow.holds Try.pinned (OpenSpec.ofChange Rows.graphEdgesSpec) :=
  OpenClaim.holds_of_wide 7 Try.f7 rfl rfl rfl rfl rfl rfl rfl ⟨rfl, rfl, rfl, rfl, rfl⟩ rfl rfl rfl rfl rfl (by kernel_rfl) Try.func7 (by kernel_rfl)
    (of_decide_eq_true (by kernel_rfl)) (by unfold Func.isWrapper; first | (rw [if_pos (by decide +kernel)]; kernel_rfl) | (rw [if_neg (by decide +kernel)]; exact ⟨rfl, rfl⟩))
    (fun os started H enc _ => lifted os started H enc)

end Go.Proofs.Ythjoeologpkbbaa.graphEdges

namespace Go.Proofs.Ythjoeologpkbbaa
/-- The statement. -/
theorem graphEdges_holds : Rows.GraphEdgesSaid := graphEdges.over
#print axioms graphEdges_holds
end Go.Proofs.Ythjoeologpkbbaa
