/- A step that retires. -/
import Derived.Test.YthficfmakbblkaaPinR
import Derived.Test.YthficfmakbblkaaPinT
import Derived.WalkKit
import Derived.Deep.RegionHeld3
import Derived.Deep.RegionLaw
import Derived.Deep.DeepCutAuto
namespace Go.Proofs.Ythficfmakbblkaa
open Go.Joins Go.ChangeShapes Go.WideShapes Go.ChangeAt Go.RowKit Go.Deep
open Pool (Pl PL MayBe noP noPl Drew Told4 Row upd ints)
set_option linter.unusedVariables false
set_option maxRecDepth 1000000


theorem noSl_n (a : Nat) : noSl.n + a = a := by simp [noSl]
theorem two_few {v : Sl} {a m : Nat} (e : v.n = a) (h : a + m ≤ 1000) : v.n + m ≤ 1000 := by omega
theorem none_len {a ln : Nat} (h : a + 1 = ln) : ([] : List Value).length = (ln - (a + 1)) * 2 := by simp; omega
theorem none_at {u : World} {ad : Addr} : ∀ j v, ([] : List Value)[j]? = some v → u.cell? (ad.add j) = some v := fun j v hv => by simp at hv
theorem erase_few {C : Nat → List (Int × Int)} {j : Nat} (h : ∀ i, (C i).length ≤ j) (a : Nat) : ((C 0).eraseIdx a).length ≤ j := Nat.le_trans (List.length_eraseIdx_le _ _) (h 0)
theorem two_one (x y : Int) : ∀ v ∈ [Value.int .i64 x, Value.int .i64 y], v.oneCell' = true := ints_oneCell .i64 [x, y]
theorem none_one : ∀ v ∈ ([] : List Value), v.oneCell' = true := fun v hv => by cases hv

set_option maxHeartbeats 8000000 in
theorem pcRet (w wr : World) (h g9 g10 TN n2 c2 b0 o0 j NV q t c m ln lc : Nat) (lA : Option Addr) (s : Sh) (X : SL) (pb : List Bool) (R : Nat → Sl) (C : Nat → List (Int × Int)) (U : Nat → Value)
    (S0 : Std w wr h g9 g10 TN s X pb R C lA ln lc j) (NM : Nm wr b0 o0 n2 j NV TN q t c m) (hm : m = 5)
    (Q1 : Act → World → Prop) (Q0 : Exit → Act → World → Prop) (hnext : ∀ a u, WJ w h g9 g10 TN n2 c2 (some ⟨b0, o0, none⟩) (j + 1) a u → Q1 a u) :
    Code.wp Try.prog stepBody (Exit.then Q1 Q0) ⟨#[U 0, .int .i64 (TN : Int), U 2, U 3, U 4, U 5, U 6, .pointer (some ⟨h, 0, none⟩), U 8, .slice (some ⟨g9, 0, none⟩) TN TN, .slice (some ⟨g10, 0, none⟩) TN TN, .slice lA ln lc, U 12, U 13, U 14, U 15, U 16, U 17, U 18, U 19, U 20, U 21, U 22, U 23, U 24, U 25, U 26, U 27, U 28, U 29, U 30, U 31, U 32, U 33, U 34, U 35, U 36, U 37, U 38, U 39, U 40, U 41, U 42, U 43, U 44, U 45, U 46, U 47, U 48, U 49, U 50, U 51, U 52, U 53, U 54, U 55, U 56, U 57, U 58, U 59, U 60, U 61, U 62, U 63, U 64, U 65, U 66, U 67, .slice (some ⟨b0, o0, none⟩) n2 c2, .int .i64 (n2 : Int), .int .i64 (j : Int), U 71, U 72, U 73, U 74, U 75, U 76, U 77, U 78, U 79, U 80, U 81, U 82, U 83, U 84, U 85, U 86, U 87, U 88, U 89, U 90, U 91, U 92, U 93, U 94, U 95, U 96, U 97, U 98, U 99, U 100, U 101, U 102, U 103, U 104, U 105, U 106, U 107, U 108, U 109, U 110, U 111, U 112, U 113, U 114, U 115, U 116, U 117, U 118, U 119, U 120, U 121, U 122, U 123, U 124, U 125, U 126, U 127, U 128, U 129, U 130, U 131, U 132, U 133, U 134, U 135, U 136, U 137, U 138, U 139, U 140, U 141, U 142, U 143, U 144, U 145, U 146, U 147, U 148, U 149, U 150, U 151, U 152, U 153, U 154, U 155, U 156, U 157, U 158, U 159, U 160, U 161, U 162, U 163, U 164, U 165, U 166, U 167, U 168, U 169, U 170, U 171, U 172, U 173, U 174, U 175, U 176, U 177, U 178, U 179, U 180, U 181, U 182, U 183, U 184, U 185, U 186, U 187, U 188, U 189, U 190, U 191, U 192, U 193, U 194, U 195, U 196, U 197, U 198, U 199, U 200, U 201, U 202, U 203, U 204, U 205, U 206, U 207, U 208, U 209, U 210, U 211, U 212, U 213, U 214, U 215, U 216, U 217, U 218, U 219, U 220, U 221, U 222, U 223, U 224, U 225, U 226, U 227, U 228, U 229, U 230, U 231, U 232, U 233, U 234, U 235, U 236, U 237, U 238, U 239, U 240, U 241, U 242, U 243, U 244, U 245, U 246, U 247], []⟩ wr := by
  obtain ⟨hlt, hle, hx0, hB0, r1, r2, r3_, r4, r5, htn, hc3, hm6, r6, t1, t2, hNV, hqb⟩ := NM
  have hj0 : (0 : Int) ≤ (j : Int) := by omega
  have hj1 : (j : Int) < (n2 : Int) := by omega
  have d4 : decide ((NV : Int) < 0) = false := by simp
  have d5 : decide ((j : Int) < (n2 : Int)) = true := by simpa using hj1
  have ht0 : (0 : Int) ≤ (t : Int) := by omega
  have ht1 : (t : Int) < (TN : Int) := by omega
  have hTN : ((TN : Int) == 0) = false := by simp; omega
  have ST0 := hide S0
  have PR := hide S0.pn
  have IR := hide S0.inv
  have LR := hide S0.len
  have HR0 := hide S0.r0
  have CL := hide S0.few
  have HN := hide hnext
  have E1 : Hid ((NV : Int) / 6 = (q : Int)) := by have h := r1; unfold wrap64 at h; show _ = _; omega
  have E2 : Hid ((q : Int) % (TN : Int) = (t : Int)) := by have h := r2; rw [Int.tmod_eq_emod_of_nonneg (by omega)] at h; exact h
  have E3 : Hid ((q : Int) % 3 = (c : Int)) := by have h := r3_; rw [Int.tmod_eq_emod_of_nonneg (by omega)] at h; exact h
  clear S0 hnext r1 r2 r3_ r6
  conv => arg 2; whnf
  have m0 : ((m : Int) == 0) = false := by simp; omega
  have m1 : ((m : Int) == 1) = false := by simp; omega
  have m2 : ((m : Int) == 2) = false := by simp; omega
  have m3 : ((m : Int) == 3) = false := by simp; omega
  have m4 : ((m : Int) == 4) = false := by simp; omega
  have m5 : ((m : Int) == 5) = true := by simp [hm]
  clear hm
  by_cases hz : ln = 0
  · subst hz
    go_wp2_with fail
    have hcast : ((j : Int) + 1) = ((j + 1 : Nat) : Int) := by omega
    rw [hcast]
    clear hcast
    exact HN.out _ _ ⟨s, X, pb, R, C, lA, 0, lc, by omega, std_mk ST0.out PR.out rfl IR.out rfl rfl rfl (fun i => Nat.le_succ_of_le (ST0.out.few i)), fr_mk⟩
  · have dz : ((ln : Int) == 0) = false := by simp; omega
    have HMl : Hid (ln = (C 0).length) := by have h := PR.out.many (i := 0) (by omega); rw [HR0.out] at h; exact h
    have hln : ln ≤ 120 := by have := CL.out 0; have := HMl.out; omega
    obtain ⟨a, ha, hal⟩ : ∃ a : Nat, q % ln = a ∧ a < ln := ⟨q % ln, rfl, Nat.mod_lt _ (by omega)⟩
    have E4 : Hid ((q : Int) % (ln : Int) = (a : Int)) := by show _ = _; rw [← ha]; rfl
    clear ha
    obtain ⟨b, p, hA, hp, hb, hp0, hp1⟩ := PR.out.pair (i := 0) (z := a) (by omega) (by rw [HR0.out]; exact hal)
    have HP := hide hp
    clear hp
    rw [HR0.out] at hA
    dsimp only at hA
    subst hA
    have a0 : (0 : Int) ≤ (a : Int) := by omega
    have a1 : (a : Int) < (ln : Int) := by omega
    go_upto_region 22 with (fail)
    rw [E1.out, E4.out, E2.out, E3.out]
    clear E1 E2 E3 E4 r4 r5 hx0 hNV
    go_upto_region 23 with (fail)
    have hcap : ln ≤ lc := PR.out.cap0 HR0.out
    have a2 : (a : Int) + 1 ≤ (ln : Int) := by omega
    have a3 : (a : Int) ≤ (lc : Int) := by omega
    have a4 : a ≤ lc := by omega
    have a5 : a + 1 ≤ ln := by omega
    have PA := hide (PR.out.alloc (.cells #[.int .i64 p.1, .int .i64 p.2] 54))
    have N1 := hide (PA.out.news0 HR0.out 0 a (by omega))
    have N2 := hide (PA.out.news0 HR0.out (a + 1) (ln - (a + 1)) (by omega))
    have q1 : IntKind.i64.wrap ((a : Int) + 1) = (a : Int) + 1 := by rw [IntKind.wrap_i64]; omega
    have q2 : ((a : Int) + 1).toNat = a + 1 := by omega
    have q4 : (0 : Int) ≤ (a : Int) + 1 := by omega
    have q5 : (a : Int) + 1 ≤ (lc : Int) := by omega
    have q6 : a + 1 ≤ lc := by omega
    have GX : Hid ((wr.alloc (.cells #[.int .i64 p.1, .int .i64 p.2] 54)).heap[wr.heap.size]? = some (.cells #[.int .i64 p.1, .int .i64 p.2] 54 (0, 0))) := heap_alloc_new wr _
    have HB1 : Hid (b < (wr.alloc (.cells #[.int .i64 p.1, .int .i64 p.2] 54)).heap.size) := by show _ < _; simp; omega
    have K1 : Hid (noSl.n + a ≤ 1000) := by show _ ≤ _; simp [noSl]; omega
    have D0 := hide ((Below.refl (wr.alloc (.cells #[.int .i64 p.1, .int .i64 p.2] 54)).heap.size (wr.alloc (.cells #[.int .i64 p.1, .int .i64 p.2] 54))).drew)
    by_cases hce : lc = a + 1
    · have K2 : Hid (a + (ln - (a + 1)) ≤ 1000) := by show _ ≤ _; omega
      have HQL : Hid (a + 1 = ln) := by show _ = _; omega
      have HQ : Hid (a + 1 = (C 0).length) := by have := HMl.out; show _ = _; omega
      have q3 : (lc = a + 1) = True := by rw [hce]; simp
      have q7 : lc - (a + 1) = 0 := by omega
      have HCE := hide hce
      clear hce
      go_region_held3 (fun _ => True) (trivial) (first | ((refine step_app54 _ (by rfl) _ _ (by rfl) (wr.alloc (.cells #[.int .i64 p.1, .int .i64 p.2] 54)).heap.size noSl [] (by rfl) (World.ownsRow_nil _ _ _ _) ⟨b, 0, none⟩ a lc _ (by rfl) N1.out.1 N1.out.2.1 N1.out.2.2 K1.out (Nat.le_refl _) ?_; intro v1 x1 e1 o1 b1; have O1 := hide (own_as54 o1 e1); have B1 := hide (D0.out.trans b1); have F1 := hide (e1.trans (noSl_n a)); have NX := hide (news_step N2.out.2.1 b1 HB1.out); clear e1 o1 b1)) | ((refine step_app54 _ (by rfl) _ _ (by rfl) (wr.alloc (.cells #[.int .i64 p.1, .int .i64 p.2] 54)).heap.size v1 _ (by rfl) O1.out ⟨b, 0, none⟩ (ln - (a + 1)) 0 [] (by rfl) (none_len HQL.out) none_at none_one (two_few F1.out K2.out) B1.out.size ?_; intro v2 x2 e2 o2 b2; have O2 := hide o2; have B2 := hide (B1.out.trans b2); have F2 := hide e2; clear e2 o2 b2)))
      have PT := hide (PA.out.cut (L := (C 0).eraseIdx a) B2.out F2.out O2.out (cut_last HQ.out))
      have OF := hide (off_first PR.out _ O2.out)
      have GX2 : Hid (x2.heap[wr.heap.size]? = some (.cells #[.int .i64 p.1, .int .i64 p.2] 54 (0, 0))) := (B2.out.block _ (by simp)).trans GX.out
      clear O1 B1 F1 NX O2 B2 F2 N1 N2 GX HB1 K1 K2 D0 PA q1 q2 q3 q4 q5 q6 q7 a2 a3 a4 a5 hp0 hp1
      obtain ⟨y1, y2, hE, IN⟩ := inv_retire (wh := p.1) (r := p.2) IR.out HP.out
      have IN := hide IN
      have HE := hide hE
      clear hE
      generalize wr.heap.size = gx at OF GX2 ⊢
      have z0 : x2.cell? ⟨gx, 0, none⟩ = some (.int .i64 p.1) := (cell_of_row x2 gx 0 _ 54 (0, 0) GX2.out).trans rfl
      have z1 : x2.cell? ⟨gx, 1, none⟩ = some (.int .i64 p.2) := (cell_of_row x2 gx 1 _ 54 (0, 0) GX2.out).trans rfl
      go_wp2_with (first | ((with_reducible refine ld31 (.tmp 7) h ?_ s ?_ ?_); (exact rfl); (exact PT.out.st.box)))
      refine (retire_any s X true p.1 p.2 _ PT.out.st.sees IR.out.few ⟨fun _ => IR.out.ok, fun _ => rfl⟩).mono ?_
      rintro e u1 ⟨s1, rfl, S1, K1, b1⟩
      rw [HE.out]
      obtain ⟨BA, BH, PN⟩ := PT.out.put S1 K1 b1
      have BA := hide BA
      have BH := hide BH
      have PN := hide PN
      have GX3 := hide (((b1.block gx (Array.getElem?_eq_some_iff.1 GX2.out).1)).trans GX2.out)
      have hgl : gx < u1.heap.size := (Array.getElem?_eq_some_iff.1 GX3.out).1
      have GX4 : Hid (((u1.alloc (.cells zeros16 31)).setRow u1.heap.size s1.cs).heap[gx]? = some (.cells #[.int .i64 p.1, .int .i64 p.2] 54 (0, 0))) := (setRow_other _ _ _ _ (by omega)).trans ((Below.heap_alloc _ _ _ hgl).trans GX3.out)
      have GX5 : Hid ((((u1.alloc (.cells zeros16 31)).setRow u1.heap.size s1.cs).setRow h s1.cs).heap[gx]? = some (.cells #[.int .i64 p.1, .int .i64 p.2] 54 (0, 0))) := (setRow_other _ _ _ _ (box_ne (t := 54) (t' := 31) GX4.out BH.out (by decide))).trans GX4.out
      clear z0 z1 HE
      have z1 : ((u1.alloc (.cells zeros16 31)).setRow u1.heap.size s1.cs).cell? ⟨gx, 1, none⟩ = some (.int .i64 p.2) := (cell_of_row _ gx 1 _ 54 (0, 0) GX4.out).trans rfl
      go_wp2_with (first | ((with_reducible refine st31 (.tmp 32) (.tmp 113) u1.heap.size ?_ s1 ?_ noSh ?_ ?_); (exact rfl); (exact rfl); (exact heap_alloc_new _ _)))
      refine (Pool.unpack_ok p.2 _ y1 y2).mono ?_
      rintro e u2 ⟨rfl, rfl⟩
      rw [← slot_cast p.2]
      generalize ((slot p.2 : Nat) : Int) = sl at IN ⊢
      generalize rtX true X p.1 p.2 = X1 at S1 PN IN
      clear z1
      go_wp2_with (first | ((with_reducible refine ld31 (.tmp 32) u1.heap.size ?_ s1 ?_ ?_); (exact rfl); (exact BA.out)) | ((with_reducible refine st31 (.tmp 7) (.tmp 128) h ?_ s1 ?_ s ?_ ?_); (exact rfl); (exact rfl); (exact BH.out)))
      generalize (((u1.alloc (.cells zeros16 31)).setRow u1.heap.size s1.cs).setRow h s1.cs) = u4 at PN GX5 ⊢
      have GT := hide (Gt.first (sl := sl) PN.out OF.out GX5.out CL.out (erase_few CL.out a))
      clear BA BH S1 K1 b1 PN GX2 GX3 GX4 GX5 OF PT hgl
      go_loopw [131] (fun i wx => ∃ (k : Nat) (R' : Nat → Sl) (C' : Nat → List (Int × Int)), k ≤ TN ∧ i = .int .i64 k ∧ Hid (Gt w wx h g9 g10 TN s1 X1 pb C j gx p sl v2 ((C 0).eraseIdx a) k R' C')) (fun i _ => TN - (intOf i).toNat)
      case atStart => exact ⟨0, _, _, by omega, rfl, GT⟩
      case round =>
        clear GT
        obtain ⟨k, R', C', hk, rfl, GT⟩ := hrel
        by_cases hkt : k < TN
        · have k0 : (0 : Int) ≤ (k : Int) := by omega
          have k1 : (k : Int) < (TN : Int) := by omega
          have x10 := GT.out.pn.pin_at (t := k) (by have := IR.out.lp; have := LR.out; omega)
          cases hb : pb.getD k false with
          | false =>
            rw [hb] at x10
            have GT' := hide (GT.out.skip hb)
            go_wp2_with fail
            go_roundw
            case rel => exact ⟨k + 1, R', C', by omega, by go_num, GT'⟩
            case measure => simp [intOf]; omega
          | true =>
            rw [hb] at x10
            have HPB := hide hb
            clear hb
            obtain ⟨⟨rA, rn, rc⟩, hr⟩ : ∃ r, R' (k + 1) = r := ⟨_, rfl⟩
            have HR := hide hr
            clear hr
            have hrn : rn ≤ 120 := by have := GT.out.lens hkt HR.out CL.out; omega
            obtain ⟨i0, hi0, hz0, hz1, hz2⟩ := info_parts info54
            have H1 := hide hi0
            have H2 := hide hz0
            have H3 := hide hz1
            have H4 := hide hz2
            clear hi0 hz0 hz1 hz2
            have GA := hide (GT.out.step ((Below.refl wr.heap.size wr).drew.alloc (Nat.le_refl _) (.cells #[.int .i64 p.1, .int .i64 sl] 54)))
            have S0 := hide (GT.out.reads hkt HR.out)
            have S1 := hide (GA.out.reads hkt HR.out)
            have OW := hide (GA.out.owns hkt HR.out)
            have SZ := hide GA.out.pn.st.bel.size
            have NW := hide (World.news_of_block (heap_alloc_new wr.drew (.cells #[.int .i64 p.1, .int .i64 sl] 54)))
            have fz := GT.out.frz
            have x9 := S0.out.1
            have xg := S0.out.2
            have xg' : ∀ o : Obj, (wr.alloc o).cell? ⟨gx, 0, none⟩ = some (.int .i64 p.1) := fun o => ((GT.out.step ((Below.refl wr.heap.size wr).alloc (Nat.le_refl _) o)).reads hkt HR.out).2
            have x9' : ∀ o : Obj, (wr.alloc o).cell? ⟨g9, k, none⟩ = some (.slice rA rn rc) := fun o => ((GT.out.step ((Below.refl wr.heap.size wr).alloc (Nat.le_refl _) o)).reads hkt HR.out).1
            have K3 : Hid (rn + 1 ≤ maxLen) := by show _ ≤ _; simp only [maxLen]; omega
            have K4 : Hid ((rn + 1) * 16 ≤ 140737488355328) := by show _ ≤ _; omega
            go_wp2_with fail
            refine wp_region_noPanic ?_
            go_region_law ((refine step_append_lies _ (by rfl) _ _ 52 (by rfl) w.heap.size 54 i0 (.agg #[.int .i64 0, .int .i64 0]) 2 16 Try.underlying52 H1.out H2.out H3.out H4.out (by rfl) (by decide) (.slice rA rn rc) rn _ (by rfl) OW.out ⟨wr.heap.size, 0, none⟩ 1 1 [.int .i64 p.1, .int .i64 sl] (by rfl) (by rfl) NW.out (two_one p.1 sl) (by decide) K3.out K4.out SZ.out _ (by rfl) ?_; intro g' cap x3 hown hg hl hlt3; have S3 := hide (GA.out.reads2 hkt HR.out hg); have fz3 := GA.out.frz2 hkt HR.out hg; have c3 := S3.out.1; have GM := hide (GA.out.more hkt HR.out HPB.out CL.out hown hg hl); clear hown hg hl))
            all_goals (refine NoPanic.normal ?_)
            all_goals (clear S0 S1 S3 OW NW SZ GA fz fz3 c3 x9 x9' GT; go_wp2_with fail; go_roundw; (case rel => exact ⟨k + 1, _, _, by omega, by go_num, GM⟩); (case measure => simp [intOf]; omega))
        · obtain rfl : TN = k := by omega
          have SD := hide (Gt.std ST0.out GT.out IN.out)
          go_wp2_with fail
          have hcast : ((j : Int) + 1) = ((j + 1 : Nat) : Int) := by omega
          rw [hcast]
          clear hcast
          exact HN.out _ _ ⟨s1, X1, pb, R', C', v2.A, v2.n, v2.c, by omega, SD.out, fr_mk⟩
    · have q3 : ¬ a + 1 = lc := fun e => hce e.symm
      have q7 : ¬ lc - (a + 1) = 0 := by omega
      have K2 : Hid (a + (ln - (a + 1)) ≤ 1000) := by show _ ≤ _; omega
      go_region_held3 (fun _ => True) (trivial) (first | ((refine step_app54 _ (by rfl) _ _ (by rfl) (wr.alloc (.cells #[.int .i64 p.1, .int .i64 p.2] 54)).heap.size noSl [] (by rfl) (World.ownsRow_nil _ _ _ _) ⟨b, 0, none⟩ a lc _ (by rfl) N1.out.1 N1.out.2.1 N1.out.2.2 K1.out (Nat.le_refl _) ?_; intro v1 x1 e1 o1 b1; have O1 := hide (own_as54 o1 e1); have B1 := hide (D0.out.trans b1); have F1 := hide (e1.trans (noSl_n a)); have NX := hide (news_step N2.out.2.1 b1 HB1.out); clear e1 o1 b1)) | ((refine step_app54 _ (by rfl) _ _ (by rfl) (wr.alloc (.cells #[.int .i64 p.1, .int .i64 p.2] 54)).heap.size v1 _ (by rfl) O1.out ⟨b, (a + 1) * 2, none⟩ (ln - (a + 1)) (lc - (a + 1)) _ (by rfl) N2.out.1 NX.out N2.out.2.2 (two_few F1.out K2.out) B1.out.size ?_; intro v2 x2 e2 o2 b2; have O2 := hide o2; have B2 := hide (B1.out.trans b2); have F2 := hide e2; clear e2 o2 b2)))
      have PT := hide (PA.out.cut (L := (C 0).eraseIdx a) B2.out F2.out O2.out (cut_list HMl.out))
      have OF := hide (off_first PR.out _ O2.out)
      have GX2 : Hid (x2.heap[wr.heap.size]? = some (.cells #[.int .i64 p.1, .int .i64 p.2] 54 (0, 0))) := (B2.out.block _ (by simp)).trans GX.out
      clear O1 B1 F1 NX O2 B2 F2 N1 N2 GX HB1 K1 K2 D0 PA q1 q2 q3 q4 q5 q6 q7 a2 a3 a4 a5 hp0 hp1
      obtain ⟨y1, y2, hE, IN⟩ := inv_retire (wh := p.1) (r := p.2) IR.out HP.out
      have IN := hide IN
      have HE := hide hE
      clear hE
      generalize wr.heap.size = gx at OF GX2 ⊢
      have z0 : x2.cell? ⟨gx, 0, none⟩ = some (.int .i64 p.1) := (cell_of_row x2 gx 0 _ 54 (0, 0) GX2.out).trans rfl
      have z1 : x2.cell? ⟨gx, 1, none⟩ = some (.int .i64 p.2) := (cell_of_row x2 gx 1 _ 54 (0, 0) GX2.out).trans rfl
      go_wp2_with (first | ((with_reducible refine ld31 (.tmp 7) h ?_ s ?_ ?_); (exact rfl); (exact PT.out.st.box)))
      refine (retire_any s X true p.1 p.2 _ PT.out.st.sees IR.out.few ⟨fun _ => IR.out.ok, fun _ => rfl⟩).mono ?_
      rintro e u1 ⟨s1, rfl, S1, K1, b1⟩
      rw [HE.out]
      obtain ⟨BA, BH, PN⟩ := PT.out.put S1 K1 b1
      have BA := hide BA
      have BH := hide BH
      have PN := hide PN
      have GX3 := hide (((b1.block gx (Array.getElem?_eq_some_iff.1 GX2.out).1)).trans GX2.out)
      have hgl : gx < u1.heap.size := (Array.getElem?_eq_some_iff.1 GX3.out).1
      have GX4 : Hid (((u1.alloc (.cells zeros16 31)).setRow u1.heap.size s1.cs).heap[gx]? = some (.cells #[.int .i64 p.1, .int .i64 p.2] 54 (0, 0))) := (setRow_other _ _ _ _ (by omega)).trans ((Below.heap_alloc _ _ _ hgl).trans GX3.out)
      have GX5 : Hid ((((u1.alloc (.cells zeros16 31)).setRow u1.heap.size s1.cs).setRow h s1.cs).heap[gx]? = some (.cells #[.int .i64 p.1, .int .i64 p.2] 54 (0, 0))) := (setRow_other _ _ _ _ (box_ne (t := 54) (t' := 31) GX4.out BH.out (by decide))).trans GX4.out
      clear z0 z1 HE
      have z1 : ((u1.alloc (.cells zeros16 31)).setRow u1.heap.size s1.cs).cell? ⟨gx, 1, none⟩ = some (.int .i64 p.2) := (cell_of_row _ gx 1 _ 54 (0, 0) GX4.out).trans rfl
      go_wp2_with (first | ((with_reducible refine st31 (.tmp 32) (.tmp 113) u1.heap.size ?_ s1 ?_ noSh ?_ ?_); (exact rfl); (exact rfl); (exact heap_alloc_new _ _)))
      refine (Pool.unpack_ok p.2 _ y1 y2).mono ?_
      rintro e u2 ⟨rfl, rfl⟩
      rw [← slot_cast p.2]
      generalize ((slot p.2 : Nat) : Int) = sl at IN ⊢
      generalize rtX true X p.1 p.2 = X1 at S1 PN IN
      clear z1
      go_wp2_with (first | ((with_reducible refine ld31 (.tmp 32) u1.heap.size ?_ s1 ?_ ?_); (exact rfl); (exact BA.out)) | ((with_reducible refine st31 (.tmp 7) (.tmp 128) h ?_ s1 ?_ s ?_ ?_); (exact rfl); (exact rfl); (exact BH.out)))
      generalize (((u1.alloc (.cells zeros16 31)).setRow u1.heap.size s1.cs).setRow h s1.cs) = u4 at PN GX5 ⊢
      have GT := hide (Gt.first (sl := sl) PN.out OF.out GX5.out CL.out (erase_few CL.out a))
      clear BA BH S1 K1 b1 PN GX2 GX3 GX4 GX5 OF PT hgl
      go_loopw [131] (fun i wx => ∃ (k : Nat) (R' : Nat → Sl) (C' : Nat → List (Int × Int)), k ≤ TN ∧ i = .int .i64 k ∧ Hid (Gt w wx h g9 g10 TN s1 X1 pb C j gx p sl v2 ((C 0).eraseIdx a) k R' C')) (fun i _ => TN - (intOf i).toNat)
      case atStart => exact ⟨0, _, _, by omega, rfl, GT⟩
      case round =>
        clear GT
        obtain ⟨k, R', C', hk, rfl, GT⟩ := hrel
        by_cases hkt : k < TN
        · have k0 : (0 : Int) ≤ (k : Int) := by omega
          have k1 : (k : Int) < (TN : Int) := by omega
          have x10 := GT.out.pn.pin_at (t := k) (by have := IR.out.lp; have := LR.out; omega)
          cases hb : pb.getD k false with
          | false =>
            rw [hb] at x10
            have GT' := hide (GT.out.skip hb)
            go_wp2_with fail
            go_roundw
            case rel => exact ⟨k + 1, R', C', by omega, by go_num, GT'⟩
            case measure => simp [intOf]; omega
          | true =>
            rw [hb] at x10
            have HPB := hide hb
            clear hb
            obtain ⟨⟨rA, rn, rc⟩, hr⟩ : ∃ r, R' (k + 1) = r := ⟨_, rfl⟩
            have HR := hide hr
            clear hr
            have hrn : rn ≤ 120 := by have := GT.out.lens hkt HR.out CL.out; omega
            obtain ⟨i0, hi0, hz0, hz1, hz2⟩ := info_parts info54
            have H1 := hide hi0
            have H2 := hide hz0
            have H3 := hide hz1
            have H4 := hide hz2
            clear hi0 hz0 hz1 hz2
            have GA := hide (GT.out.step ((Below.refl wr.heap.size wr).drew.alloc (Nat.le_refl _) (.cells #[.int .i64 p.1, .int .i64 sl] 54)))
            have S0 := hide (GT.out.reads hkt HR.out)
            have S1 := hide (GA.out.reads hkt HR.out)
            have OW := hide (GA.out.owns hkt HR.out)
            have SZ := hide GA.out.pn.st.bel.size
            have NW := hide (World.news_of_block (heap_alloc_new wr.drew (.cells #[.int .i64 p.1, .int .i64 sl] 54)))
            have fz := GT.out.frz
            have x9 := S0.out.1
            have xg := S0.out.2
            have xg' : ∀ o : Obj, (wr.alloc o).cell? ⟨gx, 0, none⟩ = some (.int .i64 p.1) := fun o => ((GT.out.step ((Below.refl wr.heap.size wr).alloc (Nat.le_refl _) o)).reads hkt HR.out).2
            have x9' : ∀ o : Obj, (wr.alloc o).cell? ⟨g9, k, none⟩ = some (.slice rA rn rc) := fun o => ((GT.out.step ((Below.refl wr.heap.size wr).alloc (Nat.le_refl _) o)).reads hkt HR.out).1
            have K3 : Hid (rn + 1 ≤ maxLen) := by show _ ≤ _; simp only [maxLen]; omega
            have K4 : Hid ((rn + 1) * 16 ≤ 140737488355328) := by show _ ≤ _; omega
            go_wp2_with fail
            refine wp_region_noPanic ?_
            go_region_law ((refine step_append_lies _ (by rfl) _ _ 52 (by rfl) w.heap.size 54 i0 (.agg #[.int .i64 0, .int .i64 0]) 2 16 Try.underlying52 H1.out H2.out H3.out H4.out (by rfl) (by decide) (.slice rA rn rc) rn _ (by rfl) OW.out ⟨wr.heap.size, 0, none⟩ 1 1 [.int .i64 p.1, .int .i64 sl] (by rfl) (by rfl) NW.out (two_one p.1 sl) (by decide) K3.out K4.out SZ.out _ (by rfl) ?_; intro g' cap x3 hown hg hl hlt3; have S3 := hide (GA.out.reads2 hkt HR.out hg); have fz3 := GA.out.frz2 hkt HR.out hg; have c3 := S3.out.1; have GM := hide (GA.out.more hkt HR.out HPB.out CL.out hown hg hl); clear hown hg hl))
            all_goals (refine NoPanic.normal ?_)
            all_goals (clear S0 S1 S3 OW NW SZ GA fz fz3 c3 x9 x9' GT; go_wp2_with fail; go_roundw; (case rel => exact ⟨k + 1, _, _, by omega, by go_num, GM⟩); (case measure => simp [intOf]; omega))
        · obtain rfl : TN = k := by omega
          have SD := hide (Gt.std ST0.out GT.out IN.out)
          go_wp2_with fail
          have hcast : ((j : Int) + 1) = ((j + 1 : Nat) : Int) := by omega
          rw [hcast]
          clear hcast
          exact HN.out _ _ ⟨s1, X1, pb, R', C', v2.A, v2.n, v2.c, by omega, SD.out, fr_mk⟩


end Go.Proofs.Ythficfmakbblkaa
