/- A step that turns. -/
import Derived.Test.YthficfmakbblkaaPinR
import Derived.WalkKit
import Derived.Deep.DeepCutAuto
namespace Go.Proofs.Ythficfmakbblkaa
open Go.Joins Go.ChangeShapes Go.WideShapes Go.ChangeAt Go.RowKit Go.Deep
open Pool (Pl PL MayBe noP noPl Drew Told4 Row upd ints)
set_option linter.unusedVariables false
set_option maxRecDepth 1000000


set_option maxHeartbeats 8000000 in
theorem pcTurn (w wr : World) (h g9 g10 TN n2 c2 b0 o0 j NV q t c m ln lc : Nat) (lA : Option Addr) (s : Sh) (X : SL) (pb : List Bool) (R : Nat → Sl) (C : Nat → List (Int × Int)) (U : Nat → Value)
    (S0 : Std w wr h g9 g10 TN s X pb R C lA ln lc j) (NM : Nm wr b0 o0 n2 j NV TN q t c m) (hm : m = 2)
    (Q1 : Act → World → Prop) (Q0 : Exit → Act → World → Prop) (hnext : ∀ a u, WJ w h g9 g10 TN n2 c2 (some ⟨b0, o0, none⟩) (j + 1) a u → Q1 a u) :
    Code.wp Try.prog stepBody (Exit.then Q1 Q0) ⟨#[U 0, .int .i64 (TN : Int), U 2, U 3, U 4, U 5, U 6, .pointer (some ⟨h, 0, none⟩), U 8, .slice (some ⟨g9, 0, none⟩) TN TN, .slice (some ⟨g10, 0, none⟩) TN TN, .slice lA ln lc, U 12, U 13, U 14, U 15, U 16, U 17, U 18, U 19, U 20, U 21, U 22, U 23, U 24, U 25, U 26, U 27, U 28, U 29, U 30, U 31, U 32, U 33, U 34, U 35, U 36, U 37, U 38, U 39, U 40, U 41, U 42, U 43, U 44, U 45, U 46, U 47, U 48, U 49, U 50, U 51, U 52, U 53, U 54, U 55, U 56, U 57, U 58, U 59, U 60, U 61, U 62, U 63, U 64, U 65, U 66, U 67, .slice (some ⟨b0, o0, none⟩) n2 c2, .int .i64 (n2 : Int), .int .i64 (j : Int), U 71, U 72, U 73, U 74, U 75, U 76, U 77, U 78, U 79, U 80, U 81, U 82, U 83, U 84, U 85, U 86, U 87, U 88, U 89, U 90, U 91, U 92, U 93, U 94, U 95, U 96, U 97, U 98, U 99, U 100, U 101, U 102, U 103, U 104, U 105, U 106, U 107, U 108, U 109, U 110, U 111, U 112, U 113, U 114, U 115, U 116, U 117, U 118, U 119, U 120, U 121, U 122, U 123, U 124, U 125, U 126, U 127, U 128, U 129, U 130, U 131, U 132, U 133, U 134, U 135, U 136, U 137, U 138, U 139, U 140, U 141, U 142, U 143, U 144, U 145, U 146, U 147, U 148, U 149, U 150, U 151, U 152, U 153, U 154, U 155, U 156, U 157, U 158, U 159, U 160, U 161, U 162, U 163, U 164, U 165, U 166, U 167, U 168, U 169, U 170, U 171, U 172, U 173, U 174, U 175, U 176, U 177, U 178, U 179, U 180, U 181, U 182, U 183, U 184, U 185, U 186, U 187, U 188, U 189, U 190, U 191, U 192, U 193, U 194, U 195, U 196, U 197, U 198, U 199, U 200, U 201, U 202, U 203, U 204, U 205, U 206, U 207, U 208, U 209, U 210, U 211, U 212, U 213, U 214, U 215, U 216, U 217, U 218, U 219, U 220, U 221, U 222, U 223, U 224, U 225, U 226, U 227, U 228, U 229, U 230, U 231, U 232, U 233, U 234, U 235, U 236, U 237, U 238, U 239, U 240, U 241, U 242, U 243, U 244, U 245, U 246, U 247], []⟩ wr := by
  obtain ⟨hlt, hle, hx0, hB0, r1, r2, r3_, r4, r5, htn, hc3, hm6, r6, t1, t2, hNV, hqb⟩ := NM
  have hj0 : (0 : Int) ≤ (j : Int) := by omega
  have hj1 : (j : Int) < (n2 : Int) := by omega
  have d4 : decide ((NV : Int) < 0) = false := by simp
  have d5 : decide ((j : Int) < (n2 : Int)) = true := by simpa using hj1
  have ht0 : (0 : Int) ≤ (t : Int) := by omega
  have ht1 : (t : Int) < (TN : Int) := by omega
  have hTN : ((TN : Int) == 0) = false := by simp; omega
  have ST0 := hide S0
  have PR := hide S0.pn
  have IR := hide S0.inv
  have LR := hide S0.len
  have HR0 := hide S0.r0
  have CL := hide S0.few
  have HN := hide hnext
  have E1 : Hid ((NV : Int) / 6 = (q : Int)) := by have h := r1; unfold wrap64 at h; show _ = _; omega
  have E2 : Hid ((q : Int) % (TN : Int) = (t : Int)) := by have h := r2; rw [Int.tmod_eq_emod_of_nonneg (by omega)] at h; exact h
  have E3 : Hid ((q : Int) % 3 = (c : Int)) := by have h := r3_; rw [Int.tmod_eq_emod_of_nonneg (by omega)] at h; exact h
  clear S0 hnext r1 r2 r3_ r6
  conv => arg 2; whnf
  have m0 : ((m : Int) == 0) = false := by simp; omega
  have m1 : ((m : Int) == 1) = false := by simp; omega
  have m2 : ((m : Int) == 2) = true := by simp [hm]
  clear hm
  obtain ⟨q1, HQ⟩ := bool7 (Era.Step X.T X.Z)
  go_wp2_with (first | ((with_reducible refine ld31 (.tmp 7) h ?_ s ?_ ?_); (exact rfl); (exact PR.out.st.box)))
  rw [E1.out, E2.out, E3.out]
  clear E1 E2 E3 r4 r5 hx0 hNV
  refine (turn_any s X true q1 _ PR.out.st.sees IR.out.few ⟨fun _ => IR.out.ok, fun _ => rfl⟩ HQ).mono ?_
  rintro e u1 ⟨s1, rfl, S1, K1, b1⟩
  have PN := hide (PR.out.next S1 K1 b1)
  have BX := hide (PR.out.step b1).st.box
  have IN := hide (inv_turn (q := q1) IR.out HQ.out)
  go_wp2_with (first | ((with_reducible refine st31 (.tmp 7) (.tmp 188) h ?_ s1 ?_ s ?_ ?_); (exact rfl); (exact rfl); (exact BX.out)))
  have hcast : ((j : Int) + 1) = ((j + 1 : Nat) : Int) := by omega
  rw [hcast]
  clear hcast
  exact HN.out _ _ ⟨s1, trX true q1 X, pb, R, C, lA, ln, lc, by omega, std_mk ST0.out PN.out rfl IN.out rfl rfl rfl (fun i => Nat.le_succ_of_le (ST0.out.few i)), fr_mk⟩


end Go.Proofs.Ythficfmakbblkaa
