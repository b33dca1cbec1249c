/- The steps of ArenaPinned, one after the other: the round out of its cases, and the loop. -/
import Derived.Test.YthficfmakbblkaaPcPin
import Derived.Test.YthficfmakbblkaaPcEnd
import Derived.Test.YthficfmakbblkaaPcTurn
import Derived.Test.YthficfmakbblkaaPcTakeA
import Derived.Test.YthficfmakbblkaaPcTakeB
import Derived.Test.YthficfmakbblkaaPcRet
import Derived.Test.YthficfmakbblkaaPcOut
import Derived.Test.YthficfmakbblkaaPcNeg
import Derived.WalkKit
import Derived.Deep.DeepCutAuto
namespace Go.Proofs.Ythficfmakbblkaa
open Go.Joins Go.ChangeShapes Go.WideShapes Go.ChangeAt Go.RowKit Go.Deep
open Pool (Pl PL MayBe noP noPl Drew Told4 Row upd ints)
set_option linter.unusedVariables false
set_option maxRecDepth 1000000

/-- What stands where a step below 0 ends it. -/
def WN (w : World) (h g9 g10 TN n2 c2 : Nat) (A2 : Option Addr) (a : Act) (u : World) : Prop := Below w.heap.size w u ∧ ∃ (lA : Option Addr) (ln lc j : Nat) (U : Nat → Value), a = ⟨#[U 0, .int .i64 (TN : Int), U 2, U 3, U 4, U 5, .bool true, .pointer (some ⟨h, 0, none⟩), U 8, .slice (some ⟨g9, 0, none⟩) TN TN, .slice (some ⟨g10, 0, none⟩) TN TN, .slice lA ln lc, U 12, U 13, U 14, U 15, U 16, U 17, U 18, U 19, U 20, U 21, U 22, U 23, U 24, U 25, U 26, U 27, U 28, U 29, U 30, U 31, U 32, U 33, U 34, U 35, U 36, U 37, U 38, U 39, U 40, U 41, U 42, U 43, U 44, U 45, U 46, U 47, U 48, U 49, U 50, U 51, U 52, U 53, U 54, U 55, U 56, U 57, U 58, U 59, U 60, U 61, U 62, U 63, U 64, U 65, U 66, U 67, .slice A2 n2 c2, .int .i64 (n2 : Int), .int .i64 (j : Int), U 71, U 72, U 73, U 74, U 75, U 76, U 77, U 78, U 79, U 80, U 81, U 82, U 83, U 84, U 85, U 86, U 87, U 88, U 89, U 90, U 91, U 92, U 93, U 94, U 95, U 96, U 97, U 98, U 99, U 100, U 101, U 102, U 103, U 104, U 105, U 106, U 107, U 108, U 109, U 110, U 111, U 112, U 113, U 114, U 115, U 116, U 117, U 118, U 119, U 120, U 121, U 122, U 123, U 124, U 125, U 126, U 127, U 128, U 129, U 130, U 131, U 132, U 133, U 134, U 135, U 136, U 137, U 138, U 139, U 140, U 141, U 142, U 143, U 144, U 145, U 146, U 147, U 148, U 149, U 150, U 151, U 152, U 153, U 154, U 155, U 156, U 157, U 158, U 159, U 160, U 161, U 162, U 163, U 164, U 165, U 166, U 167, U 168, U 169, U 170, U 171, U 172, U 173, U 174, U 175, U 176, U 177, U 178, U 179, U 180, U 181, U 182, U 183, U 184, U 185, U 186, U 187, U 188, U 189, U 190, U 191, U 192, U 193, U 194, U 195, U 196, U 197, U 198, U 199, U 200, U 201, U 202, U 203, U 204, U 205, U 206, U 207, U 208, U 209, U 210, U 211, U 212, U 213, U 214, U 215, U 216, U 217, U 218, U 219, U 220, U 221, U 222, U 223, U 224, U 225, U 226, U 227, U 228, U 229, U 230, U 231, U 232, U 233, U 234, U 235, U 236, U 237, U 238, U 239, U 240, U 241, U 242, U 243, U 244, U 245, U 246, U 247], []⟩
def mu (n2 : Nat) (a : Act) (u : World) : Nat := n2 - (intOf (a.tmps.getD 70 undef)).toNat
theorem mu_of {w : World} {h g9 g10 TN n2 c2 j : Nat} {A2 : Option Addr} {a : Act} {u : World} (hI : WJ w h g9 g10 TN n2 c2 A2 j a u) : mu n2 a u = n2 - j := by
  obtain ⟨s, X, pb, R, C, lA, ln, lc, hj, S0, U, rfl⟩ := hI
  have e : (⟨#[U 0, .int .i64 (TN : Int), U 2, U 3, U 4, U 5, U 6, .pointer (some ⟨h, 0, none⟩), U 8, .slice (some ⟨g9, 0, none⟩) TN TN, .slice (some ⟨g10, 0, none⟩) TN TN, .slice lA ln lc, U 12, U 13, U 14, U 15, U 16, U 17, U 18, U 19, U 20, U 21, U 22, U 23, U 24, U 25, U 26, U 27, U 28, U 29, U 30, U 31, U 32, U 33, U 34, U 35, U 36, U 37, U 38, U 39, U 40, U 41, U 42, U 43, U 44, U 45, U 46, U 47, U 48, U 49, U 50, U 51, U 52, U 53, U 54, U 55, U 56, U 57, U 58, U 59, U 60, U 61, U 62, U 63, U 64, U 65, U 66, U 67, .slice A2 n2 c2, .int .i64 (n2 : Int), .int .i64 (j : Int), U 71, U 72, U 73, U 74, U 75, U 76, U 77, U 78, U 79, U 80, U 81, U 82, U 83, U 84, U 85, U 86, U 87, U 88, U 89, U 90, U 91, U 92, U 93, U 94, U 95, U 96, U 97, U 98, U 99, U 100, U 101, U 102, U 103, U 104, U 105, U 106, U 107, U 108, U 109, U 110, U 111, U 112, U 113, U 114, U 115, U 116, U 117, U 118, U 119, U 120, U 121, U 122, U 123, U 124, U 125, U 126, U 127, U 128, U 129, U 130, U 131, U 132, U 133, U 134, U 135, U 136, U 137, U 138, U 139, U 140, U 141, U 142, U 143, U 144, U 145, U 146, U 147, U 148, U 149, U 150, U 151, U 152, U 153, U 154, U 155, U 156, U 157, U 158, U 159, U 160, U 161, U 162, U 163, U 164, U 165, U 166, U 167, U 168, U 169, U 170, U 171, U 172, U 173, U 174, U 175, U 176, U 177, U 178, U 179, U 180, U 181, U 182, U 183, U 184, U 185, U 186, U 187, U 188, U 189, U 190, U 191, U 192, U 193, U 194, U 195, U 196, U 197, U 198, U 199, U 200, U 201, U 202, U 203, U 204, U 205, U 206, U 207, U 208, U 209, U 210, U 211, U 212, U 213, U 214, U 215, U 216, U 217, U 218, U 219, U 220, U 221, U 222, U 223, U 224, U 225, U 226, U 227, U 228, U 229, U 230, U 231, U 232, U 233, U 234, U 235, U 236, U 237, U 238, U 239, U 240, U 241, U 242, U 243, U 244, U 245, U 246, U 247], []⟩ : Act).tmps.getD 70 undef = .int .i64 (j : Int) := by kernel_rfl
  unfold mu
  rw [e]
  simp [intOf]
theorem pn_round (w : World) (h g9 g10 TN n2 c2 : Nat) (A2 : Option Addr) (z2 : List Int) (HST : Pool.Nums w w.heap.size 1 A2 n2 z2) (HWF : ∀ z ∈ z2, (Lit.int .i64 z).wf = true) (hle : n2 ≤ 120) (t1 : 1 ≤ TN) (t6 : TN ≤ 6)
    (Q0 : Exit → Act → World → Prop) (hexit : ∀ a u, WJ w h g9 g10 TN n2 c2 A2 n2 a u → Q0 (.exit 0) a u) (hret : ∀ a u, WN w h g9 g10 TN n2 c2 A2 a u → Q0 .ret a u)
    (j : Nat) (a : Act) (wr : World) (hI : WJ w h g9 g10 TN n2 c2 A2 j a wr) (Q1 : Act → World → Prop) (hnext : ∀ a u, WJ w h g9 g10 TN n2 c2 A2 (j + 1) a u → Q1 a u) :
    Code.wp Try.prog stepBody (Exit.then Q1 Q0) a wr := by
  obtain ⟨s, X, pb, R, C, lA, ln, lc, hj, S0, U, rfl⟩ := hI
  by_cases hlt : j < n2
  · obtain ⟨b0, o0, rfl, hB0, hx0⟩ := (HST.below S0.pn.st.bel (Nat.le_refl _)).at_ hlt
    have hwf := Pool.wf_bounds (HWF (z2.getD j 0) (mem_getD (by have := HST.1; omega)))
    generalize z2.getD j 0 = nv at hx0 hwf
    have hB1 : b0 < wr.heap.size := Nat.lt_of_lt_of_le hB0 S0.pn.st.bel.size
    by_cases hneg : nv < 0
    · exact pcNeg w wr h g9 g10 TN n2 c2 j ln lc (some ⟨b0, o0, none⟩) lA U b0 o0 nv hlt hneg hB1 hx0 Q1 Q0 (fun a u ha hu => hret a u ⟨by rw [hu]; exact S0.pn.st.bel, lA, ln, lc, j, ha⟩)
    obtain ⟨NV, rfl⟩ : ∃ NV : Nat, nv = (NV : Int) := ⟨nv.toNat, by omega⟩
    obtain ⟨q, t, c, m, r1, r2, r3, r4, r5, htn, hc3, hm6, r6, hqb⟩ := step_nums NV TN t1 t6 (by omega)
    have NM : Nm wr b0 o0 n2 j NV TN q t c m := ⟨hlt, hle, hx0, hB1, r1, r2, r3, r4, r5, htn, hc3, hm6, r6, t1, t6, by omega, hqb⟩
    rcases (show m = 0 ∨ m = 1 ∨ m = 2 ∨ m = 3 ∨ m = 4 ∨ m = 5 by omega) with e | e | e | e | e | e
    · exact pcPin w wr h g9 g10 TN n2 c2 b0 o0 j NV q t c m ln lc lA s X pb R C U S0 NM e Q1 Q0 hnext
    · exact pcEnd w wr h g9 g10 TN n2 c2 b0 o0 j NV q t c m ln lc lA s X pb R C U S0 NM e Q1 Q0 hnext
    · exact pcTurn w wr h g9 g10 TN n2 c2 b0 o0 j NV q t c m ln lc lA s X pb R C U S0 NM e Q1 Q0 hnext
    · exact pcTakeA w wr h g9 g10 TN n2 c2 b0 o0 j NV q t c m ln lc lA s X pb R C U S0 NM e Q1 Q0 hnext
    · exact pcTakeB w wr h g9 g10 TN n2 c2 b0 o0 j NV q t c m ln lc lA s X pb R C U S0 NM e Q1 Q0 hnext
    · exact pcRet w wr h g9 g10 TN n2 c2 b0 o0 j NV q t c m ln lc lA s X pb R C U S0 NM e Q1 Q0 hnext
  · obtain rfl : j = n2 := by omega
    exact pcOut w wr h g9 g10 TN j c2 j ln lc A2 lA U Q1 Q0 (fun a u ha hu => hexit a u ⟨s, X, pb, R, C, lA, ln, lc, Nat.le_refl _, by rw [hu]; exact S0, ha⟩)

theorem pn_loop (w : World) (h g9 g10 TN n2 c2 : Nat) (A2 : Option Addr) (z2 : List Int) (HST : Pool.Nums w w.heap.size 1 A2 n2 z2) (HWF : ∀ z ∈ z2, (Lit.int .i64 z).wf = true) (hle : n2 ≤ 120) (t1 : 1 ≤ TN) (t6 : TN ≤ 6)
    (Q0 : Exit → Act → World → Prop) (a : Act) (u : World) (hI : WJ w h g9 g10 TN n2 c2 A2 0 a u) (hexit : ∀ a u, WJ w h g9 g10 TN n2 c2 A2 n2 a u → Q0 (.exit 0) a u) (hret : ∀ a u, WN w h g9 g10 TN n2 c2 A2 a u → Q0 .ret a u) :
    Code.wp Try.prog (Code.loop stepBody) Q0 a u :=
  wp_loop (fun a u => ∃ j, WJ w h g9 g10 TN n2 c2 A2 j a u) (mu n2) ⟨0, hI⟩ (fun a u hI => by
    obtain ⟨j, hJ⟩ := hI
    refine pn_round w h g9 g10 TN n2 c2 A2 z2 HST HWF hle t1 t6 Q0 hexit hret j a u hJ _ (fun a' u' h' => ⟨⟨j + 1, h'⟩, ?_⟩)
    have hj : j + 1 ≤ n2 := by obtain ⟨_, _, _, _, _, _, _, _, hj, _⟩ := h'; exact hj
    rw [mu_of h', mu_of hJ]
    omega)

end Go.Proofs.Ythficfmakbblkaa
