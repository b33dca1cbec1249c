/- A history's calls: the document's answer. Conditions: not many events, lists that are not great. -/
import Derived.Test.YtfefkdedgceomaaRChk
import Derived.WalkKit
import Derived.Below
import Derived.Deep.QuietTactic
import Derived.BigQuiet
import Derived.Deep.AppendLies
import Derived.Deep.RegionHeld3
import Derived.Deep.DeepCutAuto
import Derived.Shelf.Abstract
import Derived.Laws.Rows
namespace Go.Proofs.Ytfefkdedgceomaa
open Go.RowKit
set_option linter.unusedVariables false
set_option maxRecDepth 100000

theorem rcalls_le (l : List Ev) : ∀ k, (rcalls l k).length ≤ k
  | 0 => by simp [rcalls]
  | k + 1 => by
    have := rcalls_le l k
    rw [rcalls_step, List.length_append]
    split <;> simp <;> omega
theorem own_box2 {u : World} {g : Nat} {c : Cl} {z : S3} (h : Bx u g (cc c z) 39) : u.ownsRow g 39 13 (.slice (some ⟨g, 0, none⟩) 1 1) 1 (cc c z).toList :=
  ⟨rfl, .inr ⟨g, 1, cc c z, rfl, Nat.le_refl _, h, Nat.le_refl _, by simp only [maxLen]; omega, rfl, rfl⟩⟩
theorem box_res {u : World} {g : Nat} {c : Cl} {z q : S3} {r : RL} (h : Bx u g (cc c z) 39) : Bx (putL u g 8 (rc r q).toList) g (cc { c with r := r } q) 39 := by
  have h1 := heap_setCell_same _ g 8 _ 39 (.int .i64 r.er) h
  have h2 := heap_setCell_same _ g 9 _ 39 (.int .i64 r.id) h1
  have h3 := heap_setCell_same _ g 10 _ 39 (.slice q.P.A q.P.n q.P.c) h2
  have h4 := heap_setCell_same _ g 11 _ 39 (.slice q.O.A q.O.n q.O.c) h3
  have h5 := heap_setCell_same _ g 12 _ 39 (.slice q.I.A q.I.n q.I.c) h4
  exact h5
theorem see_put {V : World} {B h : Nat} {q : S3} {r : RL} (R : RSee V B q r) (hB : B ≤ h) (hs : B ≤ V.heap.size) (vs : List Value) : RSee (putL V h 8 vs) (putL V h 8 vs).heap.size q r :=
  (putL_see vs 8 V R (fun hh => by have := hasR_lt R hh; omega)).more (by rw [putL_size]; exact hs)
/-- One call more, behind the others, out of a block of its own. -/
theorem own_push {w X w2 : World} {B n c c4 g H : Nat} {A : Option Addr} {Z : List CZ} {cl : Cl} {q : S3} (o : Own X B ⟨A, n, c⟩ Z) (R : RSee X X.heap.size q cl.r) (hq : ∀ b, HasR q b → b < B) (hB : B ≤ X.heap.size) (bw : Below w.heap.size w X) (hBw : B = w.heap.size)
    (hown : w2.ownsRow B 39 13 (.slice (some ⟨g, 0, none⟩) (n + 1) c4) (n + 1) (cellsL Z ++ (cc cl q).toList)) (hg2 : (X.alloc (.cells (cc cl q) 39)).grownBy w2 (Value.slice A n c).ownBlock) (hat : (Value.slice A n c).ownBlock = some g ∨ g = H) (hH1 : H = X.heap.size + 1) :
    Own w2 B ⟨some ⟨g, 0, none⟩, n + 1, c4⟩ (Z ++ [(cl, q)]) ∧ Below w.heap.size w w2 := by
  have bA : Below X.heap.size X (X.alloc (.cells (cc cl q) 39)) := (Below.refl _ _).alloc (Nat.le_refl _) _
  have oA := o.step bA
  have b2 : Below w.heap.size w (X.alloc (.cells (cc cl q) 39)) := bw.alloc bw.size _
  refine ⟨oA.app (R.step bA) (fun b hb h => by have h1 := (oA.lt hb).1; have h2 := hq b h; omega) (fun b h => by have h2 := hq b h; have := bA.size; omega) hown hg2 hat (by rw [hH1]; simp), b2.grown hg2 b2.size fun j hj => by have := (oA.lt hj).1; omega⟩
section
variable {ops : Array Oper} {rest : List Oper} {a : Act} {w : World} {Q : Exit → Act → World → Prop} {dst : Option Tmp} {ty : TypeId} {pos : String} {af : Array Edge} {gd : Option (Nat × Bool)}
/-- A call is loaded, written out. -/
theorem ld39l (x : Operand) (g off : Nat) (hw : Region.wanted ⟨dst, .load 39 x, ty, pos, af, gd⟩ (yielded ops a.tmps) = true) (hx : a.eval x = .pointer (some ⟨g, off, none⟩)) (c : Cl) (s : S3) (HG : Lies w g off (cc c s)) (h : wpList Try.prog ops Q rest (a.put dst (.agg #[.int .i64 c.t, .int .i64 c.o.k, .int .i64 c.o.a, .int .i64 c.o.b, .int .i64 c.o.q, .int .i64 c.o.v, .int .i64 c.f, .int .i64 c.e, .int .i64 c.r.er, .int .i64 c.r.id, .slice s.P.A s.P.n s.P.c, .slice s.O.A s.O.n s.O.c, .slice s.I.A s.I.n s.I.c])) w) :
    wpList Try.prog ops Q (⟨dst, .load 39 x, ty, pos, af, gd⟩ :: rest) a w := ld39 x g off hw hx c s HG h
end
set_option maxHeartbeats 8000000 in
theorem rcalls_any (sl : Sl) (L : List Ev) (w : World) (p : Evs w w.heap.size sl L) (hn : sl.n ≤ 1000) (hcap : sl.n ≤ sl.c) (F : ∀ i, i < L.length → FewR (L.getD i noEv).r) :
    Calls Try.prog 12 #[.slice sl.A sl.n sl.c] w fun e w' => ∃ v Z, e = .returned (.tuple #[.slice v.A v.n v.c, .int .i64 (resE L)]) ∧ Hid (Own w' w.heap.size v Z) ∧ Hid (Z.map (·.1) = resC L) ∧ Hid (Below w.heap.size w w') := by
  obtain ⟨i0, hi0, hz0, hz1, hz2⟩ := info_parts info39
  have H1 := hide hi0
  have H2 := hide hz0
  have H3 := hide hz1
  have H4 := hide hz2
  clear hi0 hz0 hz1 hz2
  obtain ⟨A0, N, cp⟩ := sl
  have HP := hide p
  have hl : Hid (L.length = N) := p.1
  have HF := hide F
  dsimp only at hn hcap ⊢
  clear p F
  go_enter Try.func12, Try.ntmps12
  go_wp2_with fail
  refine (rcheck_any ⟨A0, N, cp⟩ L w HP.out hn hcap HF.out).mono ?_
  rintro e u1 ⟨rfl, hb1⟩
  have BW := hide hb1
  clear hb1
  by_cases hm : May L
  case neg =>
    have e1 : resE L = 1 := resE_no hm
    have HC : Hid (resC L = []) := resC_no hm
    clear hm
    rw [e1]
    go_wp2
    exact bodyPost_ret (results_tmp2 rfl _ _ _) rfl ⟨noSl, [], by rw [e1]; rfl, Own.nil _ _, by show _ = _; rw [HC.out]; rfl, BW⟩
  have HMAY := hide hm
  have e1 : resE L = 0 := resE_yes hm
  rw [e1]
  clear hm
  go_wp2
  go_loopw [5, 16] (fun v i wr => ∃ (k n c : Nat) (A : Option Addr) (Z : List CZ), k ≤ N ∧ i = .int .i64 k ∧ v = .slice A n c ∧ Hid (Own wr w.heap.size ⟨A, n, c⟩ Z) ∧ Hid (Z.map (·.1) = rcalls L k) ∧ Hid (Below w.heap.size w wr)) (fun _ i _ => N - (intOf i).toNat)
  case atStart => exact ⟨0, 0, 0, none, [], by omega, rfl, rfl, Own.nil _ _, rfl, BW⟩
  case round =>
    obtain ⟨k, n, c, A, Z, hk, rfl, rfl, O, EQ, HB⟩ := hrel
    by_cases hlt : k < N
    · have HKL : Hid (k < L.length) := by have := hl.out; show _ < _; omega
      obtain ⟨b, off, z, e, hb, LI0, RS0⟩ := (HP.out.below HB.out (Nat.le_refl _)).at_ hlt
      dsimp only at e
      subst e
      obtain ⟨x, hx⟩ : ∃ x, Hid (L.getD k noEv = x) := ⟨_, rfl⟩
      rw [hx.out] at LI0 RS0
      have LI := hide LI0
      have MD := hide (made wr zero45 (ec x z) 45)
      have HB1 := hide (HB.out.trans (MD.out.2.mono HB.out.size))
      have OU := hide (O.out.step MD.out.2)
      have BX := hide MD.out.1
      clear LI0 RS0
      have hnk : n ≤ k := by
        have h1 := O.out.many
        have h2 := congrArg List.length EQ.out
        have h3 := rcalls_le L k
        simp at h2
        dsimp only at h1
        omega
      rcases Bool.eq_false_or_eq_true x.d with yd | yd
      · have EQ2 : Hid (Z.map (·.1) = rcalls L (k + 1)) := by show _ = _; rw [rcalls_step, hx.out, yd, EQ.out]; simp
        have e1 : ((wr.alloc (.cells zero45 45)).setRow wr.heap.size (ec x z)).cell? ⟨wr.heap.size, 1, none⟩ = some (.bool true) := BX.out.e1.trans (by rw [yd])
        clear yd
        go_wp2_with (first | ((with_reducible refine ld45 (.tmp 19) b (off + k * 12) ?_ ?_ x z ?_ ?_); (exact rfl); (exact rfl); (exact LI.out)) | ((with_reducible refine st45 (.tmp 7) (.tmp 20) wr.heap.size ?_ x z ?_ zero45 ?_ rfl ?_); (exact rfl); (exact rfl); (exact Bx.new wr zero45 45)))
        go_roundw
        case rel => exact ⟨k + 1, n, c, A, Z, by omega, by go_num, rfl, OU, EQ2, HB1⟩
        case measure => simp [intOf]; omega
      · have e1 : ((wr.alloc (.cells zero45 45)).setRow wr.heap.size (ec x z)).cell? ⟨wr.heap.size, 1, none⟩ = some (.bool false) := BX.out.e1.trans (by rw [yd])
        obtain ⟨r, HNX⟩ : ∃ r, Hid (nxt L k = r) := ⟨_, rfl⟩
        have HRC : Hid (rcalls L (k + 1) = rcalls L k ++ [rcall L k]) := by show _ = _; rw [rcalls_step, hx.out, yd]; simp
        clear yd
        go_upto_region 9 with (first | ((with_reducible refine ld45 (.tmp 19) b (off + k * 12) ?_ ?_ x z ?_ ?_); (exact rfl); (exact rfl); (exact LI.out)) | ((with_reducible refine st45 (.tmp 7) (.tmp 20) wr.heap.size ?_ x z ?_ zero45 ?_ rfl ?_); (exact rfl); (exact rfl); (exact Bx.new wr zero45 45)))
        obtain ⟨U, hU⟩ : ∃ U, Hid ((wr.alloc (.cells zero45 45)).setRow wr.heap.size (ec x z) = U) := ⟨_, rfl⟩
        obtain ⟨g, hg⟩ : ∃ g, Hid (wr.heap.size = g) := ⟨_, rfl⟩
        have hU' := hU.out
        have hg' := hg.out
        rw [hU', hg']
        rw [hU'] at BX HB1 OU
        rw [hg'] at BX
        clear hU hU' hg hg' MD HB LI e1 O
        have D0 := hide ((Below.refl U.heap.size U).drew)
        have CN : Hid (∀ u, Below U.heap.size U u → Calls Try.prog 26 #[.slice (some ⟨b, off, none⟩) N cp, .int .i64 k] u fun e u' => e = .returned (.int .i64 r) ∧ Below U.heap.size U u' ∧ Below u.heap.size u u') := fun u hu => (next_any ⟨some ⟨b, off, none⟩, N, cp⟩ L k r u ((HP.out.below (HB1.out.trans (hu.mono HB1.out.size)) (Nat.le_refl _)).more (HB1.out.trans (hu.mono HB1.out.size)).size) hn HKL.out HNX).mono fun e u' h => ⟨h.1, hu.trans (h.2.mono hu.size), h.2⟩
        refine wp_region_held_drew (S := fun u => Bx u g (ec x z) 45 ∧ Below U.heap.size U u) (by kernel_rfl) ⟨BX.out.step D0.out, D0.out⟩ (fun hS => ?_)
        refine wpAnyH_take (i := 0) (v := .pointer (some ⟨g, 0, none⟩)) rfl (by kernel_rfl) (by kernel_rfl) (by kernel_rfl) (fun _ _ _ h => h) (Or.inl ⟨by kernel_rfl, by intro u hu; go_simp⟩) hS ?_
        refine wpAnyH_take (i := 1) (v := .int .i64 x.t) rfl (by kernel_rfl) (by kernel_rfl) (by kernel_rfl) (fun _ _ _ h => h) (Or.inl ⟨by kernel_rfl, by intro u hu; have c0 : u.cell? ⟨g, 0, none⟩ = some (.int .i64 x.t) := hu.1.e0; go_simp⟩) hS ?_
        refine wpAnyH_take (i := 2) (v := .pointer (some ⟨g, 2, none⟩)) rfl (by kernel_rfl) (by kernel_rfl) (by kernel_rfl) (fun _ _ _ h => h) (Or.inl ⟨by kernel_rfl, by intro u hu; go_simp⟩) hS ?_
        refine wpAnyH_take (i := 3) (v := .agg #[.int .i64 x.o.k, .int .i64 x.o.a, .int .i64 x.o.b, .int .i64 x.o.q, .int .i64 x.o.v]) rfl (by kernel_rfl) (by kernel_rfl) (by kernel_rfl) (fun _ _ _ h => h) (Or.inl ⟨by kernel_rfl, by intro u hu; have o0 : u.cell? ⟨g, 2, none⟩ = some (.int .i64 x.o.k) := hu.1.cells 2; have o1 : u.cell? ⟨g, 3, none⟩ = some (.int .i64 x.o.a) := hu.1.cells 3; have o2 : u.cell? ⟨g, 4, none⟩ = some (.int .i64 x.o.b) := hu.1.cells 4; have o3 : u.cell? ⟨g, 5, none⟩ = some (.int .i64 x.o.q) := hu.1.cells 5; have o4 : u.cell? ⟨g, 6, none⟩ = some (.int .i64 x.o.v) := hu.1.cells 6; go_simp⟩) hS ?_
        refine wpAnyH_take (i := 4) (v := .int .i64 k) rfl (by kernel_rfl) (by kernel_rfl) (by kernel_rfl) (fun _ _ _ h => h) (Or.inl ⟨by kernel_rfl, by intro u hu; go_simp⟩) hS ?_
        refine wpAnyH_take (i := 5) (v := .slice (some ⟨b, off, none⟩) N cp) rfl (by kernel_rfl) (by kernel_rfl) (by kernel_rfl) (fun _ _ _ h => h) (Or.inl ⟨by kernel_rfl, by intro u hu; go_simp⟩) hS ?_
        refine wpAnyH_take (i := 6) (v := .int .i64 k) rfl (by kernel_rfl) (by kernel_rfl) (by kernel_rfl) (fun _ _ _ h => h) (Or.inl ⟨by kernel_rfl, by intro u hu; go_simp⟩) hS ?_
        refine wpAnyH_ready (rs := [7, 9]) (by kernel_rfl) (by simp) ?_
        refine AllReadyH.cons rfl (fun K hK => ?_) (AllReadyH.cons rfl (fun K hK => ?_) AllReadyH.nil)
        · go_simp
          refine (CN.out U.drew hS.2).mono ?_
          rintro e v1 ⟨rfl, hb1, hb2⟩
          refine hK.out _ _ ⟨BX.out.step hb1, hb1⟩ (fun hS1 => ?_)
          clear hK K
          refine wpAnyH_take (i := 8) (v := .agg #[.int .i64 x.t, .int .i64 x.o.k, .int .i64 x.o.a, .int .i64 x.o.b, .int .i64 x.o.q, .int .i64 x.o.v, .int .i64 k, .int .i64 r, .int .i64 0, .int .i64 0, .slice none 0 0, .slice none 0 0, .slice none 0 0]) rfl (by kernel_rfl) (by kernel_rfl) (by kernel_rfl) (fun _ _ _ h => h) (Or.inl ⟨by kernel_rfl, by intro u hu; go_simp⟩) hS1 ?_
          refine wpAnyH_ready (rs := [9]) (by kernel_rfl) (by simp) ?_
          refine AllReadyH.cons rfl (fun K hK => ?_) AllReadyH.nil
          go_simp
          refine hK.out _ _ ⟨(BX.out.step hb1).alloc _, hb1.alloc hb1.size _⟩ (fun hS2 => ?_)
          clear hK K
          refine wpAnyH_ready (rs := [10]) (by kernel_rfl) (by simp) ?_
          refine AllReadyH.cons rfl (fun K hK => ?_) AllReadyH.nil
          rw [if_pos (by kernel_rfl)]
          refine wp_store_row 39 (.tmp 8) (.tmp 31) rfl (v1.heap.size) (cc ⟨x.t, x.o, k, r, noR⟩ noS3) rfl rfl 39 zero39 (Bx.new v1 zero39 39) size39 rfl (cc_one _ _) ?_
          go_simp
          refine hK.out _ _ (⟨((BX.out.step hb1).alloc _).far (by have h1 := BX.out.lt; have h2 := hb1.size; omega) _, row_below (hb1.alloc hb1.size _) hb1.size _⟩) (fun _ => ?_)
          clear hK K
          refine wpAnyH_done (by kernel_rfl) ?_ _
          have BXC : Hid (Bx ((v1.alloc (.cells zero39 39)).setRow v1.heap.size (cc ⟨x.t, x.o, k, r, noR⟩ noS3)) (v1.heap.size) (cc ⟨x.t, x.o, k, r, noR⟩ noS3) 39) := (Bx.new v1 zero39 39).put _
          have BV : Hid (Below U.heap.size U ((v1.alloc (.cells zero39 39)).setRow v1.heap.size (cc ⟨x.t, x.o, k, r, noR⟩ noS3))) := row_below (hb1.alloc hb1.size _) hb1.size _
          obtain ⟨V, hV⟩ : ∃ V, Hid ((v1.alloc (.cells zero39 39)).setRow v1.heap.size (cc ⟨x.t, x.o, k, r, noR⟩ noS3) = V) := ⟨_, rfl⟩
          obtain ⟨hh, hhh⟩ : ∃ g, Hid (v1.heap.size = g) := ⟨_, rfl⟩
          have hV' := hV.out
          have hh' := hhh.out
          rw [hV', hh']
          rw [hV', hh'] at BXC
          rw [hV'] at BV
          have HGE : Hid (U.heap.size ≤ hh) := by show _ ≤ _; rw [← hh']; exact hb1.size
          clear hV hV' hhh hh'
          have BWV := hide (HB1.out.trans (BV.out.mono HB1.out.size))
          have OV := hide (OU.out.step BV.out)
          have c7 : V.cell? ⟨hh, 7, none⟩ = some (.int .i64 r) := BXC.out.c7
          rcases nxt_cases L k with ⟨kk, e2, h1, h2, h3, h4⟩ | ⟨e2, _⟩
          · obtain rfl : r = (kk : Int) := HNX.out.symm.trans e2
            clear e2 h3 h4
            have hkk : kk < N := by have := hl.out; omega
            obtain ⟨b', off', zy, e, _, LY0, RY0⟩ := (HP.out.below BWV.out (Nat.le_refl _)).at_ hkk
            dsimp only at e
            simp only [Option.some.injEq, Addr.mk.injEq, and_true] at e
            obtain ⟨x1, x2⟩ := e
            subst x1 x2
            obtain ⟨y, hy⟩ : ∃ y, Hid (L.getD kk noEv = y) := ⟨_, rfl⟩
            rw [hy.out] at LY0 RY0
            have LY := hide LY0.er
            have RY := hide RY0
            clear LY0 RY0 h1 h2
            have j1 : (0 : Int) ≤ (kk : Int) := by omega
            have j2 : (kk : Int) < (N : Int) := by omega
            have OSB := hide (own_box2 BXC.out)
            have PB := hide (box_res (r := y.r) (q := zy) BXC.out)
            have BX2 := hide (putL_below (rc y.r zy).toList 8 _ BV.out HGE.out)
            have BWX := hide (HB1.out.trans (BX2.out.mono HB1.out.size))
            have OX := hide (OU.out.step BX2.out)
            have RX := hide (see_put (r := y.r) (q := zy) RY.out (Nat.le_trans HB1.out.size HGE.out) BWV.out.size (rc y.r zy).toList)
            have HQ : Hid (∀ b, HasR zy b → b < w.heap.size) := fun b hx2 => hasR_lt RY.out hx2
            have HK : Hid (rcall L k = { (⟨x.t, x.o, k, (kk : Int), noR⟩ : Cl) with r := y.r }) := by
              show rcall L k = _
              unfold rcall
              rw [HNX.out, hx.out, if_pos (by omega), Int.toNat_natCast, hy.out]
            have XS : Hid ((putL V hh 8 (rc y.r zy).toList).heap.size = V.heap.size) := putL_size _ _ _
            go_wp2_with (first | ((with_reducible refine ld37 (.tmp 39) b (off + kk * 12 + 7) ?_ ?_ y.r zy ?_ ?_); (exact rfl); (exact rfl); (exact LY.out)) | ((with_reducible refine st37r (.tmp 41) (.tmp 40) (hh) (hh) 8 1 1 _ ?_ y.r zy ?_ OSB.out ?_ ?_); (exact rfl); (exact rfl); (omega)) | ((with_reducible refine ld39l (.tmp 8) (hh) 0 ?_ ?_ { (⟨x.t, x.o, k, (kk : Int), noR⟩ : Cl) with r := y.r } zy ?_ ?_); (exact rfl); (exact rfl); (exact PB.out.lies)) | (at_builtin; refine wpList_append_lies _ rfl _ _ 25 rfl w.heap.size 39 i0 (.agg zero39) 13 152 Try.underlying25 H1.out H2.out H3.out H4.out rfl (by decide) (.slice A n c) n _ rfl (OX.out.rows.alloc _) ⟨(putL V (hh) 8 (rc y.r zy).toList).heap.size, 0, none⟩ 1 1 (cc { (⟨x.t, x.o, k, (kk : Int), noR⟩ : Cl) with r := y.r } zy).toList rfl rfl (cells_new _ _ _ _ rfl) (list_one (cc_one _ _)) (by decide) (by simp only [maxLen]; omega) (by omega) (by have := BWX.out.size; simp; omega) _ rfl ?_; intro g1 q1 w2 hown hg2 hat hlt2; have PU := hide (own_push OX.out RX.out HQ.out BWX.out.size BWX.out rfl hown hg2 hat (by simp)); clear hown hg2 hat hlt2))
            have EQ2 : Hid (List.map (fun p : CZ => p.1) (Z ++ [({ (⟨x.t, x.o, k, (kk : Int), noR⟩ : Cl) with r := y.r }, zy)]) = rcalls L (k + 1)) := by show _ = _; rw [HRC.out, List.map_append, EQ.out, HK.out]; rfl
            go_roundw
            case rel => exact ⟨k + 1, n + 1, _, _, _, by omega, by go_num, rfl, PU.out.1, EQ2, PU.out.2⟩
            case measure => simp [intOf]; omega
          · obtain rfl : r = -1 := HNX.out.symm.trans e2
            clear e2
            have HK : Hid (rcall L k = ⟨x.t, x.o, k, -1, noR⟩) := by
              show rcall L k = _
              unfold rcall
              rw [HNX.out, hx.out, if_neg (by omega)]
            go_wp2_with (first | ((with_reducible refine ld39l (.tmp 8) (hh) 0 ?_ ?_ ⟨x.t, x.o, k, -1, noR⟩ noS3 ?_ ?_); (exact rfl); (exact rfl); (exact BXC.out.lies)) | (at_builtin; refine wpList_append_lies _ rfl _ _ 25 rfl w.heap.size 39 i0 (.agg zero39) 13 152 Try.underlying25 H1.out H2.out H3.out H4.out rfl (by decide) (.slice A n c) n _ rfl (OV.out.rows.alloc _) ⟨V.heap.size, 0, none⟩ 1 1 (cc ⟨x.t, x.o, k, -1, noR⟩ noS3).toList rfl rfl (cells_new _ _ _ _ rfl) (list_one (cc_one _ _)) (by decide) (by simp only [maxLen]; omega) (by omega) (by have := BWV.out.size; simp; omega) _ rfl ?_; intro g1 q1 w2 hown hg2 hat hlt2; have PU := hide (own_push OV.out (RSee.nil _ _) (fun b hh => (hasR_nil hh).elim) BWV.out.size BWV.out rfl hown hg2 hat (by simp)); clear hown hg2 hat hlt2))
            have EQ2 : Hid (List.map (fun p : CZ => p.1) (Z ++ [((⟨x.t, x.o, k, -1, noR⟩ : Cl), noS3)]) = rcalls L (k + 1)) := by show _ = _; rw [HRC.out, List.map_append, EQ.out, HK.out]; rfl
            go_roundw
            case rel => exact ⟨k + 1, n + 1, _, _, _, by omega, by go_num, rfl, PU.out.1, EQ2, PU.out.2⟩
            case measure => simp [intOf]; omega
        · go_simp
          have D1 : Below U.heap.size U (U.drew.alloc (.cells zero39 39)) := D0.out.alloc (Nat.le_refl _) _
          refine hK.out _ _ ⟨BX.out.step D1, D1⟩ (fun hS0 => ?_)
          clear hK K
          refine wpAnyH_ready (rs := [7]) (by kernel_rfl) (by simp) ?_
          refine AllReadyH.cons rfl (fun K hK => ?_) AllReadyH.nil
          go_simp
          refine (CN.out _ D1).mono ?_
          rintro e v2 ⟨rfl, hb1, hb2⟩
          refine hK.out _ _ ⟨BX.out.step hb1, hb1⟩ (fun hS1 => ?_)
          clear hK K
          have BZ : Hid (Bx v2 U.heap.size zero39 39) := (Bx.new U.drew zero39 39).step hb2
          refine wpAnyH_take (i := 8) (v := .agg #[.int .i64 x.t, .int .i64 x.o.k, .int .i64 x.o.a, .int .i64 x.o.b, .int .i64 x.o.q, .int .i64 x.o.v, .int .i64 k, .int .i64 r, .int .i64 0, .int .i64 0, .slice none 0 0, .slice none 0 0, .slice none 0 0]) rfl (by kernel_rfl) (by kernel_rfl) (by kernel_rfl) (fun _ _ _ h => h) (Or.inl ⟨by kernel_rfl, by intro u hu; go_simp⟩) hS1 ?_
          refine wpAnyH_ready (rs := [10]) (by kernel_rfl) (by simp) ?_
          refine AllReadyH.cons rfl (fun K hK => ?_) AllReadyH.nil
          rw [if_pos (by kernel_rfl)]
          refine wp_store_row 39 (.tmp 8) (.tmp 31) rfl (U.heap.size) (cc ⟨x.t, x.o, k, r, noR⟩ noS3) rfl rfl 39 zero39 BZ.out size39 rfl (cc_one _ _) ?_
          go_simp
          refine hK.out _ _ (⟨(BX.out.step hb1).far (by have h1 := BX.out.lt; omega) _, row_below hb1 (Nat.le_refl _) _⟩) (fun _ => ?_)
          clear hK K
          refine wpAnyH_done (by kernel_rfl) ?_ _
          have BXC : Hid (Bx (v2.setRow U.heap.size (cc ⟨x.t, x.o, k, r, noR⟩ noS3)) (U.heap.size) (cc ⟨x.t, x.o, k, r, noR⟩ noS3) 39) := BZ.out.put _
          have BV : Hid (Below U.heap.size U (v2.setRow U.heap.size (cc ⟨x.t, x.o, k, r, noR⟩ noS3))) := row_below hb1 (Nat.le_refl _) _
          obtain ⟨V, hV⟩ : ∃ V, Hid (v2.setRow U.heap.size (cc ⟨x.t, x.o, k, r, noR⟩ noS3) = V) := ⟨_, rfl⟩
          obtain ⟨hh, hhh⟩ : ∃ g, Hid (U.heap.size = g) := ⟨_, rfl⟩
          have hV' := hV.out
          have hh' := hhh.out
          rw [hV', hh']
          rw [hV', hh'] at BXC
          rw [hV'] at BV
          have HGE : Hid (U.heap.size ≤ hh) := by show _ ≤ _; rw [← hh']; exact Nat.le_refl _
          clear hV hV' hhh hh'
          have BWV := hide (HB1.out.trans (BV.out.mono HB1.out.size))
          have OV := hide (OU.out.step BV.out)
          have c7 : V.cell? ⟨hh, 7, none⟩ = some (.int .i64 r) := BXC.out.c7
          rcases nxt_cases L k with ⟨kk, e2, h1, h2, h3, h4⟩ | ⟨e2, _⟩
          · obtain rfl : r = (kk : Int) := HNX.out.symm.trans e2
            clear e2 h3 h4
            have hkk : kk < N := by have := hl.out; omega
            obtain ⟨b', off', zy, e, _, LY0, RY0⟩ := (HP.out.below BWV.out (Nat.le_refl _)).at_ hkk
            dsimp only at e
            simp only [Option.some.injEq, Addr.mk.injEq, and_true] at e
            obtain ⟨x1, x2⟩ := e
            subst x1 x2
            obtain ⟨y, hy⟩ : ∃ y, Hid (L.getD kk noEv = y) := ⟨_, rfl⟩
            rw [hy.out] at LY0 RY0
            have LY := hide LY0.er
            have RY := hide RY0
            clear LY0 RY0 h1 h2
            have j1 : (0 : Int) ≤ (kk : Int) := by omega
            have j2 : (kk : Int) < (N : Int) := by omega
            have OSB := hide (own_box2 BXC.out)
            have PB := hide (box_res (r := y.r) (q := zy) BXC.out)
            have BX2 := hide (putL_below (rc y.r zy).toList 8 _ BV.out HGE.out)
            have BWX := hide (HB1.out.trans (BX2.out.mono HB1.out.size))
            have OX := hide (OU.out.step BX2.out)
            have RX := hide (see_put (r := y.r) (q := zy) RY.out (Nat.le_trans HB1.out.size HGE.out) BWV.out.size (rc y.r zy).toList)
            have HQ : Hid (∀ b, HasR zy b → b < w.heap.size) := fun b hx2 => hasR_lt RY.out hx2
            have HK : Hid (rcall L k = { (⟨x.t, x.o, k, (kk : Int), noR⟩ : Cl) with r := y.r }) := by
              show rcall L k = _
              unfold rcall
              rw [HNX.out, hx.out, if_pos (by omega), Int.toNat_natCast, hy.out]
            have XS : Hid ((putL V hh 8 (rc y.r zy).toList).heap.size = V.heap.size) := putL_size _ _ _
            go_wp2_with (first | ((with_reducible refine ld37 (.tmp 39) b (off + kk * 12 + 7) ?_ ?_ y.r zy ?_ ?_); (exact rfl); (exact rfl); (exact LY.out)) | ((with_reducible refine st37r (.tmp 41) (.tmp 40) (hh) (hh) 8 1 1 _ ?_ y.r zy ?_ OSB.out ?_ ?_); (exact rfl); (exact rfl); (omega)) | ((with_reducible refine ld39l (.tmp 8) (hh) 0 ?_ ?_ { (⟨x.t, x.o, k, (kk : Int), noR⟩ : Cl) with r := y.r } zy ?_ ?_); (exact rfl); (exact rfl); (exact PB.out.lies)) | (at_builtin; refine wpList_append_lies _ rfl _ _ 25 rfl w.heap.size 39 i0 (.agg zero39) 13 152 Try.underlying25 H1.out H2.out H3.out H4.out rfl (by decide) (.slice A n c) n _ rfl (OX.out.rows.alloc _) ⟨(putL V (hh) 8 (rc y.r zy).toList).heap.size, 0, none⟩ 1 1 (cc { (⟨x.t, x.o, k, (kk : Int), noR⟩ : Cl) with r := y.r } zy).toList rfl rfl (cells_new _ _ _ _ rfl) (list_one (cc_one _ _)) (by decide) (by simp only [maxLen]; omega) (by omega) (by have := BWX.out.size; simp; omega) _ rfl ?_; intro g1 q1 w2 hown hg2 hat hlt2; have PU := hide (own_push OX.out RX.out HQ.out BWX.out.size BWX.out rfl hown hg2 hat (by simp)); clear hown hg2 hat hlt2))
            have EQ2 : Hid (List.map (fun p : CZ => p.1) (Z ++ [({ (⟨x.t, x.o, k, (kk : Int), noR⟩ : Cl) with r := y.r }, zy)]) = rcalls L (k + 1)) := by show _ = _; rw [HRC.out, List.map_append, EQ.out, HK.out]; rfl
            go_roundw
            case rel => exact ⟨k + 1, n + 1, _, _, _, by omega, by go_num, rfl, PU.out.1, EQ2, PU.out.2⟩
            case measure => simp [intOf]; omega
          · obtain rfl : r = -1 := HNX.out.symm.trans e2
            clear e2
            have HK : Hid (rcall L k = ⟨x.t, x.o, k, -1, noR⟩) := by
              show rcall L k = _
              unfold rcall
              rw [HNX.out, hx.out, if_neg (by omega)]
            go_wp2_with (first | ((with_reducible refine ld39l (.tmp 8) (hh) 0 ?_ ?_ ⟨x.t, x.o, k, -1, noR⟩ noS3 ?_ ?_); (exact rfl); (exact rfl); (exact BXC.out.lies)) | (at_builtin; refine wpList_append_lies _ rfl _ _ 25 rfl w.heap.size 39 i0 (.agg zero39) 13 152 Try.underlying25 H1.out H2.out H3.out H4.out rfl (by decide) (.slice A n c) n _ rfl (OV.out.rows.alloc _) ⟨V.heap.size, 0, none⟩ 1 1 (cc ⟨x.t, x.o, k, -1, noR⟩ noS3).toList rfl rfl (cells_new _ _ _ _ rfl) (list_one (cc_one _ _)) (by decide) (by simp only [maxLen]; omega) (by omega) (by have := BWV.out.size; simp; omega) _ rfl ?_; intro g1 q1 w2 hown hg2 hat hlt2; have PU := hide (own_push OV.out (RSee.nil _ _) (fun b hh => (hasR_nil hh).elim) BWV.out.size BWV.out rfl hown hg2 hat (by simp)); clear hown hg2 hat hlt2))
            have EQ2 : Hid (List.map (fun p : CZ => p.1) (Z ++ [((⟨x.t, x.o, k, -1, noR⟩ : Cl), noS3)]) = rcalls L (k + 1)) := by show _ = _; rw [HRC.out, List.map_append, EQ.out, HK.out]; rfl
            go_roundw
            case rel => exact ⟨k + 1, n + 1, _, _, _, by omega, by go_num, rfl, PU.out.1, EQ2, PU.out.2⟩
            case measure => simp [intOf]; omega
    · obtain rfl : N = k := by omega
      have EQ2 : Hid (Z.map (·.1) = resC L) := by
        show _ = _
        rw [resC_yes HMAY.out, EQ.out, ← rcalls_all L, hl.out]
      go_wp2
      exact bodyPost_ret (results_tmp2 rfl _ _ _) rfl ⟨⟨A, n, c⟩, Z, by rw [e1]; rfl, O.out, EQ2.out, HB.out⟩

end Go.Proofs.Ytfefkdedgceomaa
