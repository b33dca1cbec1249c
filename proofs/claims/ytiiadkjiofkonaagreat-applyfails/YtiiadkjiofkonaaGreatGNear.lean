/- A node's properties: both; a node's edges: the code. -/
import Derived.Test.YtiiadkjiofkonaaGreatCFin
import Derived.Test.YtiiadkjiofkonaaGreatGFind
import Derived.Test.YtiiadkjiofkonaaGreatGEach
import Derived.WalkKit
import Derived.Below
import Derived.Deep.QuietTactic
import Derived.BigQuiet
import Derived.Shelf.Abstract
namespace Go.Proofs.YtiiadkjiofkonaaGreat
open Go.RowKit
set_option linter.unusedVariables false

def getR (G : GL) (n : Int) : Int × List Pr := if atf (fun z : Nd => z.1) G.N n < 0 then (2, []) else (0, prsAt G (posN G n))
theorem getR_none {G : GL} {n : Int} (h : atf (fun z : Nd => z.1) G.N n < 0) : getR G n = (2, []) := if_pos h
theorem getR_ok {G : GL} {n : Int} (h : ¬ atf (fun z : Nd => z.1) G.N n < 0) : getR G n = (0, prsAt G (posN G n)) := if_neg h
theorem atf_pos {α : Type} {f : α → Int} {l : List α} {x r : Int} (h : atf f l x = r) (hr : ¬ r < 0) : ∃ p : Nat, r = (p : Int) ∧ p < l.length ∧ l.findIdx (fun d => f d == x) = p := by
  unfold atf at h
  by_cases hl : l.findIdx (fun d => f d == x) < l.length
  · rw [if_pos hl] at h
    exact ⟨_, h.symm, hl, rfl⟩
  · rw [if_neg hl] at h
    omega
theorem Props_none (u : World) (B t s : Nat) : Hid (u.ownsRow B t s (.slice noSl.A noSl.n noSl.c) noSl.n (ints (flat2 []))) := World.ownsRow_nil _ _ _ _
/-- The ends of the edges from a node, and to it. -/
def outs (G : GL) (n : Int) : List Pr := (G.E.filter fun d => d.2.1 == n).map fun d => (d.1, d.2.2)
def ins (G : GL) (n : Int) : List Pr := (G.E.filter fun d => d.2.2 == n).map fun d => (d.1, d.2.1)
def nearR (G : GL) (n : Int) : Int × List Pr × List Pr := if isN G n = false then (2, [], []) else (0, outs G n, ins G n)
theorem nearR_none {G : GL} {n : Int} (h : isN G n = false) : nearR G n = (2, [], []) := if_pos h
theorem nearR_ok {G : GL} {n : Int} (h : isN G n = true) : nearR G n = (0, outs G n, ins G n) := if_neg (by simp [h])
theorem Ends_none (u : World) (B : Nat) : Hid (u.ownsRow B 85 2 (.slice noSl.A noSl.n noSl.c) noSl.n (ints (flat2 []))) := World.ownsRow_nil _ _ _ _

set_option maxRecDepth 100000 in
set_option maxHeartbeats 4000000 in
theorem get_any (v : Gv) (G : GL) (l : List Pr) (a er : Int) (w : World) (S : Sees w w.heap.size v G) (HS : Small G) (hr : Hid (getR G a = (er, l))) :
    Calls Tryz.prog 66 #[v.val, .int .i64 a] w fun e w' => ∃ h : Sl, e = .returned (.tuple #[.slice h.A h.n h.c, .int .i64 er]) ∧ Hid (w'.ownsRow w.heap.size 83 2 (.slice h.A h.n h.c) h.n (ints (flat2 l))) ∧ Hid (Below w.heap.size w w') := by
  obtain ⟨⟨nA, nn, nc⟩, ⟨eA, en, ec⟩, x, y⟩ := v
  show Calls Tryz.prog 66 #[.agg #[.slice nA nn nc, .slice eA en ec, .int .i64 x, .int .i64 y], .int .i64 a] w _
  have SW := hide S
  have HSM := hide HS
  have ln := S.nodes.1
  have le := edges_len S.edges
  dsimp only at ln le
  have hnn : nn ≤ 1000 := by have := HS.n; omega
  have hen : en ≤ 1000 := by have := HS.e; omega
  have LN := hide ln
  clear S HS ln le
  obtain ⟨r, Hr⟩ : ∃ r, Hid (atf (fun z : Nd => z.1) G.N a = r) := ⟨_, rfl⟩
  obtain ⟨W, hW⟩ : ∃ W, Hid (w.alloc (.cells #[.slice nA nn nc, .slice eA en ec, .int .i64 x, .int .i64 y] 27) = W) := ⟨_, rfl⟩
  have BW : Hid (Below w.heap.size w W) := by show Below _ _ _; rw [← hW.out]; exact (Below.refl _ _).alloc (Nat.le_refl _) _
  have HZ : Hid (W.heap.size = w.heap.size + 1) := by show _ = _; rw [← hW.out]; simp
  have Harg : Hid (W.heap[w.heap.size]? = some (.cells #[.slice nA nn nc, .slice eA en ec, .int .i64 x, .int .i64 y] 27 (0, 0))) := by show _ = _; rw [← hW.out]; exact heap_alloc_new w _
  have SW := hide ((SW.out.below BW.out (Nat.le_refl _)).more BW.out.size)
  go_enter Tryz.func66, Tryz.ntmps66
  go_wp2_with fail
  have hW' := hW.out
  rw [hW']
  clear hW hW'
  refine (findN_any ⟨nA, nn, nc⟩ G.N a r _ SW.out.nodes hnn Hr).mono ?_
  rintro e u1 ⟨rfl, hb1⟩
  have Harg := hide (bx_step Harg.out hb1)
  have SW := hide ((SW.out.below hb1 (Nat.le_refl _)).more (hb1).size)
  have BW := hide (BW.out.trans (hb1.mono BW.out.size))
  clear hb1
  by_cases t : r < 0
  ·
    have t1 : decide (r < 0) = true := by simpa using t
    have HR : Hid ((2, []) = (er, l)) := by show _ = _; rw [← hr.out]; exact (getR_none (by rw [Hr.out]; exact t)).symm
    obtain ⟨rfl, rfl⟩ : 2 = er ∧ [] = l := by have := HR.out; simp only [Prod.mk.injEq] at this; exact this
    go_wp2
    exact bodyPost_ret (results_tmp2 rfl _ _ _) rfl ⟨noSl, rfl, Props_none _ _ _ _, BW⟩
  ·
    have t1 : decide (r < 0) = false := by simpa using t
    obtain ⟨p, hp0, hp1, hp2⟩ := atf_pos Hr.out t
    subst hp0
    have HR : Hid ((0, prsAt G (posN G a)) = (er, l)) := by show _ = _; rw [← hr.out]; exact (getR_ok (by rw [Hr.out]; exact t)).symm
    obtain ⟨rfl, rfl⟩ : 0 = er ∧ prsAt G (posN G a) = l := by have := HR.out; simp only [Prod.mk.injEq] at this; exact this
    clear t HR hr
    have HPP : Hid (posN G a = p) := hp2
    have hpn : p < nn := by have := LN.out; omega
    clear hp2 hp1
    obtain ⟨b0, off, e0, hb0, d0, ⟨hA, hh, hcc⟩, d1, hP⟩ := SW.out.nodes.at_ (k := p) hpn
    dsimp only at e0 d1
    subst e0
    have HP := hide hP
    have hhb : hh ≤ 1000 := by have := HSM.out.p p (by have := LN.out; omega); have := hP.len; dsimp only at this; omega
    clear hP d0
    have i1 : (0 : Int) ≤ (p : Int) := by omega
    have i2 : (p : Int) < (nn : Int) := by omega
    obtain ⟨carg, farg, larg⟩ := bx_all Harg.out
    have HRW : Hid (prsAt G (posN G a) = (G.N.getD p (0, [])).2) := by show _ = _; rw [HPP.out]; rfl
    go_wp2_with fail
    refine (cloneP_any hA hh hcc _ u1 HP.out.1 HP.out.2 hhb).mono ?_
    rintro e u2 ⟨A2, n2, c2, rfl, hA2, hr2, hu2⟩
    have BX := hide (BW.out.trans (hu2.mono BW.out.size))
    have HO : Hid (u2.ownsRow w.heap.size 83 2 (.slice A2 n2 c2) n2 (ints (flat2 (prsAt G (posN G a))))) := by show World.ownsRow _ _ _ _ _ _ _; rw [HRW.out]; exact own_less hr2 BW.out.size
    clear hr2 hu2
    clear carg farg larg
    go_wp2
    exact bodyPost_ret (results_tmp2 rfl _ _ _) rfl ⟨⟨A2, n2, c2⟩, rfl, HO, BX⟩

set_option maxRecDepth 100000 in
set_option maxHeartbeats 4000000 in
theorem rget_any (v : Gv) (G : GL) (l : List Pr) (a er : Int) (w : World) (S : Sees w w.heap.size v G) (HS : Small G) (hr : Hid (getR G a = (er, l))) :
    Calls Tryz.prog 37 #[v.val, .int .i64 a] w fun e w' => ∃ h : Sl, e = .returned (.tuple #[.slice h.A h.n h.c, .int .i64 er]) ∧ Hid (w'.ownsRow w.heap.size 83 2 (.slice h.A h.n h.c) h.n (ints (flat2 l))) ∧ Hid (Below w.heap.size w w') := by
  obtain ⟨⟨nA, nn, nc⟩, ⟨eA, en, ec⟩, x, y⟩ := v
  show Calls Tryz.prog 37 #[.agg #[.slice nA nn nc, .slice eA en ec, .int .i64 x, .int .i64 y], .int .i64 a] w _
  obtain ⟨i0, hi0, hz0, hz1, hz2⟩ := info_parts info54
  have H1 := hide hi0
  have H2 := hide hz0
  have H3 := hide hz1
  have H4 := hide hz2
  clear hi0 hz0 hz1 hz2
  have SW := hide S
  have HSM := hide HS
  have ln := S.nodes.1
  have le := edges_len S.edges
  dsimp only at ln le
  have hnn : nn ≤ 1000 := by have := HS.n; omega
  have hen : en ≤ 1000 := by have := HS.e; omega
  have LN := hide ln
  clear S HS ln le
  obtain ⟨r, Hr⟩ : ∃ r, Hid (atf (fun z : Nd => z.1) G.N a = r) := ⟨_, rfl⟩
  obtain ⟨W, hW⟩ : ∃ W, Hid (w.alloc (.cells #[.slice nA nn nc, .slice eA en ec, .int .i64 x, .int .i64 y] 27) = W) := ⟨_, rfl⟩
  have BW : Hid (Below w.heap.size w W) := by show Below _ _ _; rw [← hW.out]; exact (Below.refl _ _).alloc (Nat.le_refl _) _
  have HZ : Hid (W.heap.size = w.heap.size + 1) := by show _ = _; rw [← hW.out]; simp
  have Harg : Hid (W.heap[w.heap.size]? = some (.cells #[.slice nA nn nc, .slice eA en ec, .int .i64 x, .int .i64 y] 27 (0, 0))) := by show _ = _; rw [← hW.out]; exact heap_alloc_new w _
  have SW := hide ((SW.out.below BW.out (Nat.le_refl _)).more BW.out.size)
  go_enter Tryz.func37, Tryz.ntmps37
  go_wp2_with fail
  have hW' := hW.out
  rw [hW']
  clear hW hW'
  refine (at_any ⟨⟨nA, nn, nc⟩, ⟨eA, en, ec⟩, x, y⟩ G a r _ SW.out (by dsimp only; omega) Hr).mono ?_
  rintro e u1 ⟨rfl, hb1⟩
  have Harg := hide (bx_step Harg.out hb1)
  have SW := hide ((SW.out.below hb1 (Nat.le_refl _)).more (hb1).size)
  have BW := hide (BW.out.trans (hb1.mono BW.out.size))
  clear hb1
  by_cases t : r < 0
  ·
    have t1 : decide (r < 0) = true := by simpa using t
    have HR : Hid ((2, []) = (er, l)) := by show _ = _; rw [← hr.out]; exact (getR_none (by rw [Hr.out]; exact t)).symm
    obtain ⟨rfl, rfl⟩ : 2 = er ∧ [] = l := by have := HR.out; simp only [Prod.mk.injEq] at this; exact this
    go_wp2
    exact bodyPost_ret (results_tmp2 rfl _ _ _) rfl ⟨noSl, rfl, Props_none _ _ _ _, BW⟩
  ·
    have t1 : decide (r < 0) = false := by simpa using t
    obtain ⟨p, hp0, hp1, hp2⟩ := atf_pos Hr.out t
    subst hp0
    have HR : Hid ((0, prsAt G (posN G a)) = (er, l)) := by show _ = _; rw [← hr.out]; exact (getR_ok (by rw [Hr.out]; exact t)).symm
    obtain ⟨rfl, rfl⟩ : 0 = er ∧ prsAt G (posN G a) = l := by have := HR.out; simp only [Prod.mk.injEq] at this; exact this
    clear t HR hr
    have HPP : Hid (posN G a = p) := hp2
    have hpn : p < nn := by have := LN.out; omega
    clear hp2 hp1
    obtain ⟨b0, off, e0, hb0, d0, ⟨hA, hh, hcc⟩, d1, hP⟩ := SW.out.nodes.at_ (k := p) hpn
    dsimp only at e0 d1
    subst e0
    have HP := hide hP
    have hhb : hh ≤ 1000 := by have := HSM.out.p p (by have := LN.out; omega); have := hP.len; dsimp only at this; omega
    clear hP d0
    have i1 : (0 : Int) ≤ (p : Int) := by omega
    have i2 : (p : Int) < (nn : Int) := by omega
    obtain ⟨carg, farg, larg⟩ := bx_all Harg.out
    have HRW : Hid (prsAt G (posN G a) = (G.N.getD p (0, [])).2) := by show _ = _; rw [HPP.out]; rfl
    go_wp2_with (at_builtin; refine wpList_append_nums _ rfl _ _ 34 rfl w.heap.size 83 i0 (.agg #[.int .i64 0, .int .i64 0]) 2 16 Tryz.underlying34 H1.out H2.out H3.out H4.out rfl (by decide) (.slice none 0 0) 0 [] rfl (World.ownsRow_nil _ _ _ _) hA hh hcc u1.heap.size _ rfl HP.out.2 HP.out.1 (by simp only [maxLen]; omega) (by omega) BW.out.size ?_; intro v' w2 hown hg; obtain ⟨A2, c2, rfl, hA2⟩ := own_form hown; have BX := hide (BW.out.trans hg); have HO1 := hide hown; clear hown hg)
    have HO : Hid (w2.ownsRow w.heap.size 83 2 (.slice A2 hh c2) hh (ints (flat2 (prsAt G (posN G a))))) := by show World.ownsRow _ _ _ _ _ _ _; rw [HRW.out]; simpa using HO1.out
    exact bodyPost_ret (results_tmp2 rfl _ _ _) rfl ⟨⟨A2, hh, c2⟩, rfl, HO, BX⟩

set_option maxRecDepth 100000 in
set_option maxHeartbeats 4000000 in
theorem near_any (v : Gv) (G : GL) (o i : List Pr) (a er : Int) (w : World) (S : Sees w w.heap.size v G) (HS : Small G) (hr : Hid (nearR G a = (er, o, i))) :
    Calls Tryz.prog 68 #[v.val, .int .i64 a] w fun e w' => ∃ h k : Sl, e = .returned (.tuple #[.slice h.A h.n h.c, .slice k.A k.n k.c, .int .i64 er]) ∧ Hid (w'.ownsRow w.heap.size 85 2 (.slice h.A h.n h.c) h.n (ints (flat2 o))) ∧ Hid (w'.ownsRow w.heap.size 85 2 (.slice k.A k.n k.c) k.n (ints (flat2 i))) ∧ Hid (Below w.heap.size w w') := by
  obtain ⟨⟨nA, nn, nc⟩, ⟨eA, en, ec⟩, x, y⟩ := v
  show Calls Tryz.prog 68 #[.agg #[.slice nA nn nc, .slice eA en ec, .int .i64 x, .int .i64 y], .int .i64 a] w _
  have SW := hide S
  have HSM := hide HS
  have ln := S.nodes.1
  have le := edges_len S.edges
  dsimp only at ln le
  have hnn : nn ≤ 1000 := by have := HS.n; omega
  have hen : en ≤ 1000 := by have := HS.e; omega
  have LN := hide ln
  clear S HS ln le
  obtain ⟨q, Hq⟩ : ∃ q, Hid (isN G a = q) := ⟨_, rfl⟩
  obtain ⟨W, hW⟩ : ∃ W, Hid ((w.alloc (.cells #[.slice nA nn nc, .slice eA en ec, .int .i64 x, .int .i64 y] 27)).alloc (.cells #[.int .i64 a] 3) = W) := ⟨_, rfl⟩
  have BW : Hid (Below w.heap.size w W) := by show Below _ _ _; rw [← hW.out]; exact boxed2 w _ _
  have HZ : Hid (W.heap.size = w.heap.size + 2) := by show _ = _; rw [← hW.out]; simp
  have Harg : Hid (W.heap[w.heap.size]? = some (.cells #[.slice nA nn nc, .slice eA en ec, .int .i64 x, .int .i64 y] 27 (0, 0))) := by show _ = _; rw [← hW.out]; exact heap_alloc2_old w _ _
  have Hnum : Hid (W.heap[w.heap.size + 1]? = some (.cells #[.int .i64 a] 3 (0, 0))) := by show _ = _; rw [← hW.out]; exact heap_alloc2_new w _ _
  have SW := hide ((SW.out.below BW.out (Nat.le_refl _)).more BW.out.size)
  go_enter Tryz.func68, Tryz.ntmps68
  go_wp2_with fail
  have hW' := hW.out
  rw [hW']
  clear hW hW'
  refine (isNode_any ⟨⟨nA, nn, nc⟩, ⟨eA, en, ec⟩, x, y⟩ G a q _ SW.out hnn Hq).mono ?_
  rintro e u1 ⟨rfl, hb1⟩
  have Harg := hide (bx_step Harg.out hb1)
  have Hnum := hide (bx_step Hnum.out hb1)
  have SW := hide ((SW.out.below hb1 (Nat.le_refl _)).more (hb1).size)
  have BW := hide (BW.out.trans (hb1.mono BW.out.size))
  clear hb1
  cases q
  ·
    have HR : Hid ((2, [], []) = (er, o, i)) := by show _ = _; rw [← hr.out]; exact (nearR_none Hq.out).symm
    obtain ⟨rfl, rfl, rfl⟩ : 2 = er ∧ [] = o ∧ [] = i := by have := HR.out; simp only [Prod.mk.injEq] at this; exact this
    go_wp2
    exact bodyPost_ret (results_tmp3 rfl _ _ _) rfl ⟨noSl, noSl, rfl, Ends_none _ _, Ends_none _ _, BW⟩
  ·
    have HR : Hid ((0, outs G a, ins G a) = (er, o, i)) := by show _ = _; rw [← hr.out]; exact (nearR_ok Hq.out).symm
    obtain ⟨rfl, rfl, rfl⟩ : 0 = er ∧ outs G a = o ∧ ins G a = i := by have := HR.out; simp only [Prod.mk.injEq] at this; exact this
    clear HR hr
    have hmf : ∀ (fn : Fn) (first cap : Array Value) (w : World), (Instr.makeFunc fn first cap).run Tryz.prog w = .ok (.func fn first cap) w := fun _ _ _ _ => rfl
    obtain ⟨carg, farg, larg⟩ := bx_all Harg.out
    obtain ⟨cnum, fnum, lnum⟩ := bx_all Hnum.out
    go_wp2_with fail
    have eg : ∀ args w, (callFunc 93 args).run Tryz.prog w = .ok (.enter 93 args) w := enters_of Tryz.func93 (by kernel_rfl) rfl
    refine (stayE_any 93 (w.heap.size + 1) (fun d => d.2.1 == a) eA en ec G.E _ SW.out.edges hen eg (fun u x' y' z' q hu hq => fromP_any x' y' z' a q (w.heap.size + 1) u (bx_all (bx_step Hnum.out hu)).2.2 ((bx_all (bx_step Hnum.out hu)).1 0) hq)).mono ?_
    clear eg
    rintro e u2 ⟨A2, n2, c2, rfl, hA2, hr2, hu2⟩
    clear carg farg larg cnum fnum lnum
    have Harg := hide (bx_step Harg.out hu2)
    have Hnum := hide (bx_step Hnum.out hu2)
    have SW := hide ((SW.out.below hu2 (Nat.le_refl _)).more (hu2).size)
    have BW := hide (BW.out.trans (hu2.mono BW.out.size))
    have N2 := hide (own_nums hr2)
    have ln2 : n2 ≤ 1000 := by have h1 := edges_len N2.out; have h2 := List.length_filter_le (fun d => d.2.1 == a) G.E; have h3 := HSM.out.e; omega
    clear hr2 hu2
    obtain ⟨carg, farg, larg⟩ := bx_all Harg.out
    obtain ⟨cnum, fnum, lnum⟩ := bx_all Hnum.out
    go_wp2_with fail
    have eg : ∀ args w, (callFunc 94 args).run Tryz.prog w = .ok (.enter 94 args) w := enters_of Tryz.func94 (by kernel_rfl) rfl
    refine (stayE_any 94 (w.heap.size + 1) (fun d => d.2.2 == a) eA en ec G.E _ SW.out.edges hen eg (fun u x' y' z' q hu hq => toP_any x' y' z' a q (w.heap.size + 1) u (bx_all (bx_step Hnum.out hu)).2.2 ((bx_all (bx_step Hnum.out hu)).1 0) hq)).mono ?_
    clear eg
    rintro e u3 ⟨A3, n3, c3, rfl, hA3, hr3, hu3⟩
    clear carg farg larg cnum fnum lnum
    have Harg := hide (bx_step Harg.out hu3)
    have Hnum := hide (bx_step Hnum.out hu3)
    have SW := hide ((SW.out.below hu3 (Nat.le_refl _)).more (hu3).size)
    have N2 := hide (N2.out.step hu3)
    have BW := hide (BW.out.trans (hu3.mono BW.out.size))
    have N3 := hide (own_nums hr3)
    have ln3 : n3 ≤ 1000 := by have h1 := edges_len N3.out; have h2 := List.length_filter_le (fun d => d.2.2 == a) G.E; have h3 := HSM.out.e; omega
    clear hr3 hu3
    go_wp2_with fail
    have eg : ∀ args w, (callFunc 96 args).run Tryz.prog w = .ok (.enter 96 args) w := enters_of Tryz.func96 (by kernel_rfl) rfl
    refine (eachEnd_any 96 (fun d : Ed => (d.1, d.2.2)) A2 n2 c2 _ _ N2.out ln2 eg (fun u x' y' z' p' q' hu hh => by have h1 := hh.out; simp only [Prod.mk.injEq] at h1; obtain ⟨rfl, rfl⟩ := h1; exact outE_any x' y' z' u)).mono ?_
    clear eg
    rintro e u4 ⟨A4, n4, c4, rfl, hA4, hr4, hu4⟩
    have R4 := hide (own_less hr4 BW.out.size)
    have Harg := hide (bx_step Harg.out hu4)
    have Hnum := hide (bx_step Hnum.out hu4)
    have SW := hide ((SW.out.below hu4 (Nat.le_refl _)).more (hu4).size)
    have N2 := hide (N2.out.step hu4)
    have N3 := hide (N3.out.step hu4)
    have BW := hide (BW.out.trans (hu4.mono BW.out.size))
    clear hr4 hu4
    go_wp2_with fail
    have eg : ∀ args w, (callFunc 97 args).run Tryz.prog w = .ok (.enter 97 args) w := enters_of Tryz.func97 (by kernel_rfl) rfl
    refine (eachEnd_any 97 (fun d : Ed => (d.1, d.2.1)) A3 n3 c3 _ _ N3.out ln3 eg (fun u x' y' z' p' q' hu hh => by have h1 := hh.out; simp only [Prod.mk.injEq] at h1; obtain ⟨rfl, rfl⟩ := h1; exact inE_any x' y' z' u)).mono ?_
    clear eg
    rintro e u5 ⟨A5, n5, c5, rfl, hA5, hr5, hu5⟩
    have R5 := hide (own_less hr5 BW.out.size)
    have Harg := hide (bx_step Harg.out hu5)
    have Hnum := hide (bx_step Hnum.out hu5)
    have SW := hide ((SW.out.below hu5 (Nat.le_refl _)).more (hu5).size)
    have N2 := hide (N2.out.step hu5)
    have N3 := hide (N3.out.step hu5)
    have R4 := hide (own_below R4.out hu5)
    have BW := hide (BW.out.trans (hu5.mono BW.out.size))
    clear hr5 hu5
    go_wp2
    exact bodyPost_ret (results_tmp3 rfl _ _ _) rfl ⟨⟨A4, n4, c4⟩, ⟨A5, n5, c5⟩, rfl, R4, R5, BW⟩

end Go.Proofs.YtiiadkjiofkonaaGreat
