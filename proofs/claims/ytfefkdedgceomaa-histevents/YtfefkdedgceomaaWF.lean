/- A result's own copy; how many calls are pending. Conditions: lists that are not great. -/
import Derived.Test.YtfefkdedgceomaaWB
import Derived.WalkKit
import Derived.Below
import Derived.Deep.QuietTactic
import Derived.BigQuiet
import Derived.Deep.AppendLies
import Derived.Deep.RegionHeld3
import Derived.Deep.DeepCutAuto
import Derived.Shelf.Abstract
import Derived.Laws.Rows
namespace Go.Proofs.Ytfefkdedgceomaa
open Go.RowKit
set_option linter.unusedVariables false
set_option maxRecDepth 100000

/-- A block that a slice of some elements leads to. -/
def InB (h : Sl) (b : Nat) : Prop := 0 < h.n ∧ ∃ a, h.A = some a ∧ a.block = b
def HasR (s : S3) (b : Nat) : Prop := InB s.P b ∨ InB s.O b ∨ InB s.I b
theorem inB_own {u : World} {B e s n c : Nat} {A : Option Addr} {xs : List Value} (h : u.ownsRow B e s (.slice A n c) n xs) {b : Nat} (hb : InB ⟨A, n, c⟩ b) : B ≤ b := by
  obtain ⟨hn, a, ha, rfl⟩ := hb
  dsimp only at hn ha
  rcases h.2 with ⟨_, h0⟩ | ⟨g, cap, cur, hv, hB, _⟩
  · omega
  · injection hv with e1
    rw [e1] at ha
    cases ha
    exact hB
theorem inB_lt {u : World} {B : Nat} {h : Sl} {l : List Pr} (p : Props u B h l) {b : Nat} (hb : InB h b) : b < B := by
  obtain ⟨hn, a, ha, rfl⟩ := hb
  obtain ⟨b, off, e, hl, _⟩ := p.1.2 hn
  rw [e] at ha
  cases ha
  exact hl
theorem hasR_lt {u : World} {B : Nat} {s : S3} {r : RL} (p : RSee u B s r) {b : Nat} (hb : HasR s b) : b < B := by
  rcases hb with h | h | h
  · exact inB_lt p.1 h
  · exact inB_lt p.2.1 h
  · exact inB_lt p.2.2 h
theorem hasR_nil {b : Nat} (h : HasR noS3 b) : False := by rcases h with h | h | h <;> exact absurd h.1 (by simp [noS3, noSl])
theorem own_nil_cap {u : World} {B e s n c : Nat} {A : Option Addr} {xs : List Value} (h : u.ownsRow B e s (.slice A n c) n xs) : A = none → c = 0 := by
  rcases h.2 with ⟨h1, h2⟩ | ⟨g, cap, cur, h1, _⟩
  · injection h1 with _ _ e
    intro _
    exact e
  · intro h0
    rw [h0] at h1
    cases h1
theorem Props.own {u : World} {B e n c : Nat} {A : Option Addr} {l : List Pr} (h : u.ownsRow B e 2 (.slice A n c) n (ints (flat2 l))) : Props u u.heap.size ⟨A, n, c⟩ l := ⟨own_nums h, own_nil_cap h⟩

/-- A copy of a list was told. -/
theorem clone_told {W u u' : World} {t n c : Nat} {A : Option Addr} {l : List Pr} (h : u'.ownsRow u.heap.size t 2 (.slice A n c) n (ints (flat2 l))) (hb : Below W.heap.size W u) : Props u' u'.heap.size ⟨A, n, c⟩ l ∧ ∀ b, InB ⟨A, n, c⟩ b → W.heap.size ≤ b :=
  ⟨Props.own h, fun b hb' => Nat.le_trans hb.size (inB_own h hb')⟩

/-- The three slices of a box of a result are others. -/
theorem put_slices {u : World} {g : Nat} {r : RL} {s : S3} (h : Bx u g (rc r s) 37) (P O I : Sl) :
    Bx (((u.setCell ⟨g, 2, none⟩ P.val).setCell ⟨g, 3, none⟩ O.val).setCell ⟨g, 4, none⟩ I.val) g (rc r ⟨P, O, I⟩) 37 := by
  have h1 := heap_setCell_same u g 2 _ 37 P.val h
  have h2 := heap_setCell_same _ g 3 _ 37 O.val h1
  have h3 := heap_setCell_same _ g 4 _ 37 I.val h2
  exact h3
theorem row_below {B : Nat} {w u : World} {g : Nat} (h : Below B w u) (hg : B ≤ g) (cs : Array Value) : Below B w (u.setRow g cs) :=
  ⟨h.os, h.tape, h.output, by simpa using h.size, fun k hk => (setRow_other u g k cs (by omega)).trans (h.block k hk)⟩
theorem set3_below {B : Nat} {w u : World} {g : Nat} (h : Below B w u) (hg : B ≤ g) (a b c : Value) : Below B w (((u.setCell ⟨g, 2, none⟩ a).setCell ⟨g, 3, none⟩ b).setCell ⟨g, 4, none⟩ c) := ((h.setCell (p := ⟨g, 2, none⟩) hg _).setCell (p := ⟨g, 3, none⟩) hg _).setCell (p := ⟨g, 4, none⟩) hg _
theorem props_set {u : World} {B g : Nat} {h : Sl} {l : List Pr} (p : Props u B h l) (hg : ¬ InB h g) (i : Nat) (v : Value) : Props (u.setCell ⟨g, i, none⟩ v) B h l :=
  ⟨⟨p.1.1, fun hn => by
    obtain ⟨b, off, e, hl, hc⟩ := p.1.2 hn
    refine ⟨b, off, e, hl, fun j hj => ?_⟩
    have hne : b ≠ g := fun e' => hg ⟨hn, _, e, e'⟩
    rw [← hc j hj]
    simp [World.cell?, heap_setCell_other u ⟨g, i, none⟩ b v hne]⟩, p.2⟩
theorem RSee.set {u : World} {B g : Nat} {s : S3} {r : RL} (p : RSee u B s r) (hg : ¬ HasR s g) (i : Nat) (v : Value) : RSee (u.setCell ⟨g, i, none⟩ v) B s r :=
  ⟨props_set p.1 (fun h => hg (.inl h)) i v, props_set p.2.1 (fun h => hg (.inr (.inl h))) i v, props_set p.2.2 (fun h => hg (.inr (.inr h))) i v⟩
theorem props_row {u : World} {B g : Nat} {h : Sl} {l : List Pr} (p : Props u B h l) (hg : ¬ InB h g) (cs : Array Value) : Props (u.setRow g cs) B h l :=
  ⟨⟨p.1.1, fun hn => by
    obtain ⟨b, off, e, hl, hc⟩ := p.1.2 hn
    refine ⟨b, off, e, hl, fun j hj => ?_⟩
    have hne : b ≠ g := fun e' => hg ⟨hn, _, e, e'⟩
    rw [← hc j hj]
    exact cell_setRow_other u g cs _ hne⟩, p.2⟩
theorem RSee.row {u : World} {B g : Nat} {s : S3} {r : RL} (p : RSee u B s r) (hg : ¬ HasR s g) (cs : Array Value) : RSee (u.setRow g cs) B s r :=
  ⟨props_row p.1 (fun h => hg (.inl h)) cs, props_row p.2.1 (fun h => hg (.inr (.inl h))) cs, props_row p.2.2 (fun h => hg (.inr (.inr h))) cs⟩

/-- One of the two lists of ends is going to be copied. -/
inductive Kx (W u : World) (s : S3) : Option Addr → Nat → Nat → Prop where
  | o (b : Below W.heap.size W u) : Kx W u s s.O.A s.O.n s.O.c
  | i (b : Below W.heap.size W u) : Kx W u s s.I.A s.I.n s.I.c
/-- .. was copied. -/
structure Kt (W u u' : World) (s : S3) (r : RL) (A : Option Addr) (n c : Nat) (A' : Option Addr) (n' c' : Nat) : Prop where
  bel : Below u.heap.size u u'
  rd : ∀ l, Props u u.heap.size ⟨A, n, c⟩ l → l.length ≤ 1000 → Props u' u'.heap.size ⟨A', n', c'⟩ l
  nw : ∀ b, InB ⟨A', n', c'⟩ b → W.heap.size ≤ b
theorem flat2_inj : ∀ {a b : List Pr}, flat2 a = flat2 b → a = b
  | [], [], _ => rfl
  | [], p :: b, h => by simp [flat2] at h
  | p :: a, [], h => by simp [flat2] at h
  | p :: a, q :: b, h => by
    simp only [flat2, List.flatMap_cons, List.cons_append, List.nil_append, List.cons.injEq] at h
    have := flat2_inj (a := a) (b := b) h.2.2
    rw [this, show p = q from Prod.ext h.1 h.2.1]
theorem props_one {u : World} {B : Nat} {h : Sl} {l l' : List Pr} (p : Props u B h l) (p' : Props u B h l') : l = l' := by
  apply flat2_inj
  have e1 := p.1.1
  have e2 := p'.1.1
  apply List.ext_getElem (by omega)
  intro i h1 h2
  rcases Nat.eq_zero_or_pos h.n with h0 | h0
  · rw [h0] at e1; omega
  · obtain ⟨b, off, e, _, hc⟩ := p.1.2 h0
    obtain ⟨b', off', e', _, hc'⟩ := p'.1.2 h0
    rw [e] at e'
    simp only [Option.some.injEq, Addr.mk.injEq, and_true] at e'
    obtain ⟨rfl, rfl⟩ := e'
    have x1 := hc i (by omega)
    rw [hc' i (by omega)] at x1
    simp only [Option.some.injEq, Value.int.injEq, true_and] at x1
    simpa [List.getD_eq_getElem?_getD, h1, h2] using x1.symm
theorem kx_call {W : World} {s : S3} {r : RL} (S : RSee W W.heap.size s r) (fO : s.O.n ≤ 1000) (fI : s.I.n ≤ 1000) : ∀ u A n c, Kx W u s A n c → Calls Try.prog 34 #[.slice A n c] u fun e u' => ∃ A' n' c', e = .returned (.slice A' n' c') ∧ Kt W u u' s r A n c A' n' c' := by
  intro u A n c k
  have main : ∀ (h : Sl) (l : List Pr), Below W.heap.size W u → Props W W.heap.size h l → h.n ≤ 1000 → Calls Try.prog 34 #[.slice h.A h.n h.c] u fun e u' => ∃ A' n' c', e = .returned (.slice A' n' c') ∧ Kt W u u' s r h.A h.n h.c A' n' c' := by
    intro h l b p hn
    have pu := (p.below b (Nat.le_refl _)).more b.size
    refine (cloneE_any h.A h.n h.c l u pu.1 pu.2 hn).mono ?_
    rintro e u' ⟨A', n', c', rfl, _, hr, hb⟩
    refine ⟨A', n', c', rfl, hb, fun l' p' _ => ?_, (clone_told hr b).2⟩
    obtain rfl := props_one pu p'
    exact Props.own hr
  cases k with
  | o b => exact main s.O r.O b S.2.1 fO
  | i b => exact main s.I r.I b S.2.2 fI
/-- The two boxes. -/
structure Kb (w u : World) (s : S3) (r : RL) : Prop where
  A : Bx u w.heap.size (rc r s) 37
  B : Bx u (w.heap.size + 1) (rc noR noS3) 37
theorem Kb.start {w W : World} {s : S3} {r : RL} (A : Bx W w.heap.size (rc r s) 37) (B : Bx W (w.heap.size + 1) (rc noR noS3) 37) (_ : W.heap.size = w.heap.size + 2) : Kb w W s r := ⟨A, B⟩
section
variable {w u u' : World} {s : S3} {r : RL}
theorem Kb.step (k : Kb w u s r) (b : Below u.heap.size u u') : Kb w u' s r := ⟨k.A.step b, k.B.step b⟩
theorem Kb.a2 (k : Kb w u s r) : u.cell? ⟨w.heap.size, 2, none⟩ = some (.slice s.P.A s.P.n s.P.c) := k.A.cells 2
theorem Kb.a3 (k : Kb w u s r) : u.cell? ⟨w.heap.size, 3, none⟩ = some (.slice s.O.A s.O.n s.O.c) := k.A.cells 3
theorem Kb.a4 (k : Kb w u s r) : u.cell? ⟨w.heap.size, 4, none⟩ = some (.slice s.I.A s.I.n s.I.c) := k.A.cells 4
theorem Kb.fr (k : Kb w u s r) (i : Nat) : u.frozen? ⟨w.heap.size, i, none⟩ = false := k.A.frozen i
end

/-- What fresh holds behind its three calls. -/
theorem fresh_end {w u : World} {r : RL} {s s' : S3} (HA : Bx u w.heap.size (rc r s) 37) (HB : Bx u (w.heap.size + 1) (rc noR noS3) 37) (BW : Below w.heap.size w u) (R : RSee u u.heap.size s' r) (hs : ∀ b, HasR s' b → w.heap.size + 2 ≤ b) :
    ∀ U, U = (((u.setCell ⟨w.heap.size, 2, none⟩ s'.P.val).setCell ⟨w.heap.size, 3, none⟩ s'.O.val).setCell ⟨w.heap.size, 4, none⟩ s'.I.val) →
      Bx U w.heap.size (rc r s') 37 ∧ Bx U (w.heap.size + 1) (rc noR noS3) 37 ∧ Below w.heap.size w (U.setRow (w.heap.size + 1) (rc r s')) ∧ RSee (U.setRow (w.heap.size + 1) (rc r s')) (U.setRow (w.heap.size + 1) (rc r s')).heap.size s' r := by
  rintro U rfl
  have n1 : ¬ HasR s' w.heap.size := fun h => by have := hs _ h; omega
  have n2 : ¬ HasR s' (w.heap.size + 1) := fun h => by have := hs _ h; omega
  refine ⟨put_slices HA _ _ _, ((HB.other (by omega) _ _).other (by omega) _ _).other (by omega) _ _, row_below (set3_below BW (Nat.le_refl _) _ _ _) (by omega) _, ?_⟩
  simpa using ((((R.set n1 2 s'.P.val).set n1 3 s'.O.val).set n1 4 s'.I.val).row n2 (rc r s'))

theorem fresh_reads {W v1 v2 v3 : World} {s : S3} {r : RL} {A1 A2 A3 : Option Addr} {n1 n2 n3 c1 c2 c3 : Nat} (T1 : Props v1 v1.heap.size ⟨A1, n1, c1⟩ r.P) (X2 : Kt W v1 v2 s r s.O.A s.O.n s.O.c A2 n2 c2) (X3 : Kt W v2 v3 s r s.I.A s.I.n s.I.c A3 n3 c3)
    (S : RSee W W.heap.size s r) (B1 : Below W.heap.size W v1) (B2 : Below W.heap.size W v2) (F : FewR r) : RSee v3 v3.heap.size ⟨⟨A1, n1, c1⟩, ⟨A2, n2, c2⟩, ⟨A3, n3, c3⟩⟩ r := by
  have st : ∀ {u u' : World} {h : Sl} {l : List Pr}, Props u u.heap.size h l → Below u.heap.size u u' → Props u' u'.heap.size h l := fun p b => (p.below b (Nat.le_refl _)).more b.size
  exact ⟨st (st T1 X2.bel) X3.bel, st (X2.rd r.O ((S.2.1.below B1 (Nat.le_refl _)).more B1.size) F.O) X3.bel, X3.rd r.I ((S.2.2.below B2 (Nat.le_refl _)).more B2.size) F.I⟩
theorem fresh_has {W v1 v2 v3 : World} {s : S3} {r : RL} {A1 A2 A3 : Option Addr} {n1 n2 n3 c1 c2 c3 : Nat} (T1 : ∀ b, InB ⟨A1, n1, c1⟩ b → W.heap.size ≤ b) (X2 : Kt W v1 v2 s r s.O.A s.O.n s.O.c A2 n2 c2) (X3 : Kt W v2 v3 s r s.I.A s.I.n s.I.c A3 n3 c3) :
    ∀ b, HasR ⟨⟨A1, n1, c1⟩, ⟨A2, n2, c2⟩, ⟨A3, n3, c3⟩⟩ b → W.heap.size ≤ b := by
  rintro b (h | h | h)
  · exact T1 b h
  · exact X2.nw b h
  · exact X3.nw b h

end Go.Proofs.Ytfefkdedgceomaa
