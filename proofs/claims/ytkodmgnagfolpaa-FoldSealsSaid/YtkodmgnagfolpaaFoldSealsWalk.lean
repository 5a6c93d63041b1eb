/- The walk of notcherlaw11.FoldSeals. -/
import Derived.Test.YtkodmgnagfolpaaLaw11M

namespace Go.Proofs.Ytkodmgnagfolpaa
set_option maxRecDepth 1000000
open Go.RowKit
set_option linter.unusedVariables false
set_option linter.unusedSimpArgs false

def seal1 (x : Int) : PF := { sh := upH (fun _ => none) x { segs := 1 } }
def seal2 (x : Int) (n : Nat) : PF := sealF (putRow (seal1 x) ⟨x, [n]⟩) x
def seal3 (x y : Int) (n : Nat) : PF := { seal2 x n with sh := upH (seal2 x n).sh y { segs := 1 } }
def seal4 (x y : Int) (n : Nat) : PF := putRow (seal3 x y n) ⟨y, [1]⟩
section
variable {x y : Int} (hx : 0 ≤ x ∧ x ≤ 7) (hy : 0 ≤ y ∧ y ≤ 7) {n : Nat} (hn : 0 < n ∧ n ≤ 1000)
theorem row_zero {s : PF} {k : Int} {m : Nat} (hs : s.sh k = some { segs := 1 }) : rowE s ⟨k, [m]⟩ = 0 := by
  rw [rowE_zero]
  exact ⟨_, hs, rfl, by show (1 : Int) ≤ 1; omega, by rw [leB_iff]; intro i; exact Nat.zero_le _⟩
theorem row_n {s : PF} {k : Int} {m : Nat} (hs : s.sh k = some { segs := 1 }) : (putRow s ⟨k, [m]⟩).n = s.n + m := by
  rw [putRow_some hs]
  simp [newN, vat]
include hx in
theorem seal1_is : applyF {} ⟨1, 0, 0, x, 1, 0, []⟩ = (0, seal1 x) := add_new hx (by omega) rfl
theorem seal1_sh : (seal1 x).sh x = some { segs := 1 } := upH_same (fun _ => none) x _
include hx hn in
theorem seal2_is : applyF (seal1 x) ⟨2, 0, 0, x, 0, 0, [⟨x, [n]⟩]⟩ = (0, seal2 x n) := by
  rw [seal_says hx (row_one hx (by omega)) (.inr ⟨_, rfl, rfl⟩)]
  have h1 : liveE (seal1 x) x = 0 := liveE_zero.2 ⟨_, seal1_sh, rfl⟩
  have h2 := cut_good (row_zero (m := n) (seal1_sh (x := x))) (by rw [row_n seal1_sh]; show 0 + n < _; omega)
  rw [if_neg (by simp [h1]), h2]
  simp [seal2]
theorem seal2_sh : ∃ h, (seal2 x n).sh x = some h ∧ h.final = true := by
  have h1 : (putRow (seal1 x) ⟨x, [n]⟩).sh x = some { segs := 1, lens := [n] } := by
    rw [putRow_some (r := ⟨x, [n]⟩) seal1_sh]
    exact upH_same _ _ _
  refine ⟨{ segs := 1, lens := [n], final := true }, ?_, rfl⟩
  unfold seal2 sealF
  rw [h1]
  exact upH_same _ _ _
theorem seal2_ne (hne : y ≠ x) : (seal2 x n).sh y = none := by
  have h1 : (putRow (seal1 x) ⟨x, [n]⟩).sh x = some { segs := 1, lens := [n] } := by
    rw [putRow_some (r := ⟨x, [n]⟩) seal1_sh]
    exact upH_same _ _ _
  unfold seal2 sealF
  rw [h1]
  show upH _ x _ y = none
  rw [upH_ne hne, putRow_some (r := ⟨x, [n]⟩) seal1_sh]
  show upH _ x _ y = none
  rw [upH_ne hne]
  unfold seal1
  exact upH_ne (f := fun _ => none) (h := { segs := 1 }) hne
theorem seal2_n : (seal2 x n).n = n := by
  unfold seal2 sealF
  have h1 := row_n (m := n) (seal1_sh (x := x))
  have h0 : (seal1 x).n = 0 := rfl
  cases (putRow (seal1 x) ⟨x, [n]⟩).sh x <;> simp only [] <;> omega
include hx in
theorem seal2_cut {m : Nat} (hm : 0 < m) : applyF (seal2 x n) ⟨4, 0, 0, 0, 0, 0, [⟨x, [m]⟩]⟩ = (34, seal2 x n) := by
  rw [cut_says (row_one hx (by omega))]
  obtain ⟨h, h1, h2⟩ := seal2_sh (x := x) (n := n)
  have h3 : rowE (seal2 x n) ⟨x, [m]⟩ = 34 := by unfold rowE; rw [h1]; simp [h2]
  rw [cut_bad (by rw [h3]; decide), h3]
include hx in
theorem seal2_seal : applyF (seal2 x n) ⟨2, 0, 0, x, 0, 0, []⟩ = (34, seal2 x n) := by
  rw [seal_says hx rfl (.inl rfl)]
  obtain ⟨h, h1, h2⟩ := seal2_sh (x := x) (n := n)
  have h3 : liveE (seal2 x n) x = 34 := by unfold liveE; rw [h1]; simp [h2]
  rw [h3, if_pos (by decide)]
include hx in
theorem seal2_add : applyF (seal2 x n) ⟨1, 0, 0, x, 1, 0, []⟩ = (31, seal2 x n) := by
  obtain ⟨h, h1, h2⟩ := seal2_sh (x := x) (n := n)
  exact add_old hx (by omega) h1
include hy in
theorem seal2_none (hne : y ≠ x) : applyF (seal2 x n) ⟨4, 0, 0, 0, 0, 0, [⟨y, [1]⟩]⟩ = (30, seal2 x n) := by
  rw [cut_says (row_one hy (by omega))]
  have h3 : rowE (seal2 x n) ⟨y, [1]⟩ = 30 := by unfold rowE; rw [seal2_ne hne]
  rw [cut_bad (by rw [h3]; decide), h3]
include hy in
theorem seal3_is (hne : y ≠ x) : applyF (seal2 x n) ⟨1, 0, 0, y, 1, 0, []⟩ = (0, seal3 x y n) := add_new hy (by omega) (seal2_ne hne)
include hy hn in
theorem seal4_is : applyF (seal3 x y n) ⟨4, 0, 0, 0, 0, 0, [⟨y, [1]⟩]⟩ = (0, seal4 x y n) := by
  have h1 : (seal3 x y n).sh y = some { segs := 1 } := upH_same (seal2 x n).sh y _
  have h2 : (seal3 x y n).n = n := seal2_n
  rw [cut_says (row_one hy (by omega)), cut_good (row_zero h1) (by rw [row_n h1, h2]; omega)]
  rfl
theorem seal4_n : (seal4 x y n).n = n + 1 := by
  have h1 : (seal3 x y n).sh y = some { segs := 1 } := upH_same (seal2 x n).sh y _
  have h2 : (seal3 x y n).n = n := seal2_n
  unfold seal4
  rw [row_n h1, h2]
end
attribute [irreducible] seal1 seal2 seal3 seal4
section
variable {w W : World} {b g1 g2 x y n m : Nat}
theorem sA1 (h : HasS w W Nil b {} 0) (hx : x ≤ 7) : Calls Try.prog 12 #[.pointer (some ⟨b, 0, none⟩), .agg #[.int .i64 1, .int .u64 0, .int .u64 0, .int .i64 (x : Int), .int .i64 1, .int .u64 0, .slice none 0 0]] W (SaidS w W Nil b 0 0 (seal1 x)) :=
  h.says0 (pos := 0) (by omega) (seal1_is (by omega)) (by omega) (by omega) (by omega) (by omega)
theorem sA2 (h : HasS w W Nil b (seal1 x) 2) (hx : x ≤ 7) (hn : 0 < n ∧ n ≤ 1000) (b1 : Blk W g1 27 #[.int .u64 (n : Int)]) (b2 : Blk W g2 52 #[.int .i64 (x : Int), .slice (some ⟨g1, 0, none⟩) 1 1]) : Calls Try.prog 12 #[.pointer (some ⟨b, 0, none⟩), .agg #[.int .i64 2, .int .u64 0, .int .u64 0, .int .i64 (x : Int), .int .i64 0, .int .u64 0, .slice (some ⟨g2, 0, none⟩) 1 1]] W (SaidS w W Nil b 2 0 (seal2 x n)) :=
  h.says1 (by omega) (seal2_is (by omega) hn) (by omega) (by omega) (by omega) (by omega) b1 rfl b2
theorem sA3 (h : HasS w W Nil b (seal2 x n) 4) (hx : x ≤ 7) (hm : 0 < m ∧ m ≤ 2000) (b1 : Blk W g1 27 #[.int .u64 (m : Int)]) (b2 : Blk W g2 52 #[.int .i64 (x : Int), .slice (some ⟨g1, 0, none⟩) 1 1]) : Calls Try.prog 12 #[.pointer (some ⟨b, 0, none⟩), .agg #[.int .i64 4, .int .u64 0, .int .u64 0, .int .i64 0, .int .i64 0, .int .u64 0, .slice (some ⟨g2, 0, none⟩) 1 1]] W (SaidS w W Nil b 4 34 (seal2 x n)) :=
  h.says1 (by omega) (seal2_cut (by omega) hm.1) (by omega) (by omega) (by omega) (by omega) b1 rfl b2
theorem sA4 (h : HasS w W Nil b (seal2 x n) 6) (hx : x ≤ 7) : Calls Try.prog 12 #[.pointer (some ⟨b, 0, none⟩), .agg #[.int .i64 2, .int .u64 0, .int .u64 0, .int .i64 (x : Int), .int .i64 0, .int .u64 0, .slice none 0 0]] W (SaidS w W Nil b 6 34 (seal2 x n)) :=
  h.says0 (pos := 0) (by omega) (seal2_seal (by omega)) (by omega) (by omega) (by omega) (by omega)
theorem sA5 (h : HasS w W Nil b (seal2 x n) 8) (hx : x ≤ 7) : Calls Try.prog 12 #[.pointer (some ⟨b, 0, none⟩), .agg #[.int .i64 1, .int .u64 0, .int .u64 0, .int .i64 (x : Int), .int .i64 1, .int .u64 0, .slice none 0 0]] W (SaidS w W Nil b 8 31 (seal2 x n)) :=
  h.says0 (pos := 0) (by omega) (seal2_add (by omega)) (by omega) (by omega) (by omega) (by omega)
theorem sB1 (h : HasS w W Nil b (seal2 x n) 10) (hx : x ≤ 7) (b1 : Blk W g1 27 #[.int .u64 1]) (b2 : Blk W g2 52 #[.int .i64 (x : Int), .slice (some ⟨g1, 0, none⟩) 1 1]) : Calls Try.prog 12 #[.pointer (some ⟨b, 0, none⟩), .agg #[.int .i64 4, .int .u64 0, .int .u64 0, .int .i64 0, .int .i64 0, .int .u64 0, .slice (some ⟨g2, 0, none⟩) 1 1]] W (SaidS w W Nil b 10 34 (seal2 x n)) :=
  h.says1 (by omega) (seal2_cut (m := 1) (by omega) (by omega)) (by omega) (by omega) (by omega) (by omega) b1 rfl b2
theorem sC1 (h : HasS w W Nil b (seal2 x n) 10) (hy : y ≤ 7) (hne : (y : Int) ≠ (x : Int)) (b1 : Blk W g1 27 #[.int .u64 1]) (b2 : Blk W g2 52 #[.int .i64 (y : Int), .slice (some ⟨g1, 0, none⟩) 1 1]) : Calls Try.prog 12 #[.pointer (some ⟨b, 0, none⟩), .agg #[.int .i64 4, .int .u64 0, .int .u64 0, .int .i64 0, .int .i64 0, .int .u64 0, .slice (some ⟨g2, 0, none⟩) 1 1]] W (SaidS w W Nil b 10 30 (seal2 x n)) :=
  h.says1 (by omega) (seal2_none (by omega) hne) (by omega) (by omega) (by omega) (by omega) b1 rfl b2
theorem sC2 (h : HasS w W Nil b (seal2 x n) 12) (hy : y ≤ 7) (hne : (y : Int) ≠ (x : Int)) : Calls Try.prog 12 #[.pointer (some ⟨b, 0, none⟩), .agg #[.int .i64 1, .int .u64 0, .int .u64 0, .int .i64 (y : Int), .int .i64 1, .int .u64 0, .slice none 0 0]] W (SaidS w W Nil b 12 0 (seal3 x y n)) :=
  h.says0 (pos := 0) (by omega) (seal3_is (by omega) hne) (by omega) (by omega) (by omega) (by omega)
theorem sC3 (h : HasS w W Nil b (seal3 x y n) 14) (hy : y ≤ 7) (hn : 0 < n ∧ n ≤ 1000) (b1 : Blk W g1 27 #[.int .u64 1]) (b2 : Blk W g2 52 #[.int .i64 (y : Int), .slice (some ⟨g1, 0, none⟩) 1 1]) : Calls Try.prog 12 #[.pointer (some ⟨b, 0, none⟩), .agg #[.int .i64 4, .int .u64 0, .int .u64 0, .int .i64 0, .int .i64 0, .int .u64 0, .slice (some ⟨g2, 0, none⟩) 1 1]] W (SaidS w W Nil b 14 0 (seal4 x y n)) :=
  h.says1 (by omega) (seal4_is (by omega) hn) (by omega) (by omega) (by omega) (by omega) b1 rfl b2
end
set_option maxHeartbeats 6400000 in
theorem foldSeals_walk (w : World) {a b c : Int} (ha : (Lit.int .u8 a).wf = true) (hb : (Lit.int .u8 b).wf = true) (hc : (Lit.int .u8 c).wf = true) : Calls Try.prog 7 #[.int .u8 a, .int .u8 b, .int .u8 c] w fun e w' => e = .returned (.bool true) ∧ Mods Nil w w' := by
  obtain ⟨a, rfl⟩ := u8_nat10 ha
  obtain ⟨b, rfl⟩ := u8_nat10 hb
  obtain ⟨c, rfl⟩ := u8_nat10 hc
  obtain ⟨x, hx⟩ : ∃ x : Nat, a.toNat % 8 = x := ⟨_, rfl⟩
  obtain ⟨y, hy⟩ : ∃ y : Nat, b.toNat % 8 = y := ⟨_, rfl⟩
  have hand1 : bits .and .u8 (a.toNat : Int) 7 = (x : Int) := by rw [u8_and7]; omega
  have hand2 : bits .and .u8 (b.toNat : Int) 7 = (y : Int) := by rw [u8_and7]; omega
  have hx7 : x ≤ 7 := by omega
  have hy7 : y ≤ 7 := by omega
  have ha0 : (0 : Int) ≤ (a.toNat : Int) := by omega
  have ha1 : (a.toNat : Int) < 256 := by have := a.toNat_lt; omega
  have hb0 : (0 : Int) ≤ (b.toNat : Int) := by omega
  have hb1 : (b.toNat : Int) < 256 := by have := b.toNat_lt; omega
  have hc1 : c.toNat < 256 := c.toNat_lt
  generalize a.toNat = A at hand1 ha0 ha1 hx ⊢
  generalize b.toNat = B at hand2 hb0 hb1 hy ⊢
  generalize c.toNat = C at hc1 ⊢
  have hx7I : (x : Int) ≤ 7 := by omega
  have hx0 : (0 : Int) ≤ (x : Int) := by omega
  have hy7I : (y : Int) ≤ 7 := by omega
  have hy0 : (0 : Int) ≤ (y : Int) := by omega
  obtain ⟨n, hn⟩ : ∃ n : Nat, C + 1 = n := ⟨_, rfl⟩
  obtain ⟨m, hm⟩ : ∃ m : Nat, n + 1 = m := ⟨_, rfl⟩
  have hnI : (C : Int) + 1 = (n : Int) := by omega
  have hmI : (n : Int) + 1 = (m : Int) := by omega
  have hwc : IntKind.u64.wrap (C : Int) = (C : Int) := by rw [IntKind.wrap_u64]; omega
  have hwn : IntKind.u64.wrap (n : Int) = (n : Int) := by rw [IntKind.wrap_u64]; omega
  have hwm : IntKind.u64.wrap (m : Int) = (m : Int) := by rw [IntKind.wrap_u64]; omega
  have hwx : IntKind.i64.wrap (x : Int) = (x : Int) := by rw [IntKind.wrap_i64]; omega
  have hwy : IntKind.i64.wrap (y : Int) = (y : Int) := by rw [IntKind.wrap_i64]; omega
  have HX := Lib.hid hx7
  have HY := Lib.hid hy7
  have HC : Hid (0 < n ∧ n ≤ 1000) := Lib.hid (by omega)
  have HC2 : Hid (0 < m ∧ m ≤ 2000) := Lib.hid (by omega)
  have HNM : Hid (((n + 1 : Nat) : Int) = (m : Int)) := Lib.hid (by omega)
  clear ha hb hc hx hy hn hm
  by_cases hxy : (x : Int) = (y : Int)
  · obtain rfl : x = y := by omega
    clear hxy
    go_enter Try.func7, Try.ntmps7
    go_wp2_with (first
      | (go_at_call 9; refine (awake11_any _).mono ?_; rintro e w1 ⟨rfl, m1⟩; have M1 := Lib.hid m1; clear m1)
      | (go_at_call 10; refine (new_has1 M1.out).mono ?_; rintro e w2 ⟨p, rfl, h2⟩; have H2 := Lib.hid h2; clear h2 M1)
      | (go_at_call 12; refine (sA1 H2.out HX.out).mono ?_; rintro e w3 ⟨rfl, h', -⟩; have H3 := Lib.hid h'; clear h' H2)
      | (go_at_call 12; refine (sA2 ((H3.out.nil (((Mods.refl Nil w3).alloc _).alloc _))) HX.out HC.out ((Blk.new w3 _ _).alloc _) (blk_new2 w3 _ _ _)).mono ?_; rintro e w4 ⟨rfl, h', -⟩; have H4 := Lib.hid h'; clear h' H3)
      | (go_at_call 12; refine (sA3 ((H4.out.nil (((Mods.refl Nil w4).alloc _).alloc _))) HX.out HC2.out ((Blk.new w4 _ _).alloc _) (blk_new2 w4 _ _ _)).mono ?_; rintro e w5 ⟨rfl, h', -⟩; have H5 := Lib.hid h'; clear h' H4)
      | (go_at_call 12; refine (sA4 H5.out HX.out).mono ?_; rintro e w6 ⟨rfl, h', -⟩; have H6 := Lib.hid h'; clear h' H5)
      | (go_at_call 12; refine (sA5 H6.out HX.out).mono ?_; rintro e w7 ⟨rfl, h', -⟩; have H7 := Lib.hid h'; clear h' H6)
      | (go_at_call 13; refine (H7.out.len_ (by omega)).mono ?_; rintro e w8 ⟨rfl, m8⟩; rw [seal2_n]; have H8 := Lib.hid (H7.out.nil m8); clear m8 H7)
      | (go_at_call 12; refine (sB1 ((H8.out.nil (((Mods.refl Nil w8).alloc _).alloc _))) HX.out ((Blk.new w8 _ _).alloc _) (blk_new2 w8 _ _ _)).mono ?_; rintro e w9 ⟨rfl, h', -⟩; have H9 := Lib.hid h'; clear h' H8))
    go_ret
    exact ⟨rfl, H9.out.m⟩
  · have hb2 : ((x : Int) == (y : Int)) = false := by rw [beq_eq_false_iff_ne]; exact hxy
    have HNE : Hid ((y : Int) ≠ (x : Int)) := Lib.hid (fun h => hxy h.symm)
    clear hxy
    go_enter Try.func7, Try.ntmps7
    go_wp2_with (first
      | (go_at_call 9; refine (awake11_any _).mono ?_; rintro e w1 ⟨rfl, m1⟩; have M1 := Lib.hid m1; clear m1)
      | (go_at_call 10; refine (new_has1 M1.out).mono ?_; rintro e w2 ⟨p, rfl, h2⟩; have H2 := Lib.hid h2; clear h2 M1)
      | (go_at_call 12; refine (sA1 H2.out HX.out).mono ?_; rintro e w3 ⟨rfl, h', -⟩; have H3 := Lib.hid h'; clear h' H2)
      | (go_at_call 12; refine (sA2 ((H3.out.nil (((Mods.refl Nil w3).alloc _).alloc _))) HX.out HC.out ((Blk.new w3 _ _).alloc _) (blk_new2 w3 _ _ _)).mono ?_; rintro e w4 ⟨rfl, h', -⟩; have H4 := Lib.hid h'; clear h' H3)
      | (go_at_call 12; refine (sA3 ((H4.out.nil (((Mods.refl Nil w4).alloc _).alloc _))) HX.out HC2.out ((Blk.new w4 _ _).alloc _) (blk_new2 w4 _ _ _)).mono ?_; rintro e w5 ⟨rfl, h', -⟩; have H5 := Lib.hid h'; clear h' H4)
      | (go_at_call 12; refine (sA4 H5.out HX.out).mono ?_; rintro e w6 ⟨rfl, h', -⟩; have H6 := Lib.hid h'; clear h' H5)
      | (go_at_call 12; refine (sA5 H6.out HX.out).mono ?_; rintro e w7 ⟨rfl, h', -⟩; have H7 := Lib.hid h'; clear h' H6)
      | (go_at_call 13; refine (H7.out.len_ (by omega)).mono ?_; rintro e w8 ⟨rfl, m8⟩; rw [seal2_n]; have H8 := Lib.hid (H7.out.nil m8); clear m8 H7)
      | (go_at_call 12; refine (sC1 ((H8.out.nil (((Mods.refl Nil w8).alloc _).alloc _))) HY.out HNE.out ((Blk.new w8 _ _).alloc _) (blk_new2 w8 _ _ _)).mono ?_; rintro e w9 ⟨rfl, h', -⟩; have H9 := Lib.hid h'; clear h' H8)
      | (go_at_call 12; refine (sC2 H9.out HY.out HNE.out).mono ?_; rintro e wa ⟨rfl, h', -⟩; have Ha := Lib.hid h'; clear h' H9)
      | (go_at_call 12; refine (sC3 ((Ha.out.nil (((Mods.refl Nil wa).alloc _).alloc _))) HY.out HC.out ((Blk.new wa _ _).alloc _) (blk_new2 wa _ _ _)).mono ?_; rintro e wb ⟨rfl, h', -⟩; have Hb := Lib.hid h'; clear h' Ha)
      | (go_at_call 13; refine (Hb.out.len_ (by omega)).mono ?_; rintro e wc ⟨rfl, mc⟩; rw [seal4_n]; have Hc := Lib.hid (Hb.out.nil mc); clear mc Hb))
    go_ret
    exact ⟨rfl, Hc.out.m⟩
end Go.Proofs.Ytkodmgnagfolpaa
