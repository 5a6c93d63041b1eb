/- The walk of notcherlaw11.FoldTrims. -/
import Derived.Test.YtkodmgnagfolpaaLaw11M

namespace Go.Proofs.Ytkodmgnagfolpaa
set_option maxRecDepth 1000000
open Go.RowKit
set_option linter.unusedVariables false
set_option linter.unusedSimpArgs false

def trim1 : PF := { sh := upH (fun _ => none) 3 { segs := 4 } }
def trim2 (vs : List Nat) : PF := putRow trim1 ⟨3, vs⟩
def trim3 (vs : List Nat) (k : Nat) : PF := { trim2 vs with low := k }
theorem newN_le16 {a b : List Nat} (h : ∀ i, vat b i ≤ 16) : ∀ j, newN a b j ≤ 16 * j
  | 0 => Nat.le_refl _
  | j + 1 => by have := newN_le16 (a := a) h j; have := h j; simp only [newN]; omega
section
variable {vs : List Nat} (hl : vs.length ≤ 4) (hv : ∀ i, vat vs i ≤ 16) (hp : ∀ x ∈ vs, 0 < x) {k p : Nat}
theorem trim1_sh : trim1.sh 3 = some { segs := 4 } := upH_same (fun _ => none) 3 _
theorem trim2_eq : trim2 vs = { trim1 with sh := upH trim1.sh 3 { segs := 4, lens := vs }, L := trim1.L ++ newL 3 [] vs 0 vs.length, n := 0 + newN [] vs vs.length } := putRow_some (r := ⟨3, vs⟩) trim1_sh
include hl hv in
theorem trim2_n : (trim2 vs).n ≤ 64 := by
  rw [trim2_eq]
  have := newN_le16 (a := []) hv vs.length
  show 0 + newN [] vs vs.length ≤ 64
  omega
theorem trim2_low : (trim2 vs).low = 0 := by rw [trim2_eq]; rfl
theorem trim1_is : applyF {} ⟨1, 0, 0, 3, 4, 0, []⟩ = (0, trim1) := add_new (by omega) (by omega) rfl
include hl hv hp in
theorem trim2_is : applyF trim1 ⟨4, 0, 0, 0, 0, 0, [⟨3, vs⟩]⟩ = (0, trim2 vs) := by
  have hb : rowsB [⟨3, vs⟩] (-1) = true := by
    simp only [rowsB, Bool.and_true]
    rw [rowB_iff]
    refine ⟨by show (-1 : Int) < 3; omega, by show (3 : Int) ≤ 7; omega, hl, ?_⟩
    rcases Nat.eq_zero_or_pos vs.length with h | h
    · exact .inl h
    · refine .inr ?_
      obtain ⟨q, hq⟩ : ∃ q, vs.length = q + 1 := ⟨vs.length - 1, by omega⟩
      show vs.getLastD 0 ≠ 0
      rw [getLastD_vat hq, vat_lt (by omega)]
      have := hp _ (List.getElem_mem (l := vs) (n := q) (by omega))
      omega
  rw [cut_says hb, cut_good (rowE_zero.2 ⟨_, trim1_sh, rfl, by show (vs.length : Int) ≤ 4; omega, by rw [leB_iff]; intro i; exact Nat.zero_le _⟩) (by have := trim2_n hl hv; unfold trim2 at this; omega)]
  rfl
theorem trim3_is (hk : k ≤ (trim2 vs).n) : applyF (trim2 vs) ⟨3, 0, 0, 0, 0, k, []⟩ = (0, trim3 vs k) := by
  rw [trim_says, if_neg (by omega), trim2_low]
  unfold trim3
  rw [Nat.zero_max]
theorem trim3_n : (trim3 vs k).n = (trim2 vs).n := rfl
theorem trim3_low : (trim3 vs k).low = k := rfl
theorem trim3_far (hk : (trim2 vs).n < p) : applyF (trim3 vs k) ⟨3, 0, 0, 0, 0, p, []⟩ = (36, trim3 vs k) := by
  rw [trim_says, if_pos (by rw [trim3_n]; exact hk)]
theorem trim3_again (hk : k ≤ (trim2 vs).n) (hp : p ≤ k) : applyF (trim3 vs k) ⟨3, 0, 0, 0, 0, p, []⟩ = (0, trim3 vs k) := by
  rw [trim_says, if_neg (by rw [trim3_n]; omega), trim3_low]
  unfold trim3
  congr 2
  exact Nat.max_eq_left hp
theorem trim3_find {w w' : World} {e : Ending} (hp : p < (trim2 vs).n) (h : FTold w (trim3 vs k) p e w') : ∃ a b c, e = .returned (.tuple #[a, b, c, .int .i64 (if p < k then 35 else 0)]) ∧ Mods Nil w w' := by
  obtain ⟨h1, h2, h3⟩ := h
  by_cases hk : p < k
  · have e1 : findE (trim3 vs k) p = 35 := by unfold findE; rw [trim3_low, if_pos hk]
    rw [e1] at h1
    exact ⟨_, _, _, by rw [if_pos hk]; exact h1 (by decide), h3⟩
  · have e1 : findE (trim3 vs k) p = 0 := by unfold findE; rw [trim3_low, if_neg hk, trim3_n, if_neg (by omega)]
    obtain ⟨i, hi, -, he⟩ := h2 e1
    exact ⟨_, _, _, by rw [if_neg hk]; exact he, h3⟩
end
attribute [irreducible] trim1 trim2 trim3
/-- Rows whose lengths are a slice of the call's own. -/
theorem row_of_own {W : World} {base n c g2 : Nat} {A : Option Addr} {x : Int} {xs : List Nat} (o : W.ownsRow base 27 1 (.slice A n c) n (nums xs)) (b2 : Blk W g2 52 #[.int .i64 x, .slice A n c])
    (hx : -9223372036854775808 ≤ x ∧ x ≤ 9223372036854775807) (hlt : ∀ y ∈ xs, y < 18446744073709551616) : RowsAt W (some ⟨g2, 0, none⟩) 1 1 [⟨x, A, c, xs⟩] := by
  obtain ⟨A', c', e, hn, hs, hb⟩ := own_slice o
  injection e with e1 e2 e3
  subst e1; subst e3
  rw [nums_length] at hn
  subst hn
  have hblk : ∀ a, nums xs ≠ [] → A = some a → ∃ cs, Blk W a.block 27 cs := fun a hne ha => by
    obtain ⟨g, cap, cur, e, -, -, hg, -⟩ := own_place o (by cases xs with | nil => exact absurd rfl hne | cons x r => simp)
    injection e with e1
    rw [e1] at ha
    injection ha with ha
    subst ha
    exact ⟨cur, hg⟩
  refine ⟨⟨0, ⟨⟨rfl, .inr ⟨g2, 1, _, rfl, Nat.zero_le _, b2, Nat.le_refl _, by unfold maxLen; omega, rfl, rfl⟩⟩, ?_, ?_, ?_, ?_⟩⟩, ?_⟩
  · intro q hq; rw [List.mem_singleton.1 hq]; exact hs
  · intro q hq; rw [List.mem_singleton.1 hq]; exact hlt
  · intro q hq; rw [List.mem_singleton.1 hq]; exact hx
  · intro q hq; rw [List.mem_singleton.1 hq]; intro hne a ha h
    obtain ⟨cs, hc⟩ := hblk a hne ha
    have : g2 = a.block := by simpa [Value.ownBlock] using h
    exact Blk.ne_ hc b2 (by decide) this.symm
  · intro q hq; rw [List.mem_singleton.1 hq]; exact fun hne a ha => hblk a hne ha
theorem sl_byte11 {w : World} {A : Option Addr} {c j : Nat} {xs : List UInt8} (h : Sl w A c (bts xs)) (hj : j < xs.length) :
    ∃ b off, A = some ⟨b, off, none⟩ ∧ b < w.heap.size ∧ w.cell? ⟨b, off + j, none⟩ = some (.int .u8 (xs[j].toNat : Int)) := by
  obtain ⟨b, off, hA, hb, hc⟩ := h.at_ (by simp; omega)
  exact ⟨b, off, hA, hb, hc j _ (bts_get xs j hj)⟩
section
variable {w W : World} {X : Nat → Prop} {b g2 k p n c base : Nat} {A : Option Addr} {vs : List Nat}
theorem tA1 (h : HasS w W X b {} 0) : Calls Try.prog 12 #[.pointer (some ⟨b, 0, none⟩), .agg #[.int .i64 1, .int .u64 0, .int .u64 0, .int .i64 3, .int .i64 4, .int .u64 0, .slice none 0 0]] W (SaidS w W X b 0 0 trim1) :=
  h.says0 (pos := 0) (by omega) trim1_is (by omega) (by omega) (by omega) (by omega)
theorem tA2 (h : HasS w W X b trim1 2) (hl : n ≤ 4) (hn : vs.length = n) (hv : ∀ i, vat vs i ≤ 16) (hp : ∀ x ∈ vs, 0 < x) (o : W.ownsRow base 27 1 (.slice A n c) n (nums vs)) (b2 : Blk W g2 52 #[.int .i64 3, .slice A n c]) :
    Calls Try.prog 12 #[.pointer (some ⟨b, 0, none⟩), .agg #[.int .i64 4, .int .u64 0, .int .u64 0, .int .i64 0, .int .i64 0, .int .u64 0, .slice (some ⟨g2, 0, none⟩) 1 1]] W (SaidS w W X b 2 0 (trim2 vs)) := by
  have hlt : ∀ y ∈ vs, y ≤ 16 := fun y hy => by
    obtain ⟨i, hi, rfl⟩ := List.getElem_of_mem hy
    rw [← vat_lt hi]; exact hv i
  have := h.say (by omega) (op := 4) (shard := 0) (segs := 0) (pos := 0) (by omega) (by omega) (by omega) (by omega) (L := [⟨3, A, c, vs⟩]) (by intro q hq; rw [List.mem_singleton.1 hq]; show vs.length ≤ 1000; omega) (by omega) (row_of_own o b2 (by omega) (fun y hy => by have := hlt y hy; omega))
  rw [show pws [⟨3, A, c, vs⟩] = [⟨3, vs⟩] from rfl, trim2_is (by omega) hv hp] at this
  exact this
theorem tA3 {T : Nat} {s s' : PF} {r : Int} (h : HasS w W X b s T) (hT : T ≤ 100) (hk : k ≤ 1000) (e : applyF s ⟨3, 0, 0, 0, 0, k, []⟩ = (r, s')) :
    Calls Try.prog 12 #[.pointer (some ⟨b, 0, none⟩), .agg #[.int .i64 3, .int .u64 0, .int .u64 0, .int .i64 0, .int .i64 0, .int .u64 (k : Int), .slice none 0 0]] W (SaidS w W X b T r s') :=
  h.says0 (pos := k) (by omega) e (by omega) (by omega) (by omega) (by omega)
end
set_option maxHeartbeats 6400000 in
theorem foldTrims_walk (w : World) {A : Option Addr} {c0 m : Nat} {xs : List UInt8} (hn : xs.length = m) (hs : Sl w A c0 (bts xs)) {a b : Int} (ha : (Lit.int .u8 a).wf = true) (hb : (Lit.int .u8 b).wf = true) : Calls Try.prog 6 #[.slice A m c0, .int .u8 a, .int .u8 b] w fun e w' => e = .returned (.bool true) ∧ Mods Nil w w' := by
  obtain ⟨a, rfl⟩ := u8_nat10 ha
  obtain ⟨b, rfl⟩ := u8_nat10 hb
  have ha1 : a.toNat < 256 := a.toNat_lt
  have hb1 : b.toNat < 256 := b.toNat_lt
  generalize a.toNat = lo at ha1 ⊢
  generalize b.toNat = mo at hb1 ⊢
  have HN := Lib.hid hn
  have HS := Lib.hid hs
  clear ha hb hn hs
  by_cases h4 : 4 < m
  · have h4I : (4 : Int) < (m : Int) := by omega
    go_enter Try.func6, Try.ntmps6
    go_wp2_with (first
      | (go_at_call 9; refine (awake11_any _).mono ?_; rintro e w1 ⟨rfl, m1⟩; have M1 := Lib.hid m1; clear m1))
    go_ret
    exact ⟨rfl, M1.out⟩
  have h4I : (m : Int) ≤ 4 := by omega
  have hm4 : m ≤ 4 := by omega
  clear h4
  obtain ⟨i0, hi, hz0, hz1, hz2⟩ := info_parts infoV64
  go_enter Try.func6, Try.ntmps6
  go_wp2_with (first
    | (go_at_call 9; refine (awake11_any _).mono ?_; rintro e w1 ⟨rfl, m1⟩; have M1 := Lib.hid m1; clear m1)
    | (go_at_call 10; refine (new_has1 M1.out).mono ?_; rintro e w2 ⟨p, rfl, h2⟩; have H2 := Lib.hid h2; clear h2 M1))
  go_loopw [9, 10] (fun v x wr => ∃ (j c3 : Nat) (A3 : Option Addr) (vs : List Nat), j ≤ m ∧ x = .int .i64 (j : Int) ∧ v = .slice A3 j c3 ∧ vs.length = j ∧ (∀ i, vat vs i ≤ 16) ∧ (∀ x ∈ vs, 0 < x) ∧ wr.ownsRow w2.heap.size 27 1 (.slice A3 j c3) j (nums vs) ∧ Mods Nil w2 wr) (fun _ x _ => m - (intOf x).toNat)
  case atStart => exact ⟨0, 0, none, [], Nat.zero_le _, rfl, rfl, rfl, (fun i => by rw [vat_nil]; omega), (by simp), World.ownsRow_nil _ _ _ _, Mods.refl _ _⟩
  case round =>
    obtain ⟨j, c3, A3, vs, hj, rfl, rfl, hvl, hv16, hv0, ho, hmo⟩ := hrel
    have HO := Lib.hid ho
    have HMO := Lib.hid hmo
    have HV := Lib.hid (show vs.length = j ∧ (∀ i, vat vs i ≤ 16) ∧ (∀ x ∈ vs, 0 < x) from ⟨hvl, hv16, hv0⟩)
    have H3 := Lib.hid (H2.out.keep hmo)
    clear ho hmo hvl hv16 hv0
    by_cases hlt : j < m
    · have hjI : (j : Int) < (m : Int) := by omega
      have hjl : j < xs.length := by rw [HN.out]; exact hlt
      obtain ⟨bb, off, rfl, hbb, hcc⟩ := sl_byte11 (HS.out.mods (H3.out.m) (fun _ _ h => h)) hjl
      obtain ⟨y, hy⟩ : ∃ y, xs[j] = y := ⟨_, rfl⟩
      rw [hy] at hcc
      obtain ⟨r, hr⟩ : ∃ r : Nat, y.toNat % 16 = r := ⟨_, rfl⟩
      have hand : bits .and .u8 (y.toNat : Int) 15 = (r : Int) := by rw [u8_and15]; omega
      have hy0 : (0 : Int) ≤ (y.toNat : Int) := by omega
      have hy1 : (y.toNat : Int) < 256 := by have := y.toNat_lt; omega
      generalize y.toNat = Y at hand hy0 hy1 hcc hr
      obtain ⟨q, hq⟩ : ∃ q : Nat, r + 1 = q := ⟨_, rfl⟩
      have hqI : (r : Int) + 1 = (q : Int) := by omega
      have hwr : IntKind.u64.wrap (r : Int) = (r : Int) := by rw [IntKind.wrap_u64]; omega
      have hwq : IntKind.u64.wrap (q : Int) = (q : Int) := by rw [IntKind.wrap_u64]; omega
      have HQ : Hid (0 < q ∧ q ≤ 16) := Lib.hid (by omega)
      clear hjl hy hr hq hbb
      go_wp2_with (at_builtin; refine wpList_append_sl _ rfl _ _ 34 rfl w2.heap.size 27 i0 (.int .u64 0) 8 Try.underlying34 hi hz0 hz1 hz2 rfl _ j _ rfl (HO.out.alloc _) (some ⟨wr.heap.size, 0, none⟩) 1 1 [.int .u64 (q : Int)] rfl rfl (build_at (n := 1) (by simp) rfl rfl (by decide)) (by simp [Value.oneCell']) (by omega) (by unfold maxLen; omega) (HMO.out.alloc _).size ?_; intro v' w3 hown hgrow hmv; obtain ⟨A5, c5, rfl, e5, s5, b5⟩ := own_slice hown; have O3 := Lib.hid hown; have M3 := Lib.hid (show Mods Nil _ w3 from (HMO.out.alloc _).nil_trans ((Mods.refl (fun q => (Value.slice A3 j c3).ownBlock = some q) _).grown hgrow (fun q hq _ => hq)) (fun i h => (HO.out.lt i h).1)); clear hown hgrow hmv e5 s5 b5)
      refine ⟨⟨j + 1, c5, A5, vs ++ [q], by omega, by go_num, rfl, by simp [HV.out.1], fun i => ?_, fun x hx => ?_, by rw [nums_append]; exact O3.out, M3.out⟩, by simp [intOf]; omega⟩
      · rw [vat_append]
        split
        · exact HV.out.2.1 i
        · rcases Nat.eq_zero_or_pos (i - vs.length) with h | h
          · rw [h, vat_cons_zero]; exact HQ.out.2
          · rw [vat_ge (by simp; omega)]; omega
      · rcases List.mem_append.1 hx with h | h
        · exact HV.out.2.2 x h
        · rw [List.mem_singleton.1 h]; exact HQ.out.1
    · obtain rfl : j = m := by omega
      obtain ⟨N, hN⟩ : ∃ N, (trim2 vs).n = N := ⟨_, rfl⟩
      have hN64 : N ≤ 64 := by rw [← hN]; exact trim2_n (by rw [HV.out.1]; exact hm4) HV.out.2.1
      obtain ⟨k, hk⟩ : ∃ k : Nat, lo % (N + 1) = k := ⟨_, rfl⟩
      have hkN : k ≤ N := by have := Nat.mod_lt lo (show 0 < N + 1 by omega); omega
      obtain ⟨n1, hn1⟩ : ∃ n1 : Nat, N + 1 = n1 := ⟨_, rfl⟩
      have hn1I : (N : Int) + 1 = (n1 : Int) := by omega
      have hmod : (lo : Int) % (n1 : Int) = (k : Int) := by rw [← hk, hn1]; exact (Int.natCast_emod _ _).symm
      have htmod : (lo : Int).tmod (n1 : Int) = (k : Int) := by rw [Int.tmod_eq_emod_of_nonneg (by omega)]; exact hmod
      obtain ⟨f, hf⟩ : ∃ f : Nat, n1 + mo = f := ⟨_, rfl⟩
      have hfI : (n1 : Int) + (mo : Int) = (f : Int) := by omega
      obtain ⟨k2, hk2⟩ : ∃ k2 : Nat, k / 2 = k2 := ⟨_, rfl⟩
      have hdiv : (k : Int) / 2 = (k2 : Int) := by omega
      have htdiv : (k : Int).tdiv 2 = (k2 : Int) := by rw [Int.tdiv_eq_ediv_of_nonneg (by omega)]; exact hdiv
      have hwn : IntKind.u64.wrap (n1 : Int) = (n1 : Int) := by rw [IntKind.wrap_u64]; omega
      have hwf : IntKind.u64.wrap (f : Int) = (f : Int) := by rw [IntKind.wrap_u64]; omega
      have hwl : IntKind.u64.wrap (lo : Int) = (lo : Int) := by rw [IntKind.wrap_u64]; omega
      have hwm : IntKind.u64.wrap (mo : Int) = (mo : Int) := by rw [IntKind.wrap_u64]; omega
      have hwk : IntKind.u64.wrap (k : Int) = (k : Int) := by rw [IntKind.wrap_u64]; omega
      have hwk2 : IntKind.u64.wrap (k2 : Int) = (k2 : Int) := by rw [IntKind.wrap_u64]; omega
      have hn10 : ((n1 : Int) == 0) = false := by rw [beq_eq_false_iff_ne]; omega
      have hn1z : (n1 : Int) ≠ 0 := by omega
      have HNN := Lib.hid hN
      have E3 : Hid (applyF (trim2 vs) ⟨3, 0, 0, 0, 0, k, []⟩ = (0, trim3 vs k)) := Lib.hid (trim3_is (by omega))
      have E4 : Hid (applyF (trim3 vs k) ⟨3, 0, 0, 0, 0, f, []⟩ = (36, trim3 vs k)) := Lib.hid (trim3_far (by omega))
      have E5 : Hid (applyF (trim3 vs k) ⟨3, 0, 0, 0, 0, k2, []⟩ = (0, trim3 vs k)) := Lib.hid (trim3_again (by omega) (by omega))
      have HK : Hid (k ≤ 1000) := Lib.hid (by omega)
      have HF : Hid (f ≤ 1000) := Lib.hid (by omega)
      have HK2 : Hid (k2 ≤ 1000) := Lib.hid (by omega)
      have H4 := Lib.hid hm4
      have H64 := Lib.hid hN64
      have HKN := Lib.hid hkN
      obtain ⟨X, hX⟩ : ∃ X : Nat → Prop, (fun q => w2.heap.size ≤ q ∧ q < wr.heap.size) = X := ⟨_, rfl⟩
      have HX : Hid (∀ q, w2.heap.size ≤ q ∧ q < wr.heap.size → X q) := Lib.hid (fun q h => by rw [← hX]; exact h)
      rw [hX] at H3
      clear hlt hN hk hn1 hf hk2 H2 hX
      go_wp2_with (first
        | (go_at_call 12; refine (tA1 H3.out).mono ?_; rintro e w3 ⟨rfl, h', m3⟩; have O3 := Lib.hid (own_mods HO.out m3 (fun i hi hx => hx.2 (HX.out i (HO.out.lt i hi)))); have H5 := Lib.hid h'; clear h' m3 H3)
        | (go_at_call 12; refine (tA2 (H5.out.nil ((Mods.refl Nil w3).alloc _)) H4.out HV.out.1 HV.out.2.1 HV.out.2.2 (O3.out.alloc _) (Blk.new w3 _ _)).mono ?_; rintro e w4 ⟨rfl, h', -⟩; have H6 := Lib.hid h'; clear h' H5)
        | (go_at_call 13; refine (H6.out.len_ (by omega)).mono ?_; rintro e w5 ⟨rfl, m5⟩; rw [HNN.out]; have H7 := Lib.hid (H6.out.nil m5); clear m5 H6)
        | (go_at_call 12; refine (tA3 H7.out (by omega) HK.out E3.out).mono ?_; rintro e w6 ⟨rfl, h', -⟩; have H8 := Lib.hid h'; clear h' H7)
        | (go_at_call 12; refine (tA3 H8.out (by omega) HF.out E4.out).mono ?_; rintro e w7 ⟨rfl, h', -⟩; have H9 := Lib.hid h'; clear h' H8)
        | (go_at_call 12; refine (tA3 H9.out (by omega) HK2.out E5.out).mono ?_; rintro e w8 ⟨rfl, h', -⟩; have Ha := Lib.hid h'; clear h' H9))
      go_loopw [13] (fun x wr => ∃ (q : Nat), q ≤ N ∧ x = .int .u64 (q : Int) ∧ HasS w wr X p (trim3 vs k) 10) (fun x _ => N - (intOf x).toNat)
      case atStart => exact ⟨0, Nat.zero_le _, rfl, Ha.out⟩
      case round =>
        obtain ⟨q, hq, rfl, h'⟩ := hrel
        have Hb := Lib.hid h'
        clear h' Ha
        by_cases hqN : q < N
        · have hqI : (q : Int) < (N : Int) := by omega
          have HQ : Hid (q < 18446744073709551616) := Lib.hid (by omega)
          have HFI : Hid (∀ W W' e, FTold W (trim3 vs k) q e W' → ∃ a b c, e = .returned (.tuple #[a, b, c, .int .i64 (if q < k then 35 else 0)]) ∧ Mods Nil W W') := Lib.hid (fun W W' e h => trim3_find (by rw [HNN.out]; exact hqN) h)
          have hw1 : IntKind.u64.wrap ((q : Int) + 1) = ((q + 1 : Nat) : Int) := by rw [IntKind.wrap_u64]; omega
          by_cases hqk : q < k
          · have hqkI : (q : Int) < (k : Int) := by omega
            simp only [hqk, if_true] at HFI
            clear hqk
            go_wp2_with (first
              | (go_at_call 14; refine (Hb.out.find (by omega) HQ.out).mono ?_; intro e w8 h8; obtain ⟨f1, f2, f3, rfl, m8⟩ := HFI.out _ _ _ h8; have H8 := Lib.hid (Hb.out.nil m8); clear h8 m8))
            exact ⟨⟨q + 1, by omega, by go_num, H8.out⟩, by simp [intOf]; omega⟩
          · have hqkI : (k : Int) ≤ (q : Int) := by omega
            simp only [hqk, if_false] at HFI
            clear hqk
            go_wp2_with (first
              | (go_at_call 14; refine (Hb.out.find (by omega) HQ.out).mono ?_; intro e w8 h8; obtain ⟨f1, f2, f3, rfl, m8⟩ := HFI.out _ _ _ h8; have H8 := Lib.hid (Hb.out.nil m8); clear h8 m8))
            exact ⟨⟨q + 1, by omega, by go_num, H8.out⟩, by simp [intOf]; omega⟩
        · obtain rfl : q = N := by omega
          go_wp2_with (first
            | (go_at_call 18; refine Hb.out.low_.mono ?_; rintro e w8 ⟨rfl, m8⟩; rw [trim3_low]; have H8 := Lib.hid (Hb.out.nil m8); clear m8 Hb)
            | (go_at_call 13; refine (H8.out.len_ (by omega)).mono ?_; rintro e w9 ⟨rfl, m9⟩; rw [trim3_n, HNN.out]; have H9 := Lib.hid (H8.out.nil m9); clear m9 H8))
          go_ret
          exact ⟨rfl, H9.out.m⟩
end Go.Proofs.Ytkodmgnagfolpaa
