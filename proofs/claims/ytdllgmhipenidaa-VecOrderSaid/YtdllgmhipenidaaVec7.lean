/- Package vec: Min. -/
import Derived.Test.YtdllgmhipenidaaVec6
namespace Go.Proofs.Ytdllgmhipenidaa
set_option maxRecDepth 100000
open Go.RowKit
set_option linter.unusedVariables false
set_option linter.unusedSimpArgs false

theorem own_to {w : World} {base n c k : Nat} {e : TypeId} {A : Option Addr} {xs : List Value} (h : w.ownsRow base e 1 (.slice A n c) n xs) (hk : k ≤ n) : w.ownsRow base e 1 (.slice A k c) k (xs.take k) := by
  rcases h.2 with ⟨hv, _⟩ | ⟨g', cap', cur, hv, hb, hgg, h1, h2, h3, h4⟩
  · injection hv with e1 e2 e3
    subst e1; subst e2; subst e3
    obtain rfl : k = 0 := by omega
    exact World.ownsRow_nil _ _ _ _
  · injection hv with e1 e2 e3
    subst e1
    have := own_front h hk
    rwa [Nat.mul_one] at this
theorem sizeRow (W : World) : (sizeOf (Try.prog.elem 92)).run Try.prog W = .ok 1 W := by kernel_rfl
theorem slice_from_rows {A : Option Addr} {n c : Nat} (hj : 1 ≤ n) (hA : A ≠ none) (W : World) : (Instr.slice 92 (.slice A n c) (some (.int .i64 1)) none none).run Try.prog W = .ok (.slice (if c = 1 then A else A.map (·.add 1)) (n - 1) (c - 1)) W := by
  obtain ⟨a, rfl⟩ : ∃ a, A = some a := by cases A with | none => exact absurd rfl hA | some a => exact ⟨a, rfl⟩
  rw [run_slice_l (P := Try.prog) W _ _ n c (by exact Try.underlying92) .i64 1 (by omega) (by omega), sizeRow]
  simp only [Result.andThen, sliced]
  by_cases hc : c = 1 <;> simp [hc]
set_option maxHeartbeats 3200000 in
theorem min_any (w : World) {n c : Nat} {A : Option Addr} {l : List RowN} (hn : l.length = n) (hl : n ≤ 1000000) (hs : Sl w A c (l.map RowN.val)) (hr : ∀ r ∈ l, r.ok w) :
    Calls Try.prog 55 #[.slice A n c] w fun e w' => ∃ v, e = .returned v ∧ CutRow w w' (minAt (rowsOf l)) v ∧ Mods Nil w w' := by
  have hlc := hs.le
  rw [List.length_map, hn] at hlc
  by_cases h0 : n = 0
  · subst h0
    obtain rfl : l = [] := List.length_eq_zero_iff.1 hn
    clear hs hr hn hlc
    go_enter Try.func55, Try.ntmps55
    go_wp2_with fail
    go_ret
    exact ⟨_, rfl, ⟨[], World.ownsRow_nil _ _ _ _, isCut_nil, fun i => by rw [vat_nil]; rfl⟩, Mods.refl _ _⟩
  obtain ⟨b0, off0, hA, hbl0, hc0⟩ := rowN_at hs (j := 0) (by omega)
  have HSL := fun W => slice_from_rows (A := A) (n := n) (c := c) (by omega) (by rw [hA]; simp) W
  have hcut := hs.cut (k := 1) (by simp; omega)
  obtain ⟨A1, hA1⟩ : ∃ A1, (if c = 1 then A else A.map (·.add 1)) = A1 := ⟨_, rfl⟩
  have hA1' : (if c = 1 then A else A.map (fun x => x.add 1)) = A1 := hA1
  rw [hA1'] at hcut HSL
  rw [← List.map_drop] at hcut
  have HR0 := hr _ (List.getElem_mem (show 0 < l.length by omega))
  have hmin0 : ∀ i, minAt (rowsOf (l.take 1)) i = vat (l[0]'(by omega)).xs i := fun i => by
    rw [List.take_succ_eq_append_getElem (show 0 < l.length by omega)]
    rfl
  generalize l[0]'(by omega) = r0 at hc0 HR0 hmin0
  obtain ⟨A0, c0, ys0⟩ := r0
  dsimp only at hc0 hmin0
  rw [Nat.add_zero] at hc0
  obtain ⟨q0, hq0⟩ : ∃ q, ys0.length = q := ⟨_, rfl⟩
  rw [hq0] at hc0
  have hq06 : q0 ≤ 1000000 := by rw [← hq0]; exact HR0.le
  have HCUT := Lib.hid (vcut_any w hq0 hq06 HR0.sl)
  have HMIN0 := Lib.hid hmin0
  have HSC := Lib.hid hcut
  have HN := Lib.hid hn
  have HR := Lib.hid hr
  have hnb : ((n : Int) == 0) = false := by rw [beq_eq_false_iff_ne]; omega
  have hmin : ∀ (ts : Array TypeId) (t : TypeId) (W : World) (x y : Nat), (Builtin.min_ ts t #[.int .i64 (x : Int), .int .i64 (y : Int)]).run Try.prog W = .ok (.int .i64 ((min x y : Nat) : Int)) W := fun ts t W x y => by
    rw [run_min_int2]
    congr 2
    split <;> omega
  have hslt := fun (B : Option Addr) (a d k : Nat) (hk : k ≤ d) (W : World) => slice_to64 (A := B) (n := a) (c := d) (j := k) hk W
  have HH := Lib.hid (fun (N g gb m d : Nat) (B : Option Addr) (ys zs0 : List Nat) (hm : ys.length = m) (hmN : N ≤ m) (v : Value) (V : World) (zs : List Nat) (j : Nat) (hj : j < N) (ha : Blk V g 83 #[v]) (ho : V.ownsRow w.heap.size 37 1 v N (nums zs)) (hb : Blk V gb 83 #[.slice B m d]) (hs : Sl V B d (nums ys)) (hzl : zs.length = N) (hz : vat zs j = vat zs0 j) => by
    have h := min1_any V ha ho hb hzl hm hs hj (by omega)
    rw [hz] at h
    exact h)
  subst hA
  have HQ0 := Lib.hid hq0
  clear hs hr hn hcut hA1 hA1' hq0 HR0 hmin0
  go_enter Try.func55, Try.ntmps55
  have hnI : (0 : Int) < (n : Int) := by omega
  go_wp2_with (go_at_call 53; refine (HCUT.out).mono ?_; rintro e w1 ⟨v1, rfl, o1, m1⟩; have hk6 := Nat.le_trans (cut_le ys0) (Nat.le_of_eq HQ0.out); obtain ⟨k1, hk1⟩ : ∃ k1, (cut ys0).length = k1 := ⟨_, rfl⟩; rw [hk1] at o1 hk6; obtain ⟨A2, c2, rfl, e2, s2, b2⟩ := own_slice o1; have O1 := Lib.hid o1; have K1 := Lib.hid hk1; have M1 := Lib.hid m1; clear o1 m1 e2 s2 b2 hk1)
  have O2 := Lib.hid (O1.out.alloc (.cells #[.slice A2 k1 c2] 83))
  have B2 := Lib.hid (Blk.new w1 83 #[.slice A2 k1 c2])
  have M2 := Lib.hid (M1.out.alloc (.cells #[.slice A2 k1 c2] 83))
  obtain ⟨g, hg⟩ : ∃ g, w1.heap.size = g := ⟨_, rfl⟩
  rw [hg] at B2
  rw [hg]
  have hgw : w.heap.size ≤ g := by rw [← hg]; exact M1.out.size
  clear hg O1 M1 hc0 HCUT
  go_loopw [16] (fun x wr => ∃ (j k : Nat) (A2 : Option Addr) (c2 : Nat) (zs : List Nat), j + 1 ≤ n ∧ k ≤ 1000000 ∧ x = .int .i64 (j : Int) ∧ zs.length = k ∧ (∀ i, vat zs i = minAt (rowsOf (l.take (j + 1))) i) ∧ wr.ownsRow w.heap.size 37 1 (.slice A2 k c2) k (nums zs) ∧ Blk wr g 83 #[.slice A2 k c2] ∧ Mods Nil w wr) (fun x _ => n - (intOf x).toNat)
  case atStart => exact ⟨0, k1, A2, c2, cut ys0, by omega, by omega, rfl, K1.out, fun i => by rw [vat_cut, HMIN0.out], O2.out, B2.out, M2.out⟩
  case round =>
    obtain ⟨j, k, A3, c3, zs, hj, hk6, rfl, hzl, hz, ho, hb, hmo⟩ := hrel
    clear O2 B2 M2
    have HZ := Lib.hid hz
    have HZL := Lib.hid hzl
    have HO := Lib.hid ho
    have HB := Lib.hid hb
    have HMO := Lib.hid hmo
    have hkc := (own_sl ho).le
    rw [nums_length, hzl] at hkc
    clear hz hzl ho hb hmo
    by_cases hlt : j + 1 < n
    · have hjI : (j : Int) < (n : Int) - 1 := by omega
      have hjJ : (j : Int) < ((n - 1 : Nat) : Int) := by omega
      have hjl : j < (l.drop 1).length := by rw [List.length_drop, HN.out]; omega
      have hjl2 : j + 1 < l.length := by rw [HN.out]; exact hlt
      obtain ⟨b, off, rfl, hbl, hc⟩ := rowN_at (HSC.out.mods HMO.out (fun _ _ h => h)) hjl
      have hel : (l.drop 1)[j] = l[j + 1] := by rw [List.getElem_drop]; congr 1; omega
      rw [hel] at hc
      have hok := HR.out _ (List.getElem_mem hjl2)
      have hst := Lib.hid (fun i => minAt_take_succ hjl2 (by omega) i)
      generalize l[j + 1] = r at hc hok hst
      obtain ⟨A4, c4, ys⟩ := r
      dsimp only at hc
      have HSY := Lib.hid (show Sl w A4 c4 (nums ys) from hok.sl)
      obtain ⟨q, hq⟩ : ∃ q, ys.length = q := ⟨_, rfl⟩
      rw [hq] at hc
      have HQL := Lib.hid hq
      have hz9 := (Blk.new wr 83 #[.slice A4 q c4]).oneV.1
      have hb9 := (HB.out.alloc (.cells #[.slice A4 q c4] 83)).oneV
      obtain ⟨hb8, hb7⟩ := hb9
      obtain ⟨N, hN⟩ : ∃ N, min k q = N := ⟨_, rfl⟩
      have hNk : N ≤ k := by omega
      have hNq : N ≤ q := by omega
      have HNE := Lib.hid hN
      have hs3 := hslt A3 k c3 N (by omega)
      have hmin3 := fun ts t W => hmin ts t W k q
      rw [hN] at hmin3
      have htk := own_to HO.out hNk
      rw [nums_take] at htk
      have HTK := Lib.hid htk
      have hsz : wr.heap.size ≠ g := by have := HB.out.lt; omega
      obtain ⟨W5, hW5⟩ : ∃ W, wr.alloc (.cells #[.slice A4 q c4] 83) = W := ⟨_, rfl⟩
      rw [hW5] at hz9 hb8 hb7
      obtain ⟨W6, hW6⟩ : ∃ W, W5.setCell ⟨g, 0, none⟩ (.slice A3 N c3) = W := ⟨_, rfl⟩
      have B6 : Hid (Blk W6 g 83 #[.slice A3 N c3]) := by
        rw [← hW6, ← hW5]
        exact Lib.hid ((HB.out.alloc _).set_ 0 _)
      have C6 : Hid (Blk W6 wr.heap.size 83 #[.slice A4 q c4]) := by
        rw [← hW6, ← hW5]
        exact Lib.hid ((Blk.new wr _ _).far (p := ⟨g, 0, none⟩) hsz _)
      have M5 : Hid (Mods (fun i => i = g) wr W6) := by
        rw [← hW6, ← hW5]
        exact Lib.hid (Mods.setCell (S := fun i => i = g) (p := ⟨g, 0, none⟩) ((Mods.refl _ wr).alloc _) (fun _ => rfl) _)
      have M6 : Hid (Mods Nil w W6) := Lib.hid (HMO.out.nil_trans M5.out (fun i hi => by rw [hi]; exact hgw))
      have O6 : Hid (W6.ownsRow w.heap.size 37 1 (.slice A3 N c3) N (nums (zs.take N))) := Lib.hid (own_mods HTK.out M5.out (fun i hi h => own_blk_ne HTK.out HB.out (by decide) (by rw [← h]; exact hi)))
      have hd6 := B6.out.oneV.1
      have hlz : (zs.take N).length = N := by rw [List.length_take, HZL.out]; omega
      have HLZ := Lib.hid hlz
      clear hjl hok hq hel hjl2 hN htk hlz hslt hmin
      go_wp2_with (go_at_call 104; refine (each_row (W := W6) (f := 109) (base := w.heap.size) (g := g) (gb := wr.heap.size) (n := N) (m := q) (d := c4) (k := N) (v := .slice A3 N c3) (B := A4) (zs0 := zs.take N) (ys := ys) (enters Try.func109 (by kernel_rfl) (by rfl)) min (Nat.le_refl _) (by omega) (HH.out N _ _ q _ _ _ _ HQL.out hNq _) HLZ.out B6.out O6.out C6.out (HSY.out.mods M6.out (fun _ _ h => h)) (own_num_ap O6.out (Nat.le_refl _) HSY.out)).mono ?_; rintro e w4 ⟨rfl, zs4, l4, v4, o4, m4⟩; have V4 := Lib.hid v4; have O4 := Lib.hid o4; have L4 := Lib.hid l4; have B4 := Lib.hid (B6.out.mods m4 (own_blk_ne O6.out B6.out (by decide))); have M4 := Lib.hid (M6.out.nil_trans m4 (fun i hi => (O6.out.lt _ hi).1)); clear hz9 hd6 l4 v4 o4 m4)
      refine ⟨⟨j + 1, N, A3, c3, zs4, by omega, by omega, by go_num, L4.out, fun i => ?_, O4.out, B4.out, M4.out⟩, by simp [intOf]; omega⟩
      rw [hst.out, ← HZ.out, V4.out]
      show _ = min (vat zs i) (vat ys i)
      have hNE := HNE.out
      by_cases h : i < N
      · rw [if_pos h, vat_take h]
      · rw [if_neg h, vat_take_ge (by omega)]
        by_cases h2 : i < k
        · have h0 : vat ys i = 0 := vat_ge (by rw [HQL.out]; omega)
          rw [h0]
          omega
        · have h0 : vat zs i = 0 := vat_ge (by rw [HZL.out]; omega)
          rw [h0]
          omega
    · have hjE : ((n - 1 : Nat) : Int) ≤ (j : Int) := by omega
      have hfull : l.take (j + 1) = l := List.take_of_length_le (by rw [HN.out]; omega)
      rw [hfull] at HZ
      have hz9 := HB.out.oneV.1
      clear hfull hslt hmin
      go_wp2_with (go_at_call 53; refine (vcut_any wr HZL.out (by omega) (own_sl HO.out)).mono ?_; rintro e w5 ⟨v5, rfl, o5, m5⟩; have O5 := Lib.hid (own_rebase o5 (HMO.out.size : w.heap.size ≤ wr.heap.size)); have M5 := Lib.hid (HMO.out.trans m5); clear o5 m5)
      go_ret
      exact ⟨_, rfl, ⟨cut zs, O5.out, cut_isCut zs, fun i => by rw [vat_cut, HZ.out]⟩, M5.out⟩
end Go.Proofs.Ytdllgmhipenidaa
