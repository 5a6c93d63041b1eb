/- The walk of notcherlaw11.FoldCuts. -/
import Derived.Test.YtkodmgnagfolpaaCutsM11
import Derived.Test.YtkodmgnagfolpaaQK
import Derived.Deep.QuietTactic
import Derived.BigQuiet
namespace Go.Proofs.Ytkodmgnagfolpaa
set_option maxRecDepth 1000000
open Go.RowKit
set_option linter.unusedVariables false
set_option linter.unusedSimpArgs false

theorem u64_size11 (W : World) : (sizeOf (Try.prog.elem 34)).run Try.prog W = .ok 1 W := by kernel_rfl
theorem slice_to11 {A : Option Addr} {n c j : Nat} (hj : j ≤ c) (W : World) : (Instr.slice 34 (.slice A n c) none (some (.int .i64 (j : Int))) none).run Try.prog W = .ok (.slice A j c) W := by
  rw [run_slice_h (P := Try.prog) W _ A n c (by exact Try.underlying34) .i64 (j : Int) (by omega) (by omega)]
  rw [u64_size11]
  cases A <;> simp [Result.andThen, sliced, Addr.add]
theorem infoRow11 : (Try.prog.info? 52).map (fun i => (i.zero, i.size, i.bytes)) = some (some (.agg #[.int .i64 0, .slice none 0 0]), 2, 32) := by kernel_rfl
def XX (a : Nat) : Nat → Prop := fun q => q = a ∨ q = a + 1
/-- How many a row's box says that there are. -/
def lenAt1 (w : World) (g : Nat) : Nat := match w.cell? ⟨g, 1, none⟩ with
  | some (.slice _ n _) => n
  | _ => 0
theorem lenAt1_of {w : World} {g n c : Nat} {x : Value} {A : Option Addr} {t : TypeId} (h : Blk w g t #[x, .slice A n c]) : lenAt1 w g = n := by
  unfold lenAt1
  rw [h.cell]
  rfl
section
variable {w W : World} {X : Nat → Prop} {b j T : Nat}
theorem kA1 (h : HasS w W X b (cutS j) T) (hj : j < 2) (hT : T ≤ 100) : Calls Try.prog 12 #[.pointer (some ⟨b, 0, none⟩), .agg #[.int .i64 1, .int .u64 0, .int .u64 0, .int .i64 ((3 * j : Nat) : Int), .int .i64 4, .int .u64 0, .slice none 0 0]] W (SaidS w W X b T 0 (cutS (j + 1))) :=
  h.says0 (pos := 0) (by omega) (cutS_next hj) (by omega) (by omega) (by omega) (by omega)
theorem kA2 {s s' : PF} {A : Option Addr} {k : Nat} {L : List RowP} {r0 r3 : List Nat} (h : HasS w W X b s T) (hT : T ≤ 100) {n : Nat} (hn : n = 2) (hR : RowsAt W A n k L) (hp : pws L = cutR r0 r3) (hl : ∀ q ∈ L, q.lens.length ≤ 4) (he : applyF s ⟨4, 0, 0, 0, 0, 0, cutR r0 r3⟩ = (0, s')) :
    Calls Try.prog 12 #[.pointer (some ⟨b, 0, none⟩), .agg #[.int .i64 4, .int .u64 0, .int .u64 0, .int .i64 0, .int .i64 0, .int .u64 0, .slice A n k]] W (SaidS w W X b T 0 s') := by
  have := h.say (by omega) (op := 4) (shard := 0) (segs := 0) (pos := 0) (by omega) (by omega) (by omega) (by omega) (fun q hq => by have := hl q hq; omega) (by omega) hR
  rw [hp, he] at this
  exact this
/-- The bytes of a round. -/
theorem pick11 {w wr : World} {gb k n m : Nat} {A B : Option Addr} {c e : Nat} {xs ys : List UInt8} {t : TypeId} (hb : Blk wr gb t #[.slice A n c, .slice B m e]) (hx : xs.length = n) (hs : Sl w A c (bts xs)) (hy : ys.length = m) (ht : Sl w B e (bts ys)) (hn : n ≤ 8) (hm : m ≤ 8) (hk : k < 2) :
    ∃ (D : Option Addr) (q f : Nat) (zs : List UInt8), wr.cell? ⟨gb, k, none⟩ = some (.slice D q f) ∧ zs.length = q ∧ Sl w D f (bts zs) ∧ q ≤ 8 := by
  rcases Nat.eq_zero_or_pos k with rfl | h
  · exact ⟨A, n, c, xs, hb.cell 0, hx, hs, hn⟩
  · obtain rfl : k = 1 := by omega
    exact ⟨B, m, e, ys, hb.cell 1, hy, ht, hm⟩
theorem byteD {w : World} {D : Option Addr} {f ti : Nat} {zs : List UInt8} (h : Sl w D f (bts zs)) (ht : ti < zs.length) : ∃ (b off y : Nat), D = some ⟨b, off, none⟩ ∧ b < w.heap.size ∧ w.cell? ⟨b, off + ti, none⟩ = some (.int .u8 (y : Int)) ∧ y < 256 ∧ bits .and .u8 (y : Int) 3 = (dOf zs ti : Int) := by
  obtain ⟨b, off, hA, hb, hc⟩ := h.at_ (by simp; omega)
  refine ⟨b, off, _, hA, hb, hc ti _ (bts_get zs ti ht), zs[ti].toNat_lt, ?_⟩
  rw [u8_and3, dOf_lt ht]
  omega
theorem rowP_some {g c n : Nat} {A : Option Addr} {l : List PP} (o : W.ownsRow b 47 5 (.slice A n c) n (rowP l)) (hn : 0 < n) : ∃ g, A = some ⟨g, 0, none⟩ := by
  obtain ⟨g, h, -⟩ := own_some o hn
  exact ⟨g, h⟩
theorem pick_cut {rl : List Nat} {u d : Nat → Nat} {h q : Nat} (hl : rl.length = 4) (hv : ∀ i, i < 4 → vat rl i = u (4 * h + i) + d (4 * h + i)) (hq : q ≤ 4) (hz : ∀ i, q ≤ i → i < 4 → vat rl i = 0) (hne : q = 0 ∨ vat rl (q - 1) ≠ 0) : isCut (rl.take q) ∧ four (fun i => u i + d i) h (rl.take q) := by
  refine ⟨fun k hk => ?_, fun g => ?_⟩
  · rw [List.length_take, hl, Nat.min_eq_left hq] at hk
    rw [vat_take (by omega)]
    rcases hne with h | h
    · omega
    · rwa [show q - 1 = k by omega] at h
  · by_cases hg : g < q
    · rw [vat_take hg, if_pos (by omega), hv g (by omega)]
    · rw [vat_take_ge (by omega)]
      by_cases h4 : g < 4
      · rw [if_pos h4]
        have h1 := hv g h4
        rw [hz g (by omega) h4] at h1
        exact h1
      · rw [if_neg h4]
theorem take_vat {rl : List Nat} {q i : Nat} (h : ∀ i, vat rl i ≤ 1000) : vat (rl.take q) i ≤ 1000 := by
  by_cases hi : i < q
  · rw [vat_take hi]; exact h i
  · rw [vat_take_ge (by omega)]; omega
end
set_option maxHeartbeats 12800000 in
theorem foldCuts_walk (w : World) {A : Option Addr} {c0 n : Nat} {xs : List UInt8} (hn : xs.length = n) (hs : Sl w A c0 (bts xs)) {B : Option Addr} {e0 m : Nat} {ys : List UInt8} (hm : ys.length = m) (ht : Sl w B e0 (bts ys)) : Calls Try.prog 8 #[.slice A n c0, .slice B m e0] w fun e w' => e = .returned (.bool true) ∧ Mods Nil w w' := by
  have HXN := Lib.hid hn
  have HXS := Lib.hid hs
  have HYN := Lib.hid hm
  have HYS := Lib.hid ht
  clear hn hs hm ht
  by_cases h8 : 8 < n
  · have h8I : (8 : Int) < (n : Int) := by omega
    go_enter Try.func8, Try.ntmps8
    go_wp2_with (first
      | (go_at_call 9; refine (awake11_any _).mono ?_; rintro e w1 ⟨rfl, m1⟩; have M1 := Lib.hid m1; clear m1))
    go_ret
    exact ⟨rfl, M1.out⟩
  have hn8I : (n : Int) ≤ 8 := by omega
  have HN8 : Hid (n ≤ 8) := Lib.hid (by omega)
  clear h8
  by_cases h8 : 8 < m
  · have h8I : (8 : Int) < (m : Int) := by omega
    go_enter Try.func8, Try.ntmps8
    go_wp2_with (first
      | (go_at_call 9; refine (awake11_any _).mono ?_; rintro e w1 ⟨rfl, m1⟩; have M1 := Lib.hid m1; clear m1))
    go_ret
    exact ⟨rfl, M1.out⟩
  have hm8I : (m : Int) ≤ 8 := by omega
  have HM8 : Hid (m ≤ 8) := Lib.hid (by omega)
  clear h8
  go_enter Try.func8, Try.ntmps8
  go_wp2_with (first
    | (go_at_call 9; refine (awake11_any _).mono ?_; rintro e w1 ⟨rfl, m1⟩; have M1 := Lib.hid m1; clear m1)
    | (go_at_call 10; refine (new_has1 M1.out).mono ?_; rintro e w2 ⟨b, rfl, h2⟩; have H2 := Lib.hid h2; clear h2 M1))
  clear hn8I hm8I
  go_loopw [7] (fun x wr => ∃ (j : Nat), j ≤ 2 ∧ x = .int .i64 (j : Int) ∧ HasS w wr Nil b (cutS j) (2 * j)) (fun x _ => 2 - (intOf x).toNat)
  case atStart => exact ⟨0, by omega, rfl, by have h := H2.out; unfold cutS; exact h⟩
  case round =>
    obtain ⟨j, hj, rfl, h3⟩ := hrel
    have H3 := Lib.hid h3
    clear H2 h3
    by_cases hlt : j < 2
    · have hjI : (j : Int) < 2 := by omega
      have hw3 : IntKind.i64.wrap (3 * (j : Int)) = ((3 * j : Nat) : Int) := by rw [IntKind.wrap_i64]; omega
      have HJ := Lib.hid hlt
      go_wp2_with (first
        | (go_at_call 12; refine (kA1 H3.out HJ.out (by have := HJ.out; omega)).mono ?_; rintro e w4 ⟨rfl, h4, -⟩; have H4 := Lib.hid h4; clear h4 H3))
      exact ⟨⟨j + 1, by omega, by go_num, H4.out⟩, by simp [intOf]; omega⟩
    · have hj2 : j = 2 := by omega
      have hj2I : (2 : Int) ≤ (j : Int) := by omega
      rw [hj2] at H3
      clear hj2
      obtain ⟨i0, hi, hz0, hz1, hz2⟩ := info_parts infoV64
      obtain ⟨i1, hi1, hq0, hy1, hy2⟩ := info_parts infoSp
      obtain ⟨i2, hi2, hr0, hr1, hr2⟩ := info_parts infoRow11
      have HI0 := Lib.hid hi
      have HI1 := Lib.hid hi1
      have HI2 := Lib.hid hi2
      have HMK := fun V : World => run_make (P := Try.prog) V 34 27 i0 (.int .u64 0) Try.underlying34 hi hz0 .i64 .i64 8 8 (by omega) (by omega) (by rw [hz2]; omega) (by omega)
      rw [hz1] at HMK
      simp only [show Int.toNat 8 = 8 from rfl, Nat.mul_one] at HMK
      clear hi hi1 hi2
      obtain ⟨w3, hw3⟩ : ∃ w3, wr = w3 := ⟨_, rfl⟩
      rw [hw3] at H3 ⊢
      clear hw3 hlt hj
      go_wp2_with fail
      clear HMK
      have O3 := Lib.hid ((own_made_row (w := w3) (n := 8) (Nat.zero_le _) (by omega)).alloc (.cells #[.slice A n c0, .slice B m e0] 50))
      have B3 := Lib.hid (blk_new2 w3 (.cells (madeCells (Value.int .u64 0).cells 8) 27) 50 #[.slice A n c0, .slice B m e0])
      have S3 : Hid (∀ k, XX w3.heap.size k → w.heap.size ≤ k) := Lib.hid (fun k hk => by have := H3.out.m.size; rcases hk with rfl | rfl <;> omega)
      have X3 := Lib.hid ((H3.out.keep (((Mods.refl Nil w3).alloc (.cells (madeCells (Value.int .u64 0).cells 8) 27)).alloc (.cells #[.slice A n c0, .slice B m e0] 50))).sub (Y := XX w3.heap.size) (fun k hk => by simp only [World.size_alloc]; rcases hk with rfl | rfl <;> omega))
      obtain ⟨gl, hgl⟩ : ∃ gl, w3.heap.size = gl := ⟨_, rfl⟩
      rw [hgl] at O3 B3 S3 X3 ⊢
      clear hgl H3
      obtain ⟨gb, hgb⟩ : ∃ gb, gl + 1 = gb := ⟨_, rfl⟩
      rw [hgb] at B3 ⊢
      have HGB := Lib.hid hgb
      clear hgb
      go_loopw [10, 11] (fun x y wr => ∃ (k P : Nat) (s : PF) (u : Nat → Nat) (zs : List Nat), k ≤ 2 ∧ y = .int .i64 (k : Int) ∧ x = .int .u64 (P : Int) ∧ HasS w wr (XX gl) b s (4 + 2 * k) ∧ CutsAt s u P ∧ P ≤ 24 * k ∧ (∀ i, u i ≤ 3 * k) ∧ zs.length = 8 ∧ (∀ i, i < 8 → vat zs i = u i) ∧ wr.ownsRow 0 27 1 (.slice (some ⟨gl, 0, none⟩) 8 8) 8 (nums zs) ∧ Blk wr gb 50 #[.slice A n c0, .slice B m e0]) (fun _ y _ => 2 - (intOf y).toNat)
      case atStart => exact ⟨0, 0, _, _, List.replicate 8 0, by omega, rfl, rfl, X3.out, cutS_at, by omega, (fun i => by omega), by simp, (fun i _ => vat_replicate 8 i), O3.out, B3.out⟩
      case round =>
        obtain ⟨k, P, s, u, zs, hk, rfl, rfl, h4, hc, hP, hu, hzl, hzv, ho, hb⟩ := hrel
        have H4 := Lib.hid h4
        have HC := Lib.hid hc
        have HPB := Lib.hid hP
        have HU := Lib.hid hu
        clear O3 B3 X3 h4 hc hP hu
        by_cases hlt : k < 2
        · have hkI : (k : Int) < 2 := by omega
          have HK2 := Lib.hid hlt
          obtain ⟨D, nk, f, zk, hcl, hzn, hzs, hnk⟩ := pick11 hb HXN.out HXS.out HYN.out HYS.out HN8.out HM8.out hlt
          have HGLT : Hid (gl < wr.heap.size) := Lib.hid (by obtain ⟨_, _, _, e, _, h, _⟩ := own_place ho (by omega); injection e with e; injection e with e; injection e with e; omega)
          have C0 := Lib.hid (C3.start (d := dOf zk) (P := P) HGLT.out ho hzl hzv)
          have HCL : Hid (∀ V, Mods (fun q => q = gl) wr V → V.cell? ⟨gb, k, none⟩ = some (.slice D nk f)) := Lib.hid (fun V hV => (World.cell?_of_block (hV.block gb hb.lt (fun h => by have := HGB.out; omega))).trans hcl)
          have HBL := Lib.hid hb
          have HZN := Lib.hid hzn
          have HZS := Lib.hid hzs
          have HNK := Lib.hid hnk
          have HD := Lib.hid (dOf_le zk)
          clear hcl hzn hzs hnk hb ho hzv hzl
          obtain ⟨w9, hw9⟩ : ∃ w9, wr = w9 := ⟨_, rfl⟩
          rw [hw9] at H4 HGLT C0 HCL HBL ⊢
          clear hw9
          go_wp2_with fail
          go_loopw [10, 12, 13, 14] (fun x r v y wr => ∃ (h : Nat) (zs : List Nat) (A3 : Option Addr) (c3 : Nat) (L : List RowP) (A4 : Option Addr) (m4 c4 : Nat), h ≤ 2 ∧ y = .int .i64 (h : Int) ∧ x = .int .u64 ((P + sumD (dOf zk) (4 * h) : Nat) : Int) ∧ r = .slice A3 h c3 ∧ v = .slice A4 m4 c4 ∧ C3 w9 wr gl u (dOf zk) P (4 * h) (4 * h) h zs A3 c3 L A4 m4 c4) (fun _ _ _ y _ => 2 - (intOf y).toNat)
          case atStart => exact ⟨0, zs, none, 0, [], none, 0, 0, by omega, rfl, rfl, rfl, rfl, C0.out⟩
          case round =>
            obtain ⟨h, zs, A3, c3, L, A4, m4, c4, hh, rfl, rfl, rfl, rfl, k5⟩ := hrel
            have K5 := Lib.hid k5
            clear C0 k5
            by_cases hlt2 : h < 2
            · have hhI : (h : Int) < 2 := by omega
              have HH := Lib.hid hlt2
              have hw3 : IntKind.i64.wrap (3 * (h : Int)) = ((3 * h : Nat) : Int) := by rw [IntKind.wrap_i64]; omega
              have G0 := Lib.hid K5.out.box
              have HW9 : Hid (w9.heap.size ≤ wr.heap.size) := Lib.hid K5.out.m.size
              clear K5
              go_wp2_with fail
              obtain ⟨w10, hw10⟩ : ∃ w10, wr = w10 := ⟨_, rfl⟩
              rw [hw10] at G0 HW9 ⊢
              clear hw10
              obtain ⟨gw, hgw⟩ : ∃ gw, w10.heap.size = gw := ⟨_, rfl⟩
              rw [hgw] at G0 HW9 ⊢
              have HGW := Lib.hid hgw
              clear hgw
              go_loopw [10, 13, 16] (fun x v y wr => ∃ (g : Nat) (zs rl : List Nat) (A4 : Option Addr) (m4 c4 : Nat) (A5 : Option Addr) (c5 : Nat), g ≤ 4 ∧ y = .int .i64 (g : Int) ∧ x = .int .u64 ((P + sumD (dOf zk) (4 * h + g) : Nat) : Int) ∧ v = .slice A4 m4 c4 ∧ C4 w9 wr gl u (dOf zk) P (4 * h + g) (4 * h + g) h zs A3 c3 L A4 m4 c4 gw g A5 c5 rl ∧ ∀ i, i < g → vat rl i = u (4 * h + i) + dOf zk (4 * h + i)) (fun _ _ y _ => 4 - (intOf y).toNat)
              case atStart => exact ⟨0, zs, [], A4, m4, c4, none, 0, by omega, rfl, rfl, rfl, G0.out, fun i hi => by omega⟩
              case round =>
                obtain ⟨g, zs, rl, A4, m4, c4, A5, c5, hg, rfl, rfl, rfl, k6, hrv⟩ := hrel
                have K6 := Lib.hid k6
                have HRV := Lib.hid hrv
                clear G0 k6 hrv
                by_cases hlt3 : g < 4
                · have hgI : (g : Int) < 4 := by omega
                  have ht8 : (4 * h + g) < 8 := by omega
                  obtain ⟨dv, hdv⟩ : ∃ dv, dOf zk (4 * h + g) = dv := ⟨_, rfl⟩
                  have hd3 : dv ≤ 3 := by rw [← hdv]; exact HD.out (4 * h + g)
                  obtain ⟨ut, hut⟩ : ∃ ut, u (4 * h + g) = ut := ⟨_, rfl⟩
                  have hu6 : ut ≤ 6 := by rw [← hut]; have := HU.out (4 * h + g); omega
                  obtain ⟨z, hz⟩ : ∃ z, ut + dv = z := ⟨_, rfl⟩
                  obtain ⟨p1, hp1⟩ : ∃ p1, P + sumD (dOf zk) (4 * h + g) = p1 := ⟨_, rfl⟩
                  have hp1b : p1 ≤ 1000 := by rw [← hp1]; have := sumD_le HD.out (4 * h + g); have := HPB.out; omega
                  obtain ⟨p2, hp2⟩ : ∃ p2, p1 + dv = p2 := ⟨_, rfl⟩
                  have HP2 : Hid (P + sumD (dOf zk) ((4 * h + g) + 1) = p2) := Lib.hid (by rw [← hp2, ← hp1, ← hdv]; simp only [sumD]; omega)
                  have hw4 : IntKind.i64.wrap (4 * (h : Int)) = ((4 * h : Nat) : Int) := by rw [IntKind.wrap_i64]; omega
                  have hw5 : IntKind.i64.wrap (((4 * h : Nat) : Int) + (g : Int)) = ((4 * h + g) : Int) := by rw [IntKind.wrap_i64]; omega
                  have hw6 : IntKind.u64.wrap ((p1 : Int) + (dv : Int)) = (p2 : Int) := by rw [IntKind.wrap_u64]; omega
                  have hw7 : IntKind.u64.wrap ((ut : Int) + (dv : Int)) = (z : Int) := by rw [IntKind.wrap_u64]; omega
                  have hw8 : IntKind.u64.wrap (dv : Int) = (dv : Int) := by rw [IntKind.wrap_u64]; omega
                  have ht8I : ((4 * h + g) : Int) < 8 := by omega
                  have hw10 : IntKind.u64.wrap (z : Int) = (z : Int) := by rw [IntKind.wrap_u64]; omega
                  have hw11 : IntKind.u64.wrap (p2 : Int) = (p2 : Int) := by rw [IntKind.wrap_u64]; omega
                  have HPP2 : Hid (p1 + dv = p2) := Lib.hid hp2
                  have ht0I : (0 : Int) ≤ ((4 * h + g) : Int) := by omega
                  rw [hp1]
                  have HT8 := Lib.hid ht8
                  have HDV := Lib.hid hdv
                  have HUT := Lib.hid hut
                  have HZ := Lib.hid hz
                  have HP1 := Lib.hid hp1
                  have HG := Lib.hid hlt3
                  have HM4 : Hid (m4 ≤ 8) := Lib.hid (by have h1 := K6.out.c.wl; have h2 := wantL_len u (dOf zk) P (4 * h + g); omega)
                  have HZV : Hid (vat zs (4 * h + g) = ut) := Lib.hid (by rw [K6.out.c.zv (4 * h + g) ht8, if_neg (by omega)]; exact hut)
                  have HLT := Lib.hid (fun V (hV : Mods Nil wr V) => own_at_lit (own_mods K6.out.c.lens hV (fun _ _ h => h)) (nums_get zs (4 * h + g) (by rw [K6.out.c.zl]; exact ht8)))
                  have HLT2 : Hid (∀ V, Mods Nil wr V → V.cell? ⟨gl, (4 * h + g), none⟩ = some (.int .u64 (ut : Int)) ∧ V.frozen? ⟨gl, (4 * h + g), none⟩ = false) := Lib.hid (fun V hV => by have := HLT.out V hV; rw [HZV.out] at this; exact this)
                  obtain ⟨hl1, hl2⟩ := HLT2.out wr (Mods.refl _ _)
                  have hcl := HCL.out wr K6.out.c.m
                  clear hdv hut hz hp1 hp2 hlt3 HLT ht8 hd3 hu6 hp1b hg hh hlt2
                  by_cases htk : (4 * h + g) < nk
                  · have htkI : ((4 * h + g) : Int) < (nk : Int) := by omega
                    obtain ⟨ab, ao, yb, hDD, hab, hy0, hyb, hand⟩ := byteD HZS.out (ti := (4 * h + g)) (by rw [HZN.out]; exact htk)
                    subst hDD
                    have hy := (World.cell?_of_block ((H4.out.m.nil_trans K6.out.c.m (fun i h => S3.out i (.inl h))).block ab hab (fun h => h))).trans hy0
                    rw [HDV.out] at hand
                    have hyb0 : (0 : Int) ≤ (yb : Int) := by omega
                    have hybI : (yb : Int) < 256 := by omega
                    have hnk8 : nk ≤ 8 := HNK.out
                    clear hy0 hab htk hyb
                    by_cases hdz : dv = 0
                    · subst hdz
                      obtain rfl : z = ut := by have := HZ.out; omega
                      obtain rfl : p2 = p1 := by have := HPP2.out; omega
                      clear hnk8
                      obtain ⟨W5, hWZ⟩ : ∃ W5, wr.setCell ⟨gl, (4 * h + g), none⟩ (.int .u64 (z : Int)) = W5 := ⟨_, rfl⟩
                      have KW := Lib.hid (K6.out.same (wantL_none (by rw [HDV.out])))
                      clear K6
                      go_wp2_with fail
                      obtain ⟨A7, hA7⟩ : ∃ A7, A4 = A7 := ⟨_, rfl⟩
                      obtain ⟨m7, hm7⟩ : ∃ m7, m4 = m7 := ⟨_, rfl⟩
                      obtain ⟨c7, hc7⟩ : ∃ c7, c4 = c7 := ⟨_, rfl⟩
                      rw [hA7, hm7, hc7] at KW ⊢
                      clear hA7 hm7 hc7
                      clear hl1 hl2
                      have HWZ := Lib.hid hWZ
                      clear hWZ
                      have K7 := Lib.hid (show C4 w9 W5 gl u (dOf zk) P ((4 * h + g) + 1) ((4 * h + g) + 1) h (zs.set (4 * h + g) (u (4 * h + g) + dOf zk (4 * h + g))) A3 c3 L A7 m7 c7 gw g A5 c5 rl from by rw [← HWZ.out]; exact KW.out.set HT8.out (by rw [HUT.out, HDV.out, ← HZ.out]))
                      have hS0 : W5.drew.cell? ⟨gw, 1, none⟩ = some (.slice A5 g c5) := K7.out.box.cell 1
                      have HS1 := Lib.hid (fun V (hV : Mods Nil W5 V) => (K7.out.box.mods hV (fun h => h)).cell 1)
                      obtain ⟨tq, htq⟩ : ∃ tq, 4 * h + g = tq := ⟨_, rfl⟩
                      have htq8 : (tq : Int) < 8 := by have := HT8.out; omega
                      have htq9 : tq < 8 := by omega
                      have hwq : IntKind.i64.wrap (4 * (h : Int) + (g : Int)) = (tq : Int) := by rw [IntKind.wrap_i64]; omega
                      have HTQ := Lib.hid htq
                      have KL : ∀ V, Mods Nil W5 V → V.cell? ⟨gl, tq, none⟩ = some (.int .u64 (z : Int)) := fun V hV => by
                        rw [← HTQ.out]
                        have h1 := (own_at_lit (own_mods K7.out.c.lens hV (fun _ _ h => h)) (nums_get (zs.set (4 * h + g) (u (4 * h + g) + dOf zk (4 * h + g))) (4 * h + g) (by rw [K7.out.c.zl]; exact HT8.out))).1
                        rw [vat_set (by have := K7.out.c.zl; rw [List.length_set] at this; rw [this]; exact HT8.out), if_pos rfl, HUT.out, HDV.out, HZ.out] at h1
                        exact h1
                      clear HWZ htq
                      refine qt_region 13 (by kernel_rfl) rfl ?_
                      refine qt_take 0 12 rfl (by kernel_rfl) (by kernel_rfl) (by kernel_rfl) (fun _ _ _ h => h) (by rfl) (v := ?_) ?_ ?_
                      rotate_left
                      · intro V
                        go_simp
                        try with_reducible rfl
                      simp only [List.getElem_toArray, List.getElem_cons_succ, List.getElem_cons_zero, Act.put, List.setIfInBounds_toArray, List.set_cons_zero, List.set_cons_succ]
                      refine wpAny_of_K (S := fun V => V.cell? ⟨gw, 1, none⟩ = some (.slice A5 g c5)) (k := 10) _ _ _ _ ?_
                      refine qk_take 1 11 rfl (by kernel_rfl) (by kernel_rfl) (by kernel_rfl) (by kernel_rfl) (by kernel_rfl) (fun _ _ _ h => h) (by rfl) (v := ?_) ?_ hS0 ?_
                      rotate_left
                      · intro V hV
                        go_simp
                        try with_reducible rfl
                      simp only [List.getElem_toArray, List.getElem_cons_succ, List.getElem_cons_zero, Act.put, List.setIfInBounds_toArray, List.set_cons_zero, List.set_cons_succ]
                      clear hS0
                      refine qk_quiet (fun V => Mods Nil W5 V) 2 7 4 (by kernel_rfl) ((Mods.refl Nil W5).drew) (fun V hV => HS1.out V hV) ?_
                      simp only [List.drop_succ_cons, List.drop_zero, List.take_succ_cons, List.take_zero]
                      repeat (first
                        | go_big_quiet_skip
                        | (go_big_quiet_want; first
                            | (refine gq_op (v := ?_) ?_ ?_; rotate_left; (focus (intro V hV; go_simp; try with_reducible rfl)); go_big_quiet_on))
                          simp only [Act.put, List.setIfInBounds_toArray, List.set_cons_zero, List.set_cons_succ])
                      refine wpQuiet_nil ?_
                      intro V hV
                      have HV := Lib.hid hV
                      clear hV KL hwq htq8 htq9
                      refine qk_makes 9 3 rfl (by kernel_rfl) (by rfl) (v := .slice (some ⟨V.heap.size, 0, none⟩) 1 1) (w' := V.alloc (.cells #[.int .u64 (z : Int)] 27)) ?_ ?_ ?_
                      · go_simp
                      · exact HS1.out _ (HV.out.alloc _)
                      simp only [List.getElem_toArray, List.getElem_cons_succ, List.getElem_cons_zero, Act.put, List.setIfInBounds_toArray, List.set_cons_zero, List.set_cons_succ]
                      refine qk_rest 2 (by decide) (by kernel_rfl) ?_
                      refine qt_list 10 3 rfl (by kernel_rfl) ?_
                      simp only [List.drop_succ_cons, List.drop_zero]
                      have KV := Lib.hid (K7.out.nil HV.out)
                      have HSZ : Hid (gw ≤ V.heap.size) := Lib.hid (Nat.le_of_lt KV.out.box.lt)
                      have hg5 : g ≤ 4 := by have := HG.out; omega
                      go_wp2_with (at_builtin; refine wpList_append_sl _ rfl _ _ 34 rfl gw 27 i0 (.int .u64 0) 8 Try.underlying34 HI0.out hz0 hz1 hz2 rfl (.slice A5 g c5) g (nums rl) rfl (KV.out.row.alloc _) (some ⟨V.heap.size, 0, none⟩) 1 1 [.int .u64 (z : Int)] rfl rfl (build_at (n := 1) (by simp) rfl rfl (by decide)) (by simp [Value.oneCell']) (by omega) (by unfold maxLen; omega) (by have := HSZ.out; simp; omega) ?_; intro v' w8 hown hgrow hmv; obtain ⟨g8, cap8, rfl⟩ := ownsRow_succ hown; have HO := Lib.hid hown; have M8 := Lib.hid (show Mods (fun q => (Value.slice A5 g c5).ownBlock = some q) V w8 from ((Mods.refl (fun q => (Value.slice A5 g c5).ownBlock = some q) V).alloc _).grown hgrow (fun q hq _ => hq)); have b8 := KV.out.box.mods M8.out (own_blk_ne KV.out.row KV.out.box (by decide)); have y8 := b8.cell 1; have f8 := b8.frozen 1; clear hown hgrow hmv b8)
                      have hrl : rl.length = g := by obtain ⟨A', c', e, hn, -, -⟩ := own_slice KV.out.row; rw [nums_length] at hn; exact hn.symm
                      have hfin := KV.out.lay M8.out (rl6 := rl ++ [z]) (by rw [nums_append]; exact HO.out)
                      refine ⟨⟨g + 1, zs.set (4 * h + g) (u (4 * h + g) + dOf zk (4 * h + g)), rl ++ [z], A7, m7, c7, some ⟨g8, 0, none⟩, cap8, by have := HG.out; omega, by go_num, by rw [show 4 * h + (g + 1) = (4 * h + g) + 1 by omega, HP2.out], rfl, by rw [show 4 * h + (g + 1) = (4 * h + g) + 1 by omega]; exact hfin, fun i hi => ?_⟩, by have := HG.out; simp [intOf]; omega⟩
                      rw [vat_append, hrl]
                      by_cases hig : i < g
                      · rw [if_pos hig]; exact HRV.out i hig
                      · obtain rfl : i = g := by omega
                        rw [if_neg hig, Nat.sub_self, vat_cons_zero, HUT.out, HDV.out, HZ.out]
                    · have hdp : 0 < dv := by omega
                      have hdpI : (0 : Int) < (dv : Int) := by omega
                      have HPP : Hid (wantL u (dOf zk) P ((4 * h + g) + 1) = wantL u (dOf zk) P (4 * h + g) ++ [⟨p1, ((3 * h : Nat) : Int), g, ut, dv⟩]) := Lib.hid (by rw [wantL_some rfl HG.out (by rw [HDV.out]; exact hdp), HP1.out, HUT.out, HDV.out])
                      have hw9 : IntKind.i64.wrap (3 * (h : Int)) = ((3 * h : Nat) : Int) := by have := HH.out; rw [IntKind.wrap_i64]; omega
                      have hm8 : m4 ≤ 8 := HM4.out
                      clear hnk8 hdz hdp
                      go_wp2_with (at_builtin; refine wpList_append_own_at _ rfl _ _ 44 rfl w9.heap.size 47 i1 (.agg #[.int .u64 0, .int .i64 0, .int .i64 0, .int .u64 0, .int .u64 0]) 5 40 Try.underlying44 HI1.out hq0 hy1 hy2 rfl (by decide) (.slice A4 m4 c4) m4 (rowP (wantL u (dOf zk) P (4 * h + g))) rfl (K6.out.c.want.alloc _) ⟨wr.heap.size, 0, none⟩ 1 1 (cellsP ⟨p1, ((3 * h : Nat) : Int), g, ut, dv⟩) rfl rfl (five_at (cs := cellsP ⟨p1, ((3 * h : Nat) : Int), g, ut, dv⟩) _ rfl) (by simp [cellsP, Value.oneCell']) (by unfold maxLen; omega) (by omega) (by have := K6.out.c.m.size; simp; omega) ?_; intro v' w4 hown hgrow _ hblk; obtain ⟨g7, c7, rfl⟩ := ownsRow_succ hown; have M4 := Lib.hid (show Mods (fun q => (Value.slice A4 m4 c4).ownBlock = some q) wr w4 from ((Mods.refl (fun q => (Value.slice A4 m4 c4).ownBlock = some q) wr).alloc _).grown hgrow (fun q hq _ => hq)); have KW := Lib.hid (K6.out.more M4.out hown HPP.out); obtain ⟨x1, x2⟩ := own_at_lit KW.out.c.lens (nums_get zs (4 * h + g) (by rw [KW.out.c.zl]; exact HT8.out)); rw [HZV.out] at x1; obtain ⟨W5, hWZ⟩ : ∃ W5, w4.setCell ⟨gl, (4 * h + g), none⟩ (.int .u64 (z : Int)) = W5 := ⟨_, rfl⟩; clear hown hgrow hblk K6 hl1 hl2)
                      obtain ⟨A7, hA7⟩ : ∃ A7, (some ⟨g7, 0, none⟩ : Option Addr) = A7 := ⟨_, rfl⟩
                      obtain ⟨m7, hm7⟩ : ∃ m7, m4 + 1 = m7 := ⟨_, rfl⟩
                      rw [hA7, hm7] at KW ⊢
                      clear hA7 hm7 M4 HPP hm8
                      clear x1 x2
                      have HWZ := Lib.hid hWZ
                      clear hWZ
                      have K7 := Lib.hid (show C4 w9 W5 gl u (dOf zk) P ((4 * h + g) + 1) ((4 * h + g) + 1) h (zs.set (4 * h + g) (u (4 * h + g) + dOf zk (4 * h + g))) A3 c3 L A7 m7 c7 gw g A5 c5 rl from by rw [← HWZ.out]; exact KW.out.set HT8.out (by rw [HUT.out, HDV.out, ← HZ.out]))
                      have hS0 : W5.drew.cell? ⟨gw, 1, none⟩ = some (.slice A5 g c5) := K7.out.box.cell 1
                      have HS1 := Lib.hid (fun V (hV : Mods Nil W5 V) => (K7.out.box.mods hV (fun h => h)).cell 1)
                      obtain ⟨tq, htq⟩ : ∃ tq, 4 * h + g = tq := ⟨_, rfl⟩
                      have htq8 : (tq : Int) < 8 := by have := HT8.out; omega
                      have htq9 : tq < 8 := by omega
                      have hwq : IntKind.i64.wrap (4 * (h : Int) + (g : Int)) = (tq : Int) := by rw [IntKind.wrap_i64]; omega
                      have HTQ := Lib.hid htq
                      have KL : ∀ V, Mods Nil W5 V → V.cell? ⟨gl, tq, none⟩ = some (.int .u64 (z : Int)) := fun V hV => by
                        rw [← HTQ.out]
                        have h1 := (own_at_lit (own_mods K7.out.c.lens hV (fun _ _ h => h)) (nums_get (zs.set (4 * h + g) (u (4 * h + g) + dOf zk (4 * h + g))) (4 * h + g) (by rw [K7.out.c.zl]; exact HT8.out))).1
                        rw [vat_set (by have := K7.out.c.zl; rw [List.length_set] at this; rw [this]; exact HT8.out), if_pos rfl, HUT.out, HDV.out, HZ.out] at h1
                        exact h1
                      clear HWZ htq
                      refine qt_region 13 (by kernel_rfl) rfl ?_
                      refine qt_take 0 12 rfl (by kernel_rfl) (by kernel_rfl) (by kernel_rfl) (fun _ _ _ h => h) (by rfl) (v := ?_) ?_ ?_
                      rotate_left
                      · intro V
                        go_simp
                        try with_reducible rfl
                      simp only [List.getElem_toArray, List.getElem_cons_succ, List.getElem_cons_zero, Act.put, List.setIfInBounds_toArray, List.set_cons_zero, List.set_cons_succ]
                      refine wpAny_of_K (S := fun V => V.cell? ⟨gw, 1, none⟩ = some (.slice A5 g c5)) (k := 10) _ _ _ _ ?_
                      refine qk_take 1 11 rfl (by kernel_rfl) (by kernel_rfl) (by kernel_rfl) (by kernel_rfl) (by kernel_rfl) (fun _ _ _ h => h) (by rfl) (v := ?_) ?_ hS0 ?_
                      rotate_left
                      · intro V hV
                        go_simp
                        try with_reducible rfl
                      simp only [List.getElem_toArray, List.getElem_cons_succ, List.getElem_cons_zero, Act.put, List.setIfInBounds_toArray, List.set_cons_zero, List.set_cons_succ]
                      clear hS0
                      refine qk_quiet (fun V => Mods Nil W5 V) 2 7 4 (by kernel_rfl) ((Mods.refl Nil W5).drew) (fun V hV => HS1.out V hV) ?_
                      simp only [List.drop_succ_cons, List.drop_zero, List.take_succ_cons, List.take_zero]
                      repeat (first
                        | go_big_quiet_skip
                        | (go_big_quiet_want; first
                            | (refine gq_op (v := ?_) ?_ ?_; rotate_left; (focus (intro V hV; go_simp; try with_reducible rfl)); go_big_quiet_on))
                          simp only [Act.put, List.setIfInBounds_toArray, List.set_cons_zero, List.set_cons_succ])
                      refine wpQuiet_nil ?_
                      intro V hV
                      have HV := Lib.hid hV
                      clear hV KL hwq htq8 htq9
                      refine qk_makes 9 3 rfl (by kernel_rfl) (by rfl) (v := .slice (some ⟨V.heap.size, 0, none⟩) 1 1) (w' := V.alloc (.cells #[.int .u64 (z : Int)] 27)) ?_ ?_ ?_
                      · go_simp
                      · exact HS1.out _ (HV.out.alloc _)
                      simp only [List.getElem_toArray, List.getElem_cons_succ, List.getElem_cons_zero, Act.put, List.setIfInBounds_toArray, List.set_cons_zero, List.set_cons_succ]
                      refine qk_rest 2 (by decide) (by kernel_rfl) ?_
                      refine qt_list 10 3 rfl (by kernel_rfl) ?_
                      simp only [List.drop_succ_cons, List.drop_zero]
                      have KV := Lib.hid (K7.out.nil HV.out)
                      have HSZ : Hid (gw ≤ V.heap.size) := Lib.hid (Nat.le_of_lt KV.out.box.lt)
                      have hg5 : g ≤ 4 := by have := HG.out; omega
                      go_wp2_with (at_builtin; refine wpList_append_sl _ rfl _ _ 34 rfl gw 27 i0 (.int .u64 0) 8 Try.underlying34 HI0.out hz0 hz1 hz2 rfl (.slice A5 g c5) g (nums rl) rfl (KV.out.row.alloc _) (some ⟨V.heap.size, 0, none⟩) 1 1 [.int .u64 (z : Int)] rfl rfl (build_at (n := 1) (by simp) rfl rfl (by decide)) (by simp [Value.oneCell']) (by omega) (by unfold maxLen; omega) (by have := HSZ.out; simp; omega) ?_; intro v' w8 hown hgrow hmv; obtain ⟨g8, cap8, rfl⟩ := ownsRow_succ hown; have HO := Lib.hid hown; have M8 := Lib.hid (show Mods (fun q => (Value.slice A5 g c5).ownBlock = some q) V w8 from ((Mods.refl (fun q => (Value.slice A5 g c5).ownBlock = some q) V).alloc _).grown hgrow (fun q hq _ => hq)); have b8 := KV.out.box.mods M8.out (own_blk_ne KV.out.row KV.out.box (by decide)); have y8 := b8.cell 1; have f8 := b8.frozen 1; clear hown hgrow hmv b8)
                      have hrl : rl.length = g := by obtain ⟨A', c', e, hn, -, -⟩ := own_slice KV.out.row; rw [nums_length] at hn; exact hn.symm
                      have hfin := KV.out.lay M8.out (rl6 := rl ++ [z]) (by rw [nums_append]; exact HO.out)
                      refine ⟨⟨g + 1, zs.set (4 * h + g) (u (4 * h + g) + dOf zk (4 * h + g)), rl ++ [z], A7, m7, c7, some ⟨g8, 0, none⟩, cap8, by have := HG.out; omega, by go_num, by rw [show 4 * h + (g + 1) = (4 * h + g) + 1 by omega, HP2.out], rfl, by rw [show 4 * h + (g + 1) = (4 * h + g) + 1 by omega]; exact hfin, fun i hi => ?_⟩, by have := HG.out; simp [intOf]; omega⟩
                      rw [vat_append, hrl]
                      by_cases hig : i < g
                      · rw [if_pos hig]; exact HRV.out i hig
                      · obtain rfl : i = g := by omega
                        rw [if_neg hig, Nat.sub_self, vat_cons_zero, HUT.out, HDV.out, HZ.out]
                  · have htkI : (nk : Int) ≤ ((4 * h + g) : Int) := by omega
                    have hdz : dv = 0 := by rw [← HDV.out]; exact dOf_ge (by rw [HZN.out]; omega)
                    subst hdz
                    obtain rfl : z = ut := by have := HZ.out; omega
                    obtain rfl : p2 = p1 := by have := HPP2.out; omega
                    clear htk
                    obtain ⟨W5, hWZ⟩ : ∃ W5, wr.setCell ⟨gl, (4 * h + g), none⟩ (.int .u64 (z : Int)) = W5 := ⟨_, rfl⟩
                    have KW := Lib.hid (K6.out.same (wantL_none (by rw [HDV.out])))
                    clear K6
                    go_wp2_with fail
                    obtain ⟨A7, hA7⟩ : ∃ A7, A4 = A7 := ⟨_, rfl⟩
                    obtain ⟨m7, hm7⟩ : ∃ m7, m4 = m7 := ⟨_, rfl⟩
                    obtain ⟨c7, hc7⟩ : ∃ c7, c4 = c7 := ⟨_, rfl⟩
                    rw [hA7, hm7, hc7] at KW ⊢
                    clear hA7 hm7 hc7
                    clear hl1 hl2
                    have HWZ := Lib.hid hWZ
                    clear hWZ
                    have K7 := Lib.hid (show C4 w9 W5 gl u (dOf zk) P ((4 * h + g) + 1) ((4 * h + g) + 1) h (zs.set (4 * h + g) (u (4 * h + g) + dOf zk (4 * h + g))) A3 c3 L A7 m7 c7 gw g A5 c5 rl from by rw [← HWZ.out]; exact KW.out.set HT8.out (by rw [HUT.out, HDV.out, ← HZ.out]))
                    have hS0 : W5.drew.cell? ⟨gw, 1, none⟩ = some (.slice A5 g c5) := K7.out.box.cell 1
                    have HS1 := Lib.hid (fun V (hV : Mods Nil W5 V) => (K7.out.box.mods hV (fun h => h)).cell 1)
                    obtain ⟨tq, htq⟩ : ∃ tq, 4 * h + g = tq := ⟨_, rfl⟩
                    have htq8 : (tq : Int) < 8 := by have := HT8.out; omega
                    have htq9 : tq < 8 := by omega
                    have hwq : IntKind.i64.wrap (4 * (h : Int) + (g : Int)) = (tq : Int) := by rw [IntKind.wrap_i64]; omega
                    have HTQ := Lib.hid htq
                    have KL : ∀ V, Mods Nil W5 V → V.cell? ⟨gl, tq, none⟩ = some (.int .u64 (z : Int)) := fun V hV => by
                      rw [← HTQ.out]
                      have h1 := (own_at_lit (own_mods K7.out.c.lens hV (fun _ _ h => h)) (nums_get (zs.set (4 * h + g) (u (4 * h + g) + dOf zk (4 * h + g))) (4 * h + g) (by rw [K7.out.c.zl]; exact HT8.out))).1
                      rw [vat_set (by have := K7.out.c.zl; rw [List.length_set] at this; rw [this]; exact HT8.out), if_pos rfl, HUT.out, HDV.out, HZ.out] at h1
                      exact h1
                    clear HWZ htq
                    refine qt_region 13 (by kernel_rfl) rfl ?_
                    refine qt_take 0 12 rfl (by kernel_rfl) (by kernel_rfl) (by kernel_rfl) (fun _ _ _ h => h) (by rfl) (v := ?_) ?_ ?_
                    rotate_left
                    · intro V
                      go_simp
                      try with_reducible rfl
                    simp only [List.getElem_toArray, List.getElem_cons_succ, List.getElem_cons_zero, Act.put, List.setIfInBounds_toArray, List.set_cons_zero, List.set_cons_succ]
                    refine wpAny_of_K (S := fun V => V.cell? ⟨gw, 1, none⟩ = some (.slice A5 g c5)) (k := 10) _ _ _ _ ?_
                    refine qk_take 1 11 rfl (by kernel_rfl) (by kernel_rfl) (by kernel_rfl) (by kernel_rfl) (by kernel_rfl) (fun _ _ _ h => h) (by rfl) (v := ?_) ?_ hS0 ?_
                    rotate_left
                    · intro V hV
                      go_simp
                      try with_reducible rfl
                    simp only [List.getElem_toArray, List.getElem_cons_succ, List.getElem_cons_zero, Act.put, List.setIfInBounds_toArray, List.set_cons_zero, List.set_cons_succ]
                    clear hS0
                    refine qk_quiet (fun V => Mods Nil W5 V) 2 7 4 (by kernel_rfl) ((Mods.refl Nil W5).drew) (fun V hV => HS1.out V hV) ?_
                    simp only [List.drop_succ_cons, List.drop_zero, List.take_succ_cons, List.take_zero]
                    repeat (first
                      | go_big_quiet_skip
                      | (go_big_quiet_want; first
                          | (refine gq_op (v := ?_) ?_ ?_; rotate_left; (focus (intro V hV; go_simp; try with_reducible rfl)); go_big_quiet_on))
                        simp only [Act.put, List.setIfInBounds_toArray, List.set_cons_zero, List.set_cons_succ])
                    refine wpQuiet_nil ?_
                    intro V hV
                    have HV := Lib.hid hV
                    clear hV KL hwq htq8 htq9
                    refine qk_makes 9 3 rfl (by kernel_rfl) (by rfl) (v := .slice (some ⟨V.heap.size, 0, none⟩) 1 1) (w' := V.alloc (.cells #[.int .u64 (z : Int)] 27)) ?_ ?_ ?_
                    · go_simp
                    · exact HS1.out _ (HV.out.alloc _)
                    simp only [List.getElem_toArray, List.getElem_cons_succ, List.getElem_cons_zero, Act.put, List.setIfInBounds_toArray, List.set_cons_zero, List.set_cons_succ]
                    refine qk_rest 2 (by decide) (by kernel_rfl) ?_
                    refine qt_list 10 3 rfl (by kernel_rfl) ?_
                    simp only [List.drop_succ_cons, List.drop_zero]
                    have KV := Lib.hid (K7.out.nil HV.out)
                    have HSZ : Hid (gw ≤ V.heap.size) := Lib.hid (Nat.le_of_lt KV.out.box.lt)
                    have hg5 : g ≤ 4 := by have := HG.out; omega
                    go_wp2_with (at_builtin; refine wpList_append_sl _ rfl _ _ 34 rfl gw 27 i0 (.int .u64 0) 8 Try.underlying34 HI0.out hz0 hz1 hz2 rfl (.slice A5 g c5) g (nums rl) rfl (KV.out.row.alloc _) (some ⟨V.heap.size, 0, none⟩) 1 1 [.int .u64 (z : Int)] rfl rfl (build_at (n := 1) (by simp) rfl rfl (by decide)) (by simp [Value.oneCell']) (by omega) (by unfold maxLen; omega) (by have := HSZ.out; simp; omega) ?_; intro v' w8 hown hgrow hmv; obtain ⟨g8, cap8, rfl⟩ := ownsRow_succ hown; have HO := Lib.hid hown; have M8 := Lib.hid (show Mods (fun q => (Value.slice A5 g c5).ownBlock = some q) V w8 from ((Mods.refl (fun q => (Value.slice A5 g c5).ownBlock = some q) V).alloc _).grown hgrow (fun q hq _ => hq)); have b8 := KV.out.box.mods M8.out (own_blk_ne KV.out.row KV.out.box (by decide)); have y8 := b8.cell 1; have f8 := b8.frozen 1; clear hown hgrow hmv b8)
                    have hrl : rl.length = g := by obtain ⟨A', c', e, hn, -, -⟩ := own_slice KV.out.row; rw [nums_length] at hn; exact hn.symm
                    have hfin := KV.out.lay M8.out (rl6 := rl ++ [z]) (by rw [nums_append]; exact HO.out)
                    refine ⟨⟨g + 1, zs.set (4 * h + g) (u (4 * h + g) + dOf zk (4 * h + g)), rl ++ [z], A7, m7, c7, some ⟨g8, 0, none⟩, cap8, by have := HG.out; omega, by go_num, by rw [show 4 * h + (g + 1) = (4 * h + g) + 1 by omega, HP2.out], rfl, by rw [show 4 * h + (g + 1) = (4 * h + g) + 1 by omega]; exact hfin, fun i hi => ?_⟩, by have := HG.out; simp [intOf]; omega⟩
                    rw [vat_append, hrl]
                    by_cases hig : i < g
                    · rw [if_pos hig]; exact HRV.out i hig
                    · obtain rfl : i = g := by omega
                      rw [if_neg hig, Nat.sub_self, vat_cons_zero, HUT.out, HDV.out, HZ.out]
                · have hg4 : g = 4 := by omega
                  have HG4 := Lib.hid hg4
                  have hg4I : (4 : Int) ≤ (g : Int) := by omega
                  clear hlt3 hg
                  obtain ⟨g5, hA5⟩ : ∃ g5, A5 = some ⟨g5, 0, none⟩ := by
                    obtain ⟨q, h, -⟩ := own_some K6.out.row (by rw [hg4]; omega)
                    exact ⟨q, h⟩
                  subst hA5
                  have HRL : Hid (rl.length = 4) := Lib.hid (by obtain ⟨A', c', e, hn, -, -⟩ := own_slice K6.out.row; rw [nums_length] at hn; omega)
                  have HVB : Hid (∀ i, vat rl i ≤ 1000) := Lib.hid (fun i => by
                    by_cases hi : i < 4
                    · rw [HRV.out i (by omega)]; have := HU.out (4 * h + i); have := HD.out (4 * h + i); have := HK2.out; omega
                    · rw [vat_ge (by rw [HRL.out]; omega)]; omega)
                  have HC5 : Hid (4 ≤ c5) := Lib.hid (by
                    obtain ⟨_, _, _, e, _, _, _, hle, _⟩ := own_place K6.out.row (by rw [hg4]; omega)
                    injection e with e1 e2 e3
                    omega)
                  have HRV4 : Hid (∀ i, i < 4 → vat rl i = u (4 * h + i) + dOf zk (4 * h + i)) := Lib.hid (fun i hi => HRV.out i (by omega))
                  have hK : 4 * h + g = 4 * (h + 1) := by omega
                  rw [hK] at K6 ⊢
                  clear hK hg4
                  go_wp2_with fail
                  go_loopw [] (fun wr => ∃ (q : Nat), q ≤ 4 ∧ C4 w9 wr gl u (dOf zk) P (4 * (h + 1)) (4 * (h + 1)) h zs A3 c3 L A4 m4 c4 gw q (some ⟨g5, 0, none⟩) c5 (rl.take q) ∧ ∀ i, q ≤ i → i < 4 → vat rl i = 0) (fun wr => lenAt1 wr gw)
                  case atStart => exact ⟨g, by have := HG4.out; omega, by rw [List.take_of_length_le (by rw [HRL.out]; have := HG4.out; omega)]; exact K6.out, fun i h1 h2 => by have := HG4.out; omega⟩
                  case round =>
                    obtain ⟨q, hq4, k7, hz7⟩ := hrel
                    have K7 := Lib.hid k7
                    have HZ7 := Lib.hid hz7
                    have x1 := k7.box.cell 1
                    have x0 := k7.box.cell 0
                    clear K6 k7 hz7
                    have hqI : (0 : Int) ≤ (q : Int) := by omega
                    rcases Nat.eq_zero_or_pos q with hq0 | hqp
                    · subst hq0
                      have HPK := Lib.hid (pick_cut (q := 0) HRL.out HRV4.out (by omega) (fun i h1 h2 => HZ7.out i h1 h2) (.inl rfl))
                      have HH3 : Hid (h + 1 ≤ 100) := Lib.hid (by have := HH.out; omega)
                      go_wp2_with (at_builtin; refine wpList_append_own_at _ rfl _ _ 28 rfl w9.heap.size 52 i2 (.agg #[.int .i64 0, .slice none 0 0]) 2 32 Try.underlying28 HI2.out hr0 hr1 hr2 rfl (by decide) (.slice A3 h c3) h (rcs L) rfl (by have := K7.out.c.rows.own.alloc (.cells #[.int .i64 ((3 * h : Nat) : Int), .slice (some ⟨g5, 0, none⟩) 0 c5] 52); rw [K7.out.c.rl] at this; exact this) ⟨wr.heap.size, 0, none⟩ 1 1 [.int .i64 ((3 * h : Nat) : Int), .slice (some ⟨g5, 0, none⟩) 0 c5] rfl rfl (two_at10 rfl) (by simp [Value.oneCell']) (by unfold maxLen; have := HH3.out; omega) (by have := HH3.out; omega) (by have := K7.out.c.m.size; simp; omega) ?_; intro v' w8 hown hgrow _ hblk; obtain ⟨g8, cap8, rfl⟩ := ownsRow_succ hown; have HO := Lib.hid hown; have HGR := Lib.hid hgrow; have HB := Lib.hid hblk; clear hown hgrow hblk x0 x1)
                      have hfin := K7.out.push (by have := HH.out; omega) (fun x hx => by
                        obtain ⟨i, hi, rfl⟩ := List.getElem_of_mem hx
                        rw [← vat_lt hi]
                        have := take_vat (q := 0) (i := i) HVB.out
                        omega) HPK.out.1 HPK.out.2 ((Mods.refl Nil wr).alloc (.cells #[.int .i64 ((3 * h : Nat) : Int), .slice (some ⟨g5, 0, none⟩) 0 c5] 52)) HO.out HGR.out HB.out
                      exact ⟨⟨h + 1, zs, some ⟨g8, 0, none⟩, cap8, _, A4, m4, c4, by have := HH.out; omega, by go_num, rfl, rfl, rfl, hfin⟩, by have := HH.out; simp [intOf]; omega⟩
                    · obtain ⟨j, hj⟩ : ∃ j, q = j + 1 := ⟨q - 1, by omega⟩
                      obtain ⟨v, hv⟩ : ∃ v, vat rl j = v := ⟨_, rfl⟩
                      have hvb : v ≤ 1000 := by rw [← hv]; exact HVB.out j
                      have y1 : wr.cell? ⟨g5, j, none⟩ = some (.int .u64 (v : Int)) := by
                        have := (own_at_lit K7.out.row (nums_get (rl.take q) j (by rw [List.length_take, HRL.out]; omega))).1
                        rw [vat_take (by omega), hv] at this
                        exact this
                      have hqpI : (0 : Int) < (q : Int) := by omega
                      have hqj : IntKind.i64.wrap ((q : Int) - 1) = (j : Int) := by rw [IntKind.wrap_i64]; omega
                      have hjqI : (j : Int) < (q : Int) := by omega
                      have hj0I : (0 : Int) ≤ (j : Int) := by omega
                      have HJ := Lib.hid hj
                      have HVV := Lib.hid hv
                      have HQ4 := Lib.hid hq4
                      by_cases hv0 : v = 0
                      · subst hv0
                        have HSLc := slice_to11 (A := some ⟨g5, 0, none⟩) (n := q) (c := c5) (j := j) (by have := HC5.out; omega)
                        have f1 := K7.out.box.frozen 1
                        clear hj hv hq4 hvb
                        go_wp2_with fail
                        have hfr := K7.out.lay (W2 := wr) (Mods.refl _ _) (rl6 := rl.take j) (by
                          have := own_front K7.out.row (k := j) (by have := HJ.out; omega)
                          rw [Nat.mul_one, nums_take, List.take_take, Nat.min_eq_left (by have := HJ.out; omega)] at this
                          exact this)
                        refine ⟨⟨j, by have := HQ4.out; have := HJ.out; omega, hfr, fun i h1 h2 => ?_⟩, ?_⟩
                        · rcases Nat.lt_or_ge j i with h3 | h3
                          · exact HZ7.out i (by have := HJ.out; omega) h2
                          · obtain rfl : i = j := by omega
                            exact HVV.out
                        · rw [lenAt1_of hfr.box, lenAt1_of K7.out.box]; have := HJ.out; omega
                      · have hv0I : ((v : Int) == 0) = false := by rw [beq_eq_false_iff_ne]; omega
                        have HPK := Lib.hid (pick_cut (q := q) HRL.out HRV4.out hq4 (fun i h1 h2 => HZ7.out i h1 h2) (.inr (by rw [hj, Nat.add_sub_cancel, hv]; exact hv0)))
                        clear hj hv hq4 hvb hv0
                        have HH3 : Hid (h + 1 ≤ 100) := Lib.hid (by have := HH.out; omega)
                        go_wp2_with (at_builtin; refine wpList_append_own_at _ rfl _ _ 28 rfl w9.heap.size 52 i2 (.agg #[.int .i64 0, .slice none 0 0]) 2 32 Try.underlying28 HI2.out hr0 hr1 hr2 rfl (by decide) (.slice A3 h c3) h (rcs L) rfl (by have := K7.out.c.rows.own.alloc (.cells #[.int .i64 ((3 * h : Nat) : Int), .slice (some ⟨g5, 0, none⟩) q c5] 52); rw [K7.out.c.rl] at this; exact this) ⟨wr.heap.size, 0, none⟩ 1 1 [.int .i64 ((3 * h : Nat) : Int), .slice (some ⟨g5, 0, none⟩) q c5] rfl rfl (two_at10 rfl) (by simp [Value.oneCell']) (by unfold maxLen; have := HH3.out; omega) (by have := HH3.out; omega) (by have := K7.out.c.m.size; simp; omega) ?_; intro v' w8 hown hgrow _ hblk; obtain ⟨g8, cap8, rfl⟩ := ownsRow_succ hown; have HO := Lib.hid hown; have HGR := Lib.hid hgrow; have HB := Lib.hid hblk; clear hown hgrow hblk x0 x1)
                        have hfin := K7.out.push (by have := HH.out; omega) (fun x hx => by
                          obtain ⟨i, hi, rfl⟩ := List.getElem_of_mem hx
                          rw [← vat_lt hi]
                          have := take_vat (q := q) (i := i) HVB.out
                          omega) HPK.out.1 HPK.out.2 ((Mods.refl Nil wr).alloc (.cells #[.int .i64 ((3 * h : Nat) : Int), .slice (some ⟨g5, 0, none⟩) q c5] 52)) HO.out HGR.out HB.out
                        exact ⟨⟨h + 1, zs, some ⟨g8, 0, none⟩, cap8, _, A4, m4, c4, by have := HH.out; omega, by go_num, rfl, rfl, rfl, hfin⟩, by have := HH.out; simp [intOf]; omega⟩
            · have hh2 : h = 2 := by omega
              have HH2 := Lib.hid hh2
              have hh2I : (2 : Int) ≤ (h : Int) := by omega
              clear hlt2 hh
              rw [show 4 * h = 8 by omega] at K5 ⊢
              clear hh2
              have HS8 : Hid (sumD (dOf zk) 8 ≤ 24) := Lib.hid (sumD_le HD.out 8)
              obtain ⟨r0, r3, hpw, hc0, hc3, hf0, hf3, hl4⟩ := K5.out.both HH2.out
              obtain ⟨s', hap, hcs, hLL⟩ := cuts_next HC.out hc0 hc3 hf0 hf3 (by have := HPB.out; have := HS8.out; have := HK2.out; omega)
              have HPW := Lib.hid hpw
              have HL4 := Lib.hid hl4
              have HAP := Lib.hid hap
              have HCS := Lib.hid hcs
              have HLL := Lib.hid hLL
              clear hpw hl4 hap hcs hLL hc0 hc3 hf0 hf3
              have HT : Hid (4 + 2 * k ≤ 100) := Lib.hid (by have := HK2.out; omega)
              have H5 := Lib.hid (H4.out.keepX (K5.out.m.mono (fun i _ h => .inl h)) S3.out)
              obtain ⟨XY, hXY⟩ : ∃ XY : Nat → Prop, (fun q => XX gl q ∨ w9.heap.size ≤ q ∧ q < wr.heap.size) = XY := ⟨_, rfl⟩
              have HXY : Hid (∀ q, (XX gl q ∨ w9.heap.size ≤ q ∧ q < wr.heap.size) → XY q) := Lib.hid (fun q h => by rw [← hXY]; exact h)
              rw [hXY] at H5
              clear hXY
              obtain ⟨N, hN⟩ : ∃ N, s.L.length = N := ⟨_, rfl⟩
              have HN := Lib.hid hN
              clear hN
              obtain ⟨p8, hp8⟩ : ∃ p8, P + sumD (dOf zk) 8 = p8 := ⟨_, rfl⟩
              rw [hp8]
              have HP8 := Lib.hid hp8
              clear hp8
              obtain ⟨N2, hN2⟩ : ∃ N2, N + m4 = N2 := ⟨_, rfl⟩
              have HN2 := Lib.hid hN2
              clear hN2
              have HN' : Hid (s'.L.length = N2) := Lib.hid (by have := K5.out.wl; rw [HLL.out, List.length_append, HN.out]; have := HN2.out; omega)
              have HSN : Hid (s'.n = p8) := Lib.hid (by rw [HCS.out.n, ← HP8.out])
              have HNB : Hid (N ≤ 10000) := Lib.hid (by have := H4.out.len; have := HN.out; omega)
              have HMB : Hid (m4 ≤ 8) := Lib.hid (by have h1 := K5.out.wl; have h2 := wantL_len u (dOf zk) P 8; omega)
              have hwn : IntKind.i64.wrap ((N : Int) + (m4 : Int)) = (N2 : Int) := by have := HNB.out; have := HMB.out; have := HN2.out; rw [IntKind.wrap_i64]; omega
              go_wp2_with (first
                | (go_at_call 17; refine (H5.out.spans (by omega)).mono ?_; rintro e w5 ⟨A5, c5, rfl, -, m5⟩; rw [HN.out]; have H6 := Lib.hid (H5.out.nil m5); have K6 := Lib.hid (K5.out.nil m5); have HM6 := Lib.hid m5; clear m5 H5)
                | (go_at_call 12; refine (kA2 H6.out HT.out HH2.out K6.out.rowsAt HPW.out HL4.out HAP.out).mono ?_; rintro e w6 ⟨rfl, h6, m6⟩; have H7 := Lib.hid h6; have M7 := Lib.hid m6; clear h6 m6 H6)
                | (go_at_call 17; refine (H7.out.spans (by omega)).mono ?_; rintro e w7 ⟨A7, c7, rfl, o7, m7⟩; rw [HN'.out] at o7 ⊢; have H8 := Lib.hid (H7.out.nil m7); have O7 := Lib.hid o7; have M8 := Lib.hid m7; clear m7 o7 H7)
                | (go_at_call 13; refine (H8.out.len_ (by omega)).mono ?_; rintro e w8 ⟨rfl, m8⟩; rw [HSN.out]; have H9 := Lib.hid (H8.out.nil m8); have M9 := Lib.hid m8; clear m8 H8))
              clear hwn
              have HOL := Lib.hid (own_mods (own_mods K6.out.lens M7.out (fun q hq hx => hx.2 (HXY.out q (.inl (.inl (by simpa [Value.ownBlock] using hq.symm)))))) (M8.out.trans M9.out) (fun _ _ h => h))
              have HOW := Lib.hid (own_mods (own_mods K5.out.want HM6.out (fun _ _ h => h)) M7.out (fun q hq hx => hx.2 (HXY.out q (.inr (K5.out.want.lt q hq)))))
              have HWW := Lib.hid (own_mods HOW.out (M8.out.trans M9.out) (fun _ _ h => h))
              have HO7 := Lib.hid (own_mods O7.out M9.out (fun _ _ h => h))
              have HBB : Hid (Blk w8 gb 50 #[.slice A n c0, .slice B m e0]) := Lib.hid ((((HBL.out.mods K5.out.m (fun h => by have := HGB.out; omega)).mods HM6.out (fun h => h)).mods M7.out (fun hx => hx.2 (HXY.out gb (.inl (.inr HGB.out.symm))))).mods (M8.out.trans M9.out) (fun h => h))
              have HZL : Hid (zs.length = 8 ∧ ∀ i, i < 8 → vat zs i = u i + dOf zk i) := Lib.hid ⟨K5.out.zl, fun i hi => by rw [K5.out.zv i hi, if_pos (by omega)]⟩
              have HS9 := Lib.hid (H9.out.sub (Y := XX gl) (fun q hq => HXY.out q (.inl hq)))
              have HWL : Hid ((wantL u (dOf zk) P 8).length = m4) := Lib.hid K5.out.wl
              clear O7 HOW K5 K6 H9 HM6 M7 M8 M9 H4
              go_loopw [20] (fun x wr => ∃ (i : Nat), i ≤ m4 ∧ x = .int .i64 (i : Int) ∧ Mods Nil w8 wr) (fun x _ => m4 - (intOf x).toNat)
              case atStart => exact ⟨0, Nat.zero_le _, rfl, Mods.refl _ _⟩
              case round =>
                obtain ⟨i, hi, rfl, mm⟩ := hrel
                have HM := Lib.hid mm
                by_cases hiN : i < m4
                · have hiI : (i : Int) < (m4 : Int) := by omega
                  obtain ⟨g5, rfl, -⟩ := own_some HWW.out (by omega)
                  obtain ⟨g6, rfl, -⟩ := own_some HO7.out (by have := HN2.out; omega)
                  have hi2 : i < (wantL u (dOf zk) P 8).length := by rw [HWL.out]; exact hiN
                  obtain ⟨q, hq⟩ : ∃ q, (wantL u (dOf zk) P 8)[i] = q := ⟨_, rfl⟩
                  obtain ⟨kk, hkk⟩ : ∃ kk, N + i = kk := ⟨_, rfl⟩
                  have hk2 : kk < s'.L.length := by rw [HN'.out]; have := HN2.out; omega
                  have hq2 : s'.L[kk] = q := by
                    rw [← hq]
                    have h1 : s'.L[kk]? = (wantL u (dOf zk) P 8)[i]? := by rw [HLL.out, ← hkk, ← HN.out, List.getElem?_append_right (by omega)]; congr 1; omega
                    rw [List.getElem?_eq_getElem hk2, List.getElem?_eq_getElem hi2] at h1
                    injection h1
                  have hwk : IntKind.i64.wrap ((N : Int) + (i : Int)) = (kk : Int) := by have := HNB.out; have := HMB.out; rw [IntKind.wrap_i64]; omega
                  have hkkI : (kk : Int) < (N2 : Int) := by have := HN2.out; omega
                  have hkk0 : (0 : Int) ≤ (kk : Int) := by omega
                  have hN6 : kk ≤ 1000000 := by have := HNB.out; have := HMB.out; omega
                  have hi6 : i ≤ 1000000 := by have := HMB.out; omega
                  have hx := fun V (hV : Mods Nil wr V) => span_lit (own_rebase (own_mods HO7.out (mm.trans hV) (fun _ _ h => h)) (Nat.zero_le _)) hk2
                  have hy := fun V (hV : Mods Nil wr V) => span_lit (own_rebase (own_mods HWW.out (mm.trans hV) (fun _ _ h => h)) (Nat.zero_le _)) hi2
                  rw [hq2] at hx
                  rw [hq] at hy
                  have x0 := fun V hV => (hx V hV).1
                  have x1 := fun V hV => (hx V hV).2.1
                  have x2 := fun V hV => (hx V hV).2.2.1
                  have x3 := fun V hV => (hx V hV).2.2.2.1
                  have x4 := fun V hV => (hx V hV).2.2.2.2
                  have y0 := fun V hV => (hy V hV).1
                  have y1 := fun V hV => (hy V hV).2.1
                  have y2 := fun V hV => (hy V hV).2.2.1
                  have y3 := fun V hV => (hy V hV).2.2.2.1
                  have y4 := fun V hV => (hy V hV).2.2.2.2
                  have hne := sp_neq q q
                  unfold cellsP at hne
                  simp only [decide_true, Bool.not_true] at hne
                  clear mm hi2 hq hk2 hq2 hx hy hkk
                  go_wp2_with fail
                  refine gq_region (by kernel_rfl) (by kernel_rfl) ?_
                  try simp only [Act.put, List.setIfInBounds_toArray, List.set_cons_zero, List.set_cons_succ]
                  repeat (first
                    | go_big_quiet_skip
                    | (go_big_quiet_want; first
                        | (refine gq_op (v := ?_) ?_ ?_; rotate_left; (focus (intro V hV; go_simp; try with_reducible rfl)); go_big_quiet_on))
                      simp only [Act.put, List.setIfInBounds_toArray, List.set_cons_zero, List.set_cons_succ])
                  refine wpQuiet_nil ?_
                  intro V hV
                  have HV := Lib.hid (HM.out.trans hV)
                  clear hV x0 x1 x2 x3 x4 y0 y1 y2 y3 y4
                  go_wp2_with fail
                  exact ⟨⟨i + 1, by omega, by go_num, HV.out⟩, by simp [intOf]; omega⟩
                · obtain rfl : i = m4 := by omega
                  clear mm
                  go_wp2_with fail
                  refine ⟨⟨k + 1, p8, s', fun i => u i + dOf zk i, zs, by have := HK2.out; omega, by go_num, rfl, by rw [show 4 + 2 * (k + 1) = 4 + 2 * k + 2 by omega]; exact HS9.out.nil HM.out, by rw [← HP8.out]; exact HCS.out, by have := HPB.out; have := HS8.out; have := HP8.out; omega, fun i => by show u i + dOf zk i ≤ 3 * (k + 1); have := HU.out i; have := HD.out i; omega, HZL.out.1, HZL.out.2, own_mods HOL.out HM.out (fun _ _ h => h), HBB.out.mods HM.out (fun h => h)⟩, by have := HK2.out; simp [intOf]; omega⟩
        · obtain rfl : k = 2 := by omega
          go_wp2_with fail
          go_ret
          exact ⟨rfl, H4.out.m⟩
end Go.Proofs.Ytkodmgnagfolpaa
