/- Package frame: the frame at the front of bytes. -/
import Derived.Test.YtncmmiecfkfcgaaFrame1
import Derived.Test.YtncmmiecfkfcgaaSums7
import Derived.Test.YtncmmiecfkfcgaaGen2
import Derived.Deep.RegionLaw
namespace Go.Proofs.Ytncmmiecfkfcgaa
open Go.RowKit
set_option linter.unusedVariables false

theorem measure_bad {w : World} {A : Option Addr} {c n : Nat} {xs : List UInt8} {E : Int} (hn : xs.length = n) (hE : measE xs = E) (h0 : E ≠ 0) (hs : Sl w A c (bts xs)) :
    Calls Try.prog 16 #[.slice A n c] w fun e w' => e = .returned (.tuple #[.int .i64 0, .int .i64 0, .int .i64 E]) ∧ Mods Nil w w' := by
  have := measure_any hn hs
  rw [hE, if_neg h0, if_neg h0] at this
  exact this
theorem measure_ok {w : World} {A : Option Addr} {c n H V : Nat} {xs : List UInt8} (hn : xs.length = n) (hE : measE xs = 0) (hH : hdOf xs = H) (hV : szOf xs = V) (hs : Sl w A c (bts xs)) :
    Calls Try.prog 16 #[.slice A n c] w fun e w' => e = .returned (.tuple #[.int .i64 (H : Int), .int .i64 (V : Int), .int .i64 0]) ∧ Mods Nil w w' := by
  have := measure_any hn hs
  rw [hE, if_pos rfl, if_pos rfl, hH, hV] at this
  exact this

set_option maxRecDepth 100000 in
theorem sizeByte (W : World) : (sizeOf (Try.prog.elem 22)).run Try.prog W = .ok 1 W := by kernel_rfl
theorem Mods.two (w : World) (g : Nat) (x y : Value) : Mods (· = g) w ((w.setCell ⟨g, 0, none⟩ x).setCell ⟨g, 1, none⟩ y) :=
  Mods.setCell (S := (· = g)) (Mods.setCell (S := (· = g)) (Mods.refl _ _) (fun _ => rfl) _) (fun _ => rfl) _
theorem own_typed {w : World} {base size n : Nat} {e : TypeId} {v : Value} {xs : List Value} (h : w.ownsRow base e size v n xs) : ∀ k, v.ownBlock = some k → ∃ cs, Blk w k e cs := by
  intro k hk
  rcases h.2 with ⟨rfl, _⟩ | ⟨g, cap, cur, rfl, _, hb, _⟩
  · simp [Value.ownBlock] at hk
  · simp [Value.ownBlock] at hk
    subst hk
    exact ⟨cur, hb⟩
def gotK (xs : List UInt8) : UInt8 := if getE xs = 0 then getK xs else 0
def gotB (xs : List UInt8) : List UInt8 := if getE xs = 0 then getB xs else []
def gotN (xs : List UInt8) : Nat := if getE xs = 0 then getN xs else 0
/-- What a call of Get leaves. -/
def Got (w : World) (xs : List UInt8) (e : Ending) (w' : World) : Prop :=
  ∃ A c, e = .returned (.tuple #[.agg #[.int .u8 ((gotK xs).toNat : Int), .slice A (gotB xs).length c], .int .i64 (gotN xs : Int), .int .i64 (getE xs)]) ∧
    Sl w' A c (bts (gotB xs)) ∧ (∀ a, A = some a → w.heap.size ≤ a.block ∧ ∃ cs, Blk w' a.block 5 cs) ∧ Mods Nil w w'
theorem Got.bad {w w' : World} {xs : List UInt8} {E : Int} (hE : getE xs = E) (h0 : E ≠ 0) (hm : Mods Nil w w') : Got w xs (.returned (.tuple #[.agg #[.int .u8 0, .slice none 0 0], .int .i64 0, .int .i64 E])) w' := by
  subst hE
  unfold Got gotK gotB gotN
  rw [if_neg h0, if_neg h0, if_neg h0]
  exact ⟨none, 0, rfl, Sl.none_ _, (fun a h => by cases h), hm⟩

set_option maxHeartbeats 3200000 in
theorem get_any {w : World} {A : Option Addr} {c n : Nat} {xs : List UInt8} (hn : xs.length = n) (hs : Sl w A c (bts xs)) :
    Calls Try.prog 10 #[.slice A n c] w (Got w xs) := by
  obtain ⟨i0, hi, hz0, hz1, hz2⟩ := info_parts infoByte
  have hmx := hs.max
  have hle := hs.le
  unfold maxLen at hmx
  simp at hle
  have HN := Lib.hid hn
  have HS := Lib.hid hs
  have hB0 := Blk.new w 25 #[.int .u8 0, .slice none 0 0]
  have HB0 := Lib.hid hB0
  clear hB0
  by_cases hE : measE xs = 0
  · obtain ⟨H, hH⟩ : ∃ H, hdOf xs = H := ⟨_, rfl⟩
    obtain ⟨V, hV⟩ : ∃ V, szOf xs = V := ⟨_, rfl⟩
    obtain ⟨hnum, hV6⟩ := measE_zero hE
    have hH9 := hdOf_le hnum
    rw [hH] at hH9
    rw [hV] at hV6
    have hgn : getN xs = H + V + 5 := by unfold getN; rw [hH, hV]
    have HE := Lib.hid hE
    have HH := Lib.hid hH
    have HV := Lib.hid hV
    clear hs
    by_cases hsh : n < H + V + 5
    · have HG := Lib.hid (getE_short hE (by rw [hgn, hn]; exact hsh))
      have hshI : (n : Int) < (H : Int) + (V : Int) + 5 := by omega
      clear hn hE hH hV hgn hnum hsh
      go_enter Try.func10, Try.ntmps10
      go_wp2_with (first
        | (go_at_call 16; refine (measure_ok HN.out HE.out HH.out HV.out (HS.out.alloc _)).mono ?_; rintro e w1 ⟨rfl, m1⟩; have bA := HB0.out.mods m1 (fun h => h); obtain ⟨a0, a1, a2, a3⟩ := bA.two; obtain ⟨b0, b1, b2, b3⟩ := (set_one bA (.int .u8 0) (.slice none 0 0)).two; have M1 := Lib.hid (((Mods.refl Nil w).alloc _).trans m1); clear m1 bA))
      exact bodyPost_ret (v := .tuple #[.agg #[.int .u8 0, .slice none 0 0], .int .i64 0, .int .i64 10]) (by simp [results, Try.results10, go_sem, b0, b1]) rfl (Got.bad HG.out (by decide) ((M1.out.setNew (Nat.le_refl _) _).setNew (Nat.le_refl _) _))
    · have hshI : (H : Int) + (V : Int) + 5 ≤ (n : Int) := by omega
      have hend0 : (0 : Int) ≤ (H : Int) + (V : Int) + 5 := by omega
      have hendc : (H : Int) + (V : Int) + 5 ≤ (c : Int) := by omega
      have hendN : ((H : Int) + (V : Int) + 5).toNat = H + V + 5 := by omega
      obtain ⟨N, hN⟩ : ∃ N, H + V + 5 = N := ⟨_, rfl⟩
      have hNI : (H : Int) + (V : Int) + 5 = (N : Int) := by omega
      have htl : (xs.take N).length = N := by simp; omega
      have HT : Hid (Sl w A c (bts (xs.take N))) := by have := HS.out.take N; rw [bts_take] at this; exact this
      have HTL := Lib.hid htl
      have q1 : ∀ W : World, (Instr.slice 22 (.slice A n c) none (some (.int .i64 ((H : Int) + (V : Int) + 5))) none).run Try.prog W = .ok (.slice A N c) W := by
        intro W
        rw [hNI, run_slice_h (P := Try.prog) W _ A n c (by exact Try.underlying22) .i64 (N : Int) (by omega) (by omega)]
        rw [sizeByte]
        simp [Result.andThen, sliced, Addr.add]
      by_cases hr : rightOf (xs.take N) = false
      · have HG := Lib.hid (getE_sum hE (by rw [hgn, hn]; omega) (by rw [hgn, hN]; exact hr))
        clear hn hE hH hV hgn hnum hsh htl
        go_enter Try.func10, Try.ntmps10
        go_wp2_with (first
          | (go_at_call 16; refine (measure_ok HN.out HE.out HH.out HV.out (HS.out.alloc _)).mono ?_; rintro e w1 ⟨rfl, m1⟩; have bA := Lib.hid (HB0.out.mods m1 (fun h => h)); have M1 := Lib.hid (((Mods.refl Nil w).alloc _).trans m1); clear m1)
          | (go_at_call 17; refine (right_any HTL.out (HT.out.mods M1.out (fun _ _ h => h))).mono ?_; rintro e w2 ⟨he, m2⟩; rw [hr] at he; subst he; have bA := bA.out.mods m2 (fun h => h); obtain ⟨a0, a1, a2, a3⟩ := bA.two; obtain ⟨b0, b1, b2, b3⟩ := (set_one bA (.int .u8 0) (.slice none 0 0)).two; have M2 := Lib.hid (M1.out.trans m2); clear m2 bA))
        exact bodyPost_ret (v := .tuple #[.agg #[.int .u8 0, .slice none 0 0], .int .i64 0, .int .i64 14]) (by simp [results, Try.results10, go_sem, b0, b1]) rfl (Got.bad HG.out (by decide) ((M2.out.setNew (Nat.le_refl _) _).setNew (Nat.le_refl _) _))
      · have hr1 : rightOf (xs.take N) = true := by simpa using hr
        have hG : getE xs = 0 := getE_of hnum (by omega) (by rw [hgn, hn]; omega) (by rw [hgn, hN]; exact hr1)
        obtain ⟨b, off, rfl, hbb, hcell⟩ := HS.out.at_ (by simp; omega)
        have hHlt : H < xs.length := by omega
        have h0 : w.cell? ⟨b, off + H, none⟩ = some (.int .u8 (xs[H].toNat : Int)) := hcell H _ (bts_get xs H hHlt)
        have hK : getK xs = xs[H] := by unfold getK; rw [hH, List.drop_eq_getElem_cons hHlt]; rfl
        obtain ⟨B, hB⟩ : ∃ B, getB xs = B := ⟨_, rfl⟩
        have hBl : B.length = V := by rw [← hB, getB_length (by rw [hgn, hn]; omega), hV]
        have hbody : Sl w (some ⟨b, off + (H + 1), none⟩) (c - (H + 1)) (bts B) := by
          have h1 := (HS.out.cut (k := H + 1) (by simp; omega)).take V
          rw [if_neg (by omega), bts_drop, bts_take] at h1
          simp only [Option.map_some, Addr.add_lit] at h1
          rw [← hB]
          unfold getB
          rw [hH, hV]
          exact h1
        have q2 : ∀ W : World, (Instr.slice 22 (.slice (some ⟨b, off, none⟩) n c) (some (.int .i64 ((H : Int) + 1))) (some (.int .i64 ((H : Int) + 1 + (V : Int)))) none).run Try.prog W = .ok (.slice (some ⟨b, off + (H + 1), none⟩) V (c - (H + 1))) W := by
          intro W
          rw [run_slice_lh (P := Try.prog) W _ _ n c (by exact Try.underlying22) .i64 .i64 ((H : Int) + 1) ((H : Int) + 1 + (V : Int)) (by omega) (by omega) (by omega)]
          rw [sizeByte]
          have e1 : ((H : Int) + 1).toNat = H + 1 := by omega
          have e2 : ((H : Int) + 1 + (V : Int)).toNat = H + 1 + V := by omega
          simp only [Result.andThen, sliced, e1, e2]
          rw [if_neg (by omega), Nat.mul_one, show H + 1 + V - (H + 1) = V by omega]
          simp [Addr.add_lit]
        have HBD := Lib.hid hbody
        have HBL := Lib.hid hBl
        have HG : Hid (∀ w' A' c', Sl w' A' c' (bts B) → (∀ a, A' = some a → w.heap.size ≤ a.block ∧ ∃ cs, Blk w' a.block 5 cs) → Mods Nil w w' → Got w xs (.returned (.tuple #[.agg #[.int .u8 (xs[H].toNat : Int), .slice A' V c'], .int .i64 (N : Int), .int .i64 0])) w') := fun w' A' c' h1 h2 h3 => by
          unfold Got gotK gotB gotN
          rw [if_pos hG, if_pos hG, if_pos hG, hK, hB, hgn, hN, hG]
          exact ⟨A', c', by rw [hBl], h1, h2, h3⟩
        have hx256 := xs[H].toNat_lt
        have HR := Lib.hid hr1
        have hHI : (H : Int) < (n : Int) := by omega
        have hHn : H < n := by omega
        generalize xs[H].toNat = y at h0 hx256 HG
        clear hcell hn hE hH hV hgn hnum hsh htl hK hB hBl hbody hG hr hr1
        go_enter Try.func10, Try.ntmps10
        go_wp2_with (first
          | (go_at_call 16; refine (measure_ok HN.out HE.out HH.out HV.out (HS.out.alloc _)).mono ?_; rintro e w1 ⟨rfl, m1⟩; have bA := Lib.hid (HB0.out.mods m1 (fun h => h)); have M1 := Lib.hid (((Mods.refl Nil w).alloc _).trans m1); clear m1)
          | (go_at_call 17; refine (right_any HTL.out (HT.out.mods M1.out (fun _ _ h => h))).mono ?_; rintro e w2 ⟨he, m2⟩; rw [HR.out] at he; subst he; have bA2 := Lib.hid (bA.out.mods m2 (fun h => h)); have M2 := Lib.hid (M1.out.trans m2); clear m2))
        have hcw : w2.cell? ⟨b, off + H, none⟩ = some (.int .u8 (y : Int)) := (World.cell?_of_block (M2.out.block b hbb (fun h => h))).trans h0
        have HBD2 := Lib.hid (HBD.out.mods M2.out (fun _ _ h => h))
        have hlt0 : w.heap.size + 1 ≤ w2.heap.size := bA2.out.lt
        go_region_law (refine step_append_sl _ rfl _ _ 22 rfl (w.heap.size + 1) 5 i0 (.int .u8 0) 1 Try.underlying22 hi hz0 hz1 hz2 rfl (.slice none 0 0) 0 [] rfl (World.ownsRow_nil _ _ _ _) (some ⟨b, off + (H + 1), none⟩) V (c - (H + 1)) (bts B) rfl (by simp; exact HBL.out) (by exact HBD2.out.drew) (bts_one _) (by omega) (by unfold maxLen; omega) (by exact hlt0) ?_; intro v3 w3 hown hgrow hblk; simp only [Nat.zero_add, List.nil_append] at hown; have OT := Lib.hid (own_typed hown); obtain ⟨A3, c3, rfl, -, s3, b3⟩ := own_slice hown; have m3 : Mods Nil w2 w3 := Mods.ofGrown (grown_of_drew hgrow); have S3 := Lib.hid s3; have B3 := Lib.hid b3; have M3 := Lib.hid (M2.out.trans m3); have hcw3 : w3.cell? ⟨b, off + H, none⟩ = some (.int .u8 (y : Int)) := (World.cell?_of_block (M3.out.block b hbb (fun h => h))).trans h0; have bA3 := bA2.out.mods m3 (fun h => h); obtain ⟨f0, f1, f2, f3⟩ := bA3.two; obtain ⟨g0, g1, g2, g3⟩ := (set_one bA3 (.int .u8 (y : Int)) (.slice A3 V c3)).two; clear hown hgrow hblk s3 b3 m3 bA3)
        all_goals
          go_wp2
          exact bodyPost_ret (v := .tuple #[.agg #[.int .u8 (y : Int), .slice A3 V c3], .int .i64 (N : Int), .int .i64 0]) (by simp [results, Try.results10, go_sem, g0, g1, ← hNI]) rfl (HG.out _ _ _ (S3.out.mods (Mods.two w3 w.heap.size _ _) (fun a ha h => by have := (B3.out a ha).2; omega)) (fun a ha => ⟨by have := (B3.out a ha).2; omega, by obtain ⟨cs, hb⟩ := OT.out _ (B3.out a ha).1; exact ⟨cs, hb.mods (Mods.two w3 w.heap.size _ _) (by have := (B3.out a ha).2; omega)⟩⟩) ((M3.out.setNew (Nat.le_refl _) _).setNew (Nat.le_refl _) _))
  · have HG := Lib.hid (getE_meas hE)
    obtain ⟨E, hEE⟩ : ∃ E, measE xs = E := ⟨_, rfl⟩
    rw [hEE] at hE HG
    have HE := Lib.hid hEE
    have H0 := Lib.hid hE
    have hb2 : (E != 0) = true := by simp [hE]
    have hb3 : (E == 0) = false := by simp [hE]
    clear hs hn hE hEE
    go_enter Try.func10, Try.ntmps10
    go_wp2_with (first
      | (go_at_call 16; refine (measure_bad HN.out HE.out H0.out (HS.out.alloc _)).mono ?_; rintro e w1 ⟨rfl, m1⟩; have bA := HB0.out.mods m1 (fun h => h); obtain ⟨a0, a1, a2, a3⟩ := bA.two; obtain ⟨b0, b1, b2, b3⟩ := (set_one bA (.int .u8 0) (.slice none 0 0)).two; have M1 := Lib.hid (((Mods.refl Nil w).alloc _).trans m1); clear m1 bA))
    exact bodyPost_ret (v := .tuple #[.agg #[.int .u8 0, .slice none 0 0], .int .i64 0, .int .i64 E]) (by simp [results, Try.results10, go_sem, b0, b1]) rfl (Got.bad HG.out H0.out ((M1.out.setNew (Nat.le_refl _) _).setNew (Nat.le_refl _) _))
end Go.Proofs.Ytncmmiecfkfcgaa
