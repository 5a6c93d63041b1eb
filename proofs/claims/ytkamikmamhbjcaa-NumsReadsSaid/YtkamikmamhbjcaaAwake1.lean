/- Layer 1's statements: what each of them begins with. -/
import Derived.Test.YtkamikmamhbjcaaNums6
import Derived.Lib.SlBytesConst
namespace Go.Proofs.Ytkamikmamhbjcaa
open Go.RowKit

theorem Mods.nil_trans {T : Nat → Prop} {w w1 w2 : World} (h : Mods Nil w w1) (k : Mods T w1 w2) (hT : ∀ i, T i → w.heap.size ≤ i) : Mods Nil w w2 :=
  h.trans2 k (fun i hi ht => by have := hT i ht; omega)
theorem Wrote.nil_trans {w w1 w2 : World} {base g : Nat} {v v' : Value} {out : List UInt8} (h : Mods Nil w w1) (k : Wrote w1 w2 g v v') (hw : IsWriter w1 base g v out) (hb : w.heap.size ≤ base) : Mods Nil w w2 :=
  h.nil_trans k.mods (fun i hi => by
    rcases hi with rfl | hi
    · exact Nat.le_trans hb hw.le
    · exact Nat.le_trans hb (hw.own.lt i hi).1)
theorem Mods.nil_below {w w' : World} (h : Mods Nil w w') : Below w.heap.size w w' := h.below (fun _ h => h.elim) (Nat.le_refl _)
theorem Mods.of_below {w w' : World} (h : Below w.heap.size w w') : Mods Nil w w' := ⟨h.os, h.tape, h.output, h.size, fun k hk _ => h.block k hk⟩

/-- A new block of cells, as a slice. -/
theorem build_sl (w : World) (cs : Array Value) (t : TypeId) (fr : Nat × Nat) (hm : cs.size ≤ maxLen) : Sl (w.alloc (.cells cs t fr)) (some ⟨w.heap.size, 0, none⟩) cs.size cs.toList := by
  refine ⟨by simp, hm, (fun h => by cases h), .inr ⟨w.heap.size, 0, rfl, fun j u hu => ?_⟩⟩
  rw [World.cell?_alloc_mark]
  simpa using hu

theorem digs_small {x : Nat} (h0 : x ≠ 0) (h : x < 256) : digs x = [UInt8.ofNat x] := by
  rw [digs_pos h0, show x / 256 = 0 by omega, digs_zero, show x % 256 = x by omega]; rfl
theorem putU_300 : putU 300 = [2, 1, 44] := by
  unfold putU
  rw [digs_pos (by omega), show 300 / 256 = 1 from rfl, digs_small (by omega) (by omega)]; rfl
theorem putB_ab : putB [97, 98] = [1, 2, 97, 98] := by
  unfold putB putU
  rw [show [(97 : UInt8), 98].length = 2 from rfl, digs_small (by omega) (by omega)]; rfl

set_option maxHeartbeats 800000 in
theorem awake_any (w : World) : Calls Try.prog 9 #[] w fun e w' => e = .returned (.bool true) ∧ Mods Nil w w' := by
  have r1 : readUint 0 [2, 1, 44, 1, 2, 97, 98] = (0, [1, 2, 97, 98], 300) := by decide
  have r2 : readBytes 0 [1, 2, 97, 98] 2 = (0, [], [97, 98]) := by decide
  have SB := Lib.hid (fun (w : World) => (show Sl (w.alloc (.cells #[.int .u8 97, .int .u8 98] 5 (2, 3))) (some ⟨w.heap.size, 0, none⟩) 2 (bts [97, 98]) from build_sl w #[.int .u8 97, .int .u8 98] 5 (2, 3) (by simp [maxLen])))
  have R1 := Lib.hid r1
  have R2 := Lib.hid r2
  clear r1 r2
  have ks := strOf_toList [97, 98]
  have kc := fun (w : World) (C : Array Value) (n c : Nat) => Lib.run_convert_bytes_const (P := Try.prog) w 23 5 C n c Try.underlying23 Try.underlying5
  go_enter Try.func9, Try.ntmps9
  go_wp2_with (first
    | (go_at_call 10; refine (newWriter_any _).mono ?_; rintro e w1 ⟨rfl, h1, m1⟩; have H1 := Lib.hid h1; have M1 := Lib.hid m1; clear h1 m1)
    | (go_at_call 11; refine (wuint_any 300 (by omega) (by simp) H1.out).mono ?_; rintro e w2 ⟨rfl, v2, h2, k2⟩; rw [putU_300] at h2; have H2 := Lib.hid h2; have M2 := Lib.hid (Wrote.nil_trans M1.out k2 H1.out (Nat.le_refl _)); clear h2 k2)
    | (go_at_call 13; refine (wbytes_any (ys := [97, 98]) (n := 2) rfl (by simp) (H2.out.alloc _) (SB.out _) (by intro _ a ha; injection ha with ha; subst ha; have h3 := H2.out.blk.lt; exact ⟨by simp; omega, fun h4 => by have := (H2.out.own.lt _ h4).2; simp at this⟩)).mono ?_; rintro e w3 ⟨rfl, v3, h3, k3⟩; rw [putB_ab] at h3; have H3 := Lib.hid h3; have M3 := Lib.hid (Wrote.nil_trans (M2.out.alloc _) k3 (H2.out.alloc _) (Nat.le_refl _)); clear h3 k3)
    | (go_at_call 15; refine (out_any (n := 7) rfl (by simp) H3.out).mono ?_; rintro e w4 ⟨A, c, rfl, s4, b4, k4⟩; obtain ⟨b, off, rfl, _, _⟩ := s4.at_ (by simp); have HB := Lib.hid (b4 _ rfl); have S4 := Lib.hid s4; have M4 := Lib.hid (M3.out.trans k4); clear s4 b4 k4)
    | (go_at_call 17; refine (newReader_any (n := 7) rfl (by simp) S4.out).mono ?_; rintro e w5 ⟨g, k, rfl, h5, g5, k5, m5⟩; have H5 := Lib.hid h5; have G5 := Lib.hid g5; have S5 := Lib.hid (S4.out.mods m5 (fun _ _ h => h)); have M5 := Lib.hid (M4.out.trans m5); clear h5 g5 k5 m5)
    | (go_at_call 18; refine (uint_any (by simp) H5.out).mono ?_; rintro e w6 ⟨he, h6, m6⟩; simp only [List.nil_append, List.cons_append, R1.out] at he h6; subst he; have H6 := Lib.hid h6; have S6 := Lib.hid (S5.out.mods m6 (fun a ha e => by injection ha with ha; subst ha; have := HB.out.2; have := G5.out; simp at e; omega)); have M6 := Lib.hid (M5.out.nil_trans m6 (fun i hi => by subst hi; exact Nat.le_trans M4.out.size G5.out)); clear h6 m6)
    | (go_at_call 20; refine (bytes_any 2 (by omega) (by simp) H6.out).mono ?_; rintro e w7 ⟨A7, c7, he, s7, f7, h7, m7⟩; simp only [R2.out] at he s7 f7 h7; subst he; have H7 := Lib.hid h7; have S7 := Lib.hid s7; have hcell := Lib.hid (S6.out.mods m7 (fun a ha e => by injection ha with ha; subst ha; have := HB.out.2; have := G5.out; simp at e; omega)).cells; have c0 : w7.cell? ⟨b, off, none⟩ = some (.int .u8 2) := hcell.out 0 _ rfl; have c1 : w7.cell? ⟨b, off + 1, none⟩ = some (.int .u8 1) := hcell.out 1 _ rfl; have c2 : w7.cell? ⟨b, off + 2, none⟩ = some (.int .u8 44) := hcell.out 2 _ rfl; have M7 := Lib.hid (M6.out.nil_trans m7 (fun i hi => by subst hi; exact Nat.le_trans M4.out.size G5.out)); have kc := run_string_sl (P := Try.prog) w7 23 5 Try.underlying23 Try.underlying5 A7 2 c7 [97, 98] rfl S7.out 9 Try.underlying9; clear s7 f7 h7 m7)
    | (go_at_call 25; refine (end_any H7.out).mono ?_; rintro e w8 ⟨rfl, rfl⟩))
  --DBG
  go_ret
  exact ⟨rfl, M7.out⟩
end Go.Proofs.Ytkamikmamhbjcaa
