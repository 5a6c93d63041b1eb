/- Package frame: a frame's bytes. -/
import Derived.Test.YtncmmiecfkfcgaaFrame0
import Derived.Test.YtncmmiecfkfcgaaNums6
import Derived.Test.YtncmmiecfkfcgaaSums6
namespace Go.Proofs.Ytncmmiecfkfcgaa
open Go.RowKit
set_option linter.unusedVariables false

theorem IsWriter.keeps {w w' : World} {base g : Nat} {v v' : Value} {out : List UInt8} (hw : IsWriter w base g v out) (h : Wrote w w' g v v') : Mods (fun k => base ≤ k) w w' :=
  h.mods.mono (fun i _ hs => by
    rcases hs with rfl | hs
    · exact hw.le
    · exact (hw.own.lt _ hs).1)

theorem fput_big {w : World} {A : Option Addr} {c n : Nat} {k : Int} (hbig : 65535 < n) (hn : n ≤ 140737488355328) :
    Calls Try.prog 14 #[.agg #[.int .u8 k, .slice A n c]] w fun e w' => e = .returned (.tuple #[.slice none 0 0, .int .i64 13]) ∧ Mods Nil w w' := by
  have hb : (65535 : Int) < (n : Int) := by omega
  obtain ⟨b0, b1, b2, b3⟩ := (Blk.new w 25 #[.int .u8 k, .slice A n c]).two
  go_enter Try.func14, Try.ntmps14
  go_wp2_with fail
  go_ret2
  exact ⟨rfl, (Mods.refl _ _).alloc _⟩

set_option maxHeartbeats 3200000 in
theorem fput_any {w : World} {A : Option Addr} {c n m : Nat} {k : UInt8} {body : List UInt8} (hn : body.length = n) (h6 : n ≤ 65535) (hm : (frameOf k body).length = m) (hs : Sl w A c (bts body)) :
    Calls Try.prog 14 #[.agg #[.int .u8 (k.toNat : Int), .slice A n c]] w fun e w' => ∃ v, e = .returned (.tuple #[v, .int .i64 0]) ∧ w'.ownsRow w.heap.size 5 1 v m (bts (frameOf k body)) ∧ Mods Nil w w' := by
  have hb : (n : Int) ≤ 65535 := by omega
  have hl9 := putU_length n (by omega)
  have hwr : IntKind.u64.wrap (n : Int) = (n : Int) := by rw [IntKind.wrap_u64]; omega
  have hn0 : (0 : Int) ≤ (n : Int) := by omega
  have HB0 := Lib.hid (Blk.new w 25 #[.int .u8 (k.toNat : Int), .slice A n c])
  obtain ⟨b0, b1, b2, b3⟩ := HB0.out.two
  have hlen : (([] ++ putU n) ++ [k] ++ body).length + 4 = m := by rw [← hm, frameOf_length, hn]; simp; omega
  obtain ⟨q, hq⟩ : ∃ q, (([] ++ putU n) ++ [k] ++ body).length = q := ⟨_, rfl⟩
  have hqm : q + 4 = m := by omega
  have HF : Hid (frameOf k body = sealedOf (([] ++ putU n) ++ [k] ++ body)) := by
    show _ = _
    unfold frameOf; rw [hn, List.nil_append]
  have HQ := Lib.hid hq
  have HN := Lib.hid hn
  have HS := Lib.hid hs
  have HL := Lib.hid hl9
  have HQM := Lib.hid hqm
  have hq9 : q ≤ 100000 := by rw [← hq]; simp; omega
  clear hs hn hm hlen hq hl9 hqm
  go_enter Try.func14, Try.ntmps14
  go_wp2_with (first
    | (go_at_call 21; refine (newWriter_any _).mono ?_; rintro e w1 ⟨rfl, h1, m1⟩; simp only [World.size_alloc] at h1; have H1 := Lib.hid h1; have B1 := Lib.hid (HB0.out.mods m1 (fun h => h)); obtain ⟨c0, c1, c2, c3⟩ := B1.out.two; have M1 := Lib.hid (((Mods.refl Nil w).alloc _).trans m1); clear h1 m1)
    | (go_at_call 22; refine (wuint_any n (by omega) (by simp) H1.out).mono ?_; rintro e w2 ⟨rfl, v2, h2, r2⟩; have k2 := H1.out.keeps r2; have H2 := Lib.hid h2; have B2 := Lib.hid (B1.out.mods k2 (fun h => by omega)); obtain ⟨d0, d1, d2, d3⟩ := B2.out.two; have M2 := Lib.hid (M1.out.nil_trans k2 (fun i h => by omega)); clear h2 r2 k2)
    | (go_at_call_of 23 (Value.slice A n c); refine (wraw_any HN.out (by have := HL.out; have := HN.out; simp; omega) H3.out (HS.out.mods M3.out (fun _ _ h => h))).mono ?_; rintro e w4 ⟨rfl, v4, h4, r4⟩; have k4 := H3.out.keeps r4; have H4 := Lib.hid h4; have M4 := Lib.hid (M3.out.nil_trans k4 (fun i h => by omega)); clear h4 r4 k4)
    | (go_at_call 23; refine (wraw_any (ys := [k]) rfl (by have := HL.out; simp; omega) (H2.out.alloc _) (one_sl _ _ _)).mono ?_; rintro e w3 ⟨rfl, v3, h3, r3⟩; have k3 := (H2.out.alloc _).keeps r3; have H3 := Lib.hid h3; have B3 := Lib.hid ((B2.out.alloc _).mods k3 (fun h => by omega)); obtain ⟨f0, f1, f2, f3⟩ := B3.out.two; have M3 := Lib.hid ((M2.out.alloc _).nil_trans k3 (fun i h => by omega)); clear h3 r3 k3)
    | (go_at_call 25; refine (out_any HQ.out (by have := HQ.out; omega) H4.out).mono ?_; rintro e w5 ⟨A5, c5, rfl, s5, b5, m5⟩; have S5 := Lib.hid s5; have M5 := Lib.hid (M4.out.trans m5); clear s5 b5 m5)
    | (go_at_call 24; refine (sealed_any HQ.out (by omega) S5.out).mono ?_; rintro e w6 ⟨v6, rfl, o6, m6⟩; have O6 := Lib.hid (own_rebase o6 M5.out.size); have M6 := Lib.hid (M5.out.trans m6); clear o6 m6))
  go_ret2
  exact ⟨v6, rfl, by rw [HF.out, ← HQM.out]; exact O6.out, M6.out⟩

/-- The same, as a slice. -/
theorem fput_to {w : World} {A : Option Addr} {c n m : Nat} {k : UInt8} {body : List UInt8} (hn : body.length = n) (h6 : n ≤ 65535) (hm : (frameOf k body).length = m) (hs : Sl w A c (bts body)) :
    Calls Try.prog 14 #[.agg #[.int .u8 (k.toNat : Int), .slice A n c]] w fun e w' => ∃ A' c', e = .returned (.tuple #[.slice A' m c', .int .i64 0]) ∧ Sl w' A' c' (bts (frameOf k body)) ∧ m ≤ c' ∧ c' ≤ maxLen ∧ (∀ a, A' = some a → w.heap.size ≤ a.block) ∧ Mods Nil w w' := by
  refine (fput_any hn h6 hm hs).mono ?_
  rintro e w' ⟨v, rfl, o, mo⟩
  obtain ⟨A', c', rfl, f, s, b⟩ := own_slice o
  exact ⟨A', c', rfl, s, by have := s.le; rw [bts_length] at this; omega, s.max, fun a ha => (b a ha).2, mo⟩
end Go.Proofs.Ytncmmiecfkfcgaa
