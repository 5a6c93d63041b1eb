/- Layer 3's statements: what each of them begins with. -/
import Derived.Test.YtncmmiecfkfcgaaFrame3
import Derived.Test.YtncmmiecfkfcgaaFrame5
import Derived.Test.YtncmmiecfkfcgaaMem2
namespace Go.Proofs.Ytncmmiecfkfcgaa
open Go.RowKit
set_option linter.unusedVariables false

theorem get_self {k : UInt8} {body : List UInt8} (hb : body.length ≤ 65535) : getE (frameOf k body) = 0 ∧ getK (frameOf k body) = k ∧ getB (frameOf k body) = body ∧ getN (frameOf k body) = (frameOf k body).length := by
  have h1 := get_of (k := k) (r := []) hb
  have h2 := getN_of (k := k) (r := []) hb
  rw [List.append_nil] at h1 h2
  exact ⟨h1.1, h1.2.1, h1.2.2, h2⟩
theorem got_self {k : UInt8} {body : List UInt8} (hb : body.length ≤ 65535) : getE (frameOf k body) = 0 ∧ gotK (frameOf k body) = k ∧ gotB (frameOf k body) = body ∧ gotN (frameOf k body) = (frameOf k body).length := by
  obtain ⟨h1, h2, h3, h4⟩ := get_self (k := k) hb
  unfold gotK gotB gotN
  rw [if_pos h1, if_pos h1, if_pos h1]
  exact ⟨h1, h2, h3, h4⟩
theorem getE_seven : getE [7] ≠ 0 := by
  have h : numErr [7] = 10 := numErr_short (by decide) (by decide)
  rw [getE_meas (by unfold measE; rw [if_pos (by rw [h]; decide), h]; decide)]
  unfold measE
  rw [if_pos (by rw [h]; decide), h]
  decide
theorem frame_one_length : (frameOf 1 []).length = 6 := by rw [frameOf_length]; unfold putU; simp [digs_zero]
theorem frame_one_front : (frameOf 1 [])[0]? = some 0 ∧ (frameOf 1 [])[1]? = some 1 := by
  unfold frameOf putU sealedOf
  simp [digs_zero]
theorem all_one : allOf (frameOf 1 [] ++ [7]) = ([(1, [])], 6) := by
  rw [allOf_frame (by simp), allOf_stop getE_seven, frame_one_length]
  rfl

/-- A row of two cells an element, as a slice. -/
theorem own2_slice {w : World} {base n : Nat} {e : TypeId} {v : Value} {xs : List Value} (h : w.ownsRow base e 2 v n xs) :
    ∃ A c, v = .slice A n c ∧ n ≤ c ∧ c ≤ maxLen ∧ (0 < n → ∃ g, A = some ⟨g, 0, none⟩ ∧ ∀ j u, xs[j]? = some u → w.cell? ⟨g, j, none⟩ = some u) := by
  rcases h.2 with ⟨rfl, rfl⟩ | ⟨g, cap, cur, rfl, hb, hgg, h1, h2, h3, h4⟩
  · exact ⟨none, 0, rfl, Nat.le_refl _, Nat.zero_le _, fun h => absurd h (by omega)⟩
  · refine ⟨some ⟨g, 0, none⟩, cap, rfl, h1, h2, fun _ => ⟨g, rfl, fun j u hu => ?_⟩⟩
    have hc := h.cells (g := g) rfl j u hu
    rw [Addr.add_lit, Nat.zero_add] at hc
    exact hc
theorem plain_length (l : List (Fr × Nat)) : (plainOf l).length = l.length := by simp [plainOf]

set_option maxRecDepth 100000 in
set_option maxHeartbeats 3200000 in
theorem awake_any (w : World) : Calls Try.prog 9 #[] w fun e w' => e = .returned (.bool true) ∧ Mods Nil w w' := by
  obtain ⟨i0, hi, hz0, hz1, hz2⟩ := info_parts infoByte
  have hP : ∀ W, Calls Try.prog 14 #[.agg #[.int .u8 1, .slice none 0 0]] W fun e w' => ∃ v, e = .returned (.tuple #[v, .int .i64 0]) ∧ w'.ownsRow W.heap.size 5 1 v 6 (bts (frameOf 1 [])) ∧ Mods Nil W w' := fun W => by
    exact fput_any (w := W) (A := none) (c := 0) (n := 0) (m := 6) (k := 1) (body := []) rfl (by omega) frame_one_length (Sl.none_ _)
  have HP := Lib.hid hP
  have HG := Lib.hid (got_self (k := 1) (body := []) (by simp))
  have HA := Lib.hid all_one
  have HL := Lib.hid frame_one_length
  have HF := Lib.hid frame_one_front
  have HS7 : Hid (∀ W : World, Sl (W.alloc (.cells #[.int .u8 7] 5)) (some ⟨W.heap.size, 0, none⟩) 1 (bts [7])) := fun W => one_sl W _ _
  clear hP
  go_enter Try.func9, Try.ntmps9
  have hc0 : (bts (frameOf 1 []))[0]? = some (.int .u8 0) := by unfold bts; rw [List.getElem?_map, HF.out.1]; rfl
  have hc1 : (bts (frameOf 1 []))[1]? = some (.int .u8 1) := by unfold bts; rw [List.getElem?_map, HF.out.2]; rfl
  have HC0 := Lib.hid hc0
  have HC1 := Lib.hid hc1
  clear hc0 hc1
  go_wp2_with (first
    | (go_at_call 14; refine (HP.out _).mono ?_; rintro e w1 ⟨v1, rfl, o1, m1⟩; have O1 := Lib.hid o1; obtain ⟨A1, c1, rfl, -, s1, b1⟩ := own_slice o1; obtain ⟨bb, off, rfl, hbb, -⟩ := s1.at_ (by rw [bts_length, HL.out]; omega); have S1 := Lib.hid s1; have M1 := Lib.hid m1; clear o1 s1 b1 m1)
    | (go_at_call 10; refine (get_any (xs := frameOf 1 []) (n := 6) HL.out S1.out).mono ?_; rintro e w2 ⟨A2, c2, he, s2, b2, m2⟩; rw [HG.out.1, HG.out.2.1, HG.out.2.2.1, HG.out.2.2.2, HL.out] at he; subst he; have M2 := Lib.hid m2; have B2 := Lib.hid ((Blk.new w2 25 #[.int .u8 1, .slice A2 0 c2]).alloc (.cells #[.int .u8 7] 5)); clear s2 b2 m2)
    | (at_builtin; refine wpList_append_sl2 _ rfl _ _ 22 rfl w.heap.size 5 i0 (.int .u8 0) 1 Try.underlying22 hi hz0 hz1 hz2 rfl (.slice (some ⟨bb, off, none⟩) 6 c1) 6 (bts (frameOf 1 [])) rfl (own_mods O1.out ((M2.out.alloc _).alloc _) (fun _ _ h => h)) (some ⟨w2.heap.size + 1, 0, none⟩) 1 1 (bts [7]) rfl rfl (build_at (n := 1) (by simp) rfl rfl (by unfold maxLen; omega)) (bts_one _) (by omega) (by unfold maxLen; omega) (by have := M1.out.size; have := M2.out.size; simp; omega) ?_; intro v4 w4 hown hgrow hblk hold; have mg : Mods (fun k => k = bb) ((w2.alloc (.cells #[.int .u8 1, .slice A2 0 c2] 25)).alloc (.cells #[.int .u8 7] 5)) w4 := (Mods.refl _ _).grown hgrow (fun k hk _ => by simp [Value.ownBlock] at hk; exact hk.symm); have B4 := Lib.hid (B2.out.mods mg (by have := M2.out.size; omega)); obtain ⟨A4, c4, rfl, -, s4, -⟩ := own_slice hown; rw [← bts_append] at s4; have S4 := Lib.hid s4; have OLD := Lib.hid (hold _ _ _ rfl); have M4 := Lib.hid (show Mods Nil w w4 from ((((M1.out.trans M2.out).alloc _).alloc _).nil_trans mg (fun i h => by subst h; exact (O1.out.lt i rfl).1))); clear hown hgrow hblk hold s4 mg)
    | (go_at_call 12; refine (all_any (n := 7) (xs := frameOf 1 [] ++ [7]) (by rw [List.length_append, HL.out]; rfl) (by omega) S4.out).mono ?_; rintro e w5 ⟨v5, l5, he, o5, k5, p5, m5⟩; rw [HA.out] at he p5; subst he; have hl5 : l5.length = 1 := (by rw [← plain_length, p5]; rfl); rw [hl5] at o5; obtain ⟨A5, c5, rfl, h51, h52, -⟩ := own2_slice o5; obtain ⟨d0, d1, d2, d3⟩ := (B4.out.mods m5 (fun h => h)).two; have e0 := (OLD.out.mods m5 (fun _ _ h => h)).cells 0 _ HC0.out; have e1 := (OLD.out.mods m5 (fun _ _ h => h)).cells 1 _ HC1.out; have M5 := Lib.hid (M4.out.trans m5); rw [Nat.add_zero] at e0; clear o5 k5 p5 m5 hl5))
  go_ret
  exact ⟨rfl, M5.out⟩
end Go.Proofs.Ytncmmiecfkfcgaa
