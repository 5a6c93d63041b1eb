/- FrameRow's walk. -/
import Derived.Test.YtncmmiecfkfcgaaFrameSpoilsWalk
import Derived.Test.YtncmmiecfkfcgaaRowsOf
import Derived.Deep.QuietTactic
import Derived.BigQuiet
namespace Go.Proofs.Ytncmmiecfkfcgaa
open Go.RowKit
set_option linter.unusedVariables false

theorem frs_at : ∀ (l : List Fr) (j : Nat) (h : j < l.length), (frs l)[j * 2]? = some (.int .u8 (l[j].k.toNat : Int)) ∧ (frs l)[j * 2 + 1]? = some (.slice l[j].A l[j].xs.length l[j].c)
  | f :: l, 0, _ => by simp [frs, Fr.cells]
  | f :: l, j + 1, h => by
    have e : frs (f :: l) = f.cells ++ frs l := by simp [frs]
    have ih := frs_at l j (by simpa using h)
    rw [e, show (j + 1) * 2 = j * 2 + 2 by omega]
    refine ⟨?_, ?_⟩
    · rw [List.getElem?_append_right (by simp [Fr.cells])]
      simpa [Fr.cells] using ih.1
    · rw [show j * 2 + 2 + 1 = (j * 2 + 1) + 2 by omega, List.getElem?_append_right (by simp [Fr.cells])]
      simpa [Fr.cells] using ih.2
/-- One frame of the row that was got. -/
theorem row_at {w5 : World} {base g n : Nat} {l5 : List (Fr × Nat)} {ps : List (UInt8 × List UInt8)} (hp : plainOf l5 = ps) (hl : l5.length = n) (hk : ∀ f ∈ l5, f.1.ok base w5)
    (hc : ∀ j u, (frs (l5.map (·.1)))[j]? = some u → w5.cell? ⟨g, j, none⟩ = some u) {j : Nat} (hj : j < n) :
    ∃ fr : Fr, ps[j]? = some (fr.k, fr.xs) ∧ Sl w5 fr.A fr.c (bts fr.xs) ∧ w5.cell? ⟨g, j * 2, none⟩ = some (.int .u8 (fr.k.toNat : Int)) ∧ w5.cell? ⟨g, j * 2 + 1, none⟩ = some (.slice fr.A fr.xs.length fr.c) := by
  have hj' : j < l5.length := by omega
  have hj2 : j < (l5.map (·.1)).length := by simpa using hj'
  obtain ⟨h1, h2⟩ := frs_at (l5.map (·.1)) j hj2
  refine ⟨l5[j].1, ?_, (hk l5[j] (List.getElem_mem hj')).1, ?_, ?_⟩
  · rw [← hp]
    simp [plainOf, hj']
  · have := hc _ _ h1
    simpa using this
  · have := hc _ _ h2
    simpa using this
/-- One row of those handed in. -/
theorem in_row_at {w : World} {A : Option Addr} {c n : Nat} {l : List Row} {ls : List (List UInt8)} (hn : l.length = n) (hls : l.map (·.xs) = ls) (hs : Sl w A c (l.map Row.val)) (hr : ∀ r ∈ l, r.ok w) {j : Nat} (hj : j < n) :
    ∃ b off, ∃ r : Row, A = some ⟨b, off, none⟩ ∧ ls[j]? = some r.xs ∧ r.ok w ∧ w.cell? ⟨b, off + j, none⟩ = some (.slice r.A r.xs.length r.c) := by
  have hj' : j < l.length := by omega
  obtain ⟨b, off, hA, _, hcell⟩ := hs.at_ (by simp; omega)
  refine ⟨b, off, l[j], hA, by rw [← hls]; simp [hj'], hr l[j] (List.getElem_mem hj'), ?_⟩
  exact hcell j _ (by simp [hj', Row.val])

set_option maxRecDepth 100000 in
set_option maxHeartbeats 6400000 in
theorem frameRow_nat (w : World) {A : Option Addr} {c n : Nat} {l : List Row} (hn : l.length = n) (hs : Sl w A c (l.map Row.val)) (hr : ∀ r ∈ l, r.ok w)
    {B : Option Addr} {d m : Nat} {last : List UInt8} (hm : last.length = m) (hy : Sl w B d (bts last)) (at_ : Nat) (hat : at_ < 65536) (x : Nat) (hx : x < 256) (cut : Bool) :
    Calls Try.prog 6 #[.slice A n c, .slice B m d, .int .u16 at_, .int .u8 x, .bool cut] w fun e w' => e = .returned (.bool true) ∧ Mods Nil w w' := by
  have hmx := hs.max
  have hle := hs.le
  have hmy := hy.max
  have hley := hy.le
  unfold maxLen at hmx hmy
  simp at hle hley
  by_cases hbig : 8 < n
  · have hb : (8 : Int) < (n : Int) := by omega
    have hd1 : decide ((8 : Int) < (n : Int)) = true := by simp; omega
    clear hs hr hy
    go_enter Try.func6, Try.ntmps6
    go_wp2_with (first | (go_at_call 9; refine (awake_any _).mono ?_; rintro e w1 ⟨rfl, m1⟩; have M1 := Lib.hid m1; clear m1))
    go_ret
    exact ⟨rfl, M1.out⟩
  by_cases hbig2 : 100 < m
  · have hb : (100 : Int) < (m : Int) := by omega
    have hb8 : (n : Int) ≤ 8 := by omega
    clear hs hr hy
    go_enter Try.func6, Try.ntmps6
    go_wp2_with (first | (go_at_call 9; refine (awake_any _).mono ?_; rintro e w1 ⟨rfl, m1⟩; have M1 := Lib.hid m1; clear m1))
    go_ret
    exact ⟨rfl, M1.out⟩
  by_cases hx0 : x = 0
  · subst hx0
    have hb : (m : Int) ≤ 100 := by omega
    have hb8 : (n : Int) ≤ 8 := by omega
    clear hs hr hy
    go_enter Try.func6, Try.ntmps6
    go_wp2_with (first | (go_at_call 9; refine (awake_any _).mono ?_; rintro e w1 ⟨rfl, m1⟩; have M1 := Lib.hid m1; clear m1))
    go_ret
    exact ⟨rfl, M1.out⟩
  · have hb8 : (n : Int) ≤ 8 := by omega
    have hb100 : (m : Int) ≤ 100 := by omega
    have hn8 : n ≤ 8 := by omega
    have hm100 : m ≤ 100 := by omega
    have hx0' : ((x : Int) == 0) = false := by rw [beq_eq_false_iff_ne]; omega
    obtain ⟨i0, hi, hz0, hz1, hz2⟩ := info_parts infoByte
    obtain ⟨ls, hls⟩ : ∃ ls, l.map (·.xs) = ls := ⟨_, rfl⟩
    have hlsn : ls.length = n := by rw [← hls]; simp; exact hn
    have HN := Lib.hid hn
    have HS := Lib.hid hs
    have HR := Lib.hid hr
    have HM := Lib.hid hm
    have HY := Lib.hid hy
    have HLS := Lib.hid hls
    have HLN := Lib.hid hlsn
    clear hs hr hy hn hm hle hley hbig hbig2 hls hlsn
    go_enter Try.func6, Try.ntmps6
    go_wp2_with (first | (go_at_call 9; refine (awake_any _).mono ?_; rintro e w1 ⟨rfl, m1⟩; have M1 := Lib.hid m1; clear m1))
    go_loopw [12, 13] (fun b i wr => ∃ (j q : Nat), j ≤ n ∧ i = .int .i64 j ∧ (rowsB 0 (ls.take j)).length = q ∧ q ≤ 114 * j ∧ (∀ r ∈ ls.take j, r.length ≤ 100) ∧ wr.ownsRow w.heap.size 5 1 b q (bts (rowsB 0 (ls.take j))) ∧ Mods Nil w wr) (fun _ i _ => n - (intOf i).toNat)
    case atStart => exact ⟨0, 0, by omega, rfl, rfl, by omega, by simp, World.ownsRow_nil _ _ _ _, M1.out⟩
    case round =>
      obtain ⟨j, q, hj, rfl, hq, hqj, hall, hown, hmo⟩ := hrel
      obtain ⟨A1, c1, rfl, -, s1, b1⟩ := own_slice hown
      by_cases hlt : j < n
      · have hjI : (j : Int) < (n : Int) := by omega
        have hjl : j < l.length := by rw [HN.out]; exact hlt
        have hjls : j < ls.length := by rw [HLN.out]; exact hlt
        have hlsj : ls[j] = l[j].xs := by
          have := HLS.out
          subst this
          simp
        have hsucc := rowsB_succ ls j hjls
        have htk : ls.take (j + 1) = ls.take j ++ [ls[j]] := List.take_succ_eq_append_getElem hjls
        rw [hlsj] at hsucc htk
        obtain ⟨b, off, rfl, _, hcell⟩ := (HS.out.mods hmo (fun _ _ h => h)).at_ (by simp; omega)
        have h0 : wr.cell? ⟨b, off + j, none⟩ = some (.slice l[j].A l[j].xs.length l[j].c) := hcell j _ (by simp [hjl, Row.val])
        have hok := (HR.out l[j] (List.getElem_mem hjl)).mods hmo
        generalize l[j] = r at h0 hok hsucc htk
        obtain ⟨p, hp⟩ : ∃ p, r.xs.length = p := ⟨_, rfl⟩
        rw [hp] at h0
        by_cases h100 : 100 < p
        · have h100I : (100 : Int) < (p : Int) := by omega
          have HMO := Lib.hid hmo
          clear hcell hok hsucc htk hp hjl hjls hlsj hown s1 b1 hq hall hmo
          go_wp2_with fail
          go_ret
          exact ⟨rfl, HMO.out⟩
        · have h100I : (p : Int) ≤ 100 := by omega
          obtain ⟨kj, hkj⟩ : ∃ kj, UInt8.ofNat j = kj := ⟨_, rfl⟩
          have hkjN : kj.toNat = j := by rw [← hkj]; simp; omega
          rw [hkj] at hsucc
          obtain ⟨fm, hfm⟩ : ∃ fm, (frameOf kj r.xs).length = fm := ⟨_, rfl⟩
          have hfm114 : fm ≤ 114 := by
            have := frameOf_length kj r.xs
            have := putU_length r.xs.length (by omega)
            omega
          have HP : Hid (∀ W : World, Mods Nil wr W → Calls Try.prog 14 #[.agg #[.int .u8 (j : Int), .slice r.A p r.c]] W fun e w' => ∃ A' c', e = .returned (.tuple #[.slice A' fm c', .int .i64 0]) ∧ Sl w' A' c' (bts (frameOf kj r.xs)) ∧ fm ≤ c' ∧ c' ≤ maxLen ∧ (∀ a, A' = some a → W.heap.size ≤ a.block) ∧ Mods Nil W w') := fun W h => by
            have := fput_to (w := W) (k := kj) hp (by omega) hfm (Sl.mods hok h (fun _ _ h => h))
            rw [hkjN] at this
            exact this
          have HSU := Lib.hid hsucc
          have HTK := Lib.hid htk
          have HO := Lib.hid hown
          have HQ := Lib.hid hq
          have HALL := Lib.hid hall
          have HMO := Lib.hid hmo
          have HFM := Lib.hid hfm
          have HPP := Lib.hid hp
          clear hcell hok hsucc htk hp hjl hjls hlsj hown s1 b1 hq hall hmo hfm hkj hkjN
          go_wp2_with (first
            | (go_at_call 14; refine (HP.out _ (Mods.refl _ _)).mono ?_; rintro e w2 ⟨A2, c2, rfl, s2, -, -, -, m2⟩; have S2 := Lib.hid s2; have M2 := Lib.hid m2; have HO2 := Lib.hid (own_mods HO.out m2 (fun _ _ h => h)); clear s2 m2)
            | (at_builtin; refine wpList_append_sl _ rfl _ _ 22 rfl w.heap.size 5 i0 (.int .u8 0) 1 Try.underlying22 hi hz0 hz1 hz2 rfl _ q _ rfl HO2.out A2 fm c2 (bts (frameOf kj r.xs)) rfl (by simp; exact HFM.out) S2.out (bts_one _) (by omega) (by unfold maxLen; omega) (by have := HMO.out.size; have := M2.out.size; omega) ?_; intro v3 w3 hown hgrow hblk; have HO3 := Lib.hid hown; have M3 := Lib.hid (show Mods Nil w w3 from (HMO.out.trans M2.out).nil_trans ((Mods.refl (fun k => (Value.slice A1 q c1).ownBlock = some k) _).grown hgrow (fun k hk _ => hk)) (fun i h => (HO2.out.lt i h).1)); clear hown hgrow hblk))
          refine ⟨⟨j + 1, q + fm, by omega, by go_num, ?_, by omega, ?_, ?_, M3.out⟩, by simp [intOf]; omega⟩
          · rw [HSU.out, List.length_append, HQ.out, HFM.out]
          · intro r' hr'
            rw [HTK.out] at hr'
            rcases List.mem_append.1 hr' with h | h
            · exact HALL.out r' h
            · simp at h; rw [h, HPP.out]; omega
          · rw [HSU.out, bts_append]
            exact HO3.out
      · obtain rfl : n = j := by omega
        have hlt2 : ls.take n = ls := by rw [← HLN.out, List.take_length]
        rw [hlt2] at hq hall hown
        obtain ⟨G, hG⟩ : ∃ G, frameOf 99 last = G := ⟨_, rfl⟩
        obtain ⟨gm, hgm⟩ : ∃ gm, G.length = gm := ⟨_, rfl⟩
        have hl99 := frameOf_length 99 last
        have hpu := putU_length last.length (by have := HM.out; omega)
        have hpu1 : 1 ≤ (putU last.length).length := by simp [putU]
        rw [hG, hgm] at hl99
        have hml := HM.out
        have hg6 : 6 ≤ gm := by omega
        have hg114 : gm ≤ 114 := by omega
        obtain ⟨hG0, -, -, hGN⟩ := get_self (k := 99) (body := last) (by omega)
        rw [hG] at hG0 hGN
        rw [hgm] at hGN
        have hspoil : ∀ j2, gm - 5 ≤ j2 → ∀ (h : j2 < G.length) (y : UInt8), y = G[j2] ^^^ UInt8.ofNat x → getE (G.set j2 y) = if x = 0 then 0 else 14 := by
          intro j2 h1 h2 y h3
          subst hG
          exact spoiled (by omega) (by omega) h2 hx h3
        have HP : Hid (∀ W : World, Mods Nil wr W → Calls Try.prog 14 #[.agg #[.int .u8 99, .slice B m d]] W fun e w' => ∃ v, e = .returned (.tuple #[v, .int .i64 0]) ∧ w'.ownsRow W.heap.size 5 1 v gm (bts G) ∧ Mods Nil W w') := fun W h => by
          have := fput_any (w := W) (m := gm) (k := 99) (body := last) HM.out (by omega) (by rw [hG]; exact hgm) ((HY.out.mods hmo (fun _ _ h => h)).mods h (fun _ _ h => h))
          rw [hG] at this
          exact this
        have hall2 : ∀ b ∈ ls, b.length ≤ 65535 := fun b hb => by have := hall b hb; omega
        have HQ := Lib.hid hq
        have HO := Lib.hid hown
        have HMO := Lib.hid hmo
        have HGL := Lib.hid hgm
        have hg6I : (6 : Int) ≤ (gm : Int) := by omega
        have hg1I : (gm : Int) ≤ 114 := by omega
        have hgne : ((gm : Int) == 0) = false := by rw [beq_eq_false_iff_ne]; omega
        have hq63 : (q : Int) ≤ 912 := by omega
        clear hq hown hmo s1 b1 hG hl99 hpu hpu1 hml hall
        cases cut with
        | true =>
          obtain ⟨t, ht⟩ : ∃ t, at_ % gm = t := ⟨_, rfl⟩
          have htI : (at_ : Int) % (gm : Int) = (t : Int) := by rw [← ht]; omega
          have htg : t < gm := by rw [← ht]; exact Nat.mod_lt _ (by omega)
          have ht0 : (0 : Int) ≤ (t : Int) := by omega
          have htgI : (t : Int) ≤ (gm : Int) := by omega
          have hE : getE (G.take t) ≠ 0 := by rw [get_cut hG0 (by rw [hGN]; exact htg)]; decide
          have HA := Lib.hid (allOf_rows 0 ls (G.take t) hall2 hE)
          have HRL := Lib.hid (show (G.take t).length = t by simp; omega)
          clear ht hE hG0 hGN hall2 hgm hspoil
          go_wp2_with (first
            | (go_at_call 14; refine (HP.out _ (Mods.refl _ _)).mono ?_; rintro e w2 ⟨v2, rfl, o2, m2⟩; obtain ⟨A2, c2, rfl, -, s2, -⟩ := own_slice o2; have htc : (t : Int) ≤ (c2 : Int) := (by have := s2.le; rw [bts_length, HGL.out] at this; omega); have S2 : Hid (Sl w2 A2 c2 (bts (G.take t))) := (by have := s2.take t; rw [bts_take] at this; exact this); have M2 := Lib.hid m2; have HO2 := Lib.hid (own_mods HO.out m2 (fun _ _ h => h)); clear o2 s2 m2)
            | (at_builtin; refine wpList_append_sl _ rfl _ _ 22 rfl w.heap.size 5 i0 (.int .u8 0) 1 Try.underlying22 hi hz0 hz1 hz2 rfl _ q _ rfl HO2.out A2 t c2 (bts (G.take t)) rfl (by rw [bts_length]; exact HRL.out) S2.out (bts_one _) (by omega) (by unfold maxLen; omega) (by have := HMO.out.size; have := M2.out.size; omega) ?_; intro v4 w4 hown hgrow hblk; rw [← bts_append] at hown; obtain ⟨A4, c4, rfl, -, s4, -⟩ := own_slice hown; have S4 := Lib.hid s4; have M4 := Lib.hid (show Mods Nil w w4 from (HMO.out.trans M2.out).nil_trans ((Mods.refl (fun k => (Value.slice A1 q c1).ownBlock = some k) _).grown hgrow (fun k hk _ => hk)) (fun i h => (HO2.out.lt i h).1)); clear hown hgrow hblk s4)
            | (go_at_call 12; refine (all_any (n := q + t) (xs := rowsB 0 ls ++ G.take t) (by rw [List.length_append, HQ.out, HRL.out]) (by omega) S4.out).mono ?_; rintro e w5 ⟨v5, l5, he, o5, k5, p5, m5⟩; rw [HA.out] at he p5; simp only [HQ.out] at he; subst he; have hl5 : l5.length = n := (by rw [← plain_length, p5, kindsOf_length, HLN.out]); rw [hl5] at o5; obtain ⟨A5, c5, rfl, h51, h52, h53⟩ := own2_slice o5; have P5 := Lib.hid p5; have K5 := Lib.hid k5; have H53 := Lib.hid h53; have HL5 := Lib.hid hl5; have M5 := Lib.hid (M4.out.trans m5); clear o5 k5 p5 m5 hl5 h53))
          go_loopw [21] (fun i W => ∃ j : Nat, j ≤ n ∧ i = .int .i64 j ∧ Mods Nil w5 W) (fun i _ => n - (intOf i).toNat)
          case atStart => exact ⟨0, by omega, rfl, Mods.refl _ _⟩
          case round =>
            obtain ⟨j, hj, rfl, hmo⟩ := hrel
            by_cases hlt : j < n
            · obtain ⟨g5, rfl, hcell5⟩ := H53.out (by omega)
              have hM5 := M5.out.trans hmo
              obtain ⟨fr, hfr1, hfr2, hfr3, hfr4⟩ := row_at P5.out HL5.out K5.out hcell5 hlt
              obtain ⟨b, off, r, rfl, hr1, hr2, hr3⟩ := in_row_at HN.out HLS.out HS.out HR.out hlt
              rw [kindsOf_get 0 ls j (by rw [HLN.out]; exact hlt), Nat.zero_add] at hfr1
              injection hfr1 with hfr1
              injection hfr1 with e1 e2
              rw [List.getElem?_eq_getElem (by rw [HLN.out]; exact hlt), e2] at hr1
              injection hr1 with hr1
              have hk0 : fr.k.toNat = j := by rw [← e1]; simp; omega
              rw [hk0] at hfr3
              obtain ⟨p, hp⟩ : ∃ p, fr.xs.length = p := ⟨_, rfl⟩
              rw [hp] at hfr4
              rw [← hr1, hp] at hr3
              have c1 : wr.cell? ⟨g5, j * 2, none⟩ = some (.int .u8 (j : Int)) := (World.cell?_of_block (hmo.block g5 (World.block_lt_of_cell? w5 _ hfr3) (fun h => h))).trans hfr3
              have c2 : wr.cell? ⟨g5, j * 2 + 1, none⟩ = some (.slice fr.A p fr.c) := (World.cell?_of_block (hmo.block g5 (World.block_lt_of_cell? w5 _ hfr3) (fun h => h))).trans hfr4
              have c3 : wr.cell? ⟨b, off + j, none⟩ = some (.slice r.A p r.c) := (World.cell?_of_block (hM5.block b (World.block_lt_of_cell? w _ hr3) (fun h => h))).trans hr3
              have s1 : Sl wr fr.A fr.c (bts fr.xs) := hfr2.mods hmo (fun _ _ h => h)
              have s2 : Sl wr r.A r.c (bts fr.xs) := by rw [hr1]; exact hr2.mods hM5
              have q1 : ∀ nq, (convert 22 9 (.slice fr.A p fr.c)).run Try.prog (wr.drewN nq) = .ok (.string (strOf fr.xs)) (wr.drewN nq) := fun nq => run_string_sl _ 22 5 Try.underlying22 Try.underlying5 fr.A p fr.c _ hp (s1.drewN nq) 9 Try.underlying9
              have q2 : ∀ nq, (convert 22 9 (.slice r.A p r.c)).run Try.prog (wr.drewN nq) = .ok (.string (strOf fr.xs)) (wr.drewN nq) := fun nq => run_string_sl _ 22 5 Try.underlying22 Try.underlying5 r.A p r.c _ hp (s2.drewN nq) 9 Try.underlying9
              have hjI : (j : Int) < (n : Int) := by omega
              have hj8 : (j : Int) ≤ 8 := by omega
              have HMM := Lib.hid hmo
              clear hcell5 hM5 hfr2 hfr3 hfr4 e1 e2 hr1 hr2 hr3 hk0 hp s1 s2 hmo
              go_wp2_with fail
              go_quiet (fail)
              go_wp2
              exact ⟨⟨j + 1, by omega, by go_num, HMM.out.drewN _⟩, by simp [intOf]; omega⟩
            · go_wp2_with fail
              go_ret
              exact ⟨rfl, M5.out.trans hmo⟩
        | false =>
          obtain ⟨r5, hr5⟩ : ∃ r5, at_ % 5 = r5 := ⟨_, rfl⟩
          obtain ⟨j2, hj2⟩ : ∃ j2, gm - 1 - r5 = j2 := ⟨_, rfl⟩
          have hr5I : (at_ : Int) % 5 = (r5 : Int) := by omega
          have hj2I : (gm : Int) - 1 - (r5 : Int) = (j2 : Int) := by omega
          have hj2g : j2 < gm := by omega
          have hj2G : j2 < G.length := by rw [hgm]; exact hj2g
          have hj2J : (j2 : Int) < (gm : Int) := by omega
          have hj20 : (0 : Int) ≤ (j2 : Int) := by omega
          obtain ⟨y, hy⟩ : ∃ y, y = G[j2] ^^^ UInt8.ofNat x := ⟨_, rfl⟩
          have hE : getE (G.set j2 y) ≠ 0 := by
            have h1 := hspoil j2 (by omega) hj2G y hy
            rw [h1, if_neg hx0]
            decide
          have hxor : bits .xor .u8 (G[j2].toNat : Int) (x : Int) = (y.toNat : Int) := by
            rw [u8_xor_nat _ _ G[j2].toNat_lt hx, hy, UInt8.toNat_xor]
            simp [Nat.mod_eq_of_lt hx]
          have hget : (bts G)[j2]? = some (.int .u8 (G[j2].toNat : Int)) := bts_get G j2 hj2G
          have hset : (bts G).set j2 (.int .u8 (y.toNat : Int)) = bts (G.set j2 y) := by simp [bts, List.map_set]
          have HA := Lib.hid (allOf_rows 0 ls (G.set j2 y) hall2 hE)
          have HRL := Lib.hid (show (G.set j2 y).length = gm by simp; exact hgm)
          have HGET := Lib.hid hget
          generalize G[j2].toNat = dd at hxor hget HGET
          generalize y.toNat = z at hxor hset
          have HSET := Lib.hid hset
          clear hr5 hj2 hE hG0 hGN hall2 hgm hget hset hy hj2G hspoil
          go_wp2_with (first
            | (go_at_call 14; refine (HP.out _ (Mods.refl _ _)).mono ?_; rintro e w2 ⟨v2, rfl, o2, m2⟩; obtain ⟨g, cap, rfl, hnc, hcm, hbg, hgl, hfz, hcl, hst⟩ := own_set o2 hj2g; have hc := hcl _ HGET.out; have M2 := Lib.hid m2; have MS := Lib.hid (Mods.setCell (S := fun k => k = g) (p := ⟨g, j2, none⟩) (Mods.refl _ w2) (fun _ => rfl) (.int .u8 (z : Int))); have HO2 := Lib.hid (own_mods (own_mods HO.out m2 (fun _ _ h => h)) MS.out (fun k hk h => (by have := (HO.out.lt k hk).2; omega))); have S2 : Hid (Sl (w2.setCell ⟨g, j2, none⟩ (.int .u8 (z : Int))) (some ⟨g, 0, none⟩) cap (bts (G.set j2 y))) := (by have h := hst (.int .u8 (z : Int)); rw [HSET.out] at h; obtain ⟨A4, c4, e4, _, s4, _⟩ := own_slice h; injection e4 with e5 e6 e7; subst e5; subst e7; exact s4); have HBG := Lib.hid (Nat.le_trans HMO.out.size hbg); clear o2 m2 hcl hst hbg)
            | (at_builtin; refine wpList_append_sl _ rfl _ _ 22 rfl w.heap.size 5 i0 (.int .u8 0) 1 Try.underlying22 hi hz0 hz1 hz2 rfl _ q _ rfl HO2.out (some ⟨g, 0, none⟩) gm cap (bts (G.set j2 y)) rfl (by rw [bts_length]; exact HRL.out) S2.out (bts_one _) (by omega) (by unfold maxLen; omega) (by have := HMO.out.size; have := M2.out.size; have := MS.out.size; omega) ?_; intro v4 w4 hown hgrow hblk; rw [← bts_append] at hown; obtain ⟨A4, c4, rfl, -, s4, -⟩ := own_slice hown; have S4 := Lib.hid s4; have M4 := Lib.hid (show Mods Nil w w4 from ((HMO.out.trans M2.out).setNew (p := ⟨g, j2, none⟩) HBG.out _).nil_trans ((Mods.refl (fun k => (Value.slice A1 q c1).ownBlock = some k) _).grown hgrow (fun k hk _ => hk)) (fun i h => (HO2.out.lt i h).1)); clear hown hgrow hblk s4)
            | (go_at_call 12; refine (all_any (n := q + gm) (xs := rowsB 0 ls ++ G.set j2 y) (by rw [List.length_append, HQ.out, HRL.out]) (by omega) S4.out).mono ?_; rintro e w5 ⟨v5, l5, he, o5, k5, p5, m5⟩; rw [HA.out] at he p5; simp only [HQ.out] at he; subst he; have hl5 : l5.length = n := (by rw [← plain_length, p5, kindsOf_length, HLN.out]); rw [hl5] at o5; obtain ⟨A5, c5, rfl, h51, h52, h53⟩ := own2_slice o5; have P5 := Lib.hid p5; have K5 := Lib.hid k5; have H53 := Lib.hid h53; have HL5 := Lib.hid hl5; have M5 := Lib.hid (M4.out.trans m5); clear o5 k5 p5 m5 hl5 h53))
          go_loopw [21] (fun i W => ∃ j : Nat, j ≤ n ∧ i = .int .i64 j ∧ Mods Nil w5 W) (fun i _ => n - (intOf i).toNat)
          case atStart => exact ⟨0, by omega, rfl, Mods.refl _ _⟩
          case round =>
            obtain ⟨j, hj, rfl, hmo⟩ := hrel
            by_cases hlt : j < n
            · obtain ⟨g5, rfl, hcell5⟩ := H53.out (by omega)
              have hM5 := M5.out.trans hmo
              obtain ⟨fr, hfr1, hfr2, hfr3, hfr4⟩ := row_at P5.out HL5.out K5.out hcell5 hlt
              obtain ⟨b, off, r, rfl, hr1, hr2, hr3⟩ := in_row_at HN.out HLS.out HS.out HR.out hlt
              rw [kindsOf_get 0 ls j (by rw [HLN.out]; exact hlt), Nat.zero_add] at hfr1
              injection hfr1 with hfr1
              injection hfr1 with e1 e2
              rw [List.getElem?_eq_getElem (by rw [HLN.out]; exact hlt), e2] at hr1
              injection hr1 with hr1
              have hk0 : fr.k.toNat = j := by rw [← e1]; simp; omega
              rw [hk0] at hfr3
              obtain ⟨p, hp⟩ : ∃ p, fr.xs.length = p := ⟨_, rfl⟩
              rw [hp] at hfr4
              rw [← hr1, hp] at hr3
              have c1 : wr.cell? ⟨g5, j * 2, none⟩ = some (.int .u8 (j : Int)) := (World.cell?_of_block (hmo.block g5 (World.block_lt_of_cell? w5 _ hfr3) (fun h => h))).trans hfr3
              have c2 : wr.cell? ⟨g5, j * 2 + 1, none⟩ = some (.slice fr.A p fr.c) := (World.cell?_of_block (hmo.block g5 (World.block_lt_of_cell? w5 _ hfr3) (fun h => h))).trans hfr4
              have c3 : wr.cell? ⟨b, off + j, none⟩ = some (.slice r.A p r.c) := (World.cell?_of_block (hM5.block b (World.block_lt_of_cell? w _ hr3) (fun h => h))).trans hr3
              have s1 : Sl wr fr.A fr.c (bts fr.xs) := hfr2.mods hmo (fun _ _ h => h)
              have s2 : Sl wr r.A r.c (bts fr.xs) := by rw [hr1]; exact hr2.mods hM5
              have q1 : ∀ nq, (convert 22 9 (.slice fr.A p fr.c)).run Try.prog (wr.drewN nq) = .ok (.string (strOf fr.xs)) (wr.drewN nq) := fun nq => run_string_sl _ 22 5 Try.underlying22 Try.underlying5 fr.A p fr.c _ hp (s1.drewN nq) 9 Try.underlying9
              have q2 : ∀ nq, (convert 22 9 (.slice r.A p r.c)).run Try.prog (wr.drewN nq) = .ok (.string (strOf fr.xs)) (wr.drewN nq) := fun nq => run_string_sl _ 22 5 Try.underlying22 Try.underlying5 r.A p r.c _ hp (s2.drewN nq) 9 Try.underlying9
              have hjI : (j : Int) < (n : Int) := by omega
              have hj8 : (j : Int) ≤ 8 := by omega
              have HMM := Lib.hid hmo
              clear hcell5 hM5 hfr2 hfr3 hfr4 e1 e2 hr1 hr2 hr3 hk0 hp s1 s2 hmo
              go_wp2_with fail
              go_quiet (fail)
              go_wp2
              exact ⟨⟨j + 1, by omega, by go_num, HMM.out.drewN _⟩, by simp [intOf]; omega⟩
            · go_wp2_with fail
              go_ret
              exact ⟨rfl, M5.out.trans hmo⟩
theorem frameRow_walk (w : World) {A : Option Addr} {c n : Nat} {l : List Row} (hn : l.length = n) (hs : Sl w A c (l.map Row.val)) (hr : ∀ r ∈ l, r.ok w)
    {B : Option Addr} {d m : Nat} {last : List UInt8} (hm : last.length = m) (hy : Sl w B d (bts last)) {a2 : Int} (w2 : (Lit.int .u16 a2).wf = true) {a3 : Int} (w3 : (Lit.int .u8 a3).wf = true) (a4 : Bool) :
    Calls Try.prog 6 #[.slice A n c, .slice B m d, .int .u16 a2, .int .u8 a3, .bool a4] w fun e w' => e = .returned (.bool true) ∧ Mods Nil w w' := by
  have h2 := u16_of_wf w2
  have h3 := u8_of_wf w3
  obtain ⟨n2, rfl⟩ := Int.eq_ofNat_of_zero_le h2.1
  obtain ⟨n3, rfl⟩ := Int.eq_ofNat_of_zero_le h3.1
  exact frameRow_nat w hn hs hr hm hy n2 (by omega) n3 (by omega) a4
end Go.Proofs.Ytncmmiecfkfcgaa
