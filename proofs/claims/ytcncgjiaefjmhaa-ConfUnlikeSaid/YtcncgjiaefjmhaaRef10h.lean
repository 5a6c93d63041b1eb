/- The reference of layer 10: rows that are read (readRows): the walk. -/
import Derived.Test.YtcncgjiaefjmhaaRef10g
namespace Go.Proofs.Ytcncgjiaefjmhaa
set_option maxRecDepth 1000000
open Go.RowKit
set_option linter.unusedVariables false
set_option linter.unusedSimpArgs false

set_option maxHeartbeats 8000000 in
theorem r10readRows_any (w : World) (B : List UInt8) (E : Int) (hB : B.length ≤ 140737488355328) :
    Calls Try.prog 27 #[refOf B E] w fun e w' => ∃ B' A n c, e = .returned (.tuple #[refOf B' (allF E B).1, .slice A n c]) ∧ ((allF E B).1 = 0 → B' = (allF E B).2.1 ∧ ∃ L, (allF E B).2.2 = pws L ∧ Rws w' A n c L ∧ Rfar w.heap.size A L) ∧ Mods Nil w w' := by
  obtain ⟨i0, hi, hz0, hz1, hz2⟩ := info_parts infoW
  obtain ⟨j0, hj0, hy0, hy1, hy2⟩ := info_parts infoV64
  have HI0 := Lib.hid hi
  have HJ0 := Lib.hid hj0
  clear hi hj0
  have HS9 := Lib.hid (fun W => r10small_any W B E (lo := 0) (hi := 9) (by omega) hB)
  have HP1 := Lib.hid (fun B1 h => smallP_of (E := E) (B := B) (B1 := B1) (lo := 0) (hi := 8) h)
  rw [show 8 + 1 = 9 from rfl] at HP1
  generalize smallS E B 0 9 = R at HP1 HS9
  obtain ⟨E1, By, n⟩ := R
  dsimp only at HP1
  unfold refOf at HS9 ⊢
  obtain ⟨bA, bB⟩ := two_boxes (Mods.refl Nil ((w.alloc (.cells #[.string (strOf B), .int .i64 E] 61)).alloc (.cells #[.string ⟨#[]⟩, .int .i64 0] 61)))
  have R0 : Hid (RB w ((w.alloc (.cells #[.string (strOf B), .int .i64 E] 61)).alloc (.cells #[.string ⟨#[]⟩, .int .i64 0] 61)) B E) := Lib.hid ⟨bA, bB, ((Mods.refl Nil w).alloc _).alloc _⟩
  clear bA bB
  have hBL := Lib.hid hB
  clear hB
  go_enter Try.func27, Try.ntmps27
  go_wp2_with (go_at_call 25; refine (HS9.out _).mono ?_; rintro e w2 ⟨B1, rfl, hb1, hl1, m2⟩; unfold refOf; dsimp only; have P1 := Lib.hid (HP1.out B1 hb1); have R2 := Lib.hid (R0.out.nil m2); have HL1 := Lib.hid (show B1.length ≤ 140737488355328 by have := hBL.out; omega); obtain ⟨a0, a1, a2, a3⟩ := R2.out.a.two; clear m2 hb1 hl1)
  clear a0 a1 a2 a3
  have R3 := Lib.hid (R2.out.set B1 E1)
  have HN8 := Lib.hid P1.out.le
  go_loopw [4, 6] (fun p x wr => ∃ (i : Nat) (L : List RowP) (Ec : Int) (Bc : List UInt8), i ≤ n ∧ x = .int .i64 (i : Int) ∧ (E1 = 0 → RowsP B1 i Ec Bc (pws L)) ∧ (E1 ≠ 0 → Ec = E1) ∧ L.length = i ∧ OwnR 70 (w.heap.size + 2) wr p L ∧ (∀ q ∈ L, q.off (fun k => k < w.heap.size + 2)) ∧ RB w wr Bc Ec ∧ Bc.length ≤ 140737488355328) (fun _ x _ => n - (intOf x).toNat)
  case atStart => exact ⟨0, [], E1, B1, Nat.zero_le _, rfl, fun h => ⟨h, fun _ => ⟨rfl, rfl⟩⟩, fun _ => rfl, rfl, OwnR.nil _ _ _, by simp, R3.out, HL1.out⟩
  case round =>
    obtain ⟨wo, hwo⟩ : ∃ x, x = wr := ⟨wr, rfl⟩
    subst hwo
    obtain ⟨i, L, Ec, Bc, hi', rfl, hrp, hee, hLn, o5, off5, rb5, hbl⟩ := hrel
    have O5 := Lib.hid o5
    have OFF5 := Lib.hid off5
    have RB5 := Lib.hid rb5
    have HRP := Lib.hid hrp
    have HEE := Lib.hid hee
    have HLN := Lib.hid hLn
    have HBL := Lib.hid hbl
    clear o5 off5 hrp hee hLn
    by_cases hlt : i < n
    · have hltI : (i : Int) < (n : Int) := by omega
      have hE0 : E1 = 0 := by
        by_cases h : E1 = 0
        · exact h
        · have := P1.out.z h; omega
      have HRW := Lib.hid (HRP.out hE0)
      have HE0 := Lib.hid hE0
      clear hE0
      -- the round's boxes
      have HS8 := Lib.hid (fun W => r10small_any W Bc Ec (lo := 0) (hi := 8) (by omega) hbl)
      have HP8 := Lib.hid (fun B1 h => smallP_of (E := Ec) (B := Bc) (B1 := B1) (lo := 0) (hi := 7) h)
      rw [show 7 + 1 = 8 from rfl] at HP8
      generalize smallS Ec Bc 0 8 = R at HP8 HS8
      obtain ⟨Ea, Bz, s⟩ := R
      dsimp only at HP8
      have HS5 := Lib.hid (fun W B (h : B.length ≤ 140737488355328) => r10small_any W B Ea (lo := 0) (hi := 5) (by omega) h)
      have HP5 := Lib.hid (fun B B1 h => smallP_of (E := Ea) (B := B) (B1 := B1) (lo := 0) (hi := 4) h)
      rw [show 4 + 1 = 5 from rfl] at HP5
      unfold refOf at HS8 HS5
      have rb6 := rb5.nil ((Mods.refl Nil wo).alloc (.cells #[.int .i64 0, .slice none 0 0] 70))
      obtain ⟨a0, a1, a2, a3⟩ := rb6.a.two
      have B7 := Blk.new wo 70 #[.int .i64 0, .slice none 0 0]
      have hsz : w.heap.size + 2 ≤ wo.heap.size := rb5.b.lt
      have HSZ := Lib.hid hsz
      have RB6 := Lib.hid rb6
      have HB7 := Lib.hid B7
      clear rb5 rb6 B7 hbl
      go_wp2_with (go_at_call 25; first
        | (refine (HS8.out _).mono ?_; rintro e w3 ⟨Ba, rfl, hba, hla, m3⟩; unfold refOf; dsimp only; have PA := Lib.hid (HP8.out Ba hba); have HLA := Lib.hid (show Ba.length ≤ 140737488355328 by have := HBL.out; omega); have rb7 := RB6.out.nil m3; have b7 := HB7.out.mods m3 (fun h => h); have rb8 := rb7.set Ba Ea; have b8 := (b7.far (p := ⟨w.heap.size, 0, none⟩) (by simp; omega) (.string (strOf Ba))).far (p := ⟨w.heap.size, 1, none⟩) (by simp; omega) (.int .i64 Ea); have RB9 := Lib.hid (rb8.far (Mods.setCell (S := (· = wo.heap.size)) (p := ⟨wo.heap.size, 0, none⟩) (Mods.refl _ _) (fun _ => rfl) (.int .i64 (s : Int))) (fun i h => by omega)); have B9 := Lib.hid (b8.set_ 0 (.int .i64 (s : Int))); have M9 := Lib.hid (((((Mods.refl (· = w.heap.size) wo).alloc (.cells #[.int .i64 0, .slice none 0 0] 70)).trans (m3.mono (fun _ _ h => h.elim))).trans (setR_mods w w3 (.string (strOf Ba)) (.int .i64 Ea))).setNew (p := ⟨wo.heap.size, 0, none⟩) (by simp) (.int .i64 (s : Int))); clear a0 a1 a2 a3; obtain ⟨a0, a1, a2, a3⟩ := rb7.a.two; obtain ⟨q0, q1, q2, q3⟩ := b8.two; obtain ⟨e0, e1, e2, e3⟩ := RB9.out.a.two; clear rb7 b7 rb8 b8 m3 hba hla HS8)
        | (have HP5B := Lib.hid (HP5.out Ba); have HS5B := HS5.out (((w3.setCell ⟨w.heap.size, 0, none⟩ (.string (strOf Ba))).setCell ⟨w.heap.size, 1, none⟩ (.int .i64 Ea)).setCell ⟨wo.heap.size, 0, none⟩ (.int .i64 (s : Int))) Ba HLA.out; refine Calls.mono HS5B ?_; clear HS5B; generalize smallS Ea Ba 0 5 = RR at *; obtain ⟨Eb, By2, k⟩ := RR; rintro e w4 ⟨Bb, rfl, hbb, hlb, m4⟩; unfold refOf; dsimp only; have PB := Lib.hid (HP5B.out Bb hbb); have HLB := Lib.hid (show Bb.length ≤ 140737488355328 by have := HLA.out; omega); have rb4 := RB9.out.nil m4; have b4 := B9.out.mods m4 (fun h => h); have M10 := Lib.hid ((M9.out.trans (m4.mono (fun _ _ h => h.elim)))); clear a0 a1 a2 a3 q0 q1 q2 q3 e0 e1 e2 e3; obtain ⟨a0, a1, a2, a3⟩ := rb4.a.two; have RB10 := Lib.hid rb4; have B10 := Lib.hid b4; clear rb4 b4 m4 hbb hlb))
      clear a0 a1 a2 a3
      have RB11 := Lib.hid (RB10.out.set Bb Eb)
      have B11 := Lib.hid ((B10.out.far (p := ⟨w.heap.size, 0, none⟩) (by have := HSZ.out; simp; omega) (.string (strOf Bb))).far (p := ⟨w.heap.size, 1, none⟩) (by have := HSZ.out; simp; omega) (.int .i64 Eb))
      have M11 := Lib.hid (M10.out.trans (setR_mods w w4 (.string (strOf Bb)) (.int .i64 Eb)))
      have HK4 := Lib.hid PB.out.le
      go_loopw [9] (fun x wq => ∃ (j : Nat) (v : Value) (Ed : Int) (Bd : List UInt8) (l : List Nat), j ≤ k ∧ x = .int .i64 (j : Int) ∧ Blk wq wo.heap.size 70 #[.int .i64 (s : Int), v] ∧ wq.ownsRow wo.heap.size 24 1 v j (nums l) ∧ LensP Eb Bb j Ed Bd l ∧ (∀ x ∈ l, x < 18446744073709551616) ∧ RB w wq Bd Ed ∧ Bd.length ≤ 140737488355328 ∧ Mods (· = w.heap.size) wo wq) (fun x _ => k - (intOf x).toNat)
      case atStart => exact ⟨0, .slice none 0 0, Eb, Bb, [], Nat.zero_le _, rfl, B11.out, World.ownsRow_nil _ _ _ _, LensP.zero _ _, by simp, RB11.out, HLB.out, M11.out⟩
      case round =>
        obtain ⟨j, v, Ed, Bd, l, hj, rfl, b12, o12, lp, hxl, rb12, hbd, m12⟩ := hrel
        have B12 := Lib.hid b12
        have O12 := Lib.hid o12
        have LP := Lib.hid lp
        have HXL := Lib.hid hxl
        have RB12 := Lib.hid rb12
        have HBD := Lib.hid hbd
        have M12 := Lib.hid m12
        obtain ⟨A0, c0, rfl, -, -, -⟩ := own_slice o12
        by_cases hlk : j < k
        · have hlkI : (j : Int) < (k : Int) := by omega
          have HRD := Lib.hid (fun W => rread_any W Bd Ed hbd)
          have HLS := Lib.hid (fun B4 h => lp.step (B4 := B4) h)
          have HV64 := Lib.hid (valOf_lt64 Bd Ed)
          unfold refOf at HRD
          generalize readUint Ed Bd = RR at HRD HLS HV64
          obtain ⟨Ee, Bx, x⟩ := RR
          dsimp only at HLS HV64
          obtain ⟨a0, a1, a2, a3⟩ := rb12.a.two
          have hk4 := HK4.out
          clear b12 o12 lp hxl rb12 hbd m12
          go_wp2_with (first
            | (go_at_call 24; refine (HRD.out _).mono ?_; rintro e w5 ⟨B5, rfl, hb5, hl5, m5⟩; unfold refOf; dsimp only; have LS := Lib.hid (HLS.out B5 hb5); have HL5 := Lib.hid (show B5.length ≤ 140737488355328 by have := HBD.out; omega); have rb5 := RB12.out.nil m5; have b5 := B12.out.mods m5 (fun h => h); clear a0 a1 a2 a3; obtain ⟨a0, a1, a2, a3⟩ := rb5.a.two; have RB6 := Lib.hid (rb5.set B5 Ee); have b6 := (b5.far (p := ⟨w.heap.size, 0, none⟩) (by have := HSZ.out; simp; omega) (.string (strOf B5))).far (p := ⟨w.heap.size, 1, none⟩) (by have := HSZ.out; simp; omega) (.int .i64 Ee); obtain ⟨q0, q1, q2, q3⟩ := b6.two; have B6 := Lib.hid b6; have O6 := Lib.hid (own_mods (own_mods O12.out m5 (fun _ _ h => h)) (setR_mods w w5 (.string (strOf B5)) (.int .i64 Ee)) (fun q hq h => by have := (O12.out.lt q hq).1; have := HSZ.out; omega)); have M6 := Lib.hid ((M12.out.trans (m5.mono (fun _ _ h => h.elim))).trans (setR_mods w w5 (.string (strOf B5)) (.int .i64 Ee))); clear rb5 b5 b6 m5 hb5 hl5)
            | (at_builtin; refine wpList_append_sl _ rfl _ _ 48 rfl wo.heap.size 24 j0 (.int .u64 0) 8 Try.underlying48 HJ0.out hy0 hy1 hy2 rfl (.slice A0 j c0) j (nums l) rfl (own_mods O6.out ((Mods.refl Nil _).alloc _) (fun _ _ h => h)) (some ⟨w5.heap.size, 0, none⟩) 1 1 [.int .u64 (x : Int)] rfl rfl (build_at (by simp) rfl rfl (by decide)) (one_oneCell _ _) (by omega) (by unfold maxLen; omega) (by have := M6.out.size; simp at this ⊢; omega) ?_; intro v3 w9 hown hgrow hblk; rw [← nums_snoc10] at hown; obtain ⟨A9, c9, rfl, -, -, -⟩ := own_slice hown; have mg : Mods (fun q => (Value.slice A0 j c0).ownBlock = some q) ((w5.setCell ⟨w.heap.size, 0, none⟩ (.string (strOf B5))).setCell ⟨w.heap.size, 1, none⟩ (.int .i64 Ee)) w9 := ((Mods.refl _ _).alloc _).grown hgrow (fun q hq _ => hq); have MG := Lib.hid mg; have O9 := Lib.hid hown; have b9 := B6.out.mods mg (fun h => own_blk_ne O6.out B6.out (by decide) h); have f9 := b9.frozen 1; have f8 := b9.two.2.1; have HB9 := Lib.hid b9; clear hown hgrow hblk mg b9))
          have RB9' := RB6.out.far MG.out (fun i h => by have := (O6.out.lt _ h).1; have := HSZ.out; omega)
          have ms : Mods (· = wo.heap.size) w9 (w9.setCell ⟨wo.heap.size, 1, none⟩ (.slice A9 (j + 1) c9)) := Mods.setCell (S := (· = wo.heap.size)) (Mods.refl _ _) (fun _ => rfl) _
          have hsz := HSZ.out
          have bF := HB9.out.set_ 1 (.slice A9 (j + 1) c9)
          refine ⟨?_, by simp [intOf]; omega⟩
          exact ⟨j + 1, .slice A9 (j + 1) c9, Ee, B5, l ++ [x], by omega, by go_num, by simpa using bF, own_mods O9.out ms (fun q hq h => own_blk_ne O9.out HB9.out (by decide) (h ▸ hq)), LS.out, fun y hy => (by rcases List.mem_append.1 hy with hy | hy; exact HXL.out y hy; rw [List.mem_singleton.1 hy]; exact HV64.out), RB9'.far ms (fun i h => by omega), HL5.out, (M6.out.trans2 MG.out (fun i hi h => by have := (O6.out.lt _ h).1; omega)).setNew (by simp) _⟩
        · obtain rfl : k = j := by omega
          obtain ⟨q0, q1, q2, q3⟩ := b12.two
          have HLL : Hid (l.length = k) := Lib.hid (by have := o12.1; simpa [nums] using this)
          have O6 := Lib.hid (O5.out.mods m12 (fun q hq h => by have := (O5.out.own.lt q hq).1; omega) (fun q hq hne a ha h => OFF5.out q hq hne a ha (by omega)))
          clear b12 o12 lp hxl rb12 hbd m12
          have HJN := Lib.hid (row_join PA.out PB.out LP.out)
          obtain ⟨wi, hwi⟩ : ∃ x, x = wr := ⟨wr, rfl⟩
          subst hwi
          have hn8 := HN8.out
          go_wp2_with (at_builtin; refine wpList_append_own_at _ rfl _ _ 31 rfl (w.heap.size + 2) 70 i0 (.agg #[.int .i64 0, .slice none 0 0]) 2 32 Try.underlying31 HI0.out hz0 hz1 hz2 rfl (by decide) u4 i (rcs L) rfl (by have := (O6.out.nilm ((Mods.refl Nil wi).alloc (.cells #[.int .i64 (s : Int), .slice A0 k c0] 70))).own; rw [HLN.out] at this; exact this) ⟨wi.heap.size, 0, none⟩ 1 1 [.int .i64 (s : Int), .slice A0 k c0] rfl rfl (two_at10 rfl) (by simp [Value.oneCell']) (by unfold maxLen; omega) (by omega) (by have := HSZ.out; have := M12.out.size; simp; omega) ?_; intro v' w3' hown hgrow _ hblk; have HOWN := Lib.hid hown; have HGROW := Lib.hid hgrow; have HBLK := Lib.hid hblk; clear hown hgrow hblk)
          have hsz := HSZ.out
          have hp : OwnR 70 (w.heap.size + 2) w3' v' (L ++ [⟨(s : Int), A0, c0, l⟩]) := OwnR.push O6.out (own_sl10 O12.out) HXL.out (by have := PA.out.le; show _ ≤ (s : Int) ∧ (s : Int) ≤ _; omega) (fun hne a ha hk => by
            have h1 := (O5.out.own.lt _ hk).2
            have h2 := (O12.out.lt a.block (by subst ha; rfl)).1
            omega) ((Mods.refl Nil wi).alloc _) (by show World.ownsRow _ _ _ _ _ (L.length + 1) (rcs L ++ [.int .i64 (s : Int), .slice A0 l.length c0]); rw [HLN.out, HLL.out]; exact HOWN.out) HGROW.out HBLK.out
          have mg : Mods (fun q => u4.ownBlock = some q) wi w3' := ((Mods.refl _ wi).alloc _).grown HGROW.out (fun q hq _ => hq)
          refine ⟨?_, by simp [intOf]; omega⟩
          obtain ⟨j1, j2⟩ := HJN.out
          refine ⟨i + 1, L ++ [⟨(s : Int), A0, c0, l⟩], Ed, Bd, by omega, by go_num, fun _ => ?_, fun h => absurd HE0.out h, by simp [HLN.out], hp, ?_, RB12.out.far mg (fun i h => (O6.out.own.lt _ h).1), HBD.out⟩
          · have hst := HRW.out.step j1 j2
            simpa [pws, RowP.pw] using hst
          · intro q hq
            rcases List.mem_append.1 hq with hq | hq
            · exact OFF5.out q hq
            · rw [List.mem_singleton.1 hq]
              intro hne a ha hk
              have h2 := (O12.out.lt a.block (by subst ha; rfl)).1
              omega
    · obtain rfl : n = i := by omega
      obtain ⟨A, c, rfl, hRw, -⟩ := O5.out.rws
      have HRWS := Lib.hid hRw
      have HALL := Lib.hid (allF_of P1.out)
      obtain ⟨a0, a1, a2, a3⟩ := rb5.a.two
      obtain ⟨q0, q1, q2, q3⟩ := rb5.b.two
      have bF := set_one rb5.b (.string (strOf Bc)) (.int .i64 Ec)
      obtain ⟨f0, f1, f2, f3⟩ := bF.two
      have ms : Mods (· = w.heap.size + 1) wo ((wo.setCell ⟨w.heap.size + 1, 0, none⟩ (.string (strOf Bc))).setCell ⟨w.heap.size + 1, 1, none⟩ (.int .i64 Ec)) := Mods.setCell (S := (· = w.heap.size + 1)) (Mods.setCell (S := (· = w.heap.size + 1)) (Mods.refl _ _) (fun _ => rfl) _) (fun _ => rfl) _
      have MS := Lib.hid ms
      clear hRw bF rb5 hbl ms
      go_wp2_with fail
      have hEq : (allF E B).1 = Ec := by
        obtain ⟨-, h2, h3⟩ := HALL.out
        by_cases h0 : E1 = 0
        · rw [h2 h0]; exact (HRP.out h0).err.symm
        · rw [h3 h0, HEE.out h0]
      rw [hEq]
      refine bodyPost_ret (v := .tuple #[.agg #[.string (strOf Bc), .int .i64 Ec], .slice A L.length c]) (by simp [results, Try.results27, go_sem, f0, f1]) rfl ⟨Bc, A, L.length, c, rfl, fun h => ?_, (RB5.out.m.setNew (by simp) _).setNew (by simp) _⟩
      obtain ⟨-, h2, h3⟩ := HALL.out
      have h0 : E1 = 0 := by
        by_cases h0 : E1 = 0
        · exact h0
        · exact absurd ((HEE.out h0).symm.trans h) h0
      obtain ⟨g1, g2⟩ := (HRP.out h0).ok h
      rw [h2 h0]
      have hoR := O5.out.mods MS.out (fun q hq h => by have := (O5.out.own.lt q hq).1; omega) (fun q hq hne a ha h => OFF5.out q hq hne a ha (by omega))
      obtain ⟨A', c', e, hr', hf'⟩ := hoR.rws
      injection e with e1 e2 e3
      subst e1; subst e3
      exact ⟨g1, L, g2.symm, hr', (hf' OFF5.out).mono (by omega)⟩
end Go.Proofs.Ytcncgjiaefjmhaa
