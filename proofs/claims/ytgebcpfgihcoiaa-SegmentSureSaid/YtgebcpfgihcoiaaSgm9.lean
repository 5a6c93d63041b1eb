/- Package segment: Append, walked. -/
import Derived.Test.YtgebcpfgihcoiaaSgm8
namespace Go.Proofs.Ytgebcpfgihcoiaa
set_option maxRecDepth 100000
open Go.RowKit
set_option linter.unusedVariables false

/-- What stands in the segment at a part's writing. -/
def S3 (sb db : Nat) (s : PSeg) (V : World) : Prop := V.cell? ⟨sb, 0, none⟩ = some (.pointer (some ⟨db, 0, none⟩)) ∧ V.cell? ⟨sb, 1, none⟩ = some (.int .i64 (s.start : Int)) ∧ V.cell? ⟨sb, 3, none⟩ = some (.int .i64 (s.used : Int))
def PSeg.fail (s : PSeg) (e : Int) : PSeg := { s with err := e }
theorem PSeg.Ok.fail {s : PSeg} (h : s.Ok) {e : Int} (he : -1000 ≤ e ∧ e ≤ 1000) : (s.fail e).Ok := ⟨h.fit, h.used, h.len, h.sure, h.gone, h.epoch, he⟩
set_option maxHeartbeats 6400000 in
theorem sappend_go {w : World} {base sb db mb : Nat} {d : PD} {s : PSeg} (hS : SegIn w base sb db mb s) (hD : DiskAt w base db d) (hW : d.W.length ≤ 900) {A : Option Addr} {c n : Nat} {b : List UInt8} (hs : Sb base w A c b) (hn : b.length = n) (h4 : n ≤ 4096) (he : s.err = 0) (hf : s.used + needP n ≤ s.n) :
    Calls Try.prog 14 #[.pointer (some ⟨sb, 0, none⟩), .slice A n c] w fun e w' => e = .returned (.tuple #[.int .i64 (s.append d b).2.2.1, .int .i64 (s.append d b).2.2.2]) ∧ SegAt w' base sb db (s.append d b).1 (s.append d b).2.1 ∧ SM base w w' := by
  obtain ⟨m, hm⟩ : ∃ m, needP n = m := ⟨_, rfl⟩
  have hm1 : 1 ≤ m := by rw [← hm]; exact needP_pos n
  have hm92 : m ≤ 92 := by rw [← hm]; exact needP_le h4
  obtain ⟨R, hR⟩ : ∃ R, putsP d (s.start + s.used) (recP s.epoch s.L.length b) = R := ⟨_, rfl⟩
  have happ : s.append d b = if R.2 ≠ 0 then (R.1, s.fail R.2, 0, R.2) else (R.1, s.add b m, (s.L.length : Int), 0) := by
    unfold PSeg.append
    rw [if_neg (by omega), if_neg (by simp [he]), hn, hm, if_neg (by omega), hR]
    rfl
  obtain ⟨X, hX⟩ : ∃ X, s.append d b = X := ⟨_, rfl⟩
  rw [hX] at happ ⊢
  have HX := Lib.hid happ
  clear hX
  have c8 := hS.cells.2.2.2.2.2.2.2.2
  rw [he] at c8
  have hfit := hS.ok.fit
  have hused := hS.ok.used
  have hlen := hS.ok.len
  have h4I : (n : Int) ≤ 4096 := by omega
  have HNEED := Lib.hid (sneed_any w n (by omega))
  have HFREE := Lib.hid (sfree_in hS)
  obtain ⟨fr, hfr⟩ : ∃ fr, s.n - s.used = fr := ⟨_, rfl⟩
  rw [hfr] at HFREE
  rw [hm] at HNEED
  have hfrI : (m : Int) ≤ (fr : Int) := by omega
  have HLEN : Hid (∀ V, Mods Nil w V → Calls Try.prog 30 #[.pointer (some ⟨sb, 0, none⟩)] V fun e w' => e = .returned (.int .i64 (s.L.length : Int)) ∧ Mods Nil V w') := Lib.hid (fun V hV => slen_in (hS.nil hV))
  have HS := Lib.hid hS
  have HD := Lib.hid hD
  have HW := Lib.hid hW
  have HB := Lib.hid hs
  have HN := Lib.hid hn
  have HM := Lib.hid hm
  have HR := Lib.hid hR
  have HF := Lib.hid hf
  have HE := Lib.hid he
  have H4 := Lib.hid h4
  have HFIT := Lib.hid (And.intro hfit (And.intro hused (And.intro hlen hm92)))
  obtain ⟨pl, hpl⟩ : ∃ pl, s.L.length = pl := ⟨_, rfl⟩
  have HPL := Lib.hid hpl
  rw [hpl] at HLEN
  clear hS hD hW hs hn h4 he hf hm hR happ hfit hused hlen hm92 hpl hfr
  go_enter Try.func14, Try.ntmps14
  go_wp2_with (first
    | (go_at_call 34; refine HNEED.out.mono ?_; rintro e w1 ⟨rfl, rfl⟩)
    | (go_at_call 33; refine HFREE.out.mono ?_; rintro e w1 ⟨rfl, m1⟩; have M1 := Lib.hid m1; clear m1)
    | (go_at_call 30; refine (HLEN.out _ M1.out).mono ?_; rintro e w2 ⟨rfl, m2⟩; have M2 := Lib.hid (M1.out.trans m2); clear m2))
  clear c8
  go_loopw [34] (fun x wr => ∃ (j : Nat) (dj : PD), j ≤ m ∧ x = .int .i64 (j : Int) ∧ SegIn wr base sb db mb s ∧ DiskAt wr base db dj ∧ SM base w wr ∧ dj.W.length ≤ d.W.length + j ∧ putsP dj (s.start + s.used + j) ((recP s.epoch s.L.length b).drop j) = R) (fun x _ => m - (intOf x).toNat)
  case atStart => exact ⟨0, d, Nat.zero_le _, rfl, HS.out.nil M2.out, HD.out.nil M2.out, SM.nil M2.out, by omega, HR.out⟩
  case round =>
    obtain ⟨j, dj, hj, rfl, hs0, hd0, hmo, hwl, hput⟩ := hrel
    have SJ := Lib.hid hs0
    have DJ := Lib.hid hd0
    have MJ := Lib.hid hmo
    have WJ := Lib.hid hwl
    have PJ := Lib.hid hput
    clear hs0 hd0 hmo hwl hput
    by_cases hlt : j < m
    · have hltI : (j : Int) < (m : Int) := by omega
      obtain ⟨blk, hblk⟩ : ∃ x, blockP s.epoch pl j (needP n) (partP b j) = x := ⟨_, rfl⟩
      have hb64 : Hid (blk.length = 64) := by rw [← hblk]; exact Lib.hid (blockP_length (by rw [partP_length]; omega))
      have hrec : (recP s.epoch s.L.length b).drop j = blk :: (recP s.epoch s.L.length b).drop (j + 1) := by
        rw [recP_cons _ _ _ _ (by rw [HN.out, HM.out]; exact hlt), HN.out, HPL.out, hblk]
      have HLAY := Lib.hid (slay_in SJ.out ((HB.out.sm MJ.out).1) HN.out H4.out (k := j) (pl := pl) (by rw [HM.out]; exact hlt) (by have := HFIT.out; have := HPL.out; omega))
      rw [hblk] at HLAY
      obtain ⟨p, hp⟩ : ∃ p, s.start + s.used + j = p := ⟨_, rfl⟩
      have hpI : (s.start : Int) + (s.used : Int) + (j : Int) = (p : Int) := by omega
      have hw1 : IntKind.i64.wrap ((s.start : Int) + (s.used : Int)) = (s.start : Int) + (s.used : Int) := by rw [IntKind.wrap_i64]; have := HFIT.out; omega
      have hw2 : IntKind.i64.wrap (p : Int) = (p : Int) := by rw [IntKind.wrap_i64]; have := HFIT.out; have := HPL.out; omega
      have hw3 : IntKind.i64.wrap ((j : Int) + 1) = (j : Int) + 1 := by rw [IntKind.wrap_i64]; have := HFIT.out; omega
      have hput : putsP dj p (blk :: (recP s.epoch s.L.length b).drop (j + 1)) = R := by rw [← hrec, ← hp]; exact PJ.out
      obtain ⟨D1, hD1⟩ : ∃ D, dj.write (p : Int) blk = D := ⟨_, rfl⟩
      have herr := PD.write_err dj (p : Int) blk
      have hwl1 := PD.write_W dj (p : Int) blk
      rw [hD1] at herr hwl1
      have HPUT : Hid (if D1.2 ≠ 0 then D1 = R else putsP D1.1 (p + 1) ((recP s.epoch s.L.length b).drop (j + 1)) = R) := by
        unfold putsP at hput
        rw [hD1] at hput
        show ite _ _ _
        split <;> rename_i hz <;> simpa [hz] using hput
      have HWR : Hid (∀ V, DiskAt V base db dj → ∀ g, Blk V g 94 (bts blk).toArray → Calls Try.prog 24 #[.pointer (some ⟨db, 0, none⟩), .int .i64 (p : Int), .slice (some ⟨g, 0, none⟩) 64 64] V fun e w' => e = .returned (.int .i64 D1.2) ∧ DiskAt w' base db D1.1 ∧ DM base V w') := Lib.hid (fun V hV g hg => by
        have hbs : Bs base V (some ⟨g, 0, none⟩) 64 blk := ⟨by have := blk_sl hg hb64.out 64; rwa [List.take_of_length_le (by rw [hb64.out]; omega)] at this, fun _ a ha => by
          injection ha with ha
          subst ha
          exact .inr ⟨_, _, hg, by decide, by decide, by decide⟩⟩
        have := dwrite_any hV (by have := WJ.out; have := HW.out; have := HFIT.out; omega) (p : Int) hbs hb64.out
        rw [hD1] at this
        exact this)
      have HERR := Lib.hid herr
      have HWL := Lib.hid hwl1
      clear hrec hp hput hD1 herr hwl1 hblk
      have HK : Hid (∀ V, SegIn V base sb db mb s → (V.cell? ⟨sb, 0, none⟩ = some (.pointer (some ⟨db, 0, none⟩)) ∧ V.cell? ⟨sb, 1, none⟩ = some (.int .i64 (s.start : Int)) ∧ V.cell? ⟨sb, 3, none⟩ = some (.int .i64 (s.used : Int)))) := Lib.hid (fun V h => ⟨h.cells.1, h.cells.2.1, h.cells.2.2.2.1⟩)
      have HK2 : Hid (∀ V, SegIn V base sb db mb (s.fail D1.2) → (V.cell? ⟨sb, 0, none⟩ = some (.pointer (some ⟨db, 0, none⟩)) ∧ V.cell? ⟨sb, 1, none⟩ = some (.int .i64 (s.start : Int)) ∧ V.cell? ⟨sb, 3, none⟩ = some (.int .i64 (s.used : Int)))) := Lib.hid (fun V h => ⟨h.cells.1, h.cells.2.1, h.cells.2.2.2.1⟩)
      have HSET : Hid (∀ V, SegIn V base sb db mb s → DiskAt V base db D1.1 → SegIn (V.setCell ⟨sb, 8, none⟩ (.int .i64 D1.2)) base sb db mb (s.fail D1.2) ∧ DiskAt (V.setCell ⟨sb, 8, none⟩ (.int .i64 D1.2)) base db D1.1 ∧ SM base V (V.setCell ⟨sb, 8, none⟩ (.int .i64 D1.2))) := Lib.hid (fun V h hd => h.set hd 8 _ rfl rfl rfl (h.ok.fail HERR.out))
      obtain ⟨er, her⟩ : ∃ er, D1.2 = er := ⟨_, rfl⟩
      obtain ⟨DD, hDD⟩ : ∃ DD, D1.1 = DD := ⟨_, rfl⟩
      have HD12 : Hid (D1 = (DD, er)) := by rw [← her, ← hDD]; exact Lib.hid rfl
      rw [her] at HK2 HSET HPUT HERR
      rw [her, hDD] at HWR
      rw [hDD] at HSET HPUT HWL
      clear her hDD
      go_wp2_with (first
        | (go_at_call 42; refine HLAY.out.mono ?_; rintro e w3 ⟨rfl, m3⟩; have M3 := Lib.hid m3; clear m3)
        | (refine gw_alloc_sb rfl rfl ?_; intro w4 b9 m9 s9; have B4 := Lib.hid b9; have M4 := Lib.hid (M3.out.trans m9); clear b9 m9 s9)
        | (refine wpList_store_mk rfl 94 (.tmp 9) (.tmp 41) rfl rfl w3.heap.size rfl 94 (bts zeros64).toArray (bts blk).toArray rfl B4.out (by simp [hb64.out, zeros64]) (bts_all _) (infoSB4 hb64.out) rfl ?_; intro w5 b9 m9; have B5 := Lib.hid b9; have N5 := Lib.hid (M4.out.nil_trans m9 (fun i hi => by have := M3.out.size; omega)); have D5 := Lib.hid (DJ.out.nil N5.out); have S5 := Lib.hid (SJ.out.nil N5.out); have M5 := Lib.hid (MJ.out.trans (SM.nil N5.out)); have K5 := HK.out _ S5.out; clear b9 m9))
      by_cases hz : er = 0
      · subst hz
        go_region_held (fun V => V.cell? ⟨sb, 0, none⟩ = some (.pointer (some ⟨db, 0, none⟩)) ∧ V.cell? ⟨sb, 1, none⟩ = some (.int .i64 (s.start : Int)) ∧ V.cell? ⟨sb, 3, none⟩ = some (.int .i64 (s.used : Int))) (assumption) (first
          | (go_at_call 24; refine (HWR.out _ (D5.out.nil (Mods.refl Nil _).drew) _ B5.out.drew).mono ?_; rintro e w6 ⟨rfl, d6, m6⟩; have D6 := Lib.hid d6; have S6 := Lib.hid ((S5.out.nil (Mods.refl Nil _).drew).dm m6); have M6 := Lib.hid (M5.out.trans (SM.dm (Mods.of_drew m6))); have K6 := HK.out _ S6.out; have f8 := S6.out.blk.frozen 8; have c8 := S6.out.cells.2.2.2.2.2.2.2.2; have Q7 := Lib.hid (HSET.out _ S6.out D6.out); have K7 := HK2.out _ Q7.out.1; have e8 : (w6.setCell ⟨sb, 8, none⟩ (.int .i64 0)).cell? ⟨sb, 8, none⟩ = some (.int .i64 0) := Q7.out.1.cells.2.2.2.2.2.2.2.2; clear d6 m6))
        all_goals
          go_wp2_with fail
          refine ⟨⟨j + 1, DD, by omega, by go_num, ?_, Q7.out.2.1, M6.out.trans Q7.out.2.2, ?_, ?_⟩, by simp [intOf]; omega⟩
          · have hfe : s.fail 0 = s := by have := HE.out; cases s; subst this; rfl
            have := Q7.out.1
            rw [hfe] at this
            exact this
          · have := HWL.out; have := WJ.out; omega
          · have := HPUT.out
            rw [if_neg (by simp)] at this
            rw [← this]
            congr 1
            omega
      · have hzI : (er != 0) = true := by simpa using hz
        go_region_held (fun V => V.cell? ⟨sb, 0, none⟩ = some (.pointer (some ⟨db, 0, none⟩)) ∧ V.cell? ⟨sb, 1, none⟩ = some (.int .i64 (s.start : Int)) ∧ V.cell? ⟨sb, 3, none⟩ = some (.int .i64 (s.used : Int))) (assumption) (first
          | (go_at_call 24; refine (HWR.out _ (D5.out.nil (Mods.refl Nil _).drew) _ B5.out.drew).mono ?_; rintro e w6 ⟨rfl, d6, m6⟩; have D6 := Lib.hid d6; have S6 := Lib.hid ((S5.out.nil (Mods.refl Nil _).drew).dm m6); have M6 := Lib.hid (M5.out.trans (SM.dm (Mods.of_drew m6))); have K6 := HK.out _ S6.out; have f8 := S6.out.blk.frozen 8; have c8 := S6.out.cells.2.2.2.2.2.2.2.2; have Q7 := Lib.hid (HSET.out _ S6.out D6.out); have K7 := HK2.out _ Q7.out.1; have e8 : (w6.setCell ⟨sb, 8, none⟩ (.int .i64 er)).cell? ⟨sb, 8, none⟩ = some (.int .i64 er) := Q7.out.1.cells.2.2.2.2.2.2.2.2; clear d6 m6))
        all_goals
          go_wp2_with fail
          go_quiet (fail)
          go_wp2_with fail
          go_ret2
          have hR : R = (DD, er) := by have := HPUT.out; rw [if_pos hz] at this; rw [← this, HD12.out]
          have hz2 : R.2 ≠ 0 := by rw [hR]; exact hz
          have hx := HX.out
          rw [if_pos hz2, hR] at hx
          subst hx
          exact ⟨rfl, ⟨Q7.out.2.1.nil ((Mods.refl Nil _).drewN _), mb, Q7.out.1.nil ((Mods.refl Nil _).drewN _)⟩, (M6.out.trans Q7.out.2.2).trans (SM.nil ((Mods.refl Nil _).drewN _))⟩
    · obtain rfl : j = m := by omega
      have hput : R = (dj, 0) := by
        have := PJ.out
        rw [List.drop_eq_nil_of_le (by rw [recP_length, HN.out, HM.out]; exact Nat.le_refl _)] at this
        exact this.symm
      go_wp2_with (first
        | (go_at_call 44; refine (clone_rb HN.out (by have := H4.out; omega) (HB.out.sm MJ.out).1).mono ?_; rintro e w3 ⟨A3, c3, rfl, rb3, m3⟩; have RB3 := Lib.hid rb3; have M3 := Lib.hid m3; clear rb3 m3)
        | (go_at_call 43; refine (skeep_in (SJ.out.nil M3.out) (DJ.out.nil M3.out) RB3.out (by have := H4.out; have := HN.out; omega) HN.out hm1 (by have := HF.out; have := HM.out; omega)).mono ?_; rintro e w4 ⟨rfl, s4, d4, m4⟩; have S4 := Lib.hid s4; have D4 := Lib.hid d4; have M4 := Lib.hid ((MJ.out.trans (SM.nil M3.out)).trans m4); clear s4 d4 m4))
      go_ret2
      have hx := HX.out
      rw [if_neg (by rw [hput]; simp), hput, HPL.out] at hx
      subst hx
      exact ⟨rfl, ⟨D4.out, mb, S4.out⟩, M4.out⟩
end Go.Proofs.Ytgebcpfgihcoiaa
