/- Package segment: find. -/
import Derived.Test.YtgebcpfgihcoiaaSgm14
import Derived.Test.YtgebcpfgihcoiaaSgm7
import Derived.WalkMore
namespace Go.Proofs.Ytgebcpfgihcoiaa
set_option maxRecDepth 100000
open Go.RowKit
set_option linter.unusedVariables false

def usedAt (sb : Nat) (w : World) : Nat := match w.cell? ⟨sb, 3, none⟩ with | some (.int .i64 z) => z.toNat | _ => 0
theorem SegIn.usedAt {w : World} {base db sb mb : Nat} {s : PSeg} (h : SegIn w base sb db mb s) : Go.Proofs.Ytgebcpfgihcoiaa.usedAt sb w = s.used := by
  unfold Go.Proofs.Ytgebcpfgihcoiaa.usedAt
  rw [h.cells.2.2.2.1]
  simp
/-- So far found. -/
def PSeg.got (s : PSeg) (L : List (List UInt8)) (p : Nat) : PSeg := { s with L := L, used := p }
def PSeg.done (s : PSeg) (L : List (List UInt8)) (p : Nat) : PSeg := { s with L := L, used := p, sure := L.length }
abbrev Fine (sb mb : Nat) (w w' : World) : Prop := Mods (fun k => k = sb ∨ k = mb) w w'
theorem sb_zero (W : World) : (zeroValue 94).run Try.prog W = .ok (.agg (bts zeros64).toArray) W := by rfl
theorem SegIn.finish {w : World} {base db sb mb : Nat} {s : PSeg} {d : PD} {L : List (List UInt8)} {p : Nat} (h : SegIn w base sb db mb (s.got L p)) (hd : DiskAt w base db d) :
    SegIn (w.setCell ⟨sb, 7, none⟩ (.int .i64 (L.length : Int))) base sb db mb (s.done L p) ∧ DiskAt (w.setCell ⟨sb, 7, none⟩ (.int .i64 (L.length : Int))) base db d ∧ Fine sb mb w (w.setCell ⟨sb, 7, none⟩ (.int .i64 (L.length : Int))) := by
  have q := h.set (s2 := s.done L p) hd 7 (.int .i64 (L.length : Int)) rfl rfl rfl ⟨h.ok.fit, h.ok.used, h.ok.len, Nat.le_refl _, Nat.le_trans h.ok.gone h.ok.sure, h.ok.epoch, h.ok.err⟩
  exact ⟨q.1, q.2.1, Mods.setCell (S := fun k => k = sb ∨ k = mb) (p := ⟨sb, 7, none⟩) (Mods.refl _ _) (fun _ => .inl rfl) _⟩
set_option maxHeartbeats 12800000 in
theorem sfind_in {w : World} {base sb db mb mk cnt : Nat} {d : PD} {s : PSeg} {l : List (List UInt8)} {f : Int → Option Value} (hS : SegIn w base sb db mb s) (hD : DiskAt w base db d) (hK : IMap Try.prog 3 w mk cnt f) (hF : KnownF l f) (hne : mk ≠ mb) (hl : l.length = s.n) (h64 : ∀ b ∈ l, b.length = 64) (h0 : s.L = [] ∧ s.used = 0) :
    Calls Try.prog 38 #[.pointer (some ⟨sb, 0, none⟩), .map (some mk)] w fun e w' => e = .returned (.tuple #[]) ∧ SegIn w' base sb db mb (s.done (walkP l (l.length + 1) 0 0 0).1 (walkP l (l.length + 1) 0 0 0).2) ∧ DiskAt w' base db d ∧ Fine sb mb w w' := by
  obtain ⟨ib, hib, hbz0, hbz1, hbz2⟩ := info_parts infoByte
  obtain ⟨R, hR⟩ : ∃ R, walkP l (l.length + 1) 0 0 0 = R := ⟨_, rfl⟩
  rw [hR]
  have hgot : s = s.got [] 0 := by cases s; obtain ⟨h1, h2⟩ := h0; simp at h1 h2; subst h1; subst h2; rfl
  have HR := Lib.hid hR
  have hS0 := hS
  rw [hgot] at hS0
  have hmkb : ¬ (mk = sb ∨ mk = mb) := fun e => by
    rcases e with e | e
    · obtain ⟨es, c, hb⟩ := hK.isMap
      exact blk_map hS.blk (e ▸ hb)
    · exact hne e
  have HFIT := Lib.hid (show s.n ≤ 65536 by have := hS.ok.fit; omega)
  have HS0 := Lib.hid hS0
  have HD := Lib.hid hD
  have HMK := Lib.hid hmkb
  have HK : Hid (∀ V, Fine sb mb w V → IMap Try.prog 3 V mk cnt f) := Lib.hid (fun V hV => hK.mods hV hmkb)
  have HF := Lib.hid hF
  have HL := Lib.hid hl
  have H64 : Hid (∀ i, i < l.length → (l.getD i []).length = 64) := Lib.hid (fun i hi => h64 _ (getD_mem hi))
  have LOOK : Hid (∀ V, Fine sb mb w V → ∀ i : Nat, i < l.length → rightQ (l.getD i []) = true → (Instr.lookup 80 (.map (some mk)) (.int .i64 (i : Int)) true).run Try.prog V = .ok (.tuple #[.agg (bts (l.getD i [])).toArray, .bool true]) V) := Lib.hid (fun V hV i hi hq => by
    refine (IMap.look (t := 80) (e := 94) Try.underlying3 Try.underlying80 (HK.out V hV) (in64_of (by omega) (by have := HL.out; have := HFIT.out; omega)) ?_ (sb_zero V)).1
    rw [HF.out.2 i hi, if_pos hq]
    rfl)
  have MISS : Hid (∀ V, Fine sb mb w V → ∀ i : Nat, i ≤ 1000000 → ¬ (i < l.length ∧ rightQ (l.getD i []) = true) → (Instr.lookup 80 (.map (some mk)) (.int .i64 (i : Int)) true).run Try.prog V = .ok (.tuple #[.agg (bts zeros64).toArray, .bool false]) V) := Lib.hid (fun V hV i hi hq => by
    refine IMap.miss (t := 80) (e := 94) Try.underlying3 Try.underlying80 (HK.out V hV) (in64_of (by omega) (by omega)) ?_ (sb_zero V)
    by_cases hlt : i < l.length
    · rw [HF.out.2 i hlt, if_neg (fun h => hq ⟨hlt, h⟩)]
    · exact HF.out.1 _ (.inr (by omega)))
  clear hR hgot hS0 hS hD hK hF hne hl h64 h0 hmkb
  go_enter Try.func38, Try.ntmps38
  go_step3
  go_wp2_with fail
  go_step3
  go_wp2_with fail
  go_loopw [4] (fun x wr => ∃ (L : List (List UInt8)) (p e f1 : Nat), x = .int .u32 (e : Int) ∧ e < 4294967296 ∧ SegIn wr base sb db mb (s.got L p) ∧ DiskAt wr base db d ∧ Fine sb mb w wr ∧ f1 + L.length = l.length + 1 ∧ R = (L ++ (walkP l f1 p L.length e).1, (walkP l f1 p L.length e).2)) (fun _ wr => s.n - usedAt sb wr)
  case atStart => exact ⟨[], 0, 0, l.length + 1, rfl, by omega, HS0.out, HD.out, Mods.refl _ _, rfl, HR.out.symm⟩
  case round =>
    obtain ⟨L, p, e, f1, rfl, he32, hs0, hd0, hm0, hf1, hwalk⟩ := hrel
    have c3 : wr.cell? ⟨sb, 3, none⟩ = some (.int .i64 (p : Int)) := hs0.cells.2.2.2.1
    have hLp : L.length ≤ p := hs0.ok.len
    have hpn : p ≤ s.n := hs0.ok.used
    have HUA : Hid (usedAt sb wr = p) := Lib.hid hs0.usedAt
    have SJ := Lib.hid hs0
    have DJ := Lib.hid hd0
    have MJ := Lib.hid hm0
    have HWALK := Lib.hid hwalk
    have HF1 := Lib.hid hf1
    have HPN := Lib.hid (show p ≤ l.length by have := HL.out; omega)
    have HLP := Lib.hid hLp
    clear hs0 hd0 hm0 hwalk hf1 hLp hpn
    have HEND : Hid (takeP l p L.length e = none → R = (L, p)) := Lib.hid (fun h => by rw [HWALK.out, walkP_none h]; simp)
    have HLENC : Hid (∀ V, Mods Nil wr V → Calls Try.prog 30 #[.pointer (some ⟨sb, 0, none⟩)] V fun e w' => e = .returned (.int .i64 (L.length : Int)) ∧ Mods Nil V w') := Lib.hid (fun V hV => slen_in (SJ.out.nil hV))
    have HFIN : Hid (∀ V, Mods Nil wr V → V.frozen? ⟨sb, 7, none⟩ = false ∧ (∃ u, V.cell? ⟨sb, 7, none⟩ = some u) ∧ (R = (L, p) → SegIn (V.setCell ⟨sb, 7, none⟩ (.int .i64 (L.length : Int))) base sb db mb (s.done R.1 R.2) ∧ DiskAt (V.setCell ⟨sb, 7, none⟩ (.int .i64 (L.length : Int))) base db d ∧ Fine sb mb w (V.setCell ⟨sb, 7, none⟩ (.int .i64 (L.length : Int))))) := Lib.hid (fun V hV => by
      have h1 := SJ.out.nil hV
      refine ⟨h1.blk.frozen 7, ⟨_, h1.cells.2.2.2.2.2.2.2.1⟩, fun hR => ?_⟩
      rw [hR]
      have q := h1.finish (DJ.out.nil hV)
      exact ⟨q.1, q.2.1, (MJ.out.trans (hV.mono (fun _ _ h => h.elim))).trans q.2.2⟩)
    have c3F : Hid (∀ V, Mods Nil wr V → V.cell? ⟨sb, 3, none⟩ = some (.int .i64 (p : Int))) := Lib.hid (fun V hV => (SJ.out.nil hV).cells.2.2.2.1)
    have FV : Hid (∀ V, Mods Nil wr V → Fine sb mb w V) := Lib.hid (fun V hV => MJ.out.trans (hV.mono (fun _ _ h => h.elim)))
    obtain ⟨pl, hpl⟩ : ∃ pl, L.length = pl := ⟨_, rfl⟩
    have HPL := Lib.hid hpl
    rw [hpl] at HLENC HFIN HEND
    clear hpl
    by_cases hA : p < l.length ∧ rightQ (l.getD p []) = true
    · obtain ⟨hplt, hrq⟩ := hA
      have hlook := LOOK.out wr MJ.out p hplt hrq
      have hb64 := H64.out p hplt
      obtain ⟨b, hb⟩ : ∃ b, l.getD p [] = b := ⟨_, rfl⟩
      rw [hb] at hlook hb64 hrq
      have HB := Lib.hid hb
      have HRQ := Lib.hid hrq
      have HPLT := Lib.hid hplt
      have HB64 := Lib.hid hb64
      have HINF := Lib.hid (infoSB3 hb64)
      clear hb hb64 hrq hplt
      go_wp2_with (first
        | (refine gw_alloc_sb rfl rfl ?_; intro w2a b9 m9 s9; have B2a := Lib.hid b9; have M2a := Lib.hid (Mods.trans (Mods.refl Nil _) m9); clear b9 m9 s9)
        | (refine wpList_store_mk rfl 94 (.tmp 5) (.tmp 18) rfl rfl _ rfl 94 (bts zeros64).toArray (bts b).toArray rfl B2a.out (by simp [zeros64, HB64.out]) (bts_all _) (infoSB4 (by exact HB64.out)) rfl ?_; intro w2 b9 m9; have B2 := Lib.hid b9; have M2 := Lib.hid (M2a.out.nil_trans m9 (fun i hi => by subst hi; exact Nat.le_refl _)); clear b9 m9))
      have R2 : Hid (∀ V, Mods Nil w2 V → V.rangeAt wr.heap.size 0 (bts b)) := Lib.hid (fun V hV => blk_range (B2.out.mods hV (fun h => h)))
      have HLQ : Hid (∀ V, Mods Nil w2 V → Calls Try.prog 30 #[.pointer (some ⟨sb, 0, none⟩)] V fun e w' => e = .returned (.int .i64 (pl : Int)) ∧ Mods Nil w2 w') := Lib.hid (fun V hV => (HLENC.out V (M2.out.trans hV)).mono (fun e w' h => ⟨h.1, hV.trans h.2⟩))
      have HBQ := Lib.hid (gq_of (W := w2) (fun V => sbegins_any V HB64.out (pl := pl) (e := e) (by have := HPL.out; have := HLP.out; have := HPN.out; have := HL.out; have := HFIT.out; omega) he32))
      cases hbg : beginsP b pl e with
      | false =>
        rw [hbg] at HBQ
        refine gq_region (by kernel_rfl) (by kernel_rfl) ?_
        try simp only [Act.put, List.setIfInBounds_toArray, List.set_cons_zero, List.set_cons_succ, goInt]
        repeat (first
          | go_big_quiet_skip
          | (go_big_quiet_want; first
              | (refine gq_load_row 94 _ rfl _ _ rfl (bts b) _ R2.out Try.underlying94 rfl HINF.out ?_; go_big_quiet_on)
              | (refine gq_call HLQ.out ?_ ?_; (focus (intro V; go_simp; done)); go_big_quiet_on)
              | (refine gq_call HBQ.out ?_ ?_; (focus (intro V; go_simp; done)); go_big_quiet_on)
              | (refine gq_op (v := ?_) ?_ ?_; rotate_left; (focus (intro V hV; go_simp; try with_reducible rfl)); go_big_quiet_on))
            simp only [Act.put, List.setIfInBounds_toArray, List.set_cons_zero, List.set_cons_succ])
        refine wpQuiet_nil ?_
        intro V hV
        have MV := Lib.hid (M2.out.trans hV)
        clear hV
        go_wp2_with (first
          | (go_at_call 30; refine (HLENC.out _ MV.out).mono ?_; rintro r w9 ⟨rfl, m9⟩; have M9 := Lib.hid (Mods.trans MV.out m9); obtain ⟨f97, ⟨u97, c97⟩, q97⟩ := HFIN.out _ M9.out; have Q97 := Lib.hid q97; clear m9 q97))
        rw [Exit.noGoto_normal]
        exact bodyPost_end (results_none rfl _ _ _) rfl ⟨rfl, Q97.out (HEND.out (take_no2 (by rw [HB.out]; exact hbg)))⟩
      | true =>
        rw [hbg] at HBQ
        have HBG := Lib.hid hbg
        clear hbg
        refine gq_region (by kernel_rfl) (by kernel_rfl) ?_
        try simp only [Act.put, List.setIfInBounds_toArray, List.set_cons_zero, List.set_cons_succ, goInt]
        repeat (first
          | go_big_quiet_skip
          | (go_big_quiet_want; first
              | (refine gq_load_row 94 _ rfl _ _ rfl (bts b) _ R2.out Try.underlying94 rfl HINF.out ?_; go_big_quiet_on)
              | (refine gq_call HLQ.out ?_ ?_; (focus (intro V; go_simp; done)); go_big_quiet_on)
              | (refine gq_call HBQ.out ?_ ?_; (focus (intro V; go_simp; done)); go_big_quiet_on)
              | (refine gq_op (v := ?_) ?_ ?_; rotate_left; (focus (intro V hV; go_simp; try with_reducible rfl)); go_big_quiet_on))
            simp only [Act.put, List.setIfInBounds_toArray, List.set_cons_zero, List.set_cons_succ])
        refine wpQuiet_nil ?_
        intro V hV
        have MV := Lib.hid (M2.out.trans hV)
        have BV := Lib.hid (B2.out.mods hV (fun h => h))
        clear hV
        obtain ⟨m, hm⟩ : ∃ m, byteP b 9 = m := ⟨_, rfl⟩
        have HMM := Lib.hid hm
        have HMP : Hid (1 ≤ m ∧ m ≤ 92 ∧ numP b 4 = pl + 1) := by
          have := HBG.out
          unfold beginsP at this
          simp only [decide_eq_true_eq] at this
          rw [hm] at this
          exact Lib.hid ⟨this.2.2.1, this.2.2.2, this.1⟩
        have HMANY := Lib.hid (fun V => smany_any V HB64.out)
        rw [hm] at HMANY
        obtain ⟨x0, hx0⟩ : ∃ x, numP b 0 = x := ⟨_, rfl⟩
        have HX0 := Lib.hid hx0
        have HNUM := Lib.hid (fun V => snumber0 V HB64.out)
        rw [hx0] at HNUM
        clear hm hx0
        go_wp2_with (first
          | (refine gw_load_mid (by rfl) 94 _ rfl _ 0 rfl (bts b) _ (blk_range BV.out) Try.underlying94 rfl HINF.out ?_)
          | (go_at_call 64; refine (HMANY.out _).mono ?_; rintro r wb ⟨rfl, m9⟩; have MB := Lib.hid (MV.out.trans m9); have BB := Lib.hid (BV.out.mods m9 (fun h => h)); clear m9))
        have hm92 : (m : Int) ≤ 92 := by have := HMP.out; omega
        go_loopw [7, 32] (fun rv x wq => ∃ (i k : Nat) (v : Value), i ≤ m ∧ x = .int .i64 (i : Int) ∧ rv = v ∧ (joinP l p i).length = k ∧ wq.ownsRow wb.heap.size 5 1 v k (bts (joinP l p i)) ∧ (∀ t, t < i → p + t < l.length ∧ rightQ (l.getD (p + t) []) = true ∧ contP (l.getD (p + t) []) b t = true) ∧ Mods Nil wb wq) (fun _ x _ => m - (intOf x).toNat)
        case atStart => exact ⟨0, 0, .slice none 0 0, Nat.zero_le _, rfl, rfl, rfl, World.ownsRow_nil _ _ _ _, (fun t ht => by omega), Mods.refl _ _⟩
        case round =>
          obtain ⟨i, k, v, hi, rfl, hv, hk, hown, hfits, hmo⟩ := hrel
          have hv2 := hv.symm
          clear hv
          subst hv2
          have HK2 := Lib.hid hk
          have HO := Lib.hid hown
          have HFT := Lib.hid hfits
          have HMO := Lib.hid hmo
          have MW := Lib.hid (MB.out.trans hmo)
          have BW := Lib.hid (BB.out.mods hmo (fun h => h))
          have c3w := c3F.out wr MW.out
          clear hk hown hfits hmo
          by_cases hlt : i < m
          · have hltI : (i : Int) < (m : Int) := by omega
            obtain ⟨t, ht⟩ : ∃ t, p + i = t := ⟨_, rfl⟩
            have htI : (p : Int) + (i : Int) = (t : Int) := by omega
            have hwt : IntKind.i64.wrap (t : Int) = (t : Int) := by rw [IntKind.wrap_i64]; have := HPN.out; have := HL.out; have := HFIT.out; have := HMP.out; omega
            have hw1 : IntKind.i64.wrap ((i : Int) + 1) = (i : Int) + 1 := by rw [IntKind.wrap_i64]; have := HMP.out; omega
            have HNO3 : Hid (¬ (t < l.length ∧ rightQ (l.getD t []) = true ∧ contP (l.getD t []) b i = true) → takeP l p pl e = none) := Lib.hid (fun h => take_no3 (i := i) (by rw [HB.out, HMM.out]; exact hlt) (by rw [HB.out]; exact HBG.out) (by rw [ht, HB.out]; exact h))
            have HT := Lib.hid ht
            by_cases hA2 : t < l.length ∧ rightQ (l.getD t []) = true
            · obtain ⟨htlt, hrq2⟩ := hA2
              have hlook2 := LOOK.out wr (FV.out _ MW.out) t htlt hrq2
              have hc64 := H64.out t htlt
              obtain ⟨c, hc⟩ : ∃ c, l.getD t [] = c := ⟨_, rfl⟩
              rw [hc] at hlook2 hc64 hrq2 HNO3
              have HCC := Lib.hid hc
              have HRQ2 := Lib.hid hrq2
              have HTLT := Lib.hid htlt
              have HC64 := Lib.hid hc64
              have HINC := Lib.hid (infoSB3 hc64)
              have hdl := dataP_length hrq2
              obtain ⟨z, hz⟩ : ∃ z, byteP c 10 = z := ⟨_, rfl⟩
              have hz45 : z ≤ 45 := by
                unfold rightQ at hrq2
                simp only [Bool.and_eq_true, decide_eq_true_eq] at hrq2
                omega
              have HDATA := Lib.hid (fun V => sdata_any V hc64 hz hz45)
              have HZ45 := Lib.hid hz45
              clear hc hc64 hrq2 htlt ht hdl hz hz45
              have HCQ := Lib.hid (fun V => scont_any V HC64.out HB64.out (part := i) (by have := HMP.out; omega))
              cases hcn : contP c b i with
              | false =>
                rw [hcn] at HCQ
                go_wp2_with (first
                  | (refine gw_alloc_sb rfl rfl ?_; intro w3a b9 m9 s9; have B3a := Lib.hid b9; have M3a := Lib.hid (Mods.trans (Mods.refl Nil _) m9); clear b9 m9 s9)
                  | (refine wpList_store_mk rfl 94 (.tmp 9) (.tmp 44) rfl rfl _ rfl 94 (bts zeros64).toArray (bts c).toArray rfl B3a.out (by simp [zeros64, HC64.out]) (bts_all _) (infoSB4 (by exact HC64.out)) rfl ?_; intro w3 b9 m9; have B3 := Lib.hid b9; have M3 := Lib.hid (M3a.out.nil_trans m9 (fun i hi => by subst hi; exact Nat.le_refl _)); have B4 := Lib.hid (BW.out.mods M3.out (fun h => h)); clear b9 m9)
                  | (refine gw_load_mid (by rfl) 94 _ rfl _ 0 rfl (bts c) _ (blk_range B3.out) Try.underlying94 rfl HINC.out ?_)
                  | (refine gw_load_mid (by rfl) 94 _ rfl _ 0 rfl (bts b) _ (blk_range B4.out) Try.underlying94 rfl HINF.out ?_)
                  | (go_at_call 65; refine (HCQ.out _).mono ?_; rintro r w8 ⟨rfl, m9⟩; have MC3 := Lib.hid m9; have MV2 := Lib.hid ((MW.out.trans M3.out).trans m9); have BC := Lib.hid (B3.out.mods m9 (fun h => h)); have MV3 := Lib.hid (M3.out.trans m9); have OWN := Lib.hid (own_mods HO.out MV3.out (fun _ _ h => h)); clear m9)
                  | (go_at_call 30; refine (HLENC.out _ MV2.out).mono ?_; rintro r w9 ⟨rfl, m9⟩; have M9 := Lib.hid (Mods.trans MV2.out m9); obtain ⟨f97, ⟨u97, c97⟩, q97⟩ := HFIN.out _ M9.out; have Q97 := Lib.hid q97; clear m9 q97))
                rw [Exit.noGoto_normal]
                exact bodyPost_end (results_none rfl _ _ _) rfl ⟨rfl, Q97.out (HEND.out (HNO3.out (by rw [hcn]; simp)))⟩
              | true =>
                rw [hcn] at HCQ
                have HCN := Lib.hid hcn
                clear hcn
                have HKB : Hid (k ≤ 45 * i) := by
                  rw [← HK2.out]
                  exact Lib.hid (joinP_length (fun q hq => dataP_length (HFT.out q hq).2.1))
                go_wp2_with (first
                  | (refine gw_load_mid (by rfl) 94 _ rfl _ 0 rfl (bts c) _ (blk_range BC.out) Try.underlying94 rfl HINC.out ?_)
                  | (refine gw_alloc_sb rfl rfl ?_; intro w3a b9 m9 s9; have B3a := Lib.hid b9; have M3a := Lib.hid (Mods.trans (Mods.refl Nil _) m9); clear b9 m9 s9)
                  | (refine wpList_store_mk rfl 94 (.tmp 9) (.tmp 44) rfl rfl _ rfl 94 (bts zeros64).toArray (bts c).toArray rfl B3a.out (by simp [zeros64, HC64.out]) (bts_all _) (infoSB4 (by exact HC64.out)) rfl ?_; intro w3 b9 m9; have B3 := Lib.hid b9; have M3 := Lib.hid (M3a.out.nil_trans m9 (fun i hi => by subst hi; exact Nat.le_refl _)); have B4 := Lib.hid (BW.out.mods M3.out (fun h => h)); clear b9 m9)
                  | (refine gw_load_mid (by rfl) 94 _ rfl _ 0 rfl (bts c) _ (blk_range B3.out) Try.underlying94 rfl HINC.out ?_)
                  | (refine gw_load_mid (by rfl) 94 _ rfl _ 0 rfl (bts b) _ (blk_range B4.out) Try.underlying94 rfl HINF.out ?_)
                  | (go_at_call 65; refine (HCQ.out _).mono ?_; rintro r w8 ⟨rfl, m9⟩; have MC3 := Lib.hid m9; have MV2 := Lib.hid ((MW.out.trans M3.out).trans m9); have BC := Lib.hid (B3.out.mods m9 (fun h => h)); have MV3 := Lib.hid (M3.out.trans m9); have OWN := Lib.hid (own_mods HO.out MV3.out (fun _ _ h => h)); clear m9)
                  | (go_at_call 66; refine (HDATA.out _).mono ?_; rintro r w6 ⟨A6, c6, rfl, l6, s6, m6⟩; have HDL := Lib.hid l6; have SD := Lib.hid s6; have O6 := Lib.hid (own_mods OWN.out m6 (fun _ _ h => h)); have M6 := Lib.hid ((HMO.out.trans MV3.out).trans m6); have N6 := Lib.hid (MV3.out.trans m6); clear l6 s6 m6)
                  | (at_builtin; refine wpList_append_sl _ rfl _ _ 42 rfl wb.heap.size 5 ib (.int .u8 0) 1 Try.underlying42 hib hbz0 hbz1 hbz2 rfl v k (bts (joinP l p i)) rfl O6.out A6 z c6 (bts (dataP c)) rfl (by rw [bts_length]; exact HDL.out) SD.out (bts_one _) (by have := HKB.out; have := HZ45.out; have := HMP.out; omega) (by have := HKB.out; have := HZ45.out; have := HMP.out; unfold maxLen; omega) M6.out.size ?_; intro v2 w7 hown hgrow hblk; have O7 := Lib.hid hown; have M7 := Lib.hid (show Mods Nil wb w7 from M6.out.nil_trans (T := fun k => v.ownBlock = some k) ((Mods.refl _ _).grown hgrow (fun k hk _ => hk)) (fun i hi' => (O6.out.lt i hi').1)); clear hown hgrow hblk))
                have HJ : Hid (joinP l p (i + 1) = joinP l p i ++ dataP c) := by
                  have := joinP_succ l p i
                  rw [HT.out, HCC.out] at this
                  exact Lib.hid this
                refine ⟨⟨i + 1, k + z, v2, by omega, by go_num, rfl, by rw [HJ.out, List.length_append, HK2.out, HDL.out], by rw [HJ.out, bts_append]; exact O7.out, fun q hq => ?_, M7.out⟩, by simp [intOf]; omega⟩
                by_cases hqi : q = i
                · subst hqi
                  rw [HT.out, HCC.out]
                  exact ⟨HTLT.out, HRQ2.out, HCN.out⟩
                · exact HFT.out q (by omega)
            · have hmiss2 := MISS.out wr (FV.out _ MW.out) t (by have := HPN.out; have := HL.out; have := HFIT.out; have := HMP.out; omega) hA2
              clear ht
              go_wp2_with (first
                | (refine gw_alloc_sb rfl rfl ?_; intro w3a b9 m9 s9; have B3a := Lib.hid b9; have M3a := Lib.hid (Mods.trans (Mods.refl Nil _) m9); clear b9 m9 s9)
                | (refine wpList_store_mk rfl 94 (.tmp 9) (.tmp 44) rfl rfl _ rfl 94 (bts zeros64).toArray (bts zeros64).toArray rfl B3a.out (by simp [zeros64]) (bts_all _) (infoSB4 (by rfl)) rfl ?_; intro w3 b9 m9; have B3 := Lib.hid b9; have M3 := Lib.hid (M3a.out.nil_trans m9 (fun i hi => by subst hi; exact Nat.le_refl _)); have MV2 := Lib.hid (MW.out.trans M3.out); clear b9 m9)
                | (go_at_call 30; refine (HLENC.out _ MV2.out).mono ?_; rintro r w9 ⟨rfl, m9⟩; have M9 := Lib.hid (Mods.trans MV2.out m9); obtain ⟨f97, ⟨u97, c97⟩, q97⟩ := HFIN.out _ M9.out; have Q97 := Lib.hid q97; clear m9 q97))
              rw [Exit.noGoto_normal]
              exact bodyPost_end (results_none rfl _ _ _) rfl ⟨rfl, Q97.out (HEND.out (HNO3.out (fun h => hA2 ⟨h.1, h.2.1⟩)))⟩
          · obtain rfl : i = m := by omega
            obtain ⟨Ar, cr, rfl, hkl, hrb⟩ := rb_of_own HO.out
            have HRB := Lib.hid hrb
            have HJL : Hid ((joinP l p i).length ≤ 4140) := by
              have := joinP_length (l := l) (p := p) (i := i) (fun q hq => dataP_length (HFT.out q hq).2.1)
              have := HMP.out
              exact Lib.hid (by omega)
            have HPM : Hid (p + i ≤ s.n) := by
              have := (HFT.out (i - 1) (by have := HMP.out; omega)).1
              have := HMP.out
              have := HL.out
              exact Lib.hid (by omega)
            have HYES : Hid (takeP l p pl e = some (joinP l p i, i, x0)) := by
              have := take_yes (pl := pl) (e := e) HPLT.out (by rw [HB.out]; exact HRQ.out) (by rw [HB.out]; exact HBG.out) (by rw [HB.out, HMM.out]; exact HFT.out)
              rw [HB.out, HMM.out, HX0.out] at this
              exact Lib.hid this
            clear hkl hrb
            go_wp2_with (first
              | (refine gw_load_mid (by rfl) 94 _ rfl _ 0 rfl (bts b) _ (blk_range B12.out) Try.underlying94 rfl HINF.out ?_)
              | (refine gw_load_mid (by rfl) 94 _ rfl _ 0 rfl (bts b) _ (blk_range BW.out) Try.underlying94 rfl HINF.out ?_)
              | (go_at_call 61; refine (HNUM.out _).mono ?_; rintro r w11 ⟨rfl, m9⟩; have M11 := Lib.hid m9; have B12 := Lib.hid (BW.out.mods m9 (fun h => h)); clear m9)
              | (go_at_call 64; refine (HMANY.out _).mono ?_; rintro r w12 ⟨rfl, m9⟩; have M12 := Lib.hid (M11.out.trans m9); have M12W := Lib.hid (MW.out.trans (M11.out.trans m9)); clear m9)
              | (go_at_call 43; refine (skeep_fine (SJ.out.nil M12W.out) (DJ.out.nil M12W.out) (HRB.out.off M12.out (fun _ _ h => h.elim)) HJL.out HK2.out HMP.out.1 HPM.out).mono ?_; rintro r w13 ⟨rfl, s9, d9, m9⟩; have S13 := Lib.hid s9; have D13 := Lib.hid d9; have M13 := Lib.hid ((FV.out _ M12W.out).trans m9); clear s9 d9 m9))
            refine ⟨⟨L ++ [joinP l p i], p + i, x0, f1 - 1, by go_num, ?_, S13.out, D13.out, M13.out, ?_, ?_⟩, ?_⟩
            · rw [← HX0.out]; exact numP_lt _ _
            · have := HF1.out; have := HLP.out; have := HPN.out; simp; omega
            · have hf : f1 = (f1 - 1) + 1 := by have := HF1.out; have := HLP.out; have := HPN.out; omega
              have hw := HWALK.out
              rw [HPL.out, hf, walk_step HYES.out] at hw
              rw [hw]
              simp [HPL.out]
            · have h1 := S13.out.usedAt
              have h2 : ((s.got L p).add (joinP l p i) i).used = p + i := rfl
              rw [h1, h2, HUA.out]
              have := HPM.out
              have := HMP.out
              omega
    · have hmiss := MISS.out wr MJ.out p (by have := HPN.out; have := HL.out; have := HFIT.out; omega) hA
      go_wp2_with (first
        | (refine gw_alloc_sb rfl rfl ?_; intro w2a b9 m9 s9; have B2a := Lib.hid b9; have M2a := Lib.hid (Mods.trans (Mods.refl Nil _) m9); clear b9 m9 s9)
        | (refine wpList_store_mk rfl 94 (.tmp 5) (.tmp 18) rfl rfl _ rfl 94 (bts zeros64).toArray (bts zeros64).toArray rfl B2a.out (by simp [zeros64]) (bts_all _) (infoSB4 (by rfl)) rfl ?_; intro w2 b9 m9; have B2 := Lib.hid b9; have M2 := Lib.hid (M2a.out.nil_trans m9 (fun i hi => by subst hi; exact Nat.le_refl _)); clear b9 m9))
      refine gq_region (by kernel_rfl) (by kernel_rfl) ?_
      try simp only [Act.put, List.setIfInBounds_toArray, List.set_cons_zero, List.set_cons_succ, goInt]
      repeat (first
        | go_big_quiet_skip
        | (go_big_quiet_want; first
            | (refine gq_op (v := ?_) ?_ ?_; rotate_left; (focus (intro V hV; go_simp; try with_reducible rfl)); go_big_quiet_on))
          simp only [Act.put, List.setIfInBounds_toArray, List.set_cons_zero, List.set_cons_succ])
      refine wpQuiet_nil ?_
      intro V hV
      have MV := Lib.hid (M2.out.trans hV)
      clear hV
      go_wp2_with (first
        | (go_at_call 30; refine (HLENC.out _ MV.out).mono ?_; rintro r w9 ⟨rfl, m9⟩; have M9 := Lib.hid (Mods.trans MV.out m9); obtain ⟨f97, ⟨u97, c97⟩, q97⟩ := HFIN.out _ M9.out; have Q97 := Lib.hid q97; clear m9 q97))
      rw [Exit.noGoto_normal]
      exact bodyPost_end (results_none rfl _ _ _) rfl ⟨rfl, Q97.out (HEND.out (take_no1 hA))⟩
end Go.Proofs.Ytgebcpfgihcoiaa
