/- Package disk: front, latest, Read. -/
import Derived.Test.YtgebcpfgihcoiaaDisk2
namespace Go.Proofs.Ytgebcpfgihcoiaa
set_option maxRecDepth 100000
open Go.RowKit
set_option linter.unusedVariables false

theorem infoBlock2 : (Try.prog.info? 103).map (·.size) = some 64 := by kernel_rfl
theorem infoByte2 : (Try.prog.info? 5).map (·.size) = some 1 := by kernel_rfl
theorem infoWrite2 : (Try.prog.info? 105).map (·.size) = some 65 := by kernel_rfl
/-- How much of the k-th write that waited a crash leaves. -/
def frontN (pick : List UInt8) (k : Nat) : Nat := (pick.getD k 0).toNat % 65
theorem dfront_any {w : World} {A : Option Addr} {c m : Nat} {pick : List UInt8} (hs : Sl w A c (bts pick)) (hm : pick.length = m) (k : Nat) :
    Calls Try.prog 55 #[.slice A m c, .int .i64 (k : Int)] w fun e w' => e = .returned (.int .i64 (frontN pick k : Int)) ∧ w = w' := by
  by_cases hk : m ≤ k
  · have hkI : (m : Int) ≤ (k : Int) := by omega
    have h2 : decide ((k : Int) ≥ (m : Int)) = true := by simpa using hk
    have e : frontN pick k = 0 := by unfold frontN; simp [List.getD_eq_getElem?_getD, List.getElem?_eq_none (show pick.length ≤ k by omega)]
    rw [e]
    clear hs hm e
    go_enter Try.func55, Try.ntmps55
    go_wp2
    go_ret
    exact ⟨rfl, rfl⟩
  · have hlt : k < m := by omega
    have hkI : (k : Int) < (m : Int) := by omega
    have h2 : decide ((m : Int) ≤ (k : Int)) = false := by simpa using hlt
    obtain ⟨b, off, rfl, -, hc⟩ := hs.at_ (by simp; omega)
    have c1 := hc k _ (bts_get pick k (by omega))
    have e : frontN pick k = (pick[k]'(by omega)).toNat % 65 := by unfold frontN; simp [hm, hlt]
    have hx := (pick[k]'(by omega)).toNat_lt
    generalize (pick[k]'(by omega)).toNat = x at *
    rw [e]
    have hw : IntKind.i64.wrap (x : Int) = (x : Int) := by rw [IntKind.wrap_i64]; omega
    have ht : Int.tmod (x : Int) 65 = ((x % 65 : Nat) : Int) := by rw [Int.tmod_eq_emod_of_nonneg (by omega)]; omega
    have hw2 : IntKind.i64.wrap ((x % 65 : Nat) : Int) = ((x % 65 : Nat) : Int) := by rw [IntKind.wrap_i64]; omega
    clear hs hm e hc hk hx
    go_enter Try.func55, Try.ntmps55
    go_wp2
    go_ret
    exact ⟨rfl, rfl⟩

theorem lastW_append (i : Nat) : ∀ (A B : List (Nat × List UInt8)), lastW i (A ++ B) = (lastW i B).or (lastW i A)
  | [], B => by simp [lastW]
  | x :: A, B => by
    simp only [List.cons_append, lastW, lastW_append i A B]
    cases lastW i B <;> simp
theorem lastW_found {i k : Nat} {W : List (Nat × List UInt8)} (hk : k < W.length) (h1 : lastW i (W.drop (k + 1)) = none) (h2 : W[k].1 = i) : lastW i W = some W[k].2 := by
  have e := lastW_append i (W.take (k + 1)) (W.drop (k + 1))
  rw [List.take_append_drop] at e
  rw [e, h1, Option.none_or, List.take_succ_eq_append_getElem hk, lastW_snoc, if_pos (by simpa using h2)]
theorem lastW_less {i k : Nat} {W : List (Nat × List UInt8)} (hk : k < W.length) (h1 : lastW i (W.drop (k + 1)) = none) (h2 : W[k].1 ≠ i) : lastW i (W.drop k) = none := by
  rw [List.drop_eq_getElem_cons hk]
  simp [lastW, h1, h2]
theorem lastW_found2 {i k : Nat} {W : List (Nat × List UInt8)} {b : List UInt8} (hk : W[k]? = some (i, b)) (h1 : lastW i (W.drop (k + 1)) = none) : lastW i W = some b := by
  obtain ⟨hlt, he⟩ := List.getElem?_eq_some_iff.1 hk
  rw [lastW_found hlt h1 (by rw [he]), he]
theorem lastW_less2 {i q k : Nat} {W : List (Nat × List UInt8)} {b : List UInt8} (hk : W[k]? = some (q, b)) (h1 : lastW i (W.drop (k + 1)) = none) (h2 : q ≠ i) : lastW i (W.drop k) = none := by
  obtain ⟨hlt, he⟩ := List.getElem?_eq_some_iff.1 hk
  exact lastW_less hlt h1 (by rw [he]; exact h2)
/-- A block as it will be. -/
def PD.lat (d : PD) (i : Nat) : List UInt8 := (lastW i d.W).getD (d.L.getD i [])
theorem PD.Ok.lat {d : PD} (h : d.Ok) {i : Nat} (hi : i < d.L.length) : (d.lat i).length = 64 := by
  unfold PD.lat
  cases hW : lastW i d.W with
  | some b => exact (h.waits _ (lastW_mem hW)).2
  | none =>
    simp only [Option.getD_none, List.getD_eq_getElem?_getD, List.getElem?_eq_getElem hi, Option.getD_some]
    exact h.sure _ (List.getElem_mem _)
/-- Two rows of the disk, where they lie. -/
theorem DiskIn.rowS {w : World} {base db : Nat} {vS vW : Value} {z : Int} {d : PD} (h : DiskIn w base db vS vW z d) {i : Nat} (hi : i < d.L.length) :
    ∃ g cap, vS = .slice (some ⟨g, 0, none⟩) d.L.length cap ∧ w.rangeAt g (i * 64) (bts d.L[i]) ∧ w.there g (i * 64) 64 ∧ g ≠ db ∧ g < w.heap.size := by
  obtain ⟨g, cap, cur, rfl, hb, hgl, hB, h1, h2, h3, h4, h5, h6⟩ := own_place h.sure (by omega)
  refine ⟨g, cap, rfl, own_rangeAt h.sure (fun j u hu => ?_), own_there h.sure (by rw [← Nat.succ_mul]; exact Nat.mul_le_mul_right _ hi), hB.ne_ h.blk (by decide), hgl⟩
  have hj : j < 64 := by have := (List.getElem?_eq_some_iff.1 hu).1; rw [bts_length, h.ok.sure _ (List.getElem_mem _)] at this; exact this
  unfold sureC
  rw [flat_at (f := bts) (s := 64) h.ok.sureL i hi j hj]
  exact hu
theorem DiskIn.rowW {w : World} {base db : Nat} {vS vW : Value} {z : Int} {d : PD} (h : DiskIn w base db vS vW z d) {k : Nat} (hk : k < d.W.length) :
    ∃ g cap, vW = .slice (some ⟨g, 0, none⟩) d.W.length cap ∧ w.rangeAt g (k * 65) (wC d.W[k]) ∧ g ≠ db ∧ g < w.heap.size := by
  obtain ⟨g, cap, cur, rfl, hb, hgl, hB, h1, h2, h3, h4, h5, h6⟩ := own_place h.waits (by omega)
  refine ⟨g, cap, rfl, own_rangeAt h.waits (fun j u hu => ?_), hB.ne_ h.blk (by decide), hgl⟩
  have hj : j < 65 := by have := (List.getElem?_eq_some_iff.1 hu).1; rw [wC_length (h.ok.waits _ (List.getElem_mem _)).2] at this; exact this
  unfold waitsC
  rw [flat_at (f := wC) (s := 65) h.ok.waitsL k hk j hj]
  exact hu
theorem wC_parts {w : World} {g o : Nat} {x : Nat × List UInt8} (h : w.rangeAt g o (wC x)) : w.cell? ⟨g, o, none⟩ = some (.int .i64 (x.1 : Int)) ∧ w.rangeAt g (o + 1) (bts x.2) := by
  refine ⟨by simpa [wC] using h 0 _ rfl, fun j u hu => ?_⟩
  have := h (j + 1) u (by simpa [wC] using hu)
  rwa [show o + (j + 1) = o + 1 + j by omega] at this
theorem rangeAt_mods {S : Nat → Prop} {w w' : World} {g o : Nat} {cs : List Value} (h : w.rangeAt g o cs) (hm : Mods S w w') (hS : ¬ S g) : w'.rangeAt g o cs := fun j u hu => by
  have := h j u hu
  rw [World.cell?_of_block (hm.block g (World.block_lt_of_cell? w _ this) hS)]
  exact this

def zB : Array Value := Array.replicate 64 (.int .u8 0)
theorem zB_cells : (zB).size = 64 := by simp [zB]
set_option maxHeartbeats 1600000 in
theorem dlatest_any {w : World} {base db : Nat} {d : PD} (h : DiskAt w base db d) {i : Nat} (hi : i < d.L.length) :
    Calls Try.prog 72 #[.pointer (some ⟨db, 0, none⟩), .int .i64 (i : Int)] w fun e w' => e = .returned (.agg (bts (d.lat i)).toArray) ∧ Mods Nil w w' := by
  obtain ⟨vS, vW, z, h⟩ := h
  have c := h.blk.four.1
  obtain ⟨A, cp, hvW, hcp, hcm⟩ := own_form h.waits
  obtain ⟨n, hn⟩ : ∃ n, d.W.length = n := ⟨_, rfl⟩
  obtain ⟨m, hm⟩ : ∃ m, d.L.length = m := ⟨_, rfl⟩
  obtain ⟨gS, capS, hvS, rS, -, -, hgS⟩ := h.rowS hi
  obtain ⟨bS, hbS, hbl⟩ : ∃ bS, d.L[i] = bS ∧ bS.length = 64 := ⟨_, rfl, h.ok.sure _ (List.getElem_mem _)⟩
  rw [hbS] at rS
  have HBS := Lib.hid (show d.L.getD i [] = bS by rw [← hbS]; simp [hi])
  have hnm : n ≤ maxLen := by omega
  have hn63 : (n : Int) ≤ 9223372036854775807 := by unfold maxLen at hnm; omega
  have hdb := h.blk.lt
  have H := Lib.hid h
  have HN := Lib.hid hn
  have RS := Lib.hid rS
  have HI := Lib.hid hi
  obtain ⟨c0, c1, -, -⟩ := c
  rw [hvS] at c0
  rw [hvW] at c1
  rw [hn] at c1
  rw [hm] at c0
  have HVW := Lib.hid hvW
  have HVS := Lib.hid hvS
  have him : i < m := by omega
  have himI : (i : Int) < (m : Int) := by omega
  clear h hn rS hvS hvW hnm hcp hbS
  clear hi
  go_enter Try.func72, Try.ntmps72
  go_wp2_with fail
  go_loopw [5] (fun x wr => ∃ (j : Nat), j ≤ n ∧ x = .int .i64 ((j : Int) - 1) ∧ lastW i (d.W.drop j) = none ∧ Blk wr w.heap.size 103 zB ∧ Mods Nil w wr) (fun x _ => (intOf x + 1).toNat)
  case atStart => exact ⟨n, Nat.le_refl _, rfl, by rw [List.drop_eq_nil_of_le (by rw [HN.out]; omega)]; rfl, Blk.new w 103 zB, (Mods.refl _ _).alloc _⟩
  case round =>
    obtain ⟨j, hj, hx, hl, hb, hmo⟩ := hrel
    have HL := Lib.hid hl
    have HB := Lib.hid hb
    have HM := Lib.hid hmo
    have D := H.out.nil hmo
    have hc := D.blk.four.1
    obtain ⟨k0, k1, -, -⟩ := hc
    rw [HVS.out, hm] at k0
    rw [HVW.out, HN.out] at k1
    clear hl hb hmo D
    rcases Nat.eq_zero_or_pos j with rfl | hj0
    · subst hx
      have RW := Lib.hid (rangeAt_mods RS.out HM.out (fun h => h))
      have HBI : (Try.prog.info? 103).map (·.size) = some (bts bS).length := by rw [bts_length, hbl]; exact infoBlock2
      have HBJ : (Try.prog.info? 103).map (·.size) = some (bts bS).toArray.size := by simpa using HBI
      have HB2 := Lib.hid (HB.out.setRow (bts bS).toArray)
      have HM2 := Lib.hid ((HM.out).setRow (g := w.heap.size) (fun h => absurd h (Nat.lt_irrefl _)) (bts bS).toArray)
      have HLAT : Hid (d.lat i = bS) := by
        unfold PD.lat
        have := HL.out
        rw [List.drop_zero] at this
        rw [this, Option.getD_none]
        exact HBS.out
      go_wp2_with (first
        | (refine wpList_load_mid rfl 103 (.tmp 39) rfl gS (i * 64) rfl (bts bS) _ RW.out Try.underlying103 rfl HBI ?_)
        | (refine wpList_store_row rfl 103 (.tmp 4) (.tmp 40) rfl rfl w.heap.size rfl 103 zB (bts bS).toArray rfl HB.out (by simp [hbl, zB]) (all_oneCell_toArray (bts_one _)) HBJ (by simp [Value.cells]) ?_))
      refine bodyPost_ret (results_cell_row rfl _ _ w.heap.size 103 (bts bS).toArray (0, 0) _ rfl HB2.out Try.underlying103 rfl HBJ) rfl ?_
      exact ⟨by rw [HLAT.out], HM2.out⟩
    · obtain ⟨p, rfl⟩ : ∃ p, j = p + 1 := ⟨j - 1, by omega⟩
      have hx2 : _ = Value.int .i64 (p : Int) := hx.trans (by congr 1; omega)
      subst hx2
      have hpW : p < d.W.length := by rw [HN.out]; omega
      obtain ⟨gW, capW, hvW, rW, -, -⟩ := H.out.rowW hpW
      rw [HVW.out] at hvW
      injection hvW with hA1 hA2 hA3
      subst hA1; subst hA3
      obtain ⟨⟨q, b⟩, hqb⟩ : ∃ x, d.W[p] = x := ⟨_, rfl⟩
      rw [hqb] at rW
      have hbl2 : b.length = 64 := by have := (H.out.ok.waits _ (List.getElem_mem hpW)).2; rw [hqb] at this; exact this
      obtain ⟨e0, eR⟩ := wC_parts (rangeAt_mods rW HM.out (fun h => h))
      dsimp only at e0 eR
      have RW := Lib.hid eR
      have HQB := Lib.hid (show d.W[p]? = some (q, b) by rw [List.getElem?_eq_getElem hpW, hqb])
      have hpn : (p : Int) < (n : Int) := by omega
      have hp0 : (0 : Int) ≤ (p : Int) := by omega
      have hp1 : p < n := by omega
      have HXX := Lib.hid hx
      clear rW eR hqb hA2 hx hj0
      clear hpW
      by_cases hqi : q = i
      · subst hqi
        have HBI : (Try.prog.info? 103).map (·.size) = some (bts b).length := by rw [bts_length, hbl2]; exact infoBlock2
        have HBJ : (Try.prog.info? 103).map (·.size) = some (bts b).toArray.size := by simpa using HBI
        have HB2 := Lib.hid (HB.out.setRow (bts b).toArray)
        have HM2 := Lib.hid ((HM.out).setRow (g := w.heap.size) (fun h => absurd h (Nat.lt_irrefl _)) (bts b).toArray)
        have HLAT := Lib.hid (show d.lat q = b from by
          unfold PD.lat
          rw [lastW_found2 HQB.out HL.out, Option.getD_some])
        go_wp2_with (first
          | (refine wpList_load_mid rfl 103 (.tmp 32) rfl gW (p * 65 + 1) rfl (bts b) _ RW.out Try.underlying103 rfl HBI ?_)
          | (refine wpList_store_row rfl 103 (.tmp 4) (.tmp 33) rfl rfl w.heap.size rfl 103 zB (bts b).toArray rfl HB.out (by simp [hbl2, zB]) (all_oneCell_toArray (bts_one _)) HBJ (by simp [Value.cells]) ?_))
        refine bodyPost_ret (results_cell_row rfl _ _ w.heap.size 103 (bts b).toArray (0, 0) _ rfl HB2.out Try.underlying103 rfl HBJ) rfl ?_
        exact ⟨by rw [HLAT.out], HM2.out⟩
      · have hqi' : decide ((q : Int) = (i : Int)) = false := by simpa using (show ¬ ((q : Int) = (i : Int)) by omega)
        have hqi2 : decide (q = i) = false := by simpa using hqi
        have HL2 := Lib.hid (lastW_less2 (i := i) HQB.out HL.out hqi)
        go_wp2_with fail
        exact ⟨⟨p, by omega, rfl, HL2.out, HB.out, HM.out⟩, by simp [intOf]⟩

theorem dread_none (w : World) (i : Int) : Calls Try.prog 59 #[.pointer none, .int .i64 i] w fun e w' => e = .returned (.tuple #[.slice none 0 0, .int .i64 1]) ∧ w = w' := by
  go_enter Try.func59, Try.ntmps59
  go_wp2_with (go_at_call 51; refine (dreach_none w i).mono ?_; rintro e w1 ⟨rfl, rfl⟩)
  go_ret2
  exact ⟨rfl, rfl⟩
theorem dread_any {w : World} {base db : Nat} {d : PD} (h : DiskAt w base db d) (i : Int) :
    Calls Try.prog 59 #[.pointer (some ⟨db, 0, none⟩), .int .i64 i] w fun e w' => ∃ A c m, e = .returned (.tuple #[.slice A m c, .int .i64 (d.read i).2]) ∧ (d.read i).1.length = m ∧ Sl w' A c (bts (d.read i).1) ∧ Mods Nil w w' := by
  have HR := Lib.hid (dreach_any h i)
  by_cases ha : d.at_ i = 0
  · obtain ⟨-, h0, h1⟩ := PD.at_zero ha
    obtain ⟨k, rfl⟩ : ∃ k : Nat, i = (k : Int) := ⟨i.toNat, by omega⟩
    have hk : k < d.L.length := by omega
    have e : d.read (k : Int) = (d.lat k, 0) := by unfold PD.read PD.lat; rw [if_neg (by simp [ha])]; rfl
    obtain ⟨vS, vW, z, hI⟩ := id h
    have HL := Lib.hid (dlatest_any h hk)
    have hb := hI.ok.lat hk
    rw [e]
    rw [ha] at HR
    obtain ⟨b, hbb⟩ : ∃ b, d.lat k = b := ⟨_, rfl⟩
    rw [hbb] at HL hb
    simp only [hbb]
    have HBJ : (Try.prog.info? 103).map (·.size) = some (bts b).toArray.size := by simpa [hb] using infoBlock2
    clear h hI e ha h0 h1 hk hbb
    go_enter Try.func59, Try.ntmps59
    go_wp2_with (first
      | (go_at_call 51; refine HR.out.mono ?_; rintro e w1 ⟨rfl, rfl⟩)
      | (go_at_call 72; refine HL.out.mono ?_; rintro e w2 ⟨rfl, m2⟩; have M2 := Lib.hid m2; clear m2)
      | (refine wpList_store_row rfl 103 (.tmp 7) (.tmp 16) rfl rfl w2.heap.size rfl 103 zB (bts b).toArray rfl (Blk.new w2 103 zB) (by simp [hb, zB]) (all_oneCell_toArray (bts_one _)) HBJ (by simp [Value.cells]) ?_))
    go_ret2
    refine ⟨_, _, _, rfl, hb, ?_, ?_⟩
    · refine ⟨by simp [hb], by simp [maxLen], (fun h => by cases h), .inr ⟨w2.heap.size, 0, rfl, fun j u hu => ?_⟩⟩
      have hB := (Blk.new w2 103 zB).setRow (bts b).toArray
      have := hB.cell (0 + j)
      refine this.trans ?_
      simpa using hu
    · exact (M2.out.alloc _).setRow (fun hlt => absurd hlt (by have := M2.out.size; omega)) _
  · have e : d.read i = ([], d.at_ i) := by unfold PD.read; rw [if_pos ha]
    rw [e]
    have ha' : decide (d.at_ i = 0) = false := by simpa using ha
    generalize d.at_ i = x at *
    clear h e
    go_enter Try.func59, Try.ntmps59
    go_wp2_with (go_at_call 51; refine HR.out.mono ?_; rintro e w1 ⟨rfl, rfl⟩)
    go_ret2
    exact ⟨none, 0, 0, rfl, rfl, Sl.none_ _, Mods.refl _ _⟩
end Go.Proofs.Ytgebcpfgihcoiaa
