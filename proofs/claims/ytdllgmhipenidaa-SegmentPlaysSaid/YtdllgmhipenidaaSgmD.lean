/- Texts laid as one: Sgm11, Sgm12. -/
import Derived.Test.YtdllgmhipenidaaSgmC
import Derived.Deep.RegionHeldLaw

section
/- Package segment: Read, Trim. -/
namespace Go.Proofs.Ytdllgmhipenidaa
set_option maxRecDepth 100000
open Go.RowKit
set_option linter.unusedVariables false
section
variable {w : World} {base db sb mb : Nat} {d : PD} {s : PSeg}
theorem sread_nil (w : World) (k : Int) : Calls Try.prog 58 #[.pointer none, .int .i64 k] w fun e w' => e = .returned (.tuple #[.slice none 0 0, .int .i64 1]) ∧ w = w' := by
  go_enter Try.func58, Try.ntmps58
  go_wp2_with fail
  go_ret2
  exact ⟨rfl, rfl⟩
def ReadTold (s : PSeg) (k : Int) (w : World) (e : Ending) (w' : World) : Prop := ∃ A c m, e = .returned (.tuple #[.slice A m c, .int .i64 (s.read k).2]) ∧ (s.read k).1.length = m ∧ Sl w' A c (bts (s.read k).1) ∧ Mods Nil w w'
set_option maxHeartbeats 3200000 in
theorem sread_in (h : SegIn w base sb db mb s) (k : Int) : Calls Try.prog 58 #[.pointer (some ⟨sb, 0, none⟩), .int .i64 k] w (ReadTold s k w) := by
  unfold ReadTold
  have hfit := h.ok.fit
  have hused := h.ok.used
  have hlen := h.ok.len
  by_cases h0 : k < 0
  · have e : s.read k = ([], 15) := by unfold PSeg.read; rw [if_pos (.inl h0)]
    rw [e]
    clear e h
    go_enter Try.func58, Try.ntmps58
    go_wp2_with fail
    go_ret2
    exact ⟨none, 0, 0, rfl, rfl, Sl.none_ _, Mods.refl _ _⟩
  have h0I : (0 : Int) ≤ k := by omega
  have HLEN := Lib.hid (slen_in h)
  obtain ⟨n, hn⟩ : ∃ n, s.L.length = n := ⟨_, rfl⟩
  rw [hn] at HLEN
  by_cases h1 : (n : Int) ≤ k
  · have e : s.read k = ([], 15) := by unfold PSeg.read; rw [if_pos (.inr (by omega))]
    rw [e]
    clear e h hfit hused hlen hn h0
    go_enter Try.func58, Try.ntmps58
    go_wp2_with (go_at_call 59; refine HLEN.out.mono ?_; rintro e w1 ⟨rfl, m1⟩; have M1 := Lib.hid m1; clear m1)
    go_ret2
    exact ⟨none, 0, 0, rfl, rfl, Sl.none_ _, M1.out⟩
  have h1I : k < (n : Int) := by omega
  have HS := Lib.hid h
  by_cases h2 : k < (s.gone : Int)
  · have e : s.read k = ([], 35) := by unfold PSeg.read; rw [if_neg (by omega), if_pos h2]
    rw [e]
    clear e h hfit hused hlen hn h0
    go_enter Try.func58, Try.ntmps58
    go_wp2_with (go_at_call 59; refine HLEN.out.mono ?_; rintro e w1 ⟨rfl, m1⟩; have M1 := Lib.hid m1; have c6 := (HS.out.nil m1).cells.2.2.2.2.2.2.1; clear m1)
    go_ret2
    exact ⟨none, 0, 0, rfl, rfl, Sl.none_ _, M1.out⟩
  have h2I : (s.gone : Int) ≤ k := by omega
  obtain ⟨j, rfl⟩ : ∃ j : Nat, k = (j : Int) := ⟨k.toNat, by omega⟩
  have e : s.read (j : Int) = (s.L.getD j [], 0) := by unfold PSeg.read; rw [if_neg (by omega), if_neg (by omega)]; simp
  obtain ⟨b, hb⟩ : ∃ b, s.L.getD j [] = b := ⟨_, rfl⟩
  rw [e, hb]
  have HLOOK : Hid (∀ V, Mods Nil w V → ∃ A c, (∀ V', Mods Nil w V' → (Instr.lookup 114 (.map (some mb)) (.int .i64 (j : Int)) false).run Try.prog V' = .ok (.slice A b.length c) V') ∧ Rb V A c b) := Lib.hid (fun V hV => by
    obtain ⟨f, hi, hr⟩ := h.map
    obtain ⟨A, c, hf, rb, hl4⟩ := hr.some j (by omega) (by omega)
    rw [hb] at hf rb
    refine ⟨A, c, fun V' hV' => (IMap.look (t := 114) (e := 42) Try.underlying3 Try.underlying114 (hi.mods hV' (fun h => h)) (in64_of (by omega) (by omega)) hf (z := .slice none 0 0) (by rfl)).2, rb.off hV (fun _ _ h => h.elim)⟩)
  have HBL : Hid (b.length ≤ 4140) := Lib.hid (by
    obtain ⟨f, hi, hr⟩ := h.map
    have := (hr.some j (by omega) (by omega))
    obtain ⟨_, _, _, _, hl⟩ := this
    rwa [hb] at hl)
  clear e h hfit hused hlen hn h0 hb h1 h2
  obtain ⟨q, hq⟩ : ∃ q, b.length = q := ⟨_, rfl⟩
  rw [hq] at HLOOK
  have HQ := Lib.hid hq
  clear hq
  go_enter Try.func58, Try.ntmps58
  go_wp2_with (first
    | (go_at_call 59; refine HLEN.out.mono ?_; rintro e w1 ⟨rfl, m1⟩; have M1 := Lib.hid m1; have c6 := (HS.out.nil m1).cells.2.2.2.2.2.2.1; have c5 := (HS.out.nil m1).cells.2.2.2.2.2.1; obtain ⟨A, c, hlk, rb⟩ := HLOOK.out w1 m1; have l1 := hlk w1 m1; have RB := Lib.hid rb; clear m1 rb hlk)
    | (go_at_call 72; refine (clone_rb HQ.out (by have := HBL.out; have := HQ.out; omega) RB.out.1).mono ?_; rintro e w3 ⟨A3, c3, rfl, rb3, m3⟩; have RB3 := Lib.hid rb3; have M3 := Lib.hid (M1.out.trans m3); clear rb3 m3))
  go_ret2
  exact ⟨A3, c3, q, rfl, HQ.out, RB3.out.1, M3.out⟩
end
end Go.Proofs.Ytdllgmhipenidaa
end

section
/- Package segment: Trim. -/
namespace Go.Proofs.Ytdllgmhipenidaa
set_option maxRecDepth 100000
open Go.RowKit
set_option linter.unusedVariables false
theorem wp_delete_im {P : Program} {o : Oper} {a : Act} {w : World} {K : Act → World → Prop} {Q : Exit → Act → World → Prop} (m x : Operand) (t k : TypeId) (hop : o.op = Op.call { callee := Callee.builtin Builtin.delete, args := #[m, x], argTypes := #[t, k] }) (e : TypeId) (hk : P.underlying k = some (.int .i64)) (ht : P.underlying t = some (.map k e))
    (b n : Nat) (f : Int → Option Value) (i : Int) (u : Value) (hm : a.eval m = .map (some b)) (hx : a.eval x = .int .i64 i) (h : IMap P k w b n f) (hi : in64 i) (hf : f i = some u)
    (hK : ∀ w', IMap P k w' b (n - 1) (upd f i none) → Mods (fun j => j = b) w w' → K (a.put o.dst (.tuple #[])) w') : o.wp P a w K Q := by
  obtain ⟨w', hrun, r1, r2⟩ := h.del hk ht hi hf o.type
  unfold Oper.wp
  simp [execOp, hop, resolve, invoke, builtin, hm, hx, hrun, Result.andThen]
  exact hK w' r1 r2
def goneAt (sb : Nat) (w : World) : Nat := match w.cell? ⟨sb, 6, none⟩ with | some (.int .i64 z) => z.toNat | _ => 0
section
variable {w : World} {base db sb mb : Nat} {d : PD} {s : PSeg}
theorem SegIn.goneAt (h : SegIn w base sb db mb s) : Go.Proofs.Ytdllgmhipenidaa.goneAt sb w = s.gone := by
  unfold Go.Proofs.Ytdllgmhipenidaa.goneAt
  rw [h.cells.2.2.2.2.2.2.1]
  simp
def PSeg.at_ (s : PSeg) (g : Nat) : PSeg := { s with gone := g }
theorem SegIn.drop1 {w2 : World} {f : Int → Option Value} (h : SegIn w base sb db mb s) (hd : DiskAt w base db d) (hg : s.gone < s.sure) (hi : IMap Try.prog 3 w2 mb (s.L.length - s.gone - 1) (upd f (s.gone : Int) none)) (hr : RecF w s.gone s.L f) (h2 : Mods (fun j => j = mb) w w2) :
    SegIn (w2.setCell ⟨sb, 6, none⟩ (.int .i64 ((s.gone + 1 : Nat) : Int))) base sb db mb (s.at_ (s.gone + 1)) ∧ DiskAt (w2.setCell ⟨sb, 6, none⟩ (.int .i64 ((s.gone + 1 : Nat) : Int))) base db d ∧ SM base w (w2.setCell ⟨sb, 6, none⟩ (.int .i64 ((s.gone + 1 : Nat) : Int))) := by
  have hm2 : Mods (fun k => k = sb ∨ k = mb) w (w2.setCell ⟨sb, 6, none⟩ (.int .i64 ((s.gone + 1 : Nat) : Int))) :=
    Mods.setCell (S := fun k => k = sb ∨ k = mb) (p := ⟨sb, 6, none⟩) (h2.mono (fun _ _ e => .inr e)) (fun _ => .inl rfl) _
  have hms : Mods (fun k => k = sb) w2 (w2.setCell ⟨sb, 6, none⟩ (.int .i64 ((s.gone + 1 : Nat) : Int))) := Mods.setCell (S := fun k => k = sb) (p := ⟨sb, 6, none⟩) (Mods.refl _ _) (fun _ => rfl) _
  refine ⟨⟨?_, ⟨upd f (s.gone : Int) none, ?_, ?_⟩, h.leS, h.leM, ⟨h.ok.fit, h.ok.used, h.ok.len, h.ok.sure, hg, h.ok.epoch, h.ok.err⟩⟩, hd.off hm2 h.noDS, hm2.mono (fun k _ e => by rcases e with rfl | rfl; exact h.ss; exact h.sm)⟩
  · have := (h.blk.mods h2 (fun e => h.ne e.symm)).set_ 6 (.int .i64 ((s.gone + 1 : Nat) : Int))
    simpa [segC, PSeg.at_] using this
  · have := hi.mods hms h.ne
    rwa [Nat.sub_sub] at this
  · have hr2 := hr.off hm2 h.noU8
    refine ⟨fun x hx => ?_, fun k h1 hk => ?_⟩
    · have hx' : x < ((s.gone + 1 : Nat) : Int) ∨ (s.L.length : Int) ≤ x := hx
      unfold upd
      split
      · rfl
      · exact hr2.none x (by omega)
    · have h1' : s.gone + 1 ≤ k := h1
      unfold upd
      rw [if_neg (by omega)]
      exact hr2.some k (by omega) hk
set_option maxHeartbeats 3200000 in
theorem strim_in (h : SegIn w base sb db mb s) (hd : DiskAt w base db d) (k : Int) :
    Calls Try.prog 22 #[.pointer (some ⟨sb, 0, none⟩), .int .i64 k] w fun e w' => e = .returned (.int .i64 ((s.trim k).gone : Int)) ∧ SegIn w' base sb db mb (s.trim k) ∧ DiskAt w' base db d ∧ SM base w w' := by
  obtain ⟨t, ht⟩ : ∃ t, max s.gone (min k (s.sure : Int)).toNat = t := ⟨_, rfl⟩
  have htr : s.trim k = s.at_ t := by unfold PSeg.trim PSeg.at_; rw [ht]
  rw [htr]
  have hgs := h.ok.gone
  have hsl := h.ok.sure
  have hlu := h.ok.len
  have hun := h.ok.used
  have hfit := h.ok.fit
  obtain ⟨mn, hmn⟩ : ∃ mn : Int, min k (s.sure : Int) = mn := ⟨_, rfl⟩
  rw [hmn] at ht
  have hmin : ∀ (ts : Array TypeId) (ty : TypeId) (W : World), (Builtin.min_ ts ty #[.int .i64 k, .int .i64 (s.sure : Int)]).run Try.prog W = .ok (.int .i64 mn) W := fun ts ty W => by
    rw [run_min_int2]
    congr 2
    split <;> omega
  have hts : t ≤ s.sure := by omega
  have hgt : s.gone ≤ t := by omega
  have HT := Lib.hid (show ∀ g : Nat, s.gone ≤ g → g < t → (g : Int) < mn from fun g h1 h2 => by omega)
  have HT2 := Lib.hid (show mn ≤ (t : Int) from by omega)
  have HB := Lib.hid (show s.L.length ≤ 65536 from by omega)
  have HSL := Lib.hid hsl
  have HS := Lib.hid h
  have HD := Lib.hid hd
  have HTS := Lib.hid hts
  have HSG := Lib.hid (show s.gone ≤ t from hgt)
  clear h hd ht htr hgs hsl hlu hun hfit hmn hts hgt
  go_enter Try.func22, Try.ntmps22
  go_wp2_with fail
  go_loopw [] (fun wr => ∃ (g : Nat), s.gone ≤ g ∧ g ≤ t ∧ SegIn wr base sb db mb (s.at_ g) ∧ DiskAt wr base db d ∧ SM base w wr) (fun wr => t - goneAt sb wr)
  case atStart => exact ⟨s.gone, Nat.le_refl _, HSG.out, HS.out, HD.out, SM.refl _ _⟩
  case round =>
    obtain ⟨g, hg1, hg2, hs0, hd0, hm0⟩ := hrel
    have S0 := Lib.hid hs0
    have D0 := Lib.hid hd0
    have M0 := Lib.hid hm0
    have HG1 := Lib.hid hg1
    have c6 : wr.cell? ⟨sb, 6, none⟩ = some (.int .i64 (g : Int)) := hs0.cells.2.2.2.2.2.2.1
    have c7 : wr.cell? ⟨sb, 7, none⟩ = some (.int .i64 (s.sure : Int)) := hs0.cells.2.2.2.2.2.2.2.1
    have c5 : wr.cell? ⟨sb, 5, none⟩ = some (.map (some mb)) := hs0.cells.2.2.2.2.2.1
    have f6 := hs0.blk.frozen 6
    have HGA := Lib.hid hs0.goneAt
    obtain ⟨fG, hIG, hRG⟩ := hs0.map
    have IG := Lib.hid hIG
    have RG := Lib.hid hRG
    have HNE := Lib.hid hs0.ne
    have hlt0 := hs0.blk.lt
    clear hs0 hd0 hm0 hg1 hIG hRG
    by_cases hlt : g < t
    · have hI : (g : Int) < mn := HT.out g HG1.out hlt
      have hw1 : IntKind.i64.wrap ((g : Int) + 1) = ((g + 1 : Nat) : Int) := by rw [IntKind.wrap_i64]; have := HB.out; have := HTS.out; have := HSL.out; omega
      obtain ⟨g1, hg1e⟩ : ∃ g1, g + 1 = g1 := ⟨_, rfl⟩
      rw [hg1e] at hw1
      have HDR : Hid (∀ V w3, SegIn V base sb db mb (s.at_ g) → DiskAt V base db d → IMap Try.prog 3 w3 mb (s.L.length - g - 1) (upd fG (g : Int) none) → RecF V g s.L fG → Mods (fun j => j = mb) V w3 →
          SegIn (w3.setCell ⟨sb, 6, none⟩ (.int .i64 (g1 : Int))) base sb db mb (s.at_ g1) ∧ DiskAt (w3.setCell ⟨sb, 6, none⟩ (.int .i64 (g1 : Int))) base db d ∧ SM base V (w3.setCell ⟨sb, 6, none⟩ (.int .i64 (g1 : Int)))) := by
        rw [← hg1e]
        exact Lib.hid (fun V w3 h hd hi hr hm => h.drop1 hd (show g < s.sure by have := HTS.out; omega) hi hr hm)
      obtain ⟨Ag, cg, hfg, -⟩ := RG.out.some g (Nat.le_refl _) (show g < s.L.length by have := HTS.out; have := HSL.out; omega)
      have HFG := Lib.hid hfg
      have h64 := Lib.hid (in64_of (x := (g : Int)) (by omega) (by have := HTS.out; have := HSL.out; have := HB.out; omega))
      have HLI := Lib.hid hg1e
      clear hfg hg1e
      go_wp2_with fail
      go_quiet (fail)
      go_wp2_with fail
      have MD := Lib.hid ((Mods.refl Nil wr).drewN (nq + 1))
      obtain ⟨w3, r3, i3, m3⟩ := (IG.out.mods MD.out (fun h => h)).del (t := 114) Try.underlying3 Try.underlying114 h64.out HFG.out 0
      have N3 := Lib.hid (Mods.trans2 (S := fun j => j = mb) (T := fun j => j = mb) (MD.out.mono (fun _ _ h => h.elim)) m3 (fun _ _ h => h))
      have K3 : w3.cell? ⟨sb, 5, none⟩ = some (.map (some mb)) ∧ w3.cell? ⟨sb, 6, none⟩ = some (.int .i64 (g : Int)) := ⟨(World.cell?_of_block (N3.out.block sb hlt0 (fun e => HNE.out e.symm))).trans c5, (World.cell?_of_block (N3.out.block sb hlt0 (fun e => HNE.out e.symm))).trans c6⟩
      have f63 : w3.frozen? ⟨sb, 6, none⟩ = false := (S0.out.blk.mods N3.out (fun e => HNE.out e.symm)).frozen 6
      have Q3 := Lib.hid (HDR.out _ w3 (S0.out.nil MD.out) (D0.out.nil MD.out) i3 (RG.out.off MD.out (fun _ _ h => h.elim)) m3)
      clear i3 m3
      go_region_held (fun V => V.cell? ⟨sb, 5, none⟩ = some (.map (some mb)) ∧ V.cell? ⟨sb, 6, none⟩ = some (.int .i64 (g : Int))) (first | assumption | exact ⟨c5, c6⟩) (fail)
      all_goals
        go_wp2_with fail
        refine ⟨⟨g1, by have := HG1.out; have := HLI.out; omega, by have := HLI.out; omega, Q3.out.1, Q3.out.2.1, (M0.out.trans (SM.nil MD.out)).trans Q3.out.2.2⟩, ?_⟩
        rw [Q3.out.1.goneAt, HGA.out]
        show t - g1 < t - g
        have := HLI.out
        omega
    · obtain rfl : g = t := by omega
      have hI : mn ≤ (g : Int) := HT2.out
      go_wp2_with fail
      go_quiet (fail)
      go_wp2_with fail
      go_ret
      exact ⟨rfl, S0.out.nil ((Mods.refl Nil _).drewN _), D0.out.nil ((Mods.refl Nil _).drewN _), M0.out.trans (SM.nil ((Mods.refl Nil _).drewN _))⟩
end
end Go.Proofs.Ytdllgmhipenidaa
end
