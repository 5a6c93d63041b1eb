/- Package segment: Read, Trim. -/
import Derived.Test.YtgebcpfgihcoiaaSgm10
namespace Go.Proofs.Ytgebcpfgihcoiaa
set_option maxRecDepth 100000
open Go.RowKit
set_option linter.unusedVariables false
section
variable {w : World} {base db sb mb : Nat} {d : PD} {s : PSeg}
theorem sread_nil (w : World) (k : Int) : Calls Try.prog 32 #[.pointer none, .int .i64 k] w fun e w' => e = .returned (.tuple #[.slice none 0 0, .int .i64 1]) ∧ w = w' := by
  go_enter Try.func32, Try.ntmps32
  go_wp2_with fail
  go_ret2
  exact ⟨rfl, rfl⟩
def ReadTold (s : PSeg) (k : Int) (w : World) (e : Ending) (w' : World) : Prop := ∃ A c m, e = .returned (.tuple #[.slice A m c, .int .i64 (s.read k).2]) ∧ (s.read k).1.length = m ∧ Sl w' A c (bts (s.read k).1) ∧ Mods Nil w w'
set_option maxHeartbeats 3200000 in
theorem sread_in (h : SegIn w base sb db mb s) (k : Int) : Calls Try.prog 32 #[.pointer (some ⟨sb, 0, none⟩), .int .i64 k] w (ReadTold s k w) := by
  unfold ReadTold
  have hfit := h.ok.fit
  have hused := h.ok.used
  have hlen := h.ok.len
  by_cases h0 : k < 0
  · have e : s.read k = ([], 15) := by unfold PSeg.read; rw [if_pos (.inl h0)]
    rw [e]
    clear e h
    go_enter Try.func32, Try.ntmps32
    go_wp2_with fail
    go_ret2
    exact ⟨none, 0, 0, rfl, rfl, Sl.none_ _, Mods.refl _ _⟩
  have h0I : (0 : Int) ≤ k := by omega
  have HLEN := Lib.hid (slen_in h)
  obtain ⟨n, hn⟩ : ∃ n, s.L.length = n := ⟨_, rfl⟩
  rw [hn] at HLEN
  by_cases h1 : (n : Int) ≤ k
  · have e : s.read k = ([], 15) := by unfold PSeg.read; rw [if_pos (.inr (by omega))]
    rw [e]
    clear e h hfit hused hlen hn h0
    go_enter Try.func32, Try.ntmps32
    go_wp2_with (go_at_call 30; refine HLEN.out.mono ?_; rintro e w1 ⟨rfl, m1⟩; have M1 := Lib.hid m1; clear m1)
    go_ret2
    exact ⟨none, 0, 0, rfl, rfl, Sl.none_ _, M1.out⟩
  have h1I : k < (n : Int) := by omega
  have HS := Lib.hid h
  by_cases h2 : k < (s.gone : Int)
  · have e : s.read k = ([], 35) := by unfold PSeg.read; rw [if_neg (by omega), if_pos h2]
    rw [e]
    clear e h hfit hused hlen hn h0
    go_enter Try.func32, Try.ntmps32
    go_wp2_with (go_at_call 30; refine HLEN.out.mono ?_; rintro e w1 ⟨rfl, m1⟩; have M1 := Lib.hid m1; have c6 := (HS.out.nil m1).cells.2.2.2.2.2.2.1; clear m1)
    go_ret2
    exact ⟨none, 0, 0, rfl, rfl, Sl.none_ _, M1.out⟩
  have h2I : (s.gone : Int) ≤ k := by omega
  obtain ⟨j, rfl⟩ : ∃ j : Nat, k = (j : Int) := ⟨k.toNat, by omega⟩
  have e : s.read (j : Int) = (s.L.getD j [], 0) := by unfold PSeg.read; rw [if_neg (by omega), if_neg (by omega)]; simp
  obtain ⟨b, hb⟩ : ∃ b, s.L.getD j [] = b := ⟨_, rfl⟩
  rw [e, hb]
  have HLOOK : Hid (∀ V, Mods Nil w V → ∃ A c, (∀ V', Mods Nil w V' → (Instr.lookup 84 (.map (some mb)) (.int .i64 (j : Int)) false).run Try.prog V' = .ok (.slice A b.length c) V') ∧ Rb V A c b) := Lib.hid (fun V hV => by
    obtain ⟨f, hi, hr⟩ := h.map
    obtain ⟨A, c, hf, rb, hl4⟩ := hr.some j (by omega) (by omega)
    rw [hb] at hf rb
    refine ⟨A, c, fun V' hV' => (IMap.look (t := 84) (e := 42) Try.underlying3 Try.underlying84 (hi.mods hV' (fun h => h)) (in64_of (by omega) (by omega)) hf (z := .slice none 0 0) (by rfl)).2, rb.off hV (fun _ _ h => h.elim)⟩)
  have HBL : Hid (b.length ≤ 4140) := Lib.hid (by
    obtain ⟨f, hi, hr⟩ := h.map
    have := (hr.some j (by omega) (by omega))
    obtain ⟨_, _, _, _, hl⟩ := this
    rwa [hb] at hl)
  clear e h hfit hused hlen hn h0 hb h1 h2
  obtain ⟨q, hq⟩ : ∃ q, b.length = q := ⟨_, rfl⟩
  rw [hq] at HLOOK
  have HQ := Lib.hid hq
  clear hq
  go_enter Try.func32, Try.ntmps32
  go_wp2_with (first
    | (go_at_call 30; refine HLEN.out.mono ?_; rintro e w1 ⟨rfl, m1⟩; have M1 := Lib.hid m1; have c6 := (HS.out.nil m1).cells.2.2.2.2.2.2.1; have c5 := (HS.out.nil m1).cells.2.2.2.2.2.1; obtain ⟨A, c, hlk, rb⟩ := HLOOK.out w1 m1; have l1 := hlk w1 m1; have RB := Lib.hid rb; clear m1 rb hlk)
    | (go_at_call 44; refine (clone_rb HQ.out (by have := HBL.out; have := HQ.out; omega) RB.out.1).mono ?_; rintro e w3 ⟨A3, c3, rfl, rb3, m3⟩; have RB3 := Lib.hid rb3; have M3 := Lib.hid (M1.out.trans m3); clear rb3 m3))
  go_ret2
  exact ⟨A3, c3, q, rfl, HQ.out, RB3.out.1, M3.out⟩
end
end Go.Proofs.Ytgebcpfgihcoiaa
