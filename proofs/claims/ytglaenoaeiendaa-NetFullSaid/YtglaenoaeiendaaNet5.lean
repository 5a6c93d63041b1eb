/- Package net: Twice. -/
import Derived.Test.YtglaenoaeiendaaNet4
namespace Go.Proofs.Ytglaenoaeiendaa
set_option maxRecDepth 100000
open Go.RowKit
set_option linter.unusedVariables false

theorem ntwice_any {w : World} {base nb nodes i : Nat} {v : Value} {l : List Pk} (h : NetAt w base nb nodes v l) (hl : l.length < 4096) (hi : i < l.length) (hlim : l[i].xs.length ≤ 140737488355328) :
    Calls Try.prog 12 #[.pointer (some ⟨nb, 0, none⟩), .int .i64 (i : Int)] w (Added w base nb nodes v l l[i]) := by
  obtain ⟨m, hm⟩ : ∃ m, l[i].xs.length = m := ⟨_, rfl⟩
  have hadd := nadd_any h hl hm (by omega) (h.oks l[i] (List.getElem_mem hi)).1
  obtain ⟨A, cap, rfl, hlc, hcm, hpl⟩ := h.place
  obtain ⟨g, rfl, hgl, hgn, hcell, hfz⟩ := hpl (by omega)
  obtain ⟨p0, p1, p2⟩ := pks_at l i hi
  have e0 := hcell _ _ p0
  have e1 := hcell _ _ p1
  have e2 := hcell _ _ p2
  rw [hm] at e2
  generalize l[i] = q at hadd e0 e1 e2 ⊢
  obtain ⟨n, hn⟩ : ∃ n, l.length = n := ⟨_, rfl⟩
  have c1 := h.cells.2.1
  rw [hn] at c1 hadd ⊢
  have hin : i < n := by omega
  have hiI : (i : Int) < (n : Int) := by omega
  have HADD := Lib.hid hadd
  clear h hadd hcell hfz hl hi hlc hcm hpl hn hlim hm p0 p1 p2
  go_enter Try.func12, Try.ntmps12
  go_wp2_with (first
    | (go_at_call 17; refine (nhas_yes c1 hin).mono ?_; rintro e w1 ⟨rfl, rfl⟩)
    | (go_at_call 16; refine (HADD.out).mono ?_; rintro e w2 ⟨rfl, k⟩; have K := Lib.hid k; clear k))
  go_ret
  exact ⟨rfl, K.out⟩
theorem ntwice_none {w : World} {base nb nodes i : Nat} {v : Value} {l : List Pk} (h : NetAt w base nb nodes v l) (hi : l.length ≤ i) :
    Calls Try.prog 12 #[.pointer (some ⟨nb, 0, none⟩), .int .i64 (i : Int)] w fun e w' => e = .returned (.int .i64 15) ∧ w = w' := by
  obtain ⟨A, cap, rfl, hlc, hcm, hpl⟩ := h.place
  have c1 := h.cells.2.1
  clear h hlc hcm hpl
  go_enter Try.func12, Try.ntmps12
  go_wp2_with (go_at_call 17; refine (nhas_no c1 hi).mono ?_; rintro e w1 ⟨rfl, rfl⟩)
  go_ret
  exact ⟨rfl, rfl⟩
theorem ntwice_full {w : World} {base nb nodes i : Nat} {v : Value} {l : List Pk} (h : NetAt w base nb nodes v l) (hl : l.length = 4096) (hi : i < l.length) :
    Calls Try.prog 12 #[.pointer (some ⟨nb, 0, none⟩), .int .i64 (i : Int)] w fun e w' => e = .returned (.int .i64 13) ∧ Mods Nil w w' := by
  have hadd := nadd_full h hl l[i].f l[i].t l[i].A l[i].xs.length l[i].c
  obtain ⟨A, cap, rfl, hlc, hcm, hpl⟩ := h.place
  obtain ⟨g, rfl, hgl, hgn, hcell, hfz⟩ := hpl (by omega)
  obtain ⟨p0, p1, p2⟩ := pks_at l i hi
  have e0 := hcell _ _ p0
  have e1 := hcell _ _ p1
  have e2 := hcell _ _ p2
  generalize l[i] = q at hadd e0 e1 e2
  have c1 := h.cells.2.1
  rw [hl] at c1 hi
  have hiI : (i : Int) < 4096 := by omega
  have HADD := Lib.hid hadd
  clear h hadd hcell hfz hl hlc hcm hpl p0 p1 p2
  go_enter Try.func12, Try.ntmps12
  go_wp2_with (first
    | (go_at_call 17; refine (nhas_yes c1 hi).mono ?_; rintro e w1 ⟨rfl, rfl⟩)
    | (go_at_call 16; refine (HADD.out).mono ?_; rintro e w2 ⟨rfl, k⟩; have K := Lib.hid k; clear k))
  go_ret
  exact ⟨rfl, K.out⟩
end Go.Proofs.Ytglaenoaeiendaa
