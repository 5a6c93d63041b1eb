/- LeaderHoles: what is known and proposed behind votes that are alike slot by slot. No program. -/
import Derived.Test.YtfnecjogiafekaaLawM15
namespace Go.Proofs.Ytfnecjogiafekaa
set_option maxRecDepth 100000
open Go.RowKit
set_option linter.unusedVariables false
set_option linter.unusedSimpArgs false

theorem endV_le_iff {first e : Nat} : ∀ {l : List PVt}, endV first l ≤ e ↔ first ≤ e ∧ ∀ v ∈ l, first ≤ v.slot → v.slot + 1 ≤ e
  | [] => by simp [endV]
  | v :: l => by
    simp only [endV, List.mem_cons, forall_eq_or_imp]
    have ih := endV_le_iff (first := first) (e := e) (l := l)
    constructor
    · intro h
      have h1 : endV first l ≤ e := by omega
      obtain ⟨a, b⟩ := ih.1 h1
      refine ⟨a, fun hv => ?_, b⟩
      rw [if_pos hv] at h
      omega
    · rintro ⟨a, b, c⟩
      have h1 := ih.2 ⟨a, c⟩
      split
      · rename_i hv
        have := b hv
        omega
      · omega
/-- The end is told by the slots alone. -/
theorem endV_congr {first : Nat} {l m : List PVt} (h : ∀ s, (∃ v ∈ l, v.slot = s) ↔ ∃ v ∈ m, v.slot = s) : endV first l = endV first m := by
  have hle : ∀ {l m : List PVt}, (∀ s, (∃ v ∈ l, v.slot = s) → ∃ v ∈ m, v.slot = s) → endV first l ≤ endV first m := fun {l m} h => by
    obtain ⟨a, b⟩ := (endV_le_iff (first := first) (e := endV first m) (l := m)).1 (Nat.le_refl _)
    refine endV_le_iff.2 ⟨a, fun v hv hf => ?_⟩
    obtain ⟨u, hu, e⟩ := h v.slot ⟨v, hv, rfl⟩
    rw [← e]
    exact b u hu (by omega)
  exact Nat.le_antisymm (hle fun s => (h s).1) (hle fun s => (h s).2)
theorem look_some_iff {l : List PVt} {s : Nat} : (lookV l s).isSome = true ↔ ∃ v ∈ l, v.slot = s := by
  constructor
  · intro h
    obtain ⟨v, hv⟩ := Option.isSome_iff_exists.1 h
    exact ⟨v, (lookV_some hv).1, (lookV_some hv).2⟩
  · rintro ⟨v, hv, e⟩
    cases hl : lookV l s with
    | some u => rfl
    | none => exact absurd e (lookV_none.1 hl v hv)
theorem noteV_some (known : List PVt) (v : PVt) (s : Nat) : (lookV (noteV known v) s).isSome = ((lookV known s).isSome || decide (v.slot = s)) := by
  rw [look_note]
  by_cases hs : s = v.slot
  · subst hs
    rw [if_pos rfl]
    cases lookV known v.slot with
    | none => simp
    | some k => simp only; split <;> simp
  · rw [if_neg hs]
    have : ¬ v.slot = s := fun e => hs e.symm
    simp [this]
theorem noteVs_some (s : Nat) : ∀ (vs known : List PVt), (lookV (noteVs known vs) s).isSome = ((lookV known s).isSome || vs.any (fun v => decide (v.slot = s)))
  | [], known => by simp [noteVs_nil]
  | v :: vs, known => by
    show (lookV (noteVs (noteV known v) vs) s).isSome = _
    rw [noteVs_some s vs, noteV_some, List.any_cons, Bool.or_assoc]
theorem noteVs_slots (vs : List PVt) (s : Nat) : (∃ v ∈ noteVs [] vs, v.slot = s) ↔ ∃ v ∈ vs, v.slot = s := by
  rw [← look_some_iff, noteVs_some]
  simp [lookV]
theorem endV_note (first : Nat) (vs : List PVt) : endV first (noteVs [] vs) = endV first vs := endV_congr (noteVs_slots vs)

/-- The vote for a slot. -/
def hvt (k : Nat) : PVt := ⟨k, 2, [UInt8.ofNat k, 1]⟩
def hvs (xs : List UInt8) : List PVt := xs.map fun x => hvt (x.toNat % 32)
theorem hvs_snoc (xs : List UInt8) (x : UInt8) : hvs (xs ++ [x]) = hvs xs ++ [hvt (x.toNat % 32)] := by simp [hvs]
theorem hvs_mem {xs : List UInt8} {v : PVt} (h : v ∈ hvs xs) : v = hvt v.slot ∧ v.slot < 32 := by
  obtain ⟨x, _, rfl⟩ := List.mem_map.1 h
  exact ⟨rfl, Nat.mod_lt _ (by omega)⟩
/-- Is a slot among them? -/
def hasS (xs : List UInt8) (k : Nat) : Bool := (hvs xs).any (fun v => decide (v.slot = k))
theorem hasS_nil (k : Nat) : hasS [] k = false := rfl
theorem hasS_snoc (xs : List UInt8) (x : UInt8) (k : Nat) : hasS (xs ++ [x]) k = if k = x.toNat % 32 then true else hasS xs k := by
  unfold hasS
  rw [hvs_snoc, List.any_append]
  by_cases h : k = x.toNat % 32
  · subst h; simp [hvt]
  · have : ¬ x.toNat % 32 = k := fun e => h e.symm
    simp [h, hvt, this]
theorem known_hvt (xs : List UInt8) (s : Nat) : lookV (noteVs [] (hvs xs)) s = if hasS xs s then some (hvt s) else none := by
  have h1 := noteVs_some s (hvs xs) []
  rw [show lookV ([] : List PVt) s = none from rfl] at h1
  simp only [Option.isSome_none, Bool.false_or] at h1
  cases hl : lookV (noteVs [] (hvs xs)) s with
  | none =>
    rw [hl] at h1
    unfold hasS
    rw [← h1]
    rfl
  | some v =>
    rw [hl] at h1
    unfold hasS
    rw [← h1]
    obtain ⟨g1, g2⟩ := lookV_some hl
    rcases noteVs_mem g1 with g1 | g1
    · rw [(hvs_mem g1).1, g2]; rfl
    · cases g1
theorem hv_endle {first : Nat} (hf : first ≤ 15) (xs : List UInt8) : endV first (hvs xs) ≤ 32 := endV_le_iff.2 ⟨by omega, fun v hv _ => by have := (hvs_mem hv).2; omega⟩
def ho1 (f : Nat) : PLd := { many := 1, stage := 1, bal := 9, first := f }
/-- Behind the promise. -/
theorem ho_prom {f lw : Nat} (hf : f ≤ 15) (hl : lw ≤ 15) (xs : List UInt8) : ∃ l' : PLd, (ho1 f).promise 0 9 lw (hvs xs) = l' ∧ l'.stage = 2 ∧ l'.bal = 9 ∧ l'.next = endV (max f lw) (hvs xs) ∧
    (ho1 f).promV 0 9 lw (hvs xs) = propsTo (max f lw) 9 (noteVs [] (hvs xs)) (endV (max f lw) (hvs xs) - max f lw) ∧ (ho1 f).promB 0 9 lw (hvs xs) = true := by
  obtain ⟨h1, h2, h3⟩ := promise_lead (l := ho1 f) (node := 0) (b := 9) (low := lw) (vs := hvs xs) (deaf_not rfl rfl (by decide) (by show (0 : Int) < ((1 : Nat) : Int); omega) (by simp [ho1])) (by show 1 / 2 < 0 + 1; omega) (fun v hv hfar => by
    have := hfar.2
    rcases noteVs_mem hv with hv | hv
    · have := (hvs_mem hv).2; omega
    · cases hv)
  refine ⟨_, h1, rfl, rfl, ?_, ?_, h3⟩
  · show endV (max f lw) (noteVs [] (hvs xs)) = _
    exact endV_note _ _
  · rw [h2]
    show propsTo (max f lw) 9 (noteVs [] (hvs xs)) (endV (max f lw) (noteVs [] (hvs xs)) - max f lw) = _
    rw [endV_note]
theorem propV_hvt (xs : List UInt8) (s : Nat) : propV 9 (noteVs [] (hvs xs)) s = ⟨s, 9, if hasS xs s then [UInt8.ofNat s, 1] else []⟩ := by
  unfold propV
  rw [known_hvt]
  cases hasS xs s <;> rfl
end Go.Proofs.Ytfnecjogiafekaa
