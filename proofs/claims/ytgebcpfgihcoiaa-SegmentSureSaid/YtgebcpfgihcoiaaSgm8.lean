/- Package segment: Append. -/
import Derived.Test.YtgebcpfgihcoiaaSgm7
import Derived.Test.YtgebcpfgihcoiaaClone
namespace Go.Proofs.Ytgebcpfgihcoiaa
set_option maxRecDepth 100000
open Go.RowKit
set_option linter.unusedVariables false

/-- A block of bytes, marked or not. -/
def U8 (w : World) (g : Nat) : Prop := ∃ cs fr, w.heap[g]? = some (.cells cs 5 fr)
theorem U8.blk {w : World} {g : Nat} {cs : Array Value} (h : Blk w g 5 cs) : U8 w g := ⟨cs, (0, 0), h⟩
theorem U8.mods {S : Nat → Prop} {w w' : World} {g : Nat} (h : U8 w g) (hm : Mods S w w') (hS : ¬ S g) : U8 w' g := by
  obtain ⟨cs, fr, h⟩ := h
  exact ⟨cs, fr, (hm.block g (lt_of_block h) hS).trans h⟩
theorem u8_typ {w : World} {g : Nat} {t : TypeId} {cs : Array Value} (h : U8 w g) (h2 : Blk w g t cs) : 5 = t := by
  obtain ⟨cs1, fr, h⟩ := h
  have e := Eq.trans (Eq.symm h) h2
  injection e with e
  injection e
theorem u8_map {w : World} {g : Nat} {es : Array MapEntry} {c : Nat} (h : U8 w g) (h2 : w.heap[g]? = some (.map es c)) : False := by
  obtain ⟨cs1, fr, h⟩ := h
  have e := Eq.trans (Eq.symm h) h2
  injection e with e
  cases e
theorem sm_U8 {base : Nat} {w : World} (k : Nat) (hs : SS base w k) : ¬ U8 w k := fun h => by
  obtain ⟨_, hs⟩ := hs
  rcases hs with ⟨t, cs2, h2, h3⟩ | ⟨es, c, h2⟩
  · obtain rfl := u8_typ h h2
    rcases h3 with h3 | h3 | h3 | h3 <;> exact absurd h3 (by decide)
  · exact u8_map h h2
/-- Bytes that no call on the segment changes. -/
def Sb (base : Nat) (w : World) (A : Option Addr) (c : Nat) (xs : List UInt8) : Prop := Sl w A c (bts xs) ∧ (xs ≠ [] → ∀ a, A = some a → a.block < base ∨ U8 w a.block)
section
variable {w w' : World} {base db sb mb : Nat} {A : Option Addr} {c : Nat} {xs : List UInt8}
theorem Sb.off {S : Nat → Prop} (h : Sb base w A c xs) (hm : Mods S w w') (h1 : ∀ k, S k → base ≤ k) (h2 : ∀ k, S k → ¬ U8 w k) : Sb base w' A c xs := by
  have key : xs ≠ [] → ∀ a, A = some a → ¬ S a.block := fun hx a ha hs => by
    rcases h.2 hx a ha with h3 | h3
    · have := h1 _ hs; omega
    · exact h2 _ hs h3
  refine ⟨h.1.mods' hm (fun hx => key (bts_ne6.1 hx)), fun hx a ha => ?_⟩
  rcases h.2 hx a ha with h3 | h3
  · exact .inl h3
  · exact .inr (h3.mods hm (key hx a ha))
theorem Sb.sm (h : Sb base w A c xs) (hm : SM base w w') : Sb base w' A c xs := h.off hm (fun _ h => h.1) sm_U8
theorem Sb.nil (h : Sb base w A c xs) (hm : Mods Nil w w') : Sb base w' A c xs := h.off hm (fun _ h => h.elim) (fun _ h => h.elim)
theorem Sb.arg (h : Sl w A c (bts xs)) (hb : w.heap.size ≤ base) : Sb base w A c xs := ⟨h, fun hx a ha => .inl (Nat.lt_of_lt_of_le (h.old (bts_ne6.2 hx) a ha) hb)⟩
theorem Rb.toSb (h : Rb w A c xs) : Sb base w A c xs := ⟨h.1, fun hx a ha => by
  obtain ⟨cs, hb⟩ := h.2 hx a ha
  exact .inr (U8.blk hb)⟩
theorem clone_rb {n : Nat} (hn : xs.length = n) (hlim : n ≤ 140737488355328) (hs : Sl w A c (bts xs)) : Calls Try.prog 44 #[.slice A n c] w fun e w' => ∃ A' c', e = .returned (.slice A' n c') ∧ Rb w' A' c' xs ∧ Mods Nil w w' :=
  (clone_any hn hlim hs).mono fun e w' ⟨A', c', h1, h2, h3, h4⟩ => ⟨A', c', h1, ⟨h2, fun hx a ha => (h4 (bts_ne6.2 hx) a ha).2⟩, h3⟩
theorem PD.write_err (d : PD) (i : Int) (b : List UInt8) : -1000 ≤ (d.write i b).2 ∧ (d.write i b).2 ≤ 1000 := by
  have h1 : -1000 ≤ d.at_ i ∧ d.at_ i ≤ 1000 := by unfold PD.at_; split; exact ⟨by omega, by omega⟩; split <;> exact ⟨by omega, by omega⟩
  have h2 : -1000 ≤ d.count.2 ∧ d.count.2 ≤ 1000 := by unfold PD.count; split <;> simp
  unfold PD.write
  split
  · exact h1
  · split
    · simp
    · split
      · exact h2
      · simp
theorem PD.write_W (d : PD) (i : Int) (b : List UInt8) : (d.write i b).1.W.length ≤ d.W.length + 1 := by
  have h2 := d.count_L
  unfold PD.write
  split
  · simp
  · split
    · simp
    · split
      · rw [h2.2]; omega
      · simp
theorem recP_cons (e pl : Nat) (s : List UInt8) (i : Nat) (h : i < needP s.length) : (recP e pl s).drop i = blockP e pl i (needP s.length) (partP s i) :: (recP e pl s).drop (i + 1) := by
  rw [List.drop_eq_getElem_cons (by rw [recP_length]; exact h)]
  congr 1
  simp [recP]
end
end Go.Proofs.Ytgebcpfgihcoiaa
