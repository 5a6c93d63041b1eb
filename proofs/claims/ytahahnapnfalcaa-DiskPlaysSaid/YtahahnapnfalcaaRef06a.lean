/- The reference of layer 6: its disk by value; at, counts, Stop. -/
import Derived.Test.YtahahnapnfalcaaBaseM
import Derived.Test.YtahahnapnfalcaaOwnRow
import Derived.Test.YtahahnapnfalcaaDisk0
namespace Go.Proofs.Ytahahnapnfalcaa
set_option maxRecDepth 100000
open Go.RowKit
set_option linter.unusedVariables false

def strs (bs : List (List UInt8)) : List Value := bs.map fun b => .string (strOf b)
theorem strs_length (bs : List (List UInt8)) : (strs bs).length = bs.length := by simp [strs]
theorem strs_at {bs : List (List UInt8)} {j : Nat} {b : List UInt8} (h : bs[j]? = some b) : (strs bs)[j]? = some (.string (strOf b)) := by simp [strs, h]
theorem strs_one (bs : List (List UInt8)) : ∀ u ∈ strs bs, u.oneCell' = true := by
  intro u hu
  simp [strs] at hu
  obtain ⟨a, _, rfl⟩ := hu
  rfl
/-- The cells of writes that wait, by value. -/
def vC (x : Nat × List UInt8) : List Value := [.int .i64 (x.1 : Int), .string (strOf x.2)]
def vCs (W : List (Nat × List UInt8)) : List Value := W.flatMap vC
theorem vCs_length (W : List (Nat × List UInt8)) : (vCs W).length = W.length * 2 := by
  induction W with
  | nil => rfl
  | cons x W ih => simp only [vCs, List.flatMap_cons, List.length_append] at ih ⊢; rw [ih]; simp [vC]; omega
theorem vCs_one (W : List (Nat × List UInt8)) : ∀ u ∈ vCs W, u.oneCell' = true := by
  intro u hu
  simp [vCs, vC] at hu
  obtain ⟨a, b, _, rfl | rfl⟩ := hu <;> rfl
theorem vCs_at : ∀ (W : List (Nat × List UInt8)) (k q : Nat) (b : List UInt8), W[k]? = some (q, b) → (vCs W)[k * 2]? = some (.int .i64 (q : Int)) ∧ (vCs W)[k * 2 + 1]? = some (.string (strOf b))
  | x :: W, 0, q, b, h => by
    simp at h
    subst h
    simp [vCs, vC]
  | x :: W, k + 1, q, b, h => by
    obtain ⟨h1, h2⟩ := vCs_at W k q b (by simpa using h)
    rw [show (k + 1) * 2 = k * 2 + 2 by omega]
    simp only [vCs, List.flatMap_cons, vC] at h1 h2 ⊢
    exact ⟨by simpa using h1, by simpa using h2⟩
/-- A slice of two cells an element that reads as a list. -/
structure Sl2 (w : World) (A : Option Addr) (c : Nat) (W : List (Nat × List UInt8)) : Prop where
  le : W.length ≤ c
  max : c ≤ maxLen
  nil : A = none → c = 0
  has : W = [] ∨ ∃ b off, A = some ⟨b, off, none⟩ ∧ ∀ j u, (vCs W)[j]? = some u → w.cell? ⟨b, off + j, none⟩ = some u
theorem Sl2.mods {w w' : World} {A : Option Addr} {c : Nat} {W : List (Nat × List UInt8)} (h : Sl2 w A c W) (hm : Mods Nil w w') : Sl2 w' A c W := by
  refine ⟨h.le, h.max, h.nil, ?_⟩
  rcases h.has with h0 | ⟨b, off, hA, hc⟩
  · exact .inl h0
  · refine .inr ⟨b, off, hA, fun j u hu => ?_⟩
    have := hc j u hu
    rw [World.cell?_of_block (hm.block b (World.block_lt_of_cell? w _ this) (fun h => h))]
    exact this
theorem Sl2.none_ (w : World) : Sl2 w none 0 [] := ⟨Nat.le_refl _, Nat.zero_le _, fun _ => rfl, .inl rfl⟩
/-- The disk's cells, by value. -/
def rdC (A : Option Addr) (n c : Nat) (B : Option Addr) (m k : Nat) (left : Int) (down : Bool) : Array Value := #[.slice A n c, .slice B m k, .int .i64 left, .bool down]
/-- The block is of this type. -/
def Ty6 (w : World) (A : Option Addr) (t : TypeId) : Prop := ∀ a, A = some a → ∃ cs, Blk w a.block t cs
theorem Ty6.none_ (w : World) (t : TypeId) : Ty6 w none t := fun a h => by cases h
theorem Ty6.mods {S : Nat → Prop} {w w' : World} {A : Option Addr} {t : TypeId} (h : Ty6 w A t) (hm : Mods S w w') (hS : ∀ a, A = some a → ¬ S a.block) : Ty6 w' A t := fun a ha => by
  obtain ⟨cs, hb⟩ := h a ha
  exact ⟨cs, hb.mods hm (hS a ha)⟩
theorem Ty6.of_ne {w : World} {A : Option Addr} {t t2 : TypeId} {g : Nat} {cs : Array Value} (h : Ty6 w A t) (hg : Blk w g t2 cs) (ht : t ≠ t2) : ∀ a, A = some a → ¬ a.block = g := fun a ha e => by
  obtain ⟨cs2, hb⟩ := h a ha
  exact (hb.ne_ hg ht) e
theorem Ty6.set_ {w : World} {A : Option Addr} {t : TypeId} {g : Nat} (h : Ty6 w A t) (hg : ∀ a, A = some a → ¬ a.block = g) (i : Nat) (v : Value) : Ty6 (w.setCell ⟨g, i, none⟩ v) A t :=
  h.mods (S := fun k => k = g) (Mods.setCell (S := fun k => k = g) (p := ⟨g, i, none⟩) (Mods.refl _ _) (fun _ => rfl) v) hg
theorem own_ty6 {w : World} {base size n m : Nat} {e : TypeId} {A : Option Addr} {c : Nat} {xs : List Value} (h : w.ownsRow base e size (.slice A n c) m xs) : Ty6 w A e := fun a ha => by
  rcases h.2 with ⟨h0, _⟩ | ⟨g, cap, cur, h0, _, hb, _⟩
  · injection h0 with h1
    rw [h1] at ha
    cases ha
  · injection h0 with h1
    rw [h1] at ha
    injection ha with ha
    subst ha
    exact ⟨_, hb⟩
structure RdAt (w : World) (A : Option Addr) (c : Nat) (B : Option Addr) (k : Nat) (d : PD) : Prop where
  sure : Sl w A c (strs d.L)
  waits : Sl2 w B k d.W
  tyA : Ty6 w A 9
  tyB : Ty6 w B 70
theorem RdAt.mods {w w' : World} {A B : Option Addr} {c k : Nat} {d : PD} (h : RdAt w A c B k d) (hm : Mods Nil w w') : RdAt w' A c B k d := ⟨h.sure.mods hm (fun _ _ h => h), h.waits.mods hm, h.tyA.mods hm (fun _ _ h => h), h.tyB.mods hm (fun _ _ h => h)⟩
theorem RdAt.of {w : World} {A B : Option Addr} {c k : Nat} {d e : PD} (h : RdAt w A c B k d) (h1 : e.L = d.L) (h2 : e.W = d.W) : RdAt w A c B k e := ⟨by rw [h1]; exact h.sure, by rw [h2]; exact h.waits, h.tyA, h.tyB⟩
theorem Blk.four6 {w : World} {g : Nat} {t : TypeId} {a b c e : Value} (h : Blk w g t #[a, b, c, e]) : (w.cell? ⟨g, 0, none⟩ = some a ∧ w.cell? ⟨g, 1, none⟩ = some b ∧ w.cell? ⟨g, 2, none⟩ = some c ∧ w.cell? ⟨g, 3, none⟩ = some e) ∧ w.frozen? ⟨g, 0, none⟩ = false ∧ w.frozen? ⟨g, 1, none⟩ = false ∧ w.frozen? ⟨g, 2, none⟩ = false ∧ w.frozen? ⟨g, 3, none⟩ = false :=
  ⟨⟨by simpa using h.cell 0, by simpa using h.cell 1, by simpa using h.cell 2, by simpa using h.cell 3⟩, h.frozen 0, h.frozen 1, h.frozen 2, h.frozen 3⟩
theorem rd_info : (Try.prog.info? 31).map (·.size) = some 4 := by kernel_rfl

theorem rat_any (w : World) {A B : Option Addr} {n c m k : Nat} {left : Int} {down : Bool} {d : PD} (hn : d.L.length = n) (hd : d.down = down) (i : Int) :
    Calls Try.prog 29 #[.agg #[.slice A n c, .slice B m k, .int .i64 left, .bool down], .int .i64 i] w fun e w' => e = .returned (.int .i64 (d.at_ i)) ∧ Mods Nil w w' := by
  unfold PD.at_
  rw [hn, hd]
  clear hn hd
  have M := Lib.hid ((Mods.refl Nil w).alloc (.cells #[.slice A n c, .slice B m k, .int .i64 left, .bool down] 31))
  cases down with
  | true =>
    go_enter Try.func29, Try.ntmps29
    go_wp2
    go_ret
    exact ⟨rfl, M.out⟩
  | false =>
    by_cases h1 : i < 0
    · rw [if_neg (by simp), if_pos (.inl h1)]
      go_enter Try.func29, Try.ntmps29
      go_wp2
      go_ret
      exact ⟨rfl, M.out⟩
    · have h1' : decide (i < 0) = false := by simpa using h1
      by_cases h2 : (n : Int) ≤ i
      · rw [if_neg (by simp), if_pos (.inr h2)]
        have h2' : decide (i ≥ (n : Int)) = true := by simpa using h2
        go_enter Try.func29, Try.ntmps29
        go_wp2
        go_ret
        exact ⟨rfl, M.out⟩
      · rw [if_neg (by simp), if_neg (by omega)]
        have h2' : decide ((n : Int) ≤ i) = false := by simpa using h2
        go_enter Try.func29, Try.ntmps29
        go_wp2
        go_ret
        exact ⟨rfl, M.out⟩
theorem rcount_any (w : World) {A B : Option Addr} {n c m k : Nat} {left : Int} {down : Bool} {d : PD} (hl : d.left = left) (hd : d.down = down) (h0 : -1 ≤ left) (h1 : left ≤ 9223372036854775807) :
    Calls Try.prog 30 #[.agg #[.slice A n c, .slice B m k, .int .i64 left, .bool down]] w fun e w' => e = .returned (.tuple #[.agg #[.slice A n c, .slice B m k, .int .i64 d.count.1.left, .bool d.count.1.down], .int .i64 d.count.2]) ∧ Mods Nil w w' := by
  by_cases hz : left = 0
  · have e : d.count = ({ d with down := true }, 20) := by unfold PD.count; rw [if_pos (hl.trans hz)]
    rw [e]
    dsimp only
    rw [hl, hz]
    clear e hl hd h0 h1 hz
    go_enter Try.func30, Try.ntmps30
    go_wp2
    exact bodyPost_ret (v := .tuple #[.agg #[.slice A n c, .slice B m k, .int .i64 0, .bool true], .int .i64 20]) (by simp [results, Try.results30, go_sem]) rfl ⟨rfl, ((Mods.refl _ _).alloc _).alloc _⟩
  · by_cases hp : 0 < left
    · have e : d.count = ({ d with left := left - 1 }, 0) := by unfold PD.count; rw [if_neg (by omega), if_pos (by omega), hl]
      rw [e]
      dsimp only
      rw [hd]
      have hz' : decide (left = 0) = false := by simpa using hz
      clear e hl hd
      go_enter Try.func30, Try.ntmps30
      go_wp2
      exact bodyPost_ret (v := .tuple #[.agg #[.slice A n c, .slice B m k, .int .i64 (left - 1), .bool down], .int .i64 0]) (by simp [results, Try.results30, go_sem]) rfl ⟨rfl, ((Mods.refl _ _).alloc _).alloc _⟩
    · have e : d.count = (d, 0) := by unfold PD.count; rw [if_neg (by omega), if_neg (by omega)]
      rw [e]
      dsimp only
      rw [hl, hd]
      obtain rfl : left = -1 := by omega
      clear e hl hd h0 h1 hz hp
      go_enter Try.func30, Try.ntmps30
      go_wp2
      exact bodyPost_ret (v := .tuple #[.agg #[.slice A n c, .slice B m k, .int .i64 (-1), .bool down], .int .i64 0]) (by simp [results, Try.results30, go_sem]) rfl ⟨rfl, ((Mods.refl _ _).alloc _).alloc _⟩
theorem rstop_any (w : World) {A B : Option Addr} {n c m k : Nat} {left : Int} {down : Bool} (d : PD) (after : Int) :
    Calls Try.prog 18 #[.agg #[.slice A n c, .slice B m k, .int .i64 left, .bool down], .int .i64 after] w fun e w' => e = .returned (.agg #[.slice A n c, .slice B m k, .int .i64 (d.stop after).left, .bool down]) ∧ Mods Nil w w' := by
  unfold PD.stop
  dsimp only
  by_cases hz : after < 0
  · rw [if_pos hz]
    go_enter Try.func18, Try.ntmps18
    go_wp2
    exact bodyPost_ret (v := .agg #[.slice A n c, .slice B m k, .int .i64 (-1), .bool down]) (by simp [results, Try.results18, go_sem]) rfl ⟨rfl, ((Mods.refl _ _).alloc _).alloc _⟩
  · rw [if_neg hz]
    have hz' : decide (after < 0) = false := by simpa using hz
    go_enter Try.func18, Try.ntmps18
    go_wp2
    exact bodyPost_ret (v := .agg #[.slice A n c, .slice B m k, .int .i64 after, .bool down]) (by simp [results, Try.results18, go_sem]) rfl ⟨rfl, ((Mods.refl _ _).alloc _).alloc _⟩
end Go.Proofs.Ytahahnapnfalcaa
