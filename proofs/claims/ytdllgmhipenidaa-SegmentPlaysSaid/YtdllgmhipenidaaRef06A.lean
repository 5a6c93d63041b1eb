/- Texts laid as one: Ref06a, Ref06b, Ref06c, Ref06d. -/
import Derived.Test.YtdllgmhipenidaaBaseM
import Derived.Test.YtdllgmhipenidaaArrM
import Derived.Test.YtdllgmhipenidaaDisk0
import Derived.Deep.OwnRows
import Derived.Test.YtdllgmhipenidaaDiskA
import Derived.Test.YtdllgmhipenidaaMemX

section
/- The reference of layer 6: its disk by value; at, counts, Stop. -/
namespace Go.Proofs.Ytdllgmhipenidaa
set_option maxRecDepth 100000
open Go.RowKit
set_option linter.unusedVariables false

def strs (bs : List (List UInt8)) : List Value := bs.map fun b => .string (strOf b)
theorem strs_length (bs : List (List UInt8)) : (strs bs).length = bs.length := by simp [strs]
theorem strs_at {bs : List (List UInt8)} {j : Nat} {b : List UInt8} (h : bs[j]? = some b) : (strs bs)[j]? = some (.string (strOf b)) := by simp [strs, h]
theorem strs_one (bs : List (List UInt8)) : ∀ u ∈ strs bs, u.oneCell' = true := by
  intro u hu
  simp [strs] at hu
  obtain ⟨a, _, rfl⟩ := hu
  rfl
/-- The cells of writes that wait, by value. -/
def vC (x : Nat × List UInt8) : List Value := [.int .i64 (x.1 : Int), .string (strOf x.2)]
def vCs (W : List (Nat × List UInt8)) : List Value := W.flatMap vC
theorem vCs_length (W : List (Nat × List UInt8)) : (vCs W).length = W.length * 2 := by
  induction W with
  | nil => rfl
  | cons x W ih => simp only [vCs, List.flatMap_cons, List.length_append] at ih ⊢; rw [ih]; simp [vC]; omega
theorem vCs_one (W : List (Nat × List UInt8)) : ∀ u ∈ vCs W, u.oneCell' = true := by
  intro u hu
  simp [vCs, vC] at hu
  obtain ⟨a, b, _, rfl | rfl⟩ := hu <;> rfl
theorem vCs_at : ∀ (W : List (Nat × List UInt8)) (k q : Nat) (b : List UInt8), W[k]? = some (q, b) → (vCs W)[k * 2]? = some (.int .i64 (q : Int)) ∧ (vCs W)[k * 2 + 1]? = some (.string (strOf b))
  | x :: W, 0, q, b, h => by
    simp at h
    subst h
    simp [vCs, vC]
  | x :: W, k + 1, q, b, h => by
    obtain ⟨h1, h2⟩ := vCs_at W k q b (by simpa using h)
    rw [show (k + 1) * 2 = k * 2 + 2 by omega]
    simp only [vCs, List.flatMap_cons, vC] at h1 h2 ⊢
    exact ⟨by simpa using h1, by simpa using h2⟩
/-- A slice of two cells an element that reads as a list. -/
structure Sl2 (w : World) (A : Option Addr) (c : Nat) (W : List (Nat × List UInt8)) : Prop where
  le : W.length ≤ c
  max : c ≤ maxLen
  nil : A = none → c = 0
  has : W = [] ∨ ∃ b off, A = some ⟨b, off, none⟩ ∧ ∀ j u, (vCs W)[j]? = some u → w.cell? ⟨b, off + j, none⟩ = some u
theorem Sl2.mods {w w' : World} {A : Option Addr} {c : Nat} {W : List (Nat × List UInt8)} (h : Sl2 w A c W) (hm : Mods Nil w w') : Sl2 w' A c W := by
  refine ⟨h.le, h.max, h.nil, ?_⟩
  rcases h.has with h0 | ⟨b, off, hA, hc⟩
  · exact .inl h0
  · refine .inr ⟨b, off, hA, fun j u hu => ?_⟩
    have := hc j u hu
    rw [World.cell?_of_block (hm.block b (World.block_lt_of_cell? w _ this) (fun h => h))]
    exact this
theorem Sl2.none_ (w : World) : Sl2 w none 0 [] := ⟨Nat.le_refl _, Nat.zero_le _, fun _ => rfl, .inl rfl⟩
/-- The disk's cells, by value. -/
def rdC (A : Option Addr) (n c : Nat) (B : Option Addr) (m k : Nat) (left : Int) (down : Bool) : Array Value := #[.slice A n c, .slice B m k, .int .i64 left, .bool down]
/-- The block is of this type. -/
def Ty6 (w : World) (A : Option Addr) (t : TypeId) : Prop := ∀ a, A = some a → ∃ cs, Blk w a.block t cs
theorem Ty6.none_ (w : World) (t : TypeId) : Ty6 w none t := fun a h => by cases h
theorem Ty6.mods {S : Nat → Prop} {w w' : World} {A : Option Addr} {t : TypeId} (h : Ty6 w A t) (hm : Mods S w w') (hS : ∀ a, A = some a → ¬ S a.block) : Ty6 w' A t := fun a ha => by
  obtain ⟨cs, hb⟩ := h a ha
  exact ⟨cs, hb.mods hm (hS a ha)⟩
theorem Ty6.of_ne {w : World} {A : Option Addr} {t t2 : TypeId} {g : Nat} {cs : Array Value} (h : Ty6 w A t) (hg : Blk w g t2 cs) (ht : t ≠ t2) : ∀ a, A = some a → ¬ a.block = g := fun a ha e => by
  obtain ⟨cs2, hb⟩ := h a ha
  exact (hb.ne_ hg ht) e
theorem Ty6.set_ {w : World} {A : Option Addr} {t : TypeId} {g : Nat} (h : Ty6 w A t) (hg : ∀ a, A = some a → ¬ a.block = g) (i : Nat) (v : Value) : Ty6 (w.setCell ⟨g, i, none⟩ v) A t :=
  h.mods (S := fun k => k = g) (Mods.setCell (S := fun k => k = g) (p := ⟨g, i, none⟩) (Mods.refl _ _) (fun _ => rfl) v) hg
theorem own_ty6 {w : World} {base size n m : Nat} {e : TypeId} {A : Option Addr} {c : Nat} {xs : List Value} (h : w.ownsRow base e size (.slice A n c) m xs) : Ty6 w A e := fun a ha => by
  rcases h.2 with ⟨h0, _⟩ | ⟨g, cap, cur, h0, _, hb, _⟩
  · injection h0 with h1
    rw [h1] at ha
    cases ha
  · injection h0 with h1
    rw [h1] at ha
    injection ha with ha
    subst ha
    exact ⟨_, hb⟩
structure RdAt (w : World) (A : Option Addr) (c : Nat) (B : Option Addr) (k : Nat) (d : PD) : Prop where
  sure : Sl w A c (strs d.L)
  waits : Sl2 w B k d.W
  tyA : Ty6 w A 9
  tyB : Ty6 w B 138
theorem RdAt.mods {w w' : World} {A B : Option Addr} {c k : Nat} {d : PD} (h : RdAt w A c B k d) (hm : Mods Nil w w') : RdAt w' A c B k d := ⟨h.sure.mods hm (fun _ _ h => h), h.waits.mods hm, h.tyA.mods hm (fun _ _ h => h), h.tyB.mods hm (fun _ _ h => h)⟩
theorem RdAt.of {w : World} {A B : Option Addr} {c k : Nat} {d e : PD} (h : RdAt w A c B k d) (h1 : e.L = d.L) (h2 : e.W = d.W) : RdAt w A c B k e := ⟨by rw [h1]; exact h.sure, by rw [h2]; exact h.waits, h.tyA, h.tyB⟩
theorem Blk.four6 {w : World} {g : Nat} {t : TypeId} {a b c e : Value} (h : Blk w g t #[a, b, c, e]) : (w.cell? ⟨g, 0, none⟩ = some a ∧ w.cell? ⟨g, 1, none⟩ = some b ∧ w.cell? ⟨g, 2, none⟩ = some c ∧ w.cell? ⟨g, 3, none⟩ = some e) ∧ w.frozen? ⟨g, 0, none⟩ = false ∧ w.frozen? ⟨g, 1, none⟩ = false ∧ w.frozen? ⟨g, 2, none⟩ = false ∧ w.frozen? ⟨g, 3, none⟩ = false :=
  ⟨⟨by simpa using h.cell 0, by simpa using h.cell 1, by simpa using h.cell 2, by simpa using h.cell 3⟩, h.frozen 0, h.frozen 1, h.frozen 2, h.frozen 3⟩
theorem rd_info : (Try.prog.info? 31).map (·.size) = some 4 := by kernel_rfl

theorem rat_any (w : World) {A B : Option Addr} {n c m k : Nat} {left : Int} {down : Bool} {d : PD} (hn : d.L.length = n) (hd : d.down = down) (i : Int) :
    Calls Try.prog 81 #[.agg #[.slice A n c, .slice B m k, .int .i64 left, .bool down], .int .i64 i] w fun e w' => e = .returned (.int .i64 (d.at_ i)) ∧ Mods Nil w w' := by
  unfold PD.at_
  rw [hn, hd]
  clear hn hd
  have M := Lib.hid ((Mods.refl Nil w).alloc (.cells #[.slice A n c, .slice B m k, .int .i64 left, .bool down] 31))
  cases down with
  | true =>
    go_enter Try.func81, Try.ntmps81
    go_wp2
    go_ret
    exact ⟨rfl, M.out⟩
  | false =>
    by_cases h1 : i < 0
    · rw [if_neg (by simp), if_pos (.inl h1)]
      go_enter Try.func81, Try.ntmps81
      go_wp2
      go_ret
      exact ⟨rfl, M.out⟩
    · have h1' : decide (i < 0) = false := by simpa using h1
      by_cases h2 : (n : Int) ≤ i
      · rw [if_neg (by simp), if_pos (.inr h2)]
        have h2' : decide (i ≥ (n : Int)) = true := by simpa using h2
        go_enter Try.func81, Try.ntmps81
        go_wp2
        go_ret
        exact ⟨rfl, M.out⟩
      · rw [if_neg (by simp), if_neg (by omega)]
        have h2' : decide ((n : Int) ≤ i) = false := by simpa using h2
        go_enter Try.func81, Try.ntmps81
        go_wp2
        go_ret
        exact ⟨rfl, M.out⟩
theorem rcount_any (w : World) {A B : Option Addr} {n c m k : Nat} {left : Int} {down : Bool} {d : PD} (hl : d.left = left) (hd : d.down = down) (h0 : -1 ≤ left) (h1 : left ≤ 9223372036854775807) :
    Calls Try.prog 82 #[.agg #[.slice A n c, .slice B m k, .int .i64 left, .bool down]] w fun e w' => e = .returned (.tuple #[.agg #[.slice A n c, .slice B m k, .int .i64 d.count.1.left, .bool d.count.1.down], .int .i64 d.count.2]) ∧ Mods Nil w w' := by
  by_cases hz : left = 0
  · have e : d.count = ({ d with down := true }, 20) := by unfold PD.count; rw [if_pos (hl.trans hz)]
    rw [e]
    dsimp only
    rw [hl, hz]
    clear e hl hd h0 h1 hz
    go_enter Try.func82, Try.ntmps82
    go_wp2
    exact bodyPost_ret (v := .tuple #[.agg #[.slice A n c, .slice B m k, .int .i64 0, .bool true], .int .i64 20]) (by simp [results, Try.results82, go_sem]) rfl ⟨rfl, ((Mods.refl _ _).alloc _).alloc _⟩
  · by_cases hp : 0 < left
    · have e : d.count = ({ d with left := left - 1 }, 0) := by unfold PD.count; rw [if_neg (by omega), if_pos (by omega), hl]
      rw [e]
      dsimp only
      rw [hd]
      have hz' : decide (left = 0) = false := by simpa using hz
      clear e hl hd
      go_enter Try.func82, Try.ntmps82
      go_wp2
      exact bodyPost_ret (v := .tuple #[.agg #[.slice A n c, .slice B m k, .int .i64 (left - 1), .bool down], .int .i64 0]) (by simp [results, Try.results82, go_sem]) rfl ⟨rfl, ((Mods.refl _ _).alloc _).alloc _⟩
    · have e : d.count = (d, 0) := by unfold PD.count; rw [if_neg (by omega), if_neg (by omega)]
      rw [e]
      dsimp only
      rw [hl, hd]
      obtain rfl : left = -1 := by omega
      clear e hl hd h0 h1 hz hp
      go_enter Try.func82, Try.ntmps82
      go_wp2
      exact bodyPost_ret (v := .tuple #[.agg #[.slice A n c, .slice B m k, .int .i64 (-1), .bool down], .int .i64 0]) (by simp [results, Try.results82, go_sem]) rfl ⟨rfl, ((Mods.refl _ _).alloc _).alloc _⟩
theorem rstop_any (w : World) {A B : Option Addr} {n c m k : Nat} {left : Int} {down : Bool} (d : PD) (after : Int) :
    Calls Try.prog 25 #[.agg #[.slice A n c, .slice B m k, .int .i64 left, .bool down], .int .i64 after] w fun e w' => e = .returned (.agg #[.slice A n c, .slice B m k, .int .i64 (d.stop after).left, .bool down]) ∧ Mods Nil w w' := by
  unfold PD.stop
  dsimp only
  by_cases hz : after < 0
  · rw [if_pos hz]
    go_enter Try.func25, Try.ntmps25
    go_wp2
    exact bodyPost_ret (v := .agg #[.slice A n c, .slice B m k, .int .i64 (-1), .bool down]) (by simp [results, Try.results25, go_sem]) rfl ⟨rfl, ((Mods.refl _ _).alloc _).alloc _⟩
  · rw [if_neg hz]
    have hz' : decide (after < 0) = false := by simpa using hz
    go_enter Try.func25, Try.ntmps25
    go_wp2
    exact bodyPost_ret (v := .agg #[.slice A n c, .slice B m k, .int .i64 after, .bool down]) (by simp [results, Try.results25, go_sem]) rfl ⟨rfl, ((Mods.refl _ _).alloc _).alloc _⟩
end Go.Proofs.Ytdllgmhipenidaa
end

section
/- The reference of layer 6: put, noughts, New's errors. -/
namespace Go.Proofs.Ytdllgmhipenidaa
set_option maxRecDepth 100000
open Go.RowKit
set_option linter.unusedVariables false

theorem infoStr : (Try.prog.info? 9).map (fun i => (i.zero, i.size, i.bytes)) = some (some (.string ⟨#[]⟩), 1, 16) := by kernel_rfl
theorem rput_any (w : World) {A : Option Addr} {c n : Nat} {L : List (List UInt8)} (hs : Sl w A c (strs L)) (hn : L.length = n) (hlim : n ≤ 1000) {i : Nat} (hi : i < n) (b : List UInt8) :
    Calls Try.prog 84 #[.slice A n c, .int .i64 (i : Int), .string (strOf b)] w fun e w' => ∃ A' c', e = .returned (.slice A' n c') ∧ Sl w' A' c' (strs (L.set i b)) ∧ Mods Nil w w' ∧ (∀ a, A' = some a → w.heap.size ≤ a.block) ∧ Ty6 w' A' 9 := by
  obtain ⟨i0, hi0, hz0, hz1, hz2⟩ := info_parts infoStr
  have HS := Lib.hid hs
  have HN := Lib.hid hn
  have hiI : (i : Int) < (n : Int) := by omega
  clear hs hn
  go_enter Try.func84, Try.ntmps84
  go_wp2_with (at_builtin; refine wpList_append_sl _ rfl (.tmp 8) (.tmp 9) 28 rfl w.heap.size 9 i0 (.string ⟨#[]⟩) 16 Try.underlying28 hi0 hz0 hz1 hz2 rfl (.slice none 0 0) 0 [] rfl (World.ownsRow_nil _ _ _ _) A n c (strs L) rfl (by rw [strs_length, HN.out]) HS.out (strs_one _) (by omega) (by unfold maxLen; omega) (Nat.le_refl _) ?_; intro v' w1 hown hgrow hblk; simp only [Nat.zero_add, List.nil_append] at hown; obtain ⟨g, cap, rfl, k1, k2, k3, k4, k5, k6, k7⟩ := own_set hown hi; have kc : w1.cell? ⟨g, i, none⟩ = some (.string (strOf (L[i]'(by rw [HN.out]; exact hi)))) := (k6 _ (by simp [strs, HN.out, hi])); have K7 := Lib.hid (k7 (.string (strOf b))); have M1 := Lib.hid ((Mods.refl Nil w).grown hgrow (fun k hk => by simp [Value.ownBlock] at hk)); have K3 := Lib.hid k3; clear hown hgrow hblk k6 k7; generalize strOf (L[i]'(by rw [HN.out]; exact hi)) = old at kc)
  go_ret
  obtain ⟨A', c', hv, -, hsl, -⟩ := own_slice K7.out
  injection hv with e1 e2 e3
  subst e1; subst e3
  exact ⟨_, _, rfl, by have := hsl; simpa [strs, List.map_set] using this, M1.out.setNew (p := ⟨g, i, none⟩) K3.out _, (fun a ha => by injection ha with ha; subst ha; exact K3.out), own_ty6 K7.out⟩
theorem rnoughts_any (w : World) : Calls Try.prog 63 #[] w fun e w' => e = .returned (.string (strOf zeros64)) ∧ Mods Nil w w' := by
  obtain ⟨i0, hi, hz0, hz1, hz2⟩ := info_parts infoByte
  go_enter Try.func63, Try.ntmps63
  go_wp2_with (at_make; refine wpList_make_row _ rfl _ _ 42 rfl 5 i0 (.int .u8 0) Try.underlying42 hi hz0 hz1 rfl .i64 .i64 64 rfl rfl (by rw [hz2]; omega) (by omega) ?_; have e0 : (madeCells #[.int .u8 0] 64).toList = bts zeros64 := (by rw [toList_madeCells_one]; simp [zeros64, bts]); have s1 : Sl (w.alloc (.cells (madeCells #[.int .u8 0] 64) 5)) (some ⟨w.heap.size, 0, none⟩) 64 (bts zeros64) := build_at rfl e0 (by simp [zeros64]) (by simp [maxLen]); have cv := run_string_sl (P := Try.prog) _ 42 5 Try.underlying42 Try.underlying5 _ 64 64 zeros64 (by simp [zeros64]) s1 9 Try.underlying9; have M1 := Lib.hid ((Mods.refl Nil w).alloc (.cells (madeCells #[.int .u8 0] 64) 5)); clear e0 s1; generalize w.alloc (.cells (madeCells #[.int .u8 0] 64) 5) = w1 at cv M1 ⊢)
  go_ret
  exact ⟨rfl, M1.out⟩
theorem rnew_bad (w : World) {n : Int} (h : n < 1 ∨ 65536 < n) : Calls Try.prog 14 #[.int .i64 n] w fun e w' => e = .returned (.tuple #[.agg #[.slice none 0 0, .slice none 0 0, .int .i64 0, .bool false], .int .i64 1]) ∧ Mods Nil w w' := by
  rcases h with h | h
  · go_enter Try.func14, Try.ntmps14
    go_wp2
    exact bodyPost_ret (v := .tuple #[.agg #[.slice none 0 0, .slice none 0 0, .int .i64 0, .bool false], .int .i64 1]) (by simp [results, Try.results14, go_sem]) rfl ⟨rfl, (Mods.refl _ _).alloc _⟩
  · have h2 : decide (n < 1) = false := by simp; omega
    have h3 : decide (65536 < n) = true := by simpa using h
    go_enter Try.func14, Try.ntmps14
    go_wp2
    exact bodyPost_ret (v := .tuple #[.agg #[.slice none 0 0, .slice none 0 0, .int .i64 0, .bool false], .int .i64 1]) (by simp [results, Try.results14, go_sem]) rfl ⟨rfl, (Mods.refl _ _).alloc _⟩

set_option maxHeartbeats 3200000 in
theorem rnew_any (w : World) {n : Nat} (h1 : 1 ≤ n) (h2 : n ≤ 1000) : Calls Try.prog 14 #[.int .i64 (n : Int)] w fun e w' => ∃ A c, e = .returned (.tuple #[.agg #[.slice A n c, .slice none 0 0, .int .i64 (-1), .bool false], .int .i64 0]) ∧ Sl w' A c (strs (List.replicate n zeros64)) ∧ Mods Nil w w' ∧ Ty6 w' A 9 := by
  obtain ⟨i0, hi, hz0, hz1, hz2⟩ := info_parts infoStr
  have k1 : decide ((n : Int) < 1) = false := by simp; omega
  have k2 : decide ((65536 : Int) < (n : Int)) = false := by simp; omega
  go_enter Try.func14, Try.ntmps14
  go_wp2_with fail
  go_loopw [5] (fun x wr => ∃ (j : Nat) (v : Value), j ≤ n ∧ x = .int .i64 (j : Int) ∧ Blk wr (w.heap.size + 1) 31 #[v, .slice none 0 0, .int .i64 (-1), .bool false] ∧ Blk wr w.heap.size 31 #[.slice none 0 0, .slice none 0 0, .int .i64 0, .bool false] ∧ wr.ownsRow w.heap.size 9 1 v j (strs (List.replicate j zeros64)) ∧ Mods Nil w wr) (fun x _ => n - (intOf x).toNat)
  case atStart =>
    refine ⟨0, .slice none 0 0, Nat.zero_le _, rfl, ?_, ?_, World.ownsRow_nil _ _ _ _, ((Mods.refl _ _).alloc _).alloc _⟩
    · have := Blk.new (w.alloc (.cells #[.slice none 0 0, .slice none 0 0, .int .i64 0, .bool false] 31)) 31 #[.slice none 0 0, .slice none 0 0, .int .i64 (-1), .bool false]
      simpa using this
    · exact (Blk.new w _ _).alloc _
  case round =>
    obtain ⟨j, v, hj, rfl, hb, hb0, ho, hmo⟩ := hrel
    have HB := Lib.hid hb
    have HB0 := Lib.hid hb0
    have HO := Lib.hid ho
    have HMO := Lib.hid hmo
    clear hb hb0 ho hmo
    by_cases hlt : j < n
    · have hltI : (j : Int) < (n : Int) := by omega
      have hj1 : j + 1 ≤ n := hlt
      have hjE : n - (j + 1) < n - j := by omega
      have hbase : w.heap.size ≤ wr.heap.size := HMO.out.size
      have hne := Lib.hid (own_blk_ne HO.out HB.out (by decide))
      have hne0 := Lib.hid (own_blk_ne HO.out HB0.out (by decide))
      have hc := fun W (h : Mods Nil wr W) => (HB.out.mods h (fun h => h)).four6.1.1
      have hc0 : wr.drew.cell? ⟨w.heap.size + 1, 0, none⟩ = some v := hc _ (Mods.refl Nil wr).drew
      go_wp2_with fail
      refine wp_region_any (by kernel_rfl) ?_
      show wpAny _ _ _ _ _ _ _ wr.drew
      refine wpAny_take (i := 0) (oi := ⟨_, _, _, _, _, _⟩) (v := .pointer (some ⟨w.heap.size + 1, 0, none⟩)) rfl (by kernel_rfl) (by kernel_rfl) (by kernel_rfl) (fun _ _ _ h => h) (Or.inl ⟨by rfl, fun W => by go_simp⟩) ?_
      refine wpAny_ready (rs := [1, 2]) (by kernel_rfl) (by simp) (AllReady.cons (o := ⟨_, _, _, _, _, _⟩) rfl (fun K' hK => ?a1) (AllReady.cons (o := ⟨_, _, _, _, _, _⟩) rfl (fun K' hK => ?a2) AllReady.nil))
      case' a1 =>
        rw [if_pos (by rfl)]
        go_simp
        refine hK _ _ ?_
        refine wpAny_ready (rs := [2]) (by kernel_rfl) (by simp) (AllReady.cons (o := ⟨_, _, _, _, _, _⟩) rfl (fun K' hK => ?_) AllReady.nil)
        rw [if_pos (by rfl)]
        go_simp
        refine (rnoughts_any _).mono ?_
        rintro e w5 ⟨rfl, m5⟩
        have M5 := Lib.hid ((Mods.refl Nil wr).drew.trans m5)
        clear m5
        refine hK _ _ ?_
        refine wpAny_ready (rs := [3]) (by kernel_rfl) (by simp) (AllReady.cons (o := ⟨_, _, _, _, _, _⟩) rfl (fun K' hK => ?_) AllReady.nil)
        rw [if_pos (by rfl)]
        go_simp
        refine hK _ _ ?_
      case' a2 =>
        rw [if_pos (by rfl)]
        go_simp
        refine (rnoughts_any _).mono ?_
        rintro e w5 ⟨rfl, m5⟩
        have M5 := Lib.hid ((Mods.refl Nil wr).drew.trans m5)
        clear m5
        have hc5 := hc w5 M5.out
        have hsz5 : w.heap.size + 1 < w5.heap.size := World.block_lt_of_cell? w5 _ hc5
        refine hK _ _ ?_
        refine wpAny_ready (rs := [1, 3]) (by kernel_rfl) (by simp) (AllReady.cons (o := ⟨_, _, _, _, _, _⟩) rfl (fun K' hK => ?b1) (AllReady.cons (o := ⟨_, _, _, _, _, _⟩) rfl (fun K' hK => ?b3) AllReady.nil))
      case' b1 =>
        rw [if_pos (by rfl)]
        go_simp
        refine hK _ _ ?_
        refine wpAny_ready (rs := [3]) (by kernel_rfl) (by simp) (AllReady.cons (o := ⟨_, _, _, _, _, _⟩) rfl (fun K' hK => ?_) AllReady.nil)
        rw [if_pos (by rfl)]
        go_simp
        refine hK _ _ ?_
      case' b3 =>
        rw [if_pos (by rfl)]
        go_simp
        refine hK _ _ ?_
        refine wpAny_ready (rs := [1]) (by kernel_rfl) (by simp) (AllReady.cons (o := ⟨_, _, _, _, _, _⟩) rfl (fun K' hK => ?_) AllReady.nil)
        rw [if_pos (by rfl)]
        go_simp
        refine hK _ _ ?_
      all_goals try simp only [Act.put, List.setIfInBounds_toArray, List.set_cons_zero, List.set_cons_succ]
      all_goals
        have hb5 : Blk w5 (w.heap.size + 1) 31 #[v, .slice none 0 0, .int .i64 (-1), .bool false] := HB.out.mods M5.out (fun h => h)
        have hb05 := HB0.out.mods M5.out (fun h => h)
        have HO5 := Lib.hid (own_mods HO.out (M5.out.alloc (.cells #[.string (strOf zeros64)] 9)) (fun _ _ h => h))
        refine wpAny_ready (rs := [4]) (by kernel_rfl) (by simp) (AllReady.cons (o := ⟨_, _, _, _, _, _⟩) rfl (fun K' hK => ?_) AllReady.nil)
        refine step_append_sl _ rfl (.tmp 20) (.tmp 22) 28 rfl w.heap.size 9 i0 (.string ⟨#[]⟩) 16 Try.underlying28 hi hz0 hz1 hz2 rfl v j (strs (List.replicate j zeros64)) rfl HO5.out (some ⟨w5.heap.size, 0, none⟩) 1 1 [.string (strOf zeros64)] rfl rfl (one_sl w5 _ _) (by intro u hu; simp at hu; subst hu; rfl) (by omega) (by unfold maxLen; omega) (by have := M5.out.size; simp; omega) ?_
        intro v6 w6 hown hgrow hblk
        obtain ⟨A6, c6', hv6, -⟩ := own_slice hown
        subst hv6
        refine hK _ _ ?_
        have hb6 := (hb5.alloc (.cells #[.string (strOf zeros64)] 9)).grown hgrow (fun e => hne.out e.symm)
        have hb06 := (hb05.alloc (.cells #[.string (strOf zeros64)] 9)).grown hgrow (fun e => hne0.out e.symm)
        have c6 := hb6.four6.1.1
        have f6 := hb6.four6.2.1
        have M6 := Lib.hid (((HMO.out.trans M5.out).alloc (.cells #[.string (strOf zeros64)] 9)).grown hgrow (fun k hk hlt => absurd hlt (by have := (HO.out.lt k hk).1; omega)))
        have HB6 := Lib.hid hb6
        have HB06 := Lib.hid hb06
        have HO6 := Lib.hid hown
        clear hb5 hb05 hb6 hb06 hown hgrow hblk
        refine wpAny_take (i := 5) (oi := ⟨_, _, _, _, _, _⟩) (v := .pointer (some ⟨w.heap.size + 1, 0, none⟩)) rfl (by kernel_rfl) (by kernel_rfl) (by kernel_rfl) (fun _ _ _ h => h) (Or.inl ⟨by rfl, fun W => by go_simp⟩) ?_
        refine wpAny_ready (rs := [6]) (by kernel_rfl) (by simp) (AllReady.cons (o := ⟨_, _, _, _, _, _⟩) rfl (fun K' hK => ?_) AllReady.nil)
        rw [if_pos (by rfl)]
        go_simp
        refine hK _ _ ?_
        refine wpAny_done (by kernel_rfl) ?_ _
        go_wp2
        have hset : Mods (fun k => k = w.heap.size + 1) w6 (w6.setCell ⟨w.heap.size + 1, 0, none⟩ (.slice A6 (j + 1) c6')) := Mods.setCell (S := fun k => k = w.heap.size + 1) (p := ⟨w.heap.size + 1, 0, none⟩) (Mods.refl _ _) (fun _ => rfl) _
        refine ⟨⟨j + 1, _, hj1, by go_num, by simpa using HB6.out.set_ 0 (.slice A6 (j + 1) c6'), HB06.out.mods hset (by omega), own_mods (by rw [show List.replicate (j + 1) zeros64 = List.replicate j zeros64 ++ [zeros64] from List.replicate_succ']; simpa [strs] using HO6.out) hset (fun k hk e => own_blk_ne HO6.out HB6.out (by decide) (by rw [hk, e])), M6.out.setNew (p := ⟨w.heap.size + 1, 0, none⟩) (by simp) _⟩, by simp [intOf]; omega⟩
    · obtain rfl : j = n := by omega
      obtain ⟨A, c, rfl, -, hsl, hown9⟩ := own_slice HO.out
      have SL := Lib.hid hsl
      obtain ⟨⟨b0, b1, b2, b3⟩, -⟩ := HB.out.four6
      obtain ⟨⟨a0, a1, a2, a3⟩, g0, g1, g2, g3⟩ := HB0.out.four6
      have hbF := (((HB0.out.set_ 0 (.slice A j c)).set_ 1 (.slice none 0 0)).set_ 2 (.int .i64 (-1))).set_ 3 (.bool false)
      simp only [List.setIfInBounds_toArray, List.set_cons_succ, List.set_cons_zero] at hbF
      obtain ⟨⟨x0, x1, x2, x3⟩, -⟩ := hbF.four6
      have MF := Lib.hid ((((HMO.out.setNew (p := ⟨w.heap.size, 0, none⟩) (Nat.le_refl _) (.slice A j c)).setNew (p := ⟨w.heap.size, 1, none⟩) (Nat.le_refl _) (.slice none 0 0)).setNew (p := ⟨w.heap.size, 2, none⟩) (Nat.le_refl _) (.int .i64 (-1))).setNew (p := ⟨w.heap.size, 3, none⟩) (Nat.le_refl _) (.bool false))
      have SF : Hid (Sl ((((wr.setCell ⟨w.heap.size, 0, none⟩ (.slice A j c)).setCell ⟨w.heap.size, 1, none⟩ (.slice none 0 0)).setCell ⟨w.heap.size, 2, none⟩ (.int .i64 (-1))).setCell ⟨w.heap.size, 3, none⟩ (.bool false)) A c (strs (List.replicate j zeros64))) := Lib.hid (SL.out.mods (S := fun k => k = w.heap.size) (Mods.setCell (Mods.setCell (Mods.setCell (Mods.setCell (p := ⟨w.heap.size, 0, none⟩) (Mods.refl (fun k => k = w.heap.size) _) (fun _ => rfl) _) (p := ⟨w.heap.size, 1, none⟩) (fun _ => rfl) _) (p := ⟨w.heap.size, 2, none⟩) (fun _ => rfl) _) (p := ⟨w.heap.size, 3, none⟩) (fun _ => rfl) _) (fun a ha e => by
        have hk := (hown9 a ha).1
        exact own_blk_ne HO.out HB0.out (by decide) (by rw [hk, e])))
      have hneT := (own_ty6 HO.out).of_ne HB0.out (by decide)
      have TYF := Lib.hid (((((own_ty6 HO.out).set_ hneT 0 (.slice A j c)).set_ hneT 1 (.slice none 0 0)).set_ hneT 2 (.int .i64 (-1))).set_ hneT 3 (.bool false))
      clear hbF hsl hown9 hneT
      go_wp2_with fail
      exact bodyPost_ret (v := .tuple #[.agg #[.slice A j c, .slice none 0 0, .int .i64 (-1), .bool false], .int .i64 0]) (by simp [results, Try.results14, go_sem, x0, x1, x2, x3]) rfl ⟨A, c, rfl, SF.out, MF.out, TYF.out⟩
end Go.Proofs.Ytdllgmhipenidaa
end

section
/- The reference of layer 6: Read, Write. -/
namespace Go.Proofs.Ytdllgmhipenidaa
set_option maxRecDepth 100000
open Go.RowKit
set_option linter.unusedVariables false

theorem Sl2.at_ {w : World} {B : Option Addr} {k : Nat} {W : List (Nat × List UInt8)} (h : Sl2 w B k W) {p q : Nat} {b : List UInt8} (hp : W[p]? = some (q, b)) : ∃ bk off, B = some ⟨bk, off, none⟩ ∧ w.cell? ⟨bk, off + p * 2, none⟩ = some (.int .i64 (q : Int)) ∧ w.cell? ⟨bk, off + p * 2 + 1, none⟩ = some (.string (strOf b)) := by
  rcases h.has with rfl | ⟨bk, off, rfl, hc⟩
  · simp at hp
  · obtain ⟨h1, h2⟩ := vCs_at W p q b hp
    exact ⟨bk, off, rfl, hc _ _ h1, by have := hc _ _ h2; rwa [← Nat.add_assoc] at this⟩

set_option maxHeartbeats 3200000 in
theorem r6read_any (w : World) {A B : Option Addr} {n c m k : Nat} {left : Int} {down : Bool} {d : PD} (h : RdAt w A c B k d) (hn : d.L.length = n) (hm : d.W.length = m) (hd : d.down = down) (i : Int) :
    Calls Try.prog 67 #[.agg #[.slice A n c, .slice B m k, .int .i64 left, .bool down], .int .i64 i] w fun e w' => e = .returned (.tuple #[.string (strOf (d.read i).1), .int .i64 (d.read i).2]) ∧ Mods Nil w w' := by
  have M1 := Lib.hid ((Mods.refl Nil w).alloc (.cells #[.slice A n c, .slice B m k, .int .i64 left, .bool down] 31))
  have hb := Blk.new w 31 #[.slice A n c, .slice B m k, .int .i64 left, .bool down]
  have HA := Lib.hid (rat_any (w.alloc (.cells #[.slice A n c, .slice B m k, .int .i64 left, .bool down] 31)) (A := A) (B := B) (c := c) (m := m) (k := k) (left := left) hn hd i)
  have HB := Lib.hid hb
  clear hb
  by_cases ha : d.at_ i = 0
  · obtain ⟨-, h0, h1⟩ := PD.at_zero ha
    obtain ⟨q, rfl⟩ : ∃ q : Nat, i = (q : Int) := ⟨i.toNat, by omega⟩
    have hq : q < n := by omega
    have hqI : (q : Int) < (n : Int) := by omega
    have e : d.read (q : Int) = (d.lat q, 0) := by unfold PD.read PD.lat; rw [if_neg (by simp [ha])]; rfl
    rw [ha] at HA
    rw [e]
    have H := Lib.hid h
    have HN := Lib.hid hn
    have HMM := Lib.hid hm
    have hm63 : (m : Int) ≤ 9223372036854775807 := (by have h1 := h.waits.le; have h2 := h.waits.max; unfold maxLen at h2; omega)
    clear h hn hm hd ha e h0 h1
    go_enter Try.func67, Try.ntmps67
    go_wp2_with (go_at_call 81; refine (HA.out).mono ?_; rintro e w2 ⟨rfl, m2⟩; have M2 := Lib.hid (M1.out.trans m2); have B2 := Lib.hid (HB.out.mods m2 (fun h => h)); obtain ⟨⟨x0, x1, x2, x3⟩, -⟩ := (HB.out.mods m2 (fun h => h)).four6; clear m2)
    have H2 := Lib.hid (H.out.mods M2.out)
    go_loopw [7] (fun x wr => ∃ (j : Nat), j ≤ m ∧ x = .int .i64 ((j : Int) - 1) ∧ lastW q (d.W.drop j) = none ∧ wr = w2) (fun x _ => (intOf x + 1).toNat)
    case atStart => exact ⟨m, Nat.le_refl _, rfl, by rw [List.drop_eq_nil_of_le (by rw [HMM.out]; omega)]; rfl, rfl⟩
    case round =>
      obtain ⟨j, hj, hx, hl, rfl⟩ := hrel
      have HL := Lib.hid hl
      clear hl
      rcases Nat.eq_zero_or_pos j with rfl | hj0
      · subst hx
        have hqL : q < d.L.length := by rw [HN.out]; exact hq
        obtain ⟨bA, offA, rfl, -, hc⟩ := H2.out.sure.at_ (by rw [strs_length]; omega)
        have c1 := hc q _ (strs_at (List.getElem?_eq_getElem hqL))
        have HLAT := Lib.hid (show d.lat q = d.L[q] from by
          unfold PD.lat
          have := HL.out
          rw [List.drop_zero] at this
          rw [this, Option.getD_none]
          simp [hqL])
        clear hc
        go_wp2_with fail
        go_ret2
        exact ⟨by rw [HLAT.out]; rfl, M2.out⟩
      · obtain ⟨p, rfl⟩ : ∃ p, j = p + 1 := ⟨j - 1, by omega⟩
        have hx2 : _ = Value.int .i64 (p : Int) := hx.trans (by congr 1; omega)
        subst hx2
        have hpW : p < d.W.length := by rw [HMM.out]; omega
        obtain ⟨⟨r, b⟩, hqb⟩ : ∃ x, d.W[p] = x := ⟨_, rfl⟩
        have HQB := Lib.hid (show d.W[p]? = some (r, b) by rw [List.getElem?_eq_getElem hpW, hqb])
        obtain ⟨bB, offB, rfl, e1, e2⟩ := H2.out.waits.at_ HQB.out
        have hpm : (p : Int) < (m : Int) := by omega
        have hp0 : (0 : Int) ≤ (p : Int) := by omega
        have hp1 : p < m := by omega
        clear hqb hx hj0
        clear hpW
        by_cases hri : r = q
        · subst hri
          have HLAT := Lib.hid (show d.lat r = b from by
            unfold PD.lat
            rw [lastW_found2 HQB.out HL.out, Option.getD_some])
          go_wp2_with fail
          go_ret2
          exact ⟨by rw [HLAT.out]; rfl, M2.out⟩
        · have hri' : decide ((r : Int) = (q : Int)) = false := by simpa using (show ¬ ((r : Int) = (q : Int)) by omega)
          have hri2 : decide (r = q) = false := by simpa using hri
          have HL2 := Lib.hid (lastW_less2 (i := q) HQB.out HL.out hri)
          go_wp2_with fail
          exact ⟨⟨p, by omega, rfl, HL2.out, trivial⟩, by simp [intOf]⟩
  · have e : d.read i = ([], d.at_ i) := by unfold PD.read; rw [if_pos ha]
    rw [e]
    have ha' : (d.at_ i != 0) = true := by simpa using ha
    generalize d.at_ i = x at *
    clear h e hn hm hd HB
    go_enter Try.func67, Try.ntmps67
    go_wp2_with (go_at_call 81; refine (HA.out).mono ?_; rintro e w2 ⟨rfl, m2⟩; have M2 := Lib.hid (M1.out.trans m2); clear m2)
    go_ret2
    exact ⟨rfl, M2.out⟩

theorem infoV : (Try.prog.info? 138).map (fun i => (i.zero, i.size, i.bytes)) = some (some (.agg #[.int .i64 0, .string ⟨#[]⟩]), 2, 24) := by kernel_rfl
theorem own2_at {w : World} {base n : Nat} {e : TypeId} {v : Value} {W : List (Nat × List UInt8)} (h : w.ownsRow base e 2 v n (vCs W)) : ∃ A c, v = .slice A n c ∧ Sl2 w A c W := by
  have hl := h.1
  rw [vCs_length] at hl
  have hcells := fun g hg j u hu => h.cells (g := g) hg j u hu
  rcases h.2 with ⟨rfl, rfl⟩ | ⟨g, cap, cur, rfl, hb, hgg, h1, h2, h3, h4⟩
  · have : W = [] := List.eq_nil_of_length_eq_zero (by omega)
    subst this
    exact ⟨none, 0, rfl, Sl2.none_ _⟩
  · refine ⟨_, cap, rfl, by omega, h2, (fun h => by cases h), .inr ⟨g, 0, rfl, fun j u hu => ?_⟩⟩
    have := hcells g rfl j u hu
    rwa [Addr.add_lit] at this
end Go.Proofs.Ytdllgmhipenidaa
end

section
/- The reference of layer 6: Write. -/
namespace Go.Proofs.Ytdllgmhipenidaa
set_option maxRecDepth 100000
open Go.RowKit
set_option linter.unusedVariables false

section
variable {P : Program}
theorem run_append_v (w : World) (base : Nat) (t ty e : TypeId) (i : TypeInfo) (z : Value) (bytes : Nat) (ht : P.underlying t = some (.slice e)) (hi : P.info? e = some i) (hz : i.zero = some z)
    (hsize : i.size = 2) (hby : i.bytes = bytes) (hzs : z.cells.size = 2)
    (v : Value) (n : Nat) (V : List (Nat × List UInt8)) (hown : w.ownsRow base e 2 v n (vCs V))
    (A : Option Addr) (m c : Nat) (W : List (Nat × List UInt8)) (hm : W.length = m) (hsl : Sl2 w A c W)
    (hbytes : (n + m) * bytes ≤ 140737488355328) (h63 : n + m ≤ maxLen) (hbase : base ≤ w.heap.size) :
    ∃ v' w', (Builtin.append_ #[t, t] ty #[v, .slice A m c]).run P w = .ok v' w' ∧ w'.ownsRow base e 2 v' (n + m) (vCs (V ++ W)) ∧ w.grownBy w' v.ownBlock := by
  subst hm
  have ev : vCs (V ++ W) = vCs V ++ vCs W := by simp [vCs]
  rw [ev]
  cases A with
  | none =>
    have hc := hsl.nil rfl
    have hle := hsl.le
    have hW : W = [] := List.eq_nil_of_length_eq_zero (by omega)
    subst hW
    subst hc
    have hrun := run_append_owned_none (P := P) (w := w) base t ty e i 2 ht hi v n (vCs V) hown
    exact ⟨v, w, hrun, by simpa [vCs] using hown, ⟨rfl, rfl, rfl, Nat.le_refl _, fun _ _ _ => rfl⟩⟩
  | some a =>
    obtain ⟨v', w', h1, h2, h3, -⟩ := run_append_own (P := P) w base t ty e i z 2 bytes ht hi hz hsize hby hzs (by omega) v n (vCs V) hown a W.length c (vCs W) (vCs_length W) (fun j u hu => by
      rcases hsl.has with rfl | ⟨b, off, hA, hc⟩
      · simp [vCs] at hu
      · injection hA with hA
        subst hA
        rw [Addr.add_lit]
        exact hc j u hu) (vCs_one W) h63 hbytes hbase
    exact ⟨v', w', h1, h2, h3⟩
theorem wpList_append_v (w : World) {ops : Array Oper} {rest : List Oper} {o : Oper} {a : Act} {Q : Exit → Act → World → Prop}
    (hg : o.guard = none) (s x : Operand) (t : TypeId) (hop : o.op = Op.call { callee := Callee.builtin Builtin.append, args := #[s, x], argTypes := #[t, t] })
    (base : Nat) (e : TypeId) (i : TypeInfo) (z : Value) (bytes : Nat) (ht : P.underlying t = some (.slice e)) (hi : P.info? e = some i) (hz : i.zero = some z)
    (hsize : i.size = 2) (hby : i.bytes = bytes) (hzs : z.cells.size = 2)
    (v : Value) (n : Nat) (V : List (Nat × List UInt8)) (hs : a.eval s = v) (hown : w.ownsRow base e 2 v n (vCs V))
    (A : Option Addr) (m c : Nat) (W : List (Nat × List UInt8)) (hx : a.eval x = .slice A m c) (hm : W.length = m) (hsl : Sl2 w A c W)
    (hbytes : (n + m) * bytes ≤ 140737488355328) (h63 : n + m ≤ maxLen) (hbase : base ≤ w.heap.size)
    (hK : ∀ A' c' w', w'.ownsRow base e 2 (.slice A' (n + m) c') (n + m) (vCs (V ++ W)) → Sl2 w' A' c' (V ++ W) → w.grownBy w' v.ownBlock → wpList P ops Q rest (a.put o.dst (.slice A' (n + m) c')) w') :
    wpList P ops Q (o :: rest) a w := by
  refine wpList_plain hg fun K hK' => ?_
  obtain ⟨v', w', hrun, h2, h3⟩ := run_append_v (P := P) w base t o.type e i z bytes ht hi hz hsize hby hzs v n V hown A m c W hm hsl hbytes h63 hbase
  obtain ⟨A', c', rfl, hs2⟩ := own2_at h2
  unfold Oper.wp
  simp [execOp, hop, resolve, invoke, builtin, hs, hx, hrun, Result.andThen]
  exact hK' _ _ (hK A' c' w' h2 hs2 h3)
end
/-- A disk by value, and an error, told. -/
def RTold6 (w : World) (d : PD) (err : Int) (e : Ending) (w' : World) : Prop :=
  ∃ A c B k, e = .returned (.tuple #[.agg #[.slice A d.L.length c, .slice B d.W.length k, .int .i64 d.left, .bool d.down], .int .i64 err]) ∧ RdAt w' A c B k d ∧ Mods Nil w w'
theorem two_rd {w w' : World} {a b c e : Value} (hm : Mods Nil ((w.alloc (.cells #[a, b, c, e] 31)).alloc (.cells #[.slice none 0 0, .slice none 0 0, .int .i64 0, .bool false] 31)) w') :
    Blk w' w.heap.size 31 #[a, b, c, e] ∧ Blk w' (w.heap.size + 1) 31 #[.slice none 0 0, .slice none 0 0, .int .i64 0, .bool false] := by
  have h1 := ((Blk.new w 31 #[a, b, c, e]).alloc (.cells #[.slice none 0 0, .slice none 0 0, .int .i64 0, .bool false] 31)).mods hm (fun h => h)
  have h2 := (Blk.new (w.alloc (.cells #[a, b, c, e] 31)) 31 #[.slice none 0 0, .slice none 0 0, .int .i64 0, .bool false]).mods hm (fun h => h)
  simp at h2
  exact ⟨h1, h2⟩

theorem one_v (w : World) {i : Int} (hi : i = (i.toNat : Int)) (b : List UInt8) : Sl2 (w.alloc (.cells #[.int .i64 i, .string (strOf b)] 138)) (some ⟨w.heap.size, 0, none⟩) 1 [(i.toNat, b)] := by
  refine ⟨by simp, by simp [maxLen], (fun h => by cases h), .inr ⟨w.heap.size, 0, rfl, fun j u hu => ?_⟩⟩
  have hb := (Blk.new w 138 #[.int .i64 i, .string (strOf b)]).cell (0 + j)
  rw [hb, Nat.zero_add]
  simp only [vCs, List.flatMap_cons, List.flatMap_nil, List.append_nil, vC] at hu
  rw [← hi] at hu
  simpa using hu
set_option maxHeartbeats 3200000 in
theorem r6write_any (w : World) {A B : Option Addr} {n c m k : Nat} {left : Int} {down : Bool} {d : PD} (h : RdAt w A c B k d) (hn : d.L.length = n) (hm : d.W.length = m) (hl : d.left = left) (hd : d.down = down) (hlim : m ≤ 1000) (h0 : -1 ≤ left) (h1 : left ≤ 9223372036854775807) (i : Int) {b : List UInt8} {q : Nat} (hq : b.length = q) (hi : d.at_ i = 0 → i = (i.toNat : Int)) :
    Calls Try.prog 28 #[.agg #[.slice A n c, .slice B m k, .int .i64 left, .bool down], .int .i64 i, .string (strOf b)] w (RTold6 w (d.write i b).1 (d.write i b).2) := by
  obtain ⟨i0, hi0, hz0, hz1, hz2⟩ := info_parts infoV
  have M1 := Lib.hid (((Mods.refl Nil w).alloc (.cells #[.slice A n c, .slice B m k, .int .i64 left, .bool down] 31)).alloc (.cells #[.slice none 0 0, .slice none 0 0, .int .i64 0, .bool false] 31))
  have HA := Lib.hid (fun W => rat_any W (A := A) (B := B) (c := c) (m := m) (k := k) (left := left) hn hd i)
  have HC := Lib.hid (fun W => rcount_any W (A := A) (B := B) (n := n) (c := c) (m := m) (k := k) hl hd h0 h1)
  have H := Lib.hid h
  have HN := Lib.hid hn
  have HMM := Lib.hid hm
  have hsz : (strOf b).size = q := by simp [hq]
  by_cases ha : d.at_ i = 0
  · rw [ha] at HA
    by_cases hb : q = 64
    · subst hb
      by_cases hc : d.count.2 = 0
      · have e : d.write i b = ({ d.count.1 with W := d.W ++ [(i.toNat, b)] }, 0) := by unfold PD.write; rw [if_neg (by simp [ha]), if_neg (by simp [hq]), if_neg (by simp [hc])]
        rw [e]
        rw [hc] at HC
        have CL := d.count_L
        have HII := Lib.hid (hi ha)
        obtain ⟨left2, hl2⟩ : ∃ x, d.count.1.left = x := ⟨_, rfl⟩
        obtain ⟨down2, hd2⟩ : ∃ x, d.count.1.down = x := ⟨_, rfl⟩
        rw [hl2, hd2] at HC
        have HL2 := Lib.hid hl2
        have HD2 := Lib.hid hd2
        have HCL := Lib.hid CL
        clear h hn hm hl hd ha hc e h0 h1 hi CL hl2 hd2
        go_enter Try.func28, Try.ntmps28
        obtain ⟨b1, z1⟩ := two_rd (w := w) (a := .slice A n c) (b := .slice B m k) (c := .int .i64 left) (e := .bool down) (Mods.refl Nil _)
        obtain ⟨⟨x0, x1, x2, x3⟩, -⟩ := b1.four6
        have B1 := Lib.hid b1
        have Z1 := Lib.hid z1
        clear b1 z1
        go_wp2_with (first
          | (go_at_call 81; refine (HA.out _).mono ?_; rintro e w2 ⟨rfl, m2⟩; have M2 := Lib.hid (M1.out.trans m2); have B2 := Lib.hid (B1.out.mods m2 (fun h => h)); have Z2 := Lib.hid (Z1.out.mods m2 (fun h => h)); obtain ⟨⟨y0, y1, y2, y3⟩, -⟩ := B2.out.four6; clear m2)
          | (go_at_call 82; refine (HC.out _).mono ?_; rintro e w3 ⟨rfl, m3⟩; have M3 := Lib.hid (M2.out.trans m3); have B3 := Lib.hid (B2.out.mods m3 (fun h => h)); have Z3 := Lib.hid (Z2.out.mods m3 (fun h => h)); clear m3)
          | (refine wpList_store_mk rfl 31 (.tmp 3) (.tmp 24) rfl rfl w.heap.size rfl 31 #[.slice A n c, .slice B m k, .int .i64 left, .bool down] #[.slice A n c, .slice B m k, .int .i64 left2, .bool down2] rfl B3.out rfl (by simp [Value.oneCell']) rd_info (by simp [Value.cells]) ?_; intro w4 b4 m4; have B4 := Lib.hid b4; have Z4 := Lib.hid (Z3.out.mods m4 (by omega)); have M4 := Lib.hid (M3.out.trans2 m4 (fun i hi e => by subst e; exact Nat.lt_irrefl _ hi)); obtain ⟨⟨s0, s1, s2, s3⟩, -⟩ := b4.four6; clear b4 m4)
          | (at_builtin; refine wpList_append_v _ rfl (.tmp 30) (.tmp 32) 29 rfl w.heap.size 138 i0 (.agg #[.int .i64 0, .string ⟨#[]⟩]) 24 Try.underlying29 hi0 hz0 hz1 hz2 rfl (.slice none 0 0) 0 [] rfl (World.ownsRow_nil _ _ _ _) B m k d.W rfl HMM.out ((H.out.waits).mods M4.out) (by omega) (by unfold maxLen; omega) M4.out.size ?_; intro A5 c5 w5 o5 s5 g5; simp only [Nat.zero_add, List.nil_append] at o5 s5 ⊢; have m45 : Mods Nil w4 w5 := (Mods.refl Nil w4).grown g5 (fun k hk => by simp [Value.ownBlock] at hk); have B5 := Lib.hid (B4.out.mods m45 (fun h => h)); have Z5 := Lib.hid (Z4.out.mods m45 (fun h => h)); have M5 := Lib.hid (M4.out.trans m45); have O5 := Lib.hid o5; have NEW := Lib.hid (one_v w5 HII.out b); have O55 := Lib.hid (own_mods O5.out ((Mods.refl Nil w5).alloc (.cells #[.int .i64 i, .string (strOf b)] 138)) (fun _ _ h => h)); clear o5 s5 g5 m45)
          | (at_builtin; refine wpList_append_v _ rfl (.tmp 34) (.tmp 38) 29 rfl w.heap.size 138 i0 (.agg #[.int .i64 0, .string ⟨#[]⟩]) 24 Try.underlying29 hi0 hz0 hz1 hz2 rfl (.slice A5 m c5) m d.W rfl O55.out (some ⟨w5.heap.size, 0, none⟩) 1 1 [(i.toNat, b)] rfl rfl NEW.out (by omega) (by unfold maxLen; omega) (by have := M5.out.size; simp; omega) ?_; intro A6 c6 w6 o6 s6 g6; have b6 := (B5.out.alloc (.cells #[.int .i64 i, .string (strOf b)] 138)).grown g6 (fun e => own_blk_ne O5.out B5.out (by decide) e.symm); have z6 := (Z5.out.alloc (.cells #[.int .i64 i, .string (strOf b)] 138)).grown g6 (fun e => own_blk_ne O5.out Z5.out (by decide) e.symm); have M6 := Lib.hid ((M5.out.alloc (.cells #[.int .i64 i, .string (strOf b)] 138)).grown g6 (fun k hk hlt => absurd hlt (by have := (O5.out.lt k hk).1; omega))); obtain ⟨⟨t0, t1, t2, t3⟩, u0, u1, u2, u3⟩ := b6.four6; have hset : Mods (fun k => k = w.heap.size) w6 (w6.setCell ⟨w.heap.size, 1, none⟩ (.slice A6 (m + 1) c6)) := Mods.setCell (S := fun k => k = w.heap.size) (p := ⟨w.heap.size, 1, none⟩) (Mods.refl _ _) (fun _ => rfl) _; have O7 := Lib.hid (own_mods o6 hset (fun k hk e => own_blk_ne o6 b6 (by decide) (by rw [hk, e]))); have b7 := b6.set_ 1 (.slice A6 (m + 1) c6); simp only [List.setIfInBounds_toArray, List.set_cons_succ, List.set_cons_zero] at b7; obtain ⟨⟨v0, v1, v2, v3⟩, -⟩ := b7.four6; have Z7 := Lib.hid (z6.mods hset (by omega)); have M7 := Lib.hid (M6.out.setNew (p := ⟨w.heap.size, 1, none⟩) (Nat.le_refl _) (.slice A6 (m + 1) c6)); clear o6 s6 g6 b6 z6 hset b7)
          | (refine wpList_store_mk rfl 31 (.tmp 6) (.tmp 41) rfl rfl (w.heap.size + 1) rfl 31 #[.slice none 0 0, .slice none 0 0, .int .i64 0, .bool false] #[.slice A n c, .slice A6 (m + 1) c6, .int .i64 left2, .bool down2] rfl Z7.out rfl (by simp [Value.oneCell']) rd_info (by simp [Value.cells]) ?_; intro w8 b8 m8; obtain ⟨⟨s0, s1, s2, s3⟩, -⟩ := b8.four6; have O8 := Lib.hid (own_mods O7.out m8 (fun k hk e => own_blk_ne O7.out Z7.out (by decide) (by rw [hk, e]))); have M8 := Lib.hid (M7.out.trans2 m8 (fun i hi e => by subst e; omega)); clear b8 m8))
        obtain ⟨A9, c9, hv9, s9⟩ := own2_at O8.out
        injection hv9 with e1 e2 e3
        subst e1; subst e3
        refine bodyPost_ret (v := .tuple #[.agg #[.slice A n c, .slice A6 (m + 1) c6, .int .i64 left2, .bool down2], .int .i64 0]) (by simp [results, Try.results28, go_sem, s0, s1, s2, s3]) rfl ?_
        refine ⟨A, c, A6, c6, ?_, ⟨?_, s9, H.out.tyA.mods M8.out (fun _ _ h => h), own_ty6 O8.out⟩, M8.out⟩
        · simp only [List.length_append, List.length_cons, List.length_nil, Nat.zero_add, HCL.out.1, HN.out, HMM.out, HL2.out, HD2.out]
        · show Sl w8 A c (strs d.count.1.L)
          rw [HCL.out.1]
          exact H.out.sure.mods M8.out (fun _ _ h => h)
      · have e : d.write i b = d.count := by unfold PD.write; rw [if_neg (by simp [ha]), if_neg (by simp [hq]), if_pos hc]
        rw [e]
        have hc' : (d.count.2 != 0) = true := by simpa using hc
        have CL := d.count_L
        obtain ⟨left2, hl2⟩ : ∃ x, d.count.1.left = x := ⟨_, rfl⟩
        obtain ⟨down2, hd2⟩ : ∃ x, d.count.1.down = x := ⟨_, rfl⟩
        obtain ⟨err, herr⟩ : ∃ x, d.count.2 = x := ⟨_, rfl⟩
        rw [herr] at hc' HC ⊢
        rw [hl2, hd2] at HC
        have HL2 := Lib.hid hl2
        have HD2 := Lib.hid hd2
        have HCL := Lib.hid CL
        clear h hn hm hl hd ha hc e h0 h1 hi CL hl2 hd2 herr
        go_enter Try.func28, Try.ntmps28
        obtain ⟨b1, z1⟩ := two_rd (w := w) (a := .slice A n c) (b := .slice B m k) (c := .int .i64 left) (e := .bool down) (Mods.refl Nil _)
        obtain ⟨⟨x0, x1, x2, x3⟩, -⟩ := b1.four6
        have B1 := Lib.hid b1
        have Z1 := Lib.hid z1
        clear b1 z1
        go_wp2_with (first
          | (go_at_call 81; refine (HA.out _).mono ?_; rintro e w2 ⟨rfl, m2⟩; have M2 := Lib.hid (M1.out.trans m2); have B2 := Lib.hid (B1.out.mods m2 (fun h => h)); have Z2 := Lib.hid (Z1.out.mods m2 (fun h => h)); obtain ⟨⟨y0, y1, y2, y3⟩, -⟩ := B2.out.four6; clear m2)
          | (go_at_call 82; refine (HC.out _).mono ?_; rintro e w3 ⟨rfl, m3⟩; have M3 := Lib.hid (M2.out.trans m3); have B3 := Lib.hid (B2.out.mods m3 (fun h => h)); have Z3 := Lib.hid (Z2.out.mods m3 (fun h => h)); clear m3)
          | (refine wpList_store_mk rfl 31 (.tmp 3) (.tmp 24) rfl rfl w.heap.size rfl 31 #[.slice A n c, .slice B m k, .int .i64 left, .bool down] #[.slice A n c, .slice B m k, .int .i64 left2, .bool down2] rfl B3.out rfl (by simp [Value.oneCell']) rd_info (by simp [Value.cells]) ?_; intro w4 b4 m4; have B4 := Lib.hid b4; have Z4 := Lib.hid (Z3.out.mods m4 (by omega)); have M4 := Lib.hid (M3.out.trans2 m4 (fun i hi e => by subst e; exact Nat.lt_irrefl _ hi)); obtain ⟨⟨t0, t1, t2, t3⟩, -⟩ := b4.four6; clear b4 m4)
          | (refine wpList_store_mk rfl 31 (.tmp 6) (.tmp 28) rfl rfl (w.heap.size + 1) rfl 31 #[.slice none 0 0, .slice none 0 0, .int .i64 0, .bool false] #[.slice A n c, .slice B m k, .int .i64 left2, .bool down2] rfl Z4.out rfl (by simp [Value.oneCell']) rd_info (by simp [Value.cells]) ?_; intro w8 b8 m8; obtain ⟨⟨s0, s1, s2, s3⟩, -⟩ := b8.four6; have M8 := Lib.hid (M4.out.trans2 m8 (fun i hi e => by subst e; omega)); clear b8 m8))
        refine bodyPost_ret (v := .tuple #[.agg #[.slice A n c, .slice B m k, .int .i64 left2, .bool down2], .int .i64 err]) (by simp [results, Try.results28, go_sem, s0, s1, s2, s3]) rfl ?_
        refine ⟨A, c, B, k, by simp only [HCL.out.1, HCL.out.2, HN.out, HMM.out, HL2.out, HD2.out], (H.out.of HCL.out.1 HCL.out.2).mods M8.out, M8.out⟩
    · have e : d.write i b = (d, 1) := by unfold PD.write; rw [if_neg (by simp [ha]), if_pos (by omega)]
      rw [e]
      have hbI : decide ((q : Int) = 64) = false := by simp; omega
      have HL := Lib.hid hl
      have HD := Lib.hid hd
      clear h hn hm hl hd ha e h0 h1 hi HC
      go_enter Try.func28, Try.ntmps28
      obtain ⟨b1, z1⟩ := two_rd (w := w) (a := .slice A n c) (b := .slice B m k) (c := .int .i64 left) (e := .bool down) (Mods.refl Nil _)
      obtain ⟨⟨x0, x1, x2, x3⟩, -⟩ := b1.four6
      have B1 := Lib.hid b1
      have Z1 := Lib.hid z1
      clear b1 z1
      go_wp2_with (first
        | (go_at_call 81; refine (HA.out _).mono ?_; rintro e w2 ⟨rfl, m2⟩; have M2 := Lib.hid (M1.out.trans m2); have B2 := Lib.hid (B1.out.mods m2 (fun h => h)); have Z2 := Lib.hid (Z1.out.mods m2 (fun h => h)); obtain ⟨⟨y0, y1, y2, y3⟩, -⟩ := B2.out.four6; clear m2)
        | (refine wpList_store_mk rfl 31 (.tmp 6) (.tmp 20) rfl rfl (w.heap.size + 1) rfl 31 #[.slice none 0 0, .slice none 0 0, .int .i64 0, .bool false] #[.slice A n c, .slice B m k, .int .i64 left, .bool down] rfl Z2.out rfl (by simp [Value.oneCell']) rd_info (by simp [Value.cells]) ?_; intro w8 b8 m8; obtain ⟨⟨s0, s1, s2, s3⟩, -⟩ := b8.four6; have M8 := Lib.hid (M2.out.trans2 m8 (fun i hi e => by subst e; omega)); clear b8 m8))
      refine bodyPost_ret (v := .tuple #[.agg #[.slice A n c, .slice B m k, .int .i64 left, .bool down], .int .i64 1]) (by simp [results, Try.results28, go_sem, s0, s1, s2, s3]) rfl ?_
      refine ⟨A, c, B, k, by simp only [HN.out, HMM.out, HL.out, HD.out], H.out.mods M8.out, M8.out⟩
  · have e : d.write i b = (d, d.at_ i) := by unfold PD.write; rw [if_pos ha]
    rw [e]
    have ha' : (d.at_ i != 0) = true := by simpa using ha
    obtain ⟨err, herr⟩ : ∃ x, d.at_ i = x := ⟨_, rfl⟩
    rw [herr] at ha' HA ⊢
    have HL := Lib.hid hl
    have HD := Lib.hid hd
    clear h hn hm hl hd ha e h0 h1 hi HC herr
    go_enter Try.func28, Try.ntmps28
    obtain ⟨b1, z1⟩ := two_rd (w := w) (a := .slice A n c) (b := .slice B m k) (c := .int .i64 left) (e := .bool down) (Mods.refl Nil _)
    obtain ⟨⟨x0, x1, x2, x3⟩, -⟩ := b1.four6
    have B1 := Lib.hid b1
    have Z1 := Lib.hid z1
    clear b1 z1
    go_wp2_with (first
      | (go_at_call 81; refine (HA.out _).mono ?_; rintro e w2 ⟨rfl, m2⟩; have M2 := Lib.hid (M1.out.trans m2); have B2 := Lib.hid (B1.out.mods m2 (fun h => h)); have Z2 := Lib.hid (Z1.out.mods m2 (fun h => h)); obtain ⟨⟨y0, y1, y2, y3⟩, -⟩ := B2.out.four6; clear m2)
      | (refine wpList_store_mk rfl 31 (.tmp 6) (.tmp 15) rfl rfl (w.heap.size + 1) rfl 31 #[.slice none 0 0, .slice none 0 0, .int .i64 0, .bool false] #[.slice A n c, .slice B m k, .int .i64 left, .bool down] rfl Z2.out rfl (by simp [Value.oneCell']) rd_info (by simp [Value.cells]) ?_; intro w8 b8 m8; obtain ⟨⟨s0, s1, s2, s3⟩, -⟩ := b8.four6; have M8 := Lib.hid (M2.out.trans2 m8 (fun i hi e => by subst e; omega)); clear b8 m8))
    refine bodyPost_ret (v := .tuple #[.agg #[.slice A n c, .slice B m k, .int .i64 left, .bool down], .int .i64 err]) (by simp [results, Try.results28, go_sem, s0, s1, s2, s3]) rfl ?_
    refine ⟨A, c, B, k, by simp only [HN.out, HMM.out, HL.out, HD.out], H.out.mods M8.out, M8.out⟩
end Go.Proofs.Ytdllgmhipenidaa
end
