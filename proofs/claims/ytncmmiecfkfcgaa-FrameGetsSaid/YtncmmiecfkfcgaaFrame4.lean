/- Package frame: all whole frames at the front of bytes: the iterator. -/
import Derived.Test.YtncmmiecfkfcgaaFrame2
import Derived.Test.YtncmmiecfkfcgaaRange
namespace Go.Proofs.Ytncmmiecfkfcgaa
open Go.RowKit Go.Shelf
set_option linter.unusedVariables false

attribute [local go_sem] Oper.semAt_some

/-- A frame in memory: where its bytes lie, their room, its kind, its bytes. -/
structure Fr where
  A : Option Addr
  c : Nat
  k : UInt8
  xs : List UInt8
def Fr.cells (f : Fr) : List Value := [.int .u8 (f.k.toNat : Int), .slice f.A f.xs.length f.c]
def Fr.agg (f : Fr) : Value := .agg #[.int .u8 (f.k.toNat : Int), .slice f.A f.xs.length f.c]
/-- Its bytes lie at base or behind, in a block of bytes. -/
def Fr.ok (base : Nat) (w : World) (f : Fr) : Prop := Sl w f.A f.c (bts f.xs) ∧ ∀ a, f.A = some a → base ≤ a.block ∧ ∃ cs, Blk w a.block 5 cs
theorem Fr.ok.mods {S : Nat → Prop} {base : Nat} {w w' : World} {f : Fr} (h : f.ok base w) (hm : Mods S w w') (hS : ∀ k, S k → k < base ∨ ∃ t cs, t ≠ 5 ∧ Blk w k t cs) : f.ok base w' := by
  have off : Off S f.A := fun a ha hs => by
    rcases hS _ hs with h1 | ⟨t, cs, ht, hb⟩
    · have := (h.2 a ha).1; omega
    · obtain ⟨cs', hb'⟩ := (h.2 a ha).2
      exact Blk.ne_ hb hb' ht rfl
  exact ⟨h.1.mods hm off, fun a ha => ⟨(h.2 a ha).1, by obtain ⟨cs, hb⟩ := (h.2 a ha).2; exact ⟨cs, hb.mods hm (off a ha)⟩⟩⟩
def frs (l : List Fr) : List Value := l.flatMap Fr.cells
theorem frs_append (l m : List Fr) : frs (l ++ m) = frs l ++ frs m := by simp [frs]
theorem frs_snoc (l : List Fr) (f : Fr) : frs (l ++ [f]) = frs l ++ f.cells := by simp [frs]
theorem frs_length (l : List Fr) : (frs l).length = l.length * 2 := by
  induction l with
  | nil => rfl
  | cons f l ih =>
    have : frs (f :: l) = f.cells ++ frs l := by simp [frs]
    rw [this, List.length_append, ih]
    simp [Fr.cells]; omega
def plainOf (l : List (Fr × Nat)) : List (UInt8 × List UInt8) := l.map fun f => (f.1.k, f.1.xs)
def sumN (l : List (Fr × Nat)) : Nat := (l.map (·.2)).sum
theorem plainOf_snoc (l : List (Fr × Nat)) (x : Fr × Nat) : plainOf (l ++ [x]) = plainOf l ++ [(x.1.k, x.1.xs)] := by simp [plainOf]
theorem sumN_snoc (l : List (Fr × Nat)) (x : Fr × Nat) : sumN (l ++ [x]) = sumN l + x.2 := by simp [sumN]
def encF (x : Fr × Nat) : Array Value := #[x.1.agg, .int .i64 (x.2 : Int)]

theorem each_any (w : World) (A : Option Addr) (n c : Nat) :
    Calls Try.prog 20 #[.slice A n c] w fun e w' => e = .returned (.func (.func 35) #[] #[.pointer (some ⟨w.heap.size, 0, none⟩)]) ∧ w' = w.alloc (.cells #[.slice A n c] 22) := by
  go_enter Try.func20, Try.ntmps20
  go_wp2
  go_ret
  exact ⟨rfl, rfl⟩

/-- How many bytes a box's slice has. -/
def lenAt (w : World) (g : Nat) : Nat :=
  match w.cell? ⟨g, 0, none⟩ with
  | some (.slice _ n _) => n
  | _ => 0
theorem lenAt_of {w : World} {g : Nat} {t : TypeId} {A : Option Addr} {n c : Nat} (h : Blk w g t #[.slice A n c]) : lenAt w g = n := by
  unfold lenAt
  have := h.cell 0
  simp at this
  rw [this]

/-- Where the iterator stands: what has come, what is left. -/
structure Left (wr : World) (Bn base : Nat) (A : Option Addr) (xs : List UInt8) (pre : List (Fr × Nat)) (A2 : Option Addr) (m2 c2 : Nat) (rest : List UInt8) : Prop where
  blk : Blk wr Bn 22 #[.slice A2 m2 c2]
  len : rest.length = m2
  sl : Sl wr A2 c2 (bts rest)
  same : ∀ a, A2 = some a → ∃ a0, A = some a0 ∧ a0.block = a.block
  one : (allOf xs).1 = plainOf pre ++ (allOf rest).1
  two : (allOf xs).2 = sumN pre + (allOf rest).2
  six : pre.length * 6 + rest.length ≤ xs.length
  all : sumN pre + rest.length = xs.length

set_option maxRecDepth 100000 in
set_option maxHeartbeats 4000000 in
theorem each1_in (l Bn base : Nat) (A : Option Addr) (c n : Nat) (xs : List UInt8) (W : World) (hn : xs.length = n) (hB : Blk W Bn 22 #[.slice A n c]) (hs : Sl W A c (bts xs)) (hA : xs ≠ [] → ∀ a, A = some a → a.block ≠ Bn)
    (K : Nat → Prop) (hKB : ¬ K Bn) (hKA : xs ≠ [] → ∀ a, A = some a → ¬ K a.block) (hbase : base ≤ W.heap.size)
    (J : List (Fr × Nat) → World → Prop) (hJ : ∀ pre A B, J pre A → Mods (fun k => k = Bn) A B → J pre B)
    (hY : ∀ pre x W1, J pre W1 → (x.1.ok base W1 ∧ pre.length * 6 + 6 ≤ xs.length ∧ sumN pre + x.2 ≤ xs.length) → YieldAt Fence.wide 7 Try.prog l (encF x) W1 fun e W' => e = .returned (.bool true) ∧ J (pre ++ [x]) W' ∧ Mods K W1 W')
    (h0 : J [] W) :
    CallsIn Fence.wide 8 Try.prog 35 #[.func (.yield l) #[] #[], .pointer (some ⟨Bn, 0, none⟩)] W fun e W' => (∃ v, e = .returned v) ∧ ∃ pre, (plainOf pre = (allOf xs).1 ∧ sumN pre = (allOf xs).2) ∧ J pre W' := by
  have HY := Lib.hid hY
  have HJ := Lib.hid hJ
  have HKA := Lib.hid hKA
  have HA := Lib.hid hA
  have hstart : Left W Bn base A xs [] A n c xs := ⟨hB, hn, hs, fun a ha => ⟨a, ha, rfl⟩, by simp [plainOf], by simp [sumN], by simp, by simp [sumN]⟩
  clear hY hJ hKA hA hB hs
  refine callsIn_of_wp Try.func35 rfl trivial ?_ rfl
  simp only [Try.ntmps35, List.size_toArray, List.length_cons, List.length_nil, Nat.reduceAdd, Nat.reduceSub, Array.replicate_succ, Array.replicate_zero, List.push_toArray, List.append_toArray, List.nil_append, List.cons_append]
  gi_wp2
  gi_loopw [] (fun wr => ∃ pre A2 m2 c2 rest, Left wr Bn base A xs pre A2 m2 c2 rest ∧ J pre wr ∧ base ≤ wr.heap.size) (fun wr => lenAt wr Bn)
  case atStart => exact ⟨[], A, n, c, xs, hstart, h0, hbase⟩
  case round =>
    clear hstart h0
    obtain ⟨pre, A2, m2, c2, rest, hl, hj, hb⟩ := hrel
    have hc0 := hl.blk.cell 0
    have hf0 := hl.blk.frozen 0
    simp at hc0
    have HL := Lib.hid hl
    have HJP := Lib.hid hj
    have hmeas := lenAt_of hl.blk
    have HM := Lib.hid hmeas
    clear hl hj hmeas
    by_cases hE : getE rest = 0
    · obtain ⟨kk, hkk⟩ : ∃ kk, getK rest = kk := ⟨_, rfl⟩
      obtain ⟨bb, hbb⟩ : ∃ bb, getB rest = bb := ⟨_, rfl⟩
      obtain ⟨nn, hnn⟩ : ∃ nn, getN rest = nn := ⟨_, rfl⟩
      have hgo := allOf_go hE
      rw [hkk, hbb, hnn] at hgo
      have h6 := getN_pos rest
      have hle : nn ≤ m2 := by have := (getE_zero hE).2.2.1; rw [hnn, HL.out.len] at this; exact this
      rw [hnn] at h6
      have GK : gotK rest = kk := by unfold gotK; rw [if_pos hE, hkk]
      have GB : gotB rest = bb := by unfold gotB; rw [if_pos hE, hbb]
      have GN : gotN rest = nn := by unfold gotN; rw [if_pos hE, hnn]
      have HE := Lib.hid hE
      have HGO := Lib.hid hgo
      have HK := Lib.hid GK
      have HBB := Lib.hid GB
      have HN := Lib.hid GN
      have hmc : m2 ≤ c2 ∧ c2 ≤ maxLen := ⟨by have := HL.out.sl.le; rw [bts_length, HL.out.len] at this; exact this, HL.out.sl.max⟩
      have hm63 : m2 ≤ 9223372036854775807 := by have := hmc.2; unfold maxLen at this; omega
      have hxne : xs ≠ [] := by intro h; have e1 := HL.out.six; have e2 := HL.out.len; have e3 : xs.length = 0 := (by rw [h]; rfl); omega
      have hA := HA.out hxne
      have hKA := HKA.out hxne
      replace HA := Lib.hid hA
      replace HKA := Lib.hid hKA
      clear hE hkk hbb hnn hgo GK GB GN hxne hA hKA
      obtain ⟨A4, hA4⟩ : ∃ A4, (if c2 = nn then A2 else A2.map (·.add nn)) = A4 := ⟨_, rfl⟩
      have q2 : ∀ W : World, (Instr.slice 22 (.slice A2 m2 c2) (some (.int .i64 (nn : Int))) none none).run Try.prog W = .ok (.slice A4 (m2 - nn) (c2 - nn)) W := by
        intro W
        rw [← hA4, run_slice_l (P := Try.prog) W _ A2 m2 c2 (by exact Try.underlying22) .i64 (nn : Int) (by omega) (by omega)]
        rw [sizeByte]
        simp [Result.andThen, sliced]
      have HA4 := Lib.hid hA4
      clear hA4
      gi_wp2_with (refine ⟨trivial, ?_⟩; gi_at_call 10; refine (callsIn_wide.2 (get_any HL.out.len HL.out.sl)).mono ?_; rintro e w2 ⟨A3, c3, he, s3, b3, m3⟩; rw [HE.out, HK.out, HBB.out, HN.out] at he; rw [HBB.out] at s3; subst he; have bF := Blk.new w2 25 #[.int .u8 (kk.toNat : Int), .slice A3 bb.length c3]; obtain ⟨d0, d1, d2, d3⟩ := bF.two; have m4 := m3.alloc (.cells #[.int .u8 (kk.toNat : Int), .slice A3 bb.length c3] 25); have s4 := s3.alloc (.cells #[.int .u8 (kk.toNat : Int), .slice A3 bb.length c3] 25); have M4 := Lib.hid m4; have yy := HY.out pre (⟨A3, c3, kk, bb⟩, nn) _ (HJ.out _ _ _ HJP.out (m4.mono (fun _ _ h => h.elim))) ⟨⟨s4, fun a ha => ⟨Nat.le_trans hb (b3 a ha).1, by obtain ⟨cs, hbk⟩ := (b3 a ha).2; exact ⟨cs, hbk.alloc _⟩⟩⟩, (by have := HL.out.six; have := HL.out.len; omega), (by have := HL.out.all; have := HL.out.len; show sumN pre + nn ≤ xs.length; omega)⟩; obtain ⟨fn, tmps, assign, body, hy, hR⟩ := yy; dsimp only [encF, Fr.agg] at hy; have HR := Lib.hid hR; clear hR m4 s3 s4 b3 m3 bF)
      refine HR.out.mono ?_
      rintro e W5 ⟨rfl, hj5, m5⟩
      have b5 := (HL.out.blk.mods M4.out (fun h => h)).mods m5 hKB
      have hc5 := b5.cell 0
      have hf5 := b5.frozen 0
      simp at hc5
      have s5 : Sl W5 A2 c2 (bts rest) := ((HL.out.sl.mods M4.out (fun _ _ h => h)).mods m5 (fun a ha h => by obtain ⟨a0, h1, h2⟩ := HL.out.same a ha; exact HKA.out a0 h1 (by rw [h2]; exact h)))
      have S5 := Lib.hid s5
      have B5 := Lib.hid b5
      have J5 := Lib.hid hj5
      have M5 := Lib.hid m5
      clear s5 b5 hj5 m5 hy
      gi_wp2
      have MB : ∀ v, Mods (fun k => k = Bn) W5 (W5.setCell ⟨Bn, 0, none⟩ v) := fun v => Mods.setCell (S := fun k => k = Bn) (Mods.refl _ _) (fun _ => rfl) v
      have bN := B5.out.set_ 0 (.slice A4 (m2 - nn) (c2 - nn))
      have hsame : ∀ a, A4 = some a → ∃ a0, A = some a0 ∧ a0.block = a.block := by
        intro a ha
        rw [← HA4.out] at ha
        split at ha
        · exact HL.out.same a ha
        · cases A2 with
          | none => simp at ha
          | some a2 =>
            obtain ⟨a0, h1, h2⟩ := HL.out.same a2 rfl
            simp at ha
            refine ⟨a0, h1, ?_⟩
            rw [← ha, h2]
            unfold Addr.add
            split <;> rfl
      have sN := S5.out.cut (k := nn) (by rw [bts_length, HL.out.len]; exact hle)
      rw [HA4.out, bts_drop] at sN
      have hlen := HL.out.len
      refine ⟨⟨pre ++ [(⟨A3, c3, kk, bb⟩, nn)], A4, m2 - nn, c2 - nn, rest.drop nn, ⟨by simpa using bN, by simp; omega, sN.mods (MB _) (fun a ha h => ?_), hsame, ?_, ?_, ?_, ?_⟩, HJ.out _ _ _ J5.out (MB _), ?_⟩, ?_⟩
      · obtain ⟨a0, h1, h2⟩ := hsame a ha
        exact HA.out a0 h1 (by rw [h2]; exact h)
      · rw [HL.out.one, HGO.out, plainOf_snoc]; simp
      · rw [HL.out.two, HGO.out, sumN_snoc]; simp; omega
      · have := HL.out.six; simp; omega
      · have := HL.out.all; rw [sumN_snoc]; simp; omega
      · have := M5.out.size; have := M4.out.size; simp [World.setCell]; omega
      · rw [lenAt_of (by simpa using bN), HM.out]; omega
    · obtain ⟨E, hEE⟩ : ∃ E, getE rest = E := ⟨_, rfl⟩
      have hst := allOf_stop hE
      rw [hEE] at hE
      have HE := Lib.hid hEE
      have H0 := Lib.hid hE
      have HST := Lib.hid hst
      have hb2 : (E != 0) = true := by simp [hE]
      have hb3 : (E == 0) = false := by simp [hE]
      clear hE hEE hst
      gi_wp2_with (refine ⟨trivial, ?_⟩; gi_at_call 10; refine (callsIn_wide.2 (get_any HL.out.len HL.out.sl)).mono ?_; rintro e w2 ⟨A3, c3, he, s3, b3, m3⟩; rw [HE.out] at he; subst he; have M3 := Lib.hid m3; clear s3 b3 m3)
      refine ⟨fun _ h => (by cases h), ?_⟩
      gi_wp2
      refine bodyPost_ret (results_none rfl _ _ _) rfl ?_
      refine ⟨⟨_, rfl⟩, pre, ⟨?_, ?_⟩, HJ.out _ _ _ HJP.out ?_⟩
      · rw [HL.out.one, HST.out]; simp
      · rw [HL.out.two, HST.out]; simp
      · refine Mods.mono (S := Nil) ?_ (fun _ _ h => h.elim)
        exact M3.out.alloc _
end Go.Proofs.Ytncmmiecfkfcgaa
