/- Texts laid as one: Msg2, Msg3, Msg4. -/
import Derived.Test.YtlheaicojmjdpaaDoorMsgA
import Derived.Test.YtlheaicojmjdpaaDoorBaseM
import Derived.Test.YtlheaicojmjdpaaDoorOpen
import Derived.Outline
import Derived.WalkLawsBesides
import Derived.Test.YtlheaicojmjdpaaDoorRangeM
import Derived.Laws.BitsAllLaws
import Derived.BigQuiet
import Derived.Deep.QuietTactic

section
/- Package msg: what a message is in memory; the small calls: isKind, amount, most, tooMuch, setNumber. -/
namespace Go.Proofs.YtlheaicojmjdpaaDoor
set_option maxRecDepth 100000
open Go.RowKit
set_option linter.unusedVariables false

/-- Where a message's numbers and bytes lie, and their room. -/
structure Loc where
  Av : Option Addr := none
  cv : Nat := 0
  Ab : Option Addr := none
  cb : Nat := 0
def MC (m : PM) (L : Loc) : Array Value :=
  #[.int .i64 m.kind, .int .u64 m.ballot, .int .u64 m.slot, .int .i64 m.shard, .int .i64 m.seg, .int .u64 m.client, .int .u64 m.seq, .int .u64 m.pos, .int .i64 m.code, .slice L.Av m.vec.length L.cv, .slice L.Ab m.body.length L.cb]
structure In (w : World) (m : PM) (L : Loc) : Prop where
  v : Sl w L.Av L.cv (nums m.vec)
  b : Sl w L.Ab L.cb (bts m.body)
theorem In.mods {w w' : World} {m : PM} {L : Loc} (h : In w m L) (hm : Mods Nil w w') : In w' m L := ⟨h.v.mods hm (fun _ _ h => h), h.b.mods hm (fun _ _ h => h)⟩
theorem Blk.mc {w : World} {g : Nat} {t : TypeId} {m : PM} {L : Loc} (h : Blk w g t (MC m L)) :
    w.cell? ⟨g, 0, none⟩ = some (.int .i64 m.kind) ∧ w.cell? ⟨g, 1, none⟩ = some (.int .u64 m.ballot) ∧ w.cell? ⟨g, 2, none⟩ = some (.int .u64 m.slot) ∧
    w.cell? ⟨g, 3, none⟩ = some (.int .i64 m.shard) ∧ w.cell? ⟨g, 4, none⟩ = some (.int .i64 m.seg) ∧ w.cell? ⟨g, 5, none⟩ = some (.int .u64 m.client) ∧
    w.cell? ⟨g, 6, none⟩ = some (.int .u64 m.seq) ∧ w.cell? ⟨g, 7, none⟩ = some (.int .u64 m.pos) ∧ w.cell? ⟨g, 8, none⟩ = some (.int .i64 m.code) ∧
    w.cell? ⟨g, 9, none⟩ = some (.slice L.Av m.vec.length L.cv) ∧ w.cell? ⟨g, 10, none⟩ = some (.slice L.Ab m.body.length L.cb) :=
  ⟨h.cell 0, h.cell 1, h.cell 2, h.cell 3, h.cell 4, h.cell 5, h.cell 6, h.cell 7, h.cell 8, h.cell 9, h.cell 10⟩

theorem isKind_any (k : Int) (w : World) : Calls Tryd.prog 23 #[.int .i64 k] w fun e w' => e = .returned (.bool (isK k)) ∧ w = w' := by
  by_cases h1 : 1 ≤ k
  · by_cases h2 : k ≤ 18
    · have hk : isK k = true := by simp [isK, h1, h2]
      rw [hk]
      go_enter Tryd.func23, Tryd.ntmps23
      go_wp2
      go_ret
      exact ⟨rfl, rfl⟩
    · have hk : isK k = false := by simp [isK]; omega
      have h3 : 18 < k := by omega
      rw [hk]
      go_enter Tryd.func23, Tryd.ntmps23
      go_wp2
      go_ret
      exact ⟨rfl, rfl⟩
  · have hk : isK k = false := by simp [isK]; omega
    have h3 : k < 1 := by omega
    rw [hk]
    go_enter Tryd.func23, Tryd.ntmps23
    go_wp2
    go_ret
    exact ⟨rfl, rfl⟩

/-- A field's bit. -/
def bitI (j : Nat) : Int := ((2 ^ j : Nat) : Int)

theorem most_any (w : World) : ∀ j, j < 10 → Calls Tryd.prog 35 #[.int .u16 (bitI j)] w fun e w' => e = .returned (.int .u64 ((most j : Nat) : Int)) ∧ w = w' := by
  have hx : ∀ j v, Calls Tryd.prog 35 #[.int .u16 v] w (fun e w' => e = .returned (.int .u64 ((most j : Nat) : Int)) ∧ w = w') → bitI j = v → Calls Tryd.prog 35 #[.int .u16 (bitI j)] w fun e w' => e = .returned (.int .u64 ((most j : Nat) : Int)) ∧ w = w' := fun j v h e => by rw [e]; exact h
  refine ten_cases (hx _ 1 ?_ rfl) (hx _ 2 ?_ rfl) (hx _ 4 ?_ rfl) (hx _ 8 ?_ rfl) (hx _ 16 ?_ rfl) (hx _ 32 ?_ rfl) (hx _ 64 ?_ rfl) (hx _ 128 ?_ rfl) (hx _ 256 ?_ rfl) (hx _ 512 ?_ rfl)
  all_goals
    clear hx
    go_enter Tryd.func35, Tryd.ntmps35
    go_wp2
    go_ret
    exact ⟨rfl, rfl⟩

theorem tooMuch_any (w : World) (j : Nat) (hj : j < 10) : Calls Tryd.prog 62 #[.int .u16 (bitI j)] w fun e w' => e = .returned (.int .i64 (if j = 8 then 13 else 11)) ∧ w = w' := by
  by_cases h8 : j = 8
  · subst h8
    have e : bitI 8 = 256 := rfl
    rw [e, if_pos rfl]
    go_enter Tryd.func62, Tryd.ntmps62
    go_wp2
    go_ret
    exact ⟨rfl, rfl⟩
  · have hb : (bitI j == 256) = false := by
      rw [beq_eq_false_iff_ne]
      revert h8
      revert hj
      revert j
      exact ten_cases (by decide) (by decide) (by decide) (by decide) (by decide) (by decide) (by decide) (by decide) (by decide) (by decide)
    rw [if_neg h8]
    go_enter Tryd.func62, Tryd.ntmps62
    go_wp2
    go_ret
    exact ⟨rfl, rfl⟩

theorem wrap_amt (x : Int) : IntKind.u64.wrap x = (((x % 18446744073709551616).toNat : Nat) : Int) := by rw [IntKind.wrap_u64]; omega
theorem wrap_len (n : Nat) (h : n ≤ 140737488355328) : IntKind.u64.wrap (n : Int) = (n : Int) := by rw [IntKind.wrap_u64]; omega

theorem amount_any (m : PM) (L : Loc) (hv : m.vec.length ≤ 140737488355328) (hb : m.body.length ≤ 140737488355328) (w : World) :
    ∀ j, j < 10 → Calls Tryd.prog 34 #[.agg (MC m L), .int .u16 (bitI j)] w fun e w' => e = .returned (.int .u64 ((amt m j : Nat) : Int)) ∧ Mods Nil w w' := by
  have hx : ∀ j v, Calls Tryd.prog 34 #[.agg (MC m L), .int .u16 v] w (fun e w' => e = .returned (.int .u64 ((amt m j : Nat) : Int)) ∧ Mods Nil w w') → bitI j = v → Calls Tryd.prog 34 #[.agg (MC m L), .int .u16 (bitI j)] w fun e w' => e = .returned (.int .u64 ((amt m j : Nat) : Int)) ∧ Mods Nil w w' := fun j v h e => by rw [e]; exact h
  obtain ⟨c0, c1, c2, c3, c4, c5, c6, c7, c8, c9, c10⟩ := (Blk.new w 32 (MC m L)).mc
  have w8 := wrap_len _ hv
  have w9 := wrap_len _ hb
  clear hv hb
  unfold MC at *
  refine ten_cases (hx _ 1 ?_ rfl) (hx _ 2 ?_ rfl) (hx _ 4 ?_ rfl) (hx _ 8 ?_ rfl) (hx _ 16 ?_ rfl) (hx _ 32 ?_ rfl) (hx _ 64 ?_ rfl) (hx _ 128 ?_ rfl) (hx _ 256 ?_ rfl) (hx _ 512 ?_ rfl)
  all_goals
    clear hx
    go_enter Tryd.func34, Tryd.ntmps34
    go_wp2
    go_ret
    refine ⟨?_, (Mods.refl _ _).alloc _⟩
    first | rfl | (show Ending.returned (.int .u64 (IntKind.u64.wrap _)) = _; rw [wrap_amt]; rfl)
end Go.Proofs.YtlheaicojmjdpaaDoor
end

section
/- Package msg: fields one by one: the iterator. -/
namespace Go.Proofs.YtlheaicojmjdpaaDoor
set_option maxRecDepth 100000
open Go.RowKit Go.Shelf
set_option linter.unusedVariables false

attribute [local go_sem] Oper.semAt_some

theorem meach_any (w : World) (v : Int) :
    Calls Tryd.prog 30 #[.int .u16 v] w fun e w' => e = .returned (.func (.func 53) #[] #[.pointer (some ⟨w.heap.size, 0, none⟩)]) ∧ w' = w.alloc (.cells #[.int .u16 v] 75) := by
  go_enter Tryd.func30, Tryd.ntmps30
  go_wp2
  go_ret
  exact ⟨rfl, rfl⟩

def selN (M n : Nat) : List Nat := (List.range n).filter fun j => M.testBit j
theorem selN_zero (M : Nat) : selN M 0 = [] := rfl
theorem selN_ten (M : Nat) : selN M 10 = sel M := rfl
theorem selN_in {M n : Nat} (h : M.testBit n = true) : selN M (n + 1) = selN M n ++ [n] := by simp [selN, List.range_succ, List.filter_append, h]
theorem selN_out {M n : Nat} (h : M.testBit n = false) : selN M (n + 1) = selN M n := by simp [selN, List.range_succ, List.filter_append, h]
theorem selN_more (M : Nat) : ∀ k n, ∃ r, selN M (n + k) = selN M n ++ r
  | 0, n => ⟨[], by simp⟩
  | k + 1, n => by
    obtain ⟨r, hr⟩ := selN_more M k n
    rw [← Nat.add_assoc]
    by_cases h : M.testBit (n + k) = true
    · exact ⟨r ++ [n + k], by rw [selN_in h, hr, List.append_assoc]⟩
    · exact ⟨r, by rw [selN_out (by simpa using h), hr]⟩
theorem selN_rest {M n : Nat} (hn : n < 10) (h : M.testBit n = true) : ∃ r, sel M = selN M n ++ n :: r := by
  obtain ⟨r, hr⟩ := selN_more M (9 - n) (n + 1)
  rw [show n + 1 + (9 - n) = 10 by omega, selN_ten, selN_in h, List.append_assoc] at hr
  exact ⟨r, hr⟩
theorem bitI_succ (j : Nat) : bitI (j + 1) = bitI j * 2 := by unfold bitI; rw [Nat.pow_succ]; push_cast; rfl
theorem bitI_pos (j : Nat) : 1 ≤ bitI j := by unfold bitI; have := Nat.pow_pos (n := j) (show 0 < 2 by omega); omega
theorem bitI_le : ∀ j, j < 10 → bitI j ≤ 512 :=
  ten_cases (by decide) (by decide) (by decide) (by decide) (by decide) (by decide) (by decide) (by decide) (by decide) (by decide)
theorem and_pow (M j : Nat) : M &&& 2 ^ j = if M.testBit j then 2 ^ j else 0 := by
  apply Nat.eq_of_testBit_eq
  intro i
  rw [Nat.testBit_and, Nat.testBit_two_pow]
  by_cases h : j = i
  · subst h
    cases hb : M.testBit j <;> simp
  · cases hb : M.testBit j <;> simp [h]
theorem and_bit {M j : Nat} (hM : M < 1024) (hj : j < 10) : bits .and .u16 (M : Int) (bitI j) = if M.testBit j then bitI j else 0 := by
  have h5 := bitI_le j hj
  unfold bitI at h5 ⊢
  rw [Go.u16_and_nat M (2 ^ j) (by omega) (by omega), and_pow]
  cases M.testBit j <;> simp

set_option maxHeartbeats 4000000 in
theorem meach1_in (l Bn M : Nat) (hM : M < 1024) (W : World) (hB : Blk W Bn 75 #[.int .u16 (M : Int)])
    (K : Nat → Prop) (hKB : ¬ K Bn) (J Jx : List Nat → World → Prop)
    (hY : ∀ pre x W1, J pre W1 → (∃ r, sel M = pre ++ x :: r) → YieldAt Fence.wide 7 Tryd.prog l #[.int .u16 (bitI x)] W1 fun e W' =>
      (e = .returned (.bool true) ∧ J (pre ++ [x]) W' ∧ Mods K W1 W') ∨ (e = .returned (.bool false) ∧ Jx (pre ++ [x]) W' ∧ Mods K W1 W'))
    (h0 : J [] W) :
    CallsIn Fence.wide 8 Tryd.prog 53 #[.func (.yield l) #[] #[], .pointer (some ⟨Bn, 0, none⟩)] W fun e W' => (∃ v, e = .returned v) ∧ ((∃ pre, pre = sel M ∧ J pre W') ∨ ∃ pre, Jx pre W') := by
  have HY := Lib.hid hY
  have hst : Blk W Bn 75 #[.int .u16 (M : Int)] ∧ J (selN M 0) W := ⟨hB, by rw [selN_zero]; exact h0⟩
  have HST := Lib.hid hst
  clear hY hB h0 hst
  refine callsIn_of_wp Tryd.func53 rfl trivial ?_ rfl
  simp only [Tryd.ntmps53, List.size_toArray, List.length_cons, List.length_nil, Nat.reduceAdd, Nat.reduceSub, Array.replicate_succ, Array.replicate_zero, List.push_toArray, List.append_toArray, List.nil_append, List.cons_append]
  gi_wp2
  gi_loopw [3] (fun f wr => ∃ j, j ≤ 10 ∧ f = .int .u16 (bitI j) ∧ Blk wr Bn 75 #[.int .u16 (M : Int)] ∧ J (selN M j) wr) (fun f _ => 1025 - (intOf f).toNat)
  case atStart => exact ⟨0, by omega, rfl, HST.out.1, HST.out.2⟩
  case round =>
    clear HST
    obtain ⟨j, hj, rfl, hb, hjj⟩ := hrel
    have hc := hb.cell 0
    have hf := hb.frozen 0
    simp at hc
    have HB := Lib.hid hb
    have HJ := Lib.hid hjj
    clear hb hjj
    by_cases hlt : j < 10
    · have hle := bitI_le j hlt
      have hp := bitI_pos j
      have hand := and_bit hM hlt
      have hwr : IntKind.u16.wrap (bitI j * 2) = bitI (j + 1) := by
        rw [bitI_succ, IntKind.wrap_u16]; omega
      have hs2 := bitI_succ j
      by_cases ht : M.testBit j = true
      · rw [if_pos ht] at hand
        have hne : (bitI j != 0) = true := by simp; omega
        have HT := Lib.hid ht
        clear ht
        have yy := HY.out _ j _ HJ.out (selN_rest hlt HT.out)
        obtain ⟨fn, tmps, assign, body, hy, hR⟩ := yy
        have HR := Lib.hid hR
        clear hR
        gi_wp2
        refine HR.out.mono ?_
        rintro e W5 (⟨rfl, hj5, m5⟩ | ⟨rfl, hj5, m5⟩)
        · have b5 := HB.out.mods m5 hKB
          have B5 := Lib.hid b5
          have J5 := Lib.hid hj5
          clear hy b5 hj5 m5
          gi_wp2
          exact ⟨⟨j + 1, by omega, by rw [hs2], B5.out, by rw [selN_in HT.out]; exact J5.out⟩, by simp only [intOf]; omega⟩
        · have J5 := Lib.hid hj5
          clear hy hj5 m5
          gi_wp2
          refine bodyPost_ret (results_none rfl _ _ _) rfl ?_
          exact ⟨⟨_, rfl⟩, .inr ⟨_, J5.out⟩⟩
      · rw [if_neg ht] at hand
        have HT := Lib.hid (show M.testBit j = false by simpa using ht)
        clear ht
        gi_wp2
        refine ⟨fun _ h => (by cases h), ?_⟩
        gi_wp2
        exact ⟨⟨j + 1, by omega, by rw [hs2], HB.out, by rw [selN_out HT.out]; exact HJ.out⟩, by simp only [intOf]; omega⟩
    · obtain rfl : j = 10 := by omega
      have e10 : bitI 10 = 1024 := rfl
      have hgt : (512 : Int) < bitI 10 := by rw [e10]; omega
      gi_wp2
      refine bodyPost_end (results_none rfl _ _ _) rfl ?_
      exact ⟨⟨_, rfl⟩, .inl ⟨_, selN_ten M, HJ.out⟩⟩
end Go.Proofs.YtlheaicojmjdpaaDoor
end

section
/- Package msg: Check. -/
namespace Go.Proofs.YtlheaicojmjdpaaDoor
set_option maxRecDepth 100000
open Go.RowKit Go.Shelf
set_option linter.unusedVariables false

attribute [local go_sem] Oper.semAt_some

/-- The table of the kinds' fields. -/
def Tab (w : World) : Prop := ∀ k, k < 19 → w.cell? ⟨0, k, none⟩ = some (.int .u16 ((masks.getD k 0 : Nat) : Int))
theorem Tab.mods {S : Nat → Prop} {w w' : World} (h : Tab w) (hm : Mods S w w') (h0 : ¬ S 0) : Tab w' := by
  intro k hk
  have hlt := World.block_lt_of_cell? w _ (h 0 (by omega))
  rw [World.cell?_of_block (hm.block 0 hlt h0)]
  exact h k hk
theorem Tab.lt {w : World} (h : Tab w) : 0 < w.heap.size := World.block_lt_of_cell? w _ (h 0 (by omega))
theorem Tab.at {w : World} (h : Tab w) {k : Int} (hk : isK k = true) : w.cell? ⟨0, k.toNat, none⟩ = some (.int .u16 ((maskOf k : Nat) : Int)) := by
  have hk' := hk
  simp only [isK, decide_eq_true_eq] at hk'
  rw [h k.toNat (by omega)]
  unfold maskOf
  rw [if_pos hk]

theorem snoc_all {α : Type} {p : α → Prop} {l : List α} {x : α} (h : ∀ j ∈ l, p j) (hx : p x) : ∀ j ∈ l ++ [x], p j := by
  intro j hj
  rcases List.mem_append.1 hj with hj | hj
  · exact h j hj
  · rw [List.mem_singleton.1 hj]; exact hx

theorem bit1023 : ∀ j, j < 10 → Nat.testBit 1023 j = true := ten_cases rfl rfl rfl rfl rfl rfl rfl rfl rfl rfl
theorem chk_zero_of {m : PM} (hk : isK m.kind = true) (h : ∀ j, j < 10 → bad m j = false) : chk m = 0 := by
  unfold chk
  rw [if_neg (by simp [hk]), if_neg]
  intro h2
  obtain ⟨j, hj, hb⟩ := List.any_eq_true.1 h2
  rw [h j (by simpa using hj)] at hb
  cases hb
theorem chk_one_of {m : PM} (hk : isK m.kind = true) (h : ∃ j, j < 10 ∧ bad m j = true) : chk m = 1 := by
  unfold chk
  obtain ⟨j, hj, hb⟩ := h
  rw [if_neg (by simp [hk]), if_pos (List.any_eq_true.2 ⟨j, by simpa using hj, hb⟩)]

set_option maxHeartbeats 4000000 in
theorem check_any {w : World} {m : PM} {L : Loc} (ho : m.ok) (hT : Tab w) :
    Calls Tryd.prog 17 #[.agg (MC m L)] w fun e w' => e = .returned (.int .i64 (chk m)) ∧ Mods Nil w w' := by
  have hB := Blk.new w 32 (MC m L)
  have hB1 := hB.alloc (.cells #[.int .i64 0] 24)
  have hE1 := Blk.new (w.alloc (.cells (MC m L) 32)) 24 #[.int .i64 0]
  simp only [World.size_alloc] at hE1
  have c0 := hB1.mc.1
  have f1 := hE1.frozen 0
  have m1 : Mods Nil w ((w.alloc (.cells (MC m L) 32)).alloc (.cells #[.int .i64 0] 24)) := ((Mods.refl _ _).alloc _).alloc _
  have M1 := Lib.hid m1
  have HB1 := Lib.hid hB1
  have HE1 := Lib.hid hE1
  have HT := Lib.hid (hT.mods m1 (fun h => h))
  have HO := Lib.hid ho
  clear hB hB1 hE1 m1 hT ho
  by_cases hk : isK m.kind = true
  · have hcw := HT.out.at hk
    have HK := Lib.hid hk
    have hkb : 1 ≤ m.kind ∧ m.kind ≤ 18 := by simpa [isK] using hk
    clear hk
    refine (callsIn_wide (n := 9)).1 ?_
    refine callsIn_of_wp_marks Tryd.func17 rfl trivial ?_ rfl
    simp only [Tryd.ntmps17, List.size_toArray, List.length_cons, List.length_nil, Nat.reduceAdd, Nat.reduceSub, Array.replicate_succ, Array.replicate_zero, List.push_toArray, List.append_toArray, List.nil_append, List.cons_append]
    gi_wp2_with (first
      | (refine ⟨trivial, ?_⟩; gi_at_call 23; refine (callsIn_wide.2 (isKind_any _ _)).mono ?_; rintro e w' ⟨rfl, rfl⟩; have hk2 := HK.out)
      | (refine ⟨trivial, ?_⟩; gi_at_call 30; refine (callsIn_wide.2 (meach_any _ _)).mono ?_; rintro e w' ⟨rfl, rfl⟩))
    have bM := (HB1.out.alloc (.cells #[.int .u16 ((maskOf m.kind : Nat) : Int)] 75)).alloc (.cells #[.int .u16 1023] 75)
    have bE := (HE1.out.alloc (.cells #[.int .u16 ((maskOf m.kind : Nat) : Int)] 75)).alloc (.cells #[.int .u16 1023] 75)
    have bO := (Blk.new ((w.alloc (.cells (MC m L) 32)).alloc (.cells #[.int .i64 0] 24)) 75 #[.int .u16 ((maskOf m.kind : Nat) : Int)]).alloc (.cells #[.int .u16 1023] 75)
    have bA := Blk.new (((w.alloc (.cells (MC m L) 32)).alloc (.cells #[.int .i64 0] 24)).alloc (.cells #[.int .u16 ((maskOf m.kind : Nat) : Int)] 75)) 75 #[.int .u16 1023]
    have m0 := (M1.out.alloc (.cells #[.int .u16 ((maskOf m.kind : Nat) : Int)] 75)).alloc (.cells #[.int .u16 1023] 75)
    have hsz : ((((w.alloc (.cells (MC m L) 32)).alloc (.cells #[.int .i64 0] 24)).alloc (.cells #[.int .u16 ((maskOf m.kind : Nat) : Int)] 75)).alloc (.cells #[.int .u16 1023] 75)).heap.size = w.heap.size + 4 := by simp
    simp only [World.size_alloc] at bO bA
    obtain ⟨W0, hW0⟩ : ∃ W0, ((((w.alloc (.cells (MC m L) 32)).alloc (.cells #[.int .i64 0] 24)).alloc (.cells #[.int .u16 ((maskOf m.kind : Nat) : Int)] 75)).alloc (.cells #[.int .u16 1023] 75)) = W0 := ⟨_, rfl⟩
    rw [hW0] at bM bE bO bA m0 hsz ⊢
    clear hW0 c0 f1 M1 HB1 HE1 HT hcw
    have HSZ := Lib.hid hsz
    refine wpIn_rangeFunc_X (n := 9) (gf := 53) (lb := #[.pointer (some ⟨w.heap.size + 1 + 1 + 1, 0, none⟩)]) rfl (enters_of Tryd.func53 (by kernel_rfl) rfl) (encs := fun x => #[.int .u16 (bitI x)]) (fun _ => rfl)
      (fun _ => False) (fun k => k = w.heap.size + 1 ∨ W0.heap.size + 2 ≤ k) (fun i h => h.elim) (by omega) (by omega)
      (fun pre W => Blk W w.heap.size 32 (MC m L) ∧ Blk W (w.heap.size + 1) 24 #[.int .i64 0] ∧ Blk W (w.heap.size + 1 + 1) 75 #[.int .u16 ((maskOf m.kind : Nat) : Int)] ∧ (∀ j ∈ pre, bad m j = false) ∧ Mods Nil w W)
      (fun pre W => (∃ j, j < 10 ∧ bad m j = true) ∧ Blk W (w.heap.size + 1) 24 #[.int .i64 1] ∧ Mods Nil w W)
      (fun pre x W => ∃ r, sel 1023 = pre ++ x :: r)
      (fun x a' W => a' = { tmps := #[.agg (MC m L), .pointer (some ⟨w.heap.size, 0, none⟩), .pointer (some ⟨w.heap.size + 1, 0, none⟩), .pointer (some ⟨w.heap.size + 1 + 1, 0, none⟩), .int .u16 (bitI x), undef, .pointer (some ⟨w.heap.size, 0, none⟩), .int .i64 m.kind, .bool true, .bool false, .pointer (some ⟨w.heap.size, 0, none⟩), .int .i64 m.kind, .pointer (some ⟨0, m.kind.toNat, none⟩), .int .u16 ((maskOf m.kind : Nat) : Int), .func (.func 53) #[] #[.pointer (some ⟨w.heap.size + 1 + 1 + 1, 0, none⟩)], .int .u16 (bitI x), undef, undef, undef, undef, undef, undef, undef, undef, undef, undef, undef, undef, undef, undef, undef, undef, undef], defers := [] })
      ?hI ?hIx ?hG ?hAx (fun pre => pre = sel 1023) ?hseq ?h0 ?hassign ?hbody ?hdone ?hstop
    case hI =>
      rintro pre A1 B1 ⟨h1, h2, h3, h4, h5⟩ hm
      exact ⟨h1.mods hm (by simp; omega), h2.mods hm (by simp; omega), h3.mods hm (by simp; omega), h4, h5.nil_trans hm (fun i h => by simp at h; omega)⟩
    case hIx =>
      rintro pre A1 B1 ⟨h1, h2, h3⟩ hm
      exact ⟨h1, h2.mods hm (by simp; omega), h3.nil_trans hm (fun i h => by simp at h; omega)⟩
    case hG => exact fun pre x A1 B1 h _ => h
    case hAx => exact fun x a' A1 B1 h _ => h
    case hseq =>
      intro J Jx W hm hsize hJ hJx hY hj0
      refine meach1_in (W0.heap.size + 1) (w.heap.size + 1 + 1 + 1) 1023 (by omega) W (bA.mods hm (fun h => h)) _ ?_ J Jx hY hj0
      omega
    case h0 => exact ⟨bM, bE, bO, (fun f h => by cases h), m0⟩
    case hassign =>
      intro pre x W K' hsize hi hg hK
      have HI := Lib.hid hi
      have HG := Lib.hid hg
      have HK2 := Lib.hid hK
      clear hi hg hK hsz bM bE bO bA m0
      dsimp only
      gi_wp2
      exact HK2.out _ _ (Mods.refl _ _) HI.out HG.out rfl
    case hbody =>
      rintro pre x a' W ⟨h1, h2, h3, h4, h5⟩ ⟨r, hr⟩ rfl hsize
      have hx10 : x < 10 := by
        have hmem : x ∈ sel 1023 := by rw [hr]; simp
        exact (sel_mem.1 hmem).1
      obtain ⟨c0, c1, c2, c3, c4, c5, c6, c7, c8, c9, c10⟩ := h1.mc
      have o0 := h3.cell 0
      have e0 := h2.frozen 0
      simp at o0
      have H1 := Lib.hid h1
      have H2 := Lib.hid h2
      have H3 := Lib.hid h3
      have H4 := Lib.hid h4
      have H5 := Lib.hid h5
      have HX := Lib.hid hx10
      clear h1 h2 h3 h4 h5 hr hx10 hsz bM bE bO bA m0
      obtain ⟨q, hq⟩ : ∃ q, amt m x = q := ⟨_, rfl⟩
      obtain ⟨p, hp⟩ : ∃ p, most x = p := ⟨_, rfl⟩
      have HQ := Lib.hid hq
      have HP := Lib.hid hp
      clear hq hp
      by_cases hA : p < q
      · have hAI : (p : Int) < (q : Int) := by omega
        have HBAD := Lib.hid (show bad m x = true by simp only [bad, HQ.out, HP.out]; simp [hA])
        clear hA
        gi_wp2_with (first
          | (refine ⟨trivial, ?_⟩; gi_at_call 34; refine CallsIn.mono (F := Fence.wide.inRound _) (callsIn_wide.2 (amount_any m L HO.out.vlen HO.out.blen _ x HX.out)) ?_; rintro e w2 ⟨rfl, m2⟩; rw [HQ.out]; have b2 := H2.out.mods m2 (fun h => h); have b3 := H3.out.mods m2 (fun h => h); have o2 := b3.cell 0; have z2 := b2.cell 0; have e2 := b2.frozen 0; simp at o2 z2; have B2 := Lib.hid b2; have M2 := Lib.hid m2; clear b2 b3 m2)
          | (refine ⟨trivial, ?_⟩; gi_at_call 35; refine CallsIn.mono (F := Fence.wide.inRound _) (callsIn_wide.2 (most_any _ x HX.out)) ?_; rintro e w3 ⟨rfl, rfl⟩; rw [HP.out]))
        exact ⟨Mods.setCell (S := fun k => k = w.heap.size + 1 ∨ W0.heap.size + 2 ≤ k) (M2.out.mono (fun _ _ h => h.elim)) (fun _ => .inl rfl) _, ⟨x, HX.out, HBAD.out⟩, by simpa using B2.out.set_ 0 (.int .i64 1), (H5.out.trans M2.out).setNew (by simp) _⟩
      · have hAI : (q : Int) ≤ (p : Int) := by omega
        by_cases hB : q = 0
        · subst hB
          have HBAD := Lib.hid (show bad m x = false by simp only [bad, HQ.out, HP.out]; simp)
          clear hA
          gi_wp2_with (first
              | (refine ⟨trivial, ?_⟩; gi_at_call 34; refine CallsIn.mono (F := Fence.wide.inRound _) (callsIn_wide.2 (amount_any m L HO.out.vlen HO.out.blen _ x HX.out)) ?_; rintro e w2 ⟨rfl, m2⟩; rw [HQ.out]; have b2 := H2.out.mods m2 (fun h => h); have b3 := H3.out.mods m2 (fun h => h); have o2 := b3.cell 0; have z2 := b2.cell 0; have e2 := b2.frozen 0; simp at o2 z2; have B2 := Lib.hid b2; have M2 := Lib.hid m2; clear b2 b3 m2)
              | (refine ⟨trivial, ?_⟩; gi_at_call 35; refine CallsIn.mono (F := Fence.wide.inRound _) (callsIn_wide.2 (most_any _ x HX.out)) ?_; rintro e w3 ⟨rfl, rfl⟩; rw [HP.out]))
          exact ⟨M2.out.mono (fun _ _ h => h.elim), H1.out.mods M2.out (fun h => h), B2.out, H3.out.mods M2.out (fun h => h), snoc_all H4.out HBAD.out, H5.out.trans M2.out⟩
        · have hBI : (0 : Int) < (q : Int) := by omega
          have hand := and_bit (maskOf_lt m.kind) HX.out
          have hbp := bitI_pos x
          by_cases hC : (maskOf m.kind).testBit x = true
          · rw [if_pos hC] at hand
            have hne : (bitI x == 0) = false := by rw [beq_eq_false_iff_ne]; omega
            have HBAD := Lib.hid (show bad m x = false by simp only [bad, HQ.out, HP.out, own, hC]; simp; omega)
            clear hA hB hC
            gi_wp2_with (first
              | (refine ⟨trivial, ?_⟩; gi_at_call 34; refine CallsIn.mono (F := Fence.wide.inRound _) (callsIn_wide.2 (amount_any m L HO.out.vlen HO.out.blen _ x HX.out)) ?_; rintro e w2 ⟨rfl, m2⟩; rw [HQ.out]; have b2 := H2.out.mods m2 (fun h => h); have b3 := H3.out.mods m2 (fun h => h); have o2 := b3.cell 0; have z2 := b2.cell 0; have e2 := b2.frozen 0; simp at o2 z2; have B2 := Lib.hid b2; have M2 := Lib.hid m2; clear b2 b3 m2)
              | (refine ⟨trivial, ?_⟩; gi_at_call 35; refine CallsIn.mono (F := Fence.wide.inRound _) (callsIn_wide.2 (most_any _ x HX.out)) ?_; rintro e w3 ⟨rfl, rfl⟩; rw [HP.out]))
            exact ⟨M2.out.mono (fun _ _ h => h.elim), H1.out.mods M2.out (fun h => h), B2.out, H3.out.mods M2.out (fun h => h), snoc_all H4.out HBAD.out, H5.out.trans M2.out⟩
          · rw [if_neg hC] at hand
            have HBAD := Lib.hid (show bad m x = true by simp only [bad, HQ.out, HP.out, own]; simp [hC]; omega)
            clear hA hB hC
            gi_wp2_with (first
              | (refine ⟨trivial, ?_⟩; gi_at_call 34; refine CallsIn.mono (F := Fence.wide.inRound _) (callsIn_wide.2 (amount_any m L HO.out.vlen HO.out.blen _ x HX.out)) ?_; rintro e w2 ⟨rfl, m2⟩; rw [HQ.out]; have b2 := H2.out.mods m2 (fun h => h); have b3 := H3.out.mods m2 (fun h => h); have o2 := b3.cell 0; have z2 := b2.cell 0; have e2 := b2.frozen 0; simp at o2 z2; have B2 := Lib.hid b2; have M2 := Lib.hid m2; clear b2 b3 m2)
              | (refine ⟨trivial, ?_⟩; gi_at_call 35; refine CallsIn.mono (F := Fence.wide.inRound _) (callsIn_wide.2 (most_any _ x HX.out)) ?_; rintro e w3 ⟨rfl, rfl⟩; rw [HP.out]))
            exact ⟨Mods.setCell (S := fun k => k = w.heap.size + 1 ∨ W0.heap.size + 2 ≤ k) (M2.out.mono (fun _ _ h => h.elim)) (fun _ => .inl rfl) _, ⟨x, HX.out, HBAD.out⟩, by simpa using B2.out.set_ 0 (.int .i64 1), (H5.out.trans M2.out).setNew (by simp) _⟩
    case hdone =>
      rintro pre W rfl ⟨h1, h2, h3, h4, h5⟩ hK
      have z1 := h2.cell 0
      have e1 := h2.frozen 0
      simp at z1
      have H2 := Lib.hid h2
      have H5 := Lib.hid h5
      have HG := Lib.hid (show chk m = 0 from chk_zero_of HK.out (fun j hj => h4 j (sel_mem.2 ⟨hj, bit1023 j hj⟩)))
      clear hsz bM bE bO bA m0 h1 h2 h3 h4 h5
      gi_wp2
      have bF := H2.out.set_ 0 (.int .i64 0)
      have hne : W0.heap.size ≠ w.heap.size + 1 := by have := HSZ.out; omega
      have hK' : (W.setCell ⟨w.heap.size + 1, 0, none⟩ (.int .i64 0)).heap[W0.heap.size]? = some (.deferred (some [])) := (Below.heap_setCell _ _ _ _ hne).trans hK
      refine ⟨by simp, .inl ⟨_, _, rfl, run_takeDeferred hK', ?_⟩⟩
      have mF : Mods (fun k => k = W0.heap.size) (W.setCell ⟨w.heap.size + 1, 0, none⟩ (.int .i64 0)) ((W.setCell ⟨w.heap.size + 1, 0, none⟩ (.int .i64 0)).putObj W0.heap.size (.deferred none)) := Mods.putObj (S := fun k => k = W0.heap.size) (Mods.refl _ _) (fun _ => rfl) _
      have zF := (bF.mods mF (fun h => hne h.symm)).cell 0
      simp at zF
      refine ⟨.int .i64 0, by simp [results, Tryd.results17, go_sem, zF], by rw [HG.out], (H5.out.setNew (by simp) _).nil_trans mF (fun i h => by have := HSZ.out; omega)⟩
    case hstop =>
      rintro pre W ⟨h1, h2, h3⟩ hK
      have H3 := Lib.hid h3
      have HG := Lib.hid (show chk m = 1 from chk_one_of HK.out h1)
      have hne : W0.heap.size ≠ w.heap.size + 1 := by have := HSZ.out; omega
      have mF : Mods (fun k => k = W0.heap.size) W (W.putObj W0.heap.size (.deferred none)) := Mods.putObj (S := fun k => k = W0.heap.size) (Mods.refl _ _) (fun _ => rfl) _
      have zF := (h2.mods mF (fun h => hne h.symm)).cell 0
      simp at zF
      clear hsz bM bE bO bA m0 h1 h2 h3
      gi_wp2
      refine ⟨by simp, .inl ⟨_, _, rfl, run_takeDeferred hK, ?_⟩⟩
      refine ⟨.int .i64 1, by simp [results, Tryd.results17, go_sem, zF], by rw [HG.out], H3.out.nil_trans mF (fun i h => by have := HSZ.out; omega)⟩
  · have hk' : isK m.kind = false := by simpa using hk
    have hchk : chk m = 1 := by unfold chk; rw [if_pos hk']
    rw [hchk]
    have HK := Lib.hid hk'
    clear hk hk' hchk
    go_enter Tryd.func17, Tryd.ntmps17
    go_wp2_with (go_at_call 23; refine (isKind_any _ _).mono ?_; rintro e w' ⟨rfl, rfl⟩; have hk2 := HK.out)
    exact bodyPost_ret (v := .int .i64 1) (by simp [results, Tryd.results17, go_sem]) rfl ⟨rfl, ((Mods.refl _ _).alloc _).alloc _⟩
end Go.Proofs.YtlheaicojmjdpaaDoor
end
