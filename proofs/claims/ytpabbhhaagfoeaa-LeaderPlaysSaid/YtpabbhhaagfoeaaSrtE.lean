/- maps.Keys of a map by numbers (uint64): its iterator tells each key once. -/
import Derived.Test.YtpabbhhaagfoeaaRangeW
import Derived.Test.YtpabbhhaagfoeaaKMapD
import Derived.Sort.MapsRangeIn
import Derived.Maps.RangeWalk
namespace Go.Proofs.Ytpabbhhaagfoeaa
set_option maxRecDepth 100000
open Go.RowKit Go.Maps Go.Shelf
set_option linter.unusedVariables false
set_option linter.unusedSimpArgs false
attribute [local go_sem] Oper.semAt_some
/-- A number of 64 bits. -/
def inU (x : Int) : Prop := 0 ≤ x ∧ x < 18446744073709551616
@[reducible] def nU (x : Int) : Value := .int .u64 x
theorem wfU {x : Int} : (Lit.int .u64 x).wf = true ↔ inU x := by
  simp [Lit.wf, IntKind.min, IntKind.max, IntKind.bits, IntKind.signed]
  unfold inU
  omega
theorem keyU {P : Program} {k : TypeId} (hk : P.underlying k = some (.int .u64)) {x : Int} (hx : inU x) : keyOf P k (.int .u64 x) = some (.int .u64 x) := keyOf_int_mk hk (wfU.2 hx)
theorem keyU_inv {P : Program} {k : TypeId} (hk : P.underlying k = some (.int .u64)) {key : Value} {kl : Lit} (h : keyOf P k key = some kl) : ∃ x, key = .int .u64 x ∧ kl = .int .u64 x ∧ inU x := by
  obtain ⟨x, h1, h2, h3⟩ := Maps.keyOf_int_inv hk h
  exact ⟨x, h1, h2, wfU.1 h3⟩
/-- The keys that have come. -/
def Come (f : Value → Option Value) (left : Lit → Bool) (ss : List Int) : Prop := ss.Nodup ∧ ∀ x, x ∈ ss ↔ (inU x ∧ (f (.int .u64 x)).isSome = true ∧ left (.int .u64 x) = false)
/-- All keys, each once. -/
def Keys (f : Value → Option Value) (ss : List Int) : Prop := ss.Nodup ∧ ∀ x, x ∈ ss ↔ (inU x ∧ (f (.int .u64 x)).isSome = true)
theorem Come.start {P : Program} {k : TypeId} {w : World} {b n : Nat} {f : Value → Option Value} {D : DataW Value} (hk : P.underlying k = some (.int .u64)) (hat : ∀ x lx, keyOf P k x = some lx → ∀ zd, D.atKey lx zd = match f x with | some v => .held v | none => zd) : Come f (Maps.has D) [] := by
  refine ⟨List.nodup_nil, fun x => ⟨fun h => by simp at h, ?_⟩⟩
  rintro ⟨h1, h2, h3⟩
  obtain ⟨v, hv⟩ := Option.isSome_iff_exists.1 h2
  have := hat _ _ (keyU hk h1)
  rw [hv] at this
  rw [has_true_of_atKey this] at h3
  cases h3
theorem Come.step {f : Value → Option Value} {left : Lit → Bool} {ss : List Int} (h : Come f left ss) {x : Int} (hx : inU x) (hf : (f (.int .u64 x)).isSome = true) (hl : left (.int .u64 x) = true) : Come f (fun z => left z && !z.sameKey (.int .u64 x)) (ss ++ [x]) := by
  have hnew : x ∉ ss := fun hm => by have := ((h.2 x).1 hm).2.2; rw [hl] at this; cases this
  refine ⟨List.nodup_append.2 ⟨h.1, by simp, fun a ha b hb => by simp at hb; subst hb; exact fun e => hnew (e ▸ ha)⟩, fun y => ?_⟩
  by_cases hy : y = x
  · subst hy
    simp [hx, hf, Lit.sameKey]
  · simp [h.2 y, hy, Lit.sameKey]
theorem Come.done {f : Value → Option Value} {left : Lit → Bool} {ss : List Int} (h : Come f left ss) (hl : ∀ kl, left kl = false) : Keys f ss :=
  ⟨h.1, fun x => by rw [h.2 x, hl]; simp⟩
theorem skeys_any (mb : Option Nat) (w : World) : Calls Try.prog 61 #[.map mb] w fun e w' => e = .returned (.func (.func 65) #[] #[.pointer (some ⟨w.heap.size, 0, none⟩)]) ∧ w' = w.alloc (.cells #[.map mb] 87) := by
  go_enter Try.func61, Try.ntmps61
  go_wp2
  go_ret
  exact ⟨rfl, rfl⟩
theorem skeys1_in (l Bm b n B : Nat) (f : Value → Option Value) (W : World) (hm : W.cell? ⟨Bm, 0, none⟩ = some (.map (some b))) (hM : KMap Try.prog 28 W b n f) (hB : B ≤ W.heap.size)
    (J : List Int → World → Prop) (hJ : ∀ pre A C, J pre A → Mods (fun k => B ≤ k ∧ walkAt A k) A C → J pre C)
    (hY : ∀ pre x W1, J pre W1 → (pre.length < n ∧ inU x) → YieldAt Fence.wide 7 Try.prog l #[nU x] W1 fun e W' => e = .returned (.bool true) ∧ J (pre ++ [x]) W' ∧ KeepsWalks W1 W') (h0 : J [] W) :
    CallsIn Fence.wide 8 Try.prog 65 #[.func (.yield l) #[] #[], .pointer (some ⟨Bm, 0, none⟩)] W fun e W' => (∃ v, e = .returned v) ∧ ∃ ss, Keys f ss ∧ J ss W' := by
  obtain ⟨D, hown, hsz, hat⟩ := hM
  have HAT := Lib.hid hat
  have HY := Lib.hid hY
  have HJ := Lib.hid hJ
  have HO := Lib.hid hown
  have HSZ := Lib.hid hsz
  clear hat hY hJ hown hsz
  refine callsIn_of_wp Try.func65 rfl trivial ?_ rfl
  simp only [Try.ntmps65, List.size_toArray, List.length_cons, List.length_nil, Nat.reduceAdd, Nat.reduceSub, Array.replicate_succ, Array.replicate_zero, List.push_toArray, List.append_toArray, List.nil_append, List.cons_append]
  gi_wp2_with (first
    | (gi_at_range; refine wpListIn_range_own _ rfl _ 87 rfl 28 49 (int_keyed Try.underlying28) Try.underlying87 _ b n _ rfl HO.out ?_; intro w0 hrg0 hg0 hs0; have HRG := Lib.hid hrg0; have HG0 := Lib.hid hg0; clear hrg0 hg0))
  go_frame
  have m0 : Mods Nil W w0 := (Mods.refl _ _).grown HG0.out (fun k hk => by cases hk)
  gi_loopw [3] (fun _ wr => ∃ (left : Lit → Bool) (cnt : Nat) (ss : List Int), Hid (wr.ranges Try.prog 28 rdV b W.heap.size n D left cnt) ∧ ss.length + cnt ≤ n ∧ Hid (Come f left ss) ∧ Hid (J ss wr) ∧ Hid (W.heap.size < wr.heap.size)) (fun _ wr => wr.rangeLeft b W.heap.size)
  case atStart =>
    exact ⟨_, _, [], HRG, by simp [HSZ.out], Lib.hid (Come.start (w := W) (b := b) (n := n) Try.underlying28 HAT.out), Lib.hid (HJ.out [] W w0 h0 (m0.mono (fun _ _ h => h.elim))), Lib.hid (by omega)⟩
  case round =>
    clear h0
    obtain ⟨left, cnt, ss, HR, hcs, HC, HJS, HLT⟩ := hrel
    gi_wp2_with (first
      | (gi_at_next; refine wpListIn_next_ranges _ rfl _ rfl 28 (int_keyed Try.underlying28) rdV nU id (fun key kl hk => by obtain ⟨x, hx, _⟩ := keyU_inv Try.underlying28 hk; exact ⟨x, hx⟩) (fun v _ _ => ⟨v, rfl⟩) b W.heap.size n _ _ _ rfl HR.out ?_ ?_))
    · intro hc0 hl0
      have HL0 := Lib.hid hl0
      clear hl0 hc0
      gi_wp2
      go_end0
      exact ⟨⟨_, rfl⟩, ss, HC.out.done HL0.out, HJS.out⟩
    · intro x c kl yd yp w2 cnt2 hkey hlk hv hat hrg2 hlt hg2 hs2 hen
      obtain ⟨x', ex, rfl, hxu⟩ := keyU_inv Try.underlying28 hkey
      obtain rfl : x = x' := by injection ex
      have hf : (f (.int .u64 x)).isSome = true := by
        cases hfx : f (.int .u64 x) with
        | some v => rfl
        | none =>
          have := HAT.out (.int .u64 x) _ hkey
          rw [hfx] at this
          have h1 := has_false_of_atKey this
          rw [has_true_of_atKey hat] at h1
          cases h1
      have hJ2 : J ss w2 := HJ.out ss wr w2 HJS.out ((Mods.refl _ _).grown hg2 (fun k hk _ => by injection hk with hk; subst hk; exact ⟨hB, HR.out.iter_walk⟩))
      have HRG2 := Lib.hid hrg2
      have HCS := Lib.hid (HC.out.step hxu hf hlk)
      have HLT2 := Lib.hid hlt
      have HS2 := Lib.hid hs2
      obtain ⟨fn, tmps, assign, body, hy, hR⟩ := HY.out ss x w2 hJ2 ⟨by omega, hxu⟩
      replace hy : (Instr.yield l #[.int .u64 x]).run Try.prog w2 = .ok (.round l fn tmps assign body) w2 := hy
      have HRR := Lib.hid hR
      clear hR hs2 hlt hrg2 hg2 hat hkey hlk hv hJ2 hf
      gi_wp2
      refine HRR.out.mono ?_
      rintro e W3 ⟨rfl, hJ3, hk3⟩
      have HJ3 := Lib.hid hJ3
      have HK3 := Lib.hid hk3
      clear hJ3 hk3
      gi_wp2
      have hrg3 := HRG2.out.of_walks HK3.out
      have HRG3 := Lib.hid hrg3
      clear hrg3
      go_roundw
      case rel => exact ⟨_, cnt2, ss ++ [x], HRG3, by have := HLT2.out; simp; omega, HCS, HJ3, Lib.hid (by have := HK3.out.size; have := HS2.out; have := HLT.out; omega)⟩
      case measure => rw [HRG3.out.left_eq, HR.out.left_eq]; exact HLT2.out
end Go.Proofs.Ytpabbhhaagfoeaa
