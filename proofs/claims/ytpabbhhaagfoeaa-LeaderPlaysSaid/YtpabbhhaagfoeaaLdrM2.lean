/- Texts laid as one: SrtO, Ldr7, Ldr8, Ldr9, LdrA. -/
import Derived.Test.YtpabbhhaagfoeaaSrtF
import Derived.Test.YtpabbhhaagfoeaaAccM2
import Derived.Test.YtpabbhhaagfoeaaLdrM1

section
/- maps.Keys of a map of proposals; a bound of how many keys come. -/
namespace Go.Proofs.Ytpabbhhaagfoeaa
set_option maxRecDepth 100000
open Go.RowKit Go.Maps Go.Shelf
set_option linter.unusedVariables false
set_option linter.unusedSimpArgs false
attribute [local go_sem] Oper.semAt_some
theorem skeysO_any (mb : Option Nat) (w : World) : Calls Try.prog 49 #[.map mb] w fun e w' => e = .returned (.func (.func 59) #[] #[.pointer (some ⟨w.heap.size, 0, none⟩)]) ∧ w' = w.alloc (.cells #[.map mb] 88) := by
  go_enter Try.func49, Try.ntmps49
  go_wp2
  go_ret
  exact ⟨rfl, rfl⟩
theorem skeysO1_in (l Bm b n B : Nat) (f : Value → Option Value) (W : World) (hm : W.cell? ⟨Bm, 0, none⟩ = some (.map (some b))) (hM : KMap Try.prog 28 W b n f) (hB : B ≤ W.heap.size)
    (J : List Int → World → Prop) (hJ : ∀ pre A C, J pre A → Mods (fun k => B ≤ k ∧ walkAt A k) A C → J pre C)
    (hY : ∀ pre x W1, J pre W1 → (pre.length < n ∧ inU x) → YieldAt Fence.wide 7 Try.prog l #[nU x] W1 fun e W' => e = .returned (.bool true) ∧ J (pre ++ [x]) W' ∧ KeepsWalks W1 W') (h0 : J [] W) :
    CallsIn Fence.wide 8 Try.prog 59 #[.func (.yield l) #[] #[], .pointer (some ⟨Bm, 0, none⟩)] W fun e W' => (∃ v, e = .returned v) ∧ ∃ ss, Keys f ss ∧ J ss W' := by
  obtain ⟨D, hown, hsz, hat⟩ := hM
  have HAT := Lib.hid hat
  have HY := Lib.hid hY
  have HJ := Lib.hid hJ
  have HO := Lib.hid hown
  have HSZ := Lib.hid hsz
  clear hat hY hJ hown hsz
  refine callsIn_of_wp Try.func59 rfl trivial ?_ rfl
  simp only [Try.ntmps59, List.size_toArray, List.length_cons, List.length_nil, Nat.reduceAdd, Nat.reduceSub, Array.replicate_succ, Array.replicate_zero, List.push_toArray, List.append_toArray, List.nil_append, List.cons_append]
  gi_wp2_with (first
    | (gi_at_range; refine wpListIn_range_own _ rfl _ 88 rfl 28 103 (int_keyed Try.underlying28) Try.underlying88 _ b n _ rfl HO.out ?_; intro w0 hrg0 hg0 hs0; have HRG := Lib.hid hrg0; have HG0 := Lib.hid hg0; clear hrg0 hg0))
  go_frame
  have m0 : Mods Nil W w0 := (Mods.refl _ _).grown HG0.out (fun k hk => by cases hk)
  gi_loopw [3] (fun _ wr => ∃ (left : Lit → Bool) (cnt : Nat) (ss : List Int), Hid (wr.ranges Try.prog 28 rdV b W.heap.size n D left cnt) ∧ ss.length + cnt ≤ n ∧ Hid (Come f left ss) ∧ Hid (J ss wr) ∧ Hid (W.heap.size < wr.heap.size)) (fun _ wr => wr.rangeLeft b W.heap.size)
  case atStart =>
    exact ⟨_, _, [], HRG, by simp [HSZ.out], Lib.hid (Come.start (w := W) (b := b) (n := n) Try.underlying28 HAT.out), Lib.hid (HJ.out [] W w0 h0 (m0.mono (fun _ _ h => h.elim))), Lib.hid (by omega)⟩
  case round =>
    clear h0
    obtain ⟨left, cnt, ss, HR, hcs, HC, HJS, HLT⟩ := hrel
    gi_wp2_with (first
      | (gi_at_next; refine wpListIn_next_ranges _ rfl _ rfl 28 (int_keyed Try.underlying28) rdV nU id (fun key kl hk => by obtain ⟨x, hx, _⟩ := keyU_inv Try.underlying28 hk; exact ⟨x, hx⟩) (fun v _ _ => ⟨v, rfl⟩) b W.heap.size n _ _ _ rfl HR.out ?_ ?_))
    · intro hc0 hl0
      have HL0 := Lib.hid hl0
      clear hl0 hc0
      gi_wp2
      go_end0
      exact ⟨⟨_, rfl⟩, ss, HC.out.done HL0.out, HJS.out⟩
    · intro x c kl yd yp w2 cnt2 hkey hlk hv hat hrg2 hlt hg2 hs2 hen
      obtain ⟨x', ex, rfl, hxu⟩ := keyU_inv Try.underlying28 hkey
      obtain rfl : x = x' := by injection ex
      have hf : (f (.int .u64 x)).isSome = true := by
        cases hfx : f (.int .u64 x) with
        | some v => rfl
        | none =>
          have := HAT.out (.int .u64 x) _ hkey
          rw [hfx] at this
          have h1 := has_false_of_atKey this
          rw [has_true_of_atKey hat] at h1
          cases h1
      have hJ2 : J ss w2 := HJ.out ss wr w2 HJS.out ((Mods.refl _ _).grown hg2 (fun k hk _ => by injection hk with hk; subst hk; exact ⟨hB, HR.out.iter_walk⟩))
      have HRG2 := Lib.hid hrg2
      have HCS := Lib.hid (HC.out.step hxu hf hlk)
      have HLT2 := Lib.hid hlt
      have HS2 := Lib.hid hs2
      obtain ⟨fn, tmps, assign, body, hy, hR⟩ := HY.out ss x w2 hJ2 ⟨by omega, hxu⟩
      replace hy : (Instr.yield l #[.int .u64 x]).run Try.prog w2 = .ok (.round l fn tmps assign body) w2 := hy
      have HRR := Lib.hid hR
      clear hR hs2 hlt hrg2 hg2 hat hkey hlk hv hJ2 hf
      gi_wp2
      refine HRR.out.mono ?_
      rintro e W3 ⟨rfl, hJ3, hk3⟩
      have HJ3 := Lib.hid hJ3
      have HK3 := Lib.hid hk3
      clear hJ3 hk3
      gi_wp2
      have hrg3 := HRG2.out.of_walks HK3.out
      have HRG3 := Lib.hid hrg3
      clear hrg3
      go_roundw
      case rel => exact ⟨_, cnt2, ss ++ [x], HRG3, by have := HLT2.out; simp; omega, HCS, HJ3, Lib.hid (by have := HK3.out.size; have := HS2.out; have := HLT.out; omega)⟩
      case measure => rw [HRG3.out.left_eq, HR.out.left_eq]; exact HLT2.out
theorem skeysO_seq {Bm b n : Nat} {f : Value → Option Value} {w : World} (hBm : Bm < w.heap.size) (hm : w.cell? ⟨Bm, 0, none⟩ = some (.map (some b))) (hM : KMap Try.prog 28 w b n f) :
    SeqU 59 #[.pointer (some ⟨Bm, 0, none⟩)] (Keys f) n w :=
  fun l B W hW hB J hJ hY h0 => skeysO1_in l Bm b n B f W ((World.cell?_of_block (hW.block Bm hBm (fun h => h))).trans hm) (hM.mods hW (fun h => h)) hB J hJ hY h0
set_option maxHeartbeats 1000000 in
theorem skeysO_seq0 {Bm : Nat} {w : World} (hBm : Bm < w.heap.size) (hm : w.cell? ⟨Bm, 0, none⟩ = some (.map none)) :
    SeqU 59 #[.pointer (some ⟨Bm, 0, none⟩)] (fun ss => ss = []) 0 w := by
  intro l B W hW hB J hJ hY h0
  have hm1 : W.cell? ⟨Bm, 0, none⟩ = some (.map none) := (World.cell?_of_block (hW.block Bm hBm (fun h => h))).trans hm
  have HJ := Lib.hid hJ
  clear hJ hY hm
  show CallsIn Fence.wide 8 Try.prog 59 #[.func (.yield l) #[] #[], .pointer (some ⟨Bm, 0, none⟩)] W _
  refine callsIn_of_wp Try.func59 rfl trivial ?_ rfl
  simp only [Try.ntmps59, List.size_toArray, List.length_cons, List.length_nil, Nat.reduceAdd, Nat.reduceSub, Array.replicate_succ, Array.replicate_zero, List.push_toArray, List.append_toArray, List.nil_append, List.cons_append]
  have hrg := run_range_nilMap (P := Try.prog) W 88 28 103 Try.underlying88
  have hnx : ∀ ty, (Instr.next (.pointer (some ⟨W.heap.size, 0, none⟩)) false ty).run Try.prog (W.alloc (.mapIter none 0 #[] 0)) = _ := fun ty => run_next_nilMap _ ty 0 0 #[]
  gi_wp2
  refine wpIn_loop_rounds 1 ?_
  rw [roundsIn_succ]
  gi_wp2
  go_end0
  exact ⟨⟨_, rfl⟩, [], rfl, HJ.out [] W _ h0 ((Mods.refl _ _).alloc _)⟩
theorem SeqU.bound {g : Nat} {lb : Array Value} {S : List Int → Prop} {N : Nat} {w : World} (h : SeqU g lb S N w) : SeqU g lb (fun ss => S ss ∧ ss.length ≤ N) N w := by
  intro l B W hW hB J hJ hY h0
  refine CallsIn.mono (h l B W hW hB (fun pre A => J pre A ∧ pre.length ≤ N) (fun pre A C h hm => ⟨hJ pre A C h.1 hm, h.2⟩) (fun pre x W1 h1 h2 => ?_) ⟨h0, Nat.zero_le _⟩) ?_
  · obtain ⟨fn, tmps, assign, body, hy, hR⟩ := hY pre x W1 h1.1 h2
    refine ⟨fn, tmps, assign, body, hy, hR.mono ?_⟩
    rintro e W' ⟨e1, e2, e3⟩
    exact ⟨e1, ⟨e2, by simp; omega⟩, e3⟩
  · rintro e W' ⟨hv, ss, h1, h2, h3⟩
    exact ⟨hv, ss, ⟨h1, h3⟩, h2⟩
/-- The keys of the known votes, sorted. -/
theorem sorted_kn {W : World} {mb n : Nat} {f : Value → Option Value} (hM : KMap Try.prog 28 W mb n f) (hn : n ≤ 1000000) :
    Calls Try.prog 48 #[.func (.func 65) #[] #[.pointer (some ⟨W.heap.size, 0, none⟩)]] (W.alloc (.cells #[.map (some mb)] 87)) fun e w' => ∃ v ss, e = .returned v ∧ Keys f ss ∧ ss.length ≤ n ∧ w'.ownsRow (W.heap.size + 1) 28 1 v ss.length ((ss.mergeSort fun x y => decide (x ≤ y)).map nU) ∧ Mods Nil W w' := by
  have eg := enters_of Try.func65 (by kernel_rfl) rfl
  have hc : (W.alloc (.cells #[.map (some mb)] 87)).cell? ⟨W.heap.size, 0, none⟩ = some (.map (some mb)) := (Blk.new W _ #[.map (some mb)]).cell 0
  have hm : Mods Nil W (W.alloc (.cells #[.map (some mb)] 87)) := (Mods.refl _ _).alloc _
  have hsz : (W.alloc (.cells #[.map (some mb)] 87)).heap.size = W.heap.size + 1 := by simp
  refine (ssorted_any (N := n) hn eg (skeys_seq (by simp) hc (hM.mods hm (fun h => h))).bound (fun ss hs => by have := hs.2; omega)).mono ?_
  rintro e w' ⟨v, ss, rfl, ⟨hS, hl⟩, ho, hm2⟩
  rw [hsz] at ho
  exact ⟨v, ss, rfl, hS, hl, ho, hm.trans hm2⟩
/-- The keys of the proposals, sorted. -/
theorem sorted_op {W : World} {mb n : Nat} {f : Value → Option Value} (hM : KMap Try.prog 28 W mb n f) (hn : n ≤ 1000000) :
    Calls Try.prog 48 #[.func (.func 59) #[] #[.pointer (some ⟨W.heap.size, 0, none⟩)]] (W.alloc (.cells #[.map (some mb)] 88)) fun e w' => ∃ v ss, e = .returned v ∧ Keys f ss ∧ ss.length ≤ n ∧ w'.ownsRow (W.heap.size + 1) 28 1 v ss.length ((ss.mergeSort fun x y => decide (x ≤ y)).map nU) ∧ Mods Nil W w' := by
  have eg := enters_of Try.func59 (by kernel_rfl) rfl
  have hc : (W.alloc (.cells #[.map (some mb)] 88)).cell? ⟨W.heap.size, 0, none⟩ = some (.map (some mb)) := (Blk.new W _ #[.map (some mb)]).cell 0
  have hm : Mods Nil W (W.alloc (.cells #[.map (some mb)] 88)) := (Mods.refl _ _).alloc _
  have hsz : (W.alloc (.cells #[.map (some mb)] 88)).heap.size = W.heap.size + 1 := by simp
  refine (ssorted_any (N := n) hn eg (skeysO_seq (by simp) hc (hM.mods hm (fun h => h))).bound (fun ss hs => by have := hs.2; omega)).mono ?_
  rintro e w' ⟨v, ss, rfl, ⟨hS, hl⟩, ho, hm2⟩
  rw [hsz] at ho
  exact ⟨v, ss, rfl, hS, hl, ho, hm.trans hm2⟩
/-- The same of no map. -/
theorem sorted_op0 (W : World) :
    Calls Try.prog 48 #[.func (.func 59) #[] #[.pointer (some ⟨W.heap.size, 0, none⟩)]] (W.alloc (.cells #[.map none] 88)) fun e w' => ∃ v, e = .returned v ∧ w'.ownsRow (W.heap.size + 1) 28 1 v 0 [] ∧ Mods Nil W w' := by
  have eg := enters_of Try.func59 (by kernel_rfl) rfl
  have hc : (W.alloc (.cells #[.map none] 88)).cell? ⟨W.heap.size, 0, none⟩ = some (.map none) := (Blk.new W _ #[.map none]).cell 0
  have hm : Mods Nil W (W.alloc (.cells #[.map none] 88)) := (Mods.refl _ _).alloc _
  have hsz : (W.alloc (.cells #[.map none] 88)).heap.size = W.heap.size + 1 := by simp
  refine (ssorted_any (N := 0) (by omega) eg (skeysO_seq0 (by simp) hc) (fun ss hs => by subst hs; exact Nat.zero_le _)).mono ?_
  rintro e w' ⟨v, ss, rfl, hS, ho, hm2⟩
  subst hS
  rw [hsz] at ho
  exact ⟨v, rfl, by simpa using ho, hm.trans hm2⟩
end Go.Proofs.Ytpabbhhaagfoeaa
end

section
/- Package leader: behindKnown. -/
namespace Go.Proofs.Ytpabbhhaagfoeaa
set_option maxRecDepth 100000
open Go.RowKit Go.Maps Go.Shelf
set_option linter.unusedVariables false
set_option linter.unusedSimpArgs false
theorem endV_none {lo : Nat} {L : List PVt} (h : ∀ v ∈ L, v.slot < lo) : endV lo L = lo := by
  induction L with
  | nil => rfl
  | cons v L ih =>
    have h1 := h v (by simp)
    have h2 := ih (fun x hx => h x (by simp [hx]))
    simp only [endV]
    rw [if_neg (by omega)]
    omega
theorem endV_max {lo z : Nat} {L : List PVt} (hz : lo ≤ z) (h : ∀ v ∈ L, lo ≤ v.slot → v.slot ≤ z) (hv : ∃ v ∈ L, v.slot = z) : endV lo L = z + 1 := by
  have hle : ∀ L : List PVt, (∀ v ∈ L, lo ≤ v.slot → v.slot ≤ z) → endV lo L ≤ z + 1 := by
    intro L
    induction L with
    | nil => intro _; simp only [endV]; omega
    | cons v L ih =>
      intro h
      have h1 := h v (by simp)
      have h2 := ih (fun x hx => h x (by simp [hx]))
      simp only [endV]
      split <;> omega
  have hge : ∀ L : List PVt, (∃ v ∈ L, v.slot = z) → z + 1 ≤ endV lo L := by
    intro L
    induction L with
    | nil => rintro ⟨v, hv, _⟩; cases hv
    | cons v L ih =>
      rintro ⟨u, hu, e⟩
      simp only [endV]
      rcases List.mem_cons.1 hu with rfl | hu
      · rw [if_pos (by omega)]; omega
      · have := ih ⟨u, hu, e⟩; omega
  have := hle L h
  have := hge L hv
  omega
/-- The last one of the keys, sorted. -/
theorem last_key {W0 W : World} {X : Nat → Prop} {lo : Nat} {L : List PVt} {f : Value → Option Value} (hL : ∀ v ∈ L, v.slot < 18446744073709551616) (h : ∀ s : Nat, s < 18446744073709551616 → VoAt W0 W X (if lo ≤ s then lookV L s else none) (f (.int .u64 (s : Int)))) {ss : List Int} (hs : Keys f ss) :
    (ss.length = 0 → ∀ v ∈ L, v.slot < lo) ∧ (∀ N, ss.length = N + 1 → ∃ z : Nat, ((ss.mergeSort fun x y => decide (x ≤ y)).map nU)[N]? = some (.int .u64 (z : Int)) ∧ lo ≤ z ∧ z < 18446744073709551616 ∧ (∀ v ∈ L, lo ≤ v.slot → v.slot ≤ z) ∧ ∃ v ∈ L, v.slot = z) := by
  have hk : ∀ x : Int, x ∈ ss ↔ ∃ v ∈ L, lo ≤ v.slot ∧ x = (v.slot : Int) := by
    intro x
    rw [hs.2 x]
    constructor
    · rintro ⟨⟨h1, h2⟩, h3⟩
      obtain ⟨s, rfl⟩ : ∃ s : Nat, x = (s : Int) := ⟨x.toNat, by omega⟩
      have hv := h s (by omega)
      by_cases hl : lo ≤ s
      · rw [if_pos hl] at hv
        cases hlk : lookV L s with
        | none => rw [hv.none_ hlk] at h3; cases h3
        | some v =>
          obtain ⟨h4, rfl⟩ := lookV_some hlk
          exact ⟨v, h4, hl, rfl⟩
      · rw [if_neg hl] at hv
        rw [hv.none_ rfl] at h3; cases h3
    · rintro ⟨v, hv, hl, rfl⟩
      have hvs := hL v hv
      have hva := h v.slot hvs
      rw [if_pos hl] at hva
      refine ⟨⟨by omega, by omega⟩, ?_⟩
      cases hlk : lookV L v.slot with
      | none => exact absurd rfl (lookV_none.1 hlk v hv)
      | some u =>
        obtain ⟨A, c, e, _⟩ := hva.some_ u hlk
        rw [e]; rfl
  refine ⟨fun h0 v hv => ?_, fun N hN => ?_⟩
  · have : ss = [] := List.eq_nil_of_length_eq_zero h0
    subst this
    have := (hk (v.slot : Int)).2
    rcases Nat.lt_or_ge v.slot lo with h1 | h1
    · exact h1
    · exact absurd (this ⟨v, hv, h1, rfl⟩) (by simp)
  · have hp := List.mergeSort_perm ss fun x y => decide (x ≤ y)
    have h1 : (ss.mergeSort (fun x y => decide (x ≤ y))).Pairwise (fun x y => decide (x ≤ y) = true) := List.pairwise_mergeSort (fun a b c h1 h2 => by simp only [decide_eq_true_eq] at *; omega) (fun a b => by simp only [Bool.or_eq_true, decide_eq_true_eq]; omega) ss
    obtain ⟨S, hS⟩ : ∃ S, ss.mergeSort (fun x y => decide (x ≤ y)) = S := ⟨_, rfl⟩
    rw [hS] at hp h1 ⊢
    have hlen : S.length = N + 1 := by rw [hp.length_eq, hN]
    obtain ⟨x, hx⟩ : ∃ x, S[N]? = some x := ⟨_, List.getElem?_eq_getElem (by omega)⟩
    obtain ⟨v, hv, hl, rfl⟩ := (hk x).1 (hp.mem_iff.1 (List.mem_of_getElem? hx))
    refine ⟨v.slot, by rw [List.getElem?_map, hx]; rfl, hl, hL v hv, fun u hu hlu => ?_, v, hv, rfl⟩
    have hm := hp.mem_iff.2 ((hk (u.slot : Int)).2 ⟨u, hu, hlu, rfl⟩)
    obtain ⟨i, hi, hiu⟩ := List.getElem_of_mem hm
    obtain ⟨hN2, hNx⟩ := List.getElem?_eq_some_iff.1 hx
    rcases Nat.lt_or_ge i N with hiN | hiN
    · have := List.pairwise_iff_getElem.1 h1 i N hi hN2 hiN
      rw [hiu, hNx] at this
      simp only [decide_eq_true_eq] at this
      omega
    · obtain rfl : i = N := by omega
      rw [hNx] at hiu
      omega
set_option maxHeartbeats 1600000 in
theorem lbehind_any {W0 W : World} {X : Nat → Prop} {b lo T kb : Nat} {L : List PVt} {cs : Array Value} (hb : Blk W b 90 cs) (e3 : cs[3]? = some (.int .u64 (lo : Int))) (e5 : cs[5]? = some (.map (some kb))) (hk : KnM W0 W X lo L T kb) (hT : T ≤ 1000000) (hL : ∀ v ∈ L, v.slot < 18446744073709551616) :
    Calls Try.prog 56 #[.pointer (some ⟨b, 0, none⟩)] W fun e W' => ∃ r : Nat, e = .returned (.tuple #[.int .u64 (r : Int), .bool (decide (¬ ∃ v ∈ L, farV lo v))]) ∧ ((¬ ∃ v ∈ L, farV lo v) → r = endV lo L) ∧ Mods Nil W W' := by
  obtain ⟨n, f, k1, k2, -, -, k5⟩ := hk
  have HS := Lib.hid (sorted_kn k1 (by omega))
  have HLK : Hid (∀ ss, Keys f ss → _) := Lib.hid (fun ss hs => last_key hL k5 hs)
  have x5 := (hb.cell 5).trans e5
  have HB := Lib.hid hb
  have E3 := Lib.hid e3
  obtain ⟨fr, hfr⟩ : ∃ fr, decide (¬ ∃ v ∈ L, farV lo v) = fr := ⟨_, rfl⟩
  have HFIN : Hid (∀ (r : Nat) (u : Bool) (w9 : World), (u = true ↔ ¬ ∃ v ∈ L, farV lo v) → ((¬ ∃ v ∈ L, farV lo v) → r = endV lo L) → Mods Nil W w9 → ∃ r' : Nat, Ending.returned (.tuple #[.int .u64 (r : Int), .bool u]) = Ending.returned (.tuple #[.int .u64 (r' : Int), .bool fr]) ∧ ((¬ ∃ v ∈ L, farV lo v) → r' = endV lo L) ∧ Mods Nil W w9) := Lib.hid (fun r u w9 h1 h2 h3 => ⟨r, by
    have : u = fr := by
      rw [← hfr]
      by_cases hf : ∃ v ∈ L, farV lo v
      · rw [decide_eq_false (by simpa using hf)]
        cases u with
        | true => exact absurd hf (h1.1 rfl)
        | false => rfl
      · rw [decide_eq_true (by simpa using hf)]
        exact h1.2 hf
    rw [this], h2, h3⟩)
  rw [hfr]
  clear hb e3 e5 k1 k5 hfr hL
  go_enter Try.func56, Try.ntmps56
  go_wp2_with (first
    | (go_at_call 61; refine (skeys_any _ _).mono ?_; rintro e w1 ⟨rfl, rfl⟩))
  refine HS.out.mono ?_
  rintro e w2 ⟨v, ss, rfl, hS, hl, ho, hm⟩
  obtain ⟨hz0, hz1⟩ := HLK.out ss hS
  have x3 : w2.cell? ⟨b, 3, none⟩ = some (.int .u64 (lo : Int)) := ((HB.out.mods hm (fun h => h)).cell 3).trans E3.out
  have M2 := Lib.hid hm
  rcases hN : ss.length with _ | N
  · have hall := hz0 hN
    rw [hN] at ho
    obtain ⟨A2, c2, rfl⟩ : ∃ A c, v = .slice A 0 c := own_formU ho
    have HE := Lib.hid (endV_none hall)
    have HA := Lib.hid hall
    clear hz0 hz1 hall ho hm hS hl hN
    go_wp2_with fail
    go_ret2
    refine HFIN.out lo true w2 ⟨fun _ => ?_, fun _ => rfl⟩ (fun _ => HE.out.symm) M2.out
    rintro ⟨v, hv, h1, _⟩
    have := HA.out v hv
    omega
  · obtain ⟨z, hz, hlz, hz64, hmax, hex⟩ := hz1 N hN
    rw [hN] at ho hl
    obtain ⟨g2, cap2, cur2, rfl, -, -, -, -, -, -, -, hcell2, -⟩ := own_place ho (by omega)
    have z0 := hcell2 N _ hz
    have HE := Lib.hid (endV_max hlz hmax hex)
    have HFR : Hid ((∃ v ∈ L, farV lo v) ↔ (z = 18446744073709551615 ∨ 4095 < z - lo)) := Lib.hid ⟨fun ⟨v, hv, h1, h2⟩ => (by
      have := hmax v hv h1
      omega), fun h => (by
      obtain ⟨v, hv, rfl⟩ := hex
      exact ⟨v, hv, hlz, h⟩)⟩
    have hNl : N ≤ 1000000 := by omega
    clear hz0 hz1 hz hmax hex ho hm hS hl hN hcell2
    by_cases hz9 : z = 18446744073709551615
    · have g1 : ((z : Int) == 18446744073709551615) = true := by rw [hz9]; rfl
      have g1n : (z == 18446744073709551615) = true := by rw [hz9]; rfl
      have HF := Lib.hid (HFR.out.2 (.inl hz9))
      clear hz9
      go_wp2_with fail
      go_ret2
      exact HFIN.out 0 false w2 ⟨fun h => (by cases h), fun h => absurd HF.out h⟩ (fun h => absurd HF.out h) M2.out
    · have g1 : ((z : Int) == 18446744073709551615) = false := by rw [beq_eq_false_iff_ne]; omega
      have g1n : (z == 18446744073709551615) = false := by rw [beq_eq_false_iff_ne]; exact hz9
      obtain ⟨d, hd⟩ : ∃ d, z - lo = d := ⟨_, rfl⟩
      have hw : IntKind.u64.wrap ((z : Int) - (lo : Int)) = (d : Int) := by rw [IntKind.wrap_u64]; omega
      by_cases hz8 : 4095 < d
      · have g2 : decide ((d : Int) ≥ 4096) = true := by simp; omega
        have g2n : decide (4096 ≤ d) = true := by simp; omega
        have HF := Lib.hid (HFR.out.2 (.inr (by rw [hd]; exact hz8)))
        clear hz9 hz8 hd
        go_wp2_with fail
        go_ret2
        exact HFIN.out 0 false w2 ⟨fun h => (by cases h), fun h => absurd HF.out h⟩ (fun h => absurd HF.out h) M2.out
      · have g2 : decide ((d : Int) ≥ 4096) = false := by simp; omega
        have g2n : decide (4096 ≤ d) = false := by simp; omega
        have HNF := Lib.hid (fun h => by rcases HFR.out.1 h with h | h <;> omega : ¬ ∃ v ∈ L, farV lo v)
        have hz1 : z + 1 < 18446744073709551616 := by omega
        clear hz9 hz8 hd hz64
        go_wp2_with fail
        go_ret2
        exact HFIN.out (z + 1) true w2 ⟨fun _ => HNF.out, fun _ => rfl⟩ (fun _ => HE.out.symm) M2.out
end Go.Proofs.Ytpabbhhaagfoeaa
end

section
/- Package leader: propose. -/
namespace Go.Proofs.Ytpabbhhaagfoeaa
set_option maxRecDepth 100000
open Go.RowKit Go.Maps
set_option linter.unusedVariables false
set_option linter.unusedSimpArgs false
theorem lookO_push {O : List POp} {x : POp} (h : ∀ y ∈ O, y.v.slot ≠ x.v.slot) (s : Nat) : lookO (O ++ [x]) s = if s = x.v.slot then some x else lookO O s := by
  unfold lookO
  rw [List.find?_append]
  by_cases hs : s = x.v.slot
  · subst hs
    rw [if_pos rfl, List.find?_eq_none.2 (fun y hy => by simp [h y hy])]
    simp
  · rw [if_neg hs]
    have : ¬ x.v.slot = s := fun e => hs e.symm
    simp [this]
section
variable {W0 W W' : World} {X S : Nat → Prop} {T ob : Nat} {O : List POp}
theorem OpM.nil (h : OpM W0 W X O T ob) (hm : Mods Nil W W') : OpM W0 W' X O T ob :=
  h.move (S := Nil) ⟨hm, Nat.le_refl _, fun k hk => ⟨fun h => h, hk.2.1⟩⟩ ⟨fun h => h, h.own.2⟩
theorem LF.ne_cells {k g : Nat} {t : TypeId} {cs : Array Value} (h : LF W0 W X k) (hb : Blk W g t cs) (ht : t ≠ 5) : k ≠ g := by
  obtain ⟨_, _, cs', hb'⟩ := h
  exact fun e => (by subst e; exact hb.ne_ hb' ht rfl)
/-- A cell of no byte block is another one. -/
theorem OpM.cell (h : OpM W0 W X O T ob) {g : Nat} {t : TypeId} {cs : Array Value} (hb : Blk W g t cs) (ht : t ≠ 5) (hm : Mods (fun k => k = g) W W') : OpM W0 W' X O T ob :=
  h.move (S := fun k => k = g) ⟨hm, Nat.le_refl _, fun k hk => ⟨hk.ne_cells hb ht, hk.2.1⟩⟩ ⟨map_ne_blk h.isMap hb, h.own.2⟩
/-- A proposal is laid. -/
theorem OpM.put (h : OpM W0 W X O T ob) {x : POp} (hO : ∀ y ∈ O, y.v.slot ≠ x.v.slot) (hv : x.v.slot < 18446744073709551616) (hT : T ≤ 2000000) {A : Option Addr} {c n B : Nat} (hn : x.v.val.length = n) (hn2 : n ≤ 100000) (hs : Sl W A c (bts x.v.val))
    (hA : bts x.v.val ≠ [] → ∀ a, A = some a → LF W0 W X a.block) (hB : isMask B x.who) :
    ∃ W', (Instr.mapUpdate 88 (.map (some ob)) (.int .u64 (x.v.slot : Int)) (.agg #[.int .u64 (x.v.slot : Int), .int .u64 (x.v.bal : Int), .slice A n c, .int .u32 (B : Int)])).run Try.prog W = .ok () W' ∧ OpM W0 W' X (O ++ [x]) (T + 1) ob ∧ Mods (fun i => i = ob) W W' := by
  subst hn
  have hmap := h.isMap
  obtain ⟨m, f, h1, h2, h3, h4, h5⟩ := h
  obtain ⟨W', r, ⟨k, k1, k2, k3⟩, hm⟩ := h1.put (int_keyed Try.underlying28) Try.underlying88 (keyUL Try.underlying28 hv) (by unfold maxLen; omega) (.agg #[.int .u64 (x.v.slot : Int), .int .u64 (x.v.bal : Int), .slice A x.v.val.length c, .int .u32 (B : Int)])
  have hmv : LMb W0 W W0 W' X X (fun i => i = ob) := ⟨hm, Nat.le_refl _, fun k hk => ⟨fun e => hk.ne_map hmap e, hk.2.1⟩⟩
  refine ⟨W', r, ⟨k, _, k1, by omega, h3, h4, fun s hs2 => ?_⟩, hm⟩
  rw [lookO_push hO]
  by_cases he : s = x.v.slot
  · subst he
    rw [if_pos rfl]
    refine ⟨fun h => (by cases h), fun u hu => ?_⟩
    injection hu with hu
    subst hu
    exact ⟨A, c, B, updK_same _ _ _, hs.mods' hm (fun hne a ha h => (hA hne a ha).ne_map hmap h), fun hne a ha => (hA hne a ha).move hmv, hn2, hB⟩
  · rw [if_neg he]
    have hne : (Value.int .u64 (s : Int)) ≠ .int .u64 (x.v.slot : Int) := fun e => by injection e with _ e; exact he (by omega)
    rw [updK_ne hne]
    exact (h5 s hs2).move hmv
end
/-- Bytes lie in no map, and in no block without bytes. -/
theorem sl_off_map {w : World} {m : Nat} {A : Option Addr} {c : Nat} {v : List UInt8} (hm : ∃ es c, w.heap[m]? = some (.map es c)) (hs : Sl w A c (bts v)) : bts v ≠ [] → ∀ a, A = some a → a.block ≠ m := by
  rintro hne a rfl e
  obtain ⟨es, cc, hm⟩ := hm
  have hlen : 0 < (bts v).length := List.length_pos_iff.2 hne
  obtain ⟨blk, off, e2, _, hc⟩ := hs.has.at_ hlen
  injection e2 with e2
  subst e2
  replace e : blk = m := e
  subst e
  have := hc 0 _ (List.getElem?_eq_getElem hlen)
  simp [World.cell?, hm] at this
theorem sl_off_blk {w : World} {g : Nat} {t : TypeId} {cs : Array Value} {A : Option Addr} {c : Nat} {v : List UInt8} (hb : Blk w g t cs) (hcs : ∀ (i : Nat) (z : Int), cs[i]? ≠ some (.int .u8 z)) (hs : Sl w A c (bts v)) : bts v ≠ [] → ∀ a, A = some a → a.block ≠ g := by
  rintro hne a rfl e
  have hlen : 0 < (bts v).length := List.length_pos_iff.2 hne
  obtain ⟨blk, off, e2, _, hc⟩ := hs.has.at_ hlen
  injection e2 with e2
  subst e2
  replace e : blk = g := e
  subst e
  obtain ⟨z, hz⟩ : ∃ z, (bts v)[0]? = some (.int .u8 z) := by
    cases v with
    | nil => simp [bts] at hlen
    | cons q r => exact ⟨(q.toNat : Int), by simp [bts]⟩
  have := hc 0 _ hz
  rw [hb.cell] at this
  exact hcs _ _ this
theorem ld_cells {n0 n1 n2 n3 n4 : Int} {kv ov : Option Nat} (i : Nat) (z : Int) : (#[.int .i64 n0, .int .u64 n1, .int .i64 n2, .int .u64 n3, .int .u32 n4, .map kv, .map ov] : Array Value)[i]? ≠ some (.int .u8 z) := by
  match i with
  | 0 => simp
  | 1 => simp
  | 2 => simp
  | 3 => simp
  | 4 => simp
  | 5 => simp
  | 6 => simp
  | k + 7 => simp
/-- What propose tells: a vote by value, its bytes in new memory; a leader. -/
def Prop0T (W0 W : World) (X : Nat → Prop) (b : Nat) (l' : PLd) (T s bal n : Nat) (v : List UInt8) (e : Ending) (W' : World) : Prop :=
  ∃ A c, e = .returned (.agg #[.int .u64 (s : Int), .int .u64 (bal : Int), .slice A n c]) ∧ Sl W' A c (bts v) ∧ (bts v ≠ [] → ∀ a, A = some a → NEW W W' a.block ∧ ∃ cs, Blk W' a.block 5 cs) ∧ LdS W0 W' (fun k => X k ∨ (bts v ≠ [] ∧ ∃ a, A = some a ∧ k = a.block)) b l' T ∧ Mods (LDM W0 X) W W'
set_option maxHeartbeats 3200000 in
theorem LdS.propose0 {W0 W : World} {X : Nat → Prop} {b T : Nat} {l : PLd} (h : LdS W0 W X b l T) (hT : T ≤ 1500000) (hst : l.stage = 2) (hnx : l.next ≠ 18446744073709551615) {v : List UInt8} {n c : Nat} {A : Option Addr} (hn : v.length = n) (hn2 : n ≤ 100000) (hv : Sl W A c (bts v)) :
    Calls Try.prog 45 #[.pointer (some ⟨b, 0, none⟩), .slice A n c] W (Prop0T W0 W X b (l.propose v) (T + 1) l.next l.bal n v) := by
  have HPR : Hid (l.propose v = { l with next := l.next + 1, opn := l.opn ++ [⟨⟨l.next, l.bal, v⟩, []⟩] }) := Lib.hid (by
    unfold PLd.propose
    rw [if_pos (by unfold PLd.propE; rw [if_neg (fun h => h hst), if_neg hnx])])
  have HG := Lib.hid (h.good.propose (v := v) (by omega))
  have hn64 := h.good.next
  have HSL : Hid (∀ y ∈ l.opn, y.v.slot ≠ l.next) := Lib.hid (fun y hy => by have := (h.good.opn.2 y hy).1; omega)
  obtain ⟨nx, B, kv, ov, h1, h2⟩ := h.blk
  rcases h2 with ⟨e, _⟩ | ⟨e, _⟩ | ⟨-, ob, rfl, rfl, rfl, ho⟩
  · rw [hst] at e; cases e
  · rw [hst] at e; cases e
  rw [ldCs, hst] at h1
  have HST := Lib.hid hst
  have hnx1 : l.next + 1 < 18446744073709551616 := by omega
  obtain ⟨NX, hNX⟩ : ∃ NX, l.next = NX := ⟨_, rfl⟩
  obtain ⟨BL, hBL⟩ : ∃ BL, l.bal = BL := ⟨_, rfl⟩
  obtain ⟨OP, hOP⟩ : ∃ OP, l.opn = OP := ⟨_, rfl⟩
  obtain ⟨MN, hMN⟩ : ∃ MN, l.many = MN := ⟨_, rfl⟩
  have HMN := Lib.hid hMN
  rw [hNX, hBL, hMN] at h1
  rw [hNX, hBL] at HPR
  rw [hOP] at ho
  rw [hNX, hBL]
  rw [hNX] at hnx1
  have HNX := Lib.hid hNX
  have HBL := Lib.hid hBL
  have HOP := Lib.hid hOP
  -- the result's box
  have ma : Mods Nil W (W.alloc (.cells #[.int .u64 0, .int .u64 0, .slice none 0 0] 49)) := (Mods.refl _ _).alloc _
  have ba := Blk.new W 49 #[.int .u64 0, .int .u64 0, .slice none 0 0]
  obtain ⟨Wa, hWa⟩ : ∃ Wa, W.alloc (.cells #[.int .u64 0, .int .u64 0, .slice none 0 0] 49) = Wa := ⟨_, rfl⟩
  have hsa : Wa.heap.size = W.heap.size + 1 := by rw [← hWa]; simp
  rw [hWa] at ma ba
  have b1 := h1.mods ma (fun h => h)
  have HA := Lib.hid ma
  have HBA := Lib.hid ba
  have HSA := Lib.hid hsa
  have B1 := Lib.hid b1
  have O1 := Lib.hid (ho.nil ma)
  have V1 := Lib.hid (hv.mods ma (fun _ _ h => h))
  have H0 := Lib.hid h
  have HN := Lib.hid hn
  have x1 : ∀ V, Mods Nil Wa V → V.cell? ⟨b, 1, none⟩ = some (.int .u64 (BL : Int)) := fun V hV => (b1.mods hV (fun h => h)).cell 1
  have x3 : ∀ V, Mods Nil Wa V → V.cell? ⟨b, 3, none⟩ = some (.int .u64 (NX : Int)) := fun V hV => (b1.mods hV (fun h => h)).cell 3
  clear h h1 ho hn hv ma ba hsa b1 hst hnx hn64 hNX hBL hOP hMN
  go_enter Try.func45, Try.ntmps45
  go_wp2_with fail
  go_region_held (fun V => Mods Nil Wa V) (first | assumption | exact (Mods.refl _ _).drew | exact ((Mods.refl _ _).drew.alloc _)) (fail)
  have m3 : Mods Nil Wa ((Wa.alloc (.cells #[.int .u64 (NX : Int), .int .u64 (BL : Int), .slice A n c] 49)).drew) := ((Mods.refl _ _).alloc _).drew
  have b3 := (Blk.new Wa 49 #[.int .u64 (NX : Int), .int .u64 (BL : Int), .slice A n c]).drew
  have hs3 : (Wa.alloc (.cells #[.int .u64 (NX : Int), .int .u64 (BL : Int), .slice A n c] 49)).drew.heap.size = Wa.heap.size + 1 := by
    show (Wa.alloc _).heap.size = _
    simp
  obtain ⟨W3, hW3⟩ : ∃ W3, (Wa.alloc (.cells #[.int .u64 (NX : Int), .int .u64 (BL : Int), .slice A n c] 49)).drew = W3 := ⟨_, rfl⟩
  rw [hW3] at m3 b3 hs3 ⊢
  obtain ⟨gp, hgp⟩ : ∃ gp, Wa.heap.size = gp := ⟨_, rfl⟩
  obtain ⟨gr, hgr⟩ : ∃ gr, W.heap.size = gr := ⟨_, rfl⟩
  rw [hgp] at b3 ⊢
  rw [hgr] at HBA ⊢
  have hgpr : gp = gr + 1 := by have := HSA.out; omega
  have HGPR := Lib.hid hgpr
  have HGP := Lib.hid hgp
  have HGR := Lib.hid hgr
  have HS3 := Lib.hid hs3
  have HM3 := Lib.hid m3
  have P3 := Lib.hid b3
  have B3 := Lib.hid (B1.out.mods m3 (fun h => h))
  have R3 := Lib.hid (HBA.out.mods m3 (fun h => h))
  have O3 := Lib.hid (O1.out.nil m3)
  have V3 := Lib.hid (V1.out.mods m3 (fun _ _ h => h))
  clear hW3 hWa x1 x3 m3 b3 hs3 hgp hgr hgpr
  have NB : Hid (ob ≠ b) := Lib.hid (map_ne_blk O3.out.isMap B3.out)
  have NP : Hid (ob ≠ gp) := Lib.hid (map_ne_blk O3.out.isMap P3.out)
  have NR : Hid (ob ≠ gr) := Lib.hid (map_ne_blk O3.out.isMap R3.out)
  have q1 : ∀ V, Mods (fun k => k = ob) W3 V → V.cell? ⟨b, 6, none⟩ = some (.map (some ob)) := fun V hV => (B3.out.mods hV (fun h => NB.out h.symm)).cell 6
  have q2 : ∀ V, Mods (fun k => k = ob) W3 V → V.cell? ⟨gp, 0, none⟩ = some (.int .u64 (NX : Int)) := fun V hV => (P3.out.mods hV (fun h => NP.out h.symm)).cell 0
  have q3 : ∀ V, Mods (fun k => k = ob) W3 V → V.cell? ⟨gp, 1, none⟩ = some (.int .u64 (BL : Int)) := fun V hV => (P3.out.mods hV (fun h => NP.out h.symm)).cell 1
  have q4 : ∀ V, Mods (fun k => k = ob) W3 V → V.cell? ⟨gp, 2, none⟩ = some (.slice A n c) := fun V hV => (P3.out.mods hV (fun h => NP.out h.symm)).cell 2
  have HCP : Hid (Calls Try.prog 50 #[.agg #[.int .u64 (NX : Int), .int .u64 (BL : Int), .slice A n c]] W3.drew (CopT W3.drew (NX : Int) (BL : Int) v n)) := Lib.hid (lcopied_any _ _ HN.out (by omega) (V3.out.mods (Mods.refl Nil W3).drew (fun _ _ h => h)))
  have z5 : Mods (fun k => k = ob) W3 W3.drew := (Mods.refl _ W3).drew
  have HFR : Hid (∀ V k, W3.heap.size ≤ k → (∃ cs, Blk V k 5 cs) → LF W0 V X k) := Lib.hid (fun V k h1 h2 => ⟨by have := H0.out.m.size; have := HA.out.size; have := HM3.out.size; omega, fun hx => (by have := H0.out.old k hx; have := HA.out.size; have := HM3.out.size; omega), h2⟩)
  go_wp2_with fail
  go_region_held (fun V => Mods (fun k => k = ob) W3 V) (first | assumption) (first
    | (go_at_call 50; refine HCP.out.mono ?_; rintro e w6 ⟨A6, k6, rfl, s6, f6, m6⟩; have m36 : Mods Nil W3 w6 := (Mods.refl Nil W3).drew.trans m6; obtain ⟨W7, r7, h7, m7⟩ : ∃ W7, (Instr.mapUpdate 88 (.map (some ob)) (.int .u64 (NX : Int)) (.agg #[.int .u64 (NX : Int), .int .u64 (BL : Int), .slice A6 n k6, .int .u32 0])).run Try.prog w6 = .ok () W7 ∧ _ ∧ _ := (O3.out.nil m36).put (x := ⟨⟨NX, BL, v⟩, []⟩) (B := 0) (by have := HSL.out; rw [HOP.out, HNX.out] at this; exact this) (by show NX < _; omega) (by omega) HN.out (by omega) s6 (fun hne ad had => HFR.out w6 ad.block (f6 hne ad had).1 (f6 hne ad had).2.2) isMask_nil; have z6 : Mods (fun k => k = ob) W3 w6 := m36.mono (fun _ _ h => h.elim); have z7 : Mods (fun k => k = ob) W3 W7 := z6.trans m7; have H7 := Lib.hid h7; have M7 := Lib.hid z7; clear s6 f6 m6 h7 m7))
  have x3 : W7.cell? ⟨b, 3, none⟩ = some (.int .u64 (NX : Int)) := (B3.out.mods M7.out (fun h => NB.out h.symm)).cell 3
  have f3 : W7.frozen? ⟨b, 3, none⟩ = false := (B3.out.mods M7.out (fun h => NB.out h.symm)).frozen 3
  obtain ⟨NY, hNY⟩ : ∃ NY, NX + 1 = NY := ⟨_, rfl⟩
  have hadd : (NX : Int) + 1 = (NY : Int) := by omega
  have m8 : Mods (fun k => k = b) W7 (W7.setCell ⟨b, 3, none⟩ (.int .u64 (NY : Int))) := Mods.setCell (S := fun k => k = b) (Mods.refl _ _) (fun _ => rfl) _
  have b8 := (B3.out.mods M7.out (fun h => NB.out h.symm)).set_ 3 (.int .u64 (NY : Int))
  have p8 := (P3.out.mods M7.out (fun h => NP.out h.symm)).mods m8 (fun e => (P3.out.ne_ (by have := B3.out; rw [e]; exact this) (by decide)) rfl)
  have r8 := (R3.out.mods M7.out (fun h => NR.out h.symm)).mods m8 (fun e => (R3.out.ne_ (by have := B3.out; rw [e]; exact this) (by decide)) rfl)
  have o8 := H7.out.cell (B3.out.mods M7.out (fun h => NB.out h.symm)) (by decide) m8
  have v7 := V3.out.mods' M7.out (sl_off_map O3.out.isMap V3.out)
  have v8 := v7.mods' m8 (sl_off_blk (B3.out.mods M7.out (fun h => NB.out h.symm)) ld_cells v7)
  have hs8 : (W7.setCell ⟨b, 3, none⟩ (.int .u64 (NY : Int))).heap.size = W7.heap.size := by simp [World.setCell]
  obtain ⟨W8, hW8⟩ : ∃ W8, W7.setCell ⟨b, 3, none⟩ (.int .u64 (NY : Int)) = W8 := ⟨_, rfl⟩
  rw [hW8] at m8 b8 p8 r8 o8 v8 hs8
  replace b8 : Blk W8 b 90 #[.int .i64 (MN : Int), .int .u64 (BL : Int), .int .i64 2, .int .u64 (NY : Int), .int .u32 (B : Int), .map none, .map (some ob)] := by simpa using b8
  have HC8 := Lib.hid (lcopied_any (w := W8) (NX : Int) (BL : Int) HN.out (by omega) v8)
  have M8 := Lib.hid m8
  have B8 := Lib.hid b8
  have R8 := Lib.hid r8
  have O8 := Lib.hid o8
  have y0 := p8.cell 0
  have y1 := p8.cell 1
  have y2 := p8.cell 2
  simp at y0 y1 y2
  have HNY := Lib.hid hNY
  have HS8 := Lib.hid hs8
  clear m8 b8 p8 r8 o8 v7 v8 hs8 q1 q2 q3 q4 z5 z6 z7 hNY
  go_wp2_with (first
    | (go_at_call 50; refine HC8.out.mono ?_; rintro e w9 ⟨A9, k9, rfl, s9, f9, m9⟩; have S9 := Lib.hid s9; have F9 := Lib.hid f9; have M9 := Lib.hid m9; have R9 := Lib.hid (R8.out.mods m9 (fun h => h)); clear s9 f9 m9)
    | (refine wpList_store_mk rfl 49 (.tmp 4) (.tmp 33) rfl rfl gr rfl 49 #[.int .u64 0, .int .u64 0, .slice none 0 0] #[.int .u64 (NX : Int), .int .u64 (BL : Int), .slice A9 n k9] rfl R9.out rfl (by simp [Value.oneCell']) infoVtP (by simp [Value.cells]) ?_; intro w10 b10 m10; have B10 := Lib.hid b10; have M10 := Lib.hid m10; clear b10 m10))
  have hgr8 : gr < W8.heap.size := R8.out.lt
  have h810 : Mods (fun k => k = gr) W8 w10 := (M9.out.mono (fun _ _ h => h.elim)).trans M10.out
  have s9 : Sl w10 A9 k9 (bts v) := S9.out.mods' M10.out (fun hne a ha e => by have := (F9.out hne a ha).1; omega)
  have mW8 : Mods (LDM W0 X) W W8 := by
    have e1 : Mods (LDM W0 X) W W3 := (HA.out.mono (fun _ _ h => h.elim)).trans (HM3.out.mono (fun _ _ h => h.elim))
    have e2 : Mods (LDM W0 X) W3 W7 := M7.out.mono (fun k _ e => by subst e; exact O3.out.own)
    have e3 : Mods (LDM W0 X) W7 W8 := M8.out.mono (fun k _ e => by subst e; exact ⟨H0.out.lo, H0.out.nx⟩)
    exact (e1.trans e2).trans e3
  have mW10 : Mods (LDM W0 X) W w10 := mW8.trans2 h810 (fun i hi e => by have := HGR.out; omega)
  have hnew : ∀ k, W8.heap.size ≤ k → ∀ hl : ∃ a, A9 = some a ∧ k = a.block, W.heap.size ≤ k := fun k hk _ => by have := mW8.size; omega
  refine bodyPost_ret (results_rowA rfl _ _ rfl B10.out Try.underlying49 rfl infoVtP) rfl ⟨A9, k9, rfl, s9, fun hne a ha => ?_, ⟨H0.out.ldm mW10, HG.out, ?_, H0.out.lo, ?_, NY, B, .map none, .map (some ob), ?_, .inr (.inr ⟨?_, ob, rfl, rfl, ?_, ?_⟩)⟩, mW10⟩
  · obtain ⟨g1, g2, cs, g3⟩ := F9.out hne a ha
    have g4 := g3.mods M10.out (fun e => by omega)
    exact ⟨⟨by have := mW8.size; omega, g4.lt⟩, cs, g4⟩
  · rintro k (hk | ⟨hne, a, ha, rfl⟩)
    · exact Nat.lt_of_lt_of_le (H0.out.old k hk) mW10.size
    · obtain ⟨g1, g2, cs, g3⟩ := F9.out hne a ha
      exact (g3.mods M10.out (fun e => by omega)).lt
  · rintro (hk | ⟨hne, a, ha, e⟩)
    · exact H0.out.nx hk
    · have := (F9.out hne a ha).1
      have := B8.out.lt
      omega
  · rw [HPR.out]
    show Blk w10 b _ #[.int .i64 (l.many : Int), .int .u64 (BL : Int), .int .i64 (l.stage : Int), .int .u64 (NY : Int), .int .u32 (B : Int), .map none, .map (some ob)]
    rw [HMN.out, HST.out]
    exact B8.out.mods h810 (fun e => R8.out.ne_ (by have := B8.out; rw [e] at this; exact this) (by decide) rfl)
  · rw [HPR.out]; exact HST.out
  · rw [HPR.out]; exact HNY.out.symm
  · rw [HPR.out]
    show OpM W0 w10 _ (l.opn ++ [⟨⟨NX, BL, v⟩, []⟩]) (T + 1) ob
    rw [HOP.out]
    have hlf : ∀ k, k < W8.heap.size → ¬ X k → ¬ (X k ∨ (bts v ≠ [] ∧ ∃ a, A9 = some a ∧ k = a.block)) := by
      rintro k hk hx (h | ⟨hne, a, ha, rfl⟩)
      · exact hx h
      · have := (F9.out hne a ha).1
        omega
    exact O8.out.move (S := fun k => k = gr) ⟨h810, Nat.le_refl _, fun k hk => ⟨hk.ne_cells R8.out (by decide), hlf k hk.lt hk.2.1⟩⟩ ⟨NR.out, hlf ob O8.out.lt O8.out.own.2⟩
end Go.Proofs.Ytpabbhhaagfoeaa
end

section
/- Package leader: lead; what it is made of. -/
namespace Go.Proofs.Ytpabbhhaagfoeaa
set_option maxRecDepth 100000
open Go.RowKit Go.Maps
set_option linter.unusedVariables false
set_option linter.unusedSimpArgs false
/-- Votes that are told, in memory that is X's. -/
structure OwnL (base : Nat) (w : World) (X : Nat → Prop) (v : Value) (l : List VtP) : Prop where
  own : w.ownsRow base 49 3 v l.length (pvc l)
  ownX : ∀ k, v.ownBlock = some k → X k
  bys : ∀ q ∈ l, Sl w q.A q.c (bts q.val) ∧ (bts q.val ≠ [] → ∀ a, q.A = some a → X a.block ∧ base ≤ a.block ∧ ∃ cs, Blk w a.block 5 cs) ∧ q.slot < 18446744073709551616 ∧ q.bal < 18446744073709551616
theorem OwnL.none_ (base : Nat) (w : World) (X : Nat → Prop) : OwnL base w X (.slice none 0 0) [] := ⟨World.ownsRow_nil _ _ _ _, fun k h => (by cases h), fun q h => by cases h⟩
theorem OwnL.mods {base : Nat} {w w' : World} {X Y S : Nat → Prop} {v : Value} {l : List VtP} (h : OwnL base w X v l) (hm : Mods S w w') (hS : ∀ k, X k → ¬ S k) (hY : ∀ k, X k → Y k) : OwnL base w' Y v l :=
  ⟨own_mods h.own hm (fun k hk => hS k (h.ownX k hk)), fun k hk => hY k (h.ownX k hk), fun q hq => by
    obtain ⟨a1, a2, a3⟩ := h.bys q hq
    refine ⟨a1.mods' hm (fun hne a ha hs => hS _ (a2 hne a ha).1 hs), fun hne a ha => ?_, a3⟩
    obtain ⟨b0, b1, cs, b2⟩ := a2 hne a ha
    exact ⟨hY _ b0, b1, cs, b2.mods hm (hS _ b0)⟩⟩
theorem OwnL.push {base : Nat} {w w1 : World} {X Y : Nat → Prop} {v v' : Value} {l : List VtP} {q : VtP} (h : OwnL base w X v l) (hq : Sl w q.A q.c (bts q.val) ∧ (bts q.val ≠ [] → ∀ a, q.A = some a → X a.block ∧ base ≤ a.block ∧ ∃ cs, Blk w a.block 5 cs) ∧ q.slot < 18446744073709551616 ∧ q.bal < 18446744073709551616)
    (ho : w1.ownsRow base 49 3 v' (l.length + 1) (pvc (l ++ [q]))) (hm : Mods (fun k => v.ownBlock = some k) w w1) (hY : ∀ k, X k → Y k) (hv : ∀ k, v'.ownBlock = some k → Y k) : OwnL base w1 Y v' (l ++ [q]) := by
  refine ⟨by simpa using ho, hv, fun r hr => ?_⟩
  have hr1 : Sl w r.A r.c (bts r.val) ∧ (bts r.val ≠ [] → ∀ a, r.A = some a → X a.block ∧ base ≤ a.block ∧ ∃ cs, Blk w a.block 5 cs) ∧ r.slot < 18446744073709551616 ∧ r.bal < 18446744073709551616 := by
    rcases List.mem_append.1 hr with hr | hr
    · exact h.bys r hr
    · rw [List.mem_singleton.1 hr]; exact hq
  obtain ⟨a1, a2, a3⟩ := hr1
  have off : ∀ k, (∃ cs, Blk w k 5 cs) → ¬ v.ownBlock = some k := fun k ⟨cs, hb⟩ => own_blk_ne h.own hb (by decide)
  refine ⟨a1.mods' hm (fun hne a ha hs => off _ (a2 hne a ha).2.2 hs), fun hne a ha => ?_, a3⟩
  obtain ⟨b0, b1, cs, b2⟩ := a2 hne a ha
  exact ⟨hY _ b0, b1, cs, b2.mods hm (off _ ⟨cs, b2⟩)⟩
/-- As the statements have it. -/
theorem OwnL.pvs {base : Nat} {w : World} {X : Nat → Prop} {v : Value} {l : List VtP} {D : Nat → Prop} (h : OwnL base w X v l) (hD : ∀ k, base ≤ k → k < w.heap.size → X k → D k) : ∃ A c, v = .slice A l.length c ∧ PVs w D A c l.length l :=
  pvs_own h.own rfl (fun k hk => hD k (h.own.lt k hk).1 (h.own.lt k hk).2 (h.ownX k hk)) (fun q hq => by
    obtain ⟨a1, a2, a3⟩ := h.bys q hq
    exact ⟨a1, fun hne a ha => hD _ (a2 hne a ha).2.1 (by obtain ⟨cs, hb⟩ := (a2 hne a ha).2.2; exact hb.lt) (a2 hne a ha).1, a3⟩)
/-- A leader that leads, k proposals on. -/
def PLd.ledTo (l : PLd) (k : Nat) : PLd := { l with stage := 2, next := l.first + k, opn := (propsTo l.first l.bal l.known k).map fun v => ⟨v, []⟩ }
theorem ledTo_next (l : PLd) (k : Nat) (h : l.first + k ≠ 18446744073709551615) : (l.ledTo k).propose (propV l.bal l.known (l.first + k)).val = l.ledTo (k + 1) := by
  have hE : (l.ledTo k).propE = 0 := by
    unfold PLd.propE
    rw [if_neg (fun h => h rfl), if_neg (show (l.ledTo k).next ≠ 18446744073709551615 from h)]
  unfold PLd.propose
  rw [if_pos hE]
  unfold PLd.ledTo
  simp only [propsTo_succ, List.map_append, List.map_cons, List.map_nil]
  rfl
theorem ledTo_all (l : PLd) : l.ledTo (endV l.first l.known - l.first) = l.lead := by
  have := endV_ge l.first l.known
  unfold PLd.ledTo PLd.lead PLd.props
  rw [show l.first + (endV l.first l.known - l.first) = endV l.first l.known by omega]
theorem LdS.at2 {W0 W : World} {X : Nat → Prop} {b T : Nat} {l : PLd} (h : LdS W0 W X b l T) (hst : l.stage = 2) : ∃ B ob, Blk W b 90 #[.int .i64 (l.many : Int), .int .u64 (l.bal : Int), .int .i64 2, .int .u64 (l.next : Int), .int .u32 ((B : Nat) : Int), .map none, .map (some ob)] ∧ OpM W0 W X l.opn T ob := by
  obtain ⟨nx, B, kv, ov, h1, h2⟩ := h.blk
  rcases h2 with ⟨e, _⟩ | ⟨e, _⟩ | ⟨-, ob, rfl, rfl, rfl, ho⟩
  · rw [hst] at e; cases e
  · rw [hst] at e; cases e
  rw [ldCs, hst] at h1
  exact ⟨B, ob, h1, ho⟩
theorem LdS.at1 {W0 W : World} {X : Nat → Prop} {b T : Nat} {l : PLd} (h : LdS W0 W X b l T) (hst : l.stage = 1) : ∃ B kb ob, Blk W b 90 #[.int .i64 (l.many : Int), .int .u64 (l.bal : Int), .int .i64 1, .int .u64 (l.first : Int), .int .u32 ((B : Nat) : Int), .map (some kb), .map (some ob)] ∧ isMask B l.prom ∧ kb ≠ ob ∧ KnM W0 W X l.first l.known T kb ∧ OpM W0 W X [] T ob := by
  obtain ⟨nx, B, kv, ov, h1, h2⟩ := h.blk
  rcases h2 with ⟨e, _⟩ | ⟨-, kb, ob, rfl, rfl, g1, rfl, g2, g3, g4⟩ | ⟨e, _⟩
  · rw [hst] at e; cases e
  · rw [ldCs, hst] at h1
    exact ⟨B, kb, ob, h1, g2, g1, g3, g4⟩
  · rw [hst] at e; cases e
/-- A known vote's value, as the map tells it. -/
theorem KnM.value {W0 W V : World} {X : Nat → Prop} {lo T kb s bal : Nat} {L : List PVt} (h : KnM W0 W X lo L T kb) (hs : s < 18446744073709551616) (hl : lo ≤ s) (hm : ∀ k, k = kb ∨ (∃ cs, Blk W k 5 cs) → k < W.heap.size → V.heap[k]? = W.heap[k]?) (hsz : W.heap.size ≤ V.heap.size) :
    ∃ (i j : Int) (A : Option Addr) (c : Nat), (Instr.lookup 87 (.map (some kb)) (.int .u64 (s : Int)) false).run Try.prog V = .ok (.agg #[.int .u64 i, .int .u64 j, .slice A (propV bal L s).val.length c]) V ∧ Sl V A c (bts (propV bal L s).val) ∧ (propV bal L s).val.length ≤ 100000 := by
  obtain ⟨n, f, h1, h2, h3, h4, h5⟩ := h
  have hv := h5 s hs
  rw [if_pos hl] at hv
  have hlt := h1.lt
  have h1V : KMap Try.prog 28 V kb n f := by
    obtain ⟨D, ⟨es, c, hb, r⟩, h2⟩ := h1
    exact ⟨D, ⟨es, c, (hm kb (.inl rfl) hlt).trans hb, r⟩, h2⟩
  unfold propV
  cases hlk : lookV L s with
  | none => exact ⟨0, 0, none, 0, h1V.miss0 (int_keyed Try.underlying28) Try.underlying87 (keyUL Try.underlying28 hs) (hv.none_ hlk) (zeroVt V), Sl.none_ _, Nat.zero_le _⟩
  | some v =>
    obtain ⟨A, c, e, hsl, hF, hle⟩ := hv.some_ v hlk
    refine ⟨_, _, A, c, (h1V.look (int_keyed Try.underlying28) Try.underlying87 (keyUL Try.underlying28 hs) e (zeroVt V)).2, ⟨hsl.le, hsl.max, hsl.nil, ?_⟩, hle⟩
    rcases hsl.has with hx | ⟨b2, off, rfl, hc⟩
    · exact .inl hx
    · by_cases hne : bts v.val = []
      · exact .inl hne
      · obtain ⟨_, _, hb⟩ := hF hne _ rfl
        refine .inr ⟨b2, off, rfl, fun j u hu => ?_⟩
        have hx := hc j u hu
        have hlt2 := World.block_lt_of_cell? W _ hx
        rw [World.cell?_of_block (hm b2 (.inr hb) hlt2)]
        exact hx
end Go.Proofs.Ytpabbhhaagfoeaa
end

section
/- Package leader: lead's walk. -/
namespace Go.Proofs.Ytpabbhhaagfoeaa
set_option maxRecDepth 100000
open Go.RowKit Go.Maps
set_option linter.unusedVariables false
set_option linter.unusedSimpArgs false
theorem vfield2 (w : World) (s b : Int) (A : Option Addr) (n c : Nat) : (Instr.field 49 (.agg #[.int .u64 s, .int .u64 b, .slice A n c]) 2).run Try.prog w = .ok (.slice A n c) w := by kernel_rfl
attribute [local go_sem] vfield2
/-- What lead and Promise tell. -/
def PromT (W0 W : World) (X : Nat → Prop) (b : Nat) (l' : PLd) (T : Nat) (told : List PVt) (r : Bool) (e : Ending) (W' : World) : Prop :=
  ∃ A n c L, ∃ X' : Nat → Prop, e = .returned (.tuple #[.slice A n c, .bool r]) ∧ L.map VtP.plain = told ∧ PVs W' (fun k => NEW W W' k ∧ X' k) A c n L ∧ (∀ k, X k → X' k) ∧ (∀ k, X' k → LDN X W W' k) ∧ LdS W0 W' X' b l' T ∧ Mods (LDM W0 X) W W'
theorem PromT.none_ {W0 W W' : World} {X : Nat → Prop} {b : Nat} {l' : PLd} {T : Nat} (h : LdS W0 W' X b l' T) (hm : Mods (LDM W0 X) W W') : PromT W0 W X b l' T [] false (.returned (.tuple #[.slice none 0 0, .bool false])) W' :=
  ⟨none, 0, 0, [], X, rfl, rfl, PVs.none_ _ _, fun _ h => h, fun _ h => .inl h, h, hm⟩
set_option maxHeartbeats 6400000 in
theorem LdS.lead0 {W0 W : World} {X : Nat → Prop} {b T : Nat} {l : PLd} (h : LdS W0 W X b l T) (hT : T ≤ 800000) (hst : l.stage = 1) :
    Calls Try.prog 42 #[.pointer (some ⟨b, 0, none⟩)] W (PromT W0 W X b (if l.tooFar then l.stop else l.lead) (T + 4096) (if l.tooFar then [] else l.props) (if l.tooFar then false else true)) := by
  obtain ⟨B, kb, ob, h1, -, hko, hk, ho⟩ := h.at1 hst
  have hkn : ∀ v ∈ l.known, v.slot < 18446744073709551616 := fun v hv => (h.good.known v hv).1
  have HBH := Lib.hid (lbehind_any h1 rfl rfl hk (by omega) hkn)
  have H0 := Lib.hid h
  by_cases hfar : l.tooFar
  · rw [if_pos hfar, if_pos hfar, if_pos hfar]
    have hd : decide (¬ ∃ v ∈ l.known, farV l.first v) = false := decide_eq_false (fun h => h hfar)
    rw [hd] at HBH
    clear hfar hd h h1 hk ho hko hkn hst
    go_enter Try.func42, Try.ntmps42
    go_wp2_with (first
      | (go_at_call 56; refine HBH.out.mono ?_; rintro e w1 ⟨r, rfl, -, m1⟩; have M1 := Lib.hid m1; have HS := Lib.hid ((H0.out.nil m1).stop); clear m1)
      | (go_at_call 22; refine HS.out.mono ?_; rintro e w2 ⟨rfl, h2, m2⟩; have H2 := Lib.hid h2; have M2 := Lib.hid m2; clear h2 m2))
    go_ret2
    exact PromT.none_ (H2.out.mono_T (by omega)) ((M1.out.mono (fun _ _ h => h.elim)).trans M2.out)
  · rw [if_neg hfar, if_neg hfar, if_neg hfar]
    have hd : decide (¬ ∃ v ∈ l.known, farV l.first v) = true := decide_eq_true hfar
    rw [hd] at HBH
    have hnofar : ∀ v ∈ l.known, ¬ farV l.first v := fun v hv hf => hfar ⟨v, hv, hf⟩
    have hE1 := endV_ge l.first l.known
    have hE2 := endV_le hnofar
    have hE3 := endV_lt h.good.first (fun v hv => ⟨hkn v hv, hnofar v hv⟩)
    obtain ⟨E, hE⟩ : ∃ E, endV l.first l.known = E := ⟨_, rfl⟩
    obtain ⟨F, hF⟩ : ∃ F, l.first = F := ⟨_, rfl⟩
    have HLE : Hid (l.ledTo (E - F) = l.lead) := Lib.hid (by rw [← hE, ← hF]; exact ledTo_all l)
    have HPR : Hid (l.props = propsTo F l.bal l.known (E - F)) := Lib.hid (by unfold PLd.props; rw [hE, hF])
    have HNF : Hid (¬ ∃ v ∈ l.known, farV l.first v) := Lib.hid hfar
    have hg0 : (l.ledTo 0).good := ⟨h.good.many1, h.good.many2, by simp [PLd.ledTo], h.good.bal, h.good.first, by simpa [PLd.ledTo] using h.good.first, h.good.prom, h.good.known, ⟨List.Pairwise.nil, fun x h => (by cases h)⟩, fun h => absurd rfl h⟩
    have HLB : Hid (l.bal < 18446744073709551616) := Lib.hid h.good.bal
    obtain ⟨BL, hBL⟩ : ∃ BL, l.bal = BL := ⟨_, rfl⟩
    rw [hE, hF] at hE1
    rw [hE] at hE3
    rw [hE, hF] at hE2
    -- behind the call and the two stores
    have HST : Hid (∀ w1, Mods Nil W w1 → ∃ w2, (w1.setCell ⟨b, 2, none⟩ (.int .i64 2)).setCell ⟨b, 5, none⟩ (.map none) = w2 ∧ w2.heap.size = w1.heap.size ∧ Mods (LDM W0 X) W w2 ∧ KnM W0 w2 X F l.known T kb ∧ LdS W0 w2 (fun k => X k ∨ k = kb ∨ (∃ cs, Blk w2 k 5 cs)) b (l.ledTo 0) T) := Lib.hid (fun w1 m1 => by
      have c1 := h1.mods m1 (fun h => h)
      have mA : Mods (fun k => k = b) w1 ((w1.setCell ⟨b, 2, none⟩ (.int .i64 2)).setCell ⟨b, 5, none⟩ (.map none)) := Mods.setCell (S := fun k => k = b) (Mods.setCell (S := fun k => k = b) (Mods.refl _ _) (fun _ => rfl) _) (fun _ => rfl) _
      have c2 := (c1.set_ 2 (.int .i64 2)).set_ 5 (.map none)
      have s2 : ((w1.setCell ⟨b, 2, none⟩ (.int .i64 2)).setCell ⟨b, 5, none⟩ (.map none)).heap.size = w1.heap.size := by simp [World.setCell]
      obtain ⟨w2, hw2⟩ : ∃ w2, (w1.setCell ⟨b, 2, none⟩ (.int .i64 2)).setCell ⟨b, 5, none⟩ (.map none) = w2 := ⟨_, rfl⟩
      rw [hw2] at mA c2 s2
      replace c2 : Blk w2 b 90 #[.int .i64 (l.many : Int), .int .u64 (l.bal : Int), .int .i64 2, .int .u64 (l.first : Int), .int .u32 (B : Int), .map none, .map (some ob)] := by simpa using c2
      have hm : Mods (LDM W0 X) W w2 := (m1.mono (fun _ _ h => h.elim)).trans (mA.mono (fun k _ e => by subst e; exact ⟨h.lo, h.nx⟩))
      have k1 : KnM W0 w1 X l.first l.known T kb := hk.move (S := Nil) ⟨m1, Nat.le_refl _, fun k hk => ⟨fun h => h, hk.2.1⟩⟩ ⟨fun h => h, hk.own.2⟩
      have o1 := ho.nil m1
      have k2 : KnM W0 w2 X l.first l.known T kb := k1.move (S := fun k => k = b) ⟨mA, Nat.le_refl _, fun k hk => ⟨hk.ne_cells c1 (by decide), hk.2.1⟩⟩ ⟨map_ne_blk k1.isMap c1, hk.own.2⟩
      have o2 : OpM W0 w2 X [] T ob := o1.cell c1 (by decide) mA
      rw [hF] at k2
      refine ⟨w2, hw2, s2, hm, k2, h.ldm hm, hg0, ?_, h.lo, ?_, F, B, .map none, .map (some ob), ?_, .inr (.inr ⟨rfl, ob, rfl, rfl, by rw [← hF]; rfl, ?_⟩)⟩
      · rintro k (hk | rfl | ⟨cs, hk⟩)
        · exact Nat.lt_of_lt_of_le (h.old k hk) hm.size
        · exact k2.lt
        · exact hk.lt
      · rintro (hk | e | ⟨cs, hk⟩)
        · exact h.nx hk
        · exact map_ne_blk k2.isMap c2 e.symm
        · exact c2.ne_ hk (by decide) rfl
      · show Blk w2 b _ #[.int .i64 (l.many : Int), .int .u64 (l.bal : Int), .int .i64 2, .int .u64 (F : Int), .int .u32 (B : Int), .map none, .map (some ob)]
        rw [← hF]
        exact c2
      · obtain ⟨n, f, g1, g2, g3, g4, g5⟩ := o2
        refine ⟨n, f, g1, g2, g3, ?_, fun s hs => ⟨fun _ => (g5 s hs).none_ rfl, fun v hv => (by cases hv)⟩⟩
        rintro (hk | e | ⟨cs, hk⟩)
        · exact g4 hk
        · exact hko e.symm
        · exact map_ne_blk g1.isMap hk rfl)
    have c5 := h1.cell 5
    have B1 := Lib.hid h1
    have HEF := Lib.hid hE
    have HFF := Lib.hid hF
    have HBL := Lib.hid hBL
    clear h h1 hk ho hkn hfar hd hnofar hg0 hko hst hBL hF hE
    go_enter Try.func42, Try.ntmps42
    go_wp2_with (first
      | (go_at_call 56; refine HBH.out.mono ?_; rintro e w1 ⟨r, rfl, hr, m1⟩; have hrE : E = r := ((hr HNF.out).trans HEF.out).symm; subst hrE; clear hr; have M1 := Lib.hid m1; have c5' := (B1.out.mods m1 (fun h => h)).cell 5; have c2' := (B1.out.mods m1 (fun h => h)).cell 2; have f2 := (B1.out.mods m1 (fun h => h)).frozen 2; have f5 : w1.frozen? ⟨b, 5, none⟩ = false := (B1.out.mods m1 (fun h => h)).frozen 5; obtain ⟨w2, hw2, s2, m2, k2, l2⟩ := HST.out w1 m1; have S2 := Lib.hid s2; have M2 := Lib.hid m2; have K2 := Lib.hid k2; have L2 := Lib.hid l2; simp at c5' c2'; clear m1 s2 m2 k2 l2))
    obtain ⟨Y, hY⟩ : ∃ Y : Nat → Prop, (fun k => X k ∨ k = kb ∨ (∃ cs, Blk w2 k 5 cs)) = Y := ⟨_, rfl⟩
    rw [hY] at L2
    have HYX : Hid (∀ k, X k → Y k) := Lib.hid (fun k hk => by rw [← hY]; exact .inl hk)
    have HYK : Hid (∀ k, k = kb ∨ (∃ cs, Blk w2 k 5 cs) → Y k) := Lib.hid (fun k hk => by rw [← hY]; exact .inr hk)
    clear hw2 c5 c5' c2' f2 f5 hY HST HBH
    go_loopw [7] (fun x wr => ∃ (k : Nat) (L : List VtP) (Z : Nat → Prop), k ≤ E - F ∧ L.length = k ∧ Hid (L.map VtP.plain = propsTo F BL l.known k) ∧ Hid (LdS W0 wr Z b (l.ledTo k) (T + k)) ∧ Hid (OwnL w2.heap.size wr Z x L) ∧ Hid (∀ i, Y i → Z i) ∧ Hid (∀ i, Z i → Y i ∨ w2.heap.size ≤ i) ∧ Hid (Mods (LDM W0 Y) w2 wr)) (fun _ wr => E - (intOf ((wr.cell? ⟨b, 3, none⟩).getD undef)).toNat)
    case atStart => exact ⟨0, [], Y, Nat.zero_le _, rfl, Lib.hid rfl, L2, Lib.hid (OwnL.none_ _ _ _), Lib.hid (fun _ h => h), Lib.hid (fun _ h => .inl h), Lib.hid (Mods.refl _ _)⟩
    case round =>
      obtain ⟨k, L, Z, hk, hLk, HP, HL, HO, HZ, HZ2, HM⟩ := hrel
      obtain ⟨Bk, obk, b3, -⟩ := HL.out.at2 rfl
      obtain ⟨s, hs⟩ : ∃ s, F + k = s := ⟨_, rfl⟩
      have hnx : (l.ledTo k).next = s := by rw [← hs, ← HFF.out]; rfl
      rw [hnx] at b3
      have x3 := b3.cell 3
      simp at x3
      have x3' : wr.cell? ⟨b, 3, none⟩ = some (.int .u64 (s : Int)) := x3
      by_cases hlt : s < E
      · have hltI : decide ((s : Int) < (E : Int)) = true := by simp; omega
        have hltN : decide (s < E) = true := by simp; omega
        have hs64 : s < 18446744073709551616 := by omega
        obtain ⟨i0, j0, A0, c0, hlk, hsl, hle⟩ := K2.out.value (V := wr) (bal := BL) hs64 (by omega) (fun i hi hlt => HM.out.block i hlt (fun h => h.2 (HYK.out i hi))) HM.out.size
        obtain ⟨vv, hvv⟩ : ∃ vv, (propV BL l.known s).val = vv := ⟨_, rfl⟩
        obtain ⟨m, hm⟩ : ∃ m, vv.length = m := ⟨_, rfl⟩
        rw [hvv] at hlk hsl hle
        rw [hm] at hlk hle
        have HPP := Lib.hid (HL.out.propose0 (by omega) rfl (by rw [hnx]; omega) hm (by omega) hsl)
        have HNX : Hid ((l.ledTo k).propose vv = l.ledTo (k + 1) ∧ (l.ledTo k).bal = BL) := Lib.hid ⟨by
          have := ledTo_next l k (by rw [HFF.out]; omega)
          rw [HBL.out, HFF.out, hs, hvv] at this
          exact this, HBL.out⟩
        rw [HNX.out.1, HNX.out.2, hnx] at HPP
        have HVV := Lib.hid hvv
        have HMM := Lib.hid hm
        have HSS := Lib.hid hs
        have HSL := Lib.hid hs64
        have HX3 := Lib.hid x3'
        have HLK := Lib.hid hLk
        clear x3' b3 hnx hsl hle hvv hm hs64 hs hLk
        go_wp2_with (first
          | (go_at_call 45; refine HPP.out.mono ?_; rintro e w4 ⟨A4, c4, rfl, s4, f4, l4, m4⟩; have S4 := Lib.hid s4; have F4 := Lib.hid f4; have L4 := Lib.hid l4; have M4 := Lib.hid m4; have HO4 := Lib.hid (HO.out.mods (Y := fun i => Z i ∨ (bts vv ≠ [] ∧ ∃ a, A4 = some a ∧ i = a.block)) m4 (fun i h1 h2 => h2.2 h1) (fun i h => .inl h)); clear s4 f4 l4 m4)
          | (at_builtin; (refine push_pvm rfl _ _ rfl ⟨s, BL, A4, c4, vv⟩ HMM.out rfl HO4.out.own rfl (by have := HLK.out; omega) (by have := HM.out.size; have := M4.out.size; omega) ?_; intro g5 cap5 w5 o5 m5 q5; have O5 := Lib.hid o5; have M5 := Lib.hid m5; have Q5 := Lib.hid q5; clear o5 m5 q5)))
        have hW0 : W0.heap.size ≤ w2.heap.size := by have := M2.out.size; have := H0.out.m.size; omega
        have hlds := L4.out.keep_more M5.out (fun i hi hs => ⟨HO4.out.ownX i hs, by have := (HO4.out.own.lt i hs).1; omega⟩)
        have hpush := HO4.out.push (q := ⟨s, BL, A4, c4, vv⟩) (Y := LDN (fun i => Z i ∨ (bts vv ≠ [] ∧ ∃ a, A4 = some a ∧ i = a.block)) w4 w5) ⟨S4.out, fun hne a ha => ⟨.inr ⟨hne, a, ha, rfl⟩, by have := (F4.out hne a ha).1.1; have := HM.out.size; omega, (F4.out hne a ha).2⟩, HSL.out, by rw [← HBL.out]; exact HLB.out⟩ O5.out M5.out (fun i h => .inl h) (fun i hi => by
          have hi2 : g5 = i := by simpa [Value.ownBlock] using hi
          subst hi2
          rcases Q5.out with h | h
          · exact .inl (HO4.out.ownX _ h)
          · exact .inr ⟨h, (O5.out.lt g5 rfl).2⟩)
        obtain ⟨Bn, obn, bn, -⟩ := hlds.at2 rfl
        have hnx5 : (l.ledTo (k + 1)).next = s + 1 := by have := HSS.out; show l.first + (k + 1) = _; rw [HFF.out]; omega
        have x5 : w5.cell? ⟨b, 3, none⟩ = some (.int .u64 (((l.ledTo (k + 1)).next : Nat) : Int)) := bn.cell 3
        rw [hnx5] at x5
        refine ⟨⟨k + 1, L ++ [⟨s, BL, A4, c4, vv⟩], _, by have := HSS.out; omega, by have := HLK.out; simp; omega, Lib.hid ?_, Lib.hid hlds, Lib.hid hpush, Lib.hid (fun i hi => .inl (.inl (HZ.out i hi))), Lib.hid (fun i hi => ?_), Lib.hid ?_⟩, ?_⟩
        · rw [propsTo_succ, List.map_append, HP.out]
          congr 1
          show [(⟨s, BL, vv⟩ : PVt)] = [propV BL l.known (F + k)]
          rw [HSS.out, ← HVV.out]
          rfl
        · rcases hi with (hi | ⟨hne, a, ha, rfl⟩) | hi
          · exact HZ2.out i hi
          · have := (F4.out hne a ha).1.1
            have := HM.out.size
            exact .inr (by omega)
          · have := M4.out.size
            have := HM.out.size
            have := hi.1
            exact .inr (by omega)
        · refine (HM.out.trans (M4.out.mono (fun i _ h => ⟨h.1, fun hy => h.2 (HZ.out i hy)⟩))).trans2 M5.out (fun i hi h => ?_)
          have := (HO4.out.own.lt i h).1
          omega
        · rw [x5, HX3.out]
          simp only [Option.getD_some, intOf]
          omega
      · have hltI : decide ((s : Int) < (E : Int)) = false := by simp; omega
        have hltN : decide (s < E) = false := by simp; omega
        clear x3' b3 hnx
        go_wp2_with fail
        go_ret2
        obtain rfl : E - F = k := by omega
        obtain ⟨A9, c9, rfl, hpv⟩ := HO.out.pvs (D := fun i => NEW W wr i ∧ Z i) (fun i h1 h2 h3 => ⟨⟨by have := M2.out.size; omega, h2⟩, h3⟩)
        have hsub : ∀ i, Z i ∧ LDN X W wr i → LDN Z wr wr i := fun i h => .inl h.1
        refine ⟨A9, L.length, c9, L, fun i => Z i ∧ LDN X W wr i, rfl, ?_, hpv.sub (fun i h => ⟨h.1, h.2, .inr h.1⟩), fun i hi => ⟨HZ.out i (HYX.out i hi), .inl hi⟩, fun i hi => hi.2, ?_, ?_⟩
        · rw [HP.out, HPR.out, HBL.out]
        · rw [← HLE.out]
          exact ((HL.out.mono_T (by omega)).more (Mods.refl _ _) hsub)
        · exact M2.out.trans (HM.out.mono (fun i _ h => ⟨h.1, fun hx => h.2 (HYX.out i hx)⟩))
end Go.Proofs.Ytpabbhhaagfoeaa
end
