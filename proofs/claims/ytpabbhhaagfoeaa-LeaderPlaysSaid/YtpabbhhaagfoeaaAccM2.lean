/- Texts laid as one: Acc7, Acc8, Acc9, AccA, AccB. -/
import Derived.Test.YtpabbhhaagfoeaaAccM1
import Derived.Test.YtpabbhhaagfoeaaSrtF
import Derived.Test.YtpabbhhaagfoeaaGQ
import Derived.Deep.RegionWith

section
/- Package acceptor: the slots, sorted; Prepare. -/
namespace Go.Proofs.Ytpabbhhaagfoeaa
set_option maxRecDepth 100000
open Go.RowKit Go.Maps Go.Shelf
set_option linter.unusedVariables false
set_option linter.unusedSimpArgs false
theorem sort_same {l : List Int} (hl : l.Pairwise (· < ·)) {ss : List Int} (hn : ss.Nodup) (hm : ∀ x, x ∈ ss ↔ x ∈ l) : ss.mergeSort (fun x y => decide (x ≤ y)) = l := by
  have hp : ss.Perm l := (List.perm_ext_iff_of_nodup hn (hl.imp (fun {a b} h e => by subst e; omega))).2 hm
  have h1 : (ss.mergeSort (fun x y => decide (x ≤ y))).Pairwise (fun x y => decide (x ≤ y) = true) := List.pairwise_mergeSort (fun a b c h1 h2 => by simp only [decide_eq_true_eq] at *; omega) (fun a b => by simp only [Bool.or_eq_true, decide_eq_true_eq]; omega) ss
  refine List.Perm.eq_of_pairwise (le := fun x y => decide (x ≤ y) = true) (fun a b _ _ h1 h2 => ?_) h1 (hl.imp (fun {a b} h => by simp only [decide_eq_true_eq]; omega)) ((List.mergeSort_perm ss _).trans hp)
  simp only [decide_eq_true_eq] at h1 h2
  omega
def slotsI (L : List PVt) : List Int := L.map fun v => (v.slot : Int)
theorem slotsI_rise {L : List PVt} (h : riseV L) : (slotsI L).Pairwise (· < ·) := List.pairwise_map.2 (h.imp (fun {a b} h => by omega))
section
variable {W0 W W' : World} {X S Y : Nat → Prop} {b T : Nat} {a : PAc} {L : List PVt} {mv : Value}
theorem keys_of {f : Value → Option Value} {F : Nat → Prop} (hok : ∀ v ∈ L, v.slot < 18446744073709551616) (hr : riseV L) (h : ∀ s : Nat, s < 18446744073709551616 → VotAt W F (lookV L s) (f (.int .u64 (s : Int)))) (x : Int) : (inU x ∧ (f (.int .u64 x)).isSome = true) ↔ x ∈ slotsI L := by
  constructor
  · rintro ⟨⟨h1, h2⟩, h3⟩
    obtain ⟨s, rfl⟩ : ∃ s : Nat, x = (s : Int) := ⟨x.toNat, by omega⟩
    cases hl : lookV L s with
    | none => rw [(h s (by omega)).none_ hl] at h3; cases h3
    | some v =>
      obtain ⟨hv, rfl⟩ := lookV_some hl
      exact List.mem_map.2 ⟨v, hv, rfl⟩
  · intro hx
    obtain ⟨v, hv, rfl⟩ := List.mem_map.1 hx
    have hs := hok v hv
    obtain ⟨A, c, e, _⟩ := (h v.slot hs).some_ v (lookV_of hr hv)
    exact ⟨⟨by omega, by omega⟩, by rw [e]; rfl⟩
/-- The slots, sorted. -/
theorem MapV.sorted (h : MapV W0 W X b L T mv) (hr : riseV L) (hok : ∀ v ∈ L, v.slot < 18446744073709551616) (hT : T ≤ 1000) (hlen : L.length ≤ T) :
    Calls Try.prog 48 #[.func (.func 65) #[] #[.pointer (some ⟨W.heap.size, 0, none⟩)]] (W.alloc (.cells #[mv] 87)) fun e w' => ∃ v, e = .returned v ∧ w'.ownsRow (W.heap.size + 1) 28 1 v L.length ((slotsI L).map nU) ∧ Mods Nil W w' := by
  have eg := enters_of Try.func65 (by kernel_rfl) rfl
  have hc : (W.alloc (.cells #[mv] 87)).cell? ⟨W.heap.size, 0, none⟩ = some mv := (Blk.new W _ #[mv]).cell 0
  have hm : Mods Nil W (W.alloc (.cells #[mv] 87)) := (Mods.refl _ _).alloc _
  have hsz : (W.alloc (.cells #[mv] 87)).heap.size = W.heap.size + 1 := by simp
  rcases h with ⟨rfl, rfl⟩ | ⟨mb, n, f, rfl, h1, h2, h3, h4, h5⟩
  · refine (ssorted_any (N := 0) (by omega) eg (skeys_seq0 (by simp) hc) (fun ss hs => by subst hs; exact Nat.zero_le _)).mono ?_
    rintro e w' ⟨v, ss, rfl, hS, ho, hm2⟩
    subst hS
    rw [hsz] at ho
    exact ⟨v, rfl, by simpa [slotsI] using ho, hm.trans hm2⟩
  · have hks : ∀ ss, Keys f ss → ss.mergeSort (fun x y => decide (x ≤ y)) = slotsI L := fun ss hs => sort_same (slotsI_rise hr) hs.1 (fun x => by rw [hs.2 x]; exact keys_of hok hr h5 x)
    have hln : ∀ ss, Keys f ss → ss.length = L.length := fun ss hs => by
      have := congrArg List.length (hks ss hs)
      rw [List.length_mergeSort] at this
      simpa [slotsI] using this
    refine (ssorted_any (N := n) (by omega) eg (skeys_seq (by simp) hc (h1.mods hm (fun h => h))) (fun ss hs => by rw [hln ss hs]; omega)).mono ?_
    rintro e w' ⟨v, ss, rfl, hS, ho, hm2⟩
    rw [hks ss hS, hln ss hS, hsz] at ho
    exact ⟨v, rfl, ho, hm.trans hm2⟩
end
end Go.Proofs.Ytpabbhhaagfoeaa
end

section
/- Package acceptor: Prepare. -/
namespace Go.Proofs.Ytpabbhhaagfoeaa
set_option maxRecDepth 100000
open Go.RowKit Go.Maps Go.Shelf
set_option linter.unusedVariables false
set_option linter.unusedSimpArgs false
/-- Votes that are told, in memory of the call's own. -/
structure OwnV (base : Nat) (w : World) (v : Value) (l : List VtP) : Prop where
  own : w.ownsRow base 49 3 v l.length (pvc l)
  bys : ∀ q ∈ l, Sl w q.A q.c (bts q.val) ∧ (bts q.val ≠ [] → ∀ a, q.A = some a → base ≤ a.block ∧ ∃ cs, Blk w a.block 5 cs) ∧ q.slot < 18446744073709551616 ∧ q.bal < 18446744073709551616
theorem OwnV.none_ (base : Nat) (w : World) : OwnV base w (.slice none 0 0) [] := ⟨World.ownsRow_nil _ _ _ _, fun q h => by cases h⟩
theorem OwnV.mods {base : Nat} {w w' : World} {v : Value} {l : List VtP} {S : Nat → Prop} (h : OwnV base w v l) (hm : Mods S w w') (h1 : ∀ k, v.ownBlock = some k → ¬ S k) (h2 : ∀ k, base ≤ k → (∃ cs, Blk w k 5 cs) → ¬ S k) : OwnV base w' v l :=
  ⟨own_mods h.own hm h1, fun q hq => by
    obtain ⟨a1, a2, a3⟩ := h.bys q hq
    refine ⟨a1.mods' hm (fun hne a ha hs => h2 _ (a2 hne a ha).1 (a2 hne a ha).2 hs), fun hne a ha => ⟨(a2 hne a ha).1, ?_⟩, a3⟩
    obtain ⟨b1, cs, b2⟩ := a2 hne a ha
    exact ⟨cs, b2.mods hm (h2 _ b1 ⟨cs, b2⟩)⟩⟩
theorem OwnV.nil {base : Nat} {w w' : World} {v : Value} {l : List VtP} (h : OwnV base w v l) (hm : Mods Nil w w') : OwnV base w' v l := h.mods hm (fun _ _ h => h) (fun _ _ _ h => h)
theorem OwnV.push {base : Nat} {w w1 : World} {v v' : Value} {l : List VtP} {q : VtP} (h : OwnV base w v l) (hq : Sl w q.A q.c (bts q.val) ∧ (bts q.val ≠ [] → ∀ a, q.A = some a → base ≤ a.block ∧ ∃ cs, Blk w a.block 5 cs) ∧ q.slot < 18446744073709551616 ∧ q.bal < 18446744073709551616)
    (ho : w1.ownsRow base 49 3 v' (l.length + 1) (pvc (l ++ [q]))) (hm : Mods (fun k => v.ownBlock = some k) w w1) : OwnV base w1 v' (l ++ [q]) := by
  refine ⟨by simpa using ho, fun r hr => ?_⟩
  have hr1 : Sl w r.A r.c (bts r.val) ∧ (bts r.val ≠ [] → ∀ a, r.A = some a → base ≤ a.block ∧ ∃ cs, Blk w a.block 5 cs) ∧ r.slot < 18446744073709551616 ∧ r.bal < 18446744073709551616 := by
    rcases List.mem_append.1 hr with hr | hr
    · exact h.bys r hr
    · rw [List.mem_singleton.1 hr]; exact hq
  obtain ⟨a1, a2, a3⟩ := hr1
  have off : ∀ k, (∃ cs, Blk w k 5 cs) → ¬ v.ownBlock = some k := fun k ⟨cs, hb⟩ => own_blk_ne h.own hb (by decide)
  refine ⟨a1.mods' hm (fun hne a ha hs => off _ (a2 hne a ha).2 hs), fun hne a ha => ⟨(a2 hne a ha).1, ?_⟩, a3⟩
  obtain ⟨b1, cs, b2⟩ := a2 hne a ha
  exact ⟨cs, b2.mods hm (off _ ⟨cs, b2⟩)⟩
/-- As the statements have it. -/
theorem OwnV.pvs {base : Nat} {w : World} {v : Value} {l : List VtP} {D : Nat → Prop} (h : OwnV base w v l) (hD : ∀ k, base ≤ k → k < w.heap.size → D k) : ∃ A c, v = .slice A l.length c ∧ PVs w D A c l.length l :=
  pvs_own h.own rfl (fun k hk => hD k (h.own.lt k hk).1 (h.own.lt k hk).2) (fun q hq => by
    obtain ⟨a1, a2, a3⟩ := h.bys q hq
    exact ⟨a1, fun hne a ha => hD _ (a2 hne a ha).1 (by obtain ⟨cs, hb⟩ := (a2 hne a ha).2; exact hb.lt), a3⟩)
section
variable {W0 W W' : World} {X S Y : Nat → Prop} {b T : Nat} {a : PAc} {L : List PVt} {mv : Value}
end
end Go.Proofs.Ytpabbhhaagfoeaa
end

section
/- Package acceptor: Put. -/
namespace Go.Proofs.Ytpabbhhaagfoeaa
set_option maxRecDepth 100000
open Go.RowKit
set_option linter.unusedVariables false
set_option linter.unusedSimpArgs false
theorem vputVs_take {L : List PVt} {j : Nat} {x : PVt} (h : L[j]? = some x) : vputVs (L.take (j + 1)) = vputVs (L.take j) ++ putU x.slot ++ putU x.bal ++ putB x.val := by
  obtain ⟨hj, e⟩ := List.getElem?_eq_some_iff.1 h
  rw [List.take_succ_eq_append_getElem hj, vputVs_snoc, e, vputV]
  simp
end Go.Proofs.Ytpabbhhaagfoeaa
end

section
/- Package acceptor: getVote. -/
namespace Go.Proofs.Ytpabbhhaagfoeaa
set_option maxRecDepth 100000
open Go.RowKit
set_option linter.unusedVariables false
set_option linter.unusedSimpArgs false
/-- One more behind a row of the call's own: where the row then lies. -/
theorem push_pvm {ops : Array Oper} {rest : List Oper} {o : Oper} {a : Act} {Q : Exit → Act → World → Prop} (hgd : o.guard = none) (s x : Operand)
    (ho : o.op = .call { callee := .builtin .append, args := #[s, x], argTypes := #[35, 35] })
    {W : World} {base m : Nat} {v : Value} {l : List VtP} (y : VtP) {n : Nat} (hn : y.val.length = n) (hs : a.eval s = v) (hown : W.ownsRow base 49 3 v m (pvc l)) (hx : a.eval x = .slice (some ⟨W.heap.size, 0, none⟩) 1 1)
    (hlim : m ≤ 1000000) (hbase : base ≤ W.heap.size)
    (h : ∀ g cap w', w'.ownsRow base 49 3 (.slice (some ⟨g, 0, none⟩) (m + 1) cap) (m + 1) (pvc (l ++ [y])) → Mods (fun k => v.ownBlock = some k) W w' → (v.ownBlock = some g ∨ W.heap.size ≤ g) → wpList Try.prog ops Q rest (a.put o.dst (.slice (some ⟨g, 0, none⟩) (m + 1) cap)) w') :
    wpList Try.prog ops Q (o :: rest) a (W.alloc (.cells #[.int .u64 (y.slot : Int), .int .u64 (y.bal : Int), .slice y.A n y.c] 49)) := by
  subst hn
  obtain ⟨i0, hi0, hz0, hz1, hz2⟩ := info_parts infoVp
  refine wpList_plain hgd fun K hK => ?_
  obtain ⟨g, cap, w', hr, h1, h2, h3⟩ := run_append_rows (P := Try.prog) (W.alloc (.cells #[.int .u64 (y.slot : Int), .int .u64 (y.bal : Int), .slice y.A y.val.length y.c] 49)) base 35 o.type 49 i0 (.agg #[.int .u64 0, .int .u64 0, .slice none 0 0]) 3 40 Try.underlying35 hi0 hz0 hz1 hz2 rfl (by decide) v m (pvc l) (own_mods hown ((Mods.refl Nil W).alloc _) (fun _ _ h => h)) ⟨W.heap.size, 0, none⟩ 1 1 y.cells rfl (by omega) (pv_new y rfl) (pvC_one y) (by omega) (by unfold maxLen; omega) (by simp; omega)
  rw [show pvc l ++ y.cells = pvc (l ++ [y]) by simp [pvc]] at h1
  unfold Oper.wp
  simp [execOp, ho, resolve, invoke, builtin, hs, hx, hr, Result.andThen]
  refine hK _ _ (h g cap w' h1 (((Mods.refl (fun k => v.ownBlock = some k) W).alloc _).grown h2 (fun k hk _ => hk)) (h3.imp id (fun h => by simp at h; omega)))
/-- What is got of a vote: its error. -/
def gvE (B : List UInt8) (last : Option PVt) : Int :=
  if (readUint 0 B).1 ≠ 0 then (readUint 0 B).1
  else if ∃ v, last = some v ∧ (readUint 0 B).2.2 ≤ v.slot then 11
  else (readBytes (readUint 0 (readUint 0 B).2.1).1 (readUint 0 (readUint 0 B).2.1).2.1 32768).1
def gvB (B : List UInt8) : Int × List UInt8 × List UInt8 := readBytes (readUint 0 (readUint 0 B).2.1).1 (readUint 0 (readUint 0 B).2.1).2.1 32768
def gvV (B : List UInt8) : PVt := ⟨(readUint 0 B).2.2, (readUint 0 (readUint 0 B).2.1).2.2, (gvB B).2.2⟩
theorem readUint_errA {E : Int} (h : E ≠ 0) (xs : List UInt8) : readUint E xs = (E, xs, 0) := by unfold readUint; rw [if_pos h]
theorem gvE_1 {B : List UInt8} {last : Option PVt} (h1 : (readUint 0 B).1 ≠ 0) : gvE B last = (readUint 0 B).1 := by
  unfold gvE; rw [if_pos h1]
theorem gvE_2 {B : List UInt8} {last : Option PVt} (h1 : (readUint 0 B).1 = 0) (h2 : ∃ v, last = some v ∧ (readUint 0 B).2.2 ≤ v.slot) : gvE B last = 11 := by
  unfold gvE; rw [if_neg (fun h => h h1), if_pos h2]
theorem gvE_3 {B : List UInt8} {last : Option PVt} (h1 : (readUint 0 B).1 = 0) (h2 : ¬ ∃ v, last = some v ∧ (readUint 0 B).2.2 ≤ v.slot) : gvE B last = (gvB B).1 := by
  unfold gvE gvB; rw [if_neg (fun h => h h1), if_neg h2]
theorem vgetN_eq (n : Nat) (B : List UInt8) (out : List PVt) : vgetN (n + 1) 0 B out = if (readUint 0 B).1 = 0 ∧ ∃ v, out.getLast? = some v ∧ (readUint 0 B).2.2 ≤ v.slot then (11, []) else
    vgetN n (readBytes (readUint (readUint 0 B).1 (readUint 0 B).2.1).1 (readUint (readUint 0 B).1 (readUint 0 B).2.1).2.1 32768).1 (readBytes (readUint (readUint 0 B).1 (readUint 0 B).2.1).1 (readUint (readUint 0 B).1 (readUint 0 B).2.1).2.1 32768).2.1
      (out ++ [⟨(readUint 0 B).2.2, (readUint (readUint 0 B).1 (readUint 0 B).2.1).2.2, (readBytes (readUint (readUint 0 B).1 (readUint 0 B).2.1).1 (readUint (readUint 0 B).1 (readUint 0 B).2.1).2.1 32768).2.2⟩]) := by
  show (if (0 : Int) ≠ 0 then _ else _) = _
  rw [if_neg (fun h => h rfl)]
theorem vgetN_stop {n : Nat} {B : List UInt8} {out : List PVt} (h : gvE B out.getLast? ≠ 0) : vgetN (n + 1) 0 B out = (gvE B out.getLast?, []) := by
  rw [vgetN_eq]
  by_cases h1 : (readUint 0 B).1 = 0
  · by_cases h2 : ∃ v, out.getLast? = some v ∧ (readUint 0 B).2.2 ≤ v.slot
    · rw [if_pos ⟨h1, h2⟩, gvE_2 h1 h2]
    · rw [gvE_3 h1 h2] at h ⊢
      rw [if_neg (fun hc => h2 hc.2), h1]
      exact vgetN_err _ h _ _
  · rw [gvE_1 h1]
    rw [if_neg (fun hc => h1 hc.1)]
    have e2 : readUint (readUint 0 B).1 (readUint 0 B).2.1 = ((readUint 0 B).1, (readUint 0 B).2.1, 0) := readUint_errA h1 _
    have e3 : (readBytes (readUint 0 B).1 (readUint 0 B).2.1 32768).1 = (readUint 0 B).1 := by
      unfold readBytes
      rw [e2, if_pos h1]
    rw [e2]
    rw [vgetN_err _ (by rw [e3]; exact h1), e3]
theorem vgetN_go {n : Nat} {B : List UInt8} {out : List PVt} (h : gvE B out.getLast? = 0) : vgetN (n + 1) 0 B out = vgetN n 0 (gvB B).2.1 (out ++ [gvV B]) := by
  rw [vgetN_eq]
  by_cases h1 : (readUint 0 B).1 = 0
  · by_cases h2 : ∃ v, out.getLast? = some v ∧ (readUint 0 B).2.2 ≤ v.slot
    · rw [gvE_2 h1 h2] at h; cases h
    · rw [gvE_3 h1 h2] at h
      rw [if_neg (fun hc => h2 hc.2), h1]
      show vgetN n (gvB B).1 _ _ = _
      rw [h]
      rfl
  · rw [gvE_1 h1] at h
    exact absurd h h1
end Go.Proofs.Ytpabbhhaagfoeaa
end

section
/- Package acceptor: Get. -/
namespace Go.Proofs.Ytpabbhhaagfoeaa
set_option maxRecDepth 100000
open Go.RowKit
set_option linter.unusedVariables false
set_option linter.unusedSimpArgs false
theorem readUint_eats {B : List UInt8} (h : (readUint 0 B).1 = 0) : (readUint 0 B).2.1.length + 1 ≤ B.length := by
  unfold readUint at h ⊢
  rw [if_neg (by simp)] at h ⊢
  by_cases h2 : numErr B ≠ 0
  · rw [if_pos h2] at h; exact absurd h h2
  · rw [if_neg h2]
    obtain ⟨c, r, rfl, _, _⟩ := numErr_zero_inv (by simpa using h2)
    simp
theorem readUint_none {B : List UInt8} (h : (readUint 0 B).1 ≠ 0) : (readUint 0 B).2.2 = 0 := by
  unfold readUint at h ⊢
  rw [if_neg (by simp)] at h ⊢
  by_cases h2 : numErr B ≠ 0
  · rw [if_pos h2]
  · rw [if_neg h2] at h
    exact absurd rfl h
theorem readBytes_le (E : Int) (B : List UInt8) (m : Int) : (readBytes E B m).2.1.length ≤ B.length := by
  have h := readUint_le B E
  unfold readBytes
  split
  · exact h
  · split
    · simp
    · unfold readRaw
      rw [if_neg (by simp)]
      split
      · simp
      · split
        · simp
        · simp only [List.length_drop]; omega
theorem gvB_eats {B : List UInt8} {last : Option PVt} (h : gvE B last = 0) : (gvB B).2.1.length + 1 ≤ B.length := by
  have h1 : (readUint 0 B).1 = 0 := by
    by_cases h1 : (readUint 0 B).1 = 0
    · exact h1
    · rw [gvE_1 h1] at h; exact h
  have h2 := readUint_eats h1
  have h3 := readUint_le (readUint 0 B).2.1 0
  have h4 := readBytes_le (readUint 0 (readUint 0 B).2.1).1 (readUint 0 (readUint 0 B).2.1).2.1 32768
  unfold gvB
  omega
theorem gvV_ok (B : List UInt8) : (gvV B).slot < 18446744073709551616 ∧ (gvV B).bal < 18446744073709551616 := ⟨valOf_lt64 B 0, valOf_lt64 _ 0⟩
/-- Votes that were got, in memory of the call's own. -/
structure OwnG (base : Nat) (w : World) (v : Value) (l : List VtP) : Prop where
  own : w.ownsRow base 49 3 v l.length (pvc l)
  bys : ∀ q ∈ l, Sl w q.A q.c (bts q.val) ∧ (bts q.val ≠ [] → ∀ a, q.A = some a → base ≤ a.block ∧ a.block < w.heap.size ∧ v.ownBlock ≠ some a.block) ∧ q.slot < 18446744073709551616 ∧ q.bal < 18446744073709551616
theorem OwnG.none_ (base : Nat) (w : World) : OwnG base w (.slice none 0 0) [] := ⟨World.ownsRow_nil _ _ _ _, fun q h => by cases h⟩
theorem OwnG.mods {base : Nat} {w w' : World} {v : Value} {l : List VtP} {S : Nat → Prop} (h : OwnG base w v l) (hm : Mods S w w') (h1 : ∀ k, S k → k < base) : OwnG base w' v l :=
  ⟨own_mods h.own hm (fun k hk hs => by have := (h.own.lt k hk).1; have := h1 k hs; omega), fun q hq => by
    obtain ⟨a1, a2, a3⟩ := h.bys q hq
    exact ⟨a1.mods' hm (fun hne a ha hs => by have := (a2 hne a ha).1; have := h1 _ hs; omega), fun hne a ha => ⟨(a2 hne a ha).1, Nat.lt_of_lt_of_le (a2 hne a ha).2.1 hm.size, (a2 hne a ha).2.2⟩, a3⟩⟩
theorem OwnG.push {base : Nat} {w w1 : World} {v : Value} {g cap : Nat} {l : List VtP} {q : VtP} (h : OwnG base w v l) (hq : Sl w q.A q.c (bts q.val)) (hq2 : bts q.val ≠ [] → ∀ a, q.A = some a → base ≤ a.block ∧ a.block < w.heap.size ∧ v.ownBlock ≠ some a.block) (hq3 : q.slot < 18446744073709551616 ∧ q.bal < 18446744073709551616)
    (ho : w1.ownsRow base 49 3 (.slice (some ⟨g, 0, none⟩) (l.length + 1) cap) (l.length + 1) (pvc (l ++ [q]))) (hm : Mods (fun k => v.ownBlock = some k) w w1) (hg : v.ownBlock = some g ∨ w.heap.size ≤ g) : OwnG base w1 (.slice (some ⟨g, 0, none⟩) (l.length + 1) cap) (l ++ [q]) := by
  refine ⟨by simpa using ho, fun r hr => ?_⟩
  have hr1 : Sl w r.A r.c (bts r.val) ∧ (bts r.val ≠ [] → ∀ a, r.A = some a → base ≤ a.block ∧ a.block < w.heap.size ∧ v.ownBlock ≠ some a.block) ∧ r.slot < 18446744073709551616 ∧ r.bal < 18446744073709551616 := by
    rcases List.mem_append.1 hr with hr | hr
    · exact h.bys r hr
    · rw [List.mem_singleton.1 hr]; exact ⟨hq, hq2, hq3⟩
  obtain ⟨a1, a2, a3⟩ := hr1
  refine ⟨a1.mods' hm (fun hne a ha hs => (a2 hne a ha).2.2 hs), fun hne a ha => ⟨(a2 hne a ha).1, Nat.lt_of_lt_of_le (a2 hne a ha).2.1 hm.size, fun e => ?_⟩, a3⟩
  simp only [Value.ownBlock, Option.some.injEq] at e
  rcases hg with hg | hg
  · exact (a2 hne a ha).2.2 (by rw [hg, e])
  · have := (a2 hne a ha).2.1
    omega
theorem OwnG.pvs {base : Nat} {w : World} {v : Value} {l : List VtP} {D : Nat → Prop} (h : OwnG base w v l) (hD : ∀ k, base ≤ k → k < w.heap.size → D k) : ∃ A c, v = .slice A l.length c ∧ PVs w D A c l.length l :=
  pvs_own h.own rfl (fun k hk => hD k (h.own.lt k hk).1 (h.own.lt k hk).2) (fun q hq => by
    obtain ⟨a1, a2, a3⟩ := h.bys q hq
    exact ⟨a1, fun hne a ha => hD _ (a2 hne a ha).1 (a2 hne a ha).2.1, a3⟩)
/-- What Get tells. -/
def GetT (W : World) (xs : List UInt8) (e : Ending) (W' : World) : Prop :=
  ∃ A' c' m L, e = .returned (.tuple #[.slice A' m c', .int .i64 (vgetL xs).1]) ∧ L.map VtP.plain = (vgetL xs).2 ∧ PVs W' (fun k => W.heap.size ≤ k ∧ k < W'.heap.size) A' c' m L ∧ Mods Nil W W'
end Go.Proofs.Ytpabbhhaagfoeaa
end
