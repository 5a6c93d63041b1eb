/- Texts laid as one: Msg0, Msg1. -/
import Derived.Test.YtlheaicojmjdpaaDoorFrame0
import Derived.Test.YtlheaicojmjdpaaDoorPlainM

section
/- Messages in plain terms: which fields a kind has, what may be, a message's bytes, the message of bytes. No program. -/
namespace Go.Proofs.YtlheaicojmjdpaaDoor
set_option maxRecDepth 100000
set_option linter.unusedVariables false

structure PM where
  kind : Int := 0
  ballot : Nat := 0
  slot : Nat := 0
  shard : Int := 0
  seg : Int := 0
  client : Nat := 0
  seq : Nat := 0
  pos : Nat := 0
  code : Int := 0
  vec : List Nat := []
  body : List UInt8 := []

def masks : List Nat := [0, 572, 252, 636, 76, 76, 268, 3, 515, 515, 3, 1, 514, 2, 112, 764, 252, 240, 3]
def isK (k : Int) : Bool := decide (1 ≤ k ∧ k ≤ 18)
def maskOf (k : Int) : Nat := if isK k then masks.getD k.toNat 0 else 0
def sel (M : Nat) : List Nat := (List.range 10).filter fun j => M.testBit j
def fl (k : Int) : List Nat := sel (maskOf k)
def own (k : Int) (j : Nat) : Bool := (maskOf k).testBit j
theorem maskOf_mem (k : Int) : maskOf k ∈ masks := by
  unfold maskOf
  split
  · rename_i h
    simp only [isK, decide_eq_true_eq] at h
    have hlt : k.toNat < masks.length := by simp [masks]; omega
    rw [List.getD_eq_getElem?_getD, List.getElem?_eq_getElem hlt, Option.getD_some]
    exact List.getElem_mem hlt
  · decide
theorem maskOf_lt (k : Int) : maskOf k < 1024 := by
  have h : ∀ M ∈ masks, M < 1024 := by decide
  exact h _ (maskOf_mem k)
theorem sel_mem {M j : Nat} : j ∈ sel M ↔ j < 10 ∧ M.testBit j = true := by simp [sel]
theorem fl_mem {k : Int} {j : Nat} : j ∈ fl k ↔ j < 10 ∧ own k j = true := sel_mem
theorem fl_nodup (k : Int) : (fl k).Nodup := by
  unfold fl sel
  exact List.Nodup.sublist List.filter_sublist List.nodup_range
theorem sel_all : sel 1023 = List.range 10 := by decide

def amt (m : PM) : Nat → Nat
  | 0 => m.ballot
  | 1 => m.slot
  | 2 => (m.shard % 18446744073709551616).toNat
  | 3 => (m.seg % 18446744073709551616).toNat
  | 4 => m.client
  | 5 => m.seq
  | 6 => m.pos
  | 7 => (m.code % 18446744073709551616).toNat
  | 8 => m.vec.length
  | _ => m.body.length
def most : Nat → Nat
  | 2 => 7
  | 3 => 3
  | 7 => 255
  | 8 => 256
  | 9 => 32768
  | _ => 18446744073709551615
def bad (m : PM) (j : Nat) : Bool := decide (most j < amt m j) || (decide (0 < amt m j) && !own m.kind j)
def chk (m : PM) : Int := if isK m.kind = false then 1 else if (List.range 10).any (bad m) then 1 else 0

/-- What Go's types say. -/
structure PM.ok (m : PM) : Prop where
  kind : -9223372036854775808 ≤ m.kind ∧ m.kind ≤ 9223372036854775807
  ballot : m.ballot < 18446744073709551616
  slot : m.slot < 18446744073709551616
  shard : -9223372036854775808 ≤ m.shard ∧ m.shard ≤ 9223372036854775807
  seg : -9223372036854775808 ≤ m.seg ∧ m.seg ≤ 9223372036854775807
  client : m.client < 18446744073709551616
  seq : m.seq < 18446744073709551616
  pos : m.pos < 18446744073709551616
  code : -9223372036854775808 ≤ m.code ∧ m.code ≤ 9223372036854775807
  vec : ∀ x ∈ m.vec, x < 18446744073709551616
  vlen : m.vec.length ≤ 140737488355328
  blen : m.body.length ≤ 140737488355328

theorem amt_lt {m : PM} (h : m.ok) : ∀ j, amt m j < 18446744073709551616 := by
  intro j
  unfold amt
  have h1 := h.ballot; have h2 := h.slot; have h3 := h.client; have h4 := h.seq; have h5 := h.pos; have h6 := h.vlen; have h7 := h.blen
  split <;> omega

theorem chk_kinds (m : PM) : chk m = 0 ∨ chk m = 1 := by
  unfold chk
  split
  · exact .inr rfl
  · split
    · exact .inr rfl
    · exact .inl rfl
structure Good (m : PM) : Prop where
  kind : isK m.kind = true
  le : ∀ j, j < 10 → amt m j ≤ most j
  zero : ∀ j, j < 10 → own m.kind j = false → amt m j = 0
theorem chk_zero {m : PM} : chk m = 0 ↔ Good m := by
  unfold chk
  constructor
  · intro h
    split at h
    · simp at h
    · rename_i h1
      split at h
      · simp at h
      · rename_i h2
        have h3 : ∀ j, j < 10 → bad m j = false := by
          intro j hj
          by_cases hb : bad m j = true
          · exact absurd (List.any_eq_true.2 ⟨j, by simpa using hj, hb⟩) h2
          · simpa using hb
        refine ⟨by simpa using h1, fun j hj => ?_, fun j hj ho => ?_⟩
        · have := h3 j hj
          simp only [bad, Bool.or_eq_false_iff, decide_eq_false_iff_not] at this
          omega
        · have := h3 j hj
          simp only [bad, Bool.or_eq_false_iff, Bool.and_eq_false_iff, decide_eq_false_iff_not, ho, Bool.not_false] at this
          rcases this.2 with h | h
          · omega
          · simp at h
  · intro h
    rw [if_neg (by simp [h.kind]), if_neg]
    intro h2
    obtain ⟨j, hj, hb⟩ := List.any_eq_true.1 h2
    simp at hj
    have h1 := h.le j hj
    simp only [bad, Bool.or_eq_true, Bool.and_eq_true, decide_eq_true_eq] at hb
    rcases hb with hb | ⟨hb, ho⟩
    · omega
    · have := h.zero j hj (by simpa using ho)
      omega

/-! A message's bytes. -/
def putF (m : PM) (j : Nat) : List UInt8 := if j = 9 then putB m.body else putU (amt m j) ++ (if j = 8 then putAll m.vec else [])
def putFs (m : PM) : List Nat → List UInt8
  | [] => []
  | j :: l => putF m j ++ putFs m l
theorem putFs_append (m : PM) : ∀ l k, putFs m (l ++ k) = putFs m l ++ putFs m k
  | [], k => rfl
  | j :: l, k => by simp [putFs, putFs_append m l k]
theorem putFs_snoc (m : PM) (l : List Nat) (j : Nat) : putFs m (l ++ [j]) = putFs m l ++ putF m j := by rw [putFs_append]; simp [putFs]
def bodyOf (m : PM) : List UInt8 := putFs m (fl m.kind)
def kb (k : Int) : UInt8 := UInt8.ofNat k.toNat
def putOf (m : PM) : List UInt8 := frameOf (kb m.kind) (bodyOf m)

/-- How many bytes a field has at most. -/
def wd (j : Nat) : Nat := if j = 9 then 32777 else if j = 8 then 2313 else 9
theorem putF_length {m : PM} (h : m.ok) {j : Nat} (hj : j < 10) (hle : amt m j ≤ most j) : (putF m j).length ≤ wd j := by
  unfold putF wd
  by_cases h9 : j = 9
  · subst h9
    rw [if_pos rfl, if_pos rfl]
    have := putB_length' m.body (by have := h.blen; omega)
    have hle' : m.body.length ≤ 32768 := hle
    omega
  · rw [if_neg h9, if_neg h9]
    have h1 := putU_length (amt m j) (amt_lt h j)
    by_cases h8 : j = 8
    · subst h8
      rw [if_pos rfl, if_pos rfl, List.length_append]
      have h2 := putAll_length m.vec h.vec
      have hle' : m.vec.length ≤ 256 := hle
      omega
    · rw [if_neg h8, if_neg h8, List.append_nil]
      exact h1
theorem putFs_length {m : PM} (h : m.ok) : ∀ l : List Nat, (∀ j ∈ l, j < 10 ∧ amt m j ≤ most j) → (putFs m l).length ≤ (l.map wd).sum
  | [], _ => by simp [putFs]
  | j :: l, hl => by
    have h1 := hl j List.mem_cons_self
    have h2 := putF_length h h1.1 h1.2
    have h3 := putFs_length h l (fun i hi => hl i (List.mem_cons_of_mem _ hi))
    simp only [putFs, List.length_append, List.map_cons, List.sum_cons]
    omega
theorem sel_sum : ∀ M ∈ masks, ((sel M).map wd).sum ≤ 35162 := by decide
theorem bodyOf_length {m : PM} (h : m.ok) (hg : Good m) : (bodyOf m).length ≤ 35162 :=
  Nat.le_trans (putFs_length h _ (fun j hj => ⟨(fl_mem.1 hj).1, hg.le j (fl_mem.1 hj).1⟩)) (sel_sum _ (maskOf_mem m.kind))

/-! The message of bytes. -/
def numsSt (e : Int) (xs : List UInt8) : Nat → Int × List UInt8 × List Nat
  | 0 => (e, xs, [])
  | n + 1 => ((readUint (numsSt e xs n).1 (numsSt e xs n).2.1).1, (readUint (numsSt e xs n).1 (numsSt e xs n).2.1).2.1, (numsSt e xs n).2.2 ++ [(readUint (numsSt e xs n).1 (numsSt e xs n).2.1).2.2])
theorem numsSt_length (e : Int) (xs : List UInt8) : ∀ n, (numsSt e xs n).2.2.length = n
  | 0 => rfl
  | n + 1 => by simp [numsSt, numsSt_length e xs n]
theorem numsSt_le (e : Int) (xs : List UInt8) : ∀ n, (numsSt e xs n).2.1.length ≤ xs.length
  | 0 => by simp [numsSt]
  | n + 1 => by
    have h1 := numsSt_le e xs n
    have h2 := readUint_le (numsSt e xs n).2.1 (numsSt e xs n).1
    simp only [numsSt]
    omega
theorem numsSt_lt (e : Int) (xs : List UInt8) : ∀ n, ∀ x ∈ (numsSt e xs n).2.2, x < 18446744073709551616
  | 0 => fun x h => by simp [numsSt] at h
  | n + 1 => fun x h => by
    simp only [numsSt, List.mem_append, List.mem_singleton] at h
    rcases h with h | h
    · exact numsSt_lt e xs n x h
    · subst h; exact valOf_lt64 _ _
theorem readUint_errs {e : Int} (h : e ≠ 0) (xs : List UInt8) : readUint e xs = (e, xs, 0) := by unfold readUint; rw [if_pos h]
theorem numsSt_err {e : Int} (h : e ≠ 0) (xs : List UInt8) : ∀ n, (numsSt e xs n).1 = e
  | 0 => rfl
  | n + 1 => by simp only [numsSt]; rw [numsSt_err h xs n, readUint_errs h]
/-- An error stays. -/
theorem numsSt_back {xs : List UInt8} : ∀ n, (numsSt 0 xs (n + 1)).1 = 0 → (numsSt 0 xs n).1 = 0 := by
  intro n h
  by_cases h1 : (numsSt 0 xs n).1 = 0
  · exact h1
  · simp only [numsSt] at h
    rw [readUint_errs h1] at h
    exact h
theorem numsSt_put {xs : List UInt8} : ∀ n, (numsSt 0 xs n).1 = 0 → xs = putAll (numsSt 0 xs n).2.2 ++ (numsSt 0 xs n).2.1
  | 0 => fun _ => by simp [numsSt, putAll]
  | n + 1 => fun h => by
    have h0 := numsSt_back n h
    have ih := numsSt_put n h0
    obtain ⟨ys, hys⟩ : ∃ ys, (numsSt 0 xs n).2.1 = ys := ⟨_, rfl⟩
    obtain ⟨l, hl⟩ : ∃ l, (numsSt 0 xs n).2.2 = l := ⟨_, rfl⟩
    simp only [numsSt] at h ⊢
    rw [h0, hys] at h ⊢
    rw [hys, hl] at ih
    rw [hl]
    have hp := put_readUint (xs := ys) (ys := (readUint 0 ys).2.1) (x := (readUint 0 ys).2.2) (Prod.ext h rfl)
    rw [putAll_append, List.append_assoc]
    simp only [putAll, List.append_nil]
    rw [← hp]
    exact ih
theorem numsSt_of (r : List UInt8) (l : List Nat) (hl : ∀ x ∈ l, x < 18446744073709551616) : ∀ n, n ≤ l.length → numsSt 0 (putAll l ++ r) n = (0, putAll (l.drop n) ++ r, l.take n)
  | 0 => fun _ => by simp [numsSt]
  | n + 1 => fun hn => by
    have ih := numsSt_of r l hl n (by omega)
    simp only [numsSt]
    rw [ih]
    have hd : l.drop n = l[n] :: l.drop (n + 1) := List.drop_eq_getElem_cons (by omega)
    simp only [hd, putAll, List.append_assoc]
    rw [readUint_put (hl _ (List.getElem_mem _))]
    simp only [List.take_add_one, List.getElem?_eq_getElem (show n < l.length by omega), Option.toList_some]

def setF (m : PM) (j x : Nat) : PM :=
  match j with
  | 0 => { m with ballot := x }
  | 1 => { m with slot := x }
  | 2 => { m with shard := x }
  | 3 => { m with seg := x }
  | 4 => { m with client := x }
  | 5 => { m with seq := x }
  | 6 => { m with pos := x }
  | 7 => { m with code := x }
  | _ => m
def takeF (j : Nat) (m : PM) (xs : List UInt8) : Int × PM × List UInt8 :=
  if j = 9 then ((readBytes 0 xs 32768).1, { m with body := (readBytes 0 xs 32768).2.2 }, (readBytes 0 xs 32768).2.1)
  else if (readUint 0 xs).1 ≠ 0 then ((readUint 0 xs).1, m, [])
  else if most j < (readUint 0 xs).2.2 then (if j = 8 then 13 else 11, m, [])
  else if j = 8 then ((numsSt 0 (readUint 0 xs).2.1 (readUint 0 xs).2.2).1, { m with vec := (numsSt 0 (readUint 0 xs).2.1 (readUint 0 xs).2.2).2.2 }, (numsSt 0 (readUint 0 xs).2.1 (readUint 0 xs).2.2).2.1)
  else (0, setF m j (readUint 0 xs).2.2, (readUint 0 xs).2.1)
def getFs : List Nat → PM → List UInt8 → Int × PM × List UInt8
  | [], m, xs => (0, m, xs)
  | j :: l, m, xs => if (takeF j m xs).1 ≠ 0 then ((takeF j m xs).1, m, []) else getFs l (takeF j m xs).2.1 (takeF j m xs).2.2
def mF (xs : List UInt8) : Int × PM × List UInt8 := getFs (fl (getK xs).toNat) { kind := ((getK xs).toNat : Int) } (getB xs)
/-- The error, and the message, of fields. -/
def fE (t : Int × PM × List UInt8) : Int := if t.1 ≠ 0 then t.1 else if t.2.2 = [] then 0 else 12
def fM (t : Int × PM × List UInt8) : PM := if fE t = 0 then t.2.1 else {}
def mE (xs : List UInt8) : Int :=
  if getE xs ≠ 0 then getE xs else if getN xs < xs.length ∨ isK (getK xs).toNat = false then 11 else fE (mF xs)
def mM (xs : List UInt8) : PM := if mE xs = 0 then (mF xs).2.1 else {}
theorem mM_bad {xs : List UInt8} (h : mE xs ≠ 0) : mM xs = {} := by unfold mM; rw [if_neg h]
theorem mE_zero {xs : List UInt8} (h : mE xs = 0) : getE xs = 0 ∧ getN xs = xs.length ∧ isK (getK xs).toNat = true ∧ (mF xs).1 = 0 ∧ (mF xs).2.2 = [] ∧ mM xs = (mF xs).2.1 := by
  have hm : mM xs = (mF xs).2.1 := by unfold mM; rw [if_pos h]
  unfold mE at h
  by_cases h1 : getE xs ≠ 0
  · rw [if_pos h1] at h; exact absurd h h1
  · rw [if_neg h1] at h
    have h1' : getE xs = 0 := Classical.not_not.1 h1
    by_cases h2 : getN xs < xs.length ∨ isK (getK xs).toNat = false
    · rw [if_pos h2] at h; simp at h
    · rw [if_neg h2] at h
      have hl := (getE_zero h1').2.2.1
      refine ⟨h1', by omega, by simpa using fun e => h2 (.inr e), ?_, ?_, hm⟩
      · unfold fE at h
        by_cases h3 : (mF xs).1 ≠ 0
        · rw [if_pos h3] at h; exact absurd h h3
        · exact Classical.not_not.1 h3
      · unfold fE at h
        by_cases h3 : (mF xs).1 ≠ 0
        · rw [if_pos h3] at h; exact absurd h h3
        · rw [if_neg h3] at h
          by_cases h4 : (mF xs).2.2 = []
          · exact h4
          · rw [if_neg h4] at h; simp at h
end Go.Proofs.YtlheaicojmjdpaaDoor
end

section
/- Messages in plain terms: what is put is got, what is got is put as the same bytes; cut anywhere, or longer, it is none. No program. -/
namespace Go.Proofs.YtlheaicojmjdpaaDoor
set_option maxRecDepth 100000
set_option linter.unusedVariables false

def eqF (a b : PM) : Nat → Prop
  | 0 => a.ballot = b.ballot
  | 1 => a.slot = b.slot
  | 2 => a.shard = b.shard
  | 3 => a.seg = b.seg
  | 4 => a.client = b.client
  | 5 => a.seq = b.seq
  | 6 => a.pos = b.pos
  | 7 => a.code = b.code
  | 8 => a.vec = b.vec
  | 9 => a.body = b.body
  | _ => True
def copyF (a m : PM) : Nat → PM
  | 0 => { a with ballot := m.ballot }
  | 1 => { a with slot := m.slot }
  | 2 => { a with shard := m.shard }
  | 3 => { a with seg := m.seg }
  | 4 => { a with client := m.client }
  | 5 => { a with seq := m.seq }
  | 6 => { a with pos := m.pos }
  | 7 => { a with code := m.code }
  | 8 => { a with vec := m.vec }
  | 9 => { a with body := m.body }
  | _ => a
/-- A field that Go's types, and the greatest amounts, let be. -/
def okF (m : PM) : Nat → Prop
  | 0 => m.ballot < 18446744073709551616
  | 1 => m.slot < 18446744073709551616
  | 2 => 0 ≤ m.shard ∧ m.shard ≤ 7
  | 3 => 0 ≤ m.seg ∧ m.seg ≤ 3
  | 4 => m.client < 18446744073709551616
  | 5 => m.seq < 18446744073709551616
  | 6 => m.pos < 18446744073709551616
  | 7 => 0 ≤ m.code ∧ m.code ≤ 255
  | 8 => m.vec.length ≤ 256 ∧ ∀ x ∈ m.vec, x < 18446744073709551616
  | 9 => m.body.length ≤ 32768
  | _ => True
theorem ten_cases {p : Nat → Prop} (h0 : p 0) (h1 : p 1) (h2 : p 2) (h3 : p 3) (h4 : p 4) (h5 : p 5) (h6 : p 6) (h7 : p 7) (h8 : p 8) (h9 : p 9) : ∀ j, j < 10 → p j := by
  intro j hj
  match j, hj with
  | 0, _ => exact h0
  | 1, _ => exact h1
  | 2, _ => exact h2
  | 3, _ => exact h3
  | 4, _ => exact h4
  | 5, _ => exact h5
  | 6, _ => exact h6
  | 7, _ => exact h7
  | 8, _ => exact h8
  | 9, _ => exact h9
theorem PM.ext_fields {a b : PM} (hk : a.kind = b.kind) (h : ∀ j, j < 10 → eqF a b j) : a = b := by
  cases a; cases b
  have h0 := h 0 (by omega); have h1 := h 1 (by omega); have h2 := h 2 (by omega); have h3 := h 3 (by omega); have h4 := h 4 (by omega)
  have h5 := h 5 (by omega); have h6 := h 6 (by omega); have h7 := h 7 (by omega); have h8 := h 8 (by omega); have h9 := h 9 (by omega)
  simp only [eqF] at *
  subst hk h0 h1 h2 h3 h4 h5 h6 h7 h8 h9
  rfl
theorem eqF_refl (a : PM) : ∀ j, j < 10 → eqF a a j := ten_cases rfl rfl rfl rfl rfl rfl rfl rfl rfl rfl
theorem copyF_self (a m : PM) : ∀ j, j < 10 → eqF (copyF a m j) m j := ten_cases rfl rfl rfl rfl rfl rfl rfl rfl rfl rfl
theorem copyF_kind (a m : PM) : ∀ i, i < 10 → (copyF a m i).kind = a.kind := ten_cases rfl rfl rfl rfl rfl rfl rfl rfl rfl rfl
theorem copyF_other (a m : PM) : ∀ i, i < 10 → ∀ j, j < 10 → j ≠ i → eqF (copyF a m i) a j := by
  refine ten_cases ?_ ?_ ?_ ?_ ?_ ?_ ?_ ?_ ?_ ?_ <;> (refine ten_cases ?_ ?_ ?_ ?_ ?_ ?_ ?_ ?_ ?_ ?_) <;> (intro h; first | exact absurd rfl h | rfl)
theorem eqF_trans {a b c : PM} : ∀ j, j < 10 → eqF a b j → eqF b c j → eqF a c j := by
  refine ten_cases ?_ ?_ ?_ ?_ ?_ ?_ ?_ ?_ ?_ ?_ <;> (intro h k; exact Eq.trans h k)
theorem eqF_symm {a b : PM} : ∀ j, j < 10 → eqF a b j → eqF b a j := by
  refine ten_cases ?_ ?_ ?_ ?_ ?_ ?_ ?_ ?_ ?_ ?_ <;> (intro h; exact Eq.symm h)
theorem eqF_putF {a b : PM} : ∀ j, j < 10 → eqF a b j → putF a j = putF b j := by
  refine ten_cases ?_ ?_ ?_ ?_ ?_ ?_ ?_ ?_ ?_ ?_ <;> (intro h; simp only [eqF] at h; simp [putF, amt, h])
theorem eqF_amt {a b : PM} : ∀ j, j < 10 → eqF a b j → amt a j = amt b j := by
  refine ten_cases ?_ ?_ ?_ ?_ ?_ ?_ ?_ ?_ ?_ ?_ <;> (intro h; simp only [eqF] at h; simp [amt, h])
theorem eqF_okF {a b : PM} : ∀ j, j < 10 → eqF a b j → okF b j → okF a j := by
  refine ten_cases ?_ ?_ ?_ ?_ ?_ ?_ ?_ ?_ ?_ ?_ <;> (intro h k; simp only [eqF] at h; simpa [okF, h] using k)
theorem okF_most {m : PM} : ∀ j, j < 10 → okF m j → amt m j ≤ most j := by
  refine ten_cases ?_ ?_ ?_ ?_ ?_ ?_ ?_ ?_ ?_ ?_ <;> (intro h; simp only [okF] at h; simp only [amt, most]; omega)
theorem ok_of_okF {m : PM} (hk : isK m.kind = true) (h : ∀ j, j < 10 → okF m j) : m.ok := by
  have h0 := h 0 (by omega); have h1 := h 1 (by omega); have h2 := h 2 (by omega); have h3 := h 3 (by omega); have h4 := h 4 (by omega)
  have h5 := h 5 (by omega); have h6 := h 6 (by omega); have h7 := h 7 (by omega); have h8 := h 8 (by omega); have h9 := h 9 (by omega)
  simp only [okF] at *
  simp only [isK, decide_eq_true_eq] at hk
  exact ⟨by omega, h0, h1, by omega, by omega, h4, h5, h6, by omega, h8.2, by omega, by omega⟩
theorem okF_of {m : PM} (ho : m.ok) (hg : ∀ j, j < 10 → amt m j ≤ most j) : ∀ j, j < 10 → okF m j := by
  have e2 := hg 2 (by omega); have e3 := hg 3 (by omega); have e7 := hg 7 (by omega); have e8 := hg 8 (by omega); have e9 := hg 9 (by omega)
  have s2 := ho.shard; have s3 := ho.seg; have s7 := ho.code
  simp only [amt, most] at e2 e3 e7 e8 e9
  refine ten_cases ho.ballot ho.slot ?_ ?_ ho.client ho.seq ho.pos ?_ ⟨e8, ho.vec⟩ e9 <;> (simp only [okF]; omega)

/-! What is put is got. -/
theorem readBytes_put {b r : List UInt8} (hb : b.length ≤ 32768) : readBytes 0 (putB b ++ r) 32768 = (0, r, b) := by
  have h := readUint_put (x := b.length) (by omega) (b ++ r)
  unfold readBytes putB
  rw [List.append_assoc, h]
  simp only [ne_eq, not_true_eq_false, if_false]
  rw [if_neg (by omega)]
  unfold readRaw
  rw [if_neg (by simp), if_neg (by omega), if_neg (by simp; omega)]
  simp
theorem takeF_put {m : PM} (a : PM) (r : List UInt8) : ∀ j, j < 10 → okF m j → takeF j a (putF m j ++ r) = (0, copyF a m j, r) := by
  have num : ∀ j, j < 8 → (x : Nat) → x < 18446744073709551616 → x ≤ most j → ∀ a : PM, takeF j a (putU x ++ r) = (0, setF a j x, r) := by
    intro j hj x hx hle a
    unfold takeF
    rw [if_neg (by omega), readUint_put hx]
    simp only [ne_eq, not_true_eq_false, if_false]
    rw [if_neg (by omega), if_neg (by omega)]
  have e2 : ∀ z : Int, 0 ≤ z → z ≤ 255 → ((z % 18446744073709551616).toNat : Int) = z := fun z h1 h2 => by omega
  refine ten_cases ?_ ?_ ?_ ?_ ?_ ?_ ?_ ?_ ?_ ?_
  · intro h; simp only [okF] at h; simp only [putF, amt]; simpa [setF, copyF] using num 0 (by omega) _ h (by simp [most]; omega) a
  · intro h; simp only [okF] at h; simp only [putF, amt]; simpa [setF, copyF] using num 1 (by omega) _ h (by simp [most]; omega) a
  · intro h; simp only [okF] at h; simp only [putF, amt]; simpa [setF, copyF, e2 _ h.1 (by omega)] using num 2 (by omega) (m.shard % 18446744073709551616).toNat (by omega) (by simp [most]; omega) a
  · intro h; simp only [okF] at h; simp only [putF, amt]; simpa [setF, copyF, e2 _ h.1 (by omega)] using num 3 (by omega) (m.seg % 18446744073709551616).toNat (by omega) (by simp [most]; omega) a
  · intro h; simp only [okF] at h; simp only [putF, amt]; simpa [setF, copyF] using num 4 (by omega) _ h (by simp [most]; omega) a
  · intro h; simp only [okF] at h; simp only [putF, amt]; simpa [setF, copyF] using num 5 (by omega) _ h (by simp [most]; omega) a
  · intro h; simp only [okF] at h; simp only [putF, amt]; simpa [setF, copyF] using num 6 (by omega) _ h (by simp [most]; omega) a
  · intro h; simp only [okF] at h; simp only [putF, amt]; simpa [setF, copyF, e2 _ h.1 (by omega)] using num 7 (by omega) (m.code % 18446744073709551616).toNat (by omega) (by simp [most]; omega) a
  · intro h
    simp only [okF] at h
    have h8 := numsSt_of r m.vec h.2 m.vec.length (Nat.le_refl _)
    simp only [List.drop_length, putAll, List.nil_append, List.take_length] at h8
    have e8 : putF m 8 = putU m.vec.length ++ putAll m.vec := rfl
    rw [e8, List.append_assoc]
    unfold takeF
    rw [if_neg (by omega), readUint_put (by omega)]
    simp only [ne_eq, not_true_eq_false, if_false]
    rw [if_neg (by simp only [most]; omega), if_pos trivial, h8]
    rfl
  · intro h
    simp only [okF] at h
    have e9 : putF m 9 = putB m.body := rfl
    rw [e9]
    unfold takeF
    rw [if_pos rfl, readBytes_put h]
    rfl
theorem getFs_put {m : PM} (r : List UInt8) : ∀ (l : List Nat) (a : PM), (∀ j ∈ l, j < 10 ∧ okF m j) → getFs l a (putFs m l ++ r) = (0, l.foldl (fun a j => copyF a m j) a, r)
  | [], a, _ => by simp [getFs, putFs]
  | j :: l, a, h => by
    have h1 := h j List.mem_cons_self
    simp only [getFs, putFs, List.append_assoc]
    rw [takeF_put a _ j h1.1 h1.2]
    simp only [ne_eq, not_true_eq_false, if_false]
    exact getFs_put r l _ (fun i hi => h i (List.mem_cons_of_mem _ hi))
theorem fold_kind (m : PM) : ∀ (l : List Nat) (a : PM), (∀ j ∈ l, j < 10) → (l.foldl (fun a j => copyF a m j) a).kind = a.kind
  | [], _, _ => rfl
  | j :: l, a, h => by
    simp only [List.foldl_cons]
    rw [fold_kind m l _ (fun i hi => h i (List.mem_cons_of_mem _ hi)), copyF_kind a m j (h j List.mem_cons_self)]
theorem fold_keeps (m : PM) {j : Nat} (hj : j < 10) : ∀ (l : List Nat) (a : PM), (∀ i ∈ l, i < 10) → eqF a m j → eqF (l.foldl (fun a j => copyF a m j) a) m j
  | [], _, _, h => h
  | i :: l, a, hl, h => by
    simp only [List.foldl_cons]
    refine fold_keeps m hj l _ (fun q hq => hl q (List.mem_cons_of_mem _ hq)) ?_
    by_cases hij : j = i
    · subst hij; exact copyF_self a m j hj
    · exact eqF_trans j hj (copyF_other a m i (hl i List.mem_cons_self) j hj hij) h
theorem fold_sets (m : PM) {j : Nat} (hj : j < 10) : ∀ (l : List Nat) (a : PM), (∀ i ∈ l, i < 10) → j ∈ l → eqF (l.foldl (fun a j => copyF a m j) a) m j
  | i :: l, a, hl, h => by
    simp only [List.foldl_cons]
    by_cases hij : j = i
    · subst hij
      exact fold_keeps m hj l _ (fun q hq => hl q (List.mem_cons_of_mem _ hq)) (copyF_self a m j hj)
    · refine fold_sets m hj l _ (fun q hq => hl q (List.mem_cons_of_mem _ hq)) ?_
      rcases List.mem_cons.1 h with h | h
      · exact absurd h hij
      · exact h
theorem zero_eqF {m : PM} {k : Int} : ∀ j, j < 10 → okF m j → amt m j = 0 → eqF { kind := k } m j := by
  refine ten_cases ?_ ?_ ?_ ?_ ?_ ?_ ?_ ?_ ?_ ?_ <;> (intro h h0; simp only [okF] at h; simp only [amt] at h0; simp only [eqF])
  · exact h0.symm
  · exact h0.symm
  · omega
  · omega
  · exact h0.symm
  · exact h0.symm
  · exact h0.symm
  · omega
  · exact (List.eq_nil_of_length_eq_zero h0).symm
  · exact (List.eq_nil_of_length_eq_zero h0).symm
theorem fold_fl {m : PM} (ho : m.ok) (hg : Good m) : (fl m.kind).foldl (fun a j => copyF a m j) { kind := m.kind } = m := by
  refine PM.ext_fields (fold_kind m _ _ (fun j hj => (fl_mem.1 hj).1)) (fun j hj => ?_)
  by_cases h : own m.kind j = true
  · exact fold_sets m hj _ _ (fun i hi => (fl_mem.1 hi).1) (fl_mem.2 ⟨hj, h⟩)
  · exact fold_keeps m hj _ _ (fun i hi => (fl_mem.1 hi).1) (zero_eqF j hj (okF_of ho hg.le j hj) (hg.zero j hj (by simpa using h)))
theorem kb_kind {k : Int} (h : isK k = true) : ((kb k).toNat : Int) = k := by
  simp only [isK, decide_eq_true_eq] at h
  unfold kb
  simp
  omega
theorem mF_put {m : PM} (ho : m.ok) (hg : Good m) : getFs (fl m.kind) { kind := m.kind } (bodyOf m) = (0, m, []) := by
  have h := getFs_put (m := m) [] (fl m.kind) { kind := m.kind } (fun j hj => ⟨(fl_mem.1 hj).1, okF_of ho hg.le j (fl_mem.1 hj).1⟩)
  rw [List.append_nil, fold_fl ho hg] at h
  exact h
theorem get_put {m : PM} (ho : m.ok) (hg : Good m) : mE (putOf m) = 0 ∧ mM (putOf m) = m := by
  have hb := bodyOf_length ho hg
  obtain ⟨h1, h2, h3⟩ := get_of (k := kb m.kind) (body := bodyOf m) (r := []) (by omega)
  have h4 := getN_of (k := kb m.kind) (body := bodyOf m) (r := []) (by omega)
  rw [List.append_nil] at h1 h2 h3 h4
  have hF : mF (putOf m) = (0, m, []) := by
    unfold mF putOf
    rw [h2, h3, kb_kind hg.kind]
    exact mF_put ho hg
  have hE : mE (putOf m) = 0 := by
    unfold mE
    rw [if_neg (by unfold putOf; simp [h1])]
    have : ¬ (getN (putOf m) < (putOf m).length ∨ isK (getK (putOf m)).toNat = false) := by
      unfold putOf
      rw [h4, h2, kb_kind hg.kind, hg.kind]
      simp
    rw [if_neg this, hF]
    rfl
  refine ⟨hE, ?_⟩
  unfold mM
  rw [if_pos hE, hF]

/-! What is got is put as the same bytes. -/
theorem readBytes_ok {xs ys b : List UInt8} (h : readBytes 0 xs 32768 = (0, ys, b)) : xs = putB b ++ ys ∧ b.length ≤ 32768 := by
  unfold readBytes at h
  by_cases h1 : (readUint 0 xs).1 ≠ 0
  · rw [if_pos h1] at h
    injection h with h _
    exact absurd h h1
  · rw [if_neg h1] at h
    have h1' := Classical.not_not.1 h1
    by_cases h2 : (32768 : Int) < 0 ∨ (32768 : Int) < ((readUint 0 xs).2.2 : Int)
    · rw [if_pos h2] at h
      injection h with h _
      simp at h
    · rw [if_neg h2] at h
      have hp := put_readUint (xs := xs) (ys := (readUint 0 xs).2.1) (x := (readUint 0 xs).2.2) (Prod.ext h1' rfl)
      unfold readRaw at h
      rw [if_neg (by simp), if_neg (by omega)] at h
      by_cases h3 : ((readUint 0 xs).2.1.length : Int) < ((readUint 0 xs).2.2 : Int)
      · rw [if_pos h3] at h
        injection h with h _
        simp at h
      · rw [if_neg h3] at h
        injection h with _ h
        injection h with h4 h5
        have hl : b.length = (readUint 0 xs).2.2 := by rw [← h5]; simp; omega
        refine ⟨?_, by omega⟩
        unfold putB
        rw [List.append_assoc, hl, ← h4, ← h5, List.take_append_drop]
        exact hp
theorem takeF_ok {a b : PM} {xs ys : List UInt8} : ∀ j, j < 10 → takeF j a xs = (0, b, ys) → xs = putF b j ++ ys ∧ okF b j ∧ (∀ i, i < 10 → i ≠ j → eqF b a i) ∧ b.kind = a.kind := by
  have num : ∀ j, j < 8 → takeF j a xs = (0, b, ys) → ∃ x, x < 18446744073709551616 ∧ x ≤ most j ∧ xs = putU x ++ ys ∧ b = setF a j x := by
    intro j hj h
    unfold takeF at h
    rw [if_neg (by omega)] at h
    by_cases h1 : (readUint 0 xs).1 ≠ 0
    · rw [if_pos h1] at h
      injection h with h _
      exact absurd h h1
    · rw [if_neg h1] at h
      by_cases h2 : most j < (readUint 0 xs).2.2
      · rw [if_pos h2, if_neg (by omega)] at h
        injection h with h _
        simp at h
      · rw [if_neg h2, if_neg (by omega)] at h
        injection h with _ h
        injection h with h3 h4
        refine ⟨(readUint 0 xs).2.2, valOf_lt64 _ _, by omega, ?_, h3.symm⟩
        rw [← h4]
        exact put_readUint (Prod.ext (Classical.not_not.1 h1) rfl)
  refine ten_cases ?_ ?_ ?_ ?_ ?_ ?_ ?_ ?_ ?_ ?_
  case _ => intro h; obtain ⟨x, h1, h2, h3, rfl⟩ := num 0 (by omega) h; exact ⟨by simpa [putF, amt, setF] using h3, h1, (fun i hi hne => copyF_other a { ballot := x } 0 (by omega) i hi hne), rfl⟩
  case _ => intro h; obtain ⟨x, h1, h2, h3, rfl⟩ := num 1 (by omega) h; exact ⟨by simpa [putF, amt, setF] using h3, h1, (fun i hi hne => copyF_other a { slot := x } 1 (by omega) i hi hne), rfl⟩
  case _ =>
    intro h; obtain ⟨x, h1, h2, h3, rfl⟩ := num 2 (by omega) h
    simp only [most] at h2
    have e : ((x : Int) % 18446744073709551616).toNat = x := by omega
    exact ⟨by simpa [putF, amt, setF, e] using h3, (by simp only [okF, setF]; omega), (fun i hi hne => copyF_other a { shard := x } 2 (by omega) i hi hne), rfl⟩
  case _ =>
    intro h; obtain ⟨x, h1, h2, h3, rfl⟩ := num 3 (by omega) h
    simp only [most] at h2
    have e : ((x : Int) % 18446744073709551616).toNat = x := by omega
    exact ⟨by simpa [putF, amt, setF, e] using h3, (by simp only [okF, setF]; omega), (fun i hi hne => copyF_other a { seg := x } 3 (by omega) i hi hne), rfl⟩
  case _ => intro h; obtain ⟨x, h1, h2, h3, rfl⟩ := num 4 (by omega) h; exact ⟨by simpa [putF, amt, setF] using h3, h1, (fun i hi hne => copyF_other a { client := x } 4 (by omega) i hi hne), rfl⟩
  case _ => intro h; obtain ⟨x, h1, h2, h3, rfl⟩ := num 5 (by omega) h; exact ⟨by simpa [putF, amt, setF] using h3, h1, (fun i hi hne => copyF_other a { seq := x } 5 (by omega) i hi hne), rfl⟩
  case _ => intro h; obtain ⟨x, h1, h2, h3, rfl⟩ := num 6 (by omega) h; exact ⟨by simpa [putF, amt, setF] using h3, h1, (fun i hi hne => copyF_other a { pos := x } 6 (by omega) i hi hne), rfl⟩
  case _ =>
    intro h; obtain ⟨x, h1, h2, h3, rfl⟩ := num 7 (by omega) h
    simp only [most] at h2
    have e : ((x : Int) % 18446744073709551616).toNat = x := by omega
    exact ⟨by simpa [putF, amt, setF, e] using h3, (by simp only [okF, setF]; omega), (fun i hi hne => copyF_other a { code := x } 7 (by omega) i hi hne), rfl⟩
  case _ =>
    intro h
    unfold takeF at h
    rw [if_neg (by omega)] at h
    by_cases h1 : (readUint 0 xs).1 ≠ 0
    · rw [if_pos h1] at h
      injection h with h _
      exact absurd h h1
    · rw [if_neg h1] at h
      by_cases h2 : most 8 < (readUint 0 xs).2.2
      · rw [if_pos h2, if_pos rfl] at h
        injection h with h _
        simp at h
      · rw [if_neg h2, if_pos rfl] at h
        injection h with h0 h
        injection h with h3 h4
        subst h3
        have hp := put_readUint (xs := xs) (ys := (readUint 0 xs).2.1) (x := (readUint 0 xs).2.2) (Prod.ext (Classical.not_not.1 h1) rfl)
        have hn := numsSt_put _ h0
        have hl := numsSt_length 0 (readUint 0 xs).2.1 (readUint 0 xs).2.2
        simp only [most] at h2
        refine ⟨?_, ⟨by show (numsSt _ _ _).2.2.length ≤ 256; omega, numsSt_lt _ _ _⟩, (fun i hi hne => copyF_other a { vec := (numsSt 0 (readUint 0 xs).2.1 (readUint 0 xs).2.2).2.2 } 8 (by omega) i hi hne), rfl⟩
        simp only [putF, amt]
        rw [if_neg (by omega), if_pos trivial, hl, List.append_assoc, ← h4, ← hn]
        exact hp
  case _ =>
    intro h
    unfold takeF at h
    rw [if_pos rfl] at h
    injection h with h0 h
    injection h with h3 h4
    subst h3
    obtain ⟨h5, h6⟩ := readBytes_ok (xs := xs) (ys := ys) (b := (readBytes 0 xs 32768).2.2) (Prod.ext h0 (Prod.ext h4 rfl))
    exact ⟨by simpa [putF] using h5, h6, (fun i hi hne => copyF_other a { body := (readBytes 0 xs 32768).2.2 } 9 (by omega) i hi hne), rfl⟩
theorem getFs_ok {m : PM} {ys : List UInt8} : ∀ (l : List Nat) (a : PM) (xs : List UInt8), l.Nodup → (∀ j ∈ l, j < 10) → getFs l a xs = (0, m, ys) →
    xs = putFs m l ++ ys ∧ (∀ j ∈ l, okF m j) ∧ (∀ i, i < 10 → i ∉ l → eqF m a i) ∧ m.kind = a.kind
  | [], a, xs, _, _, h => by
    simp only [getFs, Prod.mk.injEq] at h
    obtain ⟨_, rfl, rfl⟩ := h
    exact ⟨rfl, (fun j h => by cases h), (fun i hi _ => eqF_refl a i hi), rfl⟩
  | j :: l, a, xs, hn, hl, h => by
    simp only [getFs] at h
    by_cases h1 : (takeF j a xs).1 ≠ 0
    · rw [if_pos h1] at h
      injection h with h _
      exact absurd h h1
    · rw [if_neg h1] at h
      have hj := hl j List.mem_cons_self
      obtain ⟨hjl, hn'⟩ := List.nodup_cons.1 hn
      obtain ⟨t1, t2, t3, t4⟩ := takeF_ok j hj (show takeF j a xs = (0, (takeF j a xs).2.1, (takeF j a xs).2.2) from Prod.ext (Classical.not_not.1 h1) rfl)
      obtain ⟨g1, g2, g3, g4⟩ := getFs_ok l _ _ hn' (fun i hi => hl i (List.mem_cons_of_mem _ hi)) h
      have hjm := g3 j hj hjl
      refine ⟨?_, ?_, ?_, g4.trans t4⟩
      · simp only [putFs, List.append_assoc]
        rw [← g1, eqF_putF j hj hjm]
        exact t1
      · intro i hi
        rcases List.mem_cons.1 hi with rfl | hi
        · exact eqF_okF i hj hjm t2
        · exact g2 i hi
      · intro i hi hni
        exact eqF_trans i hi (g3 i hi (fun h => hni (List.mem_cons_of_mem _ h))) (t3 i hi (fun e => hni (e ▸ List.mem_cons_self)))
theorem zeroPM_okF (k : Int) : ∀ j, j < 10 → okF { kind := k } j := ten_cases (by simp [okF]) (by simp [okF]) (by simp [okF]) (by simp [okF]) (by simp [okF]) (by simp [okF]) (by simp [okF]) (by simp [okF]) (by simp [okF]) (by simp [okF])
theorem zeroPM_amt (k : Int) : ∀ j, j < 10 → amt { kind := k } j = 0 := ten_cases rfl rfl rfl rfl rfl rfl rfl rfl rfl rfl
theorem put_get {xs : List UInt8} (h : mE xs = 0) : putOf (mM xs) = xs ∧ (mM xs).ok ∧ Good (mM xs) := by
  obtain ⟨h1, h2, h3, h4, h5, h6⟩ := mE_zero h
  obtain ⟨m, hm⟩ : ∃ m, mM xs = m := ⟨_, rfl⟩
  rw [hm] at h6 ⊢
  have hF : getFs (fl (getK xs).toNat) { kind := ((getK xs).toNat : Int) } (getB xs) = (0, m, []) := Prod.ext h4 (Prod.ext h6.symm h5)
  obtain ⟨g1, g2, g3, g4⟩ := getFs_ok _ _ _ (fl_nodup _) (fun j hj => (fl_mem.1 hj).1) hF
  have hk : m.kind = ((getK xs).toNat : Int) := g4
  have hokF : ∀ j, j < 10 → okF m j := by
    intro j hj
    by_cases hj' : j ∈ fl (getK xs).toNat
    · exact g2 j hj'
    · exact eqF_okF j hj (g3 j hj hj') (zeroPM_okF _ j hj)
  have hok : m.ok := ok_of_okF (by rw [hk]; exact h3) hokF
  have hg : Good m := ⟨by rw [hk]; exact h3, fun j hj => okF_most j hj (hokF j hj), fun j hj ho => by
    have hj' : j ∉ fl (getK xs).toNat := fun h => by have := (fl_mem.1 h).2; rw [← hk, ho] at this; cases this
    rw [eqF_amt j hj (g3 j hj hj'), zeroPM_amt _ j hj]⟩
  refine ⟨?_, hok, hg⟩
  obtain ⟨e1, e2⟩ := of_get h1
  rw [h2, List.take_length] at e1
  unfold putOf
  have hkb : kb m.kind = getK xs := by
    unfold kb
    rw [hk]
    simp
  have hbo : bodyOf m = getB xs := by
    unfold bodyOf
    rw [hk, g1, List.append_nil]
  rw [hkb, hbo]
  exact e1.symm
theorem put_inj {a b : PM} (ha : a.ok) (ga : Good a) (hb : b.ok) (gb : Good b) (h : putOf a = putOf b) : a = b := by
  rw [← (get_put ha ga).2, ← (get_put hb gb).2, h]

/-- Cut anywhere it is none. -/
theorem put_cut {m : PM} (ho : m.ok) (hg : Good m) {t : Nat} (ht : t < (putOf m).length) : mE ((putOf m).take t) = 10 := by
  have hb := bodyOf_length ho hg
  have h1 := (get_of (k := kb m.kind) (body := bodyOf m) (r := []) (by omega)).1
  have h4 := getN_of (k := kb m.kind) (body := bodyOf m) (r := []) (by omega)
  rw [List.append_nil] at h1 h4
  have hc : getE ((putOf m).take t) = 10 := get_cut (xs := putOf m) h1 (by unfold putOf at ht ⊢; rw [h4]; exact ht)
  unfold mE
  rw [if_pos (by rw [hc]; simp), hc]
/-- A byte more, and it is none. -/
theorem put_more {m : PM} (ho : m.ok) (hg : Good m) (x : UInt8) : mE (putOf m ++ [x]) = 11 := by
  have hb := bodyOf_length ho hg
  have h1 := (get_of (k := kb m.kind) (body := bodyOf m) (r := [x]) (by omega)).1
  have h4 := getN_of (k := kb m.kind) (body := bodyOf m) (r := [x]) (by omega)
  unfold mE
  rw [if_neg (by unfold putOf; simp [h1]), if_pos (.inl (by unfold putOf; rw [h4]; simp))]
end Go.Proofs.YtlheaicojmjdpaaDoor
end
