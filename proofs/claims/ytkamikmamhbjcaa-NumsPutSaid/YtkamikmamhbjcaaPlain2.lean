/- Plain facts on rows of numbers. -/
import Derived.Test.YtkamikmamhbjcaaPlain1
namespace Go.Proofs.Ytkamikmamhbjcaa

def putAll : List Nat → List UInt8
  | [] => []
  | x :: l => putU x ++ putAll l
theorem putAll_append : ∀ (l m : List Nat), putAll (l ++ m) = putAll l ++ putAll m
  | [], m => rfl
  | x :: l, m => by simp [putAll, putAll_append l m]
theorem putAll_snoc (l : List Nat) (j : Nat) (h : j < l.length) : putAll (l.take (j + 1)) = putAll (l.take j) ++ putU l[j] := by
  rw [List.take_succ_eq_append_getElem h, putAll_append]
  simp [putAll]
theorem putAll_split (l : List Nat) (j : Nat) (h : j < l.length) : putAll l = putAll (l.take j) ++ (putU l[j] ++ putAll (l.drop (j + 1))) := by
  have e : l = l.take j ++ l[j] :: l.drop (j + 1) := by rw [← List.drop_eq_getElem_cons h]; exact (List.take_append_drop j l).symm
  calc putAll l = putAll (l.take j ++ l[j] :: l.drop (j + 1)) := by rw [← e]
    _ = _ := by rw [putAll_append]; rfl
theorem putAll_length : ∀ (l : List Nat), (∀ x ∈ l, x < 18446744073709551616) → (putAll l).length ≤ 9 * l.length
  | [], _ => by simp [putAll]
  | x :: l, h => by
    have h1 := putU_length x (h x List.mem_cons_self)
    have h2 := putAll_length l (fun y hy => h y (List.mem_cons_of_mem _ hy))
    simp [putAll]; omega
theorem putAll_mono (l : List Nat) {i j : Nat} (h : i ≤ j) : (putAll (l.take i)).length ≤ (putAll (l.take j)).length := by
  have e : l.take j = l.take i ++ (l.take j).drop i := by
    have : (l.take j).take i = l.take i := by rw [List.take_take, Nat.min_eq_left h]
    rw [← this, List.take_append_drop]
  rw [e, putAll_append]; simp

theorem putB_length' (b : List UInt8) (hb : b.length < 18446744073709551616) : (putB b).length ≤ b.length + 9 := by
  have := putU_length b.length hb
  simp [putB]; omega
theorem putU_pos (x : Nat) : 0 < (putU x).length := by simp [putU]
/-- A number's bytes cut short are no number. -/
theorem readUint_short {x : Nat} (hx : x < 18446744073709551616) {t : Nat} (ht : t < (putU x).length) : readUint 0 ((putU x).take t) = (10, [], 0) := by
  have h8 := digs_le8 hx
  have hl : (UInt8.ofNat (digs x).length).toNat = (digs x).length := by simp; omega
  have hn : numErr ((putU x).take t) = 10 := by
    rcases t with _ | t
    · rfl
    · unfold putU at ht ⊢
      rw [List.take_succ_cons]
      simp at ht
      refine numErr_short (by rw [hl]; omega) (by rw [hl]; simp; omega)
  unfold readUint
  rw [if_neg (by simp), if_pos (by rw [hn]; simp), hn]

/-- What is left behind j numbers of a row that is cut at k. -/
def restOf (l : List Nat) (k j : Nat) : List UInt8 := ((putAll l).take k).drop (putAll (l.take j)).length
theorem restOf_zero (l : List Nat) (k : Nat) : restOf l k 0 = (putAll l).take k := by simp [restOf, putAll]
theorem restOf_eq (l : List Nat) (k j : Nat) (h : j < l.length) : restOf l k j = (putU l[j] ++ putAll (l.drop (j + 1))).take (k - (putAll (l.take j)).length) := by
  unfold restOf
  rw [List.drop_take]
  congr 1
  rw [putAll_split l j h, List.drop_left]
theorem restOf_short (l : List Nat) (k j : Nat) (h : j < l.length) (hj : (putAll (l.take j)).length ≤ k) (hk : k < (putAll (l.take (j + 1))).length) (hx : ∀ x ∈ l, x < 18446744073709551616) : readUint 0 (restOf l k j) = (10, [], 0) := by
  rw [putAll_snoc l j h, List.length_append] at hk
  rw [restOf_eq l k j h, List.take_append_of_le_length (by omega)]
  exact readUint_short (hx _ (List.getElem_mem h)) (by omega)
theorem restOf_next (l : List Nat) (k j : Nat) (h : j < l.length) (hk : (putAll (l.take (j + 1))).length ≤ k) (hx : ∀ x ∈ l, x < 18446744073709551616) : readUint 0 (restOf l k j) = (0, restOf l k (j + 1), l[j]) := by
  have e : restOf l k j = putU l[j] ++ restOf l k (j + 1) := by
    have h1 := hk
    rw [putAll_snoc l j h, List.length_append] at h1
    rw [restOf_eq l k j h, List.take_append, List.take_of_length_le (by omega)]
    congr 1
    unfold restOf
    rw [List.drop_take, putAll_split l j h, putAll_snoc l j h, List.length_append, ← List.append_assoc, ← List.length_append, List.drop_left]
    congr 1
    rw [List.length_append]
    omega
  rw [e]
  exact readUint_put (hx _ (List.getElem_mem h)) _
theorem restOf_end (l : List Nat) (k : Nat) : restOf l k l.length = [] := by
  unfold restOf
  rw [List.take_length]
  exact List.drop_eq_nil_of_le (by simp; omega)
theorem restOf_le (l : List Nat) (k j : Nat) : (restOf l k j).length ≤ (putAll l).length := by simp [restOf]; omega

/-- Where each number ends. -/
def endsOf (l : List Nat) (n : Nat) : List Value := (List.range n).map fun t => Value.int .i64 ((putAll (l.take (t + 1))).length : Nat)
theorem endsOf_length (l : List Nat) (n : Nat) : (endsOf l n).length = n := by simp [endsOf]
theorem endsOf_succ (l : List Nat) (n : Nat) : endsOf l (n + 1) = endsOf l n ++ [Value.int .i64 ((putAll (l.take (n + 1))).length : Nat)] := by simp [endsOf, List.range_succ]
theorem endsOf_get (l : List Nat) (n j : Nat) (h : j < n) : (endsOf l n)[j]? = some (Value.int .i64 ((putAll (l.take (j + 1))).length : Nat)) := by simp [endsOf, h]
end Go.Proofs.Ytkamikmamhbjcaa
