/- Frames in plain bytes: what a frame's bytes are, what the front of bytes is, all frames of bytes. No program. -/
import Derived.Test.YtlheaicojmjdpaaDoorPlainM
import Derived.Test.YtlheaicojmjdpaaDoorCrcM
namespace Go.Proofs.YtlheaicojmjdpaaDoor
set_option maxRecDepth 100000
set_option linter.unusedVariables false

def frameOf (k : UInt8) (body : List UInt8) : List UInt8 := sealedOf (putU body.length ++ [k] ++ body)
/-- How many bytes the number at the front has, and what it says. -/
def hdOf (xs : List UInt8) : Nat := 1 + (xs.headD 0).toNat
def szOf (xs : List UInt8) : Nat := valOf ((xs.drop 1).take (xs.headD 0).toNat)
def measE (xs : List UInt8) : Int := if numErr xs ≠ 0 then numErr xs else if 65535 < szOf xs then 13 else 0
def getN (xs : List UInt8) : Nat := hdOf xs + szOf xs + 5
def getE (xs : List UInt8) : Int :=
  if measE xs ≠ 0 then measE xs else if xs.length < getN xs then 10 else if rightOf (xs.take (getN xs)) = false then 14 else 0
def getK (xs : List UInt8) : UInt8 := (xs.drop (hdOf xs)).headD 0
def getB (xs : List UInt8) : List UInt8 := (xs.drop (hdOf xs + 1)).take (szOf xs)

theorem readUint_ok {xs : List UInt8} (h : numErr xs = 0) : readUint 0 xs = (0, xs.drop (hdOf xs), szOf xs) := by
  unfold readUint; rw [if_neg (by simp), if_neg (by simp [h])]; rfl
theorem readUint_bad {xs : List UInt8} (h : numErr xs ≠ 0) : readUint 0 xs = (numErr xs, [], 0) := by
  unfold readUint; rw [if_neg (by simp), if_pos h]

/-- Nine bytes tell a number. -/
theorem numErr_take9 (xs : List UInt8) : numErr (xs.take 9) = numErr xs := by
  rcases xs with _ | ⟨c, r⟩
  · rfl
  · rw [List.take_succ_cons]
    by_cases h8 : 8 < c.toNat
    · rw [numErr_big h8, numErr_big h8]
    · by_cases hs : r.length < c.toNat
      · rw [numErr_short h8 hs, numErr_short h8 (by simp; omega)]
      · have hs' : ¬ (r.take 8).length < c.toNat := by simp; omega
        by_cases h0 : c.toNat = 0
        · rw [numErr_zero h0, numErr_zero h0]
        · rcases r with _ | ⟨d, r⟩
          · simp at hs; omega
          · rw [List.take_succ_cons] at hs' ⊢
            by_cases hd : d.toNat = 0
            · rw [numErr_front h8 hs (by omega) hd, numErr_front h8 hs' (by omega) hd]
            · rw [numErr_ok h8 hs hd, numErr_ok h8 hs' hd]
theorem szOf_take9 {xs : List UInt8} (h : numErr xs = 0) : szOf (xs.take 9) = szOf xs := by
  obtain ⟨c, r, rfl, h8, hs⟩ := numErr_zero_inv h
  unfold szOf
  simp only [List.take_succ_cons, List.headD_cons, List.drop_succ_cons, List.drop_zero, List.take_take]
  congr 2
  omega
theorem hdOf_le {xs : List UInt8} (h : numErr xs = 0) : hdOf xs ≤ 9 ∧ hdOf xs ≤ xs.length := by
  obtain ⟨c, r, rfl, h8, hs⟩ := numErr_zero_inv h
  unfold hdOf
  simp only [List.headD_cons, List.length_cons]
  omega
theorem measE_zero {xs : List UInt8} (h : measE xs = 0) : numErr xs = 0 ∧ szOf xs ≤ 65535 := by
  unfold measE at h
  by_cases h1 : numErr xs ≠ 0
  · rw [if_pos h1] at h; exact absurd h h1
  · rw [if_neg h1] at h
    refine ⟨Classical.not_not.1 h1, ?_⟩
    by_cases h2 : 65535 < szOf xs
    · rw [if_pos h2] at h; simp at h
    · omega
theorem getE_zero {xs : List UInt8} (h : getE xs = 0) : numErr xs = 0 ∧ szOf xs ≤ 65535 ∧ getN xs ≤ xs.length ∧ rightOf (xs.take (getN xs)) = true := by
  unfold getE at h
  by_cases h1 : measE xs ≠ 0
  · rw [if_pos h1] at h; exact absurd h h1
  · rw [if_neg h1] at h
    obtain ⟨a, b⟩ := measE_zero (Classical.not_not.1 h1)
    by_cases h2 : xs.length < getN xs
    · rw [if_pos h2] at h; simp at h
    · rw [if_neg h2] at h
      refine ⟨a, b, by omega, ?_⟩
      cases hr : rightOf (xs.take (getN xs)) with
      | true => rfl
      | false => rw [hr] at h; simp at h
theorem measE_of {xs : List UInt8} (h : numErr xs = 0) (hs : szOf xs ≤ 65535) : measE xs = 0 := by
  unfold measE; rw [if_neg (by simp [h]), if_neg (by omega)]
theorem getE_of {xs : List UInt8} (h : numErr xs = 0) (hs : szOf xs ≤ 65535) (hn : getN xs ≤ xs.length) (hr : rightOf (xs.take (getN xs)) = true) : getE xs = 0 := by
  unfold getE; rw [if_neg (by simp [measE_of h hs]), if_neg (by omega), if_neg (by simp [hr])]
theorem getE_meas {xs : List UInt8} (h : measE xs ≠ 0) : getE xs = measE xs := by unfold getE; rw [if_pos h]
theorem getE_short {xs : List UInt8} (h : measE xs = 0) (hn : xs.length < getN xs) : getE xs = 10 := by unfold getE; rw [if_neg (by simp [h]), if_pos hn]
theorem getE_sum {xs : List UInt8} (h : measE xs = 0) (hn : ¬ xs.length < getN xs) (hr : rightOf (xs.take (getN xs)) = false) : getE xs = 14 := by unfold getE; rw [if_neg (by simp [h]), if_neg hn, if_pos hr]
theorem getB_length {xs : List UInt8} (h : getN xs ≤ xs.length) : (getB xs).length = szOf xs := by
  unfold getB; unfold getN at h; simp; omega
theorem getN_pos (xs : List UInt8) : 6 ≤ getN xs := by unfold getN hdOf; omega

/-- What was put stands in front. -/
theorem front_of {k : UInt8} {body r : List UInt8} (hb : body.length ≤ 65535) : numErr (frameOf k body ++ r) = 0 ∧ hdOf (frameOf k body ++ r) = (putU body.length).length ∧ szOf (frameOf k body ++ r) = body.length := by
  have e : frameOf k body ++ r = putU body.length ++ ([k] ++ body ++ (fourOf (sumOf (putU body.length ++ [k] ++ body)) ++ r)) := by simp [frameOf, sealedOf]
  have h1 : numErr (frameOf k body ++ r) = 0 := by rw [e]; exact numErr_put (by omega) _
  have h2 := readUint_put (x := body.length) (by omega) ([k] ++ body ++ (fourOf (sumOf (putU body.length ++ [k] ++ body)) ++ r))
  rw [← e, readUint_ok h1] at h2
  injection h2 with _ h2
  injection h2 with h3 h4
  refine ⟨h1, ?_, h4⟩
  have h8 := digs_le8 (x := body.length) (by omega)
  rw [e]
  unfold hdOf putU
  simp only [List.cons_append, List.headD_cons, List.length_cons]
  have : (UInt8.ofNat (digs body.length).length).toNat = (digs body.length).length := by simp; omega
  omega
theorem frameOf_length (k : UInt8) (body : List UInt8) : (frameOf k body).length = (putU body.length).length + body.length + 5 := by simp [frameOf, sealedOf_length]; omega
theorem getN_of {k : UInt8} {body r : List UInt8} (hb : body.length ≤ 65535) : getN (frameOf k body ++ r) = (frameOf k body).length := by
  obtain ⟨_, h2, h3⟩ := front_of (k := k) (r := r) hb
  unfold getN
  rw [h2, h3, frameOf_length]
theorem get_of {k : UInt8} {body r : List UInt8} (hb : body.length ≤ 65535) : getE (frameOf k body ++ r) = 0 ∧ getK (frameOf k body ++ r) = k ∧ getB (frameOf k body ++ r) = body := by
  obtain ⟨h1, h2, h3⟩ := front_of (k := k) (r := r) hb
  have hN := getN_of (k := k) (r := r) hb
  refine ⟨getE_of h1 (by omega) (by rw [hN]; simp) (by rw [hN, List.take_left]; exact rightOf_sealed _), ?_, ?_⟩
  · unfold getK
    rw [h2]
    simp [frameOf, sealedOf]
  · unfold getB
    rw [h2, h3]
    have e : frameOf k body ++ r = (putU body.length ++ [k]) ++ (body ++ (fourOf (sumOf (putU body.length ++ [k] ++ body)) ++ r)) := by simp [frameOf, sealedOf]
    have e2 : (putU body.length).length + 1 = (putU body.length ++ [k]).length := by simp
    rw [e, e2, List.drop_left, List.take_left]
/-- What is got is put as the same bytes. -/
theorem of_get {xs : List UInt8} (h : getE xs = 0) : xs.take (getN xs) = frameOf (getK xs) (getB xs) ∧ (getB xs).length ≤ 65535 := by
  obtain ⟨h1, h2, h3, h4⟩ := getE_zero h
  have hl := getB_length h3
  refine ⟨?_, by omega⟩
  obtain ⟨c, r, hx, h8, hs⟩ := numErr_zero_inv h1
  have hp := put_readUint (readUint_ok h1)
  have hpl : (putU (szOf xs)).length = hdOf xs := by
    have := congrArg List.length hp
    have hh := (hdOf_le h1).2
    simp at this
    omega
  obtain ⟨m, hm⟩ : ∃ m, getN xs = m + 4 := ⟨hdOf xs + szOf xs + 1, by unfold getN; omega⟩
  have hmv : m = hdOf xs + (1 + szOf xs) := by unfold getN at hm; omega
  have hlen : (xs.take (getN xs)).length = m + 4 := by simp; omega
  rw [rightOf_long hlen, decide_eq_true_eq, hm] at h4
  rw [hm]
  have e1 : xs.take (m + 4) = (xs.take (m + 4)).take m ++ (xs.take (m + 4)).drop m := (List.take_append_drop _ _).symm
  rw [e1, h4]
  have e2 : (xs.take (m + 4)).take m = putU (szOf xs) ++ [getK xs] ++ getB xs := by
    rw [List.take_take, Nat.min_eq_left (by omega)]
    have e3 : xs.take m = (putU (szOf xs) ++ xs.drop (hdOf xs)).take m := by rw [← hp]
    rw [e3, hmv, ← hpl, List.take_length_add_append, hpl]
    rw [List.append_assoc]
    congr 1
    have hlt : hdOf xs < xs.length := by unfold getN at h3; omega
    unfold getK getB
    rw [List.drop_eq_getElem_cons hlt, Nat.add_comm 1, List.take_succ_cons]
    rfl
  rw [e2]
  unfold frameOf sealedOf
  rw [hl]
/-- Cut anywhere it is none. -/
theorem get_cut {xs : List UInt8} (h : getE xs = 0) {t : Nat} (ht : t < getN xs) : getE (xs.take t) = 10 := by
  obtain ⟨h1, h2, h3, h4⟩ := getE_zero h
  obtain ⟨c, r, rfl, h8, hs⟩ := numErr_zero_inv h1
  have hd : hdOf (c :: r) = 1 + c.toNat := rfl
  by_cases hh : t < hdOf (c :: r)
  · have hn : numErr ((c :: r).take t) = 10 := by
      rcases t with _ | t
      · rfl
      · rw [List.take_succ_cons]
        refine numErr_short h8 ?_
        simp; omega
    rw [getE_meas (by unfold measE; rw [if_pos (by rw [hn]; simp), hn]; simp)]
    unfold measE
    rw [if_pos (by rw [hn]; simp), hn]
  · obtain ⟨t', rfl⟩ : ∃ t', t = t' + 1 := ⟨t - 1, by omega⟩
    have hhd : hdOf ((c :: r).take (t' + 1)) = hdOf (c :: r) := rfl
    have hsz : szOf ((c :: r).take (t' + 1)) = szOf (c :: r) := by
      unfold szOf
      simp only [List.take_succ_cons, List.headD_cons, List.drop_succ_cons, List.drop_zero, List.take_take]
      congr 2
      omega
    have hn : numErr ((c :: r).take (t' + 1)) = 0 := by
      rw [List.take_succ_cons]
      by_cases h0 : c.toNat = 0
      · exact numErr_zero h0
      · rcases r with _ | ⟨d, r⟩
        · simp at hs; omega
        · obtain ⟨t2, rfl⟩ : ∃ t2, t' = t2 + 1 := ⟨t' - 1, by omega⟩
          rw [List.take_succ_cons]
          refine numErr_ok h8 (by simp; simp at hs; omega) ?_
          intro hd0
          rw [numErr_front h8 hs (by omega) hd0] at h1
          simp at h1
    refine getE_short (measE_of hn (by omega)) ?_
    have : getN ((c :: r).take (t' + 1)) = getN (c :: r) := by unfold getN; rw [hhd, hsz]
    rw [this]
    simp only [List.length_take]
    omega

/-- All whole frames at the front. -/
def allOf (xs : List UInt8) : List (UInt8 × List UInt8) × Nat :=
  if h : getE xs = 0 then ((getK xs, getB xs) :: (allOf (xs.drop (getN xs))).1, getN xs + (allOf (xs.drop (getN xs))).2) else ([], 0)
termination_by xs.length
decreasing_by all_goals (have h1 := (getE_zero h).2.2.1; have h2 := getN_pos xs; simp; omega)
theorem allOf_stop {xs : List UInt8} (h : getE xs ≠ 0) : allOf xs = ([], 0) := by rw [allOf, dif_neg h]
theorem allOf_go {xs : List UInt8} (h : getE xs = 0) : allOf xs = ((getK xs, getB xs) :: (allOf (xs.drop (getN xs))).1, getN xs + (allOf (xs.drop (getN xs))).2) := by
  rw [allOf, dif_pos h]
theorem allOf_frame {k : UInt8} {body r : List UInt8} (hb : body.length ≤ 65535) : allOf (frameOf k body ++ r) = ((k, body) :: (allOf r).1, (frameOf k body).length + (allOf r).2) := by
  obtain ⟨h1, h2, h3⟩ := get_of (k := k) (r := r) hb
  rw [allOf_go h1, h2, h3, getN_of hb, List.drop_left]

/-- A byte behind the length that is another one. -/
theorem frame_spoils {k : UInt8} {body : List UInt8} (hb : body.length ≤ 65535) {j : Nat} (h1 : (putU body.length).length ≤ j) (h2 : j < (frameOf k body).length) {y : UInt8} (hy : (frameOf k body)[j] ≠ y) :
    getE ((frameOf k body).set j y) = 14 := by
  obtain ⟨ys, hys⟩ : ∃ ys, putU body.length ++ [k] ++ body = ys := ⟨_, rfl⟩
  have hf : frameOf k body = sealedOf ys := by unfold frameOf; rw [hys]
  have hlen := frameOf_length k body
  have hyl : ys.length + 4 = (frameOf k body).length := by rw [hf, sealedOf_length]
  have e0 : (frameOf k body).set j y = putU body.length ++ ((frameOf k body).drop (putU body.length).length).set (j - (putU body.length).length) y := by
    have e : frameOf k body = putU body.length ++ (frameOf k body).drop (putU body.length).length := by
      have : (frameOf k body).take (putU body.length).length = putU body.length := by
        rw [hf, ← hys]; simp [sealedOf]
      conv => lhs; rw [← List.take_append_drop (putU body.length).length (frameOf k body), this]
    conv => lhs; rw [e]
    rw [List.set_append_right _ _ h1]
  obtain ⟨R, hR⟩ : ∃ R, ((frameOf k body).drop (putU body.length).length).set (j - (putU body.length).length) y = R := ⟨_, rfl⟩
  rw [hR] at e0
  have hn : numErr ((frameOf k body).set j y) = 0 := by rw [e0]; exact numErr_put (by omega) _
  have h8 := digs_le8 (x := body.length) (by omega)
  have hhd : hdOf ((frameOf k body).set j y) = (putU body.length).length := by
    rw [e0]
    unfold hdOf putU
    simp only [List.cons_append, List.headD_cons, List.length_cons]
    have : (UInt8.ofNat (digs body.length).length).toNat = (digs body.length).length := by simp; omega
    omega
  have hsz : szOf ((frameOf k body).set j y) = body.length := by
    have h2 := readUint_put (x := body.length) (by omega) R
    rw [← e0, readUint_ok hn] at h2
    injection h2 with _ h2
    injection h2 with h3 h4
  have hN : getN ((frameOf k body).set j y) = (frameOf k body).length := by unfold getN; rw [hhd, hsz, hlen]
  have hl : ((frameOf k body).set j y).length = (frameOf k body).length := by simp
  refine getE_sum (measE_of hn (by omega)) (by rw [hN, hl]; omega) ?_
  rw [hN, List.take_of_length_le (by omega)]
  rw [rightOf_long (k := ys.length) (by rw [hl]; omega), decide_eq_false_iff_not]
  have et : (frameOf k body).take ys.length = ys := by rw [hf, sealedOf_take]
  have ed : (frameOf k body).drop ys.length = fourOf (sumOf ys) := by rw [hf]; simp [sealedOf]
  by_cases hj : j < ys.length
  · rw [List.drop_set_of_lt hj, ed, List.take_set, et]
    intro h
    have := fourOf_inj (sumOf_lt _) (sumOf_lt _) h
    rw [sumOf_set ys j hj y] at this
    apply hy
    rw [← this]
    simp only [hf, sealedOf]
    rw [List.getElem_append_left]
  · rw [List.take_set_of_le (by omega), et]
    intro h
    apply hy
    have h3 : ((frameOf k body).set j y)[j]? = (frameOf k body)[j]? := by
      have e1 : ∀ l : List UInt8, l[j]? = (l.drop ys.length)[j - ys.length]? := fun l => by rw [List.getElem?_drop]; congr 1; omega
      rw [e1, h, e1 (frameOf k body), ed]
    rw [List.getElem?_set_self (by omega), List.getElem?_eq_getElem h2] at h3
    injection h3 with h3
    exact h3.symm
end Go.Proofs.YtlheaicojmjdpaaDoor
