/- An acceptor in plain lists: votes by rising slots; a promise, a vote, what is given up; votes as bytes. No program. -/
import Derived.Test.YtpabbhhaagfoeaaPlainM
import Derived.Test.YtpabbhhaagfoeaaNumsM
namespace Go.Proofs.Ytpabbhhaagfoeaa
set_option maxRecDepth 100000
open Go.RowKit
set_option linter.unusedVariables false
set_option linter.unusedSimpArgs false

/-- A vote. -/
structure PVt where
  slot : Nat
  bal : Nat
  val : List UInt8
/-- An acceptor. -/
structure PAc where
  prom : Nat := 0
  low : Nat := 0
  L : List PVt := []

def fromV (f : Nat) (l : List PVt) : List PVt := l.filter (fun x => decide (f ≤ x.slot))
def insV (v : PVt) (l : List PVt) : List PVt := l.filter (fun x => decide (x.slot < v.slot)) ++ v :: l.filter (fun x => decide (v.slot < x.slot))
def lookV (l : List PVt) (s : Nat) : Option PVt := l.find? (fun x => decide (x.slot = s))
def riseV (l : List PVt) : Prop := l.Pairwise (fun x y => x.slot < y.slot)
def PAc.prepare (a : PAc) (b : Nat) : PAc := if b < a.prom then a else { a with prom := b }
def PAc.prepE (a : PAc) (b : Nat) : Nat := if b < a.prom then 32 else 0
def PAc.told (a : PAc) (b f : Nat) : List PVt := if b < a.prom then [] else fromV f a.L
def PAc.accept (a : PAc) (v : PVt) : PAc := if v.bal < a.prom then a else if v.slot < a.low then a else { a with prom := v.bal, L := insV v a.L }
def PAc.accE (a : PAc) (v : PVt) : Nat := if v.bal < a.prom then 32 else if v.slot < a.low then 15 else 0
def PAc.forget (a : PAc) (s : Nat) : PAc := if s ≤ a.low then a else { a with low := s, L := fromV s a.L }

theorem fromV_nil (f : Nat) : fromV f [] = [] := rfl
theorem fromV_snoc (f : Nat) (l : List PVt) (x : PVt) : fromV f (l ++ [x]) = if f ≤ x.slot then fromV f l ++ [x] else fromV f l := by
  unfold fromV
  rw [List.filter_append]
  by_cases h : f ≤ x.slot <;> simp [h]
theorem fromV_le (f : Nat) (l : List PVt) : (fromV f l).length ≤ l.length := List.length_filter_le _ _
theorem fromV_zero (l : List PVt) : fromV 0 l = l := by
  unfold fromV
  exact List.filter_eq_self.2 (fun x _ => by simp)
theorem fromV_mem {f : Nat} {l : List PVt} {x : PVt} (h : x ∈ fromV f l) : x ∈ l ∧ f ≤ x.slot := by
  have := List.mem_filter.1 h
  exact ⟨this.1, by simpa using this.2⟩
theorem insV_mem {v x : PVt} {l : List PVt} (h : x ∈ insV v l) : x = v ∨ x ∈ l := by
  unfold insV at h
  rcases List.mem_append.1 h with h | h
  · exact .inr (List.mem_filter.1 h).1
  · rcases List.mem_cons.1 h with h | h
    · exact .inl h
    · exact .inr (List.mem_filter.1 h).1
theorem insV_len (v : PVt) (l : List PVt) : (insV v l).length ≤ l.length + 1 := by
  unfold insV
  have h : ∀ l : List PVt, (l.filter (fun x => decide (x.slot < v.slot))).length + (l.filter (fun x => decide (v.slot < x.slot))).length ≤ l.length := by
    intro l
    induction l with
    | nil => simp
    | cons x l ih =>
      rw [List.filter_cons, List.filter_cons]
      by_cases h1 : x.slot < v.slot
      · have h2 : ¬ v.slot < x.slot := by omega
        simp [h1, h2]; omega
      · by_cases h2 : v.slot < x.slot
        · simp [h1, h2]; omega
        · simp [h1, h2]; omega
  have := h l
  simp; omega
theorem riseV.from {l : List PVt} (h : riseV l) (f : Nat) : riseV (fromV f l) := List.Pairwise.filter _ h
theorem riseV.ins {l : List PVt} (h : riseV l) (v : PVt) : riseV (insV v l) := by
  unfold insV riseV
  refine List.pairwise_append.2 ⟨List.Pairwise.filter _ h, List.pairwise_cons.2 ⟨fun x hx => ?_, List.Pairwise.filter _ h⟩, fun x hx y hy => ?_⟩
  · simpa using (List.mem_filter.1 hx).2
  · have h1 : x.slot < v.slot := by simpa using (List.mem_filter.1 hx).2
    rcases List.mem_cons.1 hy with rfl | hy
    · exact h1
    · have h2 : v.slot < y.slot := by simpa using (List.mem_filter.1 hy).2
      omega
theorem riseV.take {l : List PVt} (h : riseV l) (k : Nat) : riseV (l.take k) := List.Pairwise.take h
theorem riseV.snoc {l : List PVt} {x : PVt} (h : riseV (l ++ [x])) : riseV l ∧ ∀ y ∈ l, y.slot < x.slot := by
  have := List.pairwise_append.1 h
  exact ⟨this.1, fun y hy => this.2.2 y hy x (by simp)⟩
/-- All slots are below. -/
theorem insV_below {v : PVt} {l : List PVt} (h : ∀ x ∈ l, x.slot < v.slot) : insV v l = l ++ [v] := by
  unfold insV
  rw [List.filter_eq_self.2 (fun x hx => by simp [h x hx]), List.filter_eq_nil_iff.2 (fun x hx => by have := h x hx; simp; omega)]
/-- A vote for the same slot stands last. -/
theorem insV_same {v x : PVt} {l : List PVt} (h : ∀ y ∈ l, y.slot < v.slot) (hx : x.slot = v.slot) : insV v (l ++ [x]) = l ++ [v] := by
  unfold insV
  have h1 : l.filter (fun x => decide (x.slot < v.slot)) = l := List.filter_eq_self.2 (fun y hy => by simp [h y hy])
  have h2 : l.filter (fun x => decide (v.slot < x.slot)) = [] := List.filter_eq_nil_iff.2 (fun y hy => by have := h y hy; simp; omega)
  rw [List.filter_append, List.filter_append, h1, h2]
  simp [hx]
/-- One behind it. -/
theorem insV_above {v x : PVt} {l : List PVt} (hx : v.slot < x.slot) : insV v (l ++ [x]) = insV v l ++ [x] := by
  unfold insV
  have h : ¬ x.slot < v.slot := by omega
  rw [List.filter_append, List.filter_append]
  simp [hx, h]

/-! What is looked up. -/
theorem lookV_some {l : List PVt} {s : Nat} {v : PVt} (h : lookV l s = some v) : v ∈ l ∧ v.slot = s := by
  unfold lookV at h
  exact ⟨List.mem_of_find?_eq_some h, by simpa using List.find?_some h⟩
theorem lookV_none {l : List PVt} {s : Nat} : lookV l s = none ↔ ∀ v ∈ l, v.slot ≠ s := by
  unfold lookV
  rw [List.find?_eq_none]
  simp
theorem lookV_of {l : List PVt} (h : riseV l) {v : PVt} (hv : v ∈ l) : lookV l v.slot = some v := by
  induction l with
  | nil => cases hv
  | cons x l ih =>
    have hp := List.pairwise_cons.1 h
    unfold lookV
    rw [List.find?_cons]
    rcases List.mem_cons.1 hv with rfl | hv
    · simp
    · have := hp.1 v hv
      have hn : ¬ x.slot = v.slot := by omega
      simp only [hn, decide_false]
      exact ih hp.2 hv
theorem lookV_ins (v : PVt) {l : List PVt} (h : riseV l) (s : Nat) : lookV (insV v l) s = if s = v.slot then some v else lookV l s := by
  have hr := h.ins v
  by_cases hs : s = v.slot
  · subst hs
    rw [if_pos rfl]
    exact lookV_of hr (by unfold insV; simp)
  · rw [if_neg hs]
    cases hl : lookV l s with
    | none =>
      rw [lookV_none] at hl ⊢
      intro x hx
      rcases insV_mem hx with rfl | hx
      · exact fun h => hs h.symm
      · exact hl x hx
    | some x =>
      obtain ⟨hx, rfl⟩ := lookV_some hl
      refine lookV_of hr ?_
      unfold insV
      by_cases hlt : x.slot < v.slot
      · exact List.mem_append.2 (.inl (List.mem_filter.2 ⟨hx, by simp [hlt]⟩))
      · exact List.mem_append.2 (.inr (List.mem_cons.2 (.inr (List.mem_filter.2 ⟨hx, by simp; omega⟩))))
theorem lookV_from {l : List PVt} (h : riseV l) (f s : Nat) : lookV (fromV f l) s = if f ≤ s then lookV l s else none := by
  by_cases hs : f ≤ s
  · rw [if_pos hs]
    cases hl : lookV l s with
    | none =>
      rw [lookV_none] at hl ⊢
      exact fun x hx => hl x (fromV_mem hx).1
    | some x =>
      obtain ⟨hx, rfl⟩ := lookV_some hl
      exact lookV_of (h.from f) (List.mem_filter.2 ⟨hx, by simp [hs]⟩)
  · rw [if_neg hs, lookV_none]
    intro x hx
    have := (fromV_mem hx).2
    omega

/-! Votes as bytes. -/
def vputV (v : PVt) : List UInt8 := putU v.slot ++ putU v.bal ++ putB v.val
def vputVs : List PVt → List UInt8
  | [] => []
  | v :: l => vputV v ++ vputVs l
def vputL (l : List PVt) : List UInt8 := putU l.length ++ vputVs l
theorem vputVs_append : ∀ l m : List PVt, vputVs (l ++ m) = vputVs l ++ vputVs m
  | [], m => rfl
  | v :: l, m => by simp [vputVs, vputVs_append l m]
theorem vputVs_snoc (l : List PVt) (v : PVt) : vputVs (l ++ [v]) = vputVs l ++ vputV v := by rw [vputVs_append]; simp [vputVs]
theorem vputVs_len {B : Nat} (hB : B ≤ 40000) : ∀ l : List PVt, (∀ v ∈ l, v.slot < 18446744073709551616 ∧ v.bal < 18446744073709551616 ∧ v.val.length ≤ B) → (vputVs l).length ≤ l.length * (27 + B)
  | [], _ => by simp [vputVs]
  | v :: l, h => by
    have ih := vputVs_len hB l (fun x hx => h x (by simp [hx]))
    obtain ⟨h1, h2, h3⟩ := h v (by simp)
    have u1 := putU_length v.slot h1
    have u2 := putU_length v.bal h2
    have u3 := putB_length' v.val (by omega)
    simp only [vputVs, vputV, List.length_append, List.length_cons]
    rw [Nat.add_mul]
    omega
theorem vputL_len {B : Nat} (hB : B ≤ 40000) {l : List PVt} (hl : l.length ≤ 100000) (h : ∀ v ∈ l, v.slot < 18446744073709551616 ∧ v.bal < 18446744073709551616 ∧ v.val.length ≤ B) : (vputL l).length ≤ 9 + l.length * (27 + B) := by
  have := vputVs_len hB l h
  have := putU_length l.length (by omega)
  unfold vputL
  rw [List.length_append]
  omega
/-- What is read: the error, and the votes. -/
def vgetN : Nat → Int → List UInt8 → List PVt → Int × List PVt
  | 0, E, B, out => if E ≠ 0 then (E, []) else if B = [] then (0, out) else (12, [])
  | n + 1, E, B, out =>
    if E ≠ 0 then (E, [])
    else if (readUint 0 B).1 = 0 ∧ ∃ v, out.getLast? = some v ∧ (readUint 0 B).2.2 ≤ v.slot then (11, [])
    else
      let r1 := readUint 0 B
      let r2 := readUint r1.1 r1.2.1
      let r3 := readBytes r2.1 r2.2.1 32768
      vgetN n r3.1 r3.2.1 (out ++ [⟨r1.2.2, r2.2.2, r3.2.2⟩])
def vgetL (B : List UInt8) : Int × List PVt := vgetN (readUint 0 B).2.2 (readUint 0 B).1 (readUint 0 B).2.1 []
theorem vgetN_err (n : Nat) {E : Int} (h : E ≠ 0) (B : List UInt8) (out : List PVt) : vgetN n E B out = (E, []) := by
  cases n <;> simp [vgetN, h]

theorem readUint_cut {x : Nat} (hx : x < 18446744073709551616) (r : List UInt8) (k : Nat) : readUint 0 ((putU x ++ r).take k) = if k < (putU x).length then (10, [], 0) else (0, r.take (k - (putU x).length), x) := by
  by_cases h : k < (putU x).length
  · rw [if_pos h, List.take_append_of_le_length (by omega)]
    exact readUint_short hx h
  · rw [if_neg h, List.take_append, List.take_of_length_le (by omega)]
    exact readUint_put hx _
theorem readBytes_cut {b : List UInt8} (hb : b.length ≤ 32768) (r : List UInt8) (k : Nat) : readBytes 0 ((putB b ++ r).take k) 32768 = if k < (putB b).length then (10, [], []) else (0, r.take (k - (putB b).length), b) := by
  unfold readBytes putB
  rw [List.append_assoc, readUint_cut (by omega)]
  by_cases h : k < (putU b.length).length
  · rw [if_pos h, if_pos (by simp), if_pos (by simp; omega)]
  · rw [if_neg h]
    simp only [ne_eq, not_true, if_false]
    rw [if_neg (by simp; omega)]
    unfold readRaw
    rw [if_neg (by simp), if_neg (by omega)]
    by_cases h2 : k < (putU b.length ++ b).length
    · rw [if_pos h2, if_pos (by simp at h2 ⊢; omega)]
    · rw [if_neg h2, if_neg (by simp at h2 ⊢; omega)]
      simp at h2 ⊢
      rw [List.drop_take, List.drop_left, List.take_take, List.take_append_of_le_length (by omega)]
      refine ⟨by congr 1; omega, List.take_of_length_le (by omega)⟩
/-- A vote that may be put. -/
def PVt.ok (v : PVt) : Prop := v.slot < 18446744073709551616 ∧ v.bal < 18446744073709551616 ∧ v.val.length ≤ 32768
theorem vgetN_zero (B : List UInt8) (out : List PVt) : vgetN 0 0 B out = if B = [] then (0, out) else (12, []) := by simp [vgetN]
theorem vgetN_step {v : PVt} (hv : v.ok) (r : List UInt8) (k n : Nat) (out : List PVt) (hout : ∀ u, out.getLast? = some u → u.slot < v.slot) :
    vgetN (n + 1) 0 ((vputV v ++ r).take k) out = if k < (vputV v).length then (10, []) else vgetN n 0 (r.take (k - (vputV v).length)) (out ++ [v]) := by
  obtain ⟨h1, h2, h3⟩ := hv
  have hno : ¬ ∃ u, out.getLast? = some u ∧ v.slot ≤ u.slot := by
    rintro ⟨u, hu, hle⟩
    have := hout u hu
    omega
  unfold vputV
  rw [List.append_assoc, List.append_assoc]
  simp only [vgetN, ne_eq, not_true, if_false]
  rw [readUint_cut h1]
  by_cases c1 : k < (putU v.slot).length
  · rw [if_pos c1]
    rw [if_neg (by simp), if_pos (by simp; omega)]
    simp only
    rw [show readUint 10 [] = (10, [], 0) from rfl, show readBytes 10 [] 32768 = (10, [], []) from rfl, vgetN_err _ (by simp)]
  · rw [if_neg c1]
    simp only [true_and]
    rw [if_neg hno]
    have e1 : (putU v.bal ++ (putB v.val ++ r)).take (k - (putU v.slot).length) = (putU v.bal ++ (putB v.val ++ r)).take (k - (putU v.slot).length) := rfl
    rw [readUint_cut h2]
    by_cases c2 : k - (putU v.slot).length < (putU v.bal).length
    · rw [if_pos c2, if_pos (by simp; omega)]
      simp only
      rw [show readBytes 10 [] 32768 = (10, [], []) from rfl, vgetN_err _ (by simp)]
    · rw [if_neg c2]
      simp only
      have e3 := readBytes_cut h3 r (k - (putU v.slot).length - (putU v.bal).length)
      rw [e3]
      by_cases c3 : k - (putU v.slot).length - (putU v.bal).length < (putB v.val).length
      · rw [if_pos c3, if_pos (by simp; omega)]
        simp only
        rw [vgetN_err _ (by simp)]
      · rw [if_neg c3, if_neg (by simp; omega)]
        simp only
        congr 2
        simp
        omega
/-- Votes that rise are got as they were put; cut anywhere they are short. -/
theorem vgetN_put : ∀ (l : List PVt) (out : List PVt) (k : Nat), (∀ v ∈ l, v.ok) → riseV (out ++ l) → vgetN l.length 0 ((vputVs l).take k) out = if k < (vputVs l).length then (10, []) else (0, out ++ l)
  | [], out, k, _, _ => by simp [vputVs, vgetN]
  | v :: l, out, k, hok, hr => by
    have hpos : ∀ l : List PVt, 0 ≤ (vputVs l).length := fun _ => Nat.zero_le _
    rw [List.length_cons, vputVs, vgetN_step (hok v (by simp)) _ k _ _ (fun u hu => by
      have hm := List.mem_of_getLast? hu
      exact (List.pairwise_append.1 hr).2.2 u hm v (by simp))]
    by_cases h : k < (vputV v).length
    · rw [if_pos h, if_pos (by simp; omega)]
    · rw [if_neg h, vgetN_put l (out ++ [v]) _ (fun x hx => hok x (by simp [hx])) (by simpa using hr)]
      by_cases h2 : k - (vputV v).length < (vputVs l).length
      · rw [if_pos h2, if_pos (by simp; omega)]
      · rw [if_neg h2, if_neg (by simp; omega)]
        simp
theorem vgetL_put {l : List PVt} (hn : l.length < 18446744073709551616) (hok : ∀ v ∈ l, v.ok) (hr : riseV l) : vgetL (vputL l) = (0, l) := by
  unfold vgetL vputL
  rw [readUint_put hn]
  have := vgetN_put l [] (vputVs l).length hok (by simpa using hr)
  rw [List.take_length, if_neg (by omega)] at this
  simpa using this
theorem vgetL_cut {l : List PVt} (hn : l.length < 18446744073709551616) (hok : ∀ v ∈ l, v.ok) (hr : riseV l) {k : Nat} (hk : k < (vputL l).length) : vgetL ((vputL l).take k) = (10, []) := by
  unfold vgetL
  unfold vputL at hk ⊢
  rw [readUint_cut hn]
  by_cases h : k < (putU l.length).length
  · rw [if_pos h]
    rfl
  · rw [if_neg h]
    simp only
    rw [vgetN_put l [] _ hok (by simpa using hr), if_pos (by simp at hk; omega)]
end Go.Proofs.Ytpabbhhaagfoeaa
