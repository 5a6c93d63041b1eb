/- A segment's run as the statements of layer 7 have it: appended, synced, opened again behind a crash. No program. -/
import Derived.Test.YtdllgmhipenidaaSegP
import Derived.Test.YtdllgmhipenidaaSgmE
namespace Go.Proofs.Ytdllgmhipenidaa
set_option maxRecDepth 100000
set_option linter.unusedVariables false

theorem mid_set {pre L post : List (List UInt8)} {i : Nat} (hi : i < L.length) (x : List UInt8) : (pre ++ L ++ post).set (pre.length + i) x = pre ++ L.set i x ++ post := by
  rw [List.append_assoc, List.set_append_right _ _ (by omega), Nat.add_sub_cancel_left, List.set_append_left _ _ hi, List.append_assoc]
theorem mid_get {pre L post : List (List UInt8)} {i : Nat} (hi : i < L.length) : (pre ++ L ++ post).getD (pre.length + i) [] = L.getD i [] := by
  rw [List.append_assoc]
  simp only [List.getD_eq_getElem?_getD]
  rw [List.getElem?_append_right (by omega), Nat.add_sub_cancel_left, List.getElem?_append_left hi]
theorem lay_mid : ∀ (bs : List (List UInt8)) (u : Nat) (pre L post : List (List UInt8)), u + bs.length ≤ L.length → layAll (pre ++ L ++ post) (rowW (pre.length + u) bs) = pre ++ layAll L (rowW u bs) ++ post
  | [], u, pre, L, post, _ => rfl
  | b :: bs, u, pre, L, post, h => by
    simp only [List.length_cons] at h
    simp only [rowW, layAll]
    rw [mid_set (by omega), Nat.add_assoc, lay_mid bs (u + 1) pre (L.set u b) post (by simp; omega)]
theorem crash_mid : ∀ (bs : List (List UInt8)) (u : Nat) (pre L post : List (List UInt8)) (ps : List UInt8), u + bs.length ≤ L.length → crashL (pre ++ L ++ post) (rowW (pre.length + u) bs) ps = pre ++ crashL L (rowW u bs) ps ++ post
  | [], u, pre, L, post, ps, _ => by cases ps <;> rfl
  | b :: bs, u, pre, L, post, [], _ => rfl
  | b :: bs, u, pre, L, post, p :: ps, h => by
    simp only [List.length_cons] at h
    simp only [rowW, crashL]
    rw [mid_set (by omega), mid_get (by omega), Nat.add_assoc, crash_mid bs (u + 1) pre _ post ps (by simp; omega)]
theorem with_nil (E : Nat) : with_ E [] = [] := rfl
/-- A disk that is up: what is sure, what waits; a segment on it. -/
def runD (pre L post : List (List UInt8)) (old : Recs) (news : List (List UInt8)) (E : Nat) : PD := ⟨pre ++ L ++ post, rowW (pre.length + usedP old) (blocksOf E old.length news), -1, false⟩
def runS (a : Nat) (old : Recs) (news : List (List UInt8)) (E n : Nat) : PSeg := ⟨a, n, E, old.map (·.1) ++ news, usedP old + usedP (with_ E news), old.length, 0, 0⟩
structure Run (L : List (List UInt8)) (old : Recs) (news : List (List UInt8)) (E n : Nat) : Prop where
  sv : Sv L old E
  len : L.length = n
  small : ∀ s ∈ news, s.length ≤ 4096
  fit : usedP old + usedP (with_ E news) ≤ n
theorem run_write {D : List (List UInt8)} {W : List (Nat × List UInt8)} {p : Nat} {b : List UInt8} (hp : p < D.length) (hb : b.length = 64) : (⟨D, W, -1, false⟩ : PD).write (p : Int) b = (⟨D, W ++ [(p, b)], -1, false⟩, 0) := by
  have := live_write (L := D) (W := W) (i := (p : Int)) (b := b) (by omega) (by omega) hb
  rw [Int.toNat_natCast] at this
  exact this
theorem run_puts : ∀ (bs : List (List UInt8)) {D : List (List UInt8)} {W : List (Nat × List UInt8)} {p : Nat}, p + bs.length ≤ D.length → (∀ b ∈ bs, b.length = 64) → putsP ⟨D, W, -1, false⟩ p bs = (⟨D, W ++ rowW p bs, -1, false⟩, 0)
  | [], D, W, p, _, _ => by simp [putsP, rowW]
  | b :: bs, D, W, p, h, hb => by
    simp only [List.length_cons] at h
    simp only [putsP, rowW]
    rw [run_write (by omega) (hb b List.mem_cons_self), if_neg (by simp)]
    rw [run_puts bs (by omega) (fun x hx => hb x (List.mem_cons_of_mem _ hx))]
    simp
theorem recP_64 {e pl : Nat} {s : List UInt8} : ∀ b ∈ recP e pl s, b.length = 64 := fun b hb => by
  unfold recP at hb
  obtain ⟨i, hi, rfl⟩ := List.mem_map.1 hb
  exact blockP_length (by rw [partP_length]; omega)
section
variable {pre L post : List (List UInt8)} {old : Recs} {news : List (List UInt8)} {E n : Nat}
theorem blocks_snoc (E : Nat) (old : Recs) (news : List (List UInt8)) (b : List UInt8) (u : Nat) : rowW u (blocksOf E old.length (news ++ [b])) = rowW u (blocksOf E old.length news) ++ rowW (u + usedP (with_ E news)) (recP E (old.length + news.length) b) := by
  rw [blocksOf_append, rowW_append, blocksOf_length]
  congr 2
  simp [blocksOf]
theorem with_snoc (E : Nat) (news : List (List UInt8)) (b : List UInt8) : usedP (with_ E (news ++ [b])) = usedP (with_ E news) + needP b.length := by
  rw [with_append, usedP_append]
  simp [with_, usedP]
/-- A record that has room. -/
theorem Run.append (h : Run L old news E n) {b : List UInt8} (hb : b.length ≤ 4096) (hf : usedP old + usedP (with_ E news) + needP b.length ≤ n) :
    (runS pre.length old news E n).append (runD pre L post old news E) b = (runD pre L post old (news ++ [b]) E, runS pre.length old (news ++ [b]) E n, ((old.length + news.length : Nat) : Int), 0) ∧ Run L old (news ++ [b]) E n := by
  refine ⟨?_, ⟨h.sv, h.len, fun s hs => ?_, by rw [with_snoc]; omega⟩⟩
  · have hl := h.len
    have hp : putsP (runD pre L post old news E) ((runS pre.length old news E n).start + (runS pre.length old news E n).used) (recP (runS pre.length old news E n).epoch (runS pre.length old news E n).L.length b) = (runD pre L post old (news ++ [b]) E, 0) := by
      unfold runD
      have e1 : (runS pre.length old news E n).start + (runS pre.length old news E n).used = pre.length + usedP old + usedP (with_ E news) := by simp [runS]; omega
      have e2 : (runS pre.length old news E n).L.length = old.length + news.length := by simp [runS]
      rw [e1, e2, show (runS pre.length old news E n).epoch = E from rfl]
      rw [run_puts _ (by rw [recP_length]; simp; omega) recP_64, blocks_snoc]
    unfold PSeg.append
    rw [if_neg (by omega), if_neg (by simp [runS]), if_neg (by simp [runS]; omega)]
    rw [hp, if_neg (by simp)]
    unfold runS
    simp only [Prod.mk.injEq, true_and, List.append_assoc, and_true]
    refine ⟨?_, by simp⟩
    rw [with_snoc]
    simp [Nat.add_assoc]
  · rcases List.mem_append.1 hs with hs | hs
    · exact h.small s hs
    · obtain rfl : s = b := by simpa using hs
      exact hb
theorem Run.full {a : Nat} (d : PD) {b : List UInt8} (hb : b.length ≤ 4096) (hf : n < usedP old + usedP (with_ E news) + needP b.length) : (runS a old news E n).append d b = (d, runS a old news E n, 0, 21) := by
  unfold PSeg.append
  have := needP_pos b.length
  rw [if_neg (by omega), if_neg (by simp [runS]), if_pos (by simp only [runS]; omega)]
theorem Run.sync (h : Run L old news E n) (hE : E < 4294967296) :
    (runS pre.length old news E n).sync (runD pre L post old news E) = (runD pre (layAll L (rowW (usedP old) (blocksOf E old.length news))) post (old ++ with_ E news) [] E, runS pre.length (old ++ with_ E news) [] E n, 0) ∧ Run (layAll L (rowW (usedP old) (blocksOf E old.length news))) (old ++ with_ E news) [] E n := by
  have hl := h.len
  have hfit := h.fit
  refine ⟨?_, ⟨h.sv.sync hE h.small (by omega), by rw [layAll_length]; exact hl, (fun s hs => by cases hs), by rw [usedP_append]; simp only [with_nil, usedP]; omega⟩⟩
  unfold PSeg.sync
  rw [if_neg (by simp [runS])]
  have e : (runD pre L post old news E).sync = (⟨layAll (pre ++ L ++ post) (rowW (pre.length + usedP old) (blocksOf E old.length news)), [], -1, false⟩, 0) := rfl
  rw [e, if_neg (by simp), lay_mid _ _ _ _ _ (by rw [blocksOf_length]; omega)]
  unfold runD runS
  simp [usedP_append, with_fst, with_length, blocksOf, rowW, with_nil, usedP]
/-- Opened again behind a crash. -/
theorem Run.crash (h : Run L old news E n) (hE : E < 255) (hn : n ≤ 65536) (ps : List UInt8) : ∃ m L' E', m ≤ news.length ∧ (runD pre L post old news E).crash ps = runD pre L' post (old ++ with_ E (news.take m)) [] E' ∧ segOpen L' pre.length = runS pre.length (old ++ with_ E (news.take m)) [] E' n ∧ stampP L' + 1 = E' ∧ E' ≤ E + 1 ∧ Run L' (old ++ with_ E (news.take m)) [] E' n := by
  have hl := h.len
  have hfit := h.fit
  obtain ⟨L', hL'⟩ : ∃ L', crashL L (rowW (usedP old) (blocksOf E old.length news)) ps = L' := ⟨_, rfl⟩
  have hlen : L'.length = n := by rw [← hL', crashL_length]; exact hl
  obtain ⟨m, hm, hw, hst, hsv⟩ := h.sv.crash (by omega) h.small (by omega) (by omega) ps hL'
  refine ⟨m, L', stampP L' + 1, hm, ?_, ?_, rfl, by omega, ⟨hsv, hlen, (fun s hs => by cases hs), ?_⟩⟩
  · have e : (runD pre L post old news E).crash ps = ⟨crashL (pre ++ L ++ post) (rowW (pre.length + usedP old) (blocksOf E old.length news)) ps, [], -1, false⟩ := rfl
    rw [e, crash_mid _ _ _ _ _ _ (by rw [blocksOf_length]; omega), hL']
    rfl
  · unfold segOpen runS
    rw [hw, hlen]
    simp [with_, usedP]
  · have := hsv.fit
    rw [with_nil]
    simp only [usedP]
    omega
/-- Opened again as it is, with nothing that waits. -/
theorem Run.again (h : Run L old [] E n) (hE : E < 255) (hn : n ≤ 65536) : ∃ E', segOpen L pre.length = runS pre.length old [] E' n ∧ stampP L + 1 = E' ∧ E' ≤ E + 1 ∧ runD pre L post old [] E = runD pre L post old [] E' ∧ Run L old [] E' n := by
  have hl := h.len
  have hfit := h.fit
  obtain ⟨m, hm, hw, hst, hsv⟩ := h.sv.crash (L' := L) (by omega) h.small (by omega) (by omega) [] (by simp [blocksOf, rowW, crashL])
  simp only [List.take_nil, with_, List.map_nil, List.append_nil] at hw hsv
  refine ⟨stampP L + 1, ?_, rfl, by omega, by simp [runD, blocksOf, rowW], ⟨hsv, hl, h.small, hfit⟩⟩
  unfold segOpen runS
  rw [hw, hl]
  simp [with_, usedP]
theorem Run.new (n : Nat) : Run (List.replicate n zeros64) [] [] 1 n := ⟨(Sv.new n).2, by simp, (fun s hs => by cases hs), by simp [with_, usedP]⟩
theorem run_open0 (a n : Nat) : segOpen (List.replicate n zeros64) a = runS a [] [] 1 n := by
  unfold segOpen runS
  rw [List.length_replicate, (Sv.new n).1, zeros_stamp]
  simp [with_, usedP]
/-- The region's blocks, where nothing waits. -/
theorem run_segL (h : L.length = n) (old : Recs) (E : Nat) : segL (runD pre L post old [] E) pre.length n = L := by
  apply List.ext_getElem (by rw [segL_length, h])
  intro i h1 h2
  rw [segL_length] at h1
  have e := segL_get (d := runD pre L post old [] E) (a := pre.length) h1
  have e2 : (runD pre L post old [] E).lat (pre.length + i) = L.getD i [] := by
    unfold PD.lat
    have : (runD pre L post old [] E).W = [] := by simp [runD, blocksOf, rowW]
    rw [this]
    show ((none : Option (List UInt8)).getD ((pre ++ L ++ post).getD (pre.length + i) [])) = _
    rw [mid_get h2]
    rfl
  rw [e2] at e
  simpa [List.getD_eq_getElem?_getD, h1, segL_length, h2] using e
end
end Go.Proofs.Ytdllgmhipenidaa
