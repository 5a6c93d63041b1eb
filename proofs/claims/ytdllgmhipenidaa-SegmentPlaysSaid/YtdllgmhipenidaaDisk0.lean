/- A disk as the document has it: plain lists. No program. -/
namespace Go.Proofs.Ytdllgmhipenidaa
set_option maxRecDepth 100000
set_option linter.unusedVariables false

def zeros64 : List UInt8 := List.replicate 64 0
/-- Sure blocks; writes that wait, in order; how many calls that count are still to come ahead of the one at which it stops (below 0: none is); is it down? -/
structure PD where
  L : List (List UInt8)
  W : List (Nat × List UInt8)
  left : Int
  down : Bool
def PD.new (n : Nat) : PD := ⟨List.replicate n zeros64, [], -1, false⟩
def PD.at_ (d : PD) (i : Int) : Int := if d.down then 20 else if i < 0 ∨ (d.L.length : Int) ≤ i then 15 else 0
def PD.count (d : PD) : PD × Int := if d.left = 0 then ({ d with down := true }, 20) else ({ d with left := if 0 < d.left then d.left - 1 else d.left }, 0)
def PD.write (d : PD) (i : Int) (b : List UInt8) : PD × Int :=
  if d.at_ i ≠ 0 then (d, d.at_ i) else if b.length ≠ 64 then (d, 1) else if d.count.2 ≠ 0 then d.count else ({ d.count.1 with W := d.W ++ [(i.toNat, b)] }, 0)
def lastW (i : Nat) : List (Nat × List UInt8) → Option (List UInt8)
  | [] => none
  | w :: r => match lastW i r with
    | some b => some b
    | none => if w.1 = i then some w.2 else none
def PD.read (d : PD) (i : Int) : List UInt8 × Int := if d.at_ i ≠ 0 then ([], d.at_ i) else ((lastW i.toNat d.W).getD (d.L.getD i.toNat []), 0)
def layAll : List (List UInt8) → List (Nat × List UInt8) → List (List UInt8)
  | L, [] => L
  | L, w :: W => layAll (L.set w.1 w.2) W
def PD.sync (d : PD) : PD × Int :=
  if d.down then (d, 20) else if d.count.2 ≠ 0 then d.count else ({ d.count.1 with L := layAll d.L d.W, W := [] }, 0)
def PD.stop (d : PD) (after : Int) : PD := { d with left := if after < 0 then -1 else after }
def tear (n : Nat) (new old : List UInt8) : List UInt8 := new.take n ++ old.drop n
def crashL : List (List UInt8) → List (Nat × List UInt8) → List UInt8 → List (List UInt8)
  | L, [], _ => L
  | L, _ :: _, [] => L
  | L, w :: W, p :: ps => crashL (L.set w.1 (tear (p.toNat % 65) w.2 (L.getD w.1 []))) W ps
def PD.crash (d : PD) (pick : List UInt8) : PD := ⟨crashL d.L d.W pick, [], -1, false⟩

/-- All blocks have 64 bytes; what waits waits for a block that there is. -/
structure PD.Ok (d : PD) : Prop where
  sure : ∀ b ∈ d.L, b.length = 64
  waits : ∀ w ∈ d.W, w.1 < d.L.length ∧ w.2.length = 64

theorem lastW_snoc (i : Nat) (w : Nat × List UInt8) : ∀ W : List (Nat × List UInt8), lastW i (W ++ [w]) = if w.1 = i then some w.2 else lastW i W
  | [] => by simp [lastW]
  | x :: W => by
    simp only [List.cons_append, lastW, lastW_snoc i w W]
    by_cases h : w.1 = i <;> simp [h]
theorem lastW_none {i : Nat} : ∀ {W : List (Nat × List UInt8)}, (∀ w ∈ W, w.1 ≠ i) → lastW i W = none
  | [], _ => rfl
  | x :: W, h => by
    simp only [lastW, lastW_none (fun w hw => h w (List.mem_cons_of_mem _ hw))]
    rw [if_neg (h x List.mem_cons_self)]
theorem lastW_mem {i : Nat} {b : List UInt8} : ∀ {W : List (Nat × List UInt8)}, lastW i W = some b → (i, b) ∈ W
  | [], h => by cases h
  | x :: W, h => by
    simp only [lastW] at h
    cases hW : lastW i W with
    | some c =>
      rw [hW] at h
      injection h with h
      subst h
      exact List.mem_cons_of_mem _ (lastW_mem hW)
    | none =>
      rw [hW] at h
      dsimp only at h
      split at h
      · rename_i e
        injection h with h
        rw [← h, ← e]
        exact List.mem_cons_self
      · cases h
theorem layAll_length : ∀ (L : List (List UInt8)) (W : List (Nat × List UInt8)), (layAll L W).length = L.length
  | L, [] => rfl
  | L, w :: W => by rw [layAll, layAll_length]; simp
theorem layAll_snoc (w : Nat × List UInt8) : ∀ (L : List (List UInt8)) (W : List (Nat × List UInt8)), layAll L (W ++ [w]) = (layAll L W).set w.1 w.2
  | L, [] => rfl
  | L, x :: W => by rw [List.cons_append, layAll, layAll_snoc, layAll]
/-- Behind a Sync a block is what was read ahead of it. -/
theorem layAll_get (i : Nat) : ∀ (L : List (List UInt8)) (W : List (Nat × List UInt8)), i < L.length → (layAll L W)[i]? = some ((lastW i W).getD (L.getD i []))
  | L, [], h => by simp [layAll, lastW, h]
  | L, w :: W, h => by
    rw [layAll, layAll_get i (L.set w.1 w.2) W (by simpa using h)]
    simp only [lastW]
    cases lastW i W with
    | some b => rfl
    | none =>
      by_cases e : w.1 = i
      · subst e; simp [h]
      · simp [e, List.getElem?_set_ne e]
theorem layAll_ok {L : List (List UInt8)} {W : List (Nat × List UInt8)} (h : ∀ b ∈ L, b.length = 64) (hw : ∀ w ∈ W, w.2.length = 64) : ∀ b ∈ layAll L W, b.length = 64 := by
  induction W generalizing L with
  | nil => exact h
  | cons w W ih =>
    refine ih (L := L.set w.1 w.2) (fun b hb => ?_) (fun x hx => hw x (List.mem_cons_of_mem _ hx))
    rcases List.mem_or_eq_of_mem_set hb with hb | rfl
    · exact h b hb
    · exact hw w List.mem_cons_self
theorem tear_length {n : Nat} {new old : List UInt8} (h1 : new.length = 64) (h2 : old.length = 64) (hn : n ≤ 64) : (tear n new old).length = 64 := by
  simp [tear, h1, h2]; omega
theorem tear_zero (new old : List UInt8) : tear 0 new old = old := by simp [tear]
theorem tear_all {new old : List UInt8} (h1 : new.length = 64) (h2 : old.length = 64) : tear 64 new old = new := by
  unfold tear
  rw [List.take_of_length_le (by omega), List.drop_eq_nil_of_le (by omega), List.append_nil]
/-- The bytes of what was torn. -/
theorem tear_get {n : Nat} {new old : List UInt8} (h1 : new.length = 64) (h2 : old.length = 64) (hn : n ≤ 64) (i : Nat) : (tear n new old)[i]? = if i < n then new[i]? else old[i]? := by
  unfold tear
  have hl : (new.take n).length = n := by simp; omega
  by_cases hi : i < n
  · rw [List.getElem?_append_left (by omega), if_pos hi, List.getElem?_take, if_pos hi]
  · rw [List.getElem?_append_right (by omega), if_neg hi, hl, List.getElem?_drop]
    congr 1
    omega
theorem crashL_nil (L : List (List UInt8)) (W : List (Nat × List UInt8)) : crashL L W [] = L := by cases W <;> rfl
theorem crashL_length : ∀ (L : List (List UInt8)) (W : List (Nat × List UInt8)) (ps : List UInt8), (crashL L W ps).length = L.length
  | L, [], _ => rfl
  | L, _ :: _, [] => rfl
  | L, w :: W, p :: ps => by rw [crashL, crashL_length]; simp
/-- A block for which nothing waited is as it was. -/
theorem crashL_other {i : Nat} : ∀ (L : List (List UInt8)) (W : List (Nat × List UInt8)) (ps : List UInt8), (∀ w ∈ W, w.1 ≠ i) → (crashL L W ps)[i]? = L[i]?
  | L, [], _, _ => rfl
  | L, _ :: _, [], _ => rfl
  | L, w :: W, p :: ps, h => by
    rw [crashL, crashL_other _ W ps (fun x hx => h x (List.mem_cons_of_mem _ hx)), List.getElem?_set_ne (h w List.mem_cons_self)]
theorem crashL_ok : ∀ (L : List (List UInt8)) (W : List (Nat × List UInt8)) (ps : List UInt8), (∀ b ∈ L, b.length = 64) → (∀ w ∈ W, w.1 < L.length ∧ w.2.length = 64) → ∀ b ∈ crashL L W ps, b.length = 64
  | L, [], _, h, _ => h
  | L, _ :: _, [], h, _ => h
  | L, w :: W, p :: ps, h, hw => by
    have h0 := hw w List.mem_cons_self
    refine crashL_ok _ W ps (fun b hb => ?_) (fun x hx => by simpa using hw x (List.mem_cons_of_mem _ hx))
    rcases List.mem_or_eq_of_mem_set hb with hb | rfl
    · exact h b hb
    · refine tear_length h0.2 ?_ (by omega)
      have : L.getD w.1 [] = L[w.1]'h0.1 := by simp [h0.1]
      rw [this]
      exact h _ (List.getElem_mem _)
/-- A crash that goes on with noughts where there is no pick is the same. -/
def crashF : List (List UInt8) → List (Nat × List UInt8) → List UInt8 → List (List UInt8)
  | L, [], _ => L
  | L, w :: W, ps => crashF (L.set w.1 (tear ((ps.headD 0).toNat % 65) w.2 (L.getD w.1 []))) W ps.tail
theorem crashF_nil : ∀ (L : List (List UInt8)) (W : List (Nat × List UInt8)), crashF L W [] = L
  | L, [] => rfl
  | L, w :: W => by
    have e : L.set w.1 (tear ((([] : List UInt8).headD 0).toNat % 65) w.2 (L.getD w.1 [])) = L := by
      show L.set w.1 (tear 0 w.2 (L.getD w.1 [])) = L
      rw [tear_zero]
      by_cases h : w.1 < L.length
      · simp [h]
      · rw [List.set_eq_of_length_le (by omega)]
    rw [crashF, e, List.tail_nil, crashF_nil L W]
theorem crashF_eq : ∀ (L : List (List UInt8)) (W : List (Nat × List UInt8)) (ps : List UInt8), crashF L W ps = crashL L W ps
  | L, [], _ => rfl
  | L, w :: W, [] => by rw [crashF_nil, crashL_nil]
  | L, w :: W, p :: ps => by
    rw [crashF, crashL, List.headD_cons, List.tail_cons, crashF_eq]

theorem PD.new_ok (n : Nat) : (PD.new n).Ok := ⟨fun b hb => by rw [List.eq_of_mem_replicate hb]; simp [zeros64], fun w hw => by cases hw⟩
theorem PD.count_L (d : PD) : d.count.1.L = d.L ∧ d.count.1.W = d.W := by unfold PD.count; split <;> exact ⟨rfl, rfl⟩
theorem PD.Ok.of {d e : PD} (h : d.Ok) (h1 : e.L = d.L) (h2 : e.W = d.W) : e.Ok := ⟨by rw [h1]; exact h.sure, by rw [h1, h2]; exact h.waits⟩
theorem PD.at_zero {d : PD} {i : Int} (h : d.at_ i = 0) : d.down = false ∧ 0 ≤ i ∧ i < (d.L.length : Int) := by
  unfold PD.at_ at h
  cases hd : d.down with
  | true => rw [hd] at h; simp at h
  | false =>
    rw [hd] at h
    by_cases hi : i < 0 ∨ (d.L.length : Int) ≤ i
    · rw [if_neg (by simp), if_pos hi] at h; cases h
    · exact ⟨rfl, by omega, by omega⟩
theorem PD.Ok.write {d : PD} (h : d.Ok) (i : Int) (b : List UInt8) : (d.write i b).1.Ok := by
  unfold PD.write
  split
  · exact h
  · rename_i ha
    have ha' : d.at_ i = 0 := Decidable.byContradiction ha
    obtain ⟨_, h0, h1⟩ := PD.at_zero ha'
    split
    · exact h
    · rename_i hb
      obtain ⟨e1, e2⟩ := d.count_L
      split
      · exact h.of e1 e2
      · refine ⟨by rw [show ({ d.count.1 with W := d.W ++ [(i.toNat, b)] } : PD).L = d.count.1.L from rfl, e1]; exact h.sure, fun w hw => ?_⟩
        have hw' : w ∈ d.W ++ [(i.toNat, b)] := hw
        show w.1 < d.count.1.L.length ∧ _
        rw [e1]
        rcases List.mem_append.1 hw' with hw' | hw'
        · exact h.waits w hw'
        · simp at hw'
          subst hw'
          exact ⟨by simp only; omega, Decidable.byContradiction hb⟩
theorem PD.Ok.sync {d : PD} (h : d.Ok) : d.sync.1.Ok := by
  unfold PD.sync
  split
  · exact h
  · obtain ⟨e1, e2⟩ := d.count_L
    split
    · exact h.of e1 e2
    · exact ⟨layAll_ok h.sure (fun w hw => (h.waits w hw).2), fun w hw => by cases hw⟩
theorem PD.Ok.stop {d : PD} (h : d.Ok) (a : Int) : (d.stop a).Ok := h.of rfl rfl
theorem PD.Ok.crash {d : PD} (h : d.Ok) (pick : List UInt8) : (d.crash pick).Ok := ⟨crashL_ok _ _ _ h.sure h.waits, fun w hw => by cases hw⟩
theorem PD.Ok.read {d : PD} (h : d.Ok) {i : Int} (hi : d.at_ i = 0) : (d.read i).1.length = 64 := by
  obtain ⟨_, h0, h1⟩ := PD.at_zero hi
  unfold PD.read
  rw [if_neg (by simp [hi])]
  cases hW : lastW i.toNat d.W with
  | some b => exact (h.waits _ (lastW_mem hW)).2
  | none =>
    have hlt : i.toNat < d.L.length := by omega
    simp only [Option.getD_none, List.getD_eq_getElem?_getD, List.getElem?_eq_getElem hlt, Option.getD_some]
    exact h.sure _ (List.getElem_mem _)
end Go.Proofs.Ytdllgmhipenidaa
