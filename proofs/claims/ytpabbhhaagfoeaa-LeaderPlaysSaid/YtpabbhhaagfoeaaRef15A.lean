/- Texts laid as one: Ref15a, Ref15b, Ref15c, Ref15d. -/
import Derived.Test.YtpabbhhaagfoeaaLdr0
import Derived.Test.YtpabbhhaagfoeaaRef13M
import Derived.Orders
import Derived.BigRegion

section
/- The reference of layer 15: a leader by value; Begin, Stop, in, find. -/
namespace Go.Proofs.Ytpabbhhaagfoeaa
set_option maxRecDepth 100000
open Go.RowKit
set_option linter.unusedVariables false
set_option linter.unusedSimpArgs false

/-- Where a leader's slices lie. -/
structure LdA where
  pA : Option Addr := none
  pn : Nat := 0
  pc : Nat := 0
  kA : Option Addr := none
  kn : Nat := 0
  kc : Nat := 0
  oA : Option Addr := none
  on : Nat := 0
  oc : Nat := 0
/-- A leader by value. -/
@[reducible] def ldC (l : PLd) (p : LdA) : Array Value := #[.int .i64 (l.many : Int), .int .i64 (l.stage : Int), .int .u64 (l.bal : Int), .int .u64 (l.first : Int), .int .u64 (l.next : Int), .slice p.pA p.pn p.pc, .slice p.kA p.kn p.kc, .slice p.oA p.on p.oc]
def intsL (l : List Nat) : List Value := l.map fun (k : Nat) => Value.int .i64 (k : Int)
theorem intsL_length (l : List Nat) : (intsL l).length = l.length := by simp [intsL]
theorem intsL_snoc (l : List Nat) (k : Nat) : intsL (l ++ [k]) = intsL l ++ [.int .i64 (k : Int)] := by simp [intsL]
/-- A slice that reads as nodes. -/
structure RNs (w : World) (A : Option Addr) (c n : Nat) (l : List Nat) : Prop where
  len : l.length = n
  sl : Sl w A c (intsL l)
  ty : ∀ a, A = some a → ∃ cs, Blk w a.block 3 cs
/-- A proposal where its voters lie. -/
structure ROp where
  o : POp
  A : Option Addr
  c : Nat
def ROp.cells (x : ROp) : List Value := [.int .u64 (x.o.v.slot : Int), .int .u64 (x.o.v.bal : Int), .string (strOf x.o.v.val), .slice x.A x.o.who.length x.c]
def opCs (l : List ROp) : List Value := l.flatMap ROp.cells
theorem opCs_append (l m : List ROp) : opCs (l ++ m) = opCs l ++ opCs m := by simp [opCs]
theorem opCs_length : ∀ (l : List ROp), (opCs l).length = l.length * 4
  | [] => rfl
  | x :: l => by
    have := opCs_length l
    simp only [opCs, List.flatMap_cons, List.length_append, List.length_cons] at this ⊢
    rw [this]
    simp [ROp.cells]; omega
theorem opCs_at : ∀ (l : List ROp) (j : Nat) (h : j < l.length), (opCs l)[j * 4]? = some (.int .u64 (l[j].o.v.slot : Int)) ∧ (opCs l)[j * 4 + 1]? = some (.int .u64 (l[j].o.v.bal : Int)) ∧ (opCs l)[j * 4 + 2]? = some (.string (strOf l[j].o.v.val)) ∧ (opCs l)[j * 4 + 3]? = some (.slice l[j].A l[j].o.who.length l[j].c)
  | x :: l, 0, h => by simp [opCs, ROp.cells]
  | x :: l, j + 1, h => by
    have := opCs_at l j (by simpa using h)
    rw [show (j + 1) * 4 = j * 4 + 4 by omega]
    simp only [opCs, List.flatMap_cons, ROp.cells, List.getElem_cons_succ] at this ⊢
    exact ⟨by simpa using this.1, by simpa using this.2.1, by simpa using this.2.2.1, by simpa using this.2.2.2⟩
/-- A slice that reads as proposals. -/
structure ROs (w : World) (A : Option Addr) (c n : Nat) (L : List ROp) (l : List POp) : Prop where
  len : L.length = n
  val : L.map ROp.o = l
  sl : SlS 4 w A c n (opCs L)
  ty : ∀ a, A = some a → ∃ cs, Blk w a.block 99 cs
  who : ∀ x ∈ L, RNs w x.A x.c x.o.who.length x.o.who
/-- A leader's slices in memory. -/
structure RL (w : World) (l : PLd) (p : LdA) (L : List ROp) : Prop where
  prom : RNs w p.pA p.pc p.pn l.prom
  known : RVs w p.kA p.kc p.kn l.known
  opn : ROs w p.oA p.oc p.on L l.opn
section
variable {S : Nat → Prop} {w w' : World} {A : Option Addr} {c n : Nat}
theorem RNs.mods {l : List Nat} (h : RNs w A c n l) (hm : Mods S w w') (hA : ∀ a, A = some a → ¬ S a.block) : RNs w' A c n l :=
  ⟨h.len, h.sl.mods hm hA, fun a ha => by obtain ⟨cs, hb⟩ := h.ty a ha; exact ⟨cs, hb.mods hm (hA a ha)⟩⟩
theorem RNs.nil {l : List Nat} (h : RNs w A c n l) (hm : Mods Nil w w') : RNs w' A c n l := h.mods hm (fun _ _ h => h)
theorem RNs.none_ (w : World) : RNs w none 0 0 [] := ⟨rfl, Sl.none_ _, fun a h => by cases h⟩
theorem ROs.mods {L : List ROp} {l : List POp} (h : ROs w A c n L l) (hm : Mods S w w') (hA : ∀ a, A = some a → ¬ S a.block) (hW : ∀ x ∈ L, ∀ a, x.A = some a → ¬ S a.block) : ROs w' A c n L l :=
  ⟨h.len, h.val, h.sl.mods hm hA, fun a ha => (by obtain ⟨cs, hb⟩ := h.ty a ha; exact ⟨cs, hb.mods hm (hA a ha)⟩), fun x hx => (h.who x hx).mods hm (hW x hx)⟩
theorem ROs.nil {L : List ROp} {l : List POp} (h : ROs w A c n L l) (hm : Mods Nil w w') : ROs w' A c n L l := h.mods hm (fun _ _ h => h) (fun _ _ _ _ h => h)
theorem ROs.none_ (w : World) : ROs w none 0 0 [] [] := ⟨rfl, rfl, SlS.none_ _ _, fun a h => (by cases h), fun x h => (by cases h)⟩
theorem RL.nil {l : PLd} {p : LdA} {L : List ROp} (h : RL w l p L) (hm : Mods Nil w w') : RL w' l p L := ⟨h.prom.nil hm, h.known.nil hm, h.opn.nil hm⟩
end
/-- The blocks that a leader by value reads. -/
def LdA.in_ (p : LdA) (L : List ROp) (X : Nat → Prop) : Prop := (∀ a, p.pA = some a → X a.block) ∧ (∀ a, p.kA = some a → X a.block) ∧ (∀ a, p.oA = some a → X a.block) ∧ ∀ x ∈ L, ∀ a, x.A = some a → X a.block
theorem RL.mods {S : Nat → Prop} {w w' : World} {l : PLd} {p : LdA} {L : List ROp} (h : RL w l p L) (hm : Mods S w w') (hS : p.in_ L (fun k => ¬ S k)) : RL w' l p L :=
  ⟨h.prom.mods hm hS.1, h.known.mods hm hS.2.1, h.opn.mods hm hS.2.2.1 hS.2.2.2⟩
theorem Blk.eight {w : World} {g : Nat} {t : TypeId} {a0 a1 a2 a3 a4 a5 a6 a7 : Value} (h : Blk w g t #[a0, a1, a2, a3, a4, a5, a6, a7]) : w.cell? ⟨g, 0, none⟩ = some a0 ∧ w.cell? ⟨g, 1, none⟩ = some a1 ∧ w.cell? ⟨g, 2, none⟩ = some a2 ∧ w.cell? ⟨g, 3, none⟩ = some a3 ∧ w.cell? ⟨g, 4, none⟩ = some a4 ∧ w.cell? ⟨g, 5, none⟩ = some a5 ∧ w.cell? ⟨g, 6, none⟩ = some a6 ∧ w.cell? ⟨g, 7, none⟩ = some a7 := ⟨h.cell 0, h.cell 1, h.cell 2, h.cell 3, h.cell 4, h.cell 5, h.cell 6, h.cell 7⟩
/-- What Begin tells: the leader, its slices where they lay, or none. -/
def RBeg (w : World) (l : PLd) (p : LdA) (x f : Nat) (e : Ending) (w' : World) : Prop :=
  e = .returned (.tuple #[.agg (ldC (l.begin_ x f) (if x ≤ l.bal then p else {})), .int .i64 (l.beginE x : Int)]) ∧ Mods Nil w w'
set_option maxHeartbeats 3200000 in
theorem r15begin_any (w : World) (l : PLd) (p : LdA) (x f : Nat) :
    Calls Try.prog 12 #[.agg (ldC l p), .int .u64 (x : Int), .int .u64 (f : Int)] w (RBeg w l p x f) := by
  by_cases hb : x ≤ l.bal
  · have hbI : (x : Int) ≤ (l.bal : Int) := by omega
    have HE : Hid (l.begin_ x f = l ∧ l.beginE x = 32 ∧ (if x ≤ l.bal then p else {}) = p) := Lib.hid ⟨if_pos hb, if_pos hb, if_pos hb⟩
    clear hb
    go_enter Try.func12, Try.ntmps12
    go_wp2
    have e2 := Blk.new (w.alloc (.cells (ldC l p) 33)) 33 (ldC l p)
    simp only [World.size_alloc] at e2
    obtain ⟨y0, y1, y2, y3, y4, y5, y6, y7⟩ := e2.eight
    refine bodyPost_ret (v := .tuple #[.agg (ldC l p), .int .i64 32]) (by simp [results, Try.results12, go_sem, y0, y1, y2, y3, y4, y5, y6, y7]) rfl ?_
    unfold RBeg
    rw [HE.out.1, HE.out.2.1, HE.out.2.2]
    exact ⟨rfl, ((Mods.refl Nil w).alloc _).alloc _⟩
  · have hbI : ¬ (x : Int) ≤ (l.bal : Int) := by omega
    have HE : Hid (l.begin_ x f = { many := l.many, stage := 1, bal := x, first := f } ∧ l.beginE x = 0 ∧ (if x ≤ l.bal then p else {}) = {}) := Lib.hid ⟨if_neg hb, if_neg hb, if_neg hb⟩
    clear hb
    go_enter Try.func12, Try.ntmps12
    go_wp2
    have e2 := Blk.new (w.alloc (.cells (ldC l p) 33)) 33 (ldC { many := l.many, stage := 1, bal := x, first := f } {})
    simp only [World.size_alloc] at e2
    obtain ⟨y0, y1, y2, y3, y4, y5, y6, y7⟩ := e2.eight
    refine bodyPost_ret (v := .tuple #[.agg (ldC { many := l.many, stage := 1, bal := x, first := f } {}), .int .i64 0]) (by simp [results, Try.results12, go_sem, y0, y1, y2, y3, y4, y5, y6, y7]) rfl ?_
    unfold RBeg
    rw [HE.out.1, HE.out.2.1, HE.out.2.2]
    exact ⟨rfl, ((Mods.refl Nil w).alloc _).alloc _⟩
def RStop (w : World) (l : PLd) (p : LdA) (e : Ending) (w' : World) : Prop := e = .returned (.agg (ldC l.stop { p with oA := none, on := 0, oc := 0 })) ∧ Mods Nil w w'
set_option maxHeartbeats 3200000 in
theorem r15stop_any (w : World) (l : PLd) (p : LdA) : Calls Try.prog 23 #[.agg (ldC l p)] w (RStop w l p) := by
  go_enter Try.func23, Try.ntmps23
  go_wp2
  have e2 := Blk.new (w.alloc (.cells (ldC l.stop { p with oA := none, on := 0, oc := 0 }) 33)) 33 (ldC l.stop { p with oA := none, on := 0, oc := 0 })
  simp only [World.size_alloc] at e2
  obtain ⟨y0, y1, y2, y3, y4, y5, y6, y7⟩ := e2.eight
  refine bodyPost_ret (v := .agg (ldC l.stop { p with oA := none, on := 0, oc := 0 })) ?_ rfl ⟨rfl, ((Mods.refl Nil w).alloc _).alloc _⟩
  first
  | exact results_rowA rfl _ _ rfl e2 Try.underlying33 rfl rfl
  | (simp [results, Try.results23, go_sem, y0, y1, y2, y3, y4, y5, y6, y7, PLd.stop])
theorem find_idx {l : List PVt} {s i : Nat} (h : ∀ j, j < i → ∀ x, l[j]? = some x → x.slot ≠ s) (hl : l.length ≤ i) : idxV l s = none := idxV_none.2 (fun x hx e => by
  obtain ⟨j, hj⟩ := List.mem_iff_getElem?.1 hx
  have hlt := (List.getElem?_eq_some_iff.1 hj).1
  exact h j (by omega) x hj e)
/-- What find tells. -/
def idxI (l : List PVt) (s : Nat) : Int := match idxV l s with | some i => (i : Int) | none => -1
set_option maxHeartbeats 3200000 in
theorem r15find_any (w : World) {A : Option Addr} {c n : Nat} {l : List PVt} (h : RVs w A c n l) (hn : n ≤ 1000000) (s : Nat) :
    Calls Try.prog 44 #[.slice A n c, .int .u64 (s : Int)] w fun e w' => e = .returned (.int .i64 (idxI l s)) ∧ Mods Nil w w' := by
  have H := Lib.hid h
  have HN := Lib.hid h.len
  clear h
  go_enter Try.func44, Try.ntmps44
  go_wp2
  go_loopw [5] (fun x wr => ∃ i : Nat, i ≤ n ∧ x = .int .i64 (i : Int) ∧ Hid (∀ j, j < i → ∀ x, l[j]? = some x → x.slot ≠ s) ∧ wr = w) (fun x _ => n - (intOf x).toNat)
  case atStart => exact ⟨0, Nat.zero_le _, rfl, Lib.hid (fun j hj => by omega), rfl⟩
  case round =>
    obtain ⟨i, hi, rfl, HF, rfl⟩ := hrel
    by_cases hlt : i < n
    · have hltI : (i : Int) < (n : Int) := by omega
      have hiL : i < l.length := by rw [HN.out]; exact hlt
      obtain ⟨b1, o1, rfl, hb1, c0, c1, c2⟩ := H.out.at_ hlt
      obtain ⟨y, hy⟩ : ∃ y, l[i] = y := ⟨_, rfl⟩
      have hyl : l[i]? = some y := by rw [List.getElem?_eq_getElem hiL, hy]
      rw [hy] at c0
      have HYL := Lib.hid hyl
      clear c1 c2 hy hyl hiL
      by_cases he : y.slot = s
      · have heI : ((y.slot : Int) == (s : Int)) = true := by simp; omega
        have HE := Lib.hid he
        clear he
        go_wp2
        go_ret
        refine ⟨?_, Mods.refl _ _⟩
        have h1 := idxV_at HYL.out HE.out HF.out
        unfold idxI
        rw [h1]
        rfl
      · have heI : ((y.slot : Int) == (s : Int)) = false := by simp; omega
        have HE := Lib.hid he
        clear he
        go_wp2
        refine ⟨⟨i + 1, by omega, by go_num, Lib.hid (fun j hj x hx => ?_), trivial⟩, by simp [intOf]; omega⟩
        rcases Nat.lt_or_ge j i with h1 | h1
        · exact HF.out j h1 x hx
        · obtain rfl : j = i := by omega
          rw [HYL.out] at hx
          injection hx with hx
          rw [← hx]
          exact HE.out
    · obtain rfl : n = i := by omega
      go_wp2
      go_ret
      refine ⟨?_, Mods.refl _ _⟩
      have h1 := find_idx HF.out (by rw [HN.out]; exact Nat.le_refl _)
      unfold idxI
      rw [h1]
      rfl
set_option maxHeartbeats 3200000 in
theorem r15in_any (w : World) {A : Option Addr} {c n : Nat} {l : List Nat} (h : RNs w A c n l) (hn : n ≤ 1000000) (x : Int) :
    Calls Try.prog 43 #[.slice A n c, .int .i64 x] w fun e w' => e = .returned (.bool (decide (0 ≤ x ∧ x.toNat ∈ l))) ∧ Mods Nil w w' := by
  have H := Lib.hid h
  have HN := Lib.hid h.len
  clear h
  go_enter Try.func43, Try.ntmps43
  go_wp2
  go_loopw [5] (fun y wr => ∃ i : Nat, i ≤ n ∧ y = .int .i64 (i : Int) ∧ Hid (∀ j, j < i → ∀ k, l[j]? = some k → (k : Int) ≠ x) ∧ wr = w) (fun y _ => n - (intOf y).toNat)
  case atStart => exact ⟨0, Nat.zero_le _, rfl, Lib.hid (fun j hj => by omega), rfl⟩
  case round =>
    obtain ⟨i, hi, rfl, HF, rfl⟩ := hrel
    by_cases hlt : i < n
    · have hltI : (i : Int) < (n : Int) := by omega
      have hiL : i < l.length := by rw [HN.out]; exact hlt
      obtain ⟨b1, o1, rfl, hb1, hc⟩ := H.out.sl.at_ (by rw [intsL_length]; omega)
      obtain ⟨y, hy⟩ : ∃ y, l[i] = y := ⟨_, rfl⟩
      have hyl : l[i]? = some y := by rw [List.getElem?_eq_getElem hiL, hy]
      have c0 := hc i (.int .i64 (y : Int)) (by unfold intsL; rw [List.getElem?_map, hyl]; rfl)
      have HYL := Lib.hid hyl
      clear hy hyl hiL hc
      by_cases he : (y : Int) = x
      · have heI : ((y : Int) == x) = true := by simp [he]
        have HE := Lib.hid he
        clear he
        go_wp2
        go_ret
        refine ⟨?_, Mods.refl _ _⟩
        have h1 : 0 ≤ x ∧ x.toNat ∈ l := by
          have := HE.out
          refine ⟨by omega, ?_⟩
          rw [show x.toNat = y by omega]
          exact List.mem_of_getElem? HYL.out
        rw [decide_eq_true h1]
        rfl
      · have heI : ((y : Int) == x) = false := by simp [he]
        have HE := Lib.hid he
        clear he
        go_wp2
        refine ⟨⟨i + 1, by omega, by go_num, Lib.hid (fun j hj k hk => ?_), trivial⟩, by simp [intOf]; omega⟩
        rcases Nat.lt_or_ge j i with h1 | h1
        · exact HF.out j h1 k hk
        · obtain rfl : j = i := by omega
          rw [HYL.out] at hk
          injection hk with hk
          rw [← hk]
          exact HE.out
    · obtain rfl : n = i := by omega
      go_wp2
      go_ret
      refine ⟨?_, Mods.refl _ _⟩
      have h1 : ¬ (0 ≤ x ∧ x.toNat ∈ l) := fun ⟨g1, g2⟩ => by
        obtain ⟨j, hj⟩ := List.mem_iff_getElem?.1 g2
        have hlt := (List.getElem?_eq_some_iff.1 hj).1
        exact HF.out j (by rw [HN.out] at hlt; exact hlt) _ hj (by omega)
      rw [decide_eq_false h1]
      rfl
end Go.Proofs.Ytpabbhhaagfoeaa
end

section
/- The reference of layer 15: Opens, Propose. -/
namespace Go.Proofs.Ytpabbhhaagfoeaa
set_option maxRecDepth 100000
open Go.RowKit
set_option linter.unusedVariables false
set_option linter.unusedSimpArgs false
section
variable {w : World} {A : Option Addr} {c n : Nat} {L : List ROp} {l : List POp}
theorem ROs.lenL (h : ROs w A c n L l) : l.length = n := by rw [← h.val, List.length_map]; exact h.len
theorem ROs.at_ (h : ROs w A c n L l) {j : Nat} {x : ROp} (hx : L[j]? = some x) : ∃ b off, A = some ⟨b, off, none⟩ ∧ b < w.heap.size ∧ w.cell? ⟨b, off + j * 4, none⟩ = some (.int .u64 (x.o.v.slot : Int)) ∧ w.cell? ⟨b, off + j * 4 + 1, none⟩ = some (.int .u64 (x.o.v.bal : Int)) ∧ w.cell? ⟨b, off + j * 4 + 2, none⟩ = some (.string (strOf x.o.v.val)) ∧ w.cell? ⟨b, off + j * 4 + 3, none⟩ = some (.slice x.A x.o.who.length x.c) := by
  obtain ⟨hj, e⟩ := List.getElem?_eq_some_iff.1 hx
  obtain ⟨b, off, hA, hb, hc⟩ := h.sl.at_ (by rw [← h.len]; omega) (by omega)
  obtain ⟨h0, h1, h2, h3⟩ := opCs_at L j hj
  rw [e] at h0 h1 h2 h3
  exact ⟨b, off, hA, hb, hc _ _ h0, by rw [Nat.add_assoc]; exact hc _ _ h1, by rw [Nat.add_assoc]; exact hc _ _ h2, by rw [Nat.add_assoc]; exact hc _ _ h3⟩
end
/-- What Opens tells. -/
def ROpT (w : World) (l : List POp) (e : Ending) (w' : World) : Prop := ∃ A c, e = .returned (.slice A l.length c) ∧ RVs w' A c l.length (l.map POp.v) ∧ (∀ a, A = some a → w.heap.size ≤ a.block) ∧ Mods Nil w w'
set_option maxHeartbeats 3200000 in
theorem r15opens_any (w : World) (l : PLd) (p : LdA) {L : List ROp} (h : ROs w p.oA p.oc p.on L l.opn) (hn : p.on ≤ 1000000) :
    Calls Try.prog 27 #[.agg (ldC l p)] w (ROpT w l.opn) := by
  have H := Lib.hid h
  have HLN := Lib.hid h.lenL
  clear h
  obtain ⟨w1, hw1⟩ : ∃ w1, w.alloc (.cells (ldC l p) 33) = w1 := ⟨_, rfl⟩
  have m1 : Mods Nil w w1 := by rw [← hw1]; exact (Mods.refl _ _).alloc _
  have b1 : Blk w1 w.heap.size 33 (ldC l p) := by rw [← hw1]; exact Blk.new w _ _
  have M1 := Lib.hid m1
  have B1 := Lib.hid b1
  have HSZ : Hid (w1.heap.size = w.heap.size + 1) := Lib.hid (by rw [← hw1]; simp)
  clear m1 b1
  obtain ⟨N, hN⟩ : ∃ N, p.on = N := ⟨_, rfl⟩
  have HN := Lib.hid hN
  go_enter Try.func27, Try.ntmps27
  go_wp2
  go_loopw [3, 4] (fun v x wr => ∃ i : Nat, i ≤ N ∧ x = .int .i64 (i : Int) ∧ Hid (wr.ownsRow (w.heap.size + 1) 53 3 v i (vtCs ((l.opn.take i).map POp.v))) ∧ Hid (Mods Nil w1 wr)) (fun _ x _ => N - (intOf x).toNat)
  case atStart => exact ⟨0, Nat.zero_le _, rfl, Lib.hid (by simpa [vtCs] using World.ownsRow_nil _ _ _ _), Lib.hid (Mods.refl _ _)⟩
  case round =>
    obtain ⟨i, hi, rfl, HO, HM⟩ := hrel
    have y7 := (B1.out.mods HM.out (fun h => h)).cell 7
    simp at y7
    rw [hN] at y7
    by_cases hlt : i < N
    · have hltI : (i : Int) < (N : Int) := by omega
      have hiL : i < L.length := by rw [H.out.len, HN.out]; exact hlt
      obtain ⟨x, hx⟩ : ∃ x, L[i]? = some x := ⟨_, List.getElem?_eq_getElem hiL⟩
      have hxo : l.opn[i]? = some x.o := by rw [← H.out.val, List.getElem?_map, hx]; rfl
      have hsn : (l.opn.take (i + 1)).map POp.v = (l.opn.take i).map POp.v ++ [x.o.v] := by
        rw [List.take_add_one, hxo]
        simp
      obtain ⟨b2, o2, hA, hb2, c0, c1, c2, c3⟩ := (H.out.nil (M1.out.trans HM.out)).at_ hx
      rw [hA] at y7
      obtain ⟨⟨⟨s, bl, vv⟩, wh⟩, Ax, cx⟩ := x
      simp only at c0 c1 c2 hsn
      have HSN := Lib.hid hsn
      clear hsn hx hxo c3 hiL hA
      go_wp2_with (at_builtin; refine push_vt rfl _ _ rfl ⟨s, bl, vv⟩ rfl HO.out rfl (by omega) (by have := HM.out.size; have := HSZ.out; omega) ?_; intro v' w4 o4 m4; have O4 := Lib.hid o4; have M4 := Lib.hid (own_nilm HO.out (by have := HSZ.out; omega) HM.out m4); clear o4 m4)
      exact ⟨⟨i + 1, by omega, by go_num, by rw [HSN.out]; exact O4, M4⟩, by simp [intOf]; omega⟩
    · obtain rfl : i = N := by omega
      have hl : l.opn.length = i := by rw [HLN.out, HN.out]
      have ho := HO.out
      rw [List.take_of_length_le (by rw [hl]; exact Nat.le_refl _)] at ho
      obtain ⟨A2, c2, rfl, r2, hb2⟩ := rvs_own ho (by rw [List.length_map]; exact hl)
      have R2 := Lib.hid r2
      have HB2 := Lib.hid hb2
      have HL2 := Lib.hid hl
      clear r2 hb2 ho hl
      go_wp2
      go_ret
      refine ⟨A2, c2, by rw [HL2.out]; rfl, by rw [HL2.out]; exact R2.out, fun a ha => by have := HB2.out a ha; omega, M1.out.trans HM.out⟩
end Go.Proofs.Ytpabbhhaagfoeaa
end

section
/- The reference of layer 15: Propose. -/
namespace Go.Proofs.Ytpabbhhaagfoeaa
set_option maxRecDepth 100000
open Go.RowKit
set_option linter.unusedVariables false
set_option linter.unusedSimpArgs false
/-- A slice of structs, copied onto nil. -/
theorem run_append_sls {P : Program} (w : World) (base : Nat) (t ty e : TypeId) (i : TypeInfo) (z : Value) (size bytes : Nat) (ht : P.underlying t = some (.slice e)) (hi : P.info? e = some i) (hz : i.zero = some z)
    (hsize : i.size = size) (hby : i.bytes = bytes) (hzs : z.cells.size = size) (hpos : 0 < size) {A : Option Addr} {m c : Nat} {news : List Value} (hsl : SlS size w A c m news) (h1 : ∀ u ∈ news, u.oneCell' = true)
    (hbytes : m * bytes ≤ 140737488355328) (hbase : base ≤ w.heap.size) :
    ∃ v' w', (Builtin.append_ #[t, t] ty #[.slice none 0 0, .slice A m c]).run P w = .ok v' w' ∧ w'.ownsRow base e size v' m news ∧ w.grownBy w' none := by
  by_cases hm : m = 0
  · subst hm
    obtain rfl : news = [] := List.eq_nil_of_length_eq_zero (by rw [hsl.len]; simp)
    refine ⟨.slice none 0 0, w, ?_, World.ownsRow_nil _ _ _ _, ?_⟩
    · cases A <;> simp [Builtin.append_, run_underlying ht, sizeOf, typeInfo, hi, Builtin.lenOf, Builtin.firstCells, loadCells, loadCellsFrom, storeCells]
    · exact World.grownBy.refl _ _
  · obtain ⟨b, off, rfl, hb, hc⟩ := hsl.at_ (by omega) hpos
    obtain ⟨v', w', hr, ho, hg, _⟩ := run_append_own (P := P) w base t ty e i z size bytes ht hi hz hsize hby hzs hpos (.slice none 0 0) 0 [] (World.ownsRow_nil w _ e size) ⟨b, off, none⟩ m c news hsl.len (fun j u hu => by rw [Addr.add_lit]; exact hc j u hu) h1 (by have := hsl.le; have := hsl.max; omega) (by simpa using hbytes) hbase
    simp only [Nat.zero_add, List.nil_append] at ho
    exact ⟨v', w', hr, ho, hg⟩
theorem wpList_append_sls {P : Program} (w : World) {ops : Array Oper} {rest : List Oper} {o : Oper} {a : Act} {Q : Exit → Act → World → Prop}
    (hg : o.guard = none) (s x : Operand) (t : TypeId) (hop : o.op = Op.call { callee := Callee.builtin Builtin.append, args := #[s, x], argTypes := #[t, t] }) (base : Nat)
    (e : TypeId) (i : TypeInfo) (z : Value) (size bytes : Nat) (ht : P.underlying t = some (.slice e)) (hi : P.info? e = some i) (hz : i.zero = some z)
    (hsize : i.size = size) (hby : i.bytes = bytes) (hzs : z.cells.size = size) (hpos : 0 < size) (hs : a.eval s = .slice none 0 0)
    {A : Option Addr} {m c : Nat} {news : List Value} (hx : a.eval x = .slice A m c) (hsl : SlS size w A c m news) (h1 : ∀ u ∈ news, u.oneCell' = true)
    (hbytes : m * bytes ≤ 140737488355328) (hbase : base ≤ w.heap.size)
    (hK : ∀ v' w', w'.ownsRow base e size v' m news → Mods Nil w w' → wpList P ops Q rest (a.put o.dst v') w') :
    wpList P ops Q (o :: rest) a w := by
  refine wpList_plain hg fun K hK' => ?_
  obtain ⟨v', w', hrun, h2, h3⟩ := run_append_sls (P := P) w base t o.type e i z size bytes ht hi hz hsize hby hzs hpos hsl h1 hbytes hbase
  unfold Oper.wp
  simp [execOp, hop, resolve, invoke, builtin, hs, hx, hrun, Result.andThen]
  exact hK' _ _ (hK v' w' h2 ((Mods.refl Nil w).grown h3 (fun k hk => by cases hk)))
theorem infoO : (Try.prog.info? 99).map (fun i => (i.zero, i.size, i.bytes)) = some (some (.agg #[.int .u64 0, .int .u64 0, .string ⟨#[]⟩, .slice none 0 0]), 4, 56) := by kernel_rfl
theorem opC_one (x : ROp) : ∀ u ∈ x.cells, u.oneCell' = true := by
  intro u hu
  simp [ROp.cells] at hu
  rcases hu with rfl | rfl | rfl | rfl <;> rfl
theorem opCs_one (l : List ROp) : ∀ u ∈ opCs l, u.oneCell' = true := by
  intro u hu
  obtain ⟨x, _, hx⟩ := List.mem_flatMap.1 hu
  exact opC_one x u hx
theorem op_new {w : World} {t : TypeId} (x : ROp) {g : Nat} (hg : g = w.heap.size) : ∀ j u, x.cells[j]? = some u → (w.alloc (.cells #[.int .u64 (x.o.v.slot : Int), .int .u64 (x.o.v.bal : Int), .string (strOf x.o.v.val), .slice x.A x.o.who.length x.c] t)).cell? ((⟨g, 0, none⟩ : Addr).add j) = some u := by
  subst hg
  intro j u hu
  rw [Addr.add_lit, Nat.zero_add, (Blk.new w t #[.int .u64 (x.o.v.slot : Int), .int .u64 (x.o.v.bal : Int), .string (strOf x.o.v.val), .slice x.A x.o.who.length x.c]).cell]
  simpa [ROp.cells] using hu
/-- A proposal more, behind a row of the call's own. -/
theorem push_op {ops : Array Oper} {rest : List Oper} {o : Oper} {a : Act} {Q : Exit → Act → World → Prop} (hgd : o.guard = none) (s x : Operand)
    (ho : o.op = .call { callee := .builtin .append, args := #[s, x], argTypes := #[31, 31] })
    {W : World} {base m : Nat} {v : Value} {l : List ROp} (y : ROp) {k : Nat} (hk : y.o.who.length = k) (hs : a.eval s = v) (hown : W.ownsRow base 99 4 v m (opCs l)) (hx : a.eval x = .slice (some ⟨W.heap.size, 0, none⟩) 1 1)
    (hlim : m ≤ 1000000) (hbase : base ≤ W.heap.size)
    (h : ∀ v' w', w'.ownsRow base 99 4 v' (m + 1) (opCs (l ++ [y])) → Mods (fun k => v.ownBlock = some k) W w' → wpList Try.prog ops Q rest (a.put o.dst v') w') :
    wpList Try.prog ops Q (o :: rest) a (W.alloc (.cells #[.int .u64 (y.o.v.slot : Int), .int .u64 (y.o.v.bal : Int), .string (strOf y.o.v.val), .slice y.A k y.c] 99)) := by
  subst hk
  obtain ⟨i0, hi0, hz0, hz1, hz2⟩ := info_parts infoO
  refine wpList_append_own _ hgd s x 31 ho base 99 i0 (.agg #[.int .u64 0, .int .u64 0, .string ⟨#[]⟩, .slice none 0 0]) 4 56 Try.underlying31 hi0 hz0 hz1 hz2 rfl (by decide) v m (opCs l) hs (own_mods hown ((Mods.refl Nil W).alloc _) (fun _ _ h => h)) ⟨W.heap.size, 0, none⟩ 1 1 y.cells hx rfl (op_new y rfl) (opC_one y) (by unfold maxLen; omega) (by omega) (by simp; omega) ?_
  intro v' w' h1 h2 _
  rw [show opCs l ++ y.cells = opCs (l ++ [y]) by simp [opCs]] at h1
  exact h v' w' h1 (((Mods.refl (fun k => v.ownBlock = some k) W).alloc _).grown h2 (fun k hk _ => hk))
theorem ros_own {w : World} {base n : Nat} {v : Value} {L : List ROp} (h : w.ownsRow base 99 4 v n (opCs L)) (hl : L.length = n) (hw : ∀ x ∈ L, RNs w x.A x.c x.o.who.length x.o.who) : ∃ A c, v = .slice A n c ∧ ROs w A c n L (L.map ROp.o) ∧ ∀ a, A = some a → base ≤ a.block := by
  obtain ⟨A, c, rfl, hs, ho⟩ := own_sls h
  refine ⟨A, c, rfl, ⟨hl, rfl, hs, fun a ha => ?_, hw⟩, fun a ha => (ho a ha).2⟩
  rcases h.2 with ⟨h0, _⟩ | ⟨g, cap, cur, h0, _, hb, _⟩
  · injection h0 with h1
    rw [h1] at ha
    cases ha
  · injection h0 with h1
    rw [h1] at ha
    injection ha with ha
    subst ha
    exact ⟨_, hb⟩
theorem propose_okR {l : PLd} (h1 : l.stage = 2) (h2 : l.next ≠ 18446744073709551615) (v : List UInt8) : l.propose v = { l with next := l.next + 1, opn := l.opn ++ [⟨⟨l.next, l.bal, v⟩, []⟩] } ∧ l.propX v = ⟨l.next, l.bal, v⟩ ∧ l.propE = 0 := by
  have he : l.propE = 0 := by
    unfold PLd.propE
    rw [if_neg (fun h => h h1), if_neg h2]
  unfold PLd.propose PLd.propX
  rw [if_pos he, if_pos he]
  exact ⟨rfl, rfl, he⟩
theorem propose_idleR {l : PLd} (h1 : l.stage ≠ 2) (v : List UInt8) : l.propose v = l ∧ l.propX v = ⟨0, 0, []⟩ ∧ l.propE = 33 := by
  have he : l.propE = 33 := by
    unfold PLd.propE
    rw [if_pos h1]
  unfold PLd.propose PLd.propX
  rw [if_neg (by rw [he]; omega), if_neg (by rw [he]; omega)]
  exact ⟨rfl, rfl, he⟩
theorem propose_wornR {l : PLd} (h1 : l.stage = 2) (h2 : l.next = 18446744073709551615) (v : List UInt8) : l.propose v = l ∧ l.propX v = ⟨0, 0, []⟩ ∧ l.propE = 37 := by
  have he : l.propE = 37 := by
    unfold PLd.propE
    rw [if_neg (fun h => h h1), if_pos h2]
  unfold PLd.propose PLd.propX
  rw [if_neg (by rw [he]; omega), if_neg (by rw [he]; omega)]
  exact ⟨rfl, rfl, he⟩
/-- What Propose tells. -/
def RProp (w : World) (l : PLd) (p : LdA) (L : List ROp) (v : List UInt8) (e : Ending) (w' : World) : Prop :=
  ∃ p' L', e = .returned (.tuple #[.agg (ldC (l.propose v) p'), .agg #[.int .u64 ((l.propX v).slot : Int), .int .u64 ((l.propX v).bal : Int), .string (strOf (l.propX v).val)], .int .i64 (l.propE : Int)]) ∧
    p'.pA = p.pA ∧ p'.pn = p.pn ∧ p'.pc = p.pc ∧ p'.kA = p.kA ∧ p'.kn = p.kn ∧ p'.kc = p.kc ∧ ROs w' p'.oA p'.oc p'.on L' (l.propose v).opn ∧ p'.on ≤ p.on + 1 ∧ (∀ a, p'.oA = some a → p.oA = some a ∨ w.heap.size ≤ a.block) ∧ (∀ x ∈ L', x ∈ L ∨ x.A = none) ∧ Mods Nil w w'
theorem ld_info : (Try.prog.info? 33).map (·.size) = some 8 := by kernel_rfl
theorem v13_info : (Try.prog.info? 53).map (·.size) = some 3 := by kernel_rfl
theorem set_mods15 (w : World) (g i : Nat) (v : Value) : Mods (fun k => k = g) w (w.setCell ⟨g, i, none⟩ v) := Mods.setCell (S := fun k => k = g) (p := ⟨g, i, none⟩) (Mods.refl _ _) (fun _ => rfl) v
theorem Blk.setOther15 {w : World} {g g2 : Nat} {t : TypeId} {cs : Array Value} (h : Blk w g t cs) (hg : g ≠ g2) (i : Nat) (v : Value) : Blk (w.setCell ⟨g2, i, none⟩ v) g t cs :=
  h.mods (S := fun k => k = g2) (Mods.setCell (S := fun k => k = g2) (p := ⟨g2, i, none⟩) (Mods.refl _ _) (fun _ => rfl) v) hg
/-- A leader and a vote are laid into the boxes of what is given. -/
theorem with_ret15 {Q : World → Prop} {W : World} {g h : Nat} {t1 t2 : TypeId} {o1 o2 o3 o4 o5 o6 o7 o8 a1 a2 a3 a4 a5 a6 a7 a8 p1 p2 p3 b1 b2 b3 : Value} (hne : g ≠ h) (h1 : Blk W g t1 #[o1, o2, o3, o4, o5, o6, o7, o8]) (h2 : Blk W h t2 #[p1, p2, p3])
    (hk : ∀ W6, Blk W6 g t1 #[a1, a2, a3, a4, a5, a6, a7, a8] → Blk W6 h t2 #[b1, b2, b3] → Mods (fun k => k = g ∨ k = h) W W6 → Q W6) :
    Q (((((((((((W.setCell ⟨g, 0, none⟩ a1).setCell ⟨g, 1, none⟩ a2).setCell ⟨g, 2, none⟩ a3).setCell ⟨g, 3, none⟩ a4).setCell ⟨g, 4, none⟩ a5).setCell ⟨g, 5, none⟩ a6).setCell ⟨g, 6, none⟩ a7).setCell ⟨g, 7, none⟩ a8).setCell ⟨h, 0, none⟩ b1).setCell ⟨h, 1, none⟩ b2).setCell ⟨h, 2, none⟩ b3) := by
  have f1 := (((((((h1.set_ 0 a1).set_ 1 a2).set_ 2 a3).set_ 3 a4).set_ 4 a5).set_ 5 a6).set_ 6 a7).set_ 7 a8
  simp only [List.setIfInBounds_toArray, List.set_cons_zero, List.set_cons_succ] at f1
  have m1 : Mods (fun k => k = g ∨ k = h) W _ := ((((((((set_mods15 W g 0 a1).setCell (p := ⟨g, 1, none⟩) (fun _ => rfl) a2).setCell (p := ⟨g, 2, none⟩) (fun _ => rfl) a3).setCell (p := ⟨g, 3, none⟩) (fun _ => rfl) a4).setCell (p := ⟨g, 4, none⟩) (fun _ => rfl) a5).setCell (p := ⟨g, 5, none⟩) (fun _ => rfl) a6).setCell (p := ⟨g, 6, none⟩) (fun _ => rfl) a7).setCell (p := ⟨g, 7, none⟩) (fun _ => rfl) a8) |>.mono (fun i _ hi => .inl hi)
  have f2 := (((((((h2.setOther15 hne.symm 0 a1).setOther15 hne.symm 1 a2).setOther15 hne.symm 2 a3).setOther15 hne.symm 3 a4).setOther15 hne.symm 4 a5).setOther15 hne.symm 5 a6).setOther15 hne.symm 6 a7).setOther15 hne.symm 7 a8
  generalize (((((((W.setCell ⟨g, 0, none⟩ a1).setCell ⟨g, 1, none⟩ a2).setCell ⟨g, 2, none⟩ a3).setCell ⟨g, 3, none⟩ a4).setCell ⟨g, 4, none⟩ a5).setCell ⟨g, 5, none⟩ a6).setCell ⟨g, 6, none⟩ a7).setCell ⟨g, 7, none⟩ a8 = W1 at f1 f2 m1 ⊢
  have f3 := ((f2.set_ 0 b1).set_ 1 b2).set_ 2 b3
  simp only [List.setIfInBounds_toArray, List.set_cons_zero, List.set_cons_succ] at f3
  have f4 := ((f1.setOther15 hne 0 b1).setOther15 hne 1 b2).setOther15 hne 2 b3
  have m2 : Mods (fun k => k = g ∨ k = h) W1 _ := (((set_mods15 W1 h 0 b1).setCell (p := ⟨h, 1, none⟩) (fun _ => rfl) b2).setCell (p := ⟨h, 2, none⟩) (fun _ => rfl) b3).mono (fun i _ hi => .inr hi)
  exact hk _ f4 f3 (m1.trans m2)
set_option maxHeartbeats 6400000 in
theorem r15propose_any (w : World) (l : PLd) (p : LdA) {L : List ROp} (h : ROs w p.oA p.oc p.on L l.opn) (hn : p.on ≤ 900000) (hnx : l.next < 18446744073709551616) (v : List UInt8) :
    Calls Try.prog 18 #[.agg (ldC l p), .string (strOf v)] w (RProp w l p L v) := by
  by_cases h1 : l.stage ≠ 2
  · have h1I : ((l.stage : Int) != 2) = true := by simp; omega
    have HE := Lib.hid (propose_idleR h1 v)
    have H := Lib.hid h
    clear h h1
    go_enter Try.func18, Try.ntmps18
    go_wp2
    have e0 := (Blk.new (w.alloc (.cells (ldC l p) 33)) 33 (ldC l p)).alloc (.cells #[.int .u64 0, .int .u64 0, .string ⟨#[]⟩] 53)
    have e1 := Blk.new ((w.alloc (.cells (ldC l p) 33)).alloc (.cells (ldC l p) 33)) 53 #[.int .u64 0, .int .u64 0, .string ⟨#[]⟩]
    simp only [World.size_alloc] at e0 e1
    obtain ⟨y0, y1, y2, y3, y4, y5, y6, y7⟩ := e0.eight
    obtain ⟨z0, z1, z2⟩ := e1.three
    refine bodyPost_ret (v := .tuple #[.agg (ldC l p), .agg #[.int .u64 0, .int .u64 0, .string ⟨#[]⟩], .int .i64 33]) (by simp [results, Try.results18, go_sem, y0, y1, y2, y3, y4, y5, y6, y7, z0, z1, z2]) rfl ?_
    refine ⟨p, L, ?_, rfl, rfl, rfl, rfl, rfl, rfl, ?_, by omega, fun a ha => .inl ha, fun x hx => .inl hx, (((Mods.refl Nil w).alloc _).alloc _).alloc _⟩
    · rw [HE.out.1, HE.out.2.1, HE.out.2.2]
      rfl
    · rw [HE.out.1]
      exact H.out.nil ((((Mods.refl Nil w).alloc _).alloc _).alloc _)
  · replace h1 : l.stage = 2 := by omega
    have h1I : ((l.stage : Int) != 2) = false := by simp; omega
    by_cases h2 : l.next = 18446744073709551615
    · have h2I : ((l.next : Int) == 18446744073709551615) = true := by simp; omega
      have HE := Lib.hid (propose_wornR h1 h2 v)
      have H := Lib.hid h
      clear h h1 h2
      go_enter Try.func18, Try.ntmps18
      go_wp2
      have e0 := (Blk.new (w.alloc (.cells (ldC l p) 33)) 33 (ldC l p)).alloc (.cells #[.int .u64 0, .int .u64 0, .string ⟨#[]⟩] 53)
      have e1 := Blk.new ((w.alloc (.cells (ldC l p) 33)).alloc (.cells (ldC l p) 33)) 53 #[.int .u64 0, .int .u64 0, .string ⟨#[]⟩]
      simp only [World.size_alloc] at e0 e1
      obtain ⟨y0, y1, y2, y3, y4, y5, y6, y7⟩ := e0.eight
      obtain ⟨z0, z1, z2⟩ := e1.three
      refine bodyPost_ret (v := .tuple #[.agg (ldC l p), .agg #[.int .u64 0, .int .u64 0, .string ⟨#[]⟩], .int .i64 37]) (by simp [results, Try.results18, go_sem, y0, y1, y2, y3, y4, y5, y6, y7, z0, z1, z2]) rfl ?_
      refine ⟨p, L, ?_, rfl, rfl, rfl, rfl, rfl, rfl, ?_, by omega, fun a ha => .inl ha, fun x hx => .inl hx, (((Mods.refl Nil w).alloc _).alloc _).alloc _⟩
      · rw [HE.out.1, HE.out.2.1, HE.out.2.2]
        rfl
      · rw [HE.out.1]
        exact H.out.nil ((((Mods.refl Nil w).alloc _).alloc _).alloc _)
    · have h2I : ((l.next : Int) == 18446744073709551615) = false := by simp; omega
      have hw1 : IntKind.u64.wrap ((l.next : Int) + 1) = ((l.next + 1 : Nat) : Int) := by rw [IntKind.wrap_u64]; omega
      have HE := Lib.hid (propose_okR h1 h2 v)
      have H := Lib.hid h
      obtain ⟨nx, hnx2⟩ : ∃ nx, l.next + 1 = nx := ⟨_, rfl⟩
      rw [hnx2] at hw1
      have HNX := Lib.hid hnx2
      obtain ⟨i0, hi0, hz0, hz1, hz2⟩ := info_parts infoO
      have HLN := Lib.hid h.len
      clear h h1 h2 hnx2
      go_enter Try.func18, Try.ntmps18
      have bX2 := (((Blk.new w 33 (ldC l p)).alloc (.cells (ldC { many := 0 } {}) 33)).alloc (.cells #[.int .u64 0, .int .u64 0, .string ⟨#[]⟩] 53)).alloc (.cells #[.int .u64 (l.next : Int), .int .u64 (l.bal : Int), .string (strOf v)] 53)
      have bX4 := ((Blk.new (w.alloc (.cells (ldC l p) 33)) 33 (ldC { many := 0 } {})).alloc (.cells #[.int .u64 0, .int .u64 0, .string ⟨#[]⟩] 53)).alloc (.cells #[.int .u64 (l.next : Int), .int .u64 (l.bal : Int), .string (strOf v)] 53)
      have bX5 := (Blk.new ((w.alloc (.cells (ldC l p) 33)).alloc (.cells (ldC { many := 0 } {}) 33)) 53 #[.int .u64 0, .int .u64 0, .string ⟨#[]⟩]).alloc (.cells #[.int .u64 (l.next : Int), .int .u64 (l.bal : Int), .string (strOf v)] 53)
      have bX7 := Blk.new (((w.alloc (.cells (ldC l p) 33)).alloc (.cells (ldC { many := 0 } {}) 33)).alloc (.cells #[.int .u64 0, .int .u64 0, .string ⟨#[]⟩] 53)) 53 #[.int .u64 (l.next : Int), .int .u64 (l.bal : Int), .string (strOf v)]
      simp only [World.size_alloc] at bX4 bX5 bX7
      have M0 := Lib.hid (((((Mods.refl Nil w).alloc (.cells (ldC l p) 33)).alloc (.cells (ldC { many := 0 } {}) 33)).alloc (.cells #[.int .u64 0, .int .u64 0, .string ⟨#[]⟩] 53)).alloc (.cells #[.int .u64 (l.next : Int), .int .u64 (l.bal : Int), .string (strOf v)] 53))
      have BX2 := Lib.hid bX2
      have BX4 := Lib.hid bX4
      have BX5 := Lib.hid bX5
      have BX7 := Lib.hid bX7
      clear bX2 bX4 bX5 bX7
      go_wp2_with (first
        | (at_builtin; have hx := HO5.out; clear hx; refine push_op rfl _ _ rfl ⟨⟨⟨l.next, l.bal, v⟩, []⟩, none, 0⟩ (k := 0) (W := w5) rfl rfl HO5.out rfl (by omega) (by have := M0.out.size; have := M5.out.size; simp at this; omega) ?_; intro v6 w6 ho6 m6; obtain ⟨A6, c6, rfl⟩ : (∃ A c, v6 = .slice A (p.on + 1) c) := (by obtain ⟨A, c, e, _⟩ := own_sls ho6; exact ⟨A, c, e⟩); have HO6 := Lib.hid ho6; have M6 := Lib.hid m6; have b62 := B52.out.mods m6 (fun e => own_blk_ne HO5.out B52.out (by decide) e); have B62 := Lib.hid b62; have f7 := b62.frozen 7; have c67 := b62.cell 7; simp at c67; have k4 := (b62.set_ 7 (.slice A6 (p.on + 1) c6)).cell 4; have g4 := (b62.set_ 7 (.slice A6 (p.on + 1) c6)).frozen 4; simp at k4; clear ho6 m6 b62)
        | (at_builtin; refine wpList_append_sls _ rfl _ _ 31 rfl w.heap.size 99 i0 (.agg #[.int .u64 0, .int .u64 0, .string ⟨#[]⟩, .slice none 0 0]) 4 56 Try.underlying31 hi0 hz0 hz1 hz2 rfl (by decide) rfl rfl (H.out.nil M0.out).sl (opCs_one L) (by omega) (by simp; omega) ?_; intro v5 w5 ho5 m5; have HO5 := Lib.hid ho5; have M5 := Lib.hid m5; have b57 := BX7.out.mods m5 (fun h => h); have b52 := BX2.out.mods m5 (fun h => h); have B57 := Lib.hid b57; have B52 := Lib.hid b52; obtain ⟨x0, x1, x2⟩ := b57.three; clear ho5 m5 b57 b52))
      have E2 : Blk _ w.heap.size 33 #[.int .i64 (l.many : Int), .int .i64 (l.stage : Int), .int .u64 (l.bal : Int), .int .u64 (l.first : Int), .int .u64 (nx : Int), .slice p.pA p.pn p.pc, .slice p.kA p.kn p.kc, .slice A6 (p.on + 1) c6] := (B62.out.set_ 7 (.slice A6 (p.on + 1) c6)).set_ 4 (.int .u64 (nx : Int))
      have M6b : Mods (fun k => v5.ownBlock = some k) w5 w6 := M6.out
      have k4w := BX4.out.mods M5.out (fun h => h)
      have k5w := BX5.out.mods M5.out (fun h => h)
      have E4 := ((k4w.mods M6b (fun e => own_blk_ne HO5.out k4w (by decide) e)).setOther15 (show w.heap.size + 1 ≠ w.heap.size by omega) 7 (.slice A6 (p.on + 1) c6)).setOther15 (show w.heap.size + 1 ≠ w.heap.size by omega) 4 (.int .u64 (nx : Int))
      have E5 := ((k5w.mods M6b (fun e => own_blk_ne HO5.out k5w (by decide) e)).setOther15 (show w.heap.size + 1 + 1 ≠ w.heap.size by omega) 7 (.slice A6 (p.on + 1) c6)).setOther15 (show w.heap.size + 1 + 1 ≠ w.heap.size by omega) 4 (.int .u64 (nx : Int))
      have E7 := ((B57.out.mods M6b (fun e => own_blk_ne HO5.out B57.out (by decide) e)).setOther15 (show w.heap.size + 1 + 1 + 1 ≠ w.heap.size by omega) 7 (.slice A6 (p.on + 1) c6)).setOther15 (show w.heap.size + 1 + 1 + 1 ≠ w.heap.size by omega) 4 (.int .u64 (nx : Int))
      have M7 : Mods (fun k => k = w.heap.size) w6 _ := (set_mods15 w6 w.heap.size 7 (.slice A6 (p.on + 1) c6)).setCell (p := ⟨w.heap.size, 4, none⟩) (fun _ => rfl) (.int .u64 (nx : Int))
      have hW6 : Mods Nil w w6 := (M0.out.trans M5.out).nil_trans M6b (fun k hk => by have := (HO5.out.lt k hk).1; omega)
      have MN := Lib.hid (hW6.nil_trans M7 (fun k hk => by omega))
      have HO7 := Lib.hid (own_mods HO6.out M7 (fun k hk hS => own_blk_ne HO6.out B62.out (by decide) (hS ▸ hk)))
      generalize (w6.setCell ⟨w.heap.size, 7, none⟩ (.slice A6 (p.on + 1) c6)).setCell ⟨w.heap.size, 4, none⟩ (.int .u64 (nx : Int)) = w7 at E2 E4 E5 E7 MN HO7 ⊢
      clear M7 hW6 M6b k4w k5w x0 x1 x2 f7 c67 k4 g4 B62 B57 B52 HO6 HO5 M6 M5
      obtain ⟨s0, s1, s2, s3, s4, s5, s6, s7⟩ := E2.eight
      obtain ⟨q0, q1, q2, q3, q4, q5, q6, q7⟩ := E4.eight
      have h0 := E4.frozen 0; have h1 := E4.frozen 1; have h2 := E4.frozen 2; have h3 := E4.frozen 3; have h4 := E4.frozen 4; have h5 := E4.frozen 5; have h6 := E4.frozen 6; have h7 := E4.frozen 7
      obtain ⟨r0, r1, r2⟩ := E5.three
      have g0 := E5.frozen 0; have g1 := E5.frozen 1; have g2 := E5.frozen 2
      obtain ⟨x0, x1, x2⟩ := E7.three
      have HE4 := Lib.hid E4
      have HE5 := Lib.hid E5
      have HE2 := Lib.hid E2
      clear E2 E4 E5 E7
      go_region
      go_wp2
      refine with_ret15 (Q := fun W => bodyPost _ _ _ Exit.ret _ W.drew) (by omega) HE4.out HE5.out ?_
      intro w8 F4 F5 FM
      clear s0 s1 s2 s3 s4 s5 s6 s7 q0 q1 q2 q3 q4 q5 q6 q7 h0 h1 h2 h3 h4 h5 h6 h7 r0 r1 r2 g0 g1 g2 x0 x1 x2
      obtain ⟨y0, y1, y2, y3, y4, y5, y6, y7⟩ := F4.eight
      obtain ⟨z0, z1, z2⟩ := F5.three
      have hMT : Mods Nil w w8.drew := (MN.out.nil_trans FM (fun k hk => by rcases hk with h | h <;> omega)).drew
      have ho8 := own_mods HO7.out FM.drew (fun k hk hS => by
        rcases hS with h | h
        · exact own_blk_ne HO7.out HE4.out (by decide) (h ▸ hk)
        · exact own_blk_ne HO7.out HE5.out (by decide) (h ▸ hk))
      obtain ⟨A', c', hv, hR, hA⟩ := ros_own ho8 (by rw [List.length_append, HLN.out]; rfl) (fun x hx => by
        rcases List.mem_append.1 hx with hx | hx
        · exact (H.out.who x hx).nil hMT
        · obtain rfl : x = ⟨⟨⟨l.next, l.bal, v⟩, []⟩, none, 0⟩ := by simpa using hx
          exact RNs.none_ _)
      injection hv with hv1 _ hv2
      subst hv1 hv2
      have HM := Lib.hid hMT
      have HR := Lib.hid hR
      have HA := Lib.hid hA
      clear hMT ho8 hR hA
      refine bodyPost_ret (v := .tuple #[.agg #[.int .i64 (l.many : Int), .int .i64 (l.stage : Int), .int .u64 (l.bal : Int), .int .u64 (l.first : Int), .int .u64 (nx : Int), .slice p.pA p.pn p.pc, .slice p.kA p.kn p.kc, .slice A6 (p.on + 1) c6], .agg #[.int .u64 (l.next : Int), .int .u64 (l.bal : Int), .string (strOf v)], .int .i64 0]) (by simp [results, Try.results18, go_sem, y0, y1, y2, y3, y4, y5, y6, y7, z0, z1, z2]) rfl ?_
      refine ⟨{ p with oA := A6, on := p.on + 1, oc := c6 }, L ++ [⟨⟨⟨l.next, l.bal, v⟩, []⟩, none, 0⟩], ?_, rfl, rfl, rfl, rfl, rfl, rfl, ?_, Nat.le_refl _, fun a ha => .inr (HA.out a ha), ?_, HM.out⟩
      · rw [HE.out.1, HE.out.2.1, HE.out.2.2, ← HNX.out]
        rfl
      · rw [HE.out.1]
        have h9 := HR.out
        rw [List.map_append, H.out.val] at h9
        exact h9
      · intro x hx
        rcases List.mem_append.1 hx with hx | hx
        · exact .inl hx
        · obtain rfl : x = ⟨⟨⟨l.next, l.bal, v⟩, []⟩, none, 0⟩ := by simpa using hx
          exact .inr rfl
end Go.Proofs.Ytpabbhhaagfoeaa
end

section
/- The reference of layer 15: Accepted. -/
namespace Go.Proofs.Ytpabbhhaagfoeaa
set_option maxRecDepth 100000
open Go.RowKit
set_option linter.unusedVariables false
set_option linter.unusedSimpArgs false
theorem infoI15 : (Try.prog.info? 3).map (fun i => (i.zero, i.size, i.bytes)) = some (some (.int .i64 0), 1, 8) := by kernel_rfl
theorem intsL_one (l : List Nat) : ∀ u ∈ intsL l, u.oneCell' = true := by
  intro u hu
  obtain ⟨x, _, hx⟩ := List.mem_map.1 hu
  rw [← hx]
  rfl
theorem rns_own {w : World} {base n : Nat} {v : Value} {l : List Nat} (h : w.ownsRow base 3 1 v n (intsL l)) (hl : l.length = n) : ∃ A c, v = .slice A n c ∧ RNs w A c n l ∧ ∀ a, A = some a → base ≤ a.block := by
  obtain ⟨A, c, rfl, _, hs, ho⟩ := own_slice h
  refine ⟨A, c, rfl, ⟨hl, hs, fun a ha => ?_⟩, fun a ha => (ho a ha).2⟩
  rcases h.2 with ⟨h0, _⟩ | ⟨g, cap, cur, h0, _, hb, _⟩
  · injection h0 with h1
    rw [h1] at ha
    cases ha
  · injection h0 with h1
    rw [h1] at ha
    injection ha with ha
    subst ha
    exact ⟨_, hb⟩
/-- Voters, copied onto nil. -/
theorem copy_who {ops : Array Oper} {rest : List Oper} {o : Oper} {a : Act} {Q : Exit → Act → World → Prop} (hgd : o.guard = none) (s x : Operand)
    (ho : o.op = .call { callee := .builtin .append, args := #[s, x], argTypes := #[29, 29] })
    {W : World} {base n c : Nat} {A : Option Addr} {l : List Nat} (hs : a.eval s = .slice none 0 0) (hx : a.eval x = .slice A n c) (h : RNs W A c n l)
    (hlim : n ≤ 1000000) (hbase : base ≤ W.heap.size)
    (hk : ∀ v' w', w'.ownsRow base 3 1 v' n (intsL l) → Mods Nil W w' → wpList Try.prog ops Q rest (a.put o.dst v') w') :
    wpList Try.prog ops Q (o :: rest) a W := by
  obtain ⟨i0, hi0, hz0, hz1, hz2⟩ := info_parts infoI15
  refine wpList_append_sl W hgd s x 29 ho base 3 i0 (.int .i64 0) 8 Try.underlying29 hi0 hz0 hz1 hz2 rfl (.slice none 0 0) 0 [] hs (World.ownsRow_nil _ _ _ _) A n c (intsL l) hx (by rw [intsL_length]; exact h.len) h.sl (intsL_one l) (by omega) (by unfold maxLen; omega) hbase ?_
  intro v' w' o1 g1 _
  simp only [Nat.zero_add, List.nil_append] at o1
  exact hk v' w' o1 ((Mods.refl Nil W).grown g1 (fun k hk => by cases hk))
/-- A voter more, behind a row of the call's own. -/
theorem push_who {ops : Array Oper} {rest : List Oper} {o : Oper} {a : Act} {Q : Exit → Act → World → Prop} (hgd : o.guard = none) (s x : Operand)
    (ho : o.op = .call { callee := .builtin .append, args := #[s, x], argTypes := #[29, 29] })
    {W : World} {base m : Nat} {v : Value} {l : List Nat} (k : Nat) (hs : a.eval s = v) (hown : W.ownsRow base 3 1 v m (intsL l)) (hx : a.eval x = .slice (some ⟨W.heap.size, 0, none⟩) 1 1)
    (hlim : m ≤ 1000000) (hbase : base ≤ W.heap.size)
    (h : ∀ v' w', w'.ownsRow base 3 1 v' (m + 1) (intsL (l ++ [k])) → Mods (fun q => v.ownBlock = some q) W w' → wpList Try.prog ops Q rest (a.put o.dst v') w') :
    wpList Try.prog ops Q (o :: rest) a (W.alloc (.cells #[.int .i64 (k : Int)] 3)) := by
  obtain ⟨i0, hi0, hz0, hz1, hz2⟩ := info_parts infoI15
  refine wpList_append_own _ hgd s x 29 ho base 3 i0 (.int .i64 0) 1 8 Try.underlying29 hi0 hz0 hz1 hz2 rfl (by decide) v m (intsL l) hs (own_mods hown ((Mods.refl Nil W).alloc _) (fun _ _ h => h)) ⟨W.heap.size, 0, none⟩ 1 1 [.int .i64 (k : Int)] hx rfl ?_ (by simp [Value.oneCell']) (by unfold maxLen; omega) (by omega) (by simp; omega) ?_
  · intro j u hu
    rw [Addr.add_lit, Nat.zero_add, (Blk.new W 3 #[.int .i64 (k : Int)]).cell]
    simpa using hu
  intro v' w' h1 h2 _
  rw [← intsL_snoc] at h1
  exact h v' w' h1 (((Mods.refl (fun q => v.ownBlock = some q) W).alloc _).grown h2 (fun k hk _ => hk))
/-- What Accepted tells. -/
def RAcd (w : World) (l : PLd) (p : LdA) (L : List ROp) (node : Int) (b s : Nat) (e : Ending) (w' : World) : Prop :=
  ∃ p' L', e = .returned (.tuple #[.agg (ldC (l.accept node b s) p'), .agg #[.int .u64 ((orZ (l.chosen node b s)).slot : Int), .int .u64 ((orZ (l.chosen node b s)).bal : Int), .string (strOf (orZ (l.chosen node b s)).val)], .bool (l.chosen node b s).isSome]) ∧
    p'.pA = p.pA ∧ p'.pn = p.pn ∧ p'.pc = p.pc ∧ p'.kA = p.kA ∧ p'.kn = p.kn ∧ p'.kc = p.kc ∧ ROs w' p'.oA p'.oc p'.on L' (l.accept node b s).opn ∧ p'.on ≤ p.on ∧ (∀ a, p'.oA = some a → p.oA = some a ∨ w.heap.size ≤ a.block) ∧ (∀ x ∈ L', ∀ a, x.A = some a → (∃ y ∈ L, y.A = some a) ∨ w.heap.size ≤ a.block) ∧ Mods Nil w w'
theorem accept_muteR {l : PLd} {node : Int} {b : Nat} (h : l.mute node b) (s : Nat) : l.accept node b s = l ∧ l.chosen node b s = none := ⟨if_pos h, if_pos h⟩
theorem accept_hearsR {l : PLd} {node : Int} {b : Nat} (h : ¬ l.mute node b) (s : Nat) : l.accept node b s = { l with opn := l.vote node.toNat s } ∧ l.chosen node b s = chosenO l.many node.toNat s l.opn := ⟨if_neg h, if_neg h⟩
set_option maxHeartbeats 6400000 in
theorem r15mute_any (w : World) (l : PLd) (p : LdA) {L : List ROp} (h : ROs w p.oA p.oc p.on L l.opn) (node : Int) (b s : Nat) (hm : l.mute node b) :
    Calls Try.prog 21 #[.agg (ldC l p), .int .i64 node, .int .u64 (b : Int), .int .u64 (s : Int)] w (RAcd w l p L node b s) := by
  have HE := Lib.hid (accept_muteR hm s)
  have H := Lib.hid h
  have hC : ((l.stage : Int) != 2) = true ∨ (((l.stage : Int) != 2) = false ∧ ((b : Int) != (l.bal : Int)) = true) ∨ (((l.stage : Int) != 2) = false ∧ ((b : Int) != (l.bal : Int)) = false ∧ node < 0) ∨ (((l.stage : Int) != 2) = false ∧ ((b : Int) != (l.bal : Int)) = false ∧ ¬ node < 0 ∧ (l.many : Int) ≤ node) := by
    unfold PLd.mute at hm
    simp
    omega
  clear h hm
  rcases hC with g1 | ⟨g1, g2⟩ | ⟨g1, g2, g3⟩ | ⟨g1, g2, g3, g4⟩
  all_goals
    go_enter Try.func21, Try.ntmps21
    go_wp2
    have e0 := (Blk.new (w.alloc (.cells (ldC l p) 33)) 33 (ldC l p)).alloc (.cells #[.int .u64 0, .int .u64 0, .string ⟨#[]⟩] 53)
    have e1 := Blk.new ((w.alloc (.cells (ldC l p) 33)).alloc (.cells (ldC l p) 33)) 53 #[.int .u64 0, .int .u64 0, .string ⟨#[]⟩]
    simp only [World.size_alloc] at e0 e1
    obtain ⟨y0, y1, y2, y3, y4, y5, y6, y7⟩ := e0.eight
    obtain ⟨z0, z1, z2⟩ := e1.three
    refine bodyPost_ret (v := .tuple #[.agg (ldC l p), .agg #[.int .u64 0, .int .u64 0, .string ⟨#[]⟩], .bool false]) (by simp [results, Try.results21, go_sem, y0, y1, y2, y3, y4, y5, y6, y7, z0, z1, z2]) rfl ?_
    refine ⟨p, L, ?_, rfl, rfl, rfl, rfl, rfl, rfl, ?_, Nat.le_refl _, fun a ha => .inl ha, fun x hx a ha => .inl ⟨x, hx, ha⟩, (((Mods.refl Nil w).alloc _).alloc _).alloc _⟩
    · rw [HE.out.1, HE.out.2]
      rfl
    · rw [HE.out.1]
      exact H.out.nil ((((Mods.refl Nil w).alloc _).alloc _).alloc _)
end Go.Proofs.Ytpabbhhaagfoeaa
end
