/- What the statements of layer 5 begin with: the document's example. -/
import Derived.Test.YtglaenoaeiendaaNet9
import Derived.Test.YtglaenoaeiendaaMemX
import Derived.Lib.SlBytesConst
namespace Go.Proofs.Ytglaenoaeiendaa
set_option maxRecDepth 100000
open Go.RowKit
set_option linter.unusedVariables false

theorem net_new (w : World) {k : Int} {n : Nat} (hk : k = (n : Int)) : NetAt (w.alloc (.cells #[.int .i64 k, .slice none 0 0] 46)) w.heap.size w.heap.size n (.slice none 0 0) [] := by
  subst hk
  exact ⟨Blk.new w _ _, World.ownsRow_nil _ _ _ _, (fun p h => by cases h), Nat.le_refl _⟩
theorem nnew_int (w : World) {k : Int} (h1 : 1 ≤ k) (h2 : k ≤ 32) :
    Calls Try.prog 8 #[.int .i64 k] w fun e w' => e = .returned (.tuple #[.pointer (some ⟨w.heap.size, 0, none⟩), .int .i64 0]) ∧ w' = w.alloc (.cells #[.int .i64 k, .slice none 0 0] 46) := by
  obtain ⟨n, rfl⟩ := Int.eq_ofNat_of_zero_le (show 0 ≤ k by omega)
  exact nnew_any w n (by omega) (by omega)
theorem nsend_int {w : World} {base nb nodes : Nat} {v : Value} {l : List Pk} (h : NetAt w base nb nodes v l) (hl : l.length < 4096) {f t : Int} (hf0 : 0 ≤ f) (hf : f < (nodes : Int)) (ht0 : 0 ≤ t) (ht : t < (nodes : Int)) {A : Option Addr} {c m : Nat} {xs : List UInt8} (hm : xs.length = m) (hlim : m ≤ 140737488355328) (hs : Sl w A c (bts xs)) :
    Calls Try.prog 9 #[.pointer (some ⟨nb, 0, none⟩), .agg #[.int .i64 f, .int .i64 t, .slice A m c]] w (Added w base nb nodes v l ⟨f, t, A, c, xs⟩) := by
  obtain ⟨f, rfl⟩ := Int.eq_ofNat_of_zero_le hf0
  obtain ⟨t, rfl⟩ := Int.eq_ofNat_of_zero_le ht0
  exact nsend_any h hl (p := ⟨(f : Int), (t : Int), A, c, xs⟩) rfl rfl (by omega) (by omega) hm hlim hs
theorem ntake_int {w : World} {base nb nodes i : Nat} {v : Value} {l : List Pk} (h : NetAt w base nb nodes v l) (hl : l.length ≤ 4096) (hi : i < l.length) {k : Int} (hk : k = (i : Int)) :
    Calls Try.prog 10 #[.pointer (some ⟨nb, 0, none⟩), .int .i64 k] w (Took w base nb nodes v l i) := by
  subst hk
  exact ntake_any h hl hi
theorem NetAt.sub {w w0 : World} {base nb nodes : Nat} {v : Value} {l : List Pk} (h : NetAt w base nb nodes v l) (hb : w0.heap.size ≤ base) : NetAt w w0.heap.size nb nodes v l :=
  ⟨h.blk, own_rebase h.own hb, fun p hp => ⟨(h.oks p hp).1, fun hx a ha => ⟨Nat.le_trans hb ((h.oks p hp).2 hx a ha).1, ((h.oks p hp).2 hx a ha).2⟩⟩, Nat.le_trans hb h.le⟩
theorem conv5 {w : World} {A : Option Addr} {n c : Nat} {xs : List UInt8} (hn : xs.length = n) (hs : Sl w A c (bts xs)) : (convert 29 9 (.slice A n c)).run Try.prog w = .ok (.string (strOf xs)) w :=
  run_string_sl _ 29 5 Try.underlying29 Try.underlying5 A n c _ hn hs 9 Try.underlying9
/-- What Take leaves, told by the packet's core. -/
def TookC (w : World) (base nb nodes : Nat) (v : Value) (l : List Pk) (i : Nat) (f t : Int) (xs : List UInt8) (m : Nat) (e : Ending) (w' : World) : Prop :=
  ∃ A c, e = .returned (.tuple #[.agg #[.int .i64 f, .int .i64 t, .slice A m c], .bool true]) ∧ Sl w' A c (bts xs) ∧ ∃ v', NetAt w' base nb nodes v' (l.eraseIdx i) ∧ Mods (NS nb v) w w'
theorem ntake_core {w : World} {base nb nodes i : Nat} {v : Value} {l : List Pk} (h : NetAt w base nb nodes v l) (hl : l.length ≤ 4096) {q0 : Pk} (h0 : l[i]? = some q0) {k : Int} (hk : k = (i : Int)) {f t : Int} {xs : List UInt8} {m : Nat} (hc : q0.core = (f, t, xs)) (hm : xs.length = m) :
    Calls Try.prog 10 #[.pointer (some ⟨nb, 0, none⟩), .int .i64 k] w (TookC w base nb nodes v l i f t xs m) := by
  refine (ntake_int h hl (List.getElem?_eq_some_iff.1 h0).1 hk).mono ?_
  rintro e w' ⟨q, k0, rfl, k1, v', k2, k3, -⟩
  rw [h0] at k0
  injection k0 with k0
  subst k0
  obtain ⟨qf, qt, qA, qc, qx⟩ := q0
  unfold Pk.core at hc
  injection hc with h1 hc
  injection hc with h2 h3
  dsimp only at h1 h2 h3
  subst h1; subst h2; subst h3; subst hm
  exact ⟨qA, qc, rfl, k1.1, v', k2, k3⟩
theorem core_of {q : Pk} {f t : Int} {xs : List UInt8} (h : q.core = (f, t, xs)) : q.f = f ∧ q.t = t ∧ q.xs = xs := by
  unfold Pk.core at h
  injection h with h1 h
  injection h with h2 h3
  exact ⟨h1, h2, h3⟩

set_option maxHeartbeats 3200000 in
theorem awake5_any (w : World) : Calls Try.prog 7 #[] w fun e w' => e = .returned (.bool true) ∧ Mods Nil w w' := by
  have m1 : Mods Nil w (w.alloc (.cells #[.int .i64 3, .slice none 0 0] 46)) := (Mods.refl _ _).alloc _
  have m2 := m1.alloc (.cells #[.int .u8 97] 5 (1, 2))
  have n1 := (net_new w (k := 3) (n := 3) rfl).nil ((Mods.refl Nil _).alloc (.cells #[.int .u8 97] 5 (1, 2)))
  have s1 : Sl ((w.alloc (.cells #[.int .i64 3, .slice none 0 0] 46)).alloc (.cells #[.int .u8 97] 5 (1, 2))) (some ⟨w.heap.size + 1, 0, none⟩) 1 (bts [97]) := build_at (n := 1) (by simp) rfl rfl (by unfold maxLen; omega)
  have kc : (convert 29 29 (.slice (some ⟨w.heap.size + 1, 0, none⟩) 1 1)).run Try.prog ((w.alloc (.cells #[.int .i64 3, .slice none 0 0] 46)).alloc (.cells #[.int .u8 97] 5)) = .ok (.slice (some ⟨w.heap.size + 1, 0, none⟩) 1 1) ((w.alloc (.cells #[.int .i64 3, .slice none 0 0] 46)).alloc (.cells #[.int .u8 97] 5 (1, 2))) := by
    have := Lib.run_convert_bytes_const (P := Try.prog) (w.alloc (.cells #[.int .i64 3, .slice none 0 0] 46)) 29 5 #[.int .u8 97] 1 1 Try.underlying29 Try.underlying5
    simpa using this
  have hs1 := nsend_int n1 (by simp) (f := 0) (t := 1) (by omega) (by omega) (by omega) (by omega) (m := 1) rfl (by omega) s1
  have HN := Lib.hid (nnew_int w (k := 3) (by omega) (by omega))
  have HS1 := Lib.hid hs1
  have HS2 : Hid (∀ W v q, NetAt W w.heap.size w.heap.size 3 v [q] → Calls Try.prog 9 #[.pointer (some ⟨w.heap.size, 0, none⟩), .agg #[.int .i64 1, .int .i64 0, .slice none 0 0]] W (Added W w.heap.size w.heap.size 3 v [q] ⟨1, 0, none, 0, []⟩)) := fun W v q h => nsend_int h (by simp) (by omega) (by omega) (by omega) (by omega) rfl (by omega) (Sl.none_ _)
  have HS3 : Hid (∀ W v q r, NetAt W w.heap.size w.heap.size 3 v [q, r] → Calls Try.prog 9 #[.pointer (some ⟨w.heap.size, 0, none⟩), .agg #[.int .i64 2, .int .i64 1, .slice none 0 0]] W (Added W w.heap.size w.heap.size 3 v [q, r] ⟨2, 1, none, 0, []⟩)) := fun W v q r h => nsend_int h (by simp) (by omega) (by omega) (by omega) (by omega) rfl (by omega) (Sl.none_ _)
  have HTO : Hid (∀ W v q r t, NetAt W w.heap.size w.heap.size 3 v [q, r, t] → Calls Try.prog 14 #[.pointer (some ⟨w.heap.size, 0, none⟩), .int .i64 1] W (ToldTo W [q, r, t] 1)) := fun W v q r t h => nto_any h (by simp) 1
  have HTA : Hid (∀ W v q r t, q.core = (0, 1, [97]) → NetAt W w.heap.size w.heap.size 3 v [q, r, t] → Calls Try.prog 10 #[.pointer (some ⟨w.heap.size, 0, none⟩), .int .i64 0] W (TookC W w.heap.size w.heap.size 3 v [q, r, t] 0 0 1 [97] 1)) := fun W v q r t hq h => ntake_core h (by simp) (q0 := q) rfl rfl hq rfl
  have M2 := Lib.hid m2
  have N1 := Lib.hid n1
  clear m1 m2 n1 s1 hs1
  go_enter Try.func7, Try.ntmps7
  go_wp2_with (first
    | (go_at_call 8; refine (HN.out).mono ?_; rintro e w1 ⟨rfl, rfl⟩)
    | (go_at_call 9; refine (HS3.out _ _ _ _ N3.out).mono ?_; rintro e w4 ⟨rfl, v4, q3, k1, k2, k3, k4, k5⟩; have N4 : Hid (NetAt w4 w.heap.size w.heap.size 3 v4 [q1, q2, q3]) := k1; have Q3 := Lib.hid (core_of k2); have X4 := Lib.hid (N3.out.trans_nil (Nat.le_refl _) X3.out k4); clear k1 k2 k3 k4 k5)
    | (go_at_call 9; refine (HS2.out _ _ _ N2.out).mono ?_; rintro e w3 ⟨rfl, v3, q2, k1, k2, k3, k4, k5⟩; have N3 : Hid (NetAt w3 w.heap.size w.heap.size 3 v3 [q1, q2]) := k1; have Q2 := Lib.hid (core_of k2); have X3 := Lib.hid (N2.out.trans_nil (Nat.le_refl _) X2.out k4); clear k1 k2 k3 k4 k5)
    | (go_at_call 9; refine (HS1.out).mono ?_; rintro e w2 ⟨rfl, v2, q1, k1, k2, k3, k4, k5⟩; have N2 : Hid (NetAt w2 w.heap.size w.heap.size 3 v2 [q1]) := k1; have Q1 := Lib.hid (core_of k2); have QC : Hid (q1.core = (0, 1, [97])) := k2; have X2 := Lib.hid (N1.out.trans_nil (Nat.le_refl _) M2.out k4); clear k1 k2 k3 k4 k5)
    | (go_at_call 14; refine (HTO.out _ _ _ _ _ N4.out).mono ?_; rintro e w5 ⟨v5, rfl, o5, m5⟩; have hpl : placesTo 1 0 [q1, q2, q3] = [0, 2] := (by simp [placesTo, Q1.out.2.1, Q2.out.2.1, Q3.out.2.1]); rw [hpl] at o5; obtain ⟨A5, c5, rfl, -, s5, -⟩ := own_slice o5; obtain ⟨b5, off5, rfl, hb5, hc5⟩ := s5.at_ (by simp [ints]); have P5 := Lib.hid (hc5 1 (.int .i64 2) rfl); have HB5 := Lib.hid hb5; have N5 := Lib.hid (N4.out.nil m5); have F5 : Hid (¬ NS w.heap.size v4 b5) := (by obtain ⟨-, cs, hb⟩ := own_kind o5 b5 rfl; exact N5.out.far hb (by decide) (by decide)); have X5 := Lib.hid (X4.out.trans m5); clear o5 m5 hpl s5 hb5 hc5)
    | (go_at_call 10; refine (HTA.out _ _ _ _ _ QC.out N5.out).mono ?_; rintro e w6 ⟨A6, c6, rfl, s6, v6, n6, m6⟩; have mA : Mods Nil w6 (w6.alloc (.cells #[.int .i64 0, .int .i64 1, .slice A6 1 c6] 32)) := (Mods.refl _ _).alloc _; obtain ⟨d0, d1, d2, -, -, -⟩ := (Blk.new w6 32 #[.int .i64 0, .int .i64 1, .slice A6 1 c6]).three; have cv : (convert 29 9 (.slice A6 1 c6)).run Try.prog (w6.alloc (.cells #[.int .i64 0, .int .i64 1, .slice A6 1 c6] 32)) = .ok (.string ⟨#[97]⟩) (w6.alloc (.cells #[.int .i64 0, .int .i64 1, .slice A6 1 c6] 32)) := conv5 (n := 1) rfl (s6.mods mA (fun _ _ h => h)); have n7 := n6.nil mA; obtain ⟨A7, c7, rfl, -⟩ := n7.place; have g7 := n7.cells.2.1; have X7 := Lib.hid ((N5.out.trans_nil (Nat.le_refl _) X5.out m6).trans mA); have e5 := (World.cell?_of_block ((m6.trans (mA.mono (fun _ _ h => h.elim))).block b5 HB5.out F5.out)).trans P5.out; clear s6 n6 m6 mA n7)
    | (go_at_call 11; refine (nlen_any g7).mono ?_; rintro e w8 ⟨rfl, rfl⟩))
  go_ret
  exact ⟨rfl, X7.out⟩
end Go.Proofs.Ytglaenoaeiendaa
