/- A segment in memory, as it runs in the statements of layer 7. -/
import Derived.Test.YtdllgmhipenidaaRun7
import Derived.Test.YtdllgmhipenidaaSgmE
import Derived.Test.YtdllgmhipenidaaSgmD

import Derived.Test.YtdllgmhipenidaaDiskC
import Derived.Test.YtdllgmhipenidaaOpen
namespace Go.Proofs.Ytdllgmhipenidaa
set_option maxRecDepth 100000
open Go.RowKit
set_option linter.unusedVariables false

structure At7 (w : World) (base sb db : Nat) (pre L post : List (List UInt8)) (old : Recs) (news : List (List UInt8)) (E n : Nat) : Prop where
  at_ : SegAt w base sb db (runD pre L post old news E) (runS pre.length old news E n)
  run : Run L old news E n
section
variable {w w' : World} {base sb db : Nat} {pre L post : List (List UInt8)} {old : Recs} {news : List (List UInt8)} {E n : Nat}
theorem At7.nil (h : At7 w base sb db pre L post old news E n) (hm : Mods Nil w w') : At7 w' base sb db pre L post old news E n := ⟨h.at_.nil hm, h.run⟩
theorem At7.disk (h : At7 w base sb db pre L post old news E n) : DiskAt w base db (runD pre L post old news E) := h.at_.1
theorem runD_W (pre L post : List (List UInt8)) (old : Recs) (news : List (List UInt8)) (E : Nat) : (runD pre L post old news E).W.length = usedP (with_ E news) := by
  show (rowW _ _).length = _
  rw [rowW_length, blocksOf_length]
theorem a7open (h : DiskAt w base db (runD pre L post old [] E)) (hb : base ≤ w.heap.size) (hop : segOpen L pre.length = runS pre.length old [] E n) (hrun : Run L old [] E n) (h1 : 1 ≤ n) (hlim : pre.length + n + post.length ≤ 65536) (hst : stampP L < 4294967295) {a k : Int} (ha : (pre.length : Int) = a) (hk : (n : Int) = k) :
    Calls Try.prog 15 #[.pointer (some ⟨db, 0, none⟩), .int .i64 a, .int .i64 k] w fun e w' => ∃ sb, e = .returned (.tuple #[.pointer (some ⟨sb, 0, none⟩), .int .i64 0]) ∧ At7 w' base sb db pre L post old [] E n ∧ Mods Nil w w' := by
  subst ha; subst hk
  have hl := hrun.len
  have hdl : (runD pre L post old [] E).L.length = pre.length + n + post.length := by simp [runD, hl]; omega
  have hs := run_segL (pre := pre) (post := post) hl old E
  refine (sopen_ok h hb (by omega) h1 (by omega) rfl (by rw [hs]; exact hst)).mono ?_
  rintro e w' ⟨sb, rfl, s1, m1⟩
  rw [hs, hop] at s1
  exact ⟨sb, rfl, ⟨s1, hrun⟩, m1⟩
theorem a7append (h : At7 w base sb db pre L post old news E n) (hW : usedP (with_ E news) ≤ 900) {A : Option Addr} {c q : Nat} {b : List UInt8} (hs : Sb base w A c b) (hq : b.length = q) (h4 : q ≤ 4096) (hf : usedP old + usedP (with_ E news) + needP q ≤ n) {k : Int} (hk : ((old.length + news.length : Nat) : Int) = k) :
    Calls Try.prog 17 #[.pointer (some ⟨sb, 0, none⟩), .slice A q c] w fun e w' => e = .returned (.tuple #[.int .i64 k, .int .i64 0]) ∧ At7 w' base sb db pre L post old (news ++ [b]) E n ∧ SM base w w' := by
  subst hk
  have e := h.run.append (pre := pre) (post := post) (b := b) (by omega) (by rw [hq]; exact hf)
  have := sappend_any h.at_ (by rw [runD_W]; exact hW) hs hq
  rw [e.1] at this
  exact this.mono (fun e' w' ⟨h1, h2, h3⟩ => ⟨h1, ⟨h2, e.2⟩, h3⟩)
theorem a7full (h : At7 w base sb db pre L post old news E n) (hW : usedP (with_ E news) ≤ 900) {A : Option Addr} {c q : Nat} {b : List UInt8} (hs : Sb base w A c b) (hq : b.length = q) (h4 : q ≤ 4096) (hf : n < usedP old + usedP (with_ E news) + needP q) :
    Calls Try.prog 17 #[.pointer (some ⟨sb, 0, none⟩), .slice A q c] w fun e w' => e = .returned (.tuple #[.int .i64 0, .int .i64 21]) ∧ At7 w' base sb db pre L post old news E n ∧ SM base w w' := by
  have e := Run.full (E := E) (n := n) (a := pre.length) (old := old) (news := news) (runD pre L post old news E) (b := b) (by omega) (by rw [hq]; exact hf)
  have := sappend_any h.at_ (by rw [runD_W]; exact hW) hs hq
  rw [e] at this
  exact this.mono (fun e' w' ⟨h1, h2, h3⟩ => ⟨h1, ⟨h2, h.run⟩, h3⟩)
theorem a7big (h : At7 w base sb db pre L post old news E n) (hW : usedP (with_ E news) ≤ 900) {A : Option Addr} {c q : Nat} {b : List UInt8} (hs : Sb base w A c b) (hq : b.length = q) (h4 : 4096 < q) :
    Calls Try.prog 17 #[.pointer (some ⟨sb, 0, none⟩), .slice A q c] w fun e w' => e = .returned (.tuple #[.int .i64 0, .int .i64 13]) ∧ At7 w' base sb db pre L post old news E n ∧ SM base w w' := by
  have e : (runS pre.length old news E n).append (runD pre L post old news E) b = (runD pre L post old news E, runS pre.length old news E n, 0, 13) := by unfold PSeg.append; rw [if_pos (by omega)]
  have := sappend_any h.at_ (by rw [runD_W]; exact hW) hs hq
  rw [e] at this
  exact this.mono (fun e' w' ⟨h1, h2, h3⟩ => ⟨h1, ⟨h2, h.run⟩, h3⟩)
theorem a7sync (h : At7 w base sb db pre L post old news E n) (hE : E < 4294967296) :
    Calls Try.prog 20 #[.pointer (some ⟨sb, 0, none⟩)] w fun e w' => e = .returned (.int .i64 0) ∧ At7 w' base sb db pre (layAll L (rowW (usedP old) (blocksOf E old.length news))) post (old ++ with_ E news) [] E n ∧ SM base w w' := by
  have e := h.run.sync (pre := pre) (post := post) hE
  have := ssync_any h.at_
  rw [e.1] at this
  exact this.mono (fun e' w' ⟨h1, h2, h3⟩ => ⟨h1, ⟨h2, e.2⟩, h3⟩)
theorem a7len (h : At7 w base sb db pre L post old news E n) {k : Int} (hk : ((old.length + news.length : Nat) : Int) = k) : Calls Try.prog 59 #[.pointer (some ⟨sb, 0, none⟩)] w fun e w' => e = .returned (.int .i64 k) ∧ Mods Nil w w' := by
  subst hk
  obtain ⟨mb, hs⟩ := h.at_.2
  have := slen_in hs
  have e : (runS pre.length old news E n).L.length = old.length + news.length := by simp [runS]
  rw [e] at this
  exact this
theorem a7sure (h : At7 w base sb db pre L post old news E n) {k : Int} (hk : (old.length : Int) = k) : Calls Try.prog 60 #[.pointer (some ⟨sb, 0, none⟩)] w fun e w' => e = .returned (.int .i64 k) ∧ Mods Nil w w' := by
  subst hk
  obtain ⟨mb, hs⟩ := h.at_.2
  exact ssure_in hs
theorem a7free (h : At7 w base sb db pre L post old news E n) {k : Int} (hk : ((n - (usedP old + usedP (with_ E news)) : Nat) : Int) = k) : Calls Try.prog 61 #[.pointer (some ⟨sb, 0, none⟩)] w fun e w' => e = .returned (.int .i64 k) ∧ Mods Nil w w' := by
  subst hk
  obtain ⟨mb, hs⟩ := h.at_.2
  exact sfree_in hs
theorem a7read (h : At7 w base sb db pre L post old news E n) {k : Nat} (hk : k < old.length + news.length) {b : List UInt8} (hb : (old.map (·.1) ++ news).getD k [] = b) {z : Int} (hz : (k : Int) = z) :
    Calls Try.prog 58 #[.pointer (some ⟨sb, 0, none⟩), .int .i64 z] w fun e w' => ∃ A c m, e = .returned (.tuple #[.slice A m c, .int .i64 0]) ∧ b.length = m ∧ Sl w' A c (bts b) ∧ Mods Nil w w' := by
  subst hz
  obtain ⟨mb, hs⟩ := h.at_.2
  have e : (runS pre.length old news E n).read (k : Int) = (b, 0) := by
    unfold PSeg.read
    rw [if_neg (by simp [runS]; omega), if_neg (by simp [runS])]
    simp [runS] at hb ⊢
    exact hb
  have := sread_in hs (k : Int)
  unfold ReadTold at this
  rw [e] at this
  exact this
theorem a7crash (h : DiskAt w base db (runD pre L post old news E)) (hr : Run L old news E n) (hE : E < 255) (hn : n ≤ 65536) {A : Option Addr} {c m : Nat} {pick : List UInt8} (hs : Bs base w A c pick) (hm : pick.length = m) :
    Calls Try.prog 29 #[.pointer (some ⟨db, 0, none⟩), .slice A m c] w fun e w' => e = .returned (.tuple #[]) ∧ (∃ j L' E', j ≤ news.length ∧ DiskAt w' base db (runD pre L' post (old ++ with_ E (news.take j)) [] E') ∧ segOpen L' pre.length = runS pre.length (old ++ with_ E (news.take j)) [] E' n ∧ stampP L' + 1 = E' ∧ E' ≤ E + 1 ∧ Run L' (old ++ with_ E (news.take j)) [] E' n) ∧ DM base w w' := by
  obtain ⟨j, L', E', h1, h2, h3, h4, h5, h6⟩ := hr.crash (pre := pre) (post := post) hE hn pick
  have := dcrash_any h hs hm
  rw [h2] at this
  exact this.mono (fun e' w' ⟨k1, k2, k3⟩ => ⟨k1, ⟨j, L', E', h1, k2, h3, h4, h5, h6⟩, k3⟩)
/-- What waited is lost. -/
theorem a7lost (h : DiskAt w base db (runD pre L post old news E)) (hr : Run L old news E n) : Calls Try.prog 29 #[.pointer (some ⟨db, 0, none⟩), .slice none 0 0] w fun e w' => e = .returned (.tuple #[]) ∧ DiskAt w' base db (runD pre L post old [] E) ∧ Run L old [] E n ∧ DM base w w' := by
  have e : (runD pre L post old news E).crash [] = runD pre L post old [] E := by
    show (⟨crashL _ _ _, [], -1, false⟩ : PD) = _
    rw [crashL_nil]
    rfl
  have := dcrash_any (A := none) (c := 0) (m := 0) (pick := []) h ⟨Sl.none_ _, fun h => absurd rfl h⟩ rfl
  rw [e] at this
  exact this.mono (fun e' w' ⟨k1, k2, k3⟩ => ⟨k1, k2, ⟨hr.sv, hr.len, (fun s hs => by cases hs), by have := hr.fit; rw [with_nil]; simp only [usedP]; omega⟩, k3⟩)
/-- Bytes in a new block. -/
theorem sb_new (base : Nat) (W : World) {cs : Array Value} {fr : Nat × Nat} {xs : List UInt8} {n : Nat} (hc : cs = (bts xs).toArray) (hn : xs.length = n) (hm : n ≤ maxLen) : Sb base (W.alloc (.cells cs 5 fr)) (some ⟨W.heap.size, 0, none⟩) n xs := by
  subst hc; subst hn
  refine ⟨build_at rfl rfl (by simp) hm, fun _ a ha => ?_⟩
  injection ha with ha
  subst ha
  exact .inr ⟨_, fr, heap_alloc_new W _⟩
/-- A new disk, as a region with what is ahead of it and behind it. -/
theorem new_runD (a n b : Nat) : PD.new (a + n + b) = runD (List.replicate a zeros64) (List.replicate n zeros64) (List.replicate b zeros64) [] [] 1 := by
  unfold PD.new runD
  simp [blocksOf, rowW, List.replicate_append_replicate]
end
end Go.Proofs.Ytdllgmhipenidaa
