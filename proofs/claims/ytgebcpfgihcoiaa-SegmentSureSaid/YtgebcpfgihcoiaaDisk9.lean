/- Package disk: the calls of a disk that is up and doesn't stop. -/
import Derived.Test.YtgebcpfgihcoiaaDisk6
import Derived.Test.YtgebcpfgihcoiaaDisk8
namespace Go.Proofs.Ytgebcpfgihcoiaa
set_option maxRecDepth 100000
open Go.RowKit
set_option linter.unusedVariables false

/-- A disk that is up and doesn't stop. -/
def live (L : List (List UInt8)) (W : List (Nat × List UInt8)) : PD := ⟨L, W, -1, false⟩
theorem live_new (n : Nat) : PD.new n = live (List.replicate n zeros64) [] := rfl
theorem live_at {L : List (List UInt8)} {W : List (Nat × List UInt8)} {i : Int} (h0 : 0 ≤ i) (h1 : i < (L.length : Int)) : (live L W).at_ i = 0 := by
  unfold PD.at_ live
  dsimp only
  rw [if_neg (by simp), if_neg (by omega)]
theorem live_count (L : List (List UInt8)) (W : List (Nat × List UInt8)) : (live L W).count = (live L W, 0) := rfl
theorem live_write {L : List (List UInt8)} {W : List (Nat × List UInt8)} {i : Int} {b : List UInt8} (h0 : 0 ≤ i) (h1 : i < (L.length : Int)) (hb : b.length = 64) : (live L W).write i b = (live L (W ++ [(i.toNat, b)]), 0) := by
  unfold PD.write
  rw [live_at h0 h1, live_count, if_neg (by simp), if_neg (by omega)]
  rfl
theorem live_sync (L : List (List UInt8)) (W : List (Nat × List UInt8)) : (live L W).sync = (live (layAll L W) [], 0) := rfl
theorem live_read {L : List (List UInt8)} {W : List (Nat × List UInt8)} {i : Int} (h0 : 0 ≤ i) (h1 : i < (L.length : Int)) : (live L W).read i = ((lastW i.toNat W).getD (L.getD i.toNat []), 0) := by
  unfold PD.read
  rw [live_at h0 h1, if_neg (by simp)]
  rfl
theorem live_crash (L : List (List UInt8)) (W : List (Nat × List UInt8)) (ps : List UInt8) : (live L W).crash ps = live (crashL L W ps) [] := rfl
section
variable {w : World} {base db : Nat} {L : List (List UInt8)} {W : List (Nat × List UInt8)}
theorem lnew (w : World) {base n : Nat} {k : Int} (hb : base ≤ w.heap.size) (hk : k = (n : Int)) (h1 : 1 ≤ n) (h2 : n ≤ 65536) : Calls Try.prog 10 #[.int .i64 k] w fun e w' => ∃ db, e = .returned (.tuple #[.pointer (some ⟨db, 0, none⟩), .int .i64 0]) ∧ DiskAt w' base db (live (List.replicate n zeros64) []) ∧ Mods Nil w w' := by
  subst hk
  exact dnew_any w hb h1 h2
theorem lwrite (h : DiskAt w base db (live L W)) (hW : W.length ≤ 1000) {i : Int} (h0 : 0 ≤ i) (h1 : i < (L.length : Int)) {A : Option Addr} {c m : Nat} {b : List UInt8} (hs : Bs base w A c b) (hm : b.length = 64) (hm2 : m = 64) :
    Calls Try.prog 24 #[.pointer (some ⟨db, 0, none⟩), .int .i64 i, .slice A m c] w fun e w' => e = .returned (.int .i64 0) ∧ DiskAt w' base db (live L (W ++ [(i.toNat, b)])) ∧ DM base w w' := by
  have := dwrite_any h hW i hs (hm.trans hm2.symm)
  rw [live_write h0 h1 hm] at this
  exact this
theorem lsync (h : DiskAt w base db (live L W)) : Calls Try.prog 47 #[.pointer (some ⟨db, 0, none⟩)] w fun e w' => e = .returned (.int .i64 0) ∧ DiskAt w' base db (live (layAll L W) []) ∧ DM base w w' := dsync_any h
theorem lread (h : DiskAt w base db (live L W)) {i : Int} (h0 : 0 ≤ i) (h1 : i < (L.length : Int)) {b : List UInt8} (hb : (lastW i.toNat W).getD (L.getD i.toNat []) = b) :
    Calls Try.prog 59 #[.pointer (some ⟨db, 0, none⟩), .int .i64 i] w fun e w' => ∃ A c m, e = .returned (.tuple #[.slice A m c, .int .i64 0]) ∧ b.length = m ∧ m = 64 ∧ Sl w' A c (bts b) ∧ Mods Nil w w' := by
  have := dread_any h i
  have hl := (show (live L W).Ok from by obtain ⟨_, _, _, h⟩ := h; exact h.ok).read (live_at h0 h1)
  rw [live_read h0 h1, hb] at this hl
  exact this.mono (fun e w' ⟨A, c, m, h1, h2, h3, h4⟩ => ⟨A, c, m, h1, h2, h2.symm.trans hl, h3, h4⟩)
theorem lcrash (h : DiskAt w base db (live L W)) {A : Option Addr} {c m : Nat} {pick : List UInt8} (hs : Bs base w A c pick) (hm : pick.length = m) :
    Calls Try.prog 26 #[.pointer (some ⟨db, 0, none⟩), .slice A m c] w fun e w' => e = .returned (.tuple #[]) ∧ DiskAt w' base db (live (crashL L W pick) []) ∧ DM base w w' := dcrash_any h hs hm
theorem lwaits (h : DiskAt w base db (live L W)) {k : Int} (hk : (W.length : Int) = k) : Calls Try.prog 58 #[.pointer (some ⟨db, 0, none⟩)] w fun e w' => e = .returned (.int .i64 k) ∧ w = w' := by
  subst hk
  exact dwaits_any h
theorem ldown (h : DiskAt w base db (live L W)) : Calls Try.prog 57 #[.pointer (some ⟨db, 0, none⟩)] w fun e w' => e = .returned (.bool false) ∧ w = w' := ddown_any h
end
end Go.Proofs.Ytgebcpfgihcoiaa
