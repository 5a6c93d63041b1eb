/- The reference of layer 7: a segment by value; Trim, Read. -/
import Derived.Test.YtdllgmhipenidaaRef07a
import Derived.Test.YtdllgmhipenidaaRef06A
namespace Go.Proofs.Ytdllgmhipenidaa
set_option maxRecDepth 100000
open Go.RowKit
set_option linter.unusedVariables false

/-- A segment, by value. -/
def rsV (A : Option Addr) (c : Nat) (s : PSeg) : Value := .agg #[.int .i64 (s.start : Int), .int .i64 (s.n : Int), .int .u64 (s.epoch : Int), .slice A s.L.length c, .int .i64 (s.used : Int), .int .i64 (s.sure : Int), .int .i64 (s.gone : Int), .int .i64 s.err]
theorem rs_info : (Try.prog.info? 39).map (·.size) = some 8 := by kernel_rfl

theorem r7trim_any (w : World) {A : Option Addr} {c : Nat} (s : PSeg) (z : Int) :
    Calls Try.prog 23 #[rsV A c s, .int .i64 z] w fun e w' => e = .returned (rsV A c (s.trim z)) ∧ Mods Nil w w' := by
  obtain ⟨st, n, ep, L, us, su, gone, er⟩ := s
  unfold PSeg.trim rsV
  dsimp only
  generalize L.length = len
  by_cases h1 : (su : Int) < z
  · by_cases h2 : gone < su
    · have h2I : (gone : Int) < (su : Int) := by omega
      have e : max gone (min z (su : Int)).toNat = su := by omega
      rw [e]
      go_enter Try.func23, Try.ntmps23
      go_wp2
      exact bodyPost_ret (v := .agg #[.int .i64 (st : Int), .int .i64 (n : Int), .int .u64 (ep : Int), .slice A len c, .int .i64 (us : Int), .int .i64 (su : Int), .int .i64 (su : Int), .int .i64 er]) (by simp [results, Try.results23, go_sem]) rfl ⟨rfl, ((Mods.refl _ _).alloc _).alloc _⟩
    · have h2I : (su : Int) ≤ (gone : Int) := by omega
      have e : max gone (min z (su : Int)).toNat = gone := by omega
      rw [e]
      go_enter Try.func23, Try.ntmps23
      go_wp2
      exact bodyPost_ret (v := .agg #[.int .i64 (st : Int), .int .i64 (n : Int), .int .u64 (ep : Int), .slice A len c, .int .i64 (us : Int), .int .i64 (su : Int), .int .i64 (gone : Int), .int .i64 er]) (by simp [results, Try.results23, go_sem]) rfl ⟨rfl, ((Mods.refl _ _).alloc _).alloc _⟩
  · have h1I : z ≤ (su : Int) := by omega
    by_cases h2 : (gone : Int) < z
    · have e : max gone (min z (su : Int)).toNat = z.toNat := by omega
      have e2 : ((z.toNat : Nat) : Int) = z := by omega
      rw [e, e2]
      go_enter Try.func23, Try.ntmps23
      go_wp2
      exact bodyPost_ret (v := .agg #[.int .i64 (st : Int), .int .i64 (n : Int), .int .u64 (ep : Int), .slice A len c, .int .i64 (us : Int), .int .i64 (su : Int), .int .i64 z, .int .i64 er]) (by simp [results, Try.results23, go_sem]) rfl ⟨rfl, ((Mods.refl _ _).alloc _).alloc _⟩
    · have h2I : z ≤ (gone : Int) := by omega
      have e : max gone (min z (su : Int)).toNat = gone := by omega
      rw [e]
      go_enter Try.func23, Try.ntmps23
      go_wp2
      exact bodyPost_ret (v := .agg #[.int .i64 (st : Int), .int .i64 (n : Int), .int .u64 (ep : Int), .slice A len c, .int .i64 (us : Int), .int .i64 (su : Int), .int .i64 (gone : Int), .int .i64 er]) (by simp [results, Try.results23, go_sem]) rfl ⟨rfl, ((Mods.refl _ _).alloc _).alloc _⟩
theorem r7read_any (w : World) {A : Option Addr} {c : Nat} (s : PSeg) (hs : Sl w A c (strs s.L)) (z : Int) :
    Calls Try.prog 88 #[rsV A c s, .int .i64 z] w fun e w' => e = .returned (.tuple #[.string (strOf (s.read z).1), .int .i64 (s.read z).2]) ∧ Mods Nil w w' := by
  obtain ⟨st, n, ep, L, us, su, gone, er⟩ := s
  unfold PSeg.read rsV
  dsimp only at hs ⊢
  obtain ⟨len, hl⟩ : ∃ len, L.length = len := ⟨_, rfl⟩
  rw [hl]
  have M := Lib.hid ((Mods.refl Nil w).alloc (.cells #[.int .i64 (st : Int), .int .i64 (n : Int), .int .u64 (ep : Int), .slice A len c, .int .i64 (us : Int), .int .i64 (su : Int), .int .i64 (gone : Int), .int .i64 er] 39))
  by_cases h1 : z < 0
  · have h1I : decide (z < 0) = true := by simpa using h1
    rw [if_pos (.inl h1)]
    clear hs hl
    go_enter Try.func88, Try.ntmps88
    go_wp2
    go_ret2
    exact ⟨rfl, M.out⟩
  have h1I : decide (z < 0) = false := by simpa using h1
  by_cases h2 : (len : Int) ≤ z
  · rw [if_pos (.inr h2)]
    clear hs hl
    go_enter Try.func88, Try.ntmps88
    go_wp2
    go_ret2
    exact ⟨rfl, M.out⟩
  have h2I : z < (len : Int) := by omega
  rw [if_neg (by omega)]
  by_cases h3 : z < (gone : Int)
  · rw [if_pos h3]
    clear hs hl
    go_enter Try.func88, Try.ntmps88
    go_wp2
    go_ret2
    exact ⟨rfl, M.out⟩
  · have h3I : (gone : Int) ≤ z := by omega
    rw [if_neg h3]
    obtain ⟨k, rfl⟩ : ∃ k : Nat, z = (k : Int) := ⟨z.toNat, by omega⟩
    have hk : k < L.length := by omega
    have hg : L.getD (k : Int).toNat [] = L[k] := by rw [Int.toNat_natCast, List.getD_eq_getElem?_getD, List.getElem?_eq_getElem hk]; rfl
    rw [hg]
    obtain ⟨b, off, rfl, hb, hc⟩ := hs.at_ (by rw [strs_length]; omega)
    have c0 := hc k _ (strs_at (List.getElem?_eq_getElem hk))
    have c1 := (World.cell?_of_block (M.out.block b hb (fun h => h))).trans c0
    clear hs hl hc hg
    generalize L[k] = x at c0 c1 ⊢
    clear c0
    go_enter Try.func88, Try.ntmps88
    go_wp2
    go_ret2
    exact ⟨rfl, M.out⟩
end Go.Proofs.Ytdllgmhipenidaa
