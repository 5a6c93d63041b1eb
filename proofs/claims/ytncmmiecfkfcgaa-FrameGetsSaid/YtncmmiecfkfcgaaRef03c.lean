/- The reference of layer 3: all whole frames at the front of a text. -/
import Derived.Test.YtncmmiecfkfcgaaRef03b
import Derived.Test.YtncmmiecfkfcgaaFrame5
namespace Go.Proofs.Ytncmmiecfkfcgaa
open Go.RowKit
set_option linter.unusedVariables false

theorem infoF : (Try.prog.info? 30).map (fun i => (i.zero, i.size, i.bytes)) = some (some (.agg #[.int .u8 0, .string ⟨#[]⟩]), 2, 24) := by kernel_rfl
theorem two_new_at {w : World} {t : TypeId} {x y : Value} {g : Nat} (hg : g = w.heap.size) : ∀ j u, [x, y][j]? = some u → (w.alloc (.cells #[x, y] t)).cell? ((⟨g, 0, none⟩ : Addr).add j) = some u := by
  subst hg; exact two_new
def sfrs (l : List (UInt8 × List UInt8)) : List Value := l.flatMap fun p => [.int .u8 (p.1.toNat : Int), .string (strOf p.2)]
theorem sfrs_snoc (l : List (UInt8 × List UInt8)) (p : UInt8 × List UInt8) : sfrs (l ++ [p]) = sfrs l ++ [.int .u8 (p.1.toNat : Int), .string (strOf p.2)] := by simp [sfrs]
theorem r3get_ok (w : World) {xs bb : List UInt8} {k : UInt8} {N : Nat} (hl : xs.length ≤ 140737488355328) (hE : getE xs = 0) (hK : getK xs = k) (hB : getB xs = bb) (hN : getN xs = N) :
    Calls Try.prog 11 #[.string (strOf xs)] w fun e w' => e = .returned (.tuple #[.agg #[.int .u8 (k.toNat : Int), .string (strOf bb)], .int .i64 (N : Int), .int .i64 0]) ∧ Mods Nil w w' := by
  have := r3get_any w xs hl
  unfold RGot gotK gotB gotN at this
  rw [if_pos hE, if_pos hE, if_pos hE, hE, hK, hB, hN] at this
  exact this
theorem r3get_bad (w : World) {xs : List UInt8} {E : Int} (hl : xs.length ≤ 140737488355328) (hE : getE xs = E) (h0 : E ≠ 0) :
    Calls Try.prog 11 #[.string (strOf xs)] w fun e w' => e = .returned (.tuple #[.agg #[.int .u8 0, .string ⟨#[]⟩], .int .i64 0, .int .i64 E]) ∧ Mods Nil w w' := by
  have := r3get_any w xs hl
  subst hE
  unfold RGot gotK gotB gotN at this
  rw [if_neg h0, if_neg h0, if_neg h0] at this
  exact this

set_option maxRecDepth 100000 in
set_option maxHeartbeats 6400000 in
theorem r3all_any (w : World) (xs : List UInt8) (hl : xs.length ≤ 1000000) :
    Calls Try.prog 13 #[.string (strOf xs)] w fun e w' => ∃ v, e = .returned (.tuple #[v, .int .i64 ((allOf xs).2 : Int)]) ∧ w'.ownsRow w.heap.size 30 2 v (allOf xs).1.length (sfrs (allOf xs).1) ∧ Mods Nil w w' := by
  obtain ⟨n, hn⟩ : ∃ n, xs.length = n := ⟨_, rfl⟩
  obtain ⟨i0, hi, hz0, hz1, hz2⟩ := info_parts infoF
  have hsz : (strOf xs).size = n := by simp [hn]
  have hn6 : n ≤ 1000000 := by omega
  have HN := Lib.hid hn
  clear hl hn
  go_enter Try.func13, Try.ntmps13
  go_wp2_with fail
  go_loopw [4, 5] (fun v i wr => ∃ (pre : List (UInt8 × List UInt8)) (p t : Nat) (rest : List UInt8), i = .int .i64 t ∧ t ≤ n ∧ xs.drop t = rest ∧ pre.length = p ∧ p * 6 ≤ t ∧ (allOf xs).1 = pre ++ (allOf rest).1 ∧ (allOf xs).2 = t + (allOf rest).2 ∧ wr.ownsRow w.heap.size 30 2 v p (sfrs pre) ∧ Mods Nil w wr) (fun _ i _ => n - (intOf i).toNat)
  case atStart => exact ⟨[], 0, 0, xs, rfl, by omega, by simp, rfl, by omega, by simp, by simp, World.ownsRow_nil _ _ _ _, Mods.refl _ _⟩
  case round =>
    obtain ⟨pre, p, t, rest, rfl, ht, hr, hp, hp6, h1, h2, hown, hmo⟩ := hrel
    have htI : (t : Int) ≤ (n : Int) := by omega
    have x1 : (strOf xs).extract t n = strOf rest := by
      rw [strOf_extract, hr, List.take_of_length_le (by rw [← hr]; have := HN.out; simp; omega)]
    have hrl : rest.length + t = n := by rw [← hr]; have := HN.out; simp; omega
    have HO := Lib.hid hown
    have HMO := Lib.hid hmo
    have HR := Lib.hid hr
    have HP := Lib.hid hp
    have H1 := Lib.hid h1
    have H2 := Lib.hid h2
    have HRL := Lib.hid hrl
    clear hown hmo hr hp h1 h2 hrl
    by_cases hE : getE rest = 0
    · obtain ⟨kk, hkk⟩ : ∃ kk, getK rest = kk := ⟨_, rfl⟩
      obtain ⟨bb, hbb⟩ : ∃ bb, getB rest = bb := ⟨_, rfl⟩
      obtain ⟨nn, hnn⟩ : ∃ nn, getN rest = nn := ⟨_, rfl⟩
      have hgo := allOf_go hE
      rw [hkk, hbb, hnn] at hgo
      have h6 := getN_pos rest
      have hle := (getE_zero hE).2.2.1
      rw [hnn] at h6 hle
      have hnt : t + nn ≤ n := by have := HRL.out; omega
      have hntI : (t : Int) + (nn : Int) ≤ 1000000 := by omega
      have HGET := Lib.hid (fun W => r3get_ok W (by have := HRL.out; omega) hE hkk hbb hnn)
      have HGO := Lib.hid hgo
      clear hE hkk hbb hnn hgo hle
      go_wp2_with (first
        | (go_at_call 11; refine (HGET.out _).mono ?_; rintro e w2 ⟨rfl, m2⟩; obtain ⟨d0, d1, d2, d3⟩ := (Blk.new w2 30 #[.int .u8 (kk.toNat : Int), .string (strOf bb)]).two; have M2 := Lib.hid (m2.alloc (.cells #[.int .u8 (kk.toNat : Int), .string (strOf bb)] 30)); have HO2 := Lib.hid (own_mods HO.out (m2.alloc (.cells #[.int .u8 (kk.toNat : Int), .string (strOf bb)] 30)) (fun _ _ h => h)); clear m2)
        | (at_builtin; go_loud (refine wpList_append_own _ rfl _ _ 36 rfl w.heap.size 30 i0 (.agg #[.int .u8 0, .string ⟨#[]⟩]) 2 24 Try.underlying36 hi hz0 hz1 hz2 rfl (by decide) u4 p (sfrs pre) rfl (HO2.out.alloc _) ⟨w2.heap.size + 1, 0, none⟩ 1 1 [.int .u8 (kk.toNat : Int), .string (strOf bb)] rfl rfl (two_new_at (by simp)) (by simp [Value.oneCell']) (by unfold maxLen; omega) (by omega) (by have := HMO.out.size; have := M2.out.size; simp at this ⊢; omega) ?_; intro v' w3 hown hgrow _; have HO3 := Lib.hid hown; have M3 := Lib.hid (show Mods Nil w w3 from ((HMO.out.trans M2.out).alloc _).nil_trans ((Mods.refl (fun q => u4.ownBlock = some q) _).grown hgrow (fun q hq _ => hq)) (fun i h => (HO2.out.lt i h).1)); clear hown hgrow)))
      refine ⟨⟨pre ++ [(kk, bb)], p + 1, t + nn, rest.drop nn, by go_num, by omega, ?_, by simp [HP.out], by omega, ?_, ?_, ?_, M3.out⟩, by simp [intOf]; omega⟩
      · rw [← HR.out, List.drop_drop]
      · rw [H1.out, HGO.out]; simp
      · rw [H2.out, HGO.out]; simp; omega
      · rw [sfrs_snoc]; exact HO3.out
    · obtain ⟨E, hEE⟩ : ∃ E, getE rest = E := ⟨_, rfl⟩
      have hst := allOf_stop hE
      rw [hEE] at hE
      have HST := Lib.hid hst
      have HGET := Lib.hid (fun W => r3get_bad W (by have := HRL.out; omega) hEE hE)
      have hb2 : (E != 0) = true := by simp [hE]
      have hb3 : (E == 0) = false := by simp [hE]
      clear hE hEE hst
      go_wp2_with (first
        | (go_at_call 11; refine (HGET.out _).mono ?_; rintro e w2 ⟨rfl, m2⟩; have M2 := Lib.hid m2; clear m2))
      go_ret2
      refine ⟨u4, ?_, ?_, (HMO.out.trans M2.out).alloc _⟩
      · rw [H2.out, HST.out]; rfl
      · rw [H1.out, HST.out, List.append_nil, HP.out]
        exact own_mods HO.out (M2.out.alloc _) (fun _ _ h => h)
end Go.Proofs.Ytncmmiecfkfcgaa
