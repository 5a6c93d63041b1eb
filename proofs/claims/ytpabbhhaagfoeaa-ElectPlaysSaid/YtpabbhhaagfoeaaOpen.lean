/- Arguments opened into what the walks ask. No program. -/
import Derived.Test.YtpabbhhaagfoeaaBaseM
import Derived.ProofKit
import Derived.OpenShut
import Derived.ShutString
import Derived.ChangeOld
import Derived.Carry
namespace Go.Proofs.Ytpabbhhaagfoeaa
set_option maxRecDepth 100000
open Go.ChangeShapes Go.WideShapes Go.ChangeAt Go.RowKit

theorem open_ints_sl {H : Type} {enc : TypeId × Value → H} {P : Program} {k : IntKind} {t e : TypeId} (ht : P.underlying t = some (.slice e)) (he : P.underlying e = some (.int k)) (hc : P.cellsOf e = 1) {W : World} {a0 : Option Addr} {len cap : Nat} {d0 : DataW H} {p : List MemPlace}
    (h0 : DataW.Trod enc P W 0 (fun _ => true) true t (.slice a0 len cap) d0 p) :
    ∃ zs : List Int, zs.length = len ∧ Sl W a0 cap (zs.map (Value.int k)) ∧ ∀ n ∈ zs, (Lit.int k n).wf = true := by
  obtain ⟨fuel, hf⟩ := h0
  rcases open_ints ht he hc hf with ⟨hcs, hx⟩ | ⟨x, l, c, zs, hcs, _, hl, hm, hz, _, hcell, hwz⟩
  · simp [Value.cells] at hcs
    obtain ⟨rfl, rfl, rfl⟩ := hcs
    exact ⟨[], rfl, Sl.none_ _, fun _ h => by cases h⟩
  · simp [Value.cells] at hcs
    obtain ⟨rfl, rfl, rfl⟩ := hcs
    have hz' : zs.length = cap := by simpa using hz
    refine ⟨zs.take len, by simp; omega, ⟨by simp; omega, hm, (fun h => by cases h), ?_⟩, fun n hn => hwz n (List.mem_of_mem_take hn)⟩
    by_cases h0 : zs.length = 0
    · left
      rw [List.eq_nil_of_length_eq_zero h0]; simp
    · right
      obtain ⟨b, off, spot⟩ := x
      have hspot : spot = none := by simpa [Addr.add] using World.cell?_spot (hcell 0 (by omega))
      subst hspot
      refine ⟨b, off, rfl, fun j u hu => ?_⟩
      have hj : j < zs.length ∧ j < len ∧ u = .int k (zs.getD j 0) := by
        rw [List.getElem?_map, List.getElem?_take] at hu
        split at hu
        · rename_i hjl
          rcases Nat.lt_or_ge j zs.length with hlt | hge
          · rw [List.getElem?_eq_getElem hlt] at hu
            simp at hu
            exact ⟨hlt, hjl, by rw [← hu]; simp [List.getD, hlt]⟩
          · rw [List.getElem?_eq_none hge] at hu
            simp at hu
        · simp at hu
      rw [hj.2.2]
      have := hcell j hj.1
      rwa [Addr.add_lit] at this

theorem u8_of_wf {x : Int} (h : (Lit.int .u8 x).wf = true) : 0 ≤ x ∧ x < 256 := by
  have h1 : IntKind.u8.min = 0 := rfl
  have h2 : IntKind.u8.max = 255 := rfl
  simp only [Lit.wf, Bool.and_eq_true, decide_eq_true_eq] at h
  omega
theorem u16_of_wf {x : Int} (h : (Lit.int .u16 x).wf = true) : 0 ≤ x ∧ x < 65536 := by
  have h1 : IntKind.u16.min = 0 := rfl
  have h2 : IntKind.u16.max = 65535 := rfl
  simp only [Lit.wf, Bool.and_eq_true, decide_eq_true_eq] at h
  omega
theorem u64_of_wf {x : Int} (h : (Lit.int .u64 x).wf = true) : 0 ≤ x ∧ x < 18446744073709551616 := by
  have h1 : IntKind.u64.min = 0 := rfl
  have h2 : IntKind.u64.max = 18446744073709551615 := rfl
  simp only [Lit.wf, Bool.and_eq_true, decide_eq_true_eq] at h
  omega
theorem bytes_of_wf : ∀ (zs : List Int), (∀ n ∈ zs, (Lit.int .u8 n).wf = true) → ∃ xs : List UInt8, zs.map (Value.int .u8) = bts xs ∧ xs.length = zs.length
  | [], _ => ⟨[], rfl, rfl⟩
  | z :: zs, h => by
    obtain ⟨xs, h1, h2⟩ := bytes_of_wf zs (fun n hn => h n (List.mem_cons_of_mem _ hn))
    have hz := u8_of_wf (h z List.mem_cons_self)
    refine ⟨UInt8.ofNat z.toNat :: xs, ?_, by simp [h2]⟩
    have : ((UInt8.ofNat z.toNat).toNat : Int) = z := by simp; omega
    simp only [List.map_cons, h1, bts, this]
theorem nats_of_wf : ∀ (zs : List Int), (∀ n ∈ zs, (Lit.int .u64 n).wf = true) → ∃ xs : List Nat, zs = xs.map (fun (n : Nat) => (n : Int)) ∧ ∀ n ∈ xs, n < 18446744073709551616
  | [], _ => ⟨[], rfl, fun _ h => by cases h⟩
  | z :: zs, h => by
    obtain ⟨xs, h1, h2⟩ := nats_of_wf zs (fun n hn => h n (List.mem_cons_of_mem _ hn))
    have hz := u64_of_wf (h z List.mem_cons_self)
    refine ⟨z.toNat :: xs, ?_, ?_⟩
    · simp only [List.map_cons, ← h1]
      congr 1
      omega
    · intro n hn
      rcases List.mem_cons.1 hn with rfl | hn
      · omega
      · exact h2 n hn
theorem open_bytes_sl {H : Type} {enc : TypeId × Value → H} {P : Program} {t e : TypeId} (ht : P.underlying t = some (.slice e)) (he : P.underlying e = some (.int .u8)) (hc : P.cellsOf e = 1) {W : World} {a0 : Option Addr} {len cap : Nat} {d0 : DataW H} {p : List MemPlace}
    (h0 : DataW.Trod enc P W 0 (fun _ => true) true t (.slice a0 len cap) d0 p) :
    ∃ xs : List UInt8, xs.length = len ∧ Sl W a0 cap (bts xs) := by
  obtain ⟨zs, h1, h2, h3⟩ := open_ints_sl ht he hc h0
  obtain ⟨xs, h4, h5⟩ := bytes_of_wf zs h3
  exact ⟨xs, by omega, by rw [← h4]; exact h2⟩
def nums (xs : List Nat) : List Value := xs.map fun (n : Nat) => Value.int .u64 (n : Int)
theorem open_u64s_sl {H : Type} {enc : TypeId × Value → H} {P : Program} {t e : TypeId} (ht : P.underlying t = some (.slice e)) (he : P.underlying e = some (.int .u64)) (hc : P.cellsOf e = 1) {W : World} {a0 : Option Addr} {len cap : Nat} {d0 : DataW H} {p : List MemPlace}
    (h0 : DataW.Trod enc P W 0 (fun _ => true) true t (.slice a0 len cap) d0 p) :
    ∃ xs : List Nat, xs.length = len ∧ Sl W a0 cap (nums xs) ∧ ∀ n ∈ xs, n < 18446744073709551616 := by
  obtain ⟨zs, h1, h2, h3⟩ := open_ints_sl ht he hc h0
  obtain ⟨xs, h4, h5⟩ := nats_of_wf zs h3
  refine ⟨xs, by rw [← h1, h4]; simp, ?_, h5⟩
  rw [h4, List.map_map] at h2
  exact h2
end Go.Proofs.Ytpabbhhaagfoeaa
