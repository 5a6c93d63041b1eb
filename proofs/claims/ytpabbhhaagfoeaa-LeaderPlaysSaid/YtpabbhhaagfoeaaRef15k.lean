/- The reference of layer 15: Promise. -/
import Derived.Test.YtpabbhhaagfoeaaRef15i
import Derived.Test.YtpabbhhaagfoeaaRef15j
namespace Go.Proofs.Ytpabbhhaagfoeaa
set_option maxRecDepth 100000
open Go.RowKit
set_option linter.unusedVariables false
set_option linter.unusedSimpArgs false
theorem r15promise_any (w : World) (l : PLd) (p : LdA) {L : List ROp} (h : RL w l p L) (hg : l.good) (hpn : p.pn ≤ 1000) (hkn : p.kn ≤ 500000) (hon : p.on ≤ 500000) (node : Int) (b low : Nat) (hlo64 : low < 18446744073709551616) {A : Option Addr} {c n : Nat} {vs : List PVt} (hv : RVs w A c n vs) (hn : n ≤ 100000) (hvs : ∀ v ∈ vs, v.slot < 18446744073709551616 ∧ v.bal < 18446744073709551616) :
    Calls Try.prog 14 #[.agg (ldC l p), .int .i64 node, .int .u64 (b : Int), .int .u64 (low : Int), .slice A n c] w (RPrm w l p L node b low n vs) := by
  by_cases hd : l.deaf node b
  · exact r15deaf_any w l p h (by omega) node b low vs hd
  · have h0 : 0 ≤ node := by unfold PLd.deaf at hd; omega
    obtain ⟨nd, rfl⟩ : ∃ nd : Nat, node = (nd : Int) := ⟨node.toNat, by omega⟩
    by_cases hl : l.first < low
    · exact r15hearI w l p h hg hpn hkn hon nd b low hlo64 hv hn hvs hd hl
    · exact r15hearJ w l p h hg hpn hkn hon nd b low hlo64 hv hn hvs hd hl
end Go.Proofs.Ytpabbhhaagfoeaa
