/- Package acceptor as the statements meet it: an acceptor by its pointer, blocks X that it never touches: AccS (Acc3), its calls (Acc4 to Acc8), Put (Acc9), Get (AccB). -/
import Derived.Test.YtfnecjogiafekaaAccM2
namespace Go.Proofs.Ytfnecjogiafekaa
set_option maxRecDepth 100000
open Go.RowKit
set_option linter.unusedVariables false
section
variable {W0 W : World} {X : Nat → Prop} {b T : Nat} {a : PAc}
theorem AccS.acc (h : AccS W0 W X b a T) (hT : T ≤ 1000) {v : PVt} {n c : Nat} {A : Option Addr} (hs : v.slot < 18446744073709551616) (hb : v.bal < 18446744073709551616) (hn : v.val.length = n) (hn2 : n ≤ 100000) (hv : Sl W A c (bts v.val)) :
    Calls Try.prog 30 #[.pointer (some ⟨b, 0, none⟩), .agg #[.int .u64 (v.slot : Int), .int .u64 (v.bal : Int), .slice A n c]] W fun e W' => e = .returned (.int .i64 (a.accE v : Int)) ∧ AccS W0 W' X b (a.accept v) (T + 1) ∧ Mods (AM W0 X) W W' :=
  h.acc0 hT hs hb hn hn2 hv
end
end Go.Proofs.Ytfnecjogiafekaa
