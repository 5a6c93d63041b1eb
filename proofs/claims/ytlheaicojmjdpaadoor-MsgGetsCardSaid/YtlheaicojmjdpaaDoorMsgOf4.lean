/- A message as the reference has it. -/
import Derived.Test.YtlheaicojmjdpaaDoorRef04A
import Derived.Test.YtlheaicojmjdpaaDoorHelp4
import Derived.Test.YtlheaicojmjdpaaDoorMemX
namespace Go.Proofs.YtlheaicojmjdpaaDoor
set_option maxRecDepth 100000
open Go.RowKit
set_option linter.unusedVariables false

/-- A result that is a struct. -/
theorem results_row1 {P : Program} {fn : Func} {p : Tmp} {T1 : TypeId} (h : fn.results = #[.cell p T1]) (tmps : Array Value) (w : World) {g1 : Nat} {t1 : TypeId} {cs1 : Array Value} {D1 : TypeDesc}
    (e1 : tmps.getD p undef = .pointer (some ⟨g1, 0, none⟩)) (b1 : Blk w g1 t1 cs1)
    (u1 : P.underlying T1 = some D1) (q1 : (match D1 with | .struct _ | .array _ _ => true | _ => false) = true) (i1 : (P.info? T1).map (·.size) = some cs1.size) :
    (results fn tmps).run P w = .ok (.agg cs1) w := by
  have r1 := run_loadVar_row (P := P) w g1 t1 T1 cs1 (0, 0) D1 b1 u1 q1 i1
  have e1' : tmps[p]?.getD undef = .pointer (some ⟨g1, 0, none⟩) := by simpa using e1
  simp [results, h, e1', asAddr, r1]

set_option maxHeartbeats 8000000 in
theorem msgOf_any {w : World} {m : PM} {L : Loc} (hi : In w m L) :
    Calls Tryd.prog 14 #[.agg (MC m L)] w fun e w' => e = .returned (.agg (RC m L.Av L.cv)) ∧ Mods Nil w w' := by
  have mA := (Mods.refl Nil w).alloc (.cells (MC m L) 32)
  have bA := (Blk.new w 32 (MC m L)).alloc (.cells #[.int .i64 0, .int .u64 0, .int .u64 0, .int .i64 0, .int .i64 0, .int .u64 0, .int .u64 0, .int .u64 0, .int .i64 0, .slice none 0 0, .string ⟨#[]⟩] 36)
  have bB := Blk.new (w.alloc (.cells (MC m L) 32)) 36 (RC {} none 0)
  rw [show (w.alloc (.cells (MC m L) 32)).heap.size = w.heap.size + 1 from by simp] at bB
  have mB := mA.alloc (.cells #[.int .i64 0, .int .u64 0, .int .u64 0, .int .i64 0, .int .i64 0, .int .u64 0, .int .u64 0, .int .u64 0, .int .i64 0, .slice none 0 0, .string ⟨#[]⟩] 36)
  have kc := run_string_sl (P := Tryd.prog) ((w.alloc (.cells (MC m L) 32)).alloc (.cells #[.int .i64 0, .int .u64 0, .int .u64 0, .int .i64 0, .int .i64 0, .int .u64 0, .int .u64 0, .int .u64 0, .int .i64 0, .slice none 0 0, .string ⟨#[]⟩] 36)) 22 5 Tryd.underlying22 Tryd.underlying5 L.Ab m.body.length L.cb m.body rfl (hi.b.mods mB (fun _ _ h => h)) 9 Tryd.underlying9
  have MB := Lib.hid mB
  have BB := Lib.hid bB
  obtain ⟨c0, c1, c2, c3, c4, c5, c6, c7, c8, c9, c10⟩ := bA.mc
  clear mA mB bA bB hi
  go_enter Tryd.func14, Tryd.ntmps14
  go_wp2_with (refine wpList_store_row rfl _ _ _ rfl rfl (w.heap.size + 1) rfl _ (RC {} none 0) (RC m L.Av L.cv) rfl BB.out rfl (RC_one _ _ _) RC_info (RC_cells _ _ _) ?_)
  have bF : Blk (((w.alloc (.cells (MC m L) 32)).alloc (.cells #[.int .i64 0, .int .u64 0, .int .u64 0, .int .i64 0, .int .i64 0, .int .u64 0, .int .u64 0, .int .u64 0, .int .i64 0, .slice none 0 0, .string ⟨#[]⟩] 36)).setRow (w.heap.size + 1) (RC m L.Av L.cv)) (w.heap.size + 1) 36 (RC m L.Av L.cv) := BB.out.setRow (RC m L.Av L.cv)
  have mFw := Mods.setRow (S := Nil) (g := w.heap.size + 1) MB.out (fun h => by omega) (RC m L.Av L.cv)
  generalize ((w.alloc (.cells (MC m L) 32)).alloc (.cells #[.int .i64 0, .int .u64 0, .int .u64 0, .int .i64 0, .int .i64 0, .int .u64 0, .int .u64 0, .int .u64 0, .int .i64 0, .slice none 0 0, .string ⟨#[]⟩] 36)).setRow (w.heap.size + 1) (RC m L.Av L.cv) = W2 at bF mFw ⊢
  exact bodyPost_ret (results_row1 rfl _ _ rfl bF Tryd.underlying36 rfl RC_info) rfl ⟨rfl, mFw⟩
end Go.Proofs.YtlheaicojmjdpaaDoor
