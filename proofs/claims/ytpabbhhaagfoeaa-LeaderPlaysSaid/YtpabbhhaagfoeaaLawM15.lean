/- Texts laid as one: Help15, Awake15, Vts15. -/
import Derived.Test.YtpabbhhaagfoeaaLdrM3
import Derived.Test.YtpabbhhaagfoeaaClone
import Derived.Laws.MakeOwn
import Derived.Test.YtpabbhhaagfoeaaAcc2
import Derived.Test.YtpabbhhaagfoeaaOpen

section
/- What the statements of layer 15 share: a leader's calls with their outcomes named; what is told, kept. -/
namespace Go.Proofs.Ytpabbhhaagfoeaa
set_option maxRecDepth 100000
open Go.RowKit
set_option linter.unusedVariables false
set_option linter.unusedSimpArgs false
section
variable {W0 W W' V : World} {X S : Nat → Prop} {b T : Nat} {l l' : PLd}
theorem LdS.promise' (h : LdS W0 W X b l T) (hT : T ≤ 500000) {node : Int} (hn1 : -9223372036854775808 ≤ node) (hn2 : node ≤ 9223372036854775807) {x low : Nat} (hx : x < 18446744073709551616) (hl : low < 18446744073709551616) {D : Nat → Prop} {A : Option Addr} {c n : Nat} {L : List VtP} (hv : PVs W D A c n L) (hn : n ≤ 100000) (hvl : ∀ q ∈ L, q.val.length ≤ 100000)
    {told : List PVt} {r : Bool} {T' : Nat} (e1 : l.promise node x low (L.map VtP.plain) = l') (e2 : l.promV node x low (L.map VtP.plain) = told) (e3 : l.promB node x low (L.map VtP.plain) = r) (e4 : T + n + 4096 = T') :
    Calls Try.prog 13 #[.pointer (some ⟨b, 0, none⟩), .int .i64 node, .int .u64 (x : Int), .int .u64 (low : Int), .slice A n c] W (PromT W0 W X b l' T' told r) := by
  subst e1; subst e2; subst e3; subst e4
  exact h.promise hT hn1 hn2 hx hl hv hn hvl
theorem LdS.propose' (h : LdS W0 W X b l T) (hT : T ≤ 500000) {v : List UInt8} {n c : Nat} {A : Option Addr} (hn : v.length = n) (hn2 : n ≤ 100000) (hv : Sl W A c (bts v)) {x : PVt} {E : Nat} (e1 : l.propose v = l') (e2 : l.propX v = x) (e3 : l.propE = E) :
    Calls Try.prog 17 #[.pointer (some ⟨b, 0, none⟩), .slice A n c] W (PropT W0 W X b l' (T + 1) x E) := by
  subst e1; subst e2; subst e3
  exact h.propose hT hn hn2 hv
theorem LdS.accepted' (h : LdS W0 W X b l T) (hT : T ≤ 500000) {node : Int} (hn1 : -9223372036854775808 ≤ node) (hn2 : node ≤ 9223372036854775807) {x s : Nat} (hx : x < 18446744073709551616) (hs : s < 18446744073709551616) {v : Option PVt} (e1 : l.accept node x s = l') (e2 : l.chosen node x s = v) :
    Calls Try.prog 20 #[.pointer (some ⟨b, 0, none⟩), .int .i64 node, .int .u64 (x : Int), .int .u64 (s : Int)] W (AccdT W0 W X b l' T v) := by
  subst e1; subst e2
  exact h.accepted hT hn1 hn2 hx hs
theorem LdS.begin' (h : LdS W0 W X b l T) {x f : Nat} (hx : x < 18446744073709551616) (hf : f < 18446744073709551616) {E : Nat} (e1 : l.begin_ x f = l') (e2 : l.beginE x = E) :
    Calls Try.prog 11 #[.pointer (some ⟨b, 0, none⟩), .int .u64 (x : Int), .int .u64 (f : Int)] W fun e W' => e = .returned (.int .i64 (E : Int)) ∧ LdS W0 W' X b l' T ∧ Mods (LDM W0 X) W W' := by
  subst e1; subst e2
  exact h.begin_ hx hf
/-! As most walks want it: what was told is not written to any more, or not read any more. -/
theorem LdS.promise2 (h : LdS W0 W X b l T) (hT : T ≤ 500000) {node : Int} (hn1 : -9223372036854775808 ≤ node) (hn2 : node ≤ 9223372036854775807) {x low : Nat} (hx : x < 18446744073709551616) (hl : low < 18446744073709551616) {D : Nat → Prop} {A : Option Addr} {c n : Nat} {L : List VtP} (hv : PVs W D A c n L) (hn : n ≤ 100000) (hvl : ∀ q ∈ L, q.val.length ≤ 100000)
    {told : List PVt} {r : Bool} {T' : Nat} (e1 : l.promise node x low (L.map VtP.plain) = l') (e2 : l.promV node x low (L.map VtP.plain) = told) (e3 : l.promB node x low (L.map VtP.plain) = r) (e4 : T + n + 4096 = T') :
    Calls Try.prog 13 #[.pointer (some ⟨b, 0, none⟩), .int .i64 node, .int .u64 (x : Int), .int .u64 (low : Int), .slice A n c] W fun e W' => ∃ A n c L, e = .returned (.tuple #[.slice A n c, .bool r]) ∧ L.map VtP.plain = told ∧ PVs W' (NEW W W') A c n L ∧ LdS W0 W' X b l' T' ∧ Mods (LDM W0 X) W W' :=
  (h.promise' hT hn1 hn2 hx hl hv hn hvl e1 e2 e3 e4).mono fun e W' ⟨A, n, c, L, X', h1, h2, h3, h4, h5, h6, h7⟩ => ⟨A, n, c, L, h1, h2, h3.sub (fun k hk => hk.1), h6.more (Mods.refl _ _) (fun k hk => .inl (h4 k hk)), h7⟩
theorem LdS.propose2 (h : LdS W0 W X b l T) (hT : T ≤ 500000) {v : List UInt8} {n c : Nat} {A : Option Addr} (hn : v.length = n) (hn2 : n ≤ 100000) (hv : Sl W A c (bts v)) {x : PVt} {E : Nat} (e1 : l.propose v = l') (e2 : l.propX v = x) (e3 : l.propE = E) :
    Calls Try.prog 17 #[.pointer (some ⟨b, 0, none⟩), .slice A n c] W fun e W' => ∃ A n c, e = .returned (.tuple #[.agg #[.int .u64 (x.slot : Int), .int .u64 (x.bal : Int), .slice A n c], .int .i64 (E : Int)]) ∧ (x.val.length = n ∧ Sl W' A c (bts x.val) ∧ (bts x.val ≠ [] → ∀ a, A = some a → NEW W W' a.block)) ∧ LdS W0 W' X b l' (T + 1) ∧ Mods (LDM W0 X) W W' :=
  (h.propose' hT hn hn2 hv e1 e2 e3).mono fun e W' ⟨A, n, c, X', h1, h2, h3, h4, h5, h6, h7, h8⟩ => ⟨A, n, c, h1, ⟨h2, h3, fun hne a ha => (h4 hne a ha).1⟩, h7.more (Mods.refl _ _) (fun k hk => .inl (h5 k hk)), h8⟩
theorem LdS.accepted2 (h : LdS W0 W X b l T) (hT : T ≤ 500000) {node : Int} (hn1 : -9223372036854775808 ≤ node) (hn2 : node ≤ 9223372036854775807) {x s : Nat} (hx : x < 18446744073709551616) (hs : s < 18446744073709551616) {v : Option PVt} (e1 : l.accept node x s = l') (e2 : l.chosen node x s = v) :
    Calls Try.prog 20 #[.pointer (some ⟨b, 0, none⟩), .int .i64 node, .int .u64 (x : Int), .int .u64 (s : Int)] W fun e W' => ∃ A n c, e = .returned (.tuple #[.agg #[.int .u64 ((orZ v).slot : Int), .int .u64 ((orZ v).bal : Int), .slice A n c], .bool v.isSome]) ∧ ((orZ v).val.length = n ∧ Sl W' A c (bts (orZ v).val) ∧ (bts (orZ v).val ≠ [] → ∀ a, A = some a → LDM W0 X a.block)) ∧ LdS W0 W' (LDN X W W') b l' T ∧ Mods (LDM W0 X) W W' :=
  (h.accepted' hT hn1 hn2 hx hs e1 e2).mono fun e W' ⟨A, n, c, h1, h2, h3, h4, h5, h6⟩ => ⟨A, n, c, h1, ⟨h2, h3, h4⟩, h5, h6⟩
/-- Votes that were told stay, whatever the leader does then. -/
theorem PVs.held {D : Nat → Prop} {A : Option Addr} {c n : Nat} {L : List VtP} (h : PVs W D A c n L) (hm : Mods (LDM W0 X) W V) (hD : ∀ k, D k → X k) : PVs V D A c n L := h.mods hm (fun k hk hd => hk.2 (hD k hd))
theorem Sl.held {xs : List Value} {A : Option Addr} {c : Nat} (h : Sl W A c xs) (hm : Mods (LDM W0 X) W V) (hX : xs ≠ [] → ∀ a, A = some a → X a.block) : Sl V A c xs := h.mods' hm (fun hne a ha hs => hs.2 (hX hne a ha))
end
theorem ldn_new {X : Nat → Prop} {W W' : World} {k : Nat} (h : NEW W W' k) : LDN X W W' k := .inr h
theorem ldn_old {X : Nat → Prop} {W W' : World} {k : Nat} (h : X k) : LDN X W W' k := .inl h
/-- It hears a promise. -/
theorem deaf_not {l : PLd} {node : Int} {b : Nat} (h1 : l.stage = 1) (h2 : b = l.bal) (h3 : 0 ≤ node) (h4 : node < (l.many : Int)) (h5 : node.toNat ∉ l.prom) : ¬ l.deaf node b := by
  unfold PLd.deaf
  rintro (h | h | h | h | h)
  · exact h h1
  · exact h h2
  · omega
  · omega
  · exact h5 h
theorem mute_not {l : PLd} {node : Int} {b : Nat} (h1 : l.stage = 2) (h2 : b = l.bal) (h3 : 0 ≤ node) (h4 : node < (l.many : Int)) : ¬ l.mute node b := by
  unfold PLd.mute
  omega
theorem promise_deaf {l : PLd} {node : Int} {b : Nat} (hd : l.deaf node b) (low : Nat) (vs : List PVt) : l.promise node b low vs = l ∧ l.promV node b low vs = [] ∧ l.promB node b low vs = false := by
  unfold PLd.promise PLd.promV PLd.promB
  rw [if_pos hd, if_pos hd, if_pos hd]
  exact ⟨rfl, rfl, rfl⟩
theorem promise_few {l : PLd} {node : Int} {b : Nat} (hd : ¬ l.deaf node b) (hn : l.prom.length + 1 ≤ l.many / 2) (low : Nat) (vs : List PVt) : l.promise node b low vs = l.note node.toNat low vs ∧ l.promV node b low vs = [] ∧ l.promB node b low vs = false := by
  have h2 : (l.note node.toNat low vs).prom.length ≤ (l.note node.toNat low vs).many / 2 := by simpa [PLd.note] using hn
  unfold PLd.promise PLd.promV PLd.promB
  rw [if_neg hd, if_neg hd, if_neg hd]
  unfold PLd.tally PLd.tallyV PLd.tallyB
  rw [if_pos h2, if_pos h2, if_pos h2]
  exact ⟨rfl, rfl, rfl⟩
theorem promise_far {l : PLd} {node : Int} {b : Nat} (hd : ¬ l.deaf node b) (hn : l.many / 2 < l.prom.length + 1) {low : Nat} {vs : List PVt} (hf : ∃ v ∈ noteVs l.known vs, farV (max l.first low) v) : l.promise node b low vs = (l.note node.toNat low vs).stop ∧ l.promV node b low vs = [] ∧ l.promB node b low vs = false := by
  have h2 : ¬ (l.note node.toNat low vs).prom.length ≤ (l.note node.toNat low vs).many / 2 := by simpa [PLd.note] using hn
  have h3 : (l.note node.toNat low vs).tooFar := hf
  unfold PLd.promise PLd.promV PLd.promB
  rw [if_neg hd, if_neg hd, if_neg hd]
  unfold PLd.tally PLd.tallyV PLd.tallyB
  rw [if_neg h2, if_neg h2, if_neg h2, if_pos h3, if_pos h3, if_pos h3]
  exact ⟨rfl, rfl, rfl⟩
theorem promise_lead {l : PLd} {node : Int} {b : Nat} (hd : ¬ l.deaf node b) (hn : l.many / 2 < l.prom.length + 1) {low : Nat} {vs : List PVt} (hf : ∀ v ∈ noteVs l.known vs, ¬ farV (max l.first low) v) : l.promise node b low vs = (l.note node.toNat low vs).lead ∧ l.promV node b low vs = (l.note node.toNat low vs).props ∧ l.promB node b low vs = true := by
  have h2 : ¬ (l.note node.toNat low vs).prom.length ≤ (l.note node.toNat low vs).many / 2 := by simpa [PLd.note] using hn
  have h3 : ¬ (l.note node.toNat low vs).tooFar := fun ⟨v, hv, h⟩ => hf v hv h
  unfold PLd.promise PLd.promV PLd.promB
  rw [if_neg hd, if_neg hd, if_neg hd]
  unfold PLd.tally PLd.tallyV PLd.tallyB
  rw [if_neg h2, if_neg h2, if_neg h2, if_neg h3, if_neg h3, if_neg h3]
  exact ⟨rfl, rfl, rfl⟩
theorem propose_ok {l : PLd} (h1 : l.stage = 2) (h2 : l.next ≠ 18446744073709551615) (v : List UInt8) : l.propose v = { l with next := l.next + 1, opn := l.opn ++ [⟨⟨l.next, l.bal, v⟩, []⟩] } ∧ l.propX v = ⟨l.next, l.bal, v⟩ ∧ l.propE = 0 := by
  have he : l.propE = 0 := by
    unfold PLd.propE
    rw [if_neg (fun h => h h1), if_neg h2]
  unfold PLd.propose PLd.propX
  rw [if_pos he, if_pos he]
  exact ⟨rfl, rfl, he⟩
theorem propose_idle {l : PLd} (h1 : l.stage ≠ 2) (v : List UInt8) : l.propose v = l ∧ l.propX v = ⟨0, 0, []⟩ ∧ l.propE = 33 := by
  have he : l.propE = 33 := by
    unfold PLd.propE
    rw [if_pos h1]
  unfold PLd.propose PLd.propX
  rw [if_neg (by rw [he]; omega), if_neg (by rw [he]; omega)]
  exact ⟨rfl, rfl, he⟩
theorem accept_mute {l : PLd} {node : Int} {b : Nat} (hm : l.mute node b) (s : Nat) : l.accept node b s = l ∧ l.chosen node b s = none := by
  unfold PLd.accept PLd.chosen
  rw [if_pos hm, if_pos hm]
  exact ⟨rfl, rfl⟩
theorem accept_hears {l : PLd} {node : Int} {b : Nat} (hm : ¬ l.mute node b) (s : Nat) : l.accept node b s = { l with opn := l.vote node.toNat s } ∧ l.chosen node b s = chosenO l.many node.toNat s l.opn := by
  unfold PLd.accept PLd.chosen
  rw [if_neg hm, if_neg hm]
  exact ⟨rfl, rfl⟩
end Go.Proofs.Ytpabbhhaagfoeaa
end

section
/- What the statements of layer 15 begin with: of three, two promises, a proposal and two votes. -/
namespace Go.Proofs.Ytpabbhhaagfoeaa
set_option maxRecDepth 1000000
open Go.RowKit
set_option linter.unusedVariables false
set_option linter.unusedSimpArgs false

theorem conv15 {w : World} {A : Option Addr} {c n : Nat} {xs : List UInt8} (hn : xs.length = n) (hs : Sl w A c (bts xs)) : (convert 34 9 (.slice A n c)).run Try.prog w = .ok (.string (strOf xs)) w :=
  run_string_sl _ 34 5 Try.underlying34 Try.underlying5 A n c _ hn hs 9 Try.underlying9
def aw0 : PLd := { many := 3 }
def aw1 : PLd := { many := 3, stage := 1, bal := 5 }
def aw2 : PLd := { many := 3, stage := 1, bal := 5, prom := [0] }
def aw3 : PLd := { many := 3, stage := 2, bal := 5, next := 2, prom := [0, 2], known := [⟨1, 3, [120]⟩], opn := [⟨⟨0, 5, []⟩, []⟩, ⟨⟨1, 5, [120]⟩, []⟩] }
def aw4 : PLd := { aw3 with next := 3, opn := [⟨⟨0, 5, []⟩, []⟩, ⟨⟨1, 5, [120]⟩, []⟩, ⟨⟨2, 5, [121]⟩, []⟩] }
def aw5 : PLd := { aw4 with opn := [⟨⟨0, 5, []⟩, []⟩, ⟨⟨1, 5, [120]⟩, []⟩, ⟨⟨2, 5, [121]⟩, [1]⟩] }
def aw6 : PLd := { aw4 with opn := [⟨⟨0, 5, []⟩, []⟩, ⟨⟨1, 5, [120]⟩, []⟩] }
theorem aw_begin : aw0.begin_ 5 0 = aw1 ∧ aw0.beginE 5 = 0 := ⟨rfl, rfl⟩
theorem aw_p1 : aw1.promise 0 5 0 [] = aw2 ∧ aw1.promV 0 5 0 [] = [] ∧ aw1.promB 0 5 0 [] = false :=
  promise_few (deaf_not rfl rfl (by decide) (by decide) (by decide)) (by decide) 0 []
theorem aw_p2 : aw2.promise 2 5 0 [⟨1, 3, [120]⟩] = aw3 ∧ aw2.promV 2 5 0 [⟨1, 3, [120]⟩] = [⟨0, 5, []⟩, ⟨1, 5, [120]⟩] ∧ aw2.promB 2 5 0 [⟨1, 3, [120]⟩] = true := by
  obtain ⟨h1, h2, h3⟩ := promise_lead (l := aw2) (node := 2) (b := 5) (low := 0) (vs := [⟨1, 3, [120]⟩]) (deaf_not rfl rfl (by decide) (by decide) (by decide)) (by decide) (fun v hv hf => by
    obtain rfl : v = ⟨1, 3, [120]⟩ := by simpa [aw2, noteVs, noteV] using hv
    have := hf.2
    simp [aw2] at this)
  exact ⟨h1.trans rfl, h2.trans rfl, h3⟩
theorem aw_x : aw3.propose [121] = aw4 ∧ aw3.propX [121] = ⟨2, 5, [121]⟩ ∧ aw3.propE = 0 := propose_ok rfl (by simp [aw3]) [121]
theorem aw_a1 : aw4.accept 1 5 2 = aw5 ∧ aw4.chosen 1 5 2 = none := accept_hears (mute_not rfl rfl (by decide) (by decide)) 2
theorem aw_a2 : aw5.accept 2 5 2 = aw6 ∧ aw5.chosen 2 5 2 = some ⟨2, 5, [121]⟩ := accept_hears (mute_not rfl rfl (by decide) (by decide)) 2
/-- A new slice of one vote. -/
theorem pvs_one {V : World} {g : Nat} {s bal : Nat} {A : Option Addr} {c : Nat} {xs : List UInt8} {n : Nat} (hg : g = V.heap.size) (hn : xs.length = n) (hV : Sl V A c (bts xs)) (hs : s < 18446744073709551616) (hb : bal < 18446744073709551616) :
    PVs (V.alloc (.cells #[.int .u64 (s : Int), .int .u64 (bal : Int), .slice A n c] 49)) (fun _ => True) (some ⟨g, 0, none⟩) 1 1 [⟨s, bal, A, c, xs⟩] := by
  subst hg
  subst hn
  refine ⟨rfl, ⟨rfl, Nat.le_refl _, by simp [maxLen], .inr ⟨V.heap.size, 0, rfl, fun j u hu => ?_⟩⟩, fun _ _ _ => trivial, fun q hq => ?_⟩
  · rw [Nat.zero_add, (Blk.new V 49 #[.int .u64 (s : Int), .int .u64 (bal : Int), .slice A xs.length c]).cell]
    simpa [pvc, VtP.cells] using hu
  · rw [List.mem_singleton.1 hq]
    exact ⟨hV.alloc _, fun _ _ _ => trivial, hs, hb⟩
set_option maxHeartbeats 6400000 in
theorem awake15_any (w : World) : Calls Try.prog 8 #[] w fun e w' => e = .returned (.bool true) ∧ Mods Nil w w' := by
  have HB1 : Hid (∀ (W : World) b, LdS w W (fun _ => False) b aw0 0 → Calls Try.prog 11 #[.pointer (some ⟨b, 0, none⟩), .int .u64 5, .int .u64 0] W fun e W' => e = .returned (.int .i64 0) ∧ LdS w W' (fun _ => False) b aw1 0) := Lib.hid (fun W b h => (h.begin' (x := 5) (f := 0) (by omega) (by omega) aw_begin.1 aw_begin.2).mono fun e W' ⟨h1, h2, _⟩ => ⟨h1, h2⟩)
  have HP1 : Hid (∀ (W : World) b, LdS w W (fun _ => False) b aw1 0 → Calls Try.prog 13 #[.pointer (some ⟨b, 0, none⟩), .int .i64 0, .int .u64 5, .int .u64 0, .slice none 0 0] W fun e W' => ∃ A n c, e = .returned (.tuple #[.slice A n c, .bool false]) ∧ LdS w W' (fun _ => False) b aw2 4096) := Lib.hid (fun W b h => (h.promise' (by omega) (node := 0) (x := 5) (low := 0) (by omega) (by omega) (by omega) (by omega) (PVs.none_ W (fun _ => False)) (by omega) (fun q hq => by cases hq) aw_p1.1 aw_p1.2.1 aw_p1.2.2 rfl).mono fun e W' ⟨A, n, c, L, X', h1, _, _, _, _, h6, _⟩ => ⟨A, n, c, h1, h6.more (Mods.refl _ _) (fun _ h => h.elim)⟩)
  have HP2 : Hid (∀ (W : World) b g g2, LdS w W (fun _ => False) b aw2 4096 → PVs W (fun _ => True) (some ⟨g, 0, none⟩) 1 1 [⟨1, 3, some ⟨g2, 0, none⟩, 1, [120]⟩] → Calls Try.prog 13 #[.pointer (some ⟨b, 0, none⟩), .int .i64 2, .int .u64 5, .int .u64 0, .slice (some ⟨g, 0, none⟩) 1 1] W fun e W' => ∃ (bb oo c : Nat) (A0 : Option Addr) (c0 : Nat) (A1 : Option Addr) (c1 : Nat) (Y : Nat → Prop), e = .returned (.tuple #[.slice (some ⟨bb, oo, none⟩) 2 c, .bool true]) ∧ PVs W' Y (some ⟨bb, oo, none⟩) c 2 [⟨0, 5, A0, c0, []⟩, ⟨1, 5, A1, c1, [120]⟩] ∧ LdS w W' Y b aw3 10000) := Lib.hid (fun W b g g2 h hv => (h.promise' (by omega) (node := 2) (x := 5) (low := 0) (by omega) (by omega) (by omega) (by omega) hv (by omega) (fun q hq => by rw [List.mem_singleton.1 hq]; simp) aw_p2.1 aw_p2.2.1 aw_p2.2.2 rfl).mono fun e W' ⟨A, n, c, L, X', h1, h2, h3, _, _, h4, _⟩ => by
    have hl : L.length = 2 := by have := congrArg List.length h2; simpa using this
    obtain ⟨q0, q1, rfl⟩ : ∃ q0 q1, L = [q0, q1] := by
      match L, hl with
      | [q0, q1], _ => exact ⟨q0, q1, rfl⟩
    obtain rfl : n = 2 := by rw [← h3.len]; rfl
    obtain ⟨bb, oo, rfl, _⟩ := h3.cells (j := 0) (q := q0) rfl
    obtain ⟨s0, b0, A0, c0, v0⟩ := q0
    obtain ⟨s1, b1, A1, c1, v1⟩ := q1
    simp [VtP.plain] at h2
    obtain ⟨⟨rfl, rfl, rfl⟩, rfl, rfl, rfl⟩ := h2
    exact ⟨bb, oo, c, A0, c0, A1, c1, X', h1, h3.sub (fun k hk => hk.2), h4.mono_T (by omega)⟩)
  have HX : Hid (∀ (W : World) (X : Nat → Prop) b A c, LdS w W X b aw3 10000 → Sl W A c (bts [121]) → Calls Try.prog 17 #[.pointer (some ⟨b, 0, none⟩), .slice A 1 c] W fun e W' => ∃ A' c', e = .returned (.tuple #[.agg #[.int .u64 2, .int .u64 5, .slice A' 1 c'], .int .i64 0]) ∧ LdS w W' X b aw4 10001 ∧ Mods (LDM w X) W W') := Lib.hid (fun W X b A c h hv => (h.propose' (by omega) (v := [121]) (n := 1) rfl (by omega) hv aw_x.1 aw_x.2.1 aw_x.2.2).mono fun e W' ⟨A', n, c', X', h1, h2, h3, h4, h5, h6, h7, h8⟩ => by
    obtain rfl : n = 1 := h2.symm
    exact ⟨A', c', h1, h7.more (Mods.refl _ _) (fun k hk => .inl (h5 k hk)), h8⟩)
  have HA1 : Hid (∀ (W : World) (X : Nat → Prop) b, LdS w W X b aw4 10001 → Calls Try.prog 20 #[.pointer (some ⟨b, 0, none⟩), .int .i64 1, .int .u64 5, .int .u64 2] W fun e W' => ∃ A' n c', e = .returned (.tuple #[.agg #[.int .u64 0, .int .u64 0, .slice A' n c'], .bool false]) ∧ LdS w W' (LDN X W W') b aw5 10001 ∧ Mods (LDM w X) W W') := Lib.hid (fun W X b h => (h.accepted' (by omega) (node := 1) (x := 5) (s := 2) (by omega) (by omega) (by omega) (by omega) aw_a1.1 aw_a1.2).mono fun e W' ⟨A', n, c', h1, h2, h3, h4, h5, h6⟩ => ⟨A', n, c', h1, h5, h6⟩)
  have HA2 : Hid (∀ (W : World) (X : Nat → Prop) b, LdS w W X b aw5 10001 → Calls Try.prog 20 #[.pointer (some ⟨b, 0, none⟩), .int .i64 2, .int .u64 5, .int .u64 2] W fun e W' => ∃ A' c', e = .returned (.tuple #[.agg #[.int .u64 2, .int .u64 5, .slice A' 1 c'], .bool true]) ∧ Sl W' A' c' (bts [121]) ∧ LdS w W' (LDN X W W') b aw6 10001 ∧ Mods (LDM w X) W W') := Lib.hid (fun W X b h => (h.accepted' (by omega) (node := 2) (x := 5) (s := 2) (by omega) (by omega) (by omega) (by omega) aw_a2.1 aw_a2.2).mono fun e W' ⟨A', n, c', h1, h2, h3, h4, h5, h6⟩ => by
    obtain rfl : n = 1 := h2.symm
    exact ⟨A', c', h1, h3, h5, h6⟩)
  have HO : Hid (∀ (W : World) (X : Nat → Prop) b, LdS w W X b aw6 10001 → Calls Try.prog 26 #[.pointer (some ⟨b, 0, none⟩)] W fun e W' => ∃ A c, e = .returned (.slice A 2 c) ∧ LdS w W' X b aw6 10001) := Lib.hid (fun W X b h => (h.open_ (by omega)).mono fun e W' ⟨A, n, c, L, h1, h2, h3, h4, h5⟩ => by
    obtain rfl : n = 2 := by rw [← h3.len]; have := congrArg List.length h2; rw [List.length_map] at this; exact this
    exact ⟨A, c, h1, h.nil h5⟩)
  have hcv := fun (w : World) (C : Array Value) (n c : Nat) => Lib.run_convert_bytes_const (P := Try.prog) w 34 5 C n c Try.underlying34 Try.underlying5
  have hst := strOf_toList [120]
  have hst2 := strOf_toList [121]
  go_enter Try.func8, Try.ntmps8
  go_wp2_with (first
    | (go_at_call 25; refine (S9.out.ballot).mono ?_; rintro e w10 ⟨he, m10⟩; replace he : e = .returned (.int .u64 5) := he; subst he; have M10 := Lib.hid (S9.out.m.trans m10); clear m10)
    | (go_at_call 24; refine (S8.out.leads).mono ?_; rintro e w9 ⟨he, m9⟩; replace he : e = .returned (.bool true) := he; subst he; have S9 := Lib.hid (S8.out.nil m9); clear m9 S8)
    | (go_at_call 26; refine (HO.out _ _ _ S7.out).mono ?_; rintro e w8 ⟨A8, c8, rfl, s8⟩; have S8 := Lib.hid s8; clear s8 S7)
    | (go_at_call 20; have hx := S6.out; clear hx; refine (HA2.out _ _ _ S6.out).mono ?_; rintro e w7 ⟨A7, c7, rfl, v7, s7, m7⟩; have S7 := Lib.hid (s7.nil ((Mods.refl Nil w7).alloc (.cells #[.int .u64 2, .int .u64 5, .slice A7 1 c7] 49))); have p7 := (P6.out.held m7 (fun k hk => .inl (.inl hk))).nil ((Mods.refl Nil w7).alloc (.cells #[.int .u64 2, .int .u64 5, .slice A7 1 c7] 49)); obtain ⟨y00, y01, y02⟩ := p7.cell3 (j := 0) rfl; obtain ⟨y10, y11, y12⟩ := p7.cell3 (j := 1) rfl; have hvp := conv15 (n := 1) rfl (p7.bys ⟨1, 5, A1, c1, [120]⟩ (by simp)).1; simp at y00 y01 y02 y10 y11 y12; have hv7 := conv15 (n := 1) rfl (v7.alloc (.cells #[.int .u64 2, .int .u64 5, .slice A7 1 c7] 49)); have bv7 := (BV6.out.mods m7 (fun hk => hk.2 (.inl (.inr ⟨Nat.le_refl _, by simp⟩)))).alloc (.cells #[.int .u64 2, .int .u64 5, .slice A7 1 c7] 49); have z0 := bv7.cell 0; simp at z0; clear v7 s7 m7 S6 P6 BV6 p7 bv7)
    | (go_at_call 20; have hx := S5.out; clear hx; refine (HA1.out _ _ _ S5.out).mono ?_; rintro e w6 ⟨A6, n6, c6, rfl, s6, m6⟩; have S6 := Lib.hid (s6.nil ((Mods.refl Nil w6).alloc (.cells #[.int .u64 0, .int .u64 0, .slice A6 n6 c6] 49))); have P6 := Lib.hid ((P5.out.held m6 (fun k hk => .inl hk)).nil ((Mods.refl Nil w6).alloc (.cells #[.int .u64 0, .int .u64 0, .slice A6 n6 c6] 49))); have BV6 := Lib.hid ((BV5.out.mods m6 (fun hk => hk.2 (.inr ⟨Nat.le_refl _, by simp⟩))).alloc (.cells #[.int .u64 0, .int .u64 0, .slice A6 n6 c6] 49)); clear s6 m6 S5 P5 BV5)
    | (go_at_call 17; refine (HX.out _ _ _ _ _ (S4.out.nil ((Mods.refl Nil w4).alloc _)) (build_at (n := 1) rfl rfl rfl (by simp [maxLen]))).mono ?_; rintro e w5 ⟨A5, c5, rfl, s5, m5⟩; have S5 := Lib.hid (s5.more ((Mods.refl Nil w5).alloc (.cells #[.int .u64 2, .int .u64 5, .slice A5 1 c5] 49)) (fun k hk => hk)); have P5 := Lib.hid (((P4.out.nil ((Mods.refl Nil w4).alloc _)).held m5 (fun k hk => hk)).nil ((Mods.refl Nil w5).alloc (.cells #[.int .u64 2, .int .u64 5, .slice A5 1 c5] 49))); have BV5 := Lib.hid (Blk.new w5 49 #[.int .u64 2, .int .u64 5, .slice A5 1 c5]); clear s5 m5 S4 P4)
    | (go_at_call 13; have hx := S3.out; clear hx; refine (HP2.out _ _ _ _ (S3.out.nil (((Mods.refl Nil w3).alloc _).alloc _)) (pvs_one (by simp) rfl (build_at (n := 1) rfl rfl rfl (by simp [maxLen])) (by omega) (by omega))).mono ?_; rintro e w4 ⟨bb, oo, c4, A0, c0, A1, c1, Y4, rfl, p4, s4⟩; have S4 := Lib.hid s4; have P4 := Lib.hid p4; clear s4 p4 S3)
    | (go_at_call 13; refine (HP1.out _ _ S2.out).mono ?_; rintro e w3 ⟨A3, n3, c3, rfl, s3⟩; have S3 := Lib.hid s3; clear s3 S2)
    | (go_at_call 11; refine (HB1.out _ _ S1.out).mono ?_; rintro e w2 ⟨rfl, s2⟩; have S2 := Lib.hid s2; clear s2 S1)
    | (go_at_call 9; refine (ldr_new _ (many := 3) (by omega) (by omega)).mono ?_; rintro e w1 ⟨b, rfl, s1⟩; have S1 := Lib.hid s1; clear s1))
  go_ret
  exact ⟨rfl, M10.out⟩
end Go.Proofs.Ytpabbhhaagfoeaa
end

section
/- Layer 15's statements: votes that the statement lays itself, in a row of its own. -/
namespace Go.Proofs.Ytpabbhhaagfoeaa
set_option maxRecDepth 100000
open Go.RowKit
set_option linter.unusedVariables false
set_option linter.unusedSimpArgs false

/-- Votes in memory of the statement's own. -/
structure OwnV15 (base : Nat) (w : World) (v : Value) (l : List VtP) : Prop where
  own : w.ownsRow base 49 3 v l.length (pvc l)
  bys : ∀ q ∈ l, Sl w q.A q.c (bts q.val) ∧ (bts q.val ≠ [] → ∀ a, q.A = some a → base ≤ a.block ∧ ∃ cs, Blk w a.block 5 cs) ∧ q.slot < 18446744073709551616 ∧ q.bal < 18446744073709551616
theorem OwnV15.none_ (base : Nat) (w : World) : OwnV15 base w (.slice none 0 0) [] := ⟨World.ownsRow_nil _ _ _ _, fun q h => by cases h⟩
theorem OwnV15.mods {base : Nat} {w w' : World} {v : Value} {l : List VtP} {S : Nat → Prop} (h : OwnV15 base w v l) (hm : Mods S w w') (h1 : ∀ k, v.ownBlock = some k → ¬ S k) (h2 : ∀ k, base ≤ k → (∃ cs, Blk w k 5 cs) → ¬ S k) : OwnV15 base w' v l :=
  ⟨own_mods h.own hm h1, fun q hq => by
    obtain ⟨a1, a2, a3⟩ := h.bys q hq
    refine ⟨a1.mods' hm (fun hne a ha hs => h2 _ (a2 hne a ha).1 (a2 hne a ha).2 hs), fun hne a ha => ⟨(a2 hne a ha).1, ?_⟩, a3⟩
    obtain ⟨b1, cs, b2⟩ := a2 hne a ha
    exact ⟨cs, b2.mods hm (h2 _ b1 ⟨cs, b2⟩)⟩⟩
theorem OwnV15.nil {base : Nat} {w w' : World} {v : Value} {l : List VtP} (h : OwnV15 base w v l) (hm : Mods Nil w w') : OwnV15 base w' v l := h.mods hm (fun _ _ h => h) (fun _ _ _ h => h)
theorem OwnV15.push {base : Nat} {w w1 : World} {v v' : Value} {l : List VtP} {q : VtP} (h : OwnV15 base w v l) (hq : Sl w q.A q.c (bts q.val) ∧ (bts q.val ≠ [] → ∀ a, q.A = some a → base ≤ a.block ∧ ∃ cs, Blk w a.block 5 cs) ∧ q.slot < 18446744073709551616 ∧ q.bal < 18446744073709551616)
    (ho : w1.ownsRow base 49 3 v' (l.length + 1) (pvc (l ++ [q]))) (hm : Mods (fun k => v.ownBlock = some k) w w1) : OwnV15 base w1 v' (l ++ [q]) := by
  refine ⟨by simpa using ho, fun r hr => ?_⟩
  have hr1 : Sl w r.A r.c (bts r.val) ∧ (bts r.val ≠ [] → ∀ a, r.A = some a → base ≤ a.block ∧ ∃ cs, Blk w a.block 5 cs) ∧ r.slot < 18446744073709551616 ∧ r.bal < 18446744073709551616 := by
    rcases List.mem_append.1 hr with hr | hr
    · exact h.bys r hr
    · rw [List.mem_singleton.1 hr]; exact hq
  obtain ⟨a1, a2, a3⟩ := hr1
  have off : ∀ k, (∃ cs, Blk w k 5 cs) → ¬ v.ownBlock = some k := fun k ⟨cs, hb⟩ => own_blk_ne h.own hb (by decide)
  refine ⟨a1.mods' hm (fun hne a ha hs => off _ (a2 hne a ha).2 hs), fun hne a ha => ⟨(a2 hne a ha).1, ?_⟩, a3⟩
  obtain ⟨b1, cs, b2⟩ := a2 hne a ha
  exact ⟨cs, b2.mods hm (off _ ⟨cs, b2⟩)⟩
theorem OwnV15.pvs {base : Nat} {w : World} {v : Value} {l : List VtP} {D : Nat → Prop} (h : OwnV15 base w v l) (hD : ∀ k, base ≤ k → k < w.heap.size → D k) : ∃ A c, v = .slice A l.length c ∧ PVs w D A c l.length l :=
  pvs_own h.own rfl (fun k hk => hD k (h.own.lt k hk).1 (h.own.lt k hk).2) (fun q hq => by
    obtain ⟨a1, a2, a3⟩ := h.bys q hq
    exact ⟨a1, fun hne a ha => hD _ (a2 hne a ha).1 (by obtain ⟨cs, hb⟩ := (a2 hne a ha).2; exact hb.lt), a3⟩)
theorem wrap64_nat (k : Nat) (h : k < 9223372036854775808) : wrap64 (k : Int) = (k : Int) := by unfold wrap64; omega
theorem u32_of_wf15 {x : Int} (h : (Lit.int .u32 x).wf = true) : 0 ≤ x ∧ x < 4294967296 := by
  have h1 : IntKind.u32.min = 0 := rfl
  have h2 : IntKind.u32.max = 4294967295 := rfl
  simp only [Lit.wf, h1, h2, Bool.and_eq_true, decide_eq_true_eq] at h
  omega
/-- New bytes. -/
theorem new_bytes15 (w : World) (cs : List UInt8) {n : Nat} (hn : cs.length = n) (hm : n ≤ 1000) : Sl (w.alloc (.cells (bts cs).toArray 5)) (some ⟨w.heap.size, 0, none⟩) n (bts cs) := by
  subst hn
  refine ⟨by simp, by simp [maxLen]; omega, (fun h => by cases h), .inr ⟨w.heap.size, 0, rfl, fun j u hu => ?_⟩⟩
  rw [Nat.zero_add, (Blk.new w 5 (bts cs).toArray).cell]
  simpa using hu
theorem sl_byte15 {w : World} {A : Option Addr} {c j : Nat} {xs : List UInt8} (h : Sl w A c (bts xs)) (hj : j < xs.length) :
    ∃ b off, A = some ⟨b, off, none⟩ ∧ b < w.heap.size ∧ w.cell? ⟨b, off + j, none⟩ = some (.int .u8 (xs[j].toNat : Int)) := by
  obtain ⟨b, off, hA, hb, hc⟩ := h.at_ (by simp; omega)
  exact ⟨b, off, hA, hb, hc j _ (bts_get xs j hj)⟩
theorem i64_of_wf15 {a : Int} (w : (Lit.int .i64 a).wf = true) : -9223372036854775808 ≤ a ∧ a < 9223372036854775808 := by
  have h1 : IntKind.i64.min = -9223372036854775808 := rfl
  have h2 : IntKind.i64.max = 9223372036854775807 := rfl
  simp only [Lit.wf, h1, h2, Bool.and_eq_true, decide_eq_true_eq] at w
  omega
/-- A promise that tells nothing. -/
theorem LdS.promN {W0 W : World} {X : Nat → Prop} {b T : Nat} {l l' : PLd} (h : LdS W0 W X b l T) (hT : T ≤ 500000) {node : Int} (hn1 : -9223372036854775808 ≤ node) (hn2 : node ≤ 9223372036854775807) {x : Nat} (hx : x < 18446744073709551616) {D : Nat → Prop} {A : Option Addr} {c n : Nat} {L : List VtP} (hv : PVs W D A c n L) (hn : n ≤ 100) (hvl : ∀ q ∈ L, q.val.length ≤ 100000) {r : Bool}
    (e : l.promise node x 0 (L.map VtP.plain) = l' ∧ l.promV node x 0 (L.map VtP.plain) = [] ∧ l.promB node x 0 (L.map VtP.plain) = r) :
    Calls Try.prog 13 #[.pointer (some ⟨b, 0, none⟩), .int .i64 node, .int .u64 (x : Int), .int .u64 0, .slice A n c] W fun e W' => ∃ A' c', e = .returned (.tuple #[.slice A' 0 c', .bool r]) ∧ LdS W0 W' X b l' (T + 5000) ∧ Mods (LDM W0 X) W W' :=
  (h.promise2 hT (low := 0) hn1 hn2 hx (by omega) hv (by omega) hvl e.1 e.2.1 e.2.2 rfl).mono fun e W' ⟨A', n', c', L', h1, h2, h3, h4, h5⟩ => by
    obtain rfl : n' = 0 := by rw [← h3.len]; exact congrArg List.length (List.map_eq_nil_iff.1 h2)
    exact ⟨A', c', h1, h4.mono_T (by omega), h5⟩
end Go.Proofs.Ytpabbhhaagfoeaa
end
