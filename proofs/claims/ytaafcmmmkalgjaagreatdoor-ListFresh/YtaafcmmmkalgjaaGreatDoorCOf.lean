/-
  Assertions on values; rank, number, and the comparisons of numbers and texts, each by a contract.
-/
import Derived.Test.YtaafcmmmkalgjaaGreatDoorValue
import Derived.Test.YtaafcmmmkalgjaaGreatDoorBytes
import Derived.Laws.BitsAllLaws
namespace Go.Proofs.YtaafcmmmkalgjaaGreatDoor
open Go.RowKit
theorem as_un_un (v : Value) (w : World) : (Instr.typeAssert (.iface 172 v) 35 172 true).run Tryz.prog w = .ok (.tuple #[v, .bool true]) w := by kernel_rfl
theorem as_un_tu (v : Value) (w : World) : (Instr.typeAssert (.iface 172 v) 35 173 true).run Tryz.prog w = .ok (.tuple #[(.bool false), .bool false]) w := by kernel_rfl
theorem as_un_in (v : Value) (w : World) : (Instr.typeAssert (.iface 172 v) 35 83 true).run Tryz.prog w = .ok (.tuple #[(.int .i64 0), .bool false]) w := by kernel_rfl
theorem as_un_tx (v : Value) (w : World) : (Instr.typeAssert (.iface 172 v) 35 174 true).run Tryz.prog w = .ok (.tuple #[(.string ByteArray.empty), .bool false]) w := by kernel_rfl
theorem as_un_li (v : Value) (w : World) : (Instr.typeAssert (.iface 172 v) 35 81 true).run Tryz.prog w = .ok (.tuple #[(.slice none 0 0), .bool false]) w := by kernel_rfl
theorem as_tu_un (v : Value) (w : World) : (Instr.typeAssert (.iface 173 v) 35 172 true).run Tryz.prog w = .ok (.tuple #[(.agg #[]), .bool false]) w := by kernel_rfl
theorem as_tu_tu (v : Value) (w : World) : (Instr.typeAssert (.iface 173 v) 35 173 true).run Tryz.prog w = .ok (.tuple #[v, .bool true]) w := by kernel_rfl
theorem as_tu_in (v : Value) (w : World) : (Instr.typeAssert (.iface 173 v) 35 83 true).run Tryz.prog w = .ok (.tuple #[(.int .i64 0), .bool false]) w := by kernel_rfl
theorem as_tu_tx (v : Value) (w : World) : (Instr.typeAssert (.iface 173 v) 35 174 true).run Tryz.prog w = .ok (.tuple #[(.string ByteArray.empty), .bool false]) w := by kernel_rfl
theorem as_tu_li (v : Value) (w : World) : (Instr.typeAssert (.iface 173 v) 35 81 true).run Tryz.prog w = .ok (.tuple #[(.slice none 0 0), .bool false]) w := by kernel_rfl
theorem as_in_un (v : Value) (w : World) : (Instr.typeAssert (.iface 83 v) 35 172 true).run Tryz.prog w = .ok (.tuple #[(.agg #[]), .bool false]) w := by kernel_rfl
theorem as_in_tu (v : Value) (w : World) : (Instr.typeAssert (.iface 83 v) 35 173 true).run Tryz.prog w = .ok (.tuple #[(.bool false), .bool false]) w := by kernel_rfl
theorem as_in_in (v : Value) (w : World) : (Instr.typeAssert (.iface 83 v) 35 83 true).run Tryz.prog w = .ok (.tuple #[v, .bool true]) w := by kernel_rfl
theorem as_in_tx (v : Value) (w : World) : (Instr.typeAssert (.iface 83 v) 35 174 true).run Tryz.prog w = .ok (.tuple #[(.string ByteArray.empty), .bool false]) w := by kernel_rfl
theorem as_in_li (v : Value) (w : World) : (Instr.typeAssert (.iface 83 v) 35 81 true).run Tryz.prog w = .ok (.tuple #[(.slice none 0 0), .bool false]) w := by kernel_rfl
theorem as_tx_un (v : Value) (w : World) : (Instr.typeAssert (.iface 174 v) 35 172 true).run Tryz.prog w = .ok (.tuple #[(.agg #[]), .bool false]) w := by kernel_rfl
theorem as_tx_tu (v : Value) (w : World) : (Instr.typeAssert (.iface 174 v) 35 173 true).run Tryz.prog w = .ok (.tuple #[(.bool false), .bool false]) w := by kernel_rfl
theorem as_tx_in (v : Value) (w : World) : (Instr.typeAssert (.iface 174 v) 35 83 true).run Tryz.prog w = .ok (.tuple #[(.int .i64 0), .bool false]) w := by kernel_rfl
theorem as_tx_tx (v : Value) (w : World) : (Instr.typeAssert (.iface 174 v) 35 174 true).run Tryz.prog w = .ok (.tuple #[v, .bool true]) w := by kernel_rfl
theorem as_tx_li (v : Value) (w : World) : (Instr.typeAssert (.iface 174 v) 35 81 true).run Tryz.prog w = .ok (.tuple #[(.slice none 0 0), .bool false]) w := by kernel_rfl
theorem as_li_un (v : Value) (w : World) : (Instr.typeAssert (.iface 81 v) 35 172 true).run Tryz.prog w = .ok (.tuple #[(.agg #[]), .bool false]) w := by kernel_rfl
theorem as_li_tu (v : Value) (w : World) : (Instr.typeAssert (.iface 81 v) 35 173 true).run Tryz.prog w = .ok (.tuple #[(.bool false), .bool false]) w := by kernel_rfl
theorem as_li_in (v : Value) (w : World) : (Instr.typeAssert (.iface 81 v) 35 83 true).run Tryz.prog w = .ok (.tuple #[(.int .i64 0), .bool false]) w := by kernel_rfl
theorem as_li_tx (v : Value) (w : World) : (Instr.typeAssert (.iface 81 v) 35 174 true).run Tryz.prog w = .ok (.tuple #[(.string ByteArray.empty), .bool false]) w := by kernel_rfl
theorem as_li_li (v : Value) (w : World) : (Instr.typeAssert (.iface 81 v) 35 81 true).run Tryz.prog w = .ok (.tuple #[v, .bool true]) w := by kernel_rfl
theorem to_un (v : Value) (w : World) : (Instr.typeAssert (.iface 172 v) 35 172 false).run Tryz.prog w = .ok v w := by kernel_rfl
theorem to_tu (v : Value) (w : World) : (Instr.typeAssert (.iface 173 v) 35 173 false).run Tryz.prog w = .ok v w := by kernel_rfl
theorem to_in (v : Value) (w : World) : (Instr.typeAssert (.iface 83 v) 35 83 false).run Tryz.prog w = .ok v w := by kernel_rfl
theorem to_tx (v : Value) (w : World) : (Instr.typeAssert (.iface 174 v) 35 174 false).run Tryz.prog w = .ok v w := by kernel_rfl
theorem to_li (v : Value) (w : World) : (Instr.typeAssert (.iface 81 v) 35 81 false).run Tryz.prog w = .ok v w := by kernel_rfl
attribute [local go_sem] as_un_un as_un_tu as_un_in as_un_tx as_un_li as_tu_un as_tu_tu as_tu_in as_tu_tx as_tu_li as_in_un as_in_tu as_in_in as_in_tx as_in_li as_tx_un as_tx_tu as_tx_in as_tx_tx as_tx_li as_li_un as_li_tu as_li_in as_li_tx as_li_li to_un to_tu to_in to_tx to_li
theorem less_cmp : ∀ a b : List UInt8, Op.bytesLess a b = decide (Lib.compareBytes a b = -1)
  | [], [] => by simp [Op.bytesLess, Lib.compareBytes]
  | _ :: _, [] => by simp [Op.bytesLess, Lib.compareBytes]
  | [], _ :: _ => by simp [Op.bytesLess, Lib.compareBytes]
  | a :: x, b :: y => by
    have ih := less_cmp x y
    simp only [Op.bytesLess, Lib.compareBytes]
    by_cases h1 : a < b
    · simp [h1]
    · by_cases h2 : b < a
      · have h3 : ¬ a = b := fun e => by subst e; exact h1 h2
        simp [h1, h2, h3]
      · have h3 : a = b := by
          rw [UInt8.lt_iff_toNat_lt] at h1 h2
          exact UInt8.toNat_inj.1 (by omega)
        subst h3
        simp [h1, ih]
end Go.Proofs.YtaafcmmmkalgjaaGreatDoor
/-
  writeText by a contract: a text's bytes between quotes, each by itself or by its digits.
-/
namespace Go.Proofs.YtaafcmmmkalgjaaGreatDoor
open Go.RowKit
def hexL : List UInt8 := [48, 49, 50, 51, 52, 53, 54, 55, 56, 57, 97, 98, 99, 100, 101, 102]
/-- How a byte is written. -/
def esc (b : UInt8) : List UInt8 :=
  if b = 34 ∨ b = 92 then [92, b] else if 32 ≤ b.toNat ∧ b.toNat ≤ 126 then [b] else [92, 120, hexL.getD (b.toNat / 16) 0, hexL.getD (b.toNat % 16) 0]
theorem esc_len (b : UInt8) : (esc b).length ≤ 4 := by unfold esc; split; · simp
                                                       split <;> simp
theorem ret_sl {a : Option Addr} {n m c : Nat} (h : n = m) : Ending.returned (.slice a n c) = .returned (.slice a m c) := by rw [h]
def escs (x : List UInt8) : List UInt8 := x.flatMap esc
theorem escs_take (x : ByteArray) (j : Nat) (h : j < x.data.toList.length) : escs (x.data.toList.take (j + 1)) = escs (x.data.toList.take j) ++ esc x.data.toList[j] := by
  unfold escs
  rw [List.take_add_one, List.getElem?_eq_getElem h, List.flatMap_append]
  simp
theorem escs_len (l : List UInt8) : (escs l).length ≤ 4 * l.length := by
  induction l with
  | nil => simp [escs]
  | cons b r ih => have := esc_len b; unfold escs at *; simp only [List.flatMap_cons, List.length_append, List.length_cons]; omega
theorem hex_at (k : Nat) (h : k < (ByteArray.mk #[48, 49, 50, 51, 52, 53, 54, 55, 56, 57, 97, 98, 99, 100, 101, 102]).size) : (ByteArray.mk #[48, 49, 50, 51, 52, 53, 54, 55, 56, 57, 97, 98, 99, 100, 101, 102])[k] = hexL.getD k 0 := by
  have h2 : k < 16 := h
  have key : ∀ k : Fin 16, (ByteArray.mk #[48, 49, 50, 51, 52, 53, 54, 55, 56, 57, 97, 98, 99, 100, 101, 102])[k.1]'(show k.1 < 16 from k.2) = hexL.getD k.1 0 := by decide
  exact key ⟨k, h2⟩
theorem hex_lit (b : UInt8) {h1 : ((b.toNat : Int) / 16).toNat < (ByteArray.mk #[48, 49, 50, 51, 52, 53, 54, 55, 56, 57, 97, 98, 99, 100, 101, 102]).size} {h2 : ((b.toNat : Int) % 16).toNat < (ByteArray.mk #[48, 49, 50, 51, 52, 53, 54, 55, 56, 57, 97, 98, 99, 100, 101, 102]).size} :
    #[Value.int .u8 92, .int .u8 120, .int .u8 ((ByteArray.mk #[48, 49, 50, 51, 52, 53, 54, 55, 56, 57, 97, 98, 99, 100, 101, 102])[((b.toNat : Int) / 16).toNat]'h1).toNat, .int .u8 ((ByteArray.mk #[48, 49, 50, 51, 52, 53, 54, 55, 56, 57, 97, 98, 99, 100, 101, 102])[((b.toNat : Int) % 16).toNat]'h2).toNat] = (Lib.byteCells [92, 120, hexL.getD (b.toNat / 16) 0, hexL.getD (b.toNat % 16) 0]).toArray := by
  rw [hex_at, hex_at]
  rw [show ((b.toNat : Int) / 16).toNat = b.toNat / 16 by omega, show ((b.toNat : Int) % 16).toNat = b.toNat % 16 by omega]
  rfl
/-- How a text is written. -/
def quo (x : ByteArray) : List UInt8 := 34 :: (escs x.data.toList ++ [34])
end Go.Proofs.YtaafcmmmkalgjaaGreatDoor
/-
  The reader's next, take, digit, word, each by a contract.
-/
namespace Go.Proofs.YtaafcmmmkalgjaaGreatDoor
open Go.RowKit
/-- The byte that stands there; 0 at the end. -/
def nxt (s : ByteArray) (i : Nat) : Nat := if h : i < s.size then s[i].toNat else 0
theorem nxt_lt {s : ByteArray} {i : Nat} (h : i < s.size) : nxt s i = s[i].toNat := dif_pos h
theorem nxt_end {s : ByteArray} {i : Nat} (h : ¬ i < s.size) : nxt s i = 0 := dif_neg h
theorem drewN_ext {w w' : World} (h : ∃ k, w' = w.drewN k) : Ext w w' := by
  obtain ⟨k, rfl⟩ := h
  exact (Ext.refl w).drewN k
end Go.Proofs.YtaafcmmmkalgjaaGreatDoor
/-
  The reader's word by a contract.
-/
namespace Go.Proofs.YtaafcmmmkalgjaaGreatDoor
open Go.RowKit
/-- How many bytes of a word stand there. -/
def wordK (s : ByteArray) : Nat → List UInt8 → Nat
  | _, [] => 0
  | i, c :: r => if nxt s i = c.toNat then 1 + wordK s (i + 1) r else 0
theorem wordK_of (s : ByteArray) : ∀ (l : List UInt8) (i j : Nat), j ≤ l.length → (∀ k, (h : k < l.length) → k < j → nxt s (i + k) = l[k].toNat) → (j = l.length ∨ ∃ h : j < l.length, nxt s (i + j) ≠ l[j].toNat) → wordK s i l = j
  | [], i, j, hj, _, _ => by simp at hj; subst hj; rfl
  | c :: r, i, j, hj, h1, h2 => by
    cases j with
    | zero =>
      rcases h2 with h2 | ⟨h, h2⟩
      · simp at h2
      · simp only [wordK]; rw [if_neg (by simpa using h2)]
    | succ j =>
      have h0 := h1 0 (by simp) (by omega)
      simp only [wordK]
      have e := wordK_of s r (i + 1) j (by simpa using hj) (fun k h hk => by
        have := h1 (k + 1) (by simpa using h) (by omega)
        rw [show i + 1 + k = i + (k + 1) by omega]
        simpa using this) (by
        rcases h2 with h2 | ⟨h, h2⟩
        · exact .inl (by simpa using h2)
        · exact .inr ⟨by simpa using h, by rw [show i + 1 + j = i + (j + 1) by omega]; simpa using h2⟩)
      rw [if_pos (by simpa using h0), e]
      omega
/-- What word answers. -/
def wordV (W m : Nat) (v : Value) : Value := if W = m then .tuple #[v, .int .i64 0] else .tuple #[.nilIface, .int .i64 5]
end Go.Proofs.YtaafcmmmkalgjaaGreatDoor
/-
  worth.compare and slices.CompareFunc, each by a contract.
-/
namespace Go.Proofs.YtaafcmmmkalgjaaGreatDoor
open Go.RowKit
attribute [local go_sem] as_un_un as_un_tu as_un_in as_un_tx as_un_li as_tu_un as_tu_tu as_tu_in as_tu_tx as_tu_li as_in_un as_in_tu as_in_in as_in_tx as_in_li as_tx_un as_tx_tu as_tx_in as_tx_tx as_tx_li as_li_un as_li_tu as_li_in as_li_tx as_li_li to_un to_tu to_in to_tx to_li
theorem T.cmpL_drop (xs ys : List T) (k : Nat) (h1 : k < xs.length) (h2 : k < ys.length) :
    T.cmpL (xs.drop k) (ys.drop k) = if T.cmp xs[k] ys[k] = 0 then T.cmpL (xs.drop (k + 1)) (ys.drop (k + 1)) else T.cmp xs[k] ys[k] := by
  rw [List.drop_eq_getElem_cons h1, List.drop_eq_getElem_cons h2, T.cmpL]
theorem T.cmpL_over (xs ys : List T) (k : Nat) (h1 : k < xs.length) (h2 : ys.length ≤ k) : T.cmpL (xs.drop k) (ys.drop k) = 1 := by
  rw [List.drop_eq_getElem_cons h1, List.drop_eq_nil_of_le h2, T.cmpL]
theorem T.cmpL_under (xs ys : List T) (k : Nat) (h1 : xs.length ≤ k) (h2 : k < ys.length) : T.cmpL (xs.drop k) (ys.drop k) = -1 := by
  rw [List.drop_eq_getElem_cons h2, List.drop_eq_nil_of_le h1, T.cmpL]
theorem T.cmpL_both (xs ys : List T) (k : Nat) (h1 : xs.length ≤ k) (h2 : ys.length ≤ k) : T.cmpL (xs.drop k) (ys.drop k) = 0 := by
  rw [List.drop_eq_nil_of_le h2, List.drop_eq_nil_of_le h1, T.cmpL]
theorem T.cmp_self (a : T) : T.cmp a a = 0 := (T.cmp_three.zero a a).2 rfl
theorem T.cmpL_self (a : List T) : T.cmpL a a = 0 := (T.cmpL_facts a a).2.1.2 rfl
theorem cI_self (a : Int) : Lib.compareInt a a = 0 := (compareInt_three.zero a a).2 rfl
theorem T.byC_self (a : ByteArray) : T.byC a a = 0 := (T.byC_three.zero a a).2 rfl
theorem T.cmp_kind (k k' n n' : Int) (x x' : ByteArray) (ks ks' : List T) (h : Lib.compareInt k k' ≠ 0) : T.cmp (.node k n x ks) (.node k' n' x' ks') = Lib.compareInt k k' := by
  simp only [T.cmp, T.cmp3, if_pos h]
theorem T.cmp_lt {k k' n n' : Int} {x x' : ByteArray} {ks ks' : List T} (h : k < k') : (-1 : Int) = T.cmp (.node k n x ks) (.node k' n' x' ks') := by
  have e : Lib.compareInt k k' = -1 := by unfold Lib.compareInt; rw [if_pos h]
  rw [T.cmp_kind _ _ _ _ _ _ _ _ (by rw [e]; decide), e]
theorem T.cmp_gt {k k' n n' : Int} {x x' : ByteArray} {ks ks' : List T} (h : k' < k) : (1 : Int) = T.cmp (.node k n x ks) (.node k' n' x' ks') := by
  have e : Lib.compareInt k k' = 1 := by unfold Lib.compareInt; rw [if_neg (by omega), if_pos h]
  rw [T.cmp_kind _ _ _ _ _ _ _ _ (by rw [e]; decide), e]
theorem T.cmp_num (k n n' : Int) (x : ByteArray) (ks : List T) : T.cmp (.node k n x ks) (.node k n' x ks) = Lib.compareInt n n' := by
  simp only [T.cmp, T.cmp3, cI_self, T.byC_self, T.cmpL_self]
  split <;> simp_all
theorem T.cmp_text (k n : Int) (x x' : ByteArray) (ks : List T) : T.cmp (.node k n x ks) (.node k n x' ks) = T.byC x x' := by
  simp only [T.cmp, T.cmp3, cI_self, T.cmpL_self]
  split <;> simp_all
theorem T.cmp_list (k n : Int) (x : ByteArray) (ks ks' : List T) : T.cmp (.node k n x ks) (.node k n x ks') = T.cmpL ks ks' := by
  simp only [T.cmp, T.cmp3, cI_self, T.byC_self]
  simp
theorem ret_int' {a b : Int} (h : a = b) : Ending.returned (.int .i64 a) = .returned (.int .i64 b) := by rw [h]
/-- The items of a list in memory. -/
def VRdL (K : Nat → Prop) (w : World) (d : Nat) (a : Option Addr) (ks : List T) : Prop := ks.length * 16 ≤ 140737488351232 ∧
  (ks = [] ∨ ∃ g off, a = some ⟨g, off, none⟩ ∧ K g ∧ ∀ j, (h : j < ks.length) → ∃ u, w.cell? ⟨g, off + j, none⟩ = some u ∧ VRd K w d u ks[j])
theorem VRdL.kid {K : Nat → Prop} {w : World} {d : Nat} {a : Option Addr} {ks : List T} (h : VRdL K w d a ks) {j : Nat} (hj : j < ks.length) :
    ∃ g off τ p, a = some ⟨g, off, none⟩ ∧ K g ∧ w.cell? ⟨g, off + j, none⟩ = some (.iface τ p) ∧ VRd K w d (.iface τ p) ks[j] := by
  rcases h.2 with h0 | ⟨g, off, rfl, hg, hc⟩
  · subst h0; exact absurd hj (Nat.not_lt_zero _)
  · obtain ⟨u, hu, hr⟩ := hc j hj
    obtain ⟨τ, p, rfl⟩ := hr.iface
    exact ⟨g, off, τ, p, rfl, hg, hu, hr⟩
theorem VRdL.keep {K : Nat → Prop} {w w' : World} {d : Nat} {a : Option Addr} {ks : List T} (h : VRdL K w d a ks) (hk : Kp K w w') : VRdL K w' d a ks :=
  ⟨h.1, h.2.imp id fun ⟨g, off, ha, hg, hc⟩ => ⟨g, off, ha, hg, fun j hj => by
      obtain ⟨u, hu, hr⟩ := hc j hj
      exact ⟨u, hk.cell hu hg, VRd.keep hk hr⟩⟩⟩
end Go.Proofs.YtaafcmmmkalgjaaGreatDoor
/-
  (*scale).holds and May, each by a contract.
-/
namespace Go.Proofs.YtaafcmmmkalgjaaGreatDoor
open Go.RowKit
theorem T.wf_leaf {k n : Int} {s l : Nat} (h : T.wfP k n s l) (hk : ¬ k = 5) : l = 0 := by unfold T.wfP at h; omega
theorem T.wf_list {n : Int} {s l : Nat} (h : T.wfP 5 n s l) : n = 0 ∧ s = 0 := by unfold T.wfP at h; omega
set_option maxRecDepth 100000 in
set_option maxHeartbeats 2000000 in
theorem holds_any : ∀ (d : Nat) (v : Value) (t : T) (K : Nat → Prop) (w : World) (b left nest : Nat), Rd K w d v t → ¬ K b → w.heap[b]? = some (.cells #[.int .i64 left] 207) →
    left ≤ 65536 → nest ≤ 64 →
    Calls Tryz.prog 100 #[.pointer (some ⟨b, 0, none⟩), v, .int .i64 nest] w fun e w' => Kp (· ≠ b) w w' ∧
      ((T.ok left nest t ∧ e = .returned (.bool true) ∧ w'.heap[b]? = some (.cells #[.int .i64 (left - t.size : Nat)] 207)) ∨
       (¬ T.ok left nest t ∧ e = .returned (.bool false) ∧ ∃ x, w'.heap[b]? = some (.cells #[.int .i64 x] 207))) := by
  intro d
  induction d with
  | zero => intro v t K w b left nest h; exact h.elim
  | succ d ih =>
    intro v t K w b left nest hr hb hm hL hN
    obtain ⟨k, n, x, ks⟩ := t
    obtain ⟨a, c, rfl, hx, hl, hks⟩ := hr
    have HB := hid hb
    have HKS := hid hks
    have HIH := hid ih
    have HM := hid hm
    clear hb hks ih hm
    have hlt : b < w.heap.size := lt_of_block HM.out
    have hl' : (ks.length : Int) ≤ 140737488355328 := by omega
    have hx' : (x.size : Int) ≤ 140737488355328 := by omega
    by_cases hw : T.wfP k n x.size ks.length
    · have HW := hid hw
      have WC := hid (fun w1 => wellFormed_any k n x a ks.length c w1)
      rw [decide_eq_true hw] at WC
      clear hw
      go_enter Tryz.func100, Tryz.ntmps100
      go_wp2_with fail
      refine (WC.out _).mono ?_
      rintro e w1 ⟨rfl, hx1⟩
      have HX1 := hid ((Ext.alloc w _).trans hx1)
      have HBX := hid (hx1.block (blk0 w _))
      have HB1 := hid (HX1.out.block HM.out)
      clear hx1
      have c0 : w1.cell? ⟨b, 0, none⟩ = some (.int .i64 left) := cell_of HB1.out rfl
      have f0 := frozen_of (i := 0) HB1.out
      have e2 := cell_of (i := 2) HBX.out rfl
      simp only [List.getElem_toArray, List.getElem_cons_zero, List.getElem_cons_succ] at e2
      go_upto_region 3 with fail
      go_cut [] from 12 (fun wx => Kp (· ≠ b) w wx ∧ wx.heap[b]? = some (.cells #[.int .i64 ((left : Int) - (1 + x.size))] 207) ∧ wx.heap[w.heap.size]? = some (.cells #[.int .i64 k, .int .i64 n, .string x, .slice a ks.length c] 30))
      case first =>
        go_region
        all_goals
          go_wp2_with fail
          go_meet
          case rel =>
            refine ⟨Kp.drew ((HX1.out.kp (· ≠ b)).trans (Kp.set _ _ _ _ (fun h => h rfl))), set_at HB1.out 0 _, ?_⟩
            exact set_other HBX.out (by omega) _
      case rest =>
        obtain ⟨hkp, hbm, hbt⟩ := hcut
        have HKP := hid hkp
        have HBM := hid hbm
        have HBT := hid hbt
        clear c0 f0 e2 hkp
        have c0 := cell_of (i := 0) hbm rfl
        have e0 := cell_of (i := 0) hbt rfl
        have e3 := cell_of (i := 3) hbt rfl
        simp only [List.getElem_toArray, List.getElem_cons_zero, List.getElem_cons_succ] at c0 e0 e3
        clear hbm hbt
        by_cases k5 : k = 5
        · subst k5
          obtain ⟨rfl, x0⟩ := T.wf_list HW.out
          have hL1 : (left : Int) - (1 + (x.size : Int)) = (left : Int) - 1 := by omega
          rw [hL1] at c0 HBM
          clear hL1
          have HX0 := hid x0
          clear x0
          by_cases g1 : nest = 0
          · subst g1
            have NOK := hid (show ¬ T.ok left 0 (.node 5 0 x ks) from fun h => by have := h.2.2; simp only [T.deep, if_pos] at this; omega)
            go_wp2_with fail
            go_quiet (fail)
            go_wp2_with fail
            go_ret
            exact ⟨HKP.out.drewN _, .inr ⟨NOK.out, rfl, _, HBM.out⟩⟩
          have q1 : ((nest : Int) == 0) = false := by simpa using g1
          by_cases g2 : left < 1 + ks.length
          · have q2 : decide ((left : Int) - 1 < (ks.length : Int)) = true := decide_eq_true (by omega)
            have NOK := hid (show ¬ T.ok left nest (.node 5 0 x ks) from fun h => by have := h.2.1; have := T.sizeL_len ks; simp only [T.size] at *; omega)
            go_wp2_with fail
            go_quiet (fail)
            go_wp2_with fail
            go_ret
            exact ⟨HKP.out.drewN _, .inr ⟨NOK.out, rfl, _, HBM.out⟩⟩
          have q2 : decide ((left : Int) - 1 < (ks.length : Int)) = false := decide_eq_false (by omega)
          go_wp2_with fail
          go_quiet (fail)
          go_wp2_with fail
          clear c0 e0 e3 q2
          go_loopw [46] (fun i wr => ∃ j : Nat, j ≤ ks.length ∧ i = .int .i64 j ∧ Kp (· ≠ b) w wr ∧ (T.goodL (ks.take j) ∧ 1 + T.sizeL (ks.take j) ≤ left ∧ 1 + T.deepL (ks.take j) ≤ nest) ∧
              wr.heap[b]? = some (.cells #[.int .i64 (left - 1 - T.sizeL (ks.take j) : Nat)] 207)) (fun i _ => ks.length - (intOf i).toNat)
          case atStart => exact ⟨0, Nat.zero_le _, rfl, HKP.out.drewN _, ⟨by simp [T.goodL], by simp [T.sizeL]; omega, by simp [T.deepL]; omega⟩, by rw [show ((left - 1 - T.sizeL (ks.take 0) : Nat) : Int) = (left : Int) - 1 by simp only [List.take_zero, T.sizeL]; omega]; exact HBM.out⟩
          case round =>
            obtain ⟨j, hj, rfl, hkp, hle, hbm⟩ := hrel
            have HK2 := hid hkp
            have HLE := hid hle
            have HB2 := hid hbm
            clear hkp hle hbm
            by_cases hlt2 : j < ks.length
            · have hlt' : (j : Int) < ks.length := by omega
              rcases HKS.out with h0 | ⟨g, off, rfl, hg, hcells⟩
              · rw [h0] at hlt2; exact absurd hlt2 (Nat.not_lt_zero _)
              obtain ⟨u0, u1, u2, u3, h4, hrd⟩ := hcells j hlt2
              obtain ⟨k', n', x', a', c', rfl, rfl, rfl, rfl⟩ := hrd.shape
              have HR := hid hrd
              have HG := hid hg
              clear hrd hcells hg
              generalize hkl : ks[j].kids.length = kl at h4 HR
              have hne : g ≠ b := fun e => HB.out (e ▸ HG.out)
              obtain ⟨m0, m1, m2, m3⟩ := h4.keep HK2.out hne
              clear h4
              have hsub : (nest : Int) - 1 = ((nest - 1 : Nat) : Int) := by omega
              go_wp2_with fail
              have hKK : Kp K w wr := HK2.out.mono (fun k _ hk e => HB.out (e ▸ hk))
              refine (HIH.out _ ks[j] K _ b (left - 1 - T.sizeL (ks.take j)) (nest - 1) (HR.out.keep (hKK.alloc _)) HB.out (blkOld _ HB2.out) (by omega) (by omega)).mono ?_
              rintro e w2 ⟨hk2, hcase⟩
              have HK3 := hid (show Kp (· ≠ b) w w2 from (HK2.out.alloc _).trans hk2)
              have s1 := T.sizeL_take ks j hlt2
              have s2 := T.deepL_take ks j hlt2
              have s3 := T.goodL_take ks j hlt2
              have s4 := T.sizeL_split ks (j + 1)
              have s5 := T.deepL_split ks (j + 1)
              have s6 := T.goodL_split ks (j + 1)
              have HS := hid (And.intro s1 (And.intro s2 (And.intro s3 (And.intro s4 (And.intro s5 s6)))))
              clear s1 s2 s3 s4 s5 s6 hk2 m0 m1 m2 m3
              rcases hcase with ⟨hok, rfl, hb3⟩ | ⟨hno, rfl, hb3⟩
              · have HOK := hid hok
                have HB3 := hid hb3
                clear hok hb3
                go_wp2_with fail
                go_roundw
                case rel =>
                  obtain ⟨s1, s2, s3, s4, s5, s6⟩ := HS.out
                  obtain ⟨o1, o2, o3⟩ := HOK.out
                  obtain ⟨p1, p2, p3⟩ := HLE.out
                  refine ⟨j + 1, hlt2, by go_num, HK3.out, ⟨s3.2 ⟨p1, o1⟩, by omega, by omega⟩, ?_⟩
                  rw [HB3.out, show left - 1 - T.sizeL (ks.take (j + 1)) = left - 1 - T.sizeL (ks.take j) - ks[j].size by omega]
                case measure => simp [intOf]; omega
              · have HNO := hid hno
                have HB3 := hid hb3
                clear hno hb3
                go_wp2_with fail
                go_ret
                refine ⟨HK3.out, .inr ⟨fun h => HNO.out ?_, rfl, HB3.out⟩⟩
                obtain ⟨s1, s2, s3, s4, s5, s6⟩ := HS.out
                obtain ⟨⟨_, o1⟩, o2, o3⟩ := h
                have o4 := (s3.1 (s6.1 o1).1).2
                simp only [T.size, T.deep, if_pos] at o2 o3
                exact ⟨o4, by omega, by omega⟩
            · have hje : j = ks.length := by omega
              have htk : ks.take j = ks := by rw [hje, List.take_length]
              have HT := hid htk
              clear htk
              go_wp2_with fail
              go_ret
              obtain ⟨p1, p2, p3⟩ := HLE.out
              have hb4 := HB2.out
              rw [HT.out] at p1 p2 p3 hb4
              refine ⟨HK2.out, .inl ⟨⟨⟨HW.out, p1⟩, by simp only [T.size]; have := HX0.out; omega, by simp only [T.deep, if_pos]; omega⟩, rfl, ?_⟩⟩
              rw [hb4]
              simp only [T.size]
              rw [show left - (1 + x.size + T.sizeL ks) = left - 1 - T.sizeL ks by have := HX0.out; omega]
        · have HLF := hid (T.wf_leaf HW.out k5)
          have HK5 := hid k5
          have hgd : T.good (.node k n x ks) := ⟨HW.out, by rw [List.eq_nil_of_length_eq_zero HLF.out]; trivial⟩
          have hsz : T.size (.node k n x ks) = 1 + x.size := by simp only [T.size]; rw [List.eq_nil_of_length_eq_zero HLF.out]; rfl
          have hdp : T.deep (.node k n x ks) = 0 := by simp only [T.deep, if_neg HK5.out]
          have HOK := hid (show T.ok left nest (.node k n x ks) ↔ 1 + x.size ≤ left from ⟨fun h => by have := h.2.1; omega, fun h => ⟨hgd, by omega, by omega⟩⟩)
          have HSZ := hid hsz
          clear hgd hsz hdp
          go_wp2_with fail
          go_ret
          by_cases g1 : 1 + x.size ≤ left
          · refine ⟨HKP.out, .inl ⟨HOK.out.2 g1, ret_bool (decide_eq_true (by omega)), ?_⟩⟩
            rw [HBM.out, HSZ.out, show (left : Int) - (1 + (x.size : Int)) = ((left - (1 + x.size) : Nat) : Int) by omega]
          · exact ⟨HKP.out, .inr ⟨fun h => g1 (HOK.out.1 h), ret_bool (decide_eq_false (by omega)), _, HBM.out⟩⟩
    · have NOK := hid (show ¬ T.ok left nest (.node k n x ks) from fun h => hw h.1.1)
      have WC := hid (fun w1 => wellFormed_any k n x a ks.length c w1)
      rw [decide_eq_false hw] at WC
      clear hw
      go_enter Tryz.func100, Tryz.ntmps100
      go_wp2_with fail
      refine (WC.out _).mono ?_
      rintro e w1 ⟨rfl, hx1⟩
      have HX1 := hid ((Ext.alloc w _).trans hx1)
      have HB1 := hid (HX1.out.block HM.out)
      clear hx1
      go_wp2_with fail
      go_ret
      exact ⟨HX1.out.kp _, .inr ⟨NOK.out, rfl, _, HB1.out⟩⟩
set_option maxRecDepth 100000 in
theorem may_any {K : Nat → Prop} {d : Nat} {v : Value} {t : T} (w : World) (hr : Rd K w d v t) :
    Calls Tryz.prog 81 #[v] w fun e w' => e = .returned (.bool (decide t.may)) ∧ Ext w w' := by
  obtain ⟨u0, u1, u2, u3, rfl⟩ := hr.agg
  obtain ⟨k, n, x, a, c, rfl, rfl, rfl, rfl⟩ := hr.shape
  have HR := hid hr.low
  clear hr
  go_enter Tryz.func81, Tryz.ntmps81
  go_wp2_with fail
  refine (holds_any d _ t (· < w.heap.size) _ (w.heap.size + 1) 65536 64 (HR.out.later (Ext.alloc2 _ _ _)) (by omega) (blk1 _ _ _) (by omega) (by omega)).mono ?_
  rintro e w2 ⟨hk, hcase⟩
  have HX := hid (hk.extOf (Ext.alloc2 w _ _) (Nat.le_succ _))
  clear hk
  rcases hcase with ⟨hok, rfl, _⟩ | ⟨hno, rfl, _⟩
  · have HS := hid (show t.may from hok)
    clear hok
    go_wp2_with fail
    go_ret
    exact ⟨ret_bool (decide_eq_true HS.out).symm, HX.out⟩
  · have HS := hid (show ¬ t.may from hno)
    clear hno
    go_wp2_with fail
    go_ret
    exact ⟨ret_bool (decide_eq_false HS.out).symm, HX.out⟩
end Go.Proofs.YtaafcmmmkalgjaaGreatDoor
/-
  Of of package worth by a contract.
-/
namespace Go.Proofs.YtaafcmmmkalgjaaGreatDoor
open Go.RowKit
theorem four_of {w : World} {b : Nat} {v0 v1 v2 v3 : Value} {t : TypeId} (h : w.heap[b]? = some (.cells #[v0, v1, v2, v3] t)) : Four w b 0 v0 v1 v2 v3 := ⟨cell_of h rfl, cell_of h rfl, cell_of h rfl, cell_of h rfl⟩
theorem may_to {K : Nat → Prop} {d : Nat} {v : Value} {t : T} {w : World} (hr : Rd K w d v t) (b : Bool) (hb : decide t.may = b) (w1 : World) (hx : Ext w w1) : Calls Tryz.prog 81 #[v] w1 fun e w' => e = .returned (.bool b) ∧ Ext w1 w' := by
  have := may_any w1 (hr.later hx)
  rw [hb] at this
  exact this
/-- What Of answers. -/
def OfR (w : World) (d : Nat) (t : T) (e : Ending) (w' : World) : Prop := Ext w w' ∧ ((t.may ∧ ∃ u bs, e = .returned (.tuple #[u, .int .i64 0]) ∧ VOwn w' d u t bs ∧ (∀ b ∈ bs, w.heap.size ≤ b) ∧ bs.Nodup) ∨ (¬ t.may ∧ e = .returned (.tuple #[.nilIface, .int .i64 1])))
set_option maxRecDepth 100000 in
set_option maxHeartbeats 1000000 in
theorem of_any {K : Nat → Prop} {d : Nat} {v : Value} {t : T} (w : World) (hr : Rd K w d v t) : Calls Tryz.prog 51 #[v] w (OfR w d t) := by
  obtain ⟨u0, u1, u2, u3, rfl⟩ := hr.agg
  obtain ⟨k, n, x, a, c, rfl, rfl, rfl, rfl⟩ := hr.shape
  have HR := hid hr
  generalize t.kids.length = l at *
  by_cases hm : t.may
  · have HM := hid (may_to hr true (decide_eq_true hm))
    have HG := hid hm
    clear hr hm
    go_enter Tryz.func51, Tryz.ntmps51
    go_wp2_with fail
    refine (HM.out _ (Ext.alloc _ _)).mono ?_
    rintro e w1 ⟨rfl, hx1⟩
    obtain ⟨p0, p1, p2, p3⟩ := four_of (hx1.block (blk0 w _))
    have HX1 := hid ((Ext.alloc w _).trans hx1)
    clear hx1
    go_wp2_with fail
    refine (value_any d _ t K w1 (HR.out.later HX1.out) HG.out.1).mono ?_
    rintro e w2 ⟨u, bs, rfl, hx2, ho, hge, hnd⟩
    obtain ⟨τ, p, rfl⟩ := ho.rd.iface
    clear p0 p1 p2 p3
    have HO := hid ho
    have HX2 := hid (HX1.out.trans hx2)
    have HGE := hid hge
    clear ho hx2 hge
    go_wp2_with fail
    go_ret2
    exact ⟨HX2.out, .inl ⟨HG.out, _, bs, rfl, HO.out, fun b hb => Nat.le_trans HX1.out.size (HGE.out b hb), hnd⟩⟩
  · have HM := hid (may_to hr false (decide_eq_false hm))
    have HG := hid hm
    clear hr hm
    go_enter Tryz.func51, Tryz.ntmps51
    go_wp2_with fail
    refine (HM.out _ (Ext.alloc _ _)).mono ?_
    rintro e w1 ⟨rfl, hx1⟩
    have HX1 := hid ((Ext.alloc w _).trans hx1)
    clear hx1
    go_wp2_with fail
    go_ret2
    exact ⟨HX1.out, .inr ⟨HG.out, rfl⟩⟩
end Go.Proofs.YtaafcmmmkalgjaaGreatDoor
