/-
  list.items, number, came by contracts.
-/
import Derived.Test.YtaafcmmmkalgjaaGreatDoorBase
import Derived.Test.YtaafcmmmkalgjaaGreatDoorCMay
import Derived.Test.YtaafcmmmkalgjaaGreatDoorCWorkG
import Derived.Test.YtaafcmmmkalgjaaGreatDoorLKinds
namespace Go.Proofs.YtaafcmmmkalgjaaGreatDoor
open Go.RowKit
theorem lto_in (v : Value) (w : World) : (Instr.typeAssert (.iface 83 v) 35 83 false).run Tryz.prog w = .ok v w := by kernel_rfl
theorem lto_li (v : Value) (w : World) : (Instr.typeAssert (.iface 81 v) 35 81 false).run Tryz.prog w = .ok v w := by kernel_rfl
theorem number0_any (g m : Nat) (hm : 0 < m) (n : Int) (w : World) (h0 : w.cell? ⟨g, 0, none⟩ = some (.iface 83 (.int .i64 n))) : Calls Tryz.prog 76 #[.slice (some ⟨g, 0, none⟩) m m, .int .i64 0] w fun e w' => e = .returned (.int .i64 n) ∧ w' = w := by
  have hta := lto_in (.int .i64 n)
  have hm' : (0 : Int) < (m : Int) := by omega
  go_enter Tryz.func76, Tryz.ntmps76
  go_wp2_with fail
  go_ret
  exact ⟨rfl, rfl⟩
theorem number1_any (g m : Nat) (hm : 1 < m) (n : Int) (w : World) (h0 : w.cell? ⟨g, 1, none⟩ = some (.iface 83 (.int .i64 n))) : Calls Tryz.prog 76 #[.slice (some ⟨g, 0, none⟩) m m, .int .i64 1] w fun e w' => e = .returned (.int .i64 n) ∧ w' = w := by
  have hta := lto_in (.int .i64 n)
  have hm' : (1 : Int) < (m : Int) := by omega
  go_enter Tryz.func76, Tryz.ntmps76
  go_wp2_with fail
  go_ret
  exact ⟨rfl, rfl⟩
theorem number2_any (g m : Nat) (hm : 2 < m) (n : Int) (w : World) (h0 : w.cell? ⟨g, 2, none⟩ = some (.iface 83 (.int .i64 n))) : Calls Tryz.prog 76 #[.slice (some ⟨g, 0, none⟩) m m, .int .i64 2] w fun e w' => e = .returned (.int .i64 n) ∧ w' = w := by
  have hta := lto_in (.int .i64 n)
  have hm' : (2 : Int) < (m : Int) := by omega
  go_enter Tryz.func76, Tryz.ntmps76
  go_wp2_with fail
  go_ret
  exact ⟨rfl, rfl⟩
theorem items0_any (g m : Nat) (hm : 0 < m) (a : Option Addr) (l c : Nat) (w : World) (h0 : w.cell? ⟨g, 0, none⟩ = some (.iface 81 (.slice a l c))) : Calls Tryz.prog 75 #[.slice (some ⟨g, 0, none⟩) m m, .int .i64 0] w fun e w' => e = .returned (.slice a l c) ∧ w' = w := by
  have hta := lto_li (.slice a l c)
  have hm' : (0 : Int) < (m : Int) := by omega
  go_enter Tryz.func75, Tryz.ntmps75
  go_wp2_with fail
  go_ret
  exact ⟨rfl, rfl⟩
theorem items1_any (g m : Nat) (hm : 1 < m) (a : Option Addr) (l c : Nat) (w : World) (h0 : w.cell? ⟨g, 1, none⟩ = some (.iface 81 (.slice a l c))) : Calls Tryz.prog 75 #[.slice (some ⟨g, 0, none⟩) m m, .int .i64 1] w fun e w' => e = .returned (.slice a l c) ∧ w' = w := by
  have hta := lto_li (.slice a l c)
  have hm' : (1 : Int) < (m : Int) := by omega
  go_enter Tryz.func75, Tryz.ntmps75
  go_wp2_with fail
  go_ret
  exact ⟨rfl, rfl⟩

theorem lcame_any (v : Value) (w : World) : Calls Tryz.prog 73 #[v] w fun e w' => e = .returned (.tuple #[v, .int .i64 0, .string ⟨#[]⟩]) ∧ w' = w := by
  go_enter Tryz.func73, Tryz.ntmps73
  go_wp2_with fail
  go_ret3
  exact ⟨rfl, rfl⟩
end Go.Proofs.YtaafcmmmkalgjaaGreatDoor
/-
  craft.may of any value, by a contract: whether it may be.
-/
namespace Go.Proofs.YtaafcmmmkalgjaaGreatDoor
open Go.RowKit
theorem size0 : (⟨#[]⟩ : ByteArray).size = 0 := rfl
theorem goodL_of {l : List T} (h : ∀ u ∈ l, T.good u) : T.goodL l := by
  induction l with
  | nil => trivial
  | cons x r ih => exact ⟨h x List.mem_cons_self, ih fun u hu => h u (List.mem_cons_of_mem _ hu)⟩
theorem VRd.good {K : Nat → Prop} {w : World} : ∀ {d : Nat} {v : Value} {t : T}, VRd K w d v t → t.good
  | 0, _, _, h => h.elim
  | d + 1, v, .node k n x ks, h => by
    rcases h with ⟨rfl, rfl, rfl, rfl, _⟩ | ⟨rfl, rfl, rfl, b, rfl, _⟩ | ⟨rfl, rfl, rfl, _⟩ | ⟨rfl, rfl, rfl, _, _⟩ | ⟨rfl, rfl, rfl, _, a, c, _, h6⟩
    · exact ⟨.inl ⟨rfl, rfl, rfl, rfl⟩, trivial⟩
    · exact ⟨.inr (.inl ⟨rfl, by cases b; exact .inl rfl; exact .inr rfl, rfl, rfl⟩), trivial⟩
    · exact ⟨.inr (.inr (.inl ⟨rfl, rfl, rfl⟩)), trivial⟩
    · exact ⟨.inr (.inr (.inr (.inl ⟨rfl, rfl, rfl⟩))), trivial⟩
    · refine ⟨.inr (.inr (.inr (.inr ⟨rfl, rfl, rfl⟩))), goodL_of fun u hu => ?_⟩
      rcases h6 with rfl | ⟨g, off, _, _, hc⟩
      · cases hu
      · obtain ⟨j, hj, rfl⟩ := List.getElem_of_mem hu
        obtain ⟨u', _, hr⟩ := hc j hj
        exact hr.good
theorem cbs_un_tx (v : Value) (w : World) : (Instr.typeAssert (.iface 172 v) 35 174 true).run Tryz.prog w = .ok (.tuple #[(.string ByteArray.empty), .bool false]) w := by kernel_rfl
theorem cbs_un_li (v : Value) (w : World) : (Instr.typeAssert (.iface 172 v) 35 81 true).run Tryz.prog w = .ok (.tuple #[(.slice none 0 0), .bool false]) w := by kernel_rfl
theorem cbs_li_tx (v : Value) (w : World) : (Instr.typeAssert (.iface 81 v) 35 174 true).run Tryz.prog w = .ok (.tuple #[(.string ByteArray.empty), .bool false]) w := by kernel_rfl
theorem cbs_li_li (v : Value) (w : World) : (Instr.typeAssert (.iface 81 v) 35 81 true).run Tryz.prog w = .ok (.tuple #[v, .bool true]) w := by kernel_rfl
/-- What holds and holdsAll answer of so much. -/
def MayR (w : World) (b left n : Nat) (ok : Prop) (e : Ending) (w' : World) : Prop := Kp (· ≠ b) w w' ∧ ((ok ∧ e = .returned (.bool true) ∧ w'.heap[b]? = some (.cells #[.int .i64 (left - n : Nat)] 213)) ∨ (¬ ok ∧ e = .returned (.bool false) ∧ ∃ x, w'.heap[b]? = some (.cells #[.int .i64 x] 213)))
def fitT (left nest : Nat) (t : T) : Prop := t.size ≤ left ∧ t.deep ≤ nest
theorem retB1 {b c : Bool} (h : b = c) : Ending.returned (.bool b) = .returned (.bool c) := by rw [h]
set_option maxRecDepth 100000 in
theorem vh_un (b left : Nat) (nest : Int) (w : World) (h : w.heap[b]? = some (.cells #[.int .i64 left] 213)) (hl : left ≤ 65536) : Calls Tryz.prog 103 #[.pointer (some ⟨b, 0, none⟩), .iface 172 (.agg #[]), .int .i64 nest] w (MayR w b left 1 (1 ≤ left)) := by
  have HB := hid (set_at h 0 (.int .i64 ((left : Int) - 1)))
  have c0 : w.cell? ⟨b, 0, none⟩ = some (.int .i64 left) := cell_of h rfl
  have f0 : w.frozen? ⟨b, 0, none⟩ = false := frozen_of h
  have h1 := cbs_un_tx (.agg #[])
  have h2 := cbs_un_li (.agg #[])
  have hl' : (left : Int) ≤ 65536 := by omega
  clear h
  go_enter Tryz.func103, Tryz.ntmps103
  go_wp2_with fail
  go_ret
  refine ⟨Kp.set w b 0 _ (fun h => h rfl), ?_⟩
  by_cases g1 : 1 ≤ left
  · exact .inl ⟨g1, retB1 (decide_eq_true (by omega)), by rw [show ((left - 1 : Nat) : Int) = (left : Int) - 1 by omega]; exact HB.out⟩
  · exact .inr ⟨g1, retB1 (decide_eq_false (by omega)), _, HB.out⟩
set_option maxRecDepth 100000 in
theorem vh_in (n : Int) (b left : Nat) (nest : Int) (w : World) (h : w.heap[b]? = some (.cells #[.int .i64 left] 213)) (hl : left ≤ 65536) : Calls Tryz.prog 103 #[.pointer (some ⟨b, 0, none⟩), .iface 83 (.int .i64 n), .int .i64 nest] w (MayR w b left 1 (1 ≤ left)) := by
  have HB := hid (set_at h 0 (.int .i64 ((left : Int) - 1)))
  have c0 : w.cell? ⟨b, 0, none⟩ = some (.int .i64 left) := cell_of h rfl
  have f0 : w.frozen? ⟨b, 0, none⟩ = false := frozen_of h
  have h1 := cas_in_tx (.int .i64 n)
  have h2 := cas_in_li (.int .i64 n)
  have hl' : (left : Int) ≤ 65536 := by omega
  clear h
  go_enter Tryz.func103, Tryz.ntmps103
  go_wp2_with fail
  go_ret
  refine ⟨Kp.set w b 0 _ (fun h => h rfl), ?_⟩
  by_cases g1 : 1 ≤ left
  · exact .inl ⟨g1, retB1 (decide_eq_true (by omega)), by rw [show ((left - 1 : Nat) : Int) = (left : Int) - 1 by omega]; exact HB.out⟩
  · exact .inr ⟨g1, retB1 (decide_eq_false (by omega)), _, HB.out⟩
set_option maxRecDepth 100000 in
theorem vh_tu (q : Bool) (b left : Nat) (nest : Int) (w : World) (h : w.heap[b]? = some (.cells #[.int .i64 left] 213)) (hl : left ≤ 65536) : Calls Tryz.prog 103 #[.pointer (some ⟨b, 0, none⟩), .iface 173 (.bool q), .int .i64 nest] w (MayR w b left 1 (1 ≤ left)) := by
  have HB := hid (set_at h 0 (.int .i64 ((left : Int) - 1)))
  have c0 : w.cell? ⟨b, 0, none⟩ = some (.int .i64 left) := cell_of h rfl
  have f0 : w.frozen? ⟨b, 0, none⟩ = false := frozen_of h
  have h1 := cas_tu_tx (.bool q)
  have h2 := cas_tu_li (.bool q)
  have hl' : (left : Int) ≤ 65536 := by omega
  clear h
  go_enter Tryz.func103, Tryz.ntmps103
  go_wp2_with fail
  go_ret
  refine ⟨Kp.set w b 0 _ (fun h => h rfl), ?_⟩
  by_cases g1 : 1 ≤ left
  · exact .inl ⟨g1, retB1 (decide_eq_true (by omega)), by rw [show ((left - 1 : Nat) : Int) = (left : Int) - 1 by omega]; exact HB.out⟩
  · exact .inr ⟨g1, retB1 (decide_eq_false (by omega)), _, HB.out⟩

set_option maxRecDepth 100000 in
theorem vh_tx (s : ByteArray) (b left : Nat) (nest : Int) (w : World) (h : w.heap[b]? = some (.cells #[.int .i64 left] 213)) (hl : left ≤ 65536) (hs : s.size ≤ 140737488351232) : Calls Tryz.prog 103 #[.pointer (some ⟨b, 0, none⟩), .iface 174 (.string s), .int .i64 nest] w (MayR w b left (1 + s.size) (1 + s.size ≤ left)) := by
  have HB := hid (set_at (set_at h 0 (.int .i64 ((left : Int) - 1))) 0 (.int .i64 ((left : Int) - 1 - s.size)))
  have c0 : w.cell? ⟨b, 0, none⟩ = some (.int .i64 left) := cell_of h rfl
  have f0 : w.frozen? ⟨b, 0, none⟩ = false := frozen_of h
  have h1 := cas_tx_tx (.string s)
  have hl' : (left : Int) ≤ 65536 := by omega
  have hs' : (s.size : Int) ≤ 140737488351232 := by omega
  clear h
  go_enter Tryz.func103, Tryz.ntmps103
  go_wp2_with fail
  go_ret
  refine ⟨(Kp.set w b 0 _ (fun h => h rfl)).trans (Kp.set _ b 0 _ (fun h => h rfl)), ?_⟩
  by_cases g1 : 1 + s.size ≤ left
  · exact .inl ⟨g1, retB1 (decide_eq_true (by omega)), by rw [show ((left - (1 + s.size) : Nat) : Int) = (left : Int) - 1 - s.size by omega]; exact HB.out⟩
  · exact .inr ⟨g1, retB1 (decide_eq_false (by omega)), _, HB.out⟩
/-- Values of a list in memory. -/
def VKids (K : Nat → Prop) (w : World) (d : Nat) (a : Option Addr) (ks : List T) : Prop := ks = [] ∨ ∃ g off, a = some ⟨g, off, none⟩ ∧ K g ∧ ∀ j, (h : j < ks.length) → ∃ u, w.cell? ⟨g, off + j, none⟩ = some u ∧ VRd K w d u ks[j]
def VHolds (d : Nat) : Prop := ∀ (v : Value) (t : T) (K : Nat → Prop) (w : World) (b left nest : Nat), VRd K w d v t → ¬ K b → w.heap[b]? = some (.cells #[.int .i64 left] 213) → left ≤ 65536 → nest ≤ 64 →
    Calls Tryz.prog 103 #[.pointer (some ⟨b, 0, none⟩), v, .int .i64 nest] w (MayR w b left t.size (fitT left nest t))
set_option maxRecDepth 100000 in
set_option maxHeartbeats 2000000 in
theorem vall_any (d : Nat) (ih : VHolds d) (a : Option Addr) (c : Nat) (ks : List T) (K : Nat → Prop) (w : World) (b left nest : Nat) (hk : VKids K w d a ks) (hb : ¬ K b) (hm : w.heap[b]? = some (.cells #[.int .i64 left] 213)) (hL : left ≤ 65536) (hN : nest ≤ 64) (hlen : ks.length ≤ 140737488351232) :
    Calls Tryz.prog 142 #[.pointer (some ⟨b, 0, none⟩), .slice a ks.length c, .int .i64 nest] w (MayR w b left (T.sizeL ks) (T.sizeL ks ≤ left ∧ T.deepL ks ≤ nest)) := by
  have HK := hid hk
  have HB := hid hb
  have HM := hid hm
  have HIH := hid ih
  have c0 : w.cell? ⟨b, 0, none⟩ = some (.int .i64 left) := cell_of hm rfl
  obtain ⟨n, hne⟩ : ∃ n, ks.length = n := ⟨_, rfl⟩
  have HNE := hid hne
  rw [hne] at hlen ⊢
  have hn' : (n : Int) ≤ 140737488351232 := by omega
  clear hk hb hm ih hne
  by_cases g2 : left < n
  · have q2 : decide ((left : Int) < (n : Int)) = true := decide_eq_true (by omega)
    have q3 : (left : Int) < (n : Int) := by omega
    have NOK := hid (show ¬ (T.sizeL ks ≤ left ∧ T.deepL ks ≤ nest) from fun h => by have := T.sizeL_len ks; have := HNE.out; omega)
    go_enter Tryz.func142, Tryz.ntmps142
    go_wp2_with fail
    go_ret
    exact ⟨Kp.refl _ _, .inr ⟨NOK.out, rfl, _, HM.out⟩⟩
  have q2 : ¬ (left : Int) < (n : Int) := by omega
  go_enter Tryz.func142, Tryz.ntmps142
  go_wp2_with fail
  clear c0
  go_loopw [18] (fun i wr => ∃ j : Nat, j ≤ n ∧ i = .int .i64 j ∧ Kp (· ≠ b) w wr ∧ (T.sizeL (ks.take j) ≤ left ∧ T.deepL (ks.take j) ≤ nest) ∧ wr.heap[b]? = some (.cells #[.int .i64 (left - T.sizeL (ks.take j) : Nat)] 213)) (fun i _ => n - (intOf i).toNat)
  case atStart => exact ⟨0, Nat.zero_le _, rfl, Kp.refl _ _, ⟨by simp [T.sizeL], by simp [T.deepL]⟩, by simpa [T.sizeL] using HM.out⟩
  case round =>
    obtain ⟨j, hj, rfl, hkp, hle, hbm⟩ := hrel
    have HK2 := hid hkp
    have HLE := hid hle
    have HB2 := hid hbm
    clear hkp hle hbm
    by_cases hlt2 : j < n
    · have hlt' : (j : Int) < n := by omega
      have hjk : j < ks.length := by rw [HNE.out]; exact hlt2
      rcases HK.out with h0 | ⟨g, off, rfl, hg, hcells⟩
      · rw [h0] at hjk; exact absurd hjk (Nat.not_lt_zero _)
      obtain ⟨u, h4, hrd⟩ := hcells j hjk
      obtain ⟨τ, p, rfl⟩ := hrd.iface
      have hne : g ≠ b := fun e => HB.out (e ▸ hg)
      have m0 := HK2.out.cell h4 hne
      have hgl := lt_of_cell m0
      have hKK : Kp K w wr := HK2.out.mono (fun k _ hk e => HB.out (e ▸ hk))
      have HC := hid (HIH.out _ ks[j] K wr b (left - T.sizeL (ks.take j)) nest (hrd.keep hKK) HB.out HB2.out (by omega) hN)
      have HS := hid (And.intro (T.sizeL_take ks j hjk) (And.intro (T.deepL_take ks j hjk) (And.intro (T.sizeL_split ks (j + 1)) (T.deepL_split ks (j + 1)))))
      clear hcells h4 hrd hg hKK
      generalize ks[j] = tj at *
      clear hjk
      go_wp2_with fail
      refine HC.out.mono ?_
      rintro e w2 ⟨hk2, hcase⟩
      have HK3 := hid (HK2.out.trans hk2)
      clear hk2 m0 hgl
      rcases hcase with ⟨hok, rfl, hb3⟩ | ⟨hno, rfl, hb3⟩
      · have HOK := hid hok
        have HB3 := hid hb3
        clear hok hb3
        go_wp2_with fail
        go_roundw
        case rel =>
          obtain ⟨s1, s2, s4, s5⟩ := HS.out
          obtain ⟨o2, o3⟩ := HOK.out
          obtain ⟨p2, p3⟩ := HLE.out
          refine ⟨j + 1, hlt2, by go_num, HK3.out, ⟨by omega, by omega⟩, ?_⟩
          rw [HB3.out, show left - T.sizeL (ks.take (j + 1)) = left - T.sizeL (ks.take j) - tj.size by omega]
        case measure => simp [intOf]; omega
      · have HNO := hid hno
        have HB3 := hid hb3
        clear hno hb3
        go_wp2_with fail
        go_ret
        refine ⟨HK3.out, .inr ⟨fun h => HNO.out ?_, rfl, HB3.out⟩⟩
        obtain ⟨s1, s2, s4, s5⟩ := HS.out
        exact ⟨by omega, by omega⟩
    · have hje : j = n := by omega
      have HT := hid (show ks.take j = ks by rw [hje, ← HNE.out, List.take_length])
      have hlt3 : ¬ (j : Int) < n := by omega
      go_wp2_with fail
      go_ret
      obtain ⟨p2, p3⟩ := HLE.out
      have hb4 := HB2.out
      rw [HT.out] at p2 p3 hb4
      exact ⟨HK2.out, .inl ⟨⟨p2, p3⟩, rfl, hb4⟩⟩
set_option maxRecDepth 100000 in
theorem vall_neg (a : Option Addr) (n c : Nat) (w : World) (b nest : Nat) (hm : w.heap[b]? = some (.cells #[.int .i64 (-1)] 213)) (hlen : n ≤ 140737488351232) :
    Calls Tryz.prog 142 #[.pointer (some ⟨b, 0, none⟩), .slice a n c, .int .i64 nest] w fun e w' => e = .returned (.bool false) ∧ w' = w := by
  have c0 : w.cell? ⟨b, 0, none⟩ = some (.int .i64 (-1)) := cell_of hm rfl
  have hn' : (n : Int) ≤ 140737488351232 := by omega
  have q3 : (-1 : Int) < (n : Int) := by omega
  clear hm
  go_enter Tryz.func142, Tryz.ntmps142
  go_wp2_with fail
  go_ret
  exact ⟨rfl, rfl⟩
set_option maxRecDepth 100000 in
set_option maxHeartbeats 2000000 in
theorem vholds_any : ∀ d, VHolds d := by
  intro d
  induction d with
  | zero => intro v t K w b left nest h; exact h.elim
  | succ d ih =>
    intro v t K w b left nest hr hb hm hL hN
    obtain ⟨k, n, x, ks⟩ := t
    rcases hr with ⟨rfl, rfl, rfl, rfl, rfl⟩ | ⟨rfl, rfl, rfl, q, rfl, rfl⟩ | ⟨rfl, rfl, rfl, rfl⟩ | ⟨rfl, rfl, rfl, hx, rfl⟩ | ⟨rfl, rfl, rfl, hl, a, c, rfl, hks⟩
    · refine (vh_un b left nest w hm hL).mono fun e w' h => ?_
      have e1 : fitT left nest (.node 1 0 ⟨#[]⟩ []) = (1 ≤ left) := by simp [fitT, T.size, T.sizeL, T.deep, size0]
      rw [e1]; exact h
    · refine (vh_tu q b left nest w hm hL).mono fun e w' h => ?_
      have e1 : fitT left nest (.node 2 (if q then 1 else 0) ⟨#[]⟩ []) = (1 ≤ left) := by simp [fitT, T.size, T.sizeL, T.deep, size0]
      rw [e1]; exact h
    · refine (vh_in n b left nest w hm hL).mono fun e w' h => ?_
      have e1 : fitT left nest (.node 3 n ⟨#[]⟩ []) = (1 ≤ left) := by simp [fitT, T.size, T.sizeL, T.deep, size0]
      rw [e1]; exact h
    · refine (vh_tx x b left nest w hm hL hx).mono fun e w' h => ?_
      have e1 : fitT left nest (.node 4 0 x []) = (1 + x.size ≤ left) := by simp [fitT, T.size, T.sizeL, T.deep]
      have e2 : (T.node 4 0 x []).size = 1 + x.size := by simp [T.size, T.sizeL]
      rw [e1, e2]; exact h
    · have HB := hid (set_at hm 0 (.int .i64 ((left : Int) - 1)))
      have HKP := hid (Kp.set w b 0 (.int .i64 ((left : Int) - 1)) (K := (· ≠ b)) (fun h => h rfl))
      have hks' : VKids K w d a ks := hks
      have hlen : ks.length ≤ 140737488351232 := by omega
      have HA := hid (fun (h0 : 1 ≤ left) (h1 : 1 ≤ nest) => vall_any d ih a c ks K (w.setCell ⟨b, 0, none⟩ (.int .i64 ((left : Int) - 1))) b (left - 1) (nest - 1) (by
          rcases hks' with h | ⟨g, off, ea, hg, hc⟩
          · exact .inl h
          · refine .inr ⟨g, off, ea, hg, fun j hj => ?_⟩
            obtain ⟨u, h2, h3⟩ := hc j hj
            exact ⟨u, HKP.out.cell h2 (fun e => hb (e ▸ hg)), h3.keep (HKP.out.mono (fun k _ hk e => hb (e ▸ hk)))⟩) hb (by rw [show ((left - 1 : Nat) : Int) = (left : Int) - 1 by omega]; exact HB.out) (by omega) (by omega) hlen)
      have HN := hid (fun (h0 : left = 0) (nest' : Nat) => vall_neg a ks.length c (w.setCell ⟨b, 0, none⟩ (.int .i64 ((left : Int) - 1))) b nest' (by
        have e : (left : Int) - 1 = -1 := by omega
        have hb' := HB.out
        rw [e] at hb' ⊢
        exact hb') hlen)
      have e1 : fitT left nest (.node 5 0 ⟨#[]⟩ ks) = (1 + T.sizeL ks ≤ left ∧ 1 + T.deepL ks ≤ nest) := by simp [fitT, T.size, T.deep, size0]
      have e2 : (T.node 5 0 ⟨#[]⟩ ks).size = 1 + T.sizeL ks := by simp [T.size, size0]
      rw [e1, e2]
      have c0 : w.cell? ⟨b, 0, none⟩ = some (.int .i64 left) := cell_of hm rfl
      have f0 : w.frozen? ⟨b, 0, none⟩ = false := frozen_of hm
      have h1 := cbs_li_tx (.slice a ks.length c)
      have h2 := cbs_li_li (.slice a ks.length c)
      have hl' : (left : Int) ≤ 65536 := by omega
      clear hm hks hks' ih e1 e2 hl
      by_cases g1 : nest = 0
      · subst g1
        go_enter Tryz.func103, Tryz.ntmps103
        go_wp2_with fail
        go_ret
        exact ⟨HKP.out, .inr ⟨fun h => by have := h.2; omega, rfl, _, HB.out⟩⟩
      have g1' : (0 : Int) < (nest : Int) := by omega
      have g1n : 0 < nest := by omega
      have hnest : (nest : Int) - 1 = ((nest - 1 : Nat) : Int) := by omega
      by_cases g2 : left = 0
      · have HN2 := hid (HN.out g2 (nest - 1))
        have HG2 := hid g2
        clear g2
        go_enter Tryz.func103, Tryz.ntmps103
        go_wp2_with fail
        refine HN2.out.mono ?_
        rintro e w2 ⟨rfl, rfl⟩
        go_wp2_with fail
        go_ret
        exact ⟨HKP.out, .inr ⟨fun h => by have := h.1; have := HG2.out; omega, rfl, _, HB.out⟩⟩
      · have HA2 := hid (HA.out (by omega) (by omega))
        have HG2 := hid g2
        clear g2
        go_enter Tryz.func103, Tryz.ntmps103
        go_wp2_with fail
        refine HA2.out.mono ?_
        rintro e w2 ⟨hk2, hcase⟩
        have HK3 := hid (HKP.out.trans hk2)
        clear hk2
        rcases hcase with ⟨hok, rfl, hb3⟩ | ⟨hno, rfl, hb3⟩
        · have HOK := hid hok
          have HB3 := hid hb3
          clear hok hb3
          go_wp2_with fail
          go_ret
          refine ⟨HK3.out, .inl ⟨⟨by have := HOK.out.1; have := HG2.out; omega, by have := HOK.out.2; omega⟩, rfl, ?_⟩⟩
          rw [HB3.out, show left - (1 + T.sizeL ks) = left - 1 - T.sizeL ks by omega]
        · have HNO := hid hno
          have HB3 := hid hb3
          clear hno hb3
          go_wp2_with fail
          go_ret
          exact ⟨HK3.out, .inr ⟨fun h => HNO.out ⟨by have := h.1; omega, by have := h.2; omega⟩, rfl, HB3.out⟩⟩
/-- craft.may: whether a value may be. -/
theorem cmay_any {K : Nat → Prop} {d : Nat} {v : Value} {t : T} (w : World) (hr : VRd K w d v t) : Calls Tryz.prog 84 #[v] w fun e w' => e = .returned (.bool (decide t.may)) ∧ Ext w w' := by
  obtain ⟨τ, p, rfl⟩ := hr.iface
  have hg := hr.good
  have HR := hid hr.low
  clear hr
  go_enter Tryz.func84, Tryz.ntmps84
  go_wp2_with fail
  refine (vholds_any d _ t (· < w.heap.size) _ w.heap.size 65536 64 (HR.out.later (Ext.alloc _ _)) (by omega) (blk0 _ _) (by omega) (by omega)).mono ?_
  rintro e w2 ⟨hk, hcase⟩
  have HX := hid (hk.extOf (Ext.alloc w _) (Nat.le_refl _))
  clear hk
  rcases hcase with ⟨hok, rfl, _⟩ | ⟨hno, rfl, _⟩
  · have HS := hid (show t.may from ⟨hg, hok.1, hok.2⟩)
    clear hok
    go_wp2_with fail
    go_ret
    exact ⟨retB1 (decide_eq_true HS.out).symm, HX.out⟩
  · have HS := hid (show ¬ t.may from fun h => hno ⟨h.2.1, h.2.2⟩)
    clear hno
    go_wp2_with fail
    go_ret
    exact ⟨retB1 (decide_eq_false HS.out).symm, HX.out⟩
end Go.Proofs.YtaafcmmmkalgjaaGreatDoor
/-
  list.refused, at beyond the end, count by contracts.
-/
namespace Go.Proofs.YtaafcmmmkalgjaaGreatDoor
open Go.RowKit
theorem lref_any (c : Int) (w : World) : Calls Tryz.prog 77 #[.int .i64 c] w fun e w' => e = .returned (refX c ⟨#[]⟩) ∧ w' = w := by
  unfold refX
  go_enter Tryz.func77, Tryz.ntmps77
  go_wp2_with fail
  go_ret3
  exact ⟨rfl, rfl⟩
set_option maxRecDepth 100000 in
set_option maxHeartbeats 1000000 in
theorem at_bad (g : Nat) (a : Option Addr) (l c : Nat) (n : Int) (w : World) (h0 : w.cell? ⟨g, 0, none⟩ = some (.iface 81 (.slice a l c))) (h1 : w.cell? ⟨g, 1, none⟩ = some (.iface 83 (.int .i64 n))) (hn : n < 0 ∨ (l : Int) ≤ n) : Calls Tryz.prog 41 #[.slice (some ⟨g, 0, none⟩) 2 2] w fun e w' => e = .returned (refX 23 ⟨#[]⟩) ∧ w' = w := by
  have HI := hid (items0_any g 2 (by decide) a l c w h0)
  have HN := hid (number1_any g 2 (by decide) n w h1)
  have HR := hid (lref_any 23 w)
  unfold refX at HR ⊢
  clear h0 h1
  by_cases hb : n < 0
  · clear hn
    go_enter Tryz.func41, Tryz.ntmps41
    go_wp2_with fail
    refine HI.out.mono ?_
    rintro e w1 ⟨rfl, hw1⟩
    rw [hw1]
    clear hw1 w1
    go_wp2_with fail
    refine HN.out.mono ?_
    rintro e w1 ⟨rfl, hw1⟩
    rw [hw1]
    clear hw1 w1
    go_wp2_with fail
    refine HR.out.mono ?_
    rintro e w1 ⟨rfl, hw1⟩
    rw [hw1]
    clear hw1 w1
    go_wp2_with fail
    go_ret3
    exact ⟨rfl, rfl⟩
  · have hb2 : (l : Int) ≤ n := by omega
    have hb3 : ¬ n < (l : Int) := by omega
    clear hn
    go_enter Tryz.func41, Tryz.ntmps41
    go_wp2_with fail
    refine HI.out.mono ?_
    rintro e w1 ⟨rfl, hw1⟩
    rw [hw1]
    clear hw1 w1
    go_wp2_with fail
    refine HN.out.mono ?_
    rintro e w1 ⟨rfl, hw1⟩
    rw [hw1]
    clear hw1 w1
    go_wp2_with fail
    refine HR.out.mono ?_
    rintro e w1 ⟨rfl, hw1⟩
    rw [hw1]
    clear hw1 w1
    go_wp2_with fail
    go_ret3
    exact ⟨rfl, rfl⟩
set_option maxRecDepth 100000 in
set_option maxHeartbeats 1000000 in
theorem count_low (g : Nat) (n : Int) (w : World) (h0 : w.cell? ⟨g, 0, none⟩ = some (.iface 83 (.int .i64 n))) (hn : n < 0) : Calls Tryz.prog 46 #[.slice (some ⟨g, 0, none⟩) 1 1] w fun e w' => e = .returned (refX 23 ⟨#[]⟩) ∧ w' = w := by
  have HN := hid (number0_any g 1 (by decide) n w h0)
  have HR := hid (lref_any 23 w)
  unfold refX at HR ⊢
  clear h0
  go_enter Tryz.func46, Tryz.ntmps46
  go_wp2_with fail
  refine HN.out.mono ?_
  rintro e w1 ⟨rfl, hw1⟩
  rw [hw1]
  clear hw1 w1
  go_wp2_with fail
  refine HR.out.mono ?_
  rintro e w1 ⟨rfl, hw1⟩
  rw [hw1]
  clear hw1 w1
  go_wp2_with fail
  go_ret3
  exact ⟨rfl, rfl⟩
set_option maxRecDepth 100000 in
set_option maxHeartbeats 1000000 in
theorem count_high (g : Nat) (n : Int) (w : World) (h0 : w.cell? ⟨g, 0, none⟩ = some (.iface 83 (.int .i64 n))) (hn : 65535 < n) : Calls Tryz.prog 46 #[.slice (some ⟨g, 0, none⟩) 1 1] w fun e w' => e = .returned (refX 2 ⟨#[]⟩) ∧ w' = w := by
  have HN := hid (number0_any g 1 (by decide) n w h0)
  have HR := hid (lref_any 2 w)
  unfold refX at HR ⊢
  have hn2 : ¬ n < 0 := by omega
  clear h0
  go_enter Tryz.func46, Tryz.ntmps46
  go_wp2_with fail
  refine HN.out.mono ?_
  rintro e w1 ⟨rfl, hw1⟩
  rw [hw1]
  clear hw1 w1
  go_wp2_with fail
  refine HR.out.mono ?_
  rintro e w1 ⟨rfl, hw1⟩
  rw [hw1]
  clear hw1 w1
  go_wp2_with fail
  go_ret3
  exact ⟨rfl, rfl⟩
/-- The numbers below, as a list of values in a block. -/
def NumsAt (w : World) (b m : Nat) : Prop := ∃ cs, w.heap[b]? = some (.cells cs 35) ∧ cs.size = m ∧ ∀ j, j < m → cs[j]? = some (.iface 83 (.int .i64 (j : Int)))
def CountR (w : World) (m : Nat) (e : Ending) (w' : World) : Prop := ∃ b, e = .returned (.tuple #[.iface 81 (.slice (some ⟨b, 0, none⟩) m m), .int .i64 0, .string ⟨#[]⟩]) ∧ NumsAt w' b m ∧ w.heap.size ≤ b ∧ Ext w w'
set_option maxRecDepth 100000 in
set_option maxHeartbeats 1000000 in
theorem count_ok (g m : Nat) (w : World) (h0 : w.cell? ⟨g, 0, none⟩ = some (.iface 83 (.int .i64 (m : Int)))) (hm : m ≤ 65535) : Calls Tryz.prog 46 #[.slice (some ⟨g, 0, none⟩) 1 1] w (CountR w m) := by
  have HN := hid (number0_any g 1 (by decide) (m : Int) w h0)
  have hm2 : ¬ (65535 : Int) < (m : Int) := by omega
  have hm3 : ¬ (m : Int) < 0 := by omega
  have hm4 : (m : Int) ≤ 65535 := by omega
  obtain ⟨ti, hi, hz0, hz1, hz2⟩ := info_parts valueInfoC
  obtain ⟨cz, hcz, hmk⟩ : ∃ cz : Array Value, cz.size = m ∧ ∀ w, (Instr.makeSlice 81 (.int .i64 (m : Int)) (.int .i64 (m : Int))).run Tryz.prog w = .ok (.slice (some ⟨w.heap.size, 0, none⟩) m m) (w.alloc (.cells cz 35)) := by
    refine ⟨madeCells (Value.nilIface).cells (m * 1), by rw [size_madeCells]; omega, fun w => ?_⟩
    have := run_make (P := Tryz.prog) w 81 35 ti _ Tryz.underlying81 hi hz0 .i64 .i64 m m (by omega) (Int.le_refl _) (by rw [hz2]; omega) (by omega)
    rw [hz1] at this
    simpa using this
  have HCZ := hid hcz
  clear hcz hi hz0 hz1 hz2 h0
  go_enter Tryz.func46, Tryz.ntmps46
  go_wp2_with fail
  refine HN.out.mono ?_
  rintro e w1 ⟨rfl, hw1⟩
  rw [hw1]
  clear hw1 w1
  go_wp2_with fail
  have HMK := hid hmk
  clear hmk
  go_loopw [28] (fun q28 wr => ∃ (j : Nat) (cs : Array Value), j ≤ m ∧ q28 = .int .i64 j ∧ wr.heap[w.heap.size]? = some (.cells cs 35) ∧ cs.size = m ∧ (∀ i, i < j → cs[i]? = some (.iface 83 (.int .i64 (i : Int)))) ∧ Ext w wr) (fun q28 _ => m - (intOf q28).toNat)
  case atStart => exact ⟨0, cz, Nat.zero_le _, rfl, blk0 _ _, HCZ.out, fun i h => absurd h (Nat.not_lt_zero _), Ext.alloc _ _⟩
  case round =>
    obtain ⟨j, cs, hj, rfl, hb, hcs, hall, hx⟩ := hrel
    have HB := hid hb
    have HCS := hid hcs
    have HALL := hid hall
    have HX := hid hx
    clear hb hcs hall hx
    by_cases hlt : j < m
    · have hlt' : (j : Int) < m := by omega
      have hf3 : wr.frozen? ⟨w.heap.size, j, none⟩ = false := frozen_of HB.out
      have hc3 : wr.cell? ⟨w.heap.size, j, none⟩ = some cs[j]! := cell_of HB.out (by
        have hs : j < cs.size := by rw [HCS.out]; exact hlt
        rw [Array.getElem?_eq_getElem hs, getElem!_pos cs j hs])
      go_wp2_with fail
      go_roundw
      case rel =>
        refine ⟨j + 1, cs.setIfInBounds j (.iface 83 (.int .i64 (j : Int))), by omega, by go_num, set_at HB.out j _, by rw [Array.size_setIfInBounds]; exact HCS.out, fun i hi => ?_, Kp.extOf HX.out (Kp.set wr _ j _ (fun h => h rfl)) (Nat.le_refl _)⟩
        by_cases e : i = j
        · subst e; exact set_get _ (by rw [HCS.out]; exact hlt)
        · rw [set_get_other _ e]; exact HALL.out i (by omega)
      case measure => simp [intOf]; omega
    · have hlt3 : ¬ (j : Int) < m := by omega
      have HJ := hid (show j = m by omega)
      go_wp2_with fail
      refine (lcame_any _ _).mono ?_
      rintro e w1 ⟨rfl, hw1⟩
      rw [hw1]
      clear hw1 w1
      go_wp2_with fail
      go_ret3
      exact ⟨_, rfl, ⟨cs, HB.out, HCS.out, fun i hi => HALL.out i (by have := HJ.out; omega)⟩, Nat.le_refl _, HX.out⟩
end Go.Proofs.YtaafcmmmkalgjaaGreatDoor
