/-
  literal(): a handle on a node of base.yes; a list of such handles; append of handles, as one step of a region that draws its order.
-/
import Derived.Test.YtaodkfchmaendaaGreatDoorJ7Beg
import Derived.Test.YtaodkfchmaendaaGreatDoorPItems
import Derived.Test.YtaodkfchmaendaaGreatDoorHold
import Derived.Deep.AppendLies
namespace Go.Proofs.YtaodkfchmaendaaGreatDoor.Nd
open Go.RowKit
def bYes : ByteArray := ⟨#[98, 97, 115, 101, 46, 121, 101, 115]⟩
theorem bYes_find : kdFind bYes = some 1 := by decide
theorem fit_yes0 : fitsK (minK 1) (maxK 1) (numK 1) (textK 1) 0 ⟨#[]⟩ 0 = 0 := by simp [fitsK, takesK, minK, maxK, numK, textK]; try decide
/-- A handle on a literal. -/
def LitH (w : World) (h b : Nat) : Prop := HandAt w h (.iface 175 (.pointer (some ⟨b, 0, none⟩))) (.iface 175 (.pointer (some ⟨b, 0, none⟩)))
set_option maxRecDepth 100000 in
theorem literal_any (w : World) : Calls Tryz.prog 10 #[] w fun e w' => ∃ h b, e = .returned (.pointer (some ⟨h, 0, none⟩)) ∧ LitH w' h b ∧ Ext w w' := by
  have HM := hid (make_some 1 (by decide) bYes ⟨#[]⟩ 0 none 0 0 none 0 0 (fun _ => 175) (fun _ => .nilIface) w bYes_find (by decide) (by decide) (.inl rfl))
  unfold bYes at HM
  go_enter Tryz.func10, Tryz.ntmps10
  go_wp2_with fail
  refine HM.out.mono ?_
  rintro e w1 (⟨_, h, b, a, c, rfl, hh, _, _, _, hx1⟩ | ⟨hne, _⟩)
  · have HH := hid hh
    have X1 := hid hx1
    clear hh hx1
    go_wp2_with fail
    go_ret
    exact ⟨h, b, rfl, HH.out, X1.out⟩
  · exact absurd hne (by rw [show fitsK (minK 1) (maxK 1) (numK 1) (textK 1) 0 ⟨#[]⟩ ((0 : Nat) : Int) = 0 from fit_yes0]; decide)
/-- A slice that has these values, or none. -/
def Lies (w : World) (a : Option Addr) (m c : Nat) (us : List Value) : Prop := us.length = m ∧ ((a = none ∧ m = 0 ∧ c = 0) ∨ ∃ g off, a = some ⟨g, off, none⟩ ∧ ∀ j u, us[j]? = some u → w.cell? ⟨g, off + j, none⟩ = some u)
theorem Lies.later {w w' : World} {a : Option Addr} {m c : Nat} {us : List Value} (h : Lies w a m c us) (hx : Ext w w') : Lies w' a m c us := ⟨h.1, h.2.imp id fun ⟨g, off, e, hc⟩ => ⟨g, off, e, fun j u hu => (hx.kp (fun _ => True)).cell (hc j u hu) trivial⟩⟩
theorem addN (g off j : Nat) : Addr.add ⟨g, off, none⟩ j = ⟨g, off + j, none⟩ := by
  by_cases hj : j = 0
  · subst hj; simp [Addr.add]
  · simp [Addr.add, hj]
theorem append_h {W : World} (v : Value) (n : Nat) (xs : List Value) (a : Option Addr) (m c : Nat) (us : List Value) (w : World) (hown : w.ownsRow W.heap.size 27 1 v n xs) (hs : Lies w a m c us) (h1 : ∀ u ∈ us, u.oneCell' = true) (hb : n + m ≤ 100000) (hx : Ext W w) :
    ∃ a' c' w', (Builtin.append_ #[26, 26] 26 #[v, .slice a m c]).run Tryz.prog w = .ok (.slice a' (n + m) c') w' ∧ w'.ownsRow W.heap.size 27 1 (.slice a' (n + m) c') (n + m) (xs ++ us) ∧ Ext W w' ∧ (v = .slice none 0 0 → Ext w w') := by
  obtain ⟨i0, hi0, hz0, hz1, hz2⟩ := info_parts hpInfo
  obtain ⟨hl, ⟨rfl, rfl, rfl⟩ | ⟨g, off, rfl, hc⟩⟩ := hs
  · have hr := run_append_owned_none (P := Tryz.prog) (w := w) W.heap.size 26 26 27 i0 1 Tryz.underlying26 hi0 v n xs hown
    obtain ⟨a', c', rfl⟩ : ∃ a' c', v = .slice a' n c' := by
      rcases hown.2 with ⟨rfl, rfl⟩ | ⟨g, cap, cur, rfl, _⟩
      · exact ⟨_, _, rfl⟩
      · exact ⟨_, _, rfl⟩
    have hu : us = [] := List.length_eq_zero_iff.1 hl
    subst hu
    exact ⟨a', c', w, hr, by rw [List.append_nil]; exact hown, hx, fun _ => Ext.refl _⟩
  · obtain ⟨v', w', hr, ho, hg, _, _⟩ := run_append_own_at (P := Tryz.prog) w W.heap.size 26 26 27 i0 (.pointer none) 1 8 Tryz.underlying26 hi0 hz0 hz1 hz2 rfl (by decide) v n xs hown ⟨g, off, none⟩ m c us (by simpa using hl) (fun j u hu => by rw [addN]; exact hc j u hu) h1 (by unfold maxLen; omega) (by omega) hx.size
    obtain ⟨a', c', rfl⟩ : ∃ a' c', v' = .slice a' (n + m) c' := by
      rcases ho.2 with ⟨rfl, h0⟩ | ⟨g, cap, cur, rfl, _⟩
      · exact ⟨none, 0, by rw [h0]⟩
      · exact ⟨_, _, rfl⟩
    exact ⟨a', c', w', hr, ho, Below.grown hx hg hx.size (fun k hk => (hown.lt k hk).1), fun e => Below.grown (Ext.refl w) hg (Nat.le_refl _) (fun k hk => by rw [e] at hk; simp [Value.ownBlock] at hk)⟩
theorem step_append_h {ops : Array Oper} {o : Oper} {ac : Act} {K : Act → World → Prop} {Q : Exit → Act → World → Prop} {E : Prop} {W : World} (w : World) (hgd : o.guard = none) (x y : Operand)
    (ho : o.op = .call { callee := .builtin .append, args := #[x, y], argTypes := #[26, 26] }) (hty : o.type = 26)
    (v : Value) (n : Nat) (xs : List Value) (a : Option Addr) (m c : Nat) (us : List Value) (hv : ac.eval x = v) (hy : ac.eval y = .slice a m c)
    (hown : w.ownsRow W.heap.size 27 1 v n xs) (hs : Lies w a m c us) (h1 : ∀ u ∈ us, u.oneCell' = true) (hb : n + m ≤ 100000) (hx : Ext W w) (N : Nat) (hN : n + m = N) (zs : List Value) (hzs : xs ++ us = zs)
    (h : ∀ a' c' w', w'.ownsRow W.heap.size 27 1 (.slice a' N c') N zs → Ext W w' → (v = .slice none 0 0 → Ext w w') → K (ac.put o.dst (.slice a' N c')) w') :
    if Region.wanted o (yielded ops ac.tmps) = true then Oper.wp Tryz.prog o ac w K Q else E := by
  have hw : Region.wanted o (yielded ops ac.tmps) = true := by simp [Region.wanted, hgd]
  rw [if_pos hw]
  subst hN; subst hzs
  obtain ⟨a', c', w', hr, h2, h3, h4⟩ := append_h v n xs a m c us w hown hs h1 hb hx
  unfold Oper.wp execOp
  simp only [ho, hty, resolve, invoke, builtin, Sem.run_bind, Sem.run_pure, Result.andThen_ok, List.map_toArray, List.map_cons, List.map_nil, hv, hy, hr]
  exact h a' c' w' h2 h3 h4
/-- The handles that were made so far. -/
def LitsH (w : World) (j : Nat) (q : Value) (wr : World) : Prop := ∃ hs bs : List Nat, hs.length = j ∧ bs.length = j ∧ wr.ownsRow w.heap.size 27 1 q j (hs.map fun h => .pointer (some ⟨h, 0, none⟩)) ∧ (∀ i, (h1 : i < hs.length) → (h2 : i < bs.length) → LitH wr hs[i] bs[i]) ∧ Ext w wr
theorem LitsH.slice {w wr : World} {j : Nat} {q : Value} (h : LitsH w j q wr) : ∃ a c, q = .slice a j c := by
  obtain ⟨_, _, _, _, h, _, _⟩ := h
  rcases h.2 with ⟨rfl, rfl⟩ | ⟨g, cap, cur, rfl, _⟩
  · exact ⟨_, _, rfl⟩
  · exact ⟨_, _, rfl⟩
end Go.Proofs.YtaodkfchmaendaaGreatDoor.Nd
/-
  KitNone tells true.
-/
namespace Go.Proofs.YtaodkfchmaendaaGreatDoor.Nd
open Go.RowKit
/-- A handle that holds no node, as a value. -/
def NoZ (w : World) (z : Value) : Prop := z = .pointer none ∨ ∃ h, z = .pointer (some ⟨h, 0, none⟩) ∧ w.cell? ⟨h, 0, none⟩ = some .nilIface
theorem NoZ.later {w w' : World} {z : Value} (h : NoZ w z) (hx : Ext w w') : NoZ w' z := h.imp id fun ⟨b, h1, h2⟩ => ⟨b, h1, (hx.kp (fun _ => True)).cell h2 trivial⟩
theorem NoZ.one {w : World} {z : Value} (h : NoZ w z) : z.oneCell' = true := by
  rcases h with rfl | ⟨b, rfl, _⟩ <;> rfl
theorem sliced_own {w : World} {B n c : Nat} {e : TypeId} {a : Option Addr} {xs : List Value} (ho : w.ownsRow B e 1 (.slice a n c) n xs) (l h : Nat) (hlh : l ≤ h) (hh : h ≤ n) : ∃ a' c', sliced a l h c 1 = .slice a' (h - l) c' ∧ Lies w a' (h - l) c' ((xs.take h).drop l) := by
  have hlen : xs.length = n := by simpa using ho.1
  refine ⟨_, _, rfl, by simp [hlen]; omega, ?_⟩
  rcases ho.2 with ⟨hv, h0⟩ | ⟨g, cap, cur, hv, _, hb, hnc, _, hs, ht⟩
  · injection hv with e1 e2 e3
    subst e1; subst e3
    subst h0
    exact .inl ⟨by split <;> rfl, by omega, by omega⟩
  · injection hv with e1 e2 e3
    subst e1; subst e3
    have hcell : ∀ j u, ((xs.take h).drop l)[j]? = some u → w.cell? ⟨g, l + j, none⟩ = some u := fun j u hu => by
      rw [List.getElem?_drop, List.getElem?_take] at hu
      split at hu
      case isTrue hlt =>
        rw [← ht, List.getElem?_take] at hu
        split at hu
        case isTrue => simp [World.cell?, hb]; rw [← Array.getElem?_toList]; exact hu
        case isFalse => cases hu
      case isFalse => cases hu
    refine .inr ⟨g, if c = l then 0 else l, ?_, fun j u hu => ?_⟩
    · split
      · rfl
      · simp only [Option.map_some, Option.some.injEq]
        rw [Nat.mul_one, addN, Nat.zero_add]
    · have h1 := hcell j u hu
      split
      · rename_i hcl
        have : j < ((xs.take h).drop l).length := (List.getElem?_eq_some_iff.1 hu).1
        simp [hlen] at this
        omega
      · exact h1
theorem own_cell {w : World} {B n c g : Nat} {e : TypeId} {xs : List Value} (ho : w.ownsRow B e 1 (.slice (some ⟨g, 0, none⟩) n c) n xs) {i : Nat} {u : Value} (hu : xs[i]? = some u) : w.cell? ⟨g, i, none⟩ = some u := by
  rcases ho.2 with ⟨hv, _⟩ | ⟨g', cap, cur, hv, _, hb, _, _, _, ht⟩
  · cases hv
  · injection hv with e1 e2 e3
    injection e1 with e1
    injection e1 with e1
    subst e1
    rw [← ht, List.getElem?_take] at hu
    split at hu
    case isTrue => simp [World.cell?, hb]; rw [← Array.getElem?_toList]; exact hu
    case isFalse => cases hu
/-- The list with one that holds none among them. -/
theorem none_at {w : World} {B g cc m jj : Nat} {hs bs : List Nat} {z : Value} {rest : List Value} (h1 : hs.length = m) (h2 : bs.length = m) (hjj : jj ≤ m) (hc : ∀ i, (h1 : i < hs.length) → (h2 : i < bs.length) → LitH w hs[i] bs[i]) (hz : NoZ w z) (n : Nat)
    (ho : w.ownsRow B 27 1 (.slice (some ⟨g, 0, none⟩) n cc) n ((((hs.map fun h => Value.pointer (some ⟨h, 0, none⟩)).take jj) ++ [z]) ++ rest)) :
    Hands w g 0 jj (fun _ => 175) (fun i => .pointer (some ⟨bs.getD i 0, 0, none⟩)) ∧ NoHand w g 0 jj := by
  constructor
  · intro i hi
    have hi1 : i < hs.length := by omega
    have hi2 : i < bs.length := by omega
    have hcl := own_cell ho (i := i) (u := .pointer (some ⟨hs[i], 0, none⟩)) (by
      rw [List.getElem?_append_left (by simp; omega), List.getElem?_append_left (by simp; omega), List.getElem?_take, if_pos hi, List.getElem?_map, List.getElem?_eq_getElem hi1]
      rfl)
    have hh := hc i hi1 hi2
    have hb : bs.getD i 0 = bs[i] := by simp [hi2]
    exact ⟨hs[i], by rw [Nat.zero_add]; exact hcl, by show w.cell? ⟨hs[i], 0, none⟩ = some (.iface 175 (.pointer (some ⟨bs.getD i 0, 0, none⟩))); rw [hb]; exact cell_of hh rfl, lt_of_cell hcl, lt_of_cell (cell_of (i := 0) hh rfl)⟩
  · have hcl := own_cell ho (i := jj) (u := z) (by
      rw [List.getElem?_append_left (by simp; omega), List.getElem?_append_right (by simp; omega)]
      simp [h1, hjj])
    rcases hz with rfl | ⟨h, rfl, hh⟩
    · exact .inl (by rw [Nat.zero_add]; exact hcl)
    · exact .inr ⟨h, by rw [Nat.zero_add]; exact hcl, hh⟩
theorem absT100 : ∀ j, j < 7 → (rowJ j).abs.length ≤ 100
  | 0, _ => by decide
  | 1, _ => by decide
  | 2, _ => by decide
  | 3, _ => by decide
  | 4, _ => by decide
  | 5, _ => by decide
  | 6, _ => by decide
theorem rem_nat (k : Int) (n : Nat) : ∃ j : Nat, j ≤ n ∧ k % ((n : Int) + 1) = (j : Int) := by
  have h1 := Int.emod_nonneg k (b := (n : Int) + 1) (by omega)
  have h2 := Int.emod_lt_of_pos k (b := (n : Int) + 1) (by omega)
  exact ⟨(k % ((n : Int) + 1)).toNat, by omega, by omega⟩
end Go.Proofs.YtaodkfchmaendaaGreatDoor.Nd
/-
  KitNone tells true: the walk.
-/
namespace Go.Proofs.YtaodkfchmaendaaGreatDoor.Nd
open Go.RowKit
section
attribute [-go_sem] sliced
set_option maxRecDepth 100000 in
set_option maxHeartbeats 8000000 in
theorem kitNone_true (k x : ByteArray) (n : Int) (a : Option Addr) (m c : Nat) (at' : Int) (em : Bool) (w : World) (hks : k.size ≤ 140737488351232) (hm : m * 64 ≤ 140737488351232) (hat : 0 ≤ at' ∧ at' < 256) (hl : Laid w) : Calls Tryz.prog 3 #[.agg #[.string k, .int .i64 n, .string x, .slice a m c], .int .u8 at', .bool em] w fun e w' => e = .returned (.bool true) ∧ Ext w w' := by
  obtain ⟨i0, hi0, hz0, hz1, hz2⟩ := info_parts hpInfo
  obtain ⟨M, hM⟩ : ∃ M, w.alloc (.cells #[.string k, .int .i64 n, .string x, .slice a m c] 24) = M := ⟨_, rfl⟩
  have XM := hid (show Ext w M from hM ▸ Ext.alloc _ _)
  have HM0 := hid (show M.heap[w.heap.size]? = some (.cells #[.string k, .int .i64 n, .string x, .slice a m c] 24) from hM ▸ blk0 _ _)
  obtain ⟨t0, t1, t2, t3⟩ := four_of HM0.out
  have HB := hid (begun7_any M (hl.later XM.out))
  have HL := hid (fun w1 (hx : Ext M w1) => hl.later (XM.out.trans hx))
  have hm2 : (m : Int) ≤ 140737488351232 := by omega
  clear hl
  go_enter Tryz.func3, Tryz.ntmps3
  go_wp2_with fail
  clear hM
  refine HB.out.mono ?_
  rintro e w1 ⟨rfl, hx1⟩
  have X1 := hid hx1
  clear hx1 t0 t1 t2 t3
  obtain ⟨t0, t1, t2, t3⟩ := four_of (X1.out.block HM0.out)
  by_cases h100 : (m : Int) > 100
  · go_wp2_with fail
    go_ret
    exact ⟨rfl, XM.out.trans X1.out⟩
  have hmn : m ≤ 100 := by omega
  go_wp2_with fail
  go_loopw [7, 8] (fun q7 q8 wr => ∃ j : Nat, j ≤ m ∧ q8 = .int .i64 j ∧ LitsH M j q7 wr) (fun _ q8 _ => m - (intOf q8).toNat)
  case atStart => exact ⟨0, Nat.zero_le _, rfl, ⟨[], [], rfl, rfl, World.ownsRow_nil _ _ _ _, fun i h => absurd h (Nat.not_lt_zero _), X1.out⟩⟩
  case round =>
    clear t0 t1 t2 t3
    obtain ⟨j, hj, rfl, hk⟩ := hrel
    obtain ⟨a3, c3, rfl⟩ := hk.slice
    have HK := hid hk
    clear hk
    obtain ⟨t0, t1, t2, t3⟩ := four_of ((show Ext M wr by obtain ⟨_, _, _, _, _, _, hx⟩ := HK.out; exact hx).block HM0.out)
    by_cases hlt : j < m
    · have hlt' : (j : Int) < m := by omega
      go_wp2_with fail
      refine (literal_any _).mono ?_
      rintro e w2 ⟨h, b, rfl, hhd, hx2⟩
      have HHD := hid hhd
      have X2 := hid hx2
      clear hhd hx2 t0 t1 t2 t3
      obtain ⟨hs, bs, h1, h2, ho, hc, hx⟩ := HK.out
      have HO2 := hid (row_ext ho (X2.out.trans (Ext.alloc w2 (.cells #[.pointer (some ⟨h, 0, none⟩)] 27))))
      have HN := hid (new_one w2 (.pointer (some ⟨h, 0, none⟩)) 27)
      have HUS := hid (hx.trans X2.out).size
      have HC := hid hc
      have HXX := hid hx
      have HL1 := hid h1
      have HL2 := hid h2
      clear ho hc hx h1 h2
      go_wp2_with (at_builtin; refine wpList_append_own_at _ rfl _ _ 26 rfl M.heap.size 27 i0 (.pointer none) 1 8 Tryz.underlying26 hi0 hz0 hz1 hz2 rfl (by decide) _ _ _ rfl HO2.out ⟨w2.heap.size, 0, none⟩ 1 1 [.pointer (some ⟨h, 0, none⟩)] rfl rfl HN.out (by simp [Value.oneCell']) (by unfold maxLen; omega) (by omega) (by have := HUS.out; simp; omega) ?_; intro v9 w9 hown9 hgrow9 _ _; have HO9 := hid hown9; have HG9 : Hid (World.grownBy (w2.alloc (.cells #[.pointer (some ⟨h, 0, none⟩)] 27)) w9 (Value.slice a3 j c3).ownBlock) := hid hgrow9; clear hown9 hgrow9)
      go_roundw
      case measure => simp [intOf]; omega
      case rel =>
        have hkp := grown_kp HG9.out
        have hcell : ∀ (q b : Nat), LitH w2 q b → LitH w9 q b := fun q b hq => by
          have hq' : (w2.alloc (.cells #[.pointer (some ⟨h, 0, none⟩)] 27)).heap[q]? = some (.cells #[.iface 175 (.pointer (some ⟨b, 0, none⟩)), .iface 175 (.pointer (some ⟨b, 0, none⟩))] 32) := blkOld _ hq
          refine hkp.block' hq' (fun e => ?_)
          rcases HO2.out.2 with ⟨hv, _⟩ | ⟨gg, cap, cur, hv, _, hbk, _⟩
          · rw [hv] at e; simp [Value.ownBlock] at e
          · rw [hv] at e
            simp [Value.ownBlock] at e
            subst e
            rw [hbk] at hq'
            simp at hq'
        refine ⟨j + 1, by omega, by go_num, ⟨hs ++ [h], bs ++ [b], by simp [HL1.out], by simp [HL2.out], by rw [List.map_append]; exact HO9.out, fun i h1 h2 => ?_, ((HXX.out.trans X2.out).more _).grown HG9.out (by have := HUS.out; simp; omega) (fun k hk => (HO2.out.lt k hk).1)⟩⟩
        by_cases hi : i < hs.length
        · have hi2 : i < bs.length := by rw [HL2.out, ← HL1.out]; exact hi
          rw [List.getElem_append_left hi, List.getElem_append_left hi2]
          exact hcell _ _ ((X2.out.block (HC.out i hi hi2)))
        · have hie : i = hs.length := by simp at h1; omega
          subst hie
          have hbe : bs.length = hs.length := by rw [HL2.out, HL1.out]
          simp only [List.getElem_append_right (Nat.le_refl _), Nat.sub_self, List.getElem_cons_zero]
          rw [List.getElem_append_right (by omega)]
          simp only [hbe, Nat.sub_self, List.getElem_cons_zero]
          exact hcell _ _ HHD.out
    · obtain rfl : j = m := by omega
      have hlt3 : ¬ (j : Int) < j := by omega
      obtain ⟨hs, bs, h1, h2, ho, hc, hx⟩ := HK.out
      have HO := hid ho
      have HC := hid hc
      have XR := hid hx
      clear ho hc hx HK
      obtain ⟨jj, hjj, ej⟩ := rem_nat at' j
      have EJ := hid ej
      have hjc : (j : Int) ≤ c3 := by
        rcases HO.out.2 with ⟨hv, h0⟩ | ⟨g, cap, cur, hv, _, hb, hnc, _⟩
        · injection hv with e1 e2 e3; omega
        · injection hv with e1 e2 e3; omega
      clear ej
      go_upto_region 10 with fail
      go_cut [9] from 18 (fun s9 wx => s9 = .int .i64 (jj : Int) ∧ wx = wr)
      case first =>
        go_wp2_with fail
        go_meet
        case rel => exact ⟨by first | rfl | rw [EJ.out], rfl⟩
      case rest =>
        obtain ⟨rfl, hwc⟩ := hcut
        subst wc
        go_upto_if 41 with fail
        go_cut [10] from 18 (fun s10 wx => NoZ wx s10 ∧ Ext wr wx)
        case first =>
          cases em
          · go_wp2_with fail
            go_meet
            case rel => exact ⟨.inl rfl, Ext.refl _⟩
          · go_wp2_with fail
            go_meet
            case rel => exact ⟨.inr ⟨_, rfl, cell_of (blk0 _ _) rfl⟩, Ext.alloc _ _⟩
        case rest =>
          obtain ⟨hz, hxz⟩ := hcut
          obtain ⟨pz, rfl⟩ : ∃ pz, u10 = .pointer pz := by rcases hz with h | ⟨h, e, _⟩ <;> exact ⟨_, by assumption⟩
          obtain ⟨V, hV⟩ : ∃ V, V = wc := ⟨wc, rfl⟩
          subst hV
          have HZ := hid hz
          have XV := hid hxz
          clear hz hxz t0 t1 t2 t3
          obtain ⟨t0, t1, t2, t3⟩ := four_of ((XR.out.trans XV.out).block HM0.out)
          have HO2 := hid (row_ext HO.out XV.out)
          obtain ⟨a1, c1, e1, hs1⟩ := sliced_own HO2.out 0 jj (Nat.zero_le _) hjj
          obtain ⟨a2, c2, e2, hs2⟩ := sliced_own HO2.out jj j hjj (Nat.le_refl _)
          simp only [Nat.sub_zero, List.drop_zero] at e1 hs1
          have E1 := hid e1
          have E2 := hid e2
          have HS1 := hid hs1
          have HS2 := hid hs2
          have O1 := hid (show ∀ u ∈ ((hs.map fun h => Value.pointer (some ⟨h, 0, none⟩)).take jj), u.oneCell' = true from fun u hu => by
            have hu := List.mem_of_mem_take hu
            obtain ⟨q, _, rfl⟩ := List.mem_map.1 hu
            rfl)
          have O2 := hid (show ∀ u ∈ (((hs.map fun h => Value.pointer (some ⟨h, 0, none⟩)).take j).drop jj), u.oneCell' = true from fun u hu => by
            have hu := List.mem_of_mem_take (List.mem_of_mem_drop hu)
            obtain ⟨q, _, rfl⟩ := List.mem_map.1 hu
            rfl)
          have OZ := hid (show ∀ u ∈ [Value.pointer pz], u.oneCell' = true from fun u hu => by
            rw [List.mem_singleton.1 hu]
            exact HZ.out.one)
          clear e1 e2 hs1 hs2
          have b1 : (0 : Int) ≤ (jj : Int) := by omega
          have b2 : (jj : Int) ≤ (c3 : Int) := by omega
          have b3 : (jj : Int) ≤ (j : Int) := by omega
          go_upto_region 14 with fail
          go_cut [11] from 18 (fun s11 wx => ∃ g cc, s11 = .slice (some ⟨g, 0, none⟩) (j + 1) cc ∧ wx.ownsRow V.heap.size 27 1 (.slice (some ⟨g, 0, none⟩) (j + 1) cc) (j + 1) ((((hs.map fun h => Value.pointer (some ⟨h, 0, none⟩)).take jj) ++ [Value.pointer pz]) ++ (((hs.map fun h => Value.pointer (some ⟨h, 0, none⟩)).take j).drop jj)) ∧ Ext V wx)
          case first =>
            go_region_held3 (fun w' => True) (exact trivial) (first
              | (refine step_append_h (W := V) _ (by rfl) _ _ (by rfl) (by rfl) (.slice none 0 0) 0 [] a1 jj c1 _ (by rfl) (by exact E1.out) (World.ownsRow_nil _ _ _ _) (HS1.out.later (by repeat (first | with_reducible exact Ext.refl _ | with_reducible refine Ext.drew ?_ | with_reducible refine Ext.more ?_ _))) O1.out (by omega) (by repeat (first | with_reducible exact Ext.refl _ | with_reducible refine Ext.drew ?_ | with_reducible refine Ext.more ?_ _)) jj (by omega) ((hs.map fun h => Value.pointer (some ⟨h, 0, none⟩)).take jj) rfl ?_; intro a4 c4 w4 ho4 hx4 hk4; have HX4 := hx4; have HO4 := ho4; (try have bB : w4.heap[V.heap.size]? = some (.cells #[Value.pointer pz] 27) := (hk4 rfl).block (blk0 _ _)))
              | (refine step_append_h (W := V) _ (by rfl) _ _ (by rfl) (by rfl) (.slice a4 jj c4) _ _ (some ⟨_, 0, none⟩) 1 1 [Value.pointer pz] (by rfl) (by rfl) (row_ext HO4 (by repeat (first | with_reducible exact Ext.refl _ | with_reducible refine Ext.drew ?_ | with_reducible refine Ext.more ?_ _))) ⟨rfl, .inr ⟨_, 0, rfl, fun q u hu => (by match q, hu with | 0, hu => (simp at hu; subst hu; first | exact cell_of (blk0 w4 _) rfl | exact cell_of (blkOld _ bB) rfl | exact cell_of bB rfl))⟩⟩ OZ.out (by omega) (by repeat (first | with_reducible exact Ext.refl _ | with_reducible exact HX4 | with_reducible refine Ext.drew ?_ | with_reducible refine Ext.more ?_ _)) (jj + 1) rfl (((hs.map fun h => Value.pointer (some ⟨h, 0, none⟩)).take jj) ++ [Value.pointer pz]) rfl ?_; intro a5 c5 w5 ho5 hx5 _; have HX5 := hx5; have HO5 := ho5)
              | (refine step_append_h (W := V) _ (by rfl) _ _ (by rfl) (by rfl) (.slice a5 (jj + 1) c5) _ _ a2 (j - jj) c2 _ (by rfl) (by exact E2.out) (row_ext HO5 (by repeat (first | with_reducible exact Ext.refl _ | with_reducible refine Ext.drew ?_ | with_reducible refine Ext.more ?_ _))) (HS2.out.later (by repeat (first | with_reducible exact Ext.refl _ | with_reducible exact HX5 | with_reducible refine Ext.drew ?_ | with_reducible refine Ext.more ?_ _))) O2.out (by omega) (by repeat (first | with_reducible exact Ext.refl _ | with_reducible exact HX5 | with_reducible refine Ext.drew ?_ | with_reducible refine Ext.more ?_ _)) (j + 1) (by omega) ((((hs.map fun h => Value.pointer (some ⟨h, 0, none⟩)).take jj) ++ [Value.pointer pz]) ++ (((hs.map fun h => Value.pointer (some ⟨h, 0, none⟩)).take j).drop jj)) rfl ?_; intro a6 c6 w6 ho6 hx6 _; have HX6 := hx6; have HO6 := ho6))
            all_goals
              go_wp2_with fail
              go_meet
              case rel =>
                rcases HO6.2 with ⟨_, h0⟩ | ⟨g, cap, cur, hv, _⟩
                · omega
                · injection hv with e1 e2 e3
                  subst e1
                  exact ⟨g, c6, rfl, row_ext HO6 (by repeat (first | with_reducible exact Ext.refl _ | with_reducible refine Ext.drew ?_ | with_reducible refine Ext.more ?_ _)), (by repeat (first | with_reducible exact Ext.refl _ | with_reducible exact HX6 | with_reducible refine Ext.drew ?_ | with_reducible refine Ext.more ?_ _))⟩
          case rest =>
            obtain ⟨g, cc, rfl, ho6, hx6⟩ := hcut
            obtain ⟨U, hU⟩ : ∃ U, U = wc := ⟨wc, rfl⟩
            subst hU
            have XU := hid ((XR.out.trans XV.out).trans hx6)
            obtain ⟨hh, hno⟩ := none_at h1 h2 hjj (fun i h1 h2 => (XV.out.trans hx6).block (HC.out i h1 h2)) (HZ.out.later hx6) (j + 1) ho6
            have HNO := hid (fun w1 (hx : Ext U w1) => knodesOf_no g 0 jj (j + 1) cc _ _ w1 (by omega) (by omega) (hh.later hx) (hno.later hx))
            clear t0 t1 t2 t3 ho6 hx6 hh hno E1 E2 HS1 HS2 O1 O2 OZ HO2 HO HC
            obtain ⟨t0, t1, t2, t3⟩ := four_of (XU.out.block HM0.out)
            go_wp2_with fail
            refine (base_any _ (HL.out _ XU.out)).mono ?_
            rintro e u1 ⟨B, kb, mb, lv, rfl, hkm, _, hy1⟩
            have HK := hid hkm
            have Y1 := hid hy1
            clear hkm hy1 t0 t1 t2 t3
            obtain ⟨t0, t1, t2, t3⟩ := four_of ((XU.out.trans Y1.out).block HM0.out)
            rcases hf : kdFind k with _ | jk
            · have HF := hid hf
              go_wp2_with fail
              refine (row_none u1 HK.out k hks (by rw [kIx_rows, HF.out])).mono ?_
              rintro e u2 ⟨rfl, hy2⟩
              have Y2 := hid (hy2.more (.cells #[.string ⟨#[]⟩, .int .i64 0, .int .i64 0, .bool false, .int .i64 0, .slice none 0 0] 37))
              clear hy2 t0 t1 t2 t3
              obtain ⟨t0, t1, t2, t3⟩ := four_of ((XU.out.trans (Y1.out.trans Y2.out)).block HM0.out)
              go_wp2_with fail
              refine (bmake_kind k x n _ a j c _ _ _ (HK.out.later Y2.out) hks HF.out).mono ?_
              rintro e u3 ⟨b, rfl, hb, hy3⟩
              have HBB := hid hb
              have Y3 := hid hy3
              clear hb hy3 t0 t1 t2 t3
              go_wp2_with fail
              refine (is_coded b 3 _ (by decide) HBB.out).mono ?_
              rintro e u4 ⟨rfl, hy4⟩
              have Y4 := hid hy4
              clear hy4
              go_wp2_with fail
              go_ret
              exact ⟨rfl, XM.out.trans (XU.out.trans (Y1.out.trans (Y2.out.trans (Y3.out.trans Y4.out))))⟩
            · have HF := hid hf
              obtain ⟨hj7, hnm⟩ := kdFind_lt hf
              have hk4 : k.size ≤ 4000 := by
                have : ∀ q, q < 7 → (nmK q).size ≤ 4000 := by decide
                rw [← hnm]; exact this jk hj7
              have hlen : jk < rowsK.length := by show jk < 7; exact hj7
              have HROW := hid (row_any u1 HK.out k hk4 jk hlen (by rw [kIx_rows, HF.out]) (by rw [rowsK_get]; exact absT100 jk hj7))
              clear hf
              go_wp2_with fail
              refine HROW.out.mono ?_
              rintro e u2 ⟨ra, rc, rfl, _, hy2⟩
              obtain ⟨rk, rmn, rmx, rb, rt', rl, hrv⟩ : ∃ rk rmn rmx rb rt' rl, (rowsK[jk]).val ra rc = .agg #[.string rk, .int .i64 rmn, .int .i64 rmx, .bool rb, .int .i64 rt', .slice ra rl rc] := ⟨_, _, _, _, _, _, rfl⟩
              have HRV := hid hrv
              have Y2 := hid (hy2.more (.cells #[.string rk, .int .i64 rmn, .int .i64 rmx, .bool rb, .int .i64 rt', .slice ra rl rc] 37))
              clear hrv hy2 t0 t1 t2 t3
              rw [HRV.out]
              obtain ⟨t0, t1, t2, t3⟩ := four_of ((XU.out.trans (Y1.out.trans Y2.out)).block HM0.out)
              go_wp2_with fail
              refine (bmake_kids jk k x n _ a j c _ _ _ (HK.out.later Y2.out) hks HF.out (fun w1 hx => HNO.out w1 (Y1.out.trans (Y2.out.trans hx)))).mono ?_
              rintro e u3 ⟨b, rfl, hb, hy3⟩
              have HBB := hid hb
              have Y3 := hid hy3
              clear hb hy3 t0 t1 t2 t3
              go_wp2_with fail
              refine (is_coded b 1 _ (by decide) HBB.out).mono ?_
              rintro e u4 ⟨rfl, hy4⟩
              have Y4 := hid hy4
              clear hy4
              go_wp2_with fail
              go_ret
              exact ⟨rfl, XM.out.trans (XU.out.trans (Y1.out.trans (Y2.out.trans (Y3.out.trans Y4.out))))⟩

end
end Go.Proofs.YtaodkfchmaendaaGreatDoor.Nd
