/-
  literal(): a handle on a node of base.yes; a list of such handles; append of handles, as one step of a region that draws its order.
-/
import Derived.Test.YtaodkfchmaendaaGreatDoorJ7Beg
import Derived.Test.YtaodkfchmaendaaGreatDoorPItems
import Derived.Test.YtaodkfchmaendaaGreatDoorHold
import Derived.Deep.AppendLies
namespace Go.Proofs.YtaodkfchmaendaaGreatDoor.Nd
open Go.RowKit
def bYes : ByteArray := ⟨#[98, 97, 115, 101, 46, 121, 101, 115]⟩
theorem bYes_find : kdFind bYes = some 1 := by decide
theorem fit_yes0 : fitsK (minK 1) (maxK 1) (numK 1) (textK 1) 0 ⟨#[]⟩ 0 = 0 := by simp [fitsK, takesK, minK, maxK, numK, textK]; try decide
/-- A handle on a literal. -/
def LitH (w : World) (h b : Nat) : Prop := HandAt w h (.iface 175 (.pointer (some ⟨b, 0, none⟩))) (.iface 175 (.pointer (some ⟨b, 0, none⟩)))
set_option maxRecDepth 100000 in
theorem literal_any (w : World) : Calls Tryz.prog 10 #[] w fun e w' => ∃ h b, e = .returned (.pointer (some ⟨h, 0, none⟩)) ∧ LitH w' h b ∧ Ext w w' := by
  have HM := hid (make_some 1 (by decide) bYes ⟨#[]⟩ 0 none 0 0 none 0 0 (fun _ => 175) (fun _ => .nilIface) w bYes_find (by decide) (by decide) (.inl rfl))
  unfold bYes at HM
  go_enter Tryz.func10, Tryz.ntmps10
  go_wp2_with fail
  refine HM.out.mono ?_
  rintro e w1 (⟨_, h, b, a, c, rfl, hh, _, _, _, hx1⟩ | ⟨hne, _⟩)
  · have HH := hid hh
    have X1 := hid hx1
    clear hh hx1
    go_wp2_with fail
    go_ret
    exact ⟨h, b, rfl, HH.out, X1.out⟩
  · exact absurd hne (by rw [show fitsK (minK 1) (maxK 1) (numK 1) (textK 1) 0 ⟨#[]⟩ ((0 : Nat) : Int) = 0 from fit_yes0]; decide)
/-- A slice that has these values, or none. -/
def Lies (w : World) (a : Option Addr) (m c : Nat) (us : List Value) : Prop := us.length = m ∧ ((a = none ∧ m = 0 ∧ c = 0) ∨ ∃ g off, a = some ⟨g, off, none⟩ ∧ ∀ j u, us[j]? = some u → w.cell? ⟨g, off + j, none⟩ = some u)
theorem Lies.later {w w' : World} {a : Option Addr} {m c : Nat} {us : List Value} (h : Lies w a m c us) (hx : Ext w w') : Lies w' a m c us := ⟨h.1, h.2.imp id fun ⟨g, off, e, hc⟩ => ⟨g, off, e, fun j u hu => (hx.kp (fun _ => True)).cell (hc j u hu) trivial⟩⟩
theorem addN (g off j : Nat) : Addr.add ⟨g, off, none⟩ j = ⟨g, off + j, none⟩ := by
  by_cases hj : j = 0
  · subst hj; simp [Addr.add]
  · simp [Addr.add, hj]
theorem append_h {W : World} (v : Value) (n : Nat) (xs : List Value) (a : Option Addr) (m c : Nat) (us : List Value) (w : World) (hown : w.ownsRow W.heap.size 27 1 v n xs) (hs : Lies w a m c us) (h1 : ∀ u ∈ us, u.oneCell' = true) (hb : n + m ≤ 100000) (hx : Ext W w) :
    ∃ a' c' w', (Builtin.append_ #[26, 26] 26 #[v, .slice a m c]).run Tryz.prog w = .ok (.slice a' (n + m) c') w' ∧ w'.ownsRow W.heap.size 27 1 (.slice a' (n + m) c') (n + m) (xs ++ us) ∧ Ext W w' ∧ (v = .slice none 0 0 → Ext w w') := by
  obtain ⟨i0, hi0, hz0, hz1, hz2⟩ := info_parts hpInfo
  obtain ⟨hl, ⟨rfl, rfl, rfl⟩ | ⟨g, off, rfl, hc⟩⟩ := hs
  · have hr := run_append_owned_none (P := Tryz.prog) (w := w) W.heap.size 26 26 27 i0 1 Tryz.underlying26 hi0 v n xs hown
    obtain ⟨a', c', rfl⟩ : ∃ a' c', v = .slice a' n c' := by
      rcases hown.2 with ⟨rfl, rfl⟩ | ⟨g, cap, cur, rfl, _⟩
      · exact ⟨_, _, rfl⟩
      · exact ⟨_, _, rfl⟩
    have hu : us = [] := List.length_eq_zero_iff.1 hl
    subst hu
    exact ⟨a', c', w, hr, by rw [List.append_nil]; exact hown, hx, fun _ => Ext.refl _⟩
  · obtain ⟨v', w', hr, ho, hg, _, _⟩ := run_append_own_at (P := Tryz.prog) w W.heap.size 26 26 27 i0 (.pointer none) 1 8 Tryz.underlying26 hi0 hz0 hz1 hz2 rfl (by decide) v n xs hown ⟨g, off, none⟩ m c us (by simpa using hl) (fun j u hu => by rw [addN]; exact hc j u hu) h1 (by unfold maxLen; omega) (by omega) hx.size
    obtain ⟨a', c', rfl⟩ : ∃ a' c', v' = .slice a' (n + m) c' := by
      rcases ho.2 with ⟨rfl, h0⟩ | ⟨g, cap, cur, rfl, _⟩
      · exact ⟨none, 0, by rw [h0]⟩
      · exact ⟨_, _, rfl⟩
    exact ⟨a', c', w', hr, ho, Below.grown hx hg hx.size (fun k hk => (hown.lt k hk).1), fun e => Below.grown (Ext.refl w) hg (Nat.le_refl _) (fun k hk => by rw [e] at hk; simp [Value.ownBlock] at hk)⟩
theorem step_append_h {ops : Array Oper} {o : Oper} {ac : Act} {K : Act → World → Prop} {Q : Exit → Act → World → Prop} {E : Prop} {W : World} (w : World) (hgd : o.guard = none) (x y : Operand)
    (ho : o.op = .call { callee := .builtin .append, args := #[x, y], argTypes := #[26, 26] }) (hty : o.type = 26)
    (v : Value) (n : Nat) (xs : List Value) (a : Option Addr) (m c : Nat) (us : List Value) (hv : ac.eval x = v) (hy : ac.eval y = .slice a m c)
    (hown : w.ownsRow W.heap.size 27 1 v n xs) (hs : Lies w a m c us) (h1 : ∀ u ∈ us, u.oneCell' = true) (hb : n + m ≤ 100000) (hx : Ext W w) (N : Nat) (hN : n + m = N) (zs : List Value) (hzs : xs ++ us = zs)
    (h : ∀ a' c' w', w'.ownsRow W.heap.size 27 1 (.slice a' N c') N zs → Ext W w' → (v = .slice none 0 0 → Ext w w') → K (ac.put o.dst (.slice a' N c')) w') :
    if Region.wanted o (yielded ops ac.tmps) = true then Oper.wp Tryz.prog o ac w K Q else E := by
  have hw : Region.wanted o (yielded ops ac.tmps) = true := by simp [Region.wanted, hgd]
  rw [if_pos hw]
  subst hN; subst hzs
  obtain ⟨a', c', w', hr, h2, h3, h4⟩ := append_h v n xs a m c us w hown hs h1 hb hx
  unfold Oper.wp execOp
  simp only [ho, hty, resolve, invoke, builtin, Sem.run_bind, Sem.run_pure, Result.andThen_ok, List.map_toArray, List.map_cons, List.map_nil, hv, hy, hr]
  exact h a' c' w' h2 h3 h4
/-- The handles that were made so far. -/
def LitsH (w : World) (j : Nat) (q : Value) (wr : World) : Prop := ∃ hs bs : List Nat, hs.length = j ∧ bs.length = j ∧ wr.ownsRow w.heap.size 27 1 q j (hs.map fun h => .pointer (some ⟨h, 0, none⟩)) ∧ (∀ i, (h1 : i < hs.length) → (h2 : i < bs.length) → LitH wr hs[i] bs[i]) ∧ Ext w wr
theorem LitsH.slice {w wr : World} {j : Nat} {q : Value} (h : LitsH w j q wr) : ∃ a c, q = .slice a j c := by
  obtain ⟨_, _, _, _, h, _, _⟩ := h
  rcases h.2 with ⟨rfl, rfl⟩ | ⟨g, cap, cur, rfl, _⟩
  · exact ⟨_, _, rfl⟩
  · exact ⟨_, _, rfl⟩
end Go.Proofs.YtaodkfchmaendaaGreatDoor.Nd
