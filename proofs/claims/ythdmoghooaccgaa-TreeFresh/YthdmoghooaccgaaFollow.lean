/-
  follow by a contract: the place of the tree at a path.
-/
import Derived.Test.YthdmoghooaccgaaSame
import Derived.Test.YthdmoghooaccgaaCopied
namespace Go.Proofs.Ythdmoghooaccgaa
open Go.RowKit
/-- The tree at a place of memory. -/
def RdAt (K : Nat → Prop) (w : World) (d : Nat) (p : Addr) (t : T) : Prop := p.spot = none ∧ K p.block ∧ ∃ u0 u1 u2 u3, Four w p.block p.off u0 u1 u2 u3 ∧ Rd K w d (.agg #[u0, u1, u2, u3]) t
/-- The place that a path leads to. -/
def place (w : World) : Addr → List Int → Addr
  | p, [] => p
  | p, i :: r => match w.cell? ⟨p.block, p.off + 3, none⟩ with
    | some (.slice (some a) _ _) => place w ⟨a.block, a.off + i.toNat * 4, none⟩ r
    | _ => p
theorem place_snoc (w : World) (p : Addr) (l : List Int) (i : Int) {a : Addr} {n c : Nat} (h : w.cell? ⟨(place w p l).block, (place w p l).off + 3, none⟩ = some (.slice (some a) n c)) : place w p (l ++ [i]) = ⟨a.block, a.off + i.toNat * 4, none⟩ := by
  induction l generalizing p with
  | nil => simp only [place, List.nil_append] at h ⊢; rw [h]
  | cons x r ih =>
    simp only [place, List.cons_append] at h ⊢
    split
    · rename_i a' n' c' he
      rw [he] at h
      exact ih _ h
    · rename_i hne
      split at h
      · rename_i a' n' c' he
        exact absurd he (hne _ _ _)
      · exact absurd h (hne _ _ _)
theorem T.at_snoc (t u : T) (l : List Int) (i : Int) (h : T.at? t l = some u) : T.at? t (l ++ [i]) = T.at? u [i] := by
  induction l generalizing t with
  | nil => simp only [T.at?] at h; cases h; rfl
  | cons x r ih =>
    obtain ⟨k, n, y, ks⟩ := t
    simp only [T.at?, List.cons_append] at h ⊢
    split
    · rename_i hx
      rw [if_pos hx] at h
      split
      · rename_i z hz
        rw [hz] at h
        exact ih _ h
      · rename_i hz
        rw [hz] at h
        cases h
    · rename_i hx
      rw [if_neg hx] at h
      cases h
theorem T.at_one (k : ByteArray) (n : Int) (x : ByteArray) (ks : List T) (i : Int) : T.at? (.node k n x ks) [i] = if 0 ≤ i ∧ i < ks.length then ks[i.toNat]? else none := by
  simp only [T.at?]
  split
  · cases ks[i.toNat]? <;> rfl
  · rfl
theorem T.at_none (t : T) (l r : List Int) (h : T.at? t l = none) : T.at? t (l ++ r) = none := by
  induction l generalizing t with
  | nil => simp [T.at?] at h
  | cons x q ih =>
    obtain ⟨k, n, y, ks⟩ := t
    simp only [T.at?, List.cons_append] at h ⊢
    split
    · rename_i hx
      rw [if_pos hx] at h
      split
      · rename_i z hz
        rw [hz] at h
        exact ih _ h
      · rfl
    · rfl
/-- What follow answers. -/
def FollowR (K : Nat → Prop) (w : World) (p : Addr) (t : T) (xs : List Int) (e : Ending) (w' : World) : Prop :=
  w' = w ∧ ((T.at? t xs = none ∧ e = .returned (.pointer none)) ∨ ∃ u d', T.at? t xs = some u ∧ e = .returned (.pointer (some (place w p xs))) ∧ RdAt K w d' (place w p xs) u)
set_option maxRecDepth 100000 in
set_option maxHeartbeats 2000000 in
theorem follow_any {K : Nat → Prop} {d : Nat} {p : Addr} {t : T} (w : World) (a : Option Addr) (c : Nat) (xs : List Int) (hr : RdAt K w d p t) (hI : Ints w (.slice a xs.length c) xs) (hb : xs.length * 8 ≤ 140737488355328) :
    Calls Try.prog 50 #[.pointer (some p), .slice a xs.length c] w (FollowR K w p t xs) := by
  have HR := hid hr
  have HI := hid hI
  have hl : (xs.length : Int) ≤ 140737488355328 := by omega
  clear hr hI
  go_enter Try.func50, Try.ntmps50
  go_wp2_with fail
  go_loop [0, 9] (fun t0 i => ∃ (j d' : Nat) (u : T), j ≤ xs.length ∧ i = .int .i64 j ∧ t0 = .pointer (some (place w p (xs.take j))) ∧ T.at? t (xs.take j) = some u ∧ RdAt K w d' (place w p (xs.take j)) u) (fun _ i => xs.length - (intOf i).toNat)
  case atStart => exact ⟨0, d, t, Nat.zero_le _, rfl, rfl, rfl, HR.out⟩
  case round =>
    obtain ⟨j, d', u, hj, rfl, rfl, hat, hra⟩ := hrel
    have HAT := hid hat
    have HRA := hid hra
    clear hat
    by_cases hlt : j < xs.length
    · have hlt' : (j : Int) < xs.length := by omega
      have HTK := hid (T.take_succ' xs j hlt)
      obtain ⟨g, off, rfl, hc⟩ := HI.out.cell.2 j hlt
      generalize hq : place w p (xs.take j) = q at hra HRA
      have HQ := hid hq
      obtain ⟨qb, qo, qs⟩ := q
      obtain ⟨hs, hK, u0, u1, u2, u3, h4, hrd⟩ := hra
      obtain rfl : qs = none := hs
      obtain ⟨k, n, x, a', c', rfl, rfl, rfl, rfl⟩ := hrd.shape
      obtain ⟨kk, nn, xx, ks⟩ := u
      obtain ⟨_, _, _, m3⟩ := h4
      have HRD := hid hrd
      have HM3 := hid m3
      have HKK := hid hK
      clear hrd hq
      simp only [T.kids] at m3
      generalize hv : xs[j] = v at hc HTK
      have hw1 : Hid (T.at? t (xs.take (j + 1)) = if 0 ≤ v ∧ v < ks.length then ks[v.toNat]? else none) := by
        show _ = _
        rw [HTK.out, T.at_snoc _ _ _ _ HAT.out, T.at_one]
      have HSP := hid (show xs = xs.take (j + 1) ++ xs.drop (j + 1) from (List.take_append_drop _ _).symm)
      by_cases h0 : v < 0
      · have HN := hid (show T.at? t xs = none by rw [HSP.out]; exact T.at_none _ _ _ (by rw [hw1.out, if_neg (by omega)]))
        go_wp2_with fail
        go_ret
        exact ⟨rfl, .inl ⟨HN.out, rfl⟩⟩
      · have h0' : decide (v < 0) = false := decide_eq_false h0
        by_cases h1 : (ks.length : Int) ≤ v
        · have HN := hid (show T.at? t xs = none by rw [HSP.out]; exact T.at_none _ _ _ (by rw [hw1.out, if_neg (by omega)]))
          have h1' : decide ((ks.length : Int) ≤ v) = true := decide_eq_true h1
          go_wp2_with fail
          go_ret
          exact ⟨rfl, .inl ⟨HN.out, rfl⟩⟩
        · have h1' : decide ((ks.length : Int) ≤ v) = false := decide_eq_false h1
          obtain ⟨vn, rfl⟩ : ∃ vn : Nat, v = vn := ⟨v.toNat, by omega⟩
          have hvl : vn < ks.length := by omega
          have hvl' : (vn : Int) < ks.length := by omega
          cases d' with
          | zero => exact HRD.out.elim
          | succ d' =>
          obtain ⟨a2, c2, he, hL⟩ := HRD.out.kidsL
          simp only [Value.agg.injEq, Array.mk.injEq, List.cons.injEq, and_true, Value.slice.injEq] at he
          obtain ⟨_, _, _, rfl, _, rfl⟩ := he
          obtain ⟨g', off', k', n', x', b', l', cc', rfl, hg', h4', hr'⟩ := hL.kid hvl
          have HP := hid (show place w p (xs.take (j + 1)) = ⟨g', off' + vn * 4, none⟩ by
            rw [HTK.out, place_snoc (a := ⟨g', off', none⟩) (n := ks.length) _ _ _ _ (by rw [HQ.out]; exact HM3.out)]
            simp)
          have HAR := hid (show RdAt K w d' ⟨g', off' + vn * 4, none⟩ ks[vn] from ⟨rfl, hg', _, _, _, _, h4', hr'⟩)
          have HU := hid (show T.at? t (xs.take (j + 1)) = some ks[vn] by rw [hw1.out, if_pos (by omega)]; simp [hvl])
          clear h4' hr' hg' hL
          go_wp2_with fail
          go_round
          case rel => exact ⟨j + 1, d', ks[vn], hlt, by go_num, by rw [HP.out], HU.out, by rw [HP.out]; exact HAR.out⟩
          case measure => simp [intOf]; omega
    · have hje : j = xs.length := by omega
      have HT := hid (show xs.take j = xs by rw [hje, List.take_length])
      go_wp2_with fail
      go_ret
      have h1 := HAT.out
      have h2 := HRA.out
      rw [HT.out] at h1 h2
      exact ⟨rfl, .inr ⟨u, d', h1, by first | rfl | rw [HT.out], h2⟩⟩
end Go.Proofs.Ythdmoghooaccgaa
