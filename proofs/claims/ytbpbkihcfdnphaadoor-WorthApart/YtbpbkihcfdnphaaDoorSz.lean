/-
  worth.size by a contract.
-/
import Derived.Test.YtbpbkihcfdnphaaDoorComp
namespace Go.Proofs.YtbpbkihcfdnphaaDoor
open Go.RowKit
attribute [local go_sem] as_un_tx as_un_li as_tu_tx as_tu_li as_in_tx as_in_li as_tx_tx as_tx_li as_li_tx as_li_li
set_option maxRecDepth 100000 in
set_option maxHeartbeats 2000000 in
theorem size_any : ∀ (d : Nat) (v : Value) (t : T) (K : Nat → Prop) (w : World), VRd K w d v t → t.size ≤ 140737488351232 →
    Calls Tryd.prog 37 #[v] w fun e w' => e = .returned (.int .i64 t.size) ∧ w' = w := by
  intro d
  induction d with
  | zero => intro v t K w h; exact h.elim
  | succ d ih =>
    intro v t K w h hsz
    obtain ⟨k, n, x, ks⟩ := t
    rcases h with ⟨rfl, rfl, rfl, rfl, rfl⟩ | ⟨rfl, rfl, rfl, B, hn, rfl⟩ | ⟨rfl, rfl, rfl, rfl⟩ | ⟨rfl, rfl, rfl, hxs, rfl⟩ | ⟨rfl, rfl, rfl, hll, a, c, rfl, hks⟩
    · clear ih hsz
      go_enter Tryd.func37, Tryd.ntmps37
      go_wp2_with fail
      go_ret
      exact ⟨rfl, rfl⟩
    · clear ih hsz hn
      go_enter Tryd.func37, Tryd.ntmps37
      go_wp2_with fail
      go_ret
      exact ⟨rfl, rfl⟩
    · clear ih hsz
      go_enter Tryd.func37, Tryd.ntmps37
      go_wp2_with fail
      go_ret
      exact ⟨rfl, rfl⟩
    · clear ih hsz
      have hx' : (x.size : Int) ≤ 140737488355328 := by omega
      have HE := hid (show ((T.size (.node 4 0 x []) : Nat) : Int) = 1 + (x.size : Int) by simp only [T.size, T.sizeL]; omega)
      go_enter Tryd.func37, Tryd.ntmps37
      go_wp2_with fail
      go_ret
      exact ⟨ret_int' HE.out.symm, rfl⟩
    · have HA := hid (show VRdL K w d a ks from ⟨hll, hks⟩)
      have HIH := hid ih
      have hl : (ks.length : Int) ≤ 140737488355328 := by omega
      have HE := hid (show T.size (.node 5 0 ⟨#[]⟩ ks) = 1 + T.sizeL ks by simp only [T.size]; show 1 + 0 + T.sizeL ks = _; omega)
      rw [HE.out] at hsz
      have HSZ := hid hsz
      clear ih hks hsz
      go_enter Tryd.func37, Tryd.ntmps37
      go_wp2_with fail
      go_loop [3, 21] (fun s i => ∃ j : Nat, j ≤ ks.length ∧ i = .int .i64 j ∧ s = .int .i64 (1 + T.sizeL (ks.take j) : Nat)) (fun _ i => ks.length - (intOf i).toNat)
      case atStart => exact ⟨0, Nat.zero_le _, rfl, rfl⟩
      case round =>
        obtain ⟨j, hj, rfl, rfl⟩ := hrel
        by_cases hlt : j < ks.length
        · have hlt' : (j : Int) < ks.length := by omega
          obtain ⟨g, off, τ, p, rfl, hg, h4, hr⟩ := HA.out.kid hlt
          have hgl := lt_of_cell h4
          have s1 := T.sizeL_take ks j hlt
          have s2 := T.sizeL_split ks (j + 1)
          have s3 := HSZ.out
          have HC := hid (HIH.out _ ks[j] K w hr (by omega))
          have hb1 : ((1 + T.sizeL (ks.take j) : Nat) : Int) ≤ 140737488355328 := by omega
          have hb2 : (ks[j].size : Int) ≤ 140737488355328 := by omega
          have HS := hid (show 1 + T.sizeL (ks.take (j + 1)) = 1 + T.sizeL (ks.take j) + ks[j].size by omega)
          clear s1 s2 s3 hr hg
          generalize 1 + T.sizeL (ks.take j) = S at *
          generalize ks[j].size = U at *
          go_wp2_with fail
          refine HC.out.mono ?_
          rintro e w2 ⟨rfl, rfl⟩
          go_wp2_with fail
          go_round
          case rel =>
            have REL : ∃ j' : Nat, j' ≤ ks.length ∧ Value.int .i64 ((j : Int) + 1) = .int .i64 j' ∧ Value.int .i64 ((S : Int) + (U : Int)) = .int .i64 (1 + T.sizeL (ks.take j') : Nat) :=
              ⟨j + 1, hlt, by go_num, by rw [HS.out]; go_num⟩
            first | exact REL | ((repeat apply Exists.intro); exact ⟨REL, rfl⟩)
          case measure => simp [intOf]; omega
        · have hje : j = ks.length := by omega
          have HT := hid (show ks.take j = ks by rw [hje, List.take_length])
          go_wp2_with fail
          go_ret
          exact ⟨ret_int' (by rw [HE.out]; first | omega | (rw [HT.out])), rfl⟩
end Go.Proofs.YtbpbkihcfdnphaaDoor
