/-
  Whole of the statements' Paths, by a contract, of any book; Take of any path.
-/
import Derived.Test.YthdmoghooaccgaaWhole
namespace Go.Proofs.Ythdmoghooaccgaa
open Go.RowKit
set_option maxRecDepth 100000 in
theorem whole_nil (w : World) (b base : Nat) (lv nv : Value) (sz : Int) (h : PBook w b base lv nv [] sz) : Calls Try.prog 26 #[.pointer (some ⟨b, 0, none⟩)] w fun e w' => e = .returned (.bool true) ∧ w' = w := by
  obtain ⟨lb, lc, rfl⟩ := ownsRow_slice h.rowL
  obtain ⟨b0, b1, b2, b3⟩ := four_of h.box
  simp only [List.length_nil] at b0
  clear h
  go_enter Try.func26, Try.ntmps26
  go_wp2_with fail
  refine (take_none _ b).mono ?_
  rintro e w1 ⟨⟨v, rfl⟩, rfl⟩
  go_wp2_with fail
  go_loopw [3] (fun i wr => i = .int .i64 0 ∧ wr = w1) (fun _ _ => 0)
  case atStart => exact ⟨rfl, rfl⟩
  case round =>
    obtain ⟨rfl, rfl⟩ := hrel
    go_wp2_with fail
    go_loopw [5] (fun i wq => i = .int .i64 0 ∧ wq = wr) (fun _ _ => 0)
    case atStart => exact ⟨rfl, rfl⟩
    case round =>
      obtain ⟨rfl, rfl⟩ := hrel
      go_wp2_with fail
      go_ret
      exact ⟨rfl, rfl⟩
theorem whole_any (w : World) (b base : Nat) (lv nv : Value) (rs : List PR) (sz : Int) (h : PBook w b base lv nv rs sz) (hrl : rs.length ≤ 5000) (hll : ∀ r ∈ rs, r.2.1 ≤ 1000) : Calls Try.prog 26 #[.pointer (some ⟨b, 0, none⟩)] w fun e w' => e = .returned (.bool true) ∧ Kp (fun q => ¬ Bk b lv nv rs q) w w' := by
  by_cases h0 : rs.length = 0
  · obtain rfl : rs = [] := List.eq_nil_of_length_eq_zero h0
    exact (whole_nil w b base lv nv sz h).mono (fun e w' hh => ⟨hh.1, by rw [hh.2]; exact Kp.refl _ _⟩)
  · rcases h.rowL.2 with ⟨_, h1⟩ | ⟨lb, lc, cl, rfl, _⟩
    · exact absurd h1 h0
    · rcases h.rowN.2 with ⟨_, h1⟩ | ⟨nb, nc, cn, rfl, _⟩
      · exact absurd h1 h0
      · exact whole_some w b base lb lc nb nc rs sz h hrl hll
/-- Take of any path of one's own. -/
theorem take_path (w : World) (b base pb : Nat) (lv nv : Value) (rs : List PR) (sz : Int) (pv : Value) (p : List Int) (h : PBook w b base lv nv rs sz) (hbs : base ≤ w.heap.size) (hpb : w.heap[pb]? = some (.cells #[pv] 27)) (hp : PathW w base pv p) (hpl : p.length ≤ 1000)
    (hgn : ∀ q, pv.ownBlock = some q → ¬ Bk b lv nv rs q) (hpn : ¬ Bk b lv nv rs pb) (hrl : rs.length ≤ 5000) (hll : ∀ r ∈ rs, r.2.1 ≤ 1000) (hsz : 0 ≤ sz) (hsz' : sz ≤ 4000000000000) :
    Calls Try.prog 25 #[.pointer (some ⟨b, 0, none⟩), .slice (some ⟨pb, 0, none⟩) 1 1] w fun e w' => (∃ v, e = .returned v) ∧ ∃ lv' nv' rs' sz', PBook w' b base lv' nv' rs' sz' ∧ rs'.length ≤ rs.length + 1 ∧ 0 ≤ sz' ∧ sz' ≤ sz + 100000 ∧ (∀ r ∈ rs', r.2.1 ≤ 1000) ∧ Kp (fun q => ¬ (Bk b lv nv rs q ∨ pv.ownBlock = some q)) w w' ∧ (∀ q, Bk b lv' nv' rs' q → Bk b lv nv rs q ∨ pv.ownBlock = some q ∨ w.heap.size ≤ q) := by
  rcases hp.2 with ⟨rfl, _⟩ | ⟨g, cap, cur, rfl, h1, h2, h3, h4, h5, h6⟩
  · refine (take_nil w b base pb lv nv rs sz h hpb hpn hsz hsz').mono (fun e w' hh => ?_)
    obtain ⟨he, hk, sz', hb, h7, h8⟩ := hh
    exact ⟨he, lv, nv, rs, sz', hb, Nat.le_succ _, h7, h8, hll, hk.mono (fun q _ hq e => hq (.inl (.inl e))), fun q hq => .inl hq⟩
  · have hc8 : ∀ k, k < cap → ∃ v : Value, cur[k]? = some v := fun k hk => ⟨cur[k]'(by omega), Array.getElem?_eq_getElem (by omega)⟩
    refine (take_any w b base pb lv nv rs sz g p.length cap cur h hbs hpb h2 h1 h3 h4 (by omega) hc8 hpl (hgn g rfl) hpn hrl hsz hsz').mono (fun e w' hh => ?_)
    obtain ⟨he, lv', nv', rs', sz', hb, h7, h8, h9, h10, hk, hq⟩ := hh
    exact ⟨he, lv', nv', rs', sz', hb, h7, h8, h9, fun r hr => (h10 r hr).elim (hll r) id, hk.mono (fun q _ hq e => hq (e.imp id (fun h => by rw [h]; rfl))), fun q hq' => (hq q hq').imp id (Or.imp (fun h => by rw [h]; rfl) id)⟩
end Go.Proofs.Ythdmoghooaccgaa
