/-
  The statements' Lists: lists of names that are left as they are until all are there; Keep, by a contract.
-/
import Derived.Test.YthdmoghooaccgaaWholeB
import Derived.Test.YthdmoghooaccgaaDigits
import Derived.WalkMore
namespace Go.Proofs.Ythdmoghooaccgaa
open Go.RowKit
/-- A list of names that lies there: its block, its length, its room. -/
def LOk (w : World) (base : Nat) (r : PR) : Prop :=
  base ≤ r.1 ∧ 0 < r.2.2 ∧ r.2.1 ≤ r.2.2 ∧ r.2.2 ≤ maxLen ∧ r.2.1 ≤ 1000000 ∧ ∃ cur, w.heap[r.1]? = some (.cells cur 9) ∧ cur.size = r.2.2
theorem LOk.keep {K : Nat → Prop} {w w' : World} {base : Nat} {r : PR} (h : LOk w base r) (hk : Kp K w w') (hr : K r.1) : LOk w' base r := by
  obtain ⟨h1, h2, h3, h4, h5, cur, h6, h7⟩ := h
  exact ⟨h1, h2, h3, h4, h5, cur, hk.block' h6 hr, h7⟩
/-- The lists that are kept, in blocks that are all unlike. -/
structure LB (w : World) (b base : Nat) (lv : Value) (rs : List PR) (sz : Int) : Prop where
  box : w.heap[b]? = some (.cells #[lv, .int .i64 sz] 67)
  rowL : w.ownsRow base 49 1 lv rs.length (rs.map prV)
  ok : ∀ r ∈ rs, LOk w base r
  nodup : (rs.map (·.1)).Nodup
/-- Its blocks. -/
def LBk (b : Nat) (lv : Value) (rs : List PR) (q : Nat) : Prop := q = b ∨ lv.ownBlock = some q ∨ q ∈ rs.map (·.1)
theorem LB.keep {K : Nat → Prop} {w w' : World} {b base : Nat} {lv : Value} {rs : List PR} {sz : Int} (h : LB w b base lv rs sz) (hk : Kp K w w') (hK : ∀ q, LBk b lv rs q → K q) : LB w' b base lv rs sz where
  box := hk.block' h.box (hK b (.inl rfl))
  rowL := ownsRow_keep h.rowL hk (fun q hq => hK q (.inr (.inl hq)))
  ok := fun r hr => (h.ok r hr).keep hk (hK _ (.inr (.inr (List.mem_map.2 ⟨r, hr, rfl⟩))))
  nodup := h.nodup
theorem LB.lt {w : World} {b base : Nat} {lv : Value} {rs : List PR} {sz : Int} (h : LB w b base lv rs sz) : ∀ q, LBk b lv rs q → q < w.heap.size := by
  intro q hq
  rcases hq with rfl | hq | hq
  · exact lt_of_block h.box
  · obtain ⟨_, cur, hc⟩ := ownsRow_block h.rowL hq; exact lt_of_block hc
  · obtain ⟨r, hr, rfl⟩ := List.mem_map.1 hq
    obtain ⟨_, _, _, _, _, cur, hc, _⟩ := h.ok r hr
    exact lt_of_block hc
theorem LB.ne {w : World} {b base : Nat} {lv : Value} {rs : List PR} {sz : Int} (h : LB w b base lv rs sz) : (∀ q, lv.ownBlock = some q → q ≠ b) ∧ (∀ q ∈ rs.map (·.1), q ≠ b) ∧ (∀ q ∈ rs.map (·.1), lv.ownBlock ≠ some q) := by
  have ty : ∀ {q : Nat} {c c' : Array Value} {t t' : TypeId}, w.heap[q]? = some (.cells c t) → w.heap[q]? = some (.cells c' t') → t = t' := fun h1 h2 => by
    rw [h1] at h2; injection h2 with h2; injection h2
  have hb := h.box
  have full : ∀ q ∈ rs.map (·.1), ∃ cur, w.heap[q]? = some (.cells cur 9) := fun q hq => by
    obtain ⟨r, hr, rfl⟩ := List.mem_map.1 hq
    obtain ⟨_, _, _, _, _, cur, hc, _⟩ := h.ok r hr
    exact ⟨cur, hc⟩
  refine ⟨fun q hq e => ?_, fun q hq e => ?_, fun q hq e => ?_⟩
  · subst e; obtain ⟨_, cur, hc⟩ := ownsRow_block h.rowL hq; have := ty hb hc; revert this; decide
  · subst e; obtain ⟨cur, hc⟩ := full q hq; have := ty hb hc; revert this; decide
  · obtain ⟨cur, hc⟩ := full q hq
    obtain ⟨_, cur', hc'⟩ := ownsRow_block h.rowL e
    have := ty hc hc'; revert this; decide
/-- A list of names that was answered: none, or one that lies there. -/
def NRow (w : World) (base : Nat) (v : Value) : Prop := (∃ a, v = .slice a 0 0 ∧ ∀ q, (Value.slice a 0 0).ownBlock = some q → ∃ cur, w.heap[q]? = some (.cells cur 9)) ∨ ∃ r : PR, v = prV r ∧ LOk w base r
/-- What the loop of Keep holds. -/
def LkSt (w : World) (b base : Nat) (lv : Value) (rs : List PR) (sz : Int) (vs : List Value) (j : Nat) (lv' : Value) (rs' : List PR) (sz' : Int) (wr : World) : Prop :=
  LB wr b base lv' rs' sz' ∧ sz ≤ sz' ∧ sz' ≤ sz + 2000000 * j ∧ rs'.length ≤ rs.length + j ∧ Kp (fun q => q ≠ b ∧ lv.ownBlock ≠ some q) w wr ∧ (lv'.ownBlock = lv.ownBlock ∨ ∃ q, lv'.ownBlock = some q ∧ w.heap.size ≤ q) ∧ ∀ q, LBk b lv' rs' q → LBk b lv rs q ∨ (∃ v ∈ vs.take j, v.ownBlock = some q) ∨ w.heap.size ≤ q
theorem strsInfo : (Try.prog.info? 49).map (fun i => (i.zero, i.size, i.bytes)) = some (some (.slice none 0 0), 1, 24) := by kernel_rfl
theorem two_of {w : World} {b : Nat} {v0 v1 : Value} {t : TypeId} (h : w.heap[b]? = some (.cells #[v0, v1] t)) : w.cell? ⟨b, 0, none⟩ = some v0 ∧ w.cell? ⟨b, 1, none⟩ = some v1 := ⟨cell_of h rfl, cell_of h rfl⟩
set_option maxRecDepth 100000 in
set_option maxHeartbeats 4000000 in
theorem lkeep_any (w : World) (b base pb c : Nat) (lv : Value) (rs : List PR) (sz : Int) (vs : List Value) (h : LB w b base lv rs sz) (hbs : base ≤ w.heap.size) (hpb : w.heap[pb]? = some (.cells vs.toArray 49)) (hvs : ∀ v ∈ vs, NRow w base v) (hpw : vs.Pairwise (fun u v => ∀ q, u.ownBlock = some q → v.ownBlock ≠ some q)) (hvn : ∀ v ∈ vs, ∀ q, v.ownBlock = some q → ¬ LBk b lv rs q) (hpn : ¬ LBk b lv rs pb) (hrl : rs.length + vs.length ≤ 100000) (hsz : 0 ≤ sz) (hsz' : sz ≤ 8000000000000000000) :
    Calls Try.prog 28 #[.pointer (some ⟨b, 0, none⟩), .slice (some ⟨pb, 0, none⟩) vs.length c] w fun e w' => (∃ v, e = .returned v) ∧ ∃ lv' rs' sz', LkSt w b base lv rs sz vs vs.length lv' rs' sz' w' := by
  have H := hid h
  have HPB := hid hpb
  have HVS := hid hvs
  have HPW := hid hpw
  have HVN := hid hvn
  have HPN := hid hpn
  have hvl : (vs.length : Int) ≤ 100000 := by omega
  clear h hpb hvs hpw hvn hpn
  go_enter Try.func28, Try.ntmps28
  go_wp2_with fail
  go_loopw [4] (fun i wr => ∃ (j : Nat) (lv' : Value) (rs' : List PR) (sz' : Int), j ≤ vs.length ∧ i = .int .i64 j ∧ LkSt w b base lv rs sz vs j lv' rs' sz' wr) (fun i _ => vs.length - (intOf i).toNat)
  case atStart => exact ⟨0, lv, rs, sz, Nat.zero_le _, rfl, H.out, Int.le_refl _, by omega, by omega, Kp.refl _ _, .inl rfl, fun q hq => .inl hq⟩
  case round =>
    obtain ⟨j, lv2, rs2, sz2, hj, rfl, hst⟩ := hrel
    have HSJ := hid hst
    clear hst
    by_cases hlt : j < vs.length
    · have hlt' : (j : Int) < vs.length := by omega
      obtain ⟨hLB, hsa, hsb, hsl, hkp, hob, hbk⟩ := HSJ.out
      have hvm : vs[j] ∈ vs := List.getElem_mem hlt
      have hvj := HVS.out _ hvm
      obtain ⟨va, len, cap, hv, hl0, hl1, hlz⟩ : ∃ va len cap, vs[j] = .slice va len cap ∧ len ≤ cap ∧ len ≤ 1000000 ∧ (cap ≠ 0 → ∃ g, va = some ⟨g, 0, none⟩ ∧ LOk w base (g, len, cap)) := by
        rcases hvj with ⟨a0, e, _⟩ | ⟨r, e, hr⟩
        · exact ⟨a0, 0, 0, e, Nat.le_refl _, by omega, fun h => absurd rfl h⟩
        · exact ⟨_, _, _, e, hr.2.2.1, hr.2.2.2.2.1, fun _ => ⟨r.1, rfl, hr⟩⟩
      have hLold : pb ≠ b ∧ lv.ownBlock ≠ some pb := ⟨fun e => HPN.out (.inl e), fun e => HPN.out (.inr (.inl e))⟩
      have hpc := cell_of (i := j) HPB.out (by rw [List.getElem?_toArray, List.getElem?_eq_getElem hlt, hv])
      have hpll := lt_of_block HPB.out
      have hPN : ¬ LBk b lv2 rs2 pb := fun e => by
        rcases hbk pb e with h | ⟨v, hv, h⟩ | h
        · exact HPN.out h
        · rcases HVS.out v (List.mem_of_mem_take hv) with ⟨a0, e, h0⟩ | ⟨r, e, hr⟩
          · rw [e] at h
            obtain ⟨cur, hc⟩ := h0 pb h
            have h1 := HPB.out
            rw [hc] at h1
            injection h1 with h1
            injection h1 with _ h2
            revert h2
            decide
          · rw [e] at h
            have h' : r.1 = pb := by simpa [Value.ownBlock] using h
            obtain ⟨_, _, _, _, _, cur, hc, _⟩ := hr
            have h1 := HPB.out
            rw [← h', hc] at h1
            injection h1 with h1
            injection h1 with _ h2
            revert h2
            decide
        · omega
      have p0 := hkp.cell hpc hLold
      have HLH := hid (hkp.block' HPB.out hLold)
      have HKP := hid hkp
      have HBK := hid hbk
      have HOB := hid hob
      have HPN2 := hid hPN
      have HTB := hid hLB
      have HLZ := hid hlz
      have hszr : wr.heap.size ≥ w.heap.size := hkp.size
      obtain ⟨lb, lc2, rfl⟩ := ownsRow_slice hLB.rowL
      obtain ⟨b0, b1⟩ := two_of hLB.box
      obtain ⟨rm, hrm⟩ : ∃ rm, roomI len cap = rm := ⟨_, rfl⟩
      have hr0 : 0 ≤ rm ∧ rm ≤ 1100000 := by rw [← hrm]; unfold roomI; split <;> omega
      have CR := hid (fun W => room_any len cap W (by omega) (by omega))
      rw [hrm] at CR
      have hcI : (cap : Int) ≤ 9223372036854775807 := by
        by_cases h0 : cap = 0
        · omega
        · obtain ⟨_, _, _, _, _, h4, _⟩ := hlz h0
          have h5 : cap ≤ maxLen := h4
          unfold maxLen at h5
          omega
      have f2 := frozen_of (i := 1) hLB.box
      have hpbb : pb ≠ b := hLold.1
      have hw2 : IntKind.i64.wrap (sz2 + rm) = sz2 + rm := by rw [IntKind.wrap_i64]; omega
      have SETS := hid (show Kp (· ≠ b) wr (wr.setCell ⟨b, 1, none⟩ (.int .i64 (sz2 + rm))).drew ∧ (wr.setCell ⟨b, 1, none⟩ (.int .i64 (sz2 + rm))).drew.heap[b]? = some (.cells #[.slice lb rs2.length lc2, .int .i64 (sz2 + rm)] 67) from ⟨(Kp.set _ _ _ _ (fun h => h rfl)).drew, set_at hLB.box 1 _⟩)
      have PKS := hid (show (wr.setCell ⟨b, 1, none⟩ (.int .i64 (sz2 + rm))).drew.cell? ⟨pb, j, none⟩ = some (.slice va len cap) from SETS.out.1.cell p0 hpbb)
      have hrl2 : (rs2.length : Int) ≤ 100000 := by omega
      clear hLB hbk hkp hob hPN hpc hlz hrm hvj
      go_wp2_with fail
      go_cut [] from 5 to 55 (fun wx => Kp (· ≠ b) wr wx ∧ wx.heap[b]? = some (.cells #[.slice lb rs2.length lc2, .int .i64 (sz2 + rm)] 67))
      case first =>
        have hset := SETS.out
        have hpk := PKS.out
        refine wp_region_held_drew (S := fun W' => W'.cell? ⟨pb, j, none⟩ = some (.slice va len cap)) (by kernel_rfl) (p0) (fun hHeld => ?_)
        refine wpAnyH_take (i := 0) (v := ?vax1) rfl (by kernel_rfl) (by kernel_rfl) (by kernel_rfl) (fun _ _ _ h => h) (Or.inl ⟨by kernel_rfl, ?hax1⟩) (by assumption) ?rax1
        case hax1 => (intro w hSw; (try dsimp only at hSw); go_simp; try with_reducible rfl)
        try simp only [Act.put, List.getElem_toArray, List.getElem_cons_zero, List.setIfInBounds_toArray, List.set_cons_zero, List.set_cons_succ]
        refine wpAnyH_take (i := 1) (v := ?vax2) rfl (by kernel_rfl) (by kernel_rfl) (by kernel_rfl) (fun _ _ _ h => h) (Or.inl ⟨by kernel_rfl, ?hax2⟩) (by assumption) ?rax2
        case hax2 => (intro w hSw; (try dsimp only at hSw); go_simp; try with_reducible rfl)
        try simp only [Act.put, List.getElem_toArray, List.getElem_cons_zero, List.getElem_cons_succ, List.setIfInBounds_toArray, List.set_cons_zero, List.set_cons_succ]
        refine wpAnyH_take (i := 2) (v := ?vax3) rfl (by kernel_rfl) (by kernel_rfl) (by kernel_rfl) (fun _ _ _ h => h) (Or.inl ⟨by kernel_rfl, ?hax3⟩) (by assumption) ?rax3
        case hax3 => (intro w hSw; (try dsimp only at hSw); go_simp; try with_reducible rfl)
        try simp only [Act.put, List.getElem_toArray, List.getElem_cons_zero, List.getElem_cons_succ, List.setIfInBounds_toArray, List.set_cons_zero, List.set_cons_succ]
        refine wpAnyH_take (i := 3) (v := ?vax4) rfl (by kernel_rfl) (by kernel_rfl) (by kernel_rfl) (fun _ _ _ h => h) (Or.inl ⟨by kernel_rfl, ?hax4⟩) (by assumption) ?rax4
        case hax4 => (intro w hSw; (try dsimp only at hSw); go_simp; try with_reducible rfl)
        try simp only [Act.put, List.getElem_toArray, List.getElem_cons_zero, List.getElem_cons_succ, List.setIfInBounds_toArray, List.set_cons_zero, List.set_cons_succ]
        refine wpAnyH_take (i := 5) (v := ?vax5) rfl (by kernel_rfl) (by kernel_rfl) (by kernel_rfl) (fun _ _ _ h => h) (Or.inl ⟨by kernel_rfl, ?hax5⟩) (by assumption) ?rax5
        case hax5 => (intro w hSw; (try dsimp only at hSw); go_simp; try with_reducible rfl)
        try simp only [Act.put, List.getElem_toArray, List.getElem_cons_zero, List.getElem_cons_succ, List.setIfInBounds_toArray, List.set_cons_zero, List.set_cons_succ]
        refine wpAnyH_take (i := 6) (v := ?vax6) rfl (by kernel_rfl) (by kernel_rfl) (by kernel_rfl) (fun _ _ _ h => h) (Or.inl ⟨by kernel_rfl, ?hax6⟩) (by assumption) ?rax6
        case hax6 => (intro w hSw; (try dsimp only at hSw); go_simp; try with_reducible rfl)
        try simp only [Act.put, List.getElem_toArray, List.getElem_cons_zero, List.getElem_cons_succ, List.setIfInBounds_toArray, List.set_cons_zero, List.set_cons_succ]
        refine wpAnyH_take (i := 7) (v := ?vax7) rfl (by kernel_rfl) (by kernel_rfl) (by kernel_rfl) (fun _ _ _ h => h) (Or.inl ⟨by kernel_rfl, ?hax7⟩) (by assumption) ?rax7
        case hax7 => (intro w hSw; (try dsimp only at hSw); go_simp; try with_reducible rfl)
        try simp only [Act.put, List.getElem_toArray, List.getElem_cons_zero, List.getElem_cons_succ, List.setIfInBounds_toArray, List.set_cons_zero, List.set_cons_succ]
        refine wpAnyH_take (i := 8) (v := ?vax8) rfl (by kernel_rfl) (by kernel_rfl) (by kernel_rfl) (fun _ _ _ h => h) (Or.inl ⟨by kernel_rfl, ?hax8⟩) (by assumption) ?rax8
        case hax8 => (intro w hSw; (try dsimp only at hSw); go_simp; try with_reducible rfl)
        try simp only [Act.put, List.getElem_toArray, List.getElem_cons_zero, List.getElem_cons_succ, List.setIfInBounds_toArray, List.set_cons_zero, List.set_cons_succ]
        refine wpAnyH_take (i := 9) (v := ?vax9) rfl (by kernel_rfl) (by kernel_rfl) (by kernel_rfl) (fun _ _ _ h => h) (Or.inl ⟨by kernel_rfl, ?hax9⟩) (by assumption) ?rax9
        case hax9 => (intro w hSw; (try dsimp only at hSw); go_simp; try with_reducible rfl)
        try simp only [Act.put, List.getElem_toArray, List.getElem_cons_zero, List.getElem_cons_succ, List.setIfInBounds_toArray, List.set_cons_zero, List.set_cons_succ]
        refine wpAnyH_take (i := 10) (v := ?vax10) rfl (by kernel_rfl) (by kernel_rfl) (by kernel_rfl) (fun _ _ _ h => h) (Or.inl ⟨by kernel_rfl, ?hax10⟩) (by assumption) ?rax10
        case hax10 => (intro w hSw; (try dsimp only at hSw); go_simp; try with_reducible rfl)
        try simp only [Act.put, List.getElem_toArray, List.getElem_cons_zero, List.getElem_cons_succ, List.setIfInBounds_toArray, List.set_cons_zero, List.set_cons_succ]
        refine wpAnyH_take (i := 11) (v := ?vax11) rfl (by kernel_rfl) (by kernel_rfl) (by kernel_rfl) (fun _ _ _ h => h) (Or.inl ⟨by kernel_rfl, ?hax11⟩) (by assumption) ?rax11
        case hax11 => (intro w hSw; (try dsimp only at hSw); go_simp; try with_reducible rfl)
        try simp only [Act.put, List.getElem_toArray, List.getElem_cons_zero, List.getElem_cons_succ, List.setIfInBounds_toArray, List.set_cons_zero, List.set_cons_succ]
        refine wpAnyH_take (i := 12) (v := ?vax12) rfl (by kernel_rfl) (by kernel_rfl) (by kernel_rfl) (fun _ _ _ h => h) (Or.inl ⟨by kernel_rfl, ?hax12⟩) (by assumption) ?rax12
        case hax12 => (intro w hSw; (try dsimp only at hSw); go_simp; try with_reducible rfl)
        try simp only [Act.put, List.getElem_toArray, List.getElem_cons_zero, List.getElem_cons_succ, List.setIfInBounds_toArray, List.set_cons_zero, List.set_cons_succ]
        refine wpAnyH_take (i := 13) (v := ?vax13) rfl (by kernel_rfl) (by kernel_rfl) (by kernel_rfl) (fun _ _ _ h => h) (Or.inl ⟨by kernel_rfl, ?hax13⟩) (by assumption) ?rax13
        case hax13 => (intro w hSw; (try dsimp only at hSw); go_simp; try with_reducible rfl)
        try simp only [Act.put, List.getElem_toArray, List.getElem_cons_zero, List.getElem_cons_succ, List.setIfInBounds_toArray, List.set_cons_zero, List.set_cons_succ]
        refine wpAnyH_take (i := 14) (v := ?vax14) rfl (by kernel_rfl) (by kernel_rfl) (by kernel_rfl) (fun _ _ _ h => h) (Or.inl ⟨by kernel_rfl, ?hax14⟩) (by assumption) ?rax14
        case hax14 => (intro w hSw; (try dsimp only at hSw); go_simp; try with_reducible rfl)
        try simp only [Act.put, List.getElem_toArray, List.getElem_cons_zero, List.getElem_cons_succ, List.setIfInBounds_toArray, List.set_cons_zero, List.set_cons_succ]
        refine wpAnyH_ready (rs := [4, 15]) (by kernel_rfl) (by simp) ?_
        refine AllReadyH.cons rfl (fun K hK => ?_) (AllReadyH.cons rfl (fun K hK => ?_) AllReadyH.nil)
        · go_simp
          refine hK.out _ _ (p0) (fun hHeld => ?_)
          clear hK K
          try simp only [Act.put, List.getElem_toArray, List.getElem_cons_zero, List.getElem_cons_succ, List.setIfInBounds_toArray, List.set_cons_zero, List.set_cons_succ]
          refine wpAnyH_ready (rs := [15]) (by kernel_rfl) (by simp) ?_
          refine AllReadyH.cons rfl (fun K hK => ?_) AllReadyH.nil
          go_simp
          refine (CR.out _).mono ?_
          rintro e w1 ⟨rfl, rfl⟩
          show K _ _
          refine hK.out _ _ (p0) (fun hHeld => ?_)
          clear hK K
          try simp only [Act.put, List.getElem_toArray, List.getElem_cons_zero, List.getElem_cons_succ, List.setIfInBounds_toArray, List.set_cons_zero, List.set_cons_succ]
          refine wpAnyH_take (i := 16) (v := .int .i64 (sz2 + rm)) rfl (by kernel_rfl) (by kernel_rfl) (by kernel_rfl) (fun _ _ _ h => h) (Or.inl ⟨by kernel_rfl, ?hbx1⟩) (by assumption) ?rbx1
          case hbx1 => (intro w hSw; (try dsimp only at hSw); go_simp; try with_reducible rfl)
          try simp only [Act.put, List.getElem_toArray, List.getElem_cons_zero, List.getElem_cons_succ, List.setIfInBounds_toArray, List.set_cons_zero, List.set_cons_succ]
          refine wpAnyH_take (i := 17) (v := ?vbx2) rfl (by kernel_rfl) (by kernel_rfl) (by kernel_rfl) (fun _ _ _ h => h) (Or.inl ⟨by kernel_rfl, ?hbx2⟩) (by assumption) ?rbx2
          case hbx2 => (intro w hSw; (try dsimp only at hSw); go_simp; try with_reducible rfl)
          try simp only [Act.put, List.getElem_toArray, List.getElem_cons_zero, List.getElem_cons_succ, List.setIfInBounds_toArray, List.set_cons_zero, List.set_cons_succ]
          refine wpAnyH_take (i := 18) (v := ?vbx3) rfl (by kernel_rfl) (by kernel_rfl) (by kernel_rfl) (fun _ _ _ h => h) (Or.inl ⟨by kernel_rfl, ?hbx3⟩) (by assumption) ?rbx3
          case hbx3 => (intro w hSw; (try dsimp only at hSw); go_simp; try with_reducible rfl)
          try simp only [Act.put, List.getElem_toArray, List.getElem_cons_zero, List.getElem_cons_succ, List.setIfInBounds_toArray, List.set_cons_zero, List.set_cons_succ]
          refine wpAnyH_ready (rs := [19]) (by kernel_rfl) (by simp) ?_
          refine AllReadyH.cons rfl (fun K hK => ?_) AllReadyH.nil
          go_simp
          refine hK.out _ _ (hpk) (fun hHeld => ?_)
          clear hK K
          try simp only [Act.put, List.getElem_toArray, List.getElem_cons_zero, List.getElem_cons_succ, List.setIfInBounds_toArray, List.set_cons_zero, List.set_cons_succ]
          refine wpAnyH_done (by kernel_rfl) ?_ _
          go_wp2_with fail
          go_meet
          case rel => exact hset
        · go_simp
          refine (CR.out _).mono ?_
          rintro e w1 ⟨rfl, rfl⟩
          show K _ _
          refine hK.out _ _ (p0) (fun hHeld => ?_)
          clear hK K
          try simp only [Act.put, List.getElem_toArray, List.getElem_cons_zero, List.getElem_cons_succ, List.setIfInBounds_toArray, List.set_cons_zero, List.set_cons_succ]
          refine wpAnyH_ready (rs := [4]) (by kernel_rfl) (by simp) ?_
          refine AllReadyH.cons rfl (fun K hK => ?_) AllReadyH.nil
          go_simp
          refine hK.out _ _ (p0) (fun hHeld => ?_)
          clear hK K
          try simp only [Act.put, List.getElem_toArray, List.getElem_cons_zero, List.getElem_cons_succ, List.setIfInBounds_toArray, List.set_cons_zero, List.set_cons_succ]
          refine wpAnyH_take (i := 16) (v := .int .i64 (sz2 + rm)) rfl (by kernel_rfl) (by kernel_rfl) (by kernel_rfl) (fun _ _ _ h => h) (Or.inl ⟨by kernel_rfl, ?hcx1⟩) (by assumption) ?rcx1
          case hcx1 => (intro w hSw; (try dsimp only at hSw); go_simp; try with_reducible rfl)
          try simp only [Act.put, List.getElem_toArray, List.getElem_cons_zero, List.getElem_cons_succ, List.setIfInBounds_toArray, List.set_cons_zero, List.set_cons_succ]
          refine wpAnyH_take (i := 17) (v := ?vcx2) rfl (by kernel_rfl) (by kernel_rfl) (by kernel_rfl) (fun _ _ _ h => h) (Or.inl ⟨by kernel_rfl, ?hcx2⟩) (by assumption) ?rcx2
          case hcx2 => (intro w hSw; (try dsimp only at hSw); go_simp; try with_reducible rfl)
          try simp only [Act.put, List.getElem_toArray, List.getElem_cons_zero, List.getElem_cons_succ, List.setIfInBounds_toArray, List.set_cons_zero, List.set_cons_succ]
          refine wpAnyH_take (i := 18) (v := ?vcx3) rfl (by kernel_rfl) (by kernel_rfl) (by kernel_rfl) (fun _ _ _ h => h) (Or.inl ⟨by kernel_rfl, ?hcx3⟩) (by assumption) ?rcx3
          case hcx3 => (intro w hSw; (try dsimp only at hSw); go_simp; try with_reducible rfl)
          try simp only [Act.put, List.getElem_toArray, List.getElem_cons_zero, List.getElem_cons_succ, List.setIfInBounds_toArray, List.set_cons_zero, List.set_cons_succ]
          refine wpAnyH_ready (rs := [19]) (by kernel_rfl) (by simp) ?_
          refine AllReadyH.cons rfl (fun K hK => ?_) AllReadyH.nil
          go_simp
          refine hK.out _ _ (hpk) (fun hHeld => ?_)
          clear hK K
          try simp only [Act.put, List.getElem_toArray, List.getElem_cons_zero, List.getElem_cons_succ, List.setIfInBounds_toArray, List.set_cons_zero, List.set_cons_succ]
          refine wpAnyH_done (by kernel_rfl) ?_ _
          go_wp2_with fail
          go_meet
          case rel => exact hset
      case rest =>
      clear hw2
      obtain ⟨hk1, hb1⟩ := hcut
      obtain ⟨V1, rfl⟩ : ∃ V1, V1 = wc := ⟨wc, rfl⟩
      have HNE := hid HTB.out.ne
      have HP1 := hid (show LB V1 b base (.slice lb rs2.length lc2) rs2 (sz2 + rm) from
        ⟨hb1, ownsRow_keep HTB.out.rowL hk1 (fun q hq => HNE.out.1 q hq), fun r hr => (HTB.out.ok r hr).keep hk1 (HNE.out.2.1 _ (List.mem_map.2 ⟨r, hr, rfl⟩)), HTB.out.nodup⟩)
      have HK1 := hid hk1
      have hs1 := hk1.size
      have HPB1 := hid (hk1.block' HLH.out hpbb)
      have HTK := hid (show ∀ q, (∃ v ∈ vs.take j, v.ownBlock = some q) → ∃ v ∈ vs.take (j + 1), v.ownBlock = some q from fun q ⟨v, hv, e⟩ => ⟨v, by rw [List.take_add_one]; exact List.mem_append_left _ hv, e⟩)
      have HR0 := hid (show LkSt w b base lv rs sz vs (j + 1) (.slice lb rs2.length lc2) rs2 (sz2 + rm) V1 from ⟨HP1.out, by omega, by push_cast; omega, by omega, HKP.out.chain hk1 (fun q _ hq => hq.1), HOB.out, fun q hq => (HBK.out q hq).imp id (Or.imp (HTK.out q) id)⟩)
      have p1 := hk1.cell p0 hpbb
      clear hk1 hb1 SETS PKS b0 b1 f2 p0
      obtain ⟨b0, b1⟩ := two_of HP1.out.box
      by_cases hc0 : cap = 0
      · have hc0' : decide ((0 : Int) < cap) = false := decide_eq_false (by omega)
        go_wp2_with fail
        go_roundw
        case rel => exact ⟨j + 1, _, rs2, _, hlt, by go_num, HR0.out⟩
        case measure => simp [intOf]; omega
      have hc0' : decide ((0 : Int) < cap) = true := decide_eq_true (by omega)
      by_cases hs2 : sz2 + rm < 524288
      case neg =>
        have hs2' : decide (sz2 + rm < 524288) = false := decide_eq_false hs2
        go_wp2_with fail
        go_roundw
        case rel => exact ⟨j + 1, _, rs2, _, hlt, by go_num, HR0.out⟩
        case measure => simp [intOf]; omega
      have hs2' : decide (sz2 + rm < 524288) = true := decide_eq_true hs2
      obtain ⟨g, rfl, hgok⟩ := HLZ.out hc0
      have hgl : g < w.heap.size := by obtain ⟨_, _, _, _, _, cur, hc, _⟩ := hgok; exact lt_of_block hc
      have hgo : vs[j].ownBlock = some g := by rw [hv]; rfl
      have hGN : ¬ LBk b (.slice lb rs2.length lc2) rs2 g := fun e => by
        rcases HBK.out g e with h | ⟨v, hv2, h⟩ | h
        · exact HVN.out _ hvm g hgo h
        · obtain ⟨i, hi, e2⟩ := List.getElem_of_mem hv2
          rw [List.length_take] at hi
          rw [List.getElem_take] at e2
          have := List.pairwise_iff_getElem.1 HPW.out i j (by omega) hlt (by omega) g (by rw [e2]; exact h)
          exact this hgo
        · omega
      have HGN := hid hGN
      have hgK : g ≠ b ∧ lv.ownBlock ≠ some g := ⟨fun e => HVN.out _ hvm g hgo (.inl e), fun e => HVN.out _ hvm g hgo (.inr (.inl e))⟩
      have HGO := hid (((hgok.keep HKP.out hgK).keep HK1.out hgK.1))
      have f0 := frozen_of (i := 0) HP1.out.box
      have hbl := lt_of_block HP1.out.box
      have hpl := lt_of_block HPB1.out
      obtain ⟨i0, hi0, hz0, hz1, hz2⟩ := info_parts strsInfo
      have hbW : base ≤ V1.heap.size := by omega
      have HK5 := hid (show ∀ (w9 : World) (o : Obj), (V1.alloc o).drew.grownBy w9 (Value.slice lb rs2.length lc2).ownBlock → Kp (fun q => some q ≠ (Value.slice lb rs2.length lc2).ownBlock) V1 w9 from fun w9 o hg => ((Ext.alloc V1 o).drew.kp _).trans ⟨hg.os, hg.tape, hg.output, hg.size, fun q hq hne => hg.block q hq hne⟩)
      clear hGN hgok
      have FIN := hid (show ∀ (wx : World) (lb2 : Option Addr) (lc3 : Nat), wx.heap[b]? = some (.cells #[.slice lb2 (rs2.length + 1) lc3, .int .i64 (sz2 + rm)] 67) → wx.ownsRow base 49 1 (.slice lb2 (rs2.length + 1) lc3) (rs2.length + 1) (rs2.map prV ++ [.slice (some ⟨g, 0, none⟩) len cap]) → Kp (fun q => q ≠ b ∧ (Value.slice lb rs2.length lc2).ownBlock ≠ some q) V1 wx → ((Value.slice lb2 (rs2.length + 1) lc3).ownBlock = (Value.slice lb rs2.length lc2).ownBlock ∨ ∃ q, (Value.slice lb2 (rs2.length + 1) lc3).ownBlock = some q ∧ V1.heap.size ≤ q) →
          LkSt w b base lv rs sz vs (j + 1) (.slice lb2 (rs2.length + 1) lc3) (rs2 ++ [(g, len, cap)]) (sz2 + rm) wx from fun wx lb2 lc3 hb2 hl2 hk2 ho2 => by
        refine ⟨⟨hb2, ?_, fun r hr => ?_, ?_⟩, by omega, by push_cast; omega, ?_, ?_, ?_, fun q hq => ?_⟩
        · simpa using hl2
        · rcases List.mem_append.1 hr with hr | hr
          · have hm : r.1 ∈ rs2.map (·.1) := List.mem_map.2 ⟨r, hr, rfl⟩
            exact (HP1.out.ok r hr).keep hk2 ⟨HNE.out.2.1 _ hm, HNE.out.2.2 _ hm⟩
          · rw [List.mem_singleton.1 hr]
            exact HGO.out.keep hk2 ⟨hgK.1, fun e => HGN.out (.inr (.inl e))⟩
        · rw [List.map_append, List.nodup_append]
          refine ⟨HTB.out.nodup, by simp, fun a ha c hc e => ?_⟩
          have hc' : c = g := by simpa using hc
          exact HGN.out (.inr (.inr (by rw [← hc', ← e]; exact ha)))
        · rw [List.length_append]; simp; omega
        · refine (HKP.out.chain HK1.out (fun q _ h => h.1)).chain hk2 (fun q hq h => ⟨h.1, fun e => ?_⟩)
          rcases HOB.out with h2 | ⟨q', h2, hq'⟩
          · rw [h2] at e; exact h.2 e
          · rw [h2] at e; cases e; omega
        · rcases ho2 with h2 | ⟨q', h2, hq'⟩
          · rw [h2]; exact HOB.out
          · exact .inr ⟨q', h2, by omega⟩
        · rcases hq with h | h | h
          · exact .inl (.inl h)
          · rcases ho2 with h2 | ⟨q', h2, hq'⟩
            · rw [h2] at h; exact (HBK.out q (.inr (.inl h))).imp id (Or.imp (HTK.out q) id)
            · rw [h2] at h; cases h; exact .inr (.inr (by omega))
          · rw [List.map_append, List.mem_append] at h
            rcases h with h | h
            · exact (HBK.out q (.inr (.inr h))).imp id (Or.imp (HTK.out q) id)
            · have h' : q = g := by simpa using h
              exact .inr (.inl ⟨vs[j], by rw [List.take_add_one, List.getElem?_eq_getElem hlt]; exact List.mem_append_right _ (List.mem_singleton.2 rfl), by rw [h']; exact hgo⟩))
      go_upto_region 5 with fail
      refine wp_region_held_drew (S := fun W' => W'.cell? ⟨pb, j, none⟩ = some (.slice (some ⟨g, 0, none⟩) len cap)) (by kernel_rfl) (p1) (fun hHeld => ?_)
      refine wpAnyH_take (i := 0) (v := ?vdx1) rfl (by kernel_rfl) (by kernel_rfl) (by kernel_rfl) (fun _ _ _ h => h) (Or.inl ⟨by kernel_rfl, ?hdx1⟩) (by assumption) ?rdx1
      case hdx1 => (intro w hSw; (try dsimp only at hSw); go_simp; try with_reducible rfl)
      try simp only [Act.put, List.getElem_toArray, List.getElem_cons_zero, List.setIfInBounds_toArray, List.set_cons_zero, List.set_cons_succ]
      refine wpAnyH_take (i := 1) (v := ?vdx2) rfl (by kernel_rfl) (by kernel_rfl) (by kernel_rfl) (fun _ _ _ h => h) (Or.inl ⟨by kernel_rfl, ?hdx2⟩) (by assumption) ?rdx2
      case hdx2 => (intro w hSw; (try dsimp only at hSw); go_simp; try with_reducible rfl)
      try simp only [Act.put, List.getElem_toArray, List.getElem_cons_zero, List.getElem_cons_succ, List.setIfInBounds_toArray, List.set_cons_zero, List.set_cons_succ]
      refine wpAnyH_take (i := 2) (v := ?vdx3) rfl (by kernel_rfl) (by kernel_rfl) (by kernel_rfl) (fun _ _ _ h => h) (Or.inl ⟨by kernel_rfl, ?hdx3⟩) (by assumption) ?rdx3
      case hdx3 => (intro w hSw; (try dsimp only at hSw); go_simp; try with_reducible rfl)
      try simp only [Act.put, List.getElem_toArray, List.getElem_cons_zero, List.getElem_cons_succ, List.setIfInBounds_toArray, List.set_cons_zero, List.set_cons_succ]
      refine wpAnyH_take (i := 3) (v := ?vdx4) rfl (by kernel_rfl) (by kernel_rfl) (by kernel_rfl) (fun _ _ _ h => h) (Or.inl ⟨by kernel_rfl, ?hdx4⟩) (by assumption) ?rdx4
      case hdx4 => (intro w hSw; (try dsimp only at hSw); go_simp; try with_reducible rfl)
      try simp only [Act.put, List.getElem_toArray, List.getElem_cons_zero, List.getElem_cons_succ, List.setIfInBounds_toArray, List.set_cons_zero, List.set_cons_succ]
      refine wpAnyH_take (i := 5) (v := ?vdx5) rfl (by kernel_rfl) (by kernel_rfl) (by kernel_rfl) (fun _ _ _ h => h) (Or.inl ⟨by kernel_rfl, ?hdx5⟩) (by assumption) ?rdx5
      case hdx5 => (intro w hSw; (try dsimp only at hSw); go_simp; try with_reducible rfl)
      try simp only [Act.put, List.getElem_toArray, List.getElem_cons_zero, List.getElem_cons_succ, List.setIfInBounds_toArray, List.set_cons_zero, List.set_cons_succ]
      refine wpAnyH_take (i := 6) (v := ?vdx6) rfl (by kernel_rfl) (by kernel_rfl) (by kernel_rfl) (fun _ _ _ h => h) (Or.inl ⟨by kernel_rfl, ?hdx6⟩) (by assumption) ?rdx6
      case hdx6 => (intro w hSw; (try dsimp only at hSw); go_simp; try with_reducible rfl)
      try simp only [Act.put, List.getElem_toArray, List.getElem_cons_zero, List.getElem_cons_succ, List.setIfInBounds_toArray, List.set_cons_zero, List.set_cons_succ]
      refine wpAnyH_take (i := 7) (v := ?vdx7) rfl (by kernel_rfl) (by kernel_rfl) (by kernel_rfl) (fun _ _ _ h => h) (Or.inl ⟨by kernel_rfl, ?hdx7⟩) (by assumption) ?rdx7
      case hdx7 => (intro w hSw; (try dsimp only at hSw); go_simp; try with_reducible rfl)
      try simp only [Act.put, List.getElem_toArray, List.getElem_cons_zero, List.getElem_cons_succ, List.setIfInBounds_toArray, List.set_cons_zero, List.set_cons_succ]
      refine wpAnyH_take (i := 8) (v := ?vdx8) rfl (by kernel_rfl) (by kernel_rfl) (by kernel_rfl) (fun _ _ _ h => h) (Or.inl ⟨by kernel_rfl, ?hdx8⟩) (by assumption) ?rdx8
      case hdx8 => (intro w hSw; (try dsimp only at hSw); go_simp; try with_reducible rfl)
      try simp only [Act.put, List.getElem_toArray, List.getElem_cons_zero, List.getElem_cons_succ, List.setIfInBounds_toArray, List.set_cons_zero, List.set_cons_succ]
      refine wpAnyH_ready (rs := [4, 9]) (by kernel_rfl) (by simp) ?_
      refine AllReadyH.cons rfl (fun K hK => ?_) (AllReadyH.cons rfl (fun K hK => ?_) AllReadyH.nil)
      · go_simp
        refine hK.out _ _ (p1) (fun hHeld => ?_)
        clear hK K
        try simp only [Act.put, List.getElem_toArray, List.getElem_cons_zero, List.getElem_cons_succ, List.setIfInBounds_toArray, List.set_cons_zero, List.set_cons_succ]
        refine wpAnyH_ready (rs := [9]) (by kernel_rfl) (by simp) ?_
        refine AllReadyH.cons rfl (fun K hK => ?_) AllReadyH.nil
        go_simp
        refine hK.out _ _ (((Ext.alloc V1 _).kp (fun _ => True)).cell p1 trivial) (fun hHeld => ?_)
        clear hK K
        try simp only [Act.put, List.getElem_toArray, List.getElem_cons_zero, List.getElem_cons_succ, List.setIfInBounds_toArray, List.set_cons_zero, List.set_cons_succ]
        refine wpAnyH_ready (rs := [10]) (by kernel_rfl) (by simp) ?_
        refine AllReadyH.cons rfl (fun K hK => ?_) AllReadyH.nil
        refine step_append_own _ (by rfl) _ _ 65 (by rfl) base 49 i0 (.slice none 0 0) 1 24 Try.underlying65 hi0 hz0 hz1 hz2 rfl (by decide) _ rs2.length (rs2.map prV) (by rfl) (ownsRow_keep HP1.out.rowL ((show Ext V1 _ from (by repeat (first | with_reducible exact Ext.refl _ | with_reducible refine Ext.drew ?_ | with_reducible refine Ext.more ?_ _))).kp (fun _ => True)) (fun _ _ => trivial)) ⟨V1.heap.size, 0, none⟩ 1 1 [.slice (some ⟨g, 0, none⟩) len cap] (by rfl) rfl (fun e u he => by match e, he with | 0, he => cases he; exact cell_of (i := 0) (blk0 V1 _) rfl) (by simp [Value.oneCell']) (by unfold maxLen; omega) (by omega) (Nat.le_trans hbW (show Ext V1 _ from (by repeat (first | with_reducible exact Ext.refl _ | with_reducible refine Ext.drew ?_ | with_reducible refine Ext.more ?_ _))).size) ?_
        intro v9 w9 hown9 hgrow9 hat9
        obtain ⟨lb2, lc3, rfl⟩ := ownsRow_slice hown9
        have K9 := HK5.out w9 _ hgrow9
        have hb9 := K9.block' HP1.out.box (fun e => HNE.out.1 b e.symm rfl)
        have y0 := cell_of (i := 0) hb9 rfl
        have y1 := frozen_of (i := 0) hb9
        simp only [List.getElem_toArray, List.getElem_cons_zero] at y0
        show K _ _
        refine hK.out _ _ (K9.cell p1 (fun e => HPN2.out (.inr (.inl e.symm)))) (fun hHeld => ?_)
        clear hK K
        try simp only [Act.put, List.getElem_toArray, List.getElem_cons_zero, List.getElem_cons_succ, List.setIfInBounds_toArray, List.set_cons_zero, List.set_cons_succ]
        refine wpAnyH_take (i := 11) (v := ?vex1) rfl (by kernel_rfl) (by kernel_rfl) (by kernel_rfl) (fun _ _ _ h => h) (Or.inl ⟨by kernel_rfl, ?hex1⟩) (by assumption) ?rex1
        case hex1 => (intro w hSw; (try dsimp only at hSw); go_simp; try with_reducible rfl)
        try simp only [Act.put, List.getElem_toArray, List.getElem_cons_zero, List.getElem_cons_succ, List.setIfInBounds_toArray, List.set_cons_zero, List.set_cons_succ]
        refine wpAnyH_take (i := 12) (v := ?vex2) rfl (by kernel_rfl) (by kernel_rfl) (by kernel_rfl) (fun _ _ _ h => h) (Or.inl ⟨by kernel_rfl, ?hex2⟩) (by assumption) ?rex2
        case hex2 => (intro w hSw; (try dsimp only at hSw); go_simp; try with_reducible rfl)
        try simp only [Act.put, List.getElem_toArray, List.getElem_cons_zero, List.getElem_cons_succ, List.setIfInBounds_toArray, List.set_cons_zero, List.set_cons_succ]
        refine wpAnyH_ready (rs := [13]) (by kernel_rfl) (by simp) ?_
        refine AllReadyH.cons rfl (fun K hK => ?_) AllReadyH.nil
        go_simp
        refine hK.out _ _ ((Kp.set (K := (· ≠ b)) w9 b 0 _ (fun h => h rfl)).cell (K9.cell p1 (fun e => HPN2.out (.inr (.inl e.symm)))) hpbb) (fun hHeld => ?_)
        clear hK K
        try simp only [Act.put, List.getElem_toArray, List.getElem_cons_zero, List.getElem_cons_succ, List.setIfInBounds_toArray, List.set_cons_zero, List.set_cons_succ]
        refine wpAnyH_done (by kernel_rfl) ?_ _
        go_wp2_with fail
        go_roundw
        case measure => simp [intOf]; omega
        case rel =>
          have k0 := Kp.set (K := (· ≠ b)) w9 b 0 (.slice lb2 (rs2.length + 1) lc3) (fun h => h rfl)
          refine ⟨j + 1, _, _, _, hlt, by go_num, FIN.out _ lb2 lc3 (set_at hb9 0 _) (ownsRow_keep hown9 k0 (fun q hq e => ?_)) ((K9.mono (fun q _ hq e => hq.2 e.symm)).trans (k0.mono (fun q _ hq => hq.1))) (hat9.imp id (fun h => ⟨_, h, by simp⟩))⟩
          rcases hat9 with h | h
          · rw [h] at hq; exact HNE.out.1 q hq e
          · rw [h] at hq; cases hq; have e' : _ = b := e; simp at e'; omega
      · go_simp
        refine hK.out _ _ (((Ext.alloc V1 _).kp (fun _ => True)).cell p1 trivial) (fun hHeld => ?_)
        clear hK K
        try simp only [Act.put, List.getElem_toArray, List.getElem_cons_zero, List.getElem_cons_succ, List.setIfInBounds_toArray, List.set_cons_zero, List.set_cons_succ]
        refine wpAnyH_ready (rs := [4]) (by kernel_rfl) (by simp) ?_
        refine AllReadyH.cons rfl (fun K hK => ?_) AllReadyH.nil
        go_simp
        refine hK.out _ _ (((Ext.alloc V1 _).kp (fun _ => True)).cell p1 trivial) (fun hHeld => ?_)
        clear hK K
        try simp only [Act.put, List.getElem_toArray, List.getElem_cons_zero, List.getElem_cons_succ, List.setIfInBounds_toArray, List.set_cons_zero, List.set_cons_succ]
        refine wpAnyH_ready (rs := [10]) (by kernel_rfl) (by simp) ?_
        refine AllReadyH.cons rfl (fun K hK => ?_) AllReadyH.nil
        refine step_append_own _ (by rfl) _ _ 65 (by rfl) base 49 i0 (.slice none 0 0) 1 24 Try.underlying65 hi0 hz0 hz1 hz2 rfl (by decide) _ rs2.length (rs2.map prV) (by rfl) (ownsRow_keep HP1.out.rowL ((show Ext V1 _ from (by repeat (first | with_reducible exact Ext.refl _ | with_reducible refine Ext.drew ?_ | with_reducible refine Ext.more ?_ _))).kp (fun _ => True)) (fun _ _ => trivial)) ⟨V1.heap.size, 0, none⟩ 1 1 [.slice (some ⟨g, 0, none⟩) len cap] (by rfl) rfl (fun e u he => by match e, he with | 0, he => cases he; exact cell_of (i := 0) (blk0 V1 _) rfl) (by simp [Value.oneCell']) (by unfold maxLen; omega) (by omega) (Nat.le_trans hbW (show Ext V1 _ from (by repeat (first | with_reducible exact Ext.refl _ | with_reducible refine Ext.drew ?_ | with_reducible refine Ext.more ?_ _))).size) ?_
        intro v9 w9 hown9 hgrow9 hat9
        obtain ⟨lb2, lc3, rfl⟩ := ownsRow_slice hown9
        have K9 := HK5.out w9 _ hgrow9
        have hb9 := K9.block' HP1.out.box (fun e => HNE.out.1 b e.symm rfl)
        have y0 := cell_of (i := 0) hb9 rfl
        have y1 := frozen_of (i := 0) hb9
        simp only [List.getElem_toArray, List.getElem_cons_zero] at y0
        show K _ _
        refine hK.out _ _ (K9.cell p1 (fun e => HPN2.out (.inr (.inl e.symm)))) (fun hHeld => ?_)
        clear hK K
        try simp only [Act.put, List.getElem_toArray, List.getElem_cons_zero, List.getElem_cons_succ, List.setIfInBounds_toArray, List.set_cons_zero, List.set_cons_succ]
        refine wpAnyH_take (i := 11) (v := ?vfx1) rfl (by kernel_rfl) (by kernel_rfl) (by kernel_rfl) (fun _ _ _ h => h) (Or.inl ⟨by kernel_rfl, ?hfx1⟩) (by assumption) ?rfx1
        case hfx1 => (intro w hSw; (try dsimp only at hSw); go_simp; try with_reducible rfl)
        try simp only [Act.put, List.getElem_toArray, List.getElem_cons_zero, List.getElem_cons_succ, List.setIfInBounds_toArray, List.set_cons_zero, List.set_cons_succ]
        refine wpAnyH_take (i := 12) (v := ?vfx2) rfl (by kernel_rfl) (by kernel_rfl) (by kernel_rfl) (fun _ _ _ h => h) (Or.inl ⟨by kernel_rfl, ?hfx2⟩) (by assumption) ?rfx2
        case hfx2 => (intro w hSw; (try dsimp only at hSw); go_simp; try with_reducible rfl)
        try simp only [Act.put, List.getElem_toArray, List.getElem_cons_zero, List.getElem_cons_succ, List.setIfInBounds_toArray, List.set_cons_zero, List.set_cons_succ]
        refine wpAnyH_ready (rs := [13]) (by kernel_rfl) (by simp) ?_
        refine AllReadyH.cons rfl (fun K hK => ?_) AllReadyH.nil
        go_simp
        refine hK.out _ _ ((Kp.set (K := (· ≠ b)) w9 b 0 _ (fun h => h rfl)).cell (K9.cell p1 (fun e => HPN2.out (.inr (.inl e.symm)))) hpbb) (fun hHeld => ?_)
        clear hK K
        try simp only [Act.put, List.getElem_toArray, List.getElem_cons_zero, List.getElem_cons_succ, List.setIfInBounds_toArray, List.set_cons_zero, List.set_cons_succ]
        refine wpAnyH_done (by kernel_rfl) ?_ _
        go_wp2_with fail
        go_roundw
        case measure => simp [intOf]; omega
        case rel =>
          have k0 := Kp.set (K := (· ≠ b)) w9 b 0 (.slice lb2 (rs2.length + 1) lc3) (fun h => h rfl)
          refine ⟨j + 1, _, _, _, hlt, by go_num, FIN.out _ lb2 lc3 (set_at hb9 0 _) (ownsRow_keep hown9 k0 (fun q hq e => ?_)) ((K9.mono (fun q _ hq e => hq.2 e.symm)).trans (k0.mono (fun q _ hq => hq.1))) (hat9.imp id (fun h => ⟨_, h, by simp⟩))⟩
          rcases hat9 with h | h
          · rw [h] at hq; exact HNE.out.1 q hq e
          · rw [h] at hq; cases hq; have e' : _ = b := e; simp at e'; omega
    · have hje : j = vs.length := by omega
      subst hje
      go_wp2_with fail
      go_end0
      exact ⟨⟨_, rfl⟩, _, _, _, HSJ.out⟩
end Go.Proofs.Ythdmoghooaccgaa
/-
  Apart of the statements' Lists, by a contract: each list, grown over its spare room and written full, holds its own marks alone.
-/
namespace Go.Proofs.Ythdmoghooaccgaa
open Go.RowKit
theorem strInfo3 : (Try.prog.info? 9).map (fun i => (i.zero, i.size, i.bytes)) = some (some (.string ⟨#[]⟩), 1, 16) := by kernel_rfl
theorem step_append_roomS {ops : Array Oper} {o : Oper} {ac : Act} {K : Act → World → Prop} {Q : Exit → Act → World → Prop} {E : Prop} (w : World) (hgd : o.guard = none) (x y : Operand)
    (ho : o.op = .call { callee := .builtin .append, args := #[x, y], argTypes := #[49, 49] })
    (g n c p : Nat) (s : ByteArray) (hx : ac.eval x = .slice (some ⟨g, 0, none⟩) n c) (hy : ac.eval y = .slice (some ⟨p, 0, none⟩) 1 1) (hk : w.cell? ⟨p, 0, none⟩ = some (.string s)) (hroom : n + 1 ≤ c) (hc : (w.cell? ⟨g, n, none⟩).isSome = true) (hf : w.frozen? ⟨g, n, none⟩ = false)
    (h : K (ac.put o.dst (.slice (some ⟨g, 0, none⟩) (n + 1) c)) (w.setCell ⟨g, n, none⟩ (.string s))) :
    if Region.wanted o (yielded ops ac.tmps) = true then Oper.wp Try.prog o ac w K Q else E := by
  have hw : Region.wanted o (yielded ops ac.tmps) = true := by simp [Region.wanted, hgd]
  rw [if_pos hw]
  obtain ⟨i0, hi0, hz0, hz1, hz2⟩ := info_parts strInfo3
  have hr := run_append_room_cells (P := Try.prog) w 49 o.type 9 i0 Try.underlying49 hi0 g 0 n c ⟨p, 0, none⟩ 1 1 [.string s] (by rw [hz1]; rfl) (fun j u hu => by
    match j, hu with
    | 0, hu => cases hu; rw [add_none]; exact hk) (fun u hu => by simp at hu; subst hu; rfl) hroom (fun j hj => by
    have hj' : j = 0 := by simpa using hj
    subst hj'
    rw [hz1]; simpa using hc) (fun j hj => by
    have hj' : j = 0 := by simpa using hj
    subst hj'
    rw [hz1]; simpa using hf)
  rw [hz1] at hr
  simp only [World.setCells, Nat.mul_one, Nat.zero_add] at hr
  unfold Oper.wp execOp
  simp only [ho, resolve, invoke, builtin, Sem.run_bind, Sem.run_pure, Result.andThen_ok, List.map_toArray, List.map_cons, List.map_nil, hx, hy, hr]
  exact h
/-- The mark of a list. -/
def mkS (i : Nat) : ByteArray := strOfNums (digs 21 i)
/-- The lists while they grow: n tells how far each is grown; the first m are written full. -/
structure GL (w : World) (b base lb lc : Nat) (rs : List PR) (sz : Int) (n : Nat → Nat) (m : Nat) : Prop where
  box : w.heap[b]? = some (.cells #[.slice (some ⟨lb, 0, none⟩) rs.length lc, .int .i64 sz] 67)
  rowL : ∃ L, w.ownsRow base 49 1 (.slice (some ⟨lb, 0, none⟩) rs.length lc) rs.length L ∧ ∀ i, (h : i < rs.length) → L[i]? = some (.slice (some ⟨rs[i].1, 0, none⟩) (n i) rs[i].2.2)
  ok : ∀ i, (h : i < rs.length) → LOk w base rs[i] ∧ rs[i].2.1 ≤ n i ∧ n i ≤ rs[i].2.2
  full : ∀ i, (h : i < rs.length) → i < m → ∃ cur, w.heap[rs[i].1]? = some (.cells cur 9) ∧ ∀ k, k < n i → cur[k]? = some (.string (mkS i))
  nodup : (rs.map (·.1)).Nodup
  apartL : ∀ r ∈ rs, lb ≠ r.1
  ne : lb ≠ b ∧ ∀ r ∈ rs, r.1 ≠ b
theorem LB.grow {w : World} {b base lb lc : Nat} {rs : List PR} {sz : Int} (h : LB w b base (.slice (some ⟨lb, 0, none⟩) rs.length lc) rs sz) : GL w b base lb lc rs sz (fun i => (rs[i]?.map (·.2.1)).getD 0) 0 where
  box := h.box
  rowL := ⟨_, h.rowL, fun i hi => by simp [hi, prV]⟩
  ok := fun i hi => by
    have := h.ok rs[i] (List.getElem_mem hi)
    simpa [hi] using ⟨this, this.2.2.1⟩
  full := fun i _ h => absurd h (Nat.not_lt_zero _)
  nodup := h.nodup
  apartL := fun r hr e => h.ne.2.2 r.1 (List.mem_map.2 ⟨r, hr, rfl⟩) (by rw [← e]; rfl)
  ne := ⟨h.ne.1 lb rfl, fun r hr => h.ne.2.1 r.1 (List.mem_map.2 ⟨r, hr, rfl⟩)⟩
theorem GL.cells {w : World} {b base lb lc : Nat} {rs : List PR} {sz : Int} {n : Nat → Nat} {m : Nat} (h : GL w b base lb lc rs sz n m) {i : Nat} (hi : i < rs.length) : w.cell? ⟨lb, i, none⟩ = some (.slice (some ⟨rs[i].1, 0, none⟩) (n i) rs[i].2.2) := by
  obtain ⟨L, hL, hc⟩ := h.rowL
  exact (hL.cellAt i (by omega)).trans (hc i hi)
theorem GL.later {w w' : World} {b base lb lc : Nat} {rs : List PR} {sz : Int} {n : Nat → Nat} {m : Nat} (h : GL w b base lb lc rs sz n m) (hx : Ext w w') : GL w' b base lb lc rs sz n m := by
  obtain ⟨L, hL, hc⟩ := h.rowL
  exact ⟨hx.block h.box, ⟨L, ownsRow_keep hL (hx.kp (fun _ => True)) (fun _ _ => trivial), hc⟩, fun i hi => ⟨(h.ok i hi).1.keep (hx.kp (fun _ => True)) trivial, (h.ok i hi).2⟩, fun i hi hm => by
    obtain ⟨cur, h1, h2⟩ := h.full i hi hm
    exact ⟨cur, hx.block h1, h2⟩, h.nodup, h.apartL, h.ne⟩
/-- A list grown by one. -/
theorem GL.step {w : World} {b base lb lc : Nat} {rs : List PR} {sz : Int} {n : Nat → Nat} {m : Nat} (h : GL w b base lb lc rs sz n m) {j : Nat} (hj : j < rs.length) (hmj : m ≤ j) (hr : n j + 1 ≤ rs[j].2.2) (w1 : World) (hx : Ext w w1) (s : ByteArray) :
    GL ((w1.setCell ⟨rs[j].1, n j, none⟩ (.string s)).setCell ⟨lb, j, none⟩ (.slice (some ⟨rs[j].1, 0, none⟩) (n j + 1) rs[j].2.2)) b base lb lc rs sz (fun i => if i = j then n j + 1 else n i) m := by
  have hmj' : rs[j] ∈ rs := List.getElem_mem hj
  have k1 := Kp.set (K := (· ≠ rs[j].1)) w1 rs[j].1 (n j) (.string s) (fun h => h rfl)
  have k2 := Kp.set (K := (· ≠ lb)) (w1.setCell ⟨rs[j].1, n j, none⟩ (.string s)) lb j (.slice (some ⟨rs[j].1, 0, none⟩) (n j + 1) rs[j].2.2) (fun h => h rfl)
  have kk : Kp (fun q => q ≠ rs[j].1 ∧ q ≠ lb) w ((w1.setCell ⟨rs[j].1, n j, none⟩ (.string s)).setCell ⟨lb, j, none⟩ (.slice (some ⟨rs[j].1, 0, none⟩) (n j + 1) rs[j].2.2)) := ((hx.kp _).trans (k1.mono (fun q _ h => h.1))).trans (k2.mono (fun q _ h => h.2))
  obtain ⟨L, hL, hc⟩ := h.rowL
  refine ⟨kk.block' h.box ⟨fun e => h.ne.2 _ hmj' e.symm, fun e => h.ne.1 e.symm⟩, ⟨L.set j (.slice (some ⟨rs[j].1, 0, none⟩) (n j + 1) rs[j].2.2), ?_, fun i hi => ?_⟩, fun i hi => ?_, fun i hi hm => ?_, h.nodup, h.apartL, h.ne⟩
  · exact row_setAt (ownsRow_keep hL ((hx.kp (· ≠ rs[j].1)).trans k1) (fun q hq => by cases hq; exact h.apartL _ hmj')) _
  · by_cases e : i = j
    · subst e
      have hl : L.length = rs.length := by have := hL.1; omega
      rw [List.getElem?_set_self (by omega), if_pos rfl]
    · rw [List.getElem?_set_ne (fun e2 => e e2.symm), if_neg e]; exact hc i hi
  · by_cases e : i = j
    · subst e
      rw [if_pos rfl]
      obtain ⟨⟨h1, h2, h3, h4, h5, cur, h6, h7⟩, h8, h9⟩ := h.ok i hi
      exact ⟨⟨h1, h2, h3, h4, h5, cur.setIfInBounds (n i) (.string s), k2.block' (set_at (hx.block h6) (n i) _) (fun e => h.apartL _ hmj' e.symm), by simpa using h7⟩, by omega, hr⟩
    · rw [if_neg e]
      have hmi : rs[i] ∈ rs := List.getElem_mem hi
      exact ⟨(h.ok i hi).1.keep kk ⟨fun e2 => e (nodup_at h.nodup hi hj e2), fun e2 => h.apartL _ hmi e2.symm⟩, (h.ok i hi).2⟩
  · have e : i ≠ j := by omega
    have hmi : rs[i] ∈ rs := List.getElem_mem hi
    obtain ⟨cur, h1, h2⟩ := h.full i hi hm
    simp only [if_neg e]
    exact ⟨cur, kk.block' h1 ⟨fun e2 => e (nodup_at h.nodup hi hj e2), fun e2 => h.apartL _ hmi e2.symm⟩, h2⟩
/-- A list written full. -/
theorem GL.fill {w w' : World} {b base lb lc : Nat} {rs : List PR} {sz : Int} {n : Nat → Nat} {j : Nat} (h : GL w b base lb lc rs sz n j) (hj : j < rs.length) (hk : Kp (· ≠ rs[j].1) w w') (cu : Array Value) (hb : w'.heap[rs[j].1]? = some (.cells cu 9)) (hs : cu.size = rs[j].2.2) (hf : ∀ k, k < n j → cu[k]? = some (.string (mkS j))) : GL w' b base lb lc rs sz n (j + 1) := by
  have hmj' : rs[j] ∈ rs := List.getElem_mem hj
  obtain ⟨L, hL, hc⟩ := h.rowL
  refine ⟨hk.block' h.box (fun e => h.ne.2 _ hmj' e.symm), ⟨L, ownsRow_keep hL hk (fun q hq => by cases hq; exact h.apartL _ hmj'), hc⟩, fun i hi => ?_, fun i hi hm => ?_, h.nodup, h.apartL, h.ne⟩
  · by_cases e : i = j
    · subst e
      obtain ⟨⟨h1, h2, h3, h4, h5, _⟩, h8⟩ := h.ok i hi
      exact ⟨⟨h1, h2, h3, h4, h5, cu, hb, hs⟩, h8⟩
    · exact ⟨(h.ok i hi).1.keep hk (fun e2 => e (nodup_at h.nodup hi hj e2)), (h.ok i hi).2⟩
  · by_cases e : i = j
    · subst e; exact ⟨cu, hb, hf⟩
    · obtain ⟨cur, h1, h2⟩ := h.full i hi (by omega)
      exact ⟨cur, hk.block' h1 (fun e2 => e (nodup_at h.nodup hi hj e2)), h2⟩
set_option maxRecDepth 100000 in
set_option maxHeartbeats 4000000 in
theorem lapart_some (w : World) (b base lb lc : Nat) (rs : List PR) (sz : Int) (h : LB w b base (.slice (some ⟨lb, 0, none⟩) rs.length lc) rs sz) (hrl : rs.length ≤ 100000) :
    Calls Try.prog 31 #[.pointer (some ⟨b, 0, none⟩)] w fun e w' => e = .returned (.bool true) ∧ Kp (fun q => ¬ LBk b (.slice (some ⟨lb, 0, none⟩) rs.length lc) rs q) w w' := by
  have H0 := hid h.grow
  clear h
  go_enter Try.func31, Try.ntmps31
  go_wp2_with fail
  go_loopw [3] (fun i wr => ∃ (j : Nat) (f : Nat → Nat), j ≤ rs.length ∧ i = .int .i64 j ∧ GL wr b base lb lc rs sz f j ∧ (∀ i, (h : i < rs.length) → i < j → f i = goal rs[i]) ∧ (∀ i, (h : i < rs.length) → j ≤ i → f i = rs[i].2.1) ∧ Kp (fun q => ¬ LBk b (.slice (some ⟨lb, 0, none⟩) rs.length lc) rs q) w wr) (fun i _ => rs.length - (intOf i).toNat)
  case atStart => exact ⟨0, _, Nat.zero_le _, rfl, H0.out, fun i _ h => absurd h (Nat.not_lt_zero _), fun i h _ => by simp [h], Kp.refl _ _⟩
  case round =>
    obtain ⟨j, f, hj, rfl, hG, hf1, hf2, hk⟩ := hrel
    have HG := hid hG
    have HF1 := hid hf1
    have HF2 := hid hf2
    have HK := hid hk
    clear hf1 hf2 hk
    obtain ⟨b0, b1⟩ := two_of hG.box
    by_cases hlt : j < rs.length
    · have hlt' : (j : Int) < rs.length := by omega
      have l0 := hG.cells hlt
      have hmj : rs[j] ∈ rs := List.getElem_mem hlt
      obtain ⟨⟨h1, h2, h3, h4, h5, _⟩, _, _⟩ := hG.ok j hlt
      have hcI : (rs[j].2.2 : Int) ≤ 9223372036854775807 := by unfold maxLen at h4; omega
      obtain ⟨g1, g2, g3⟩ := goal_le (r := rs[j]) h3
      have hgl : goal rs[j] ≤ 1071000 := by
        have := g3
        unfold roomI at this
        split at this <;> omega
      have hfj : f j = rs[j].2.1 := HF2.out j hlt (Nat.le_refl _)
      rw [hfj] at l0
      have CR := hid (fun W => room_any rs[j].2.1 rs[j].2.2 W (by omega) (by omega))
      rw [g3] at CR
      have HGL := hid (And.intro g1 g2)
      clear hG h1 h2 h4 g1 g2 g3
      go_wp2_with fail
      go_cut [4] from 10 to 84 (fun s4 wx => s4 = .int .i64 (goal rs[j]) ∧ Ext wr wx)
      case first =>
        go_region_held3 (fun W' => W'.cell? ⟨b, 0, none⟩ = some (.slice (some ⟨lb, 0, none⟩) rs.length lc) ∧ W'.cell? ⟨lb, j, none⟩ = some (.slice (some ⟨rs[j].1, 0, none⟩) rs[j].2.1 rs[j].2.2))
          (first | exact ⟨b0, l0⟩ | go_keep)
          (first | (go_at_call 55; refine (CR.out _).mono ?_; rintro e w2 ⟨rfl, rfl⟩))
        all_goals
          go_wp2_with fail
          go_meet
          case rel => exact ⟨rfl, (Ext.refl wr).drew⟩
      case rest =>
      obtain ⟨rfl, hxc⟩ := hcut
      obtain ⟨V, rfl⟩ : ∃ V, V = wc := ⟨wc, rfl⟩
      have HGV := hid (HG.out.later hxc)
      have HKV := hid (HK.out.trans (hxc.kp _))
      clear hxc b0 b1 l0 CR
      go_wp2_with fail
      go_loopw [] (fun wq => ∃ (nn : Nat) (f' : Nat → Nat), GL wq b base lb lc rs sz f' j ∧ f' j = nn ∧ nn ≤ goal rs[j] ∧ (∀ i, (h : i < rs.length) → i < j → f' i = goal rs[i]) ∧ (∀ i, (h : i < rs.length) → j < i → f' i = rs[i].2.1) ∧ Kp (fun q => ¬ LBk b (.slice (some ⟨lb, 0, none⟩) rs.length lc) rs q) w wq) (fun wq => goal rs[j] - lenC (wq.cell? ⟨lb, j, none⟩))
      case atStart => exact ⟨_, f, HGV.out, rfl, by rw [hfj]; exact HGL.out.1, HF1.out, fun i h h2 => HF2.out i h (by omega), HKV.out⟩
      case round =>
        obtain ⟨nn, f', hG', hfn, hng, hf1, hf2, hk'⟩ := hrel
        have HG' := hid hG'
        have HF1' := hid hf1
        have HF2' := hid hf2
        have HK' := hid hk'
        have HFN := hid hfn
        have HBQ := hid hG'.box
        obtain ⟨b0, b1⟩ := two_of hG'.box
        have l0 := hG'.cells hlt
        rw [hfn] at l0
        have hbl := lt_of_cell b0
        have hll0 := lt_of_cell l0
        obtain ⟨⟨_, _, _, _, _, cu, hcu, hcs⟩, h8, h9⟩ := hG'.ok j hlt
        rw [hfn] at h8 h9
        clear hf1 hf2 hk' hfn hG'
        by_cases hnn : nn < goal rs[j]
        · have hnn' : (nn : Int) < (goal rs[j] : Int) := by omega
          have hroom : nn + 1 ≤ rs[j].2.2 := by have := HGL.out.2; omega
          obtain ⟨vk, hvk⟩ : ∃ vk, cu[nn]? = some vk := ⟨_, Array.getElem?_eq_getElem (by omega)⟩
          have HCU := hid (And.intro hcu hvk)
          have AL1 := hid (show ∀ o, ((wr.alloc o).drew.cell? ⟨rs[j].1, nn, none⟩).isSome = true from fun o => by rw [show (wr.alloc o).drew.cell? ⟨rs[j].1, nn, none⟩ = some vk from cell_of (blkOld o HCU.out.1) HCU.out.2]; rfl)
          have AL2 := hid (show ∀ o, (wr.alloc o).drew.frozen? ⟨rs[j].1, nn, none⟩ = false from fun o => frozen_of (show (wr.alloc o).drew.heap[rs[j].1]? = _ from blkOld o HCU.out.1))
          have AL3 := hid (show ∀ o, ((wr.alloc o).drew.setCell ⟨rs[j].1, nn, none⟩ (.string ⟨#[]⟩)).cell? ⟨b, 0, none⟩ = some (.slice (some ⟨lb, 0, none⟩) rs.length lc) from fun o => (((Ext.alloc wr o).drew.kp (· ≠ rs[j].1)).trans (Kp.set _ _ _ _ (fun h => h rfl))).cell b0 (fun e => HG'.out.ne.2 _ hmj e.symm))
          have AL4 := hid (show ∀ o, (((wr.alloc o).drew.setCell ⟨rs[j].1, nn, none⟩ (.string ⟨#[]⟩)).setCell ⟨lb, j, none⟩ (.slice (some ⟨rs[j].1, 0, none⟩) (nn + 1) rs[j].2.2)).cell? ⟨b, 0, none⟩ = some (.slice (some ⟨lb, 0, none⟩) rs.length lc) from fun o => (Kp.set (K := (· ≠ lb)) _ _ _ _ (fun h => h rfl)).cell (AL3.out o) (fun e => HG'.out.ne.1 e.symm))
          have HLB := hid (show ∃ cl, wr.heap[lb]? = some (.cells cl 49) from by
            obtain ⟨L, hL, _⟩ := HG'.out.rowL
            exact (ownsRow_block hL rfl).2)
          have AL5 := hid (show ∀ o, ((wr.alloc o).setCell ⟨rs[j].1, nn, none⟩ (.string ⟨#[]⟩)).cell? ⟨lb, j, none⟩ = some (.slice (some ⟨rs[j].1, 0, none⟩) nn rs[j].2.2) ∧ wr.frozen? ⟨lb, j, none⟩ = false from fun o => by
            have kk := ((Ext.alloc wr o).kp (· ≠ rs[j].1)).trans (Kp.set (K := (· ≠ rs[j].1)) (wr.alloc o) rs[j].1 nn (.string ⟨#[]⟩) (fun h => h rfl))
            obtain ⟨cl, hcl⟩ := HLB.out
            exact ⟨kk.cell l0 (HG'.out.apartL _ hmj), frozen_of hcl⟩)
          have STEP := hid (show ∀ o, GL (((wr.alloc o).drew.setCell ⟨rs[j].1, nn, none⟩ (.string ⟨#[]⟩)).setCell ⟨lb, j, none⟩ (.slice (some ⟨rs[j].1, 0, none⟩) (nn + 1) rs[j].2.2)) b base lb lc rs sz (fun i => if i = j then nn + 1 else f' i) j from fun o => by
            have := HG'.out.step hlt (Nat.le_refl _) (by rw [HFN.out]; exact hroom) (wr.alloc o).drew (Ext.alloc wr o).drew ⟨#[]⟩
            rw [HFN.out] at this
            exact this)
          have REL := hid (show ∀ o, ∃ (n2 : Nat) (f2 : Nat → Nat), GL (((wr.alloc o).drew.setCell ⟨rs[j].1, nn, none⟩ (.string ⟨#[]⟩)).setCell ⟨lb, j, none⟩ (.slice (some ⟨rs[j].1, 0, none⟩) (nn + 1) rs[j].2.2)) b base lb lc rs sz f2 j ∧ f2 j = n2 ∧ n2 ≤ goal rs[j] ∧ (∀ i, (h : i < rs.length) → i < j → f2 i = goal rs[i]) ∧ (∀ i, (h : i < rs.length) → j < i → f2 i = rs[i].2.1) ∧ Kp (fun q => ¬ LBk b (.slice (some ⟨lb, 0, none⟩) rs.length lc) rs q) w (((wr.alloc o).drew.setCell ⟨rs[j].1, nn, none⟩ (.string ⟨#[]⟩)).setCell ⟨lb, j, none⟩ (.slice (some ⟨rs[j].1, 0, none⟩) (nn + 1) rs[j].2.2)) from fun o =>
            ⟨nn + 1, _, STEP.out o, if_pos rfl, hnn, fun i h h2 => by rw [if_neg (by omega)]; exact HF1'.out i h h2, fun i h h2 => by rw [if_neg (by omega)]; exact HF2'.out i h h2,
              ((HK'.out.trans ((Ext.alloc wr o).drew.kp _)).trans (Kp.set _ _ _ _ (fun h => h (.inr (.inr (List.mem_map.2 ⟨_, hmj, rfl⟩)))))).trans (Kp.set _ _ _ _ (fun h => h (.inr (.inl rfl))))⟩)
          have MEA := hid (show ∀ o, goal rs[j] - lenC ((((wr.alloc o).drew.setCell ⟨rs[j].1, nn, none⟩ (.string ⟨#[]⟩)).setCell ⟨lb, j, none⟩ (.slice (some ⟨rs[j].1, 0, none⟩) (nn + 1) rs[j].2.2)).cell? ⟨lb, j, none⟩) < goal rs[j] - lenC (wr.cell? ⟨lb, j, none⟩) from fun o => by
            have h1 := (STEP.out o).cells hlt
            rw [if_pos rfl] at h1
            have h2 := HG'.out.cells hlt
            rw [HFN.out] at h2
            rw [h1, h2]
            simp only [lenC]
            omega)
          clear hcu hvk
          go_wp2_with fail
          refine wp_region_held_drew (S := fun W' => W'.cell? ⟨b, 0, none⟩ = some (.slice (some ⟨lb, 0, none⟩) rs.length lc)) (by kernel_rfl) (b0) (fun hHeld => ?_)
          refine wpAnyH_take (i := 0) (v := ?vax1) rfl (by kernel_rfl) (by kernel_rfl) (by kernel_rfl) (fun _ _ _ h => h) (Or.inl ⟨by kernel_rfl, ?hax1⟩) (by assumption) ?rax1
          case hax1 => (intro w hSw; (try dsimp only at hSw); go_simp; try with_reducible rfl)
          try simp only [Act.put, List.getElem_toArray, List.getElem_cons_zero, List.setIfInBounds_toArray, List.set_cons_zero, List.set_cons_succ]
          refine wpAnyH_take (i := 1) (v := ?vax2) rfl (by kernel_rfl) (by kernel_rfl) (by kernel_rfl) (fun _ _ _ h => h) (Or.inl ⟨by kernel_rfl, ?hax2⟩) (by assumption) ?rax2
          case hax2 => (intro w hSw; (try dsimp only at hSw); go_simp; try with_reducible rfl)
          try simp only [Act.put, List.getElem_toArray, List.getElem_cons_zero, List.getElem_cons_succ, List.setIfInBounds_toArray, List.set_cons_zero, List.set_cons_succ]
          refine wpAnyH_take (i := 2) (v := ?vax3) rfl (by kernel_rfl) (by kernel_rfl) (by kernel_rfl) (fun _ _ _ h => h) (Or.inl ⟨by kernel_rfl, ?hax3⟩) (by assumption) ?rax3
          case hax3 => (intro w hSw; (try dsimp only at hSw); go_simp; try with_reducible rfl)
          try simp only [Act.put, List.getElem_toArray, List.getElem_cons_zero, List.getElem_cons_succ, List.setIfInBounds_toArray, List.set_cons_zero, List.set_cons_succ]
          refine wpAnyH_take (i := 3) (v := ?vax4) rfl (by kernel_rfl) (by kernel_rfl) (by kernel_rfl) (fun _ _ _ h => h) (Or.inl ⟨by kernel_rfl, ?hax4⟩) (by assumption) ?rax4
          case hax4 => (intro w hSw; (try dsimp only at hSw); go_simp; try with_reducible rfl)
          try simp only [Act.put, List.getElem_toArray, List.getElem_cons_zero, List.getElem_cons_succ, List.setIfInBounds_toArray, List.set_cons_zero, List.set_cons_succ]
          refine wpAnyH_take (i := 4) (v := ?vax5) rfl (by kernel_rfl) (by kernel_rfl) (by kernel_rfl) (fun _ _ _ h => h) (Or.inl ⟨by kernel_rfl, ?hax5⟩) (by assumption) ?rax5
          case hax5 => (intro w hSw; (try dsimp only at hSw); go_simp; try with_reducible rfl)
          try simp only [Act.put, List.getElem_toArray, List.getElem_cons_zero, List.getElem_cons_succ, List.setIfInBounds_toArray, List.set_cons_zero, List.set_cons_succ]
          refine wpAnyH_take (i := 5) (v := ?vax6) rfl (by kernel_rfl) (by kernel_rfl) (by kernel_rfl) (fun _ _ _ h => h) (Or.inl ⟨by kernel_rfl, ?hax6⟩) (by assumption) ?rax6
          case hax6 => (intro w hSw; (try dsimp only at hSw); go_simp; try with_reducible rfl)
          try simp only [Act.put, List.getElem_toArray, List.getElem_cons_zero, List.getElem_cons_succ, List.setIfInBounds_toArray, List.set_cons_zero, List.set_cons_succ]
          refine wpAnyH_take (i := 6) (v := ?vax7) rfl (by kernel_rfl) (by kernel_rfl) (by kernel_rfl) (fun _ _ _ h => h) (Or.inl ⟨by kernel_rfl, ?hax7⟩) (by assumption) ?rax7
          case hax7 => (intro w hSw; (try dsimp only at hSw); go_simp; try with_reducible rfl)
          try simp only [Act.put, List.getElem_toArray, List.getElem_cons_zero, List.getElem_cons_succ, List.setIfInBounds_toArray, List.set_cons_zero, List.set_cons_succ]
          refine wpAnyH_take (i := 7) (v := ?vax8) rfl (by kernel_rfl) (by kernel_rfl) (by kernel_rfl) (fun _ _ _ h => h) (Or.inl ⟨by kernel_rfl, ?hax8⟩) (by assumption) ?rax8
          case hax8 => (intro w hSw; (try dsimp only at hSw); go_simp; try with_reducible rfl)
          try simp only [Act.put, List.getElem_toArray, List.getElem_cons_zero, List.getElem_cons_succ, List.setIfInBounds_toArray, List.set_cons_zero, List.set_cons_succ]
          refine wpAnyH_take (i := 8) (v := ?vax9) rfl (by kernel_rfl) (by kernel_rfl) (by kernel_rfl) (fun _ _ _ h => h) (Or.inl ⟨by kernel_rfl, ?hax9⟩) (by assumption) ?rax9
          case hax9 => (intro w hSw; (try dsimp only at hSw); go_simp; try with_reducible rfl)
          try simp only [Act.put, List.getElem_toArray, List.getElem_cons_zero, List.getElem_cons_succ, List.setIfInBounds_toArray, List.set_cons_zero, List.set_cons_succ]
          refine wpAnyH_take (i := 9) (v := ?vax10) rfl (by kernel_rfl) (by kernel_rfl) (by kernel_rfl) (fun _ _ _ h => h) (Or.inl ⟨by kernel_rfl, ?hax10⟩) (by assumption) ?rax10
          case hax10 => (intro w hSw; (try dsimp only at hSw); go_simp; try with_reducible rfl)
          try simp only [Act.put, List.getElem_toArray, List.getElem_cons_zero, List.getElem_cons_succ, List.setIfInBounds_toArray, List.set_cons_zero, List.set_cons_succ]
          refine wpAnyH_take (i := 10) (v := ?vax11) rfl (by kernel_rfl) (by kernel_rfl) (by kernel_rfl) (fun _ _ _ h => h) (Or.inl ⟨by kernel_rfl, ?hax11⟩) (by assumption) ?rax11
          case hax11 => (intro w hSw; (try dsimp only at hSw); go_simp; try with_reducible rfl)
          try simp only [Act.put, List.getElem_toArray, List.getElem_cons_zero, List.getElem_cons_succ, List.setIfInBounds_toArray, List.set_cons_zero, List.set_cons_succ]
          refine wpAnyH_ready (rs := [11, 12]) (by kernel_rfl) (by simp) ?_
          refine AllReadyH.cons rfl (fun K hK => ?_) (AllReadyH.cons rfl (fun K hK => ?_) AllReadyH.nil)
          · go_simp
            refine hK.out _ _ (b0) (fun hHeld => ?_)
            clear hK K
            try simp only [Act.put, List.getElem_toArray, List.getElem_cons_zero, List.getElem_cons_succ, List.setIfInBounds_toArray, List.set_cons_zero, List.set_cons_succ]
            refine wpAnyH_ready (rs := [12]) (by kernel_rfl) (by simp) ?_
            refine AllReadyH.cons rfl (fun K hK => ?_) AllReadyH.nil
            go_simp
            refine hK.out _ _ (cell_of (i := 0) (blkOld _ HBQ.out) rfl) (fun hHeld => ?_)
            clear hK K
            try simp only [Act.put, List.getElem_toArray, List.getElem_cons_zero, List.getElem_cons_succ, List.setIfInBounds_toArray, List.set_cons_zero, List.set_cons_succ]
            refine wpAnyH_ready (rs := [13]) (by kernel_rfl) (by simp) ?_
            refine AllReadyH.cons rfl (fun K hK => ?_) AllReadyH.nil
            refine step_append_roomS _ (by rfl) _ _ (by rfl) rs[j].1 nn rs[j].2.2 wr.heap.size ⟨#[]⟩ (by rfl) (by rfl) (cell_of (i := 0) (blk0 wr _) rfl) hroom (AL1.out _) (AL2.out _) ?_
            show K _ _
            refine hK.out _ _ (AL3.out _) (fun hHeld => ?_)
            clear hK K
            try simp only [Act.put, List.getElem_toArray, List.getElem_cons_zero, List.getElem_cons_succ, List.setIfInBounds_toArray, List.set_cons_zero, List.set_cons_succ]
            refine wpAnyH_take (i := 14) (v := ?vbx1) rfl (by kernel_rfl) (by kernel_rfl) (by kernel_rfl) (fun _ _ _ h => h) (Or.inl ⟨by kernel_rfl, ?hbx1⟩) (by assumption) ?rbx1
            case hbx1 => (intro w hSw; (try dsimp only at hSw); go_simp; try with_reducible rfl)
            try simp only [Act.put, List.getElem_toArray, List.getElem_cons_zero, List.getElem_cons_succ, List.setIfInBounds_toArray, List.set_cons_zero, List.set_cons_succ]
            refine wpAnyH_ready (rs := [15]) (by kernel_rfl) (by simp) ?_
            refine AllReadyH.cons rfl (fun K hK => ?_) AllReadyH.nil
            obtain ⟨y0, y1⟩ := AL5.out (.cells #[.string ⟨#[]⟩] 9)
            go_simp
            refine hK.out _ _ (AL4.out _) (fun hHeld => ?_)
            clear hK K
            try simp only [Act.put, List.getElem_toArray, List.getElem_cons_zero, List.getElem_cons_succ, List.setIfInBounds_toArray, List.set_cons_zero, List.set_cons_succ]
            refine wpAnyH_done (by kernel_rfl) ?_ _
            go_wp2_with fail
            go_roundw
            case rel => exact REL.out _
            case measure => exact MEA.out _
          · go_simp
            refine hK.out _ _ (cell_of (i := 0) (blkOld _ HBQ.out) rfl) (fun hHeld => ?_)
            clear hK K
            try simp only [Act.put, List.getElem_toArray, List.getElem_cons_zero, List.getElem_cons_succ, List.setIfInBounds_toArray, List.set_cons_zero, List.set_cons_succ]
            refine wpAnyH_ready (rs := [11]) (by kernel_rfl) (by simp) ?_
            refine AllReadyH.cons rfl (fun K hK => ?_) AllReadyH.nil
            go_simp
            refine hK.out _ _ (cell_of (i := 0) (blkOld _ HBQ.out) rfl) (fun hHeld => ?_)
            clear hK K
            try simp only [Act.put, List.getElem_toArray, List.getElem_cons_zero, List.getElem_cons_succ, List.setIfInBounds_toArray, List.set_cons_zero, List.set_cons_succ]
            refine wpAnyH_ready (rs := [13]) (by kernel_rfl) (by simp) ?_
            refine AllReadyH.cons rfl (fun K hK => ?_) AllReadyH.nil
            refine step_append_roomS _ (by rfl) _ _ (by rfl) rs[j].1 nn rs[j].2.2 wr.heap.size ⟨#[]⟩ (by rfl) (by rfl) (cell_of (i := 0) (blk0 wr _) rfl) hroom (AL1.out _) (AL2.out _) ?_
            show K _ _
            refine hK.out _ _ (AL3.out _) (fun hHeld => ?_)
            clear hK K
            try simp only [Act.put, List.getElem_toArray, List.getElem_cons_zero, List.getElem_cons_succ, List.setIfInBounds_toArray, List.set_cons_zero, List.set_cons_succ]
            refine wpAnyH_take (i := 14) (v := ?vcx1) rfl (by kernel_rfl) (by kernel_rfl) (by kernel_rfl) (fun _ _ _ h => h) (Or.inl ⟨by kernel_rfl, ?hcx1⟩) (by assumption) ?rcx1
            case hcx1 => (intro w hSw; (try dsimp only at hSw); go_simp; try with_reducible rfl)
            try simp only [Act.put, List.getElem_toArray, List.getElem_cons_zero, List.getElem_cons_succ, List.setIfInBounds_toArray, List.set_cons_zero, List.set_cons_succ]
            refine wpAnyH_ready (rs := [15]) (by kernel_rfl) (by simp) ?_
            refine AllReadyH.cons rfl (fun K hK => ?_) AllReadyH.nil
            obtain ⟨y0, y1⟩ := AL5.out (.cells #[.string ⟨#[]⟩] 9)
            go_simp
            refine hK.out _ _ (AL4.out _) (fun hHeld => ?_)
            clear hK K
            try simp only [Act.put, List.getElem_toArray, List.getElem_cons_zero, List.getElem_cons_succ, List.setIfInBounds_toArray, List.set_cons_zero, List.set_cons_succ]
            refine wpAnyH_done (by kernel_rfl) ?_ _
            go_wp2_with fail
            go_roundw
            case rel => exact REL.out _
            case measure => exact MEA.out _
        · have hne : nn = goal rs[j] := by omega
          have CD := hid (fun W => digits_any j (by omega) W)
          clear hcu
          go_wp2_with fail
          refine (CD.out _).mono ?_
          rintro e w2 ⟨rfl, hx2⟩
          have HX2 := hid hx2
          have q0 := (hx2.kp (fun _ => True)).cell b0 trivial
          have q1 := (hx2.kp (fun _ => True)).cell l0 trivial
          have HCU := hid (hx2.block ((HG'.out.ok j hlt).1.2.2.2.2.2.choose_spec.1))
          have HCS := hid ((HG'.out.ok j hlt).1.2.2.2.2.2.choose_spec.2)
          have HG2 := hid (HG'.out.later hx2)
          have HK2 := hid (HK'.out.trans (hx2.kp _))
          clear hx2 CD b0 b1 l0 hbl hll0
          go_wp2_with fail
          go_loopw [6] (fun k wq => ∃ (kk : Nat) (cu : Array Value), kk ≤ nn ∧ k = .int .i64 kk ∧ Kp (· ≠ rs[j].1) w2 wq ∧ wq.heap[rs[j].1]? = some (.cells cu 9) ∧ cu.size = rs[j].2.2 ∧ ∀ k, k < kk → cu[k]? = some (.string (mkS j))) (fun k _ => nn - (intOf k).toNat)
          case atStart => exact ⟨0, _, Nat.zero_le _, rfl, Kp.refl _ _, HCU.out, HCS.out, fun k hk => absurd hk (Nat.not_lt_zero _)⟩
          case round =>
            obtain ⟨kk, cu2, hkk, rfl, hkq, hgq, hcu2, hcm⟩ := hrel
            have HKQ := hid hkq
            have HGQ := hid hgq
            have HCM := hid hcm
            have b0 := hkq.cell q0 (fun e => HG2.out.ne.2 _ hmj e.symm)
            have l0 := hkq.cell q1 (HG2.out.apartL _ hmj)
            clear hkq hgq hcm
            by_cases hkl : kk < nn
            · have hkl' : (kk : Int) < nn := by omega
              have c0 := cell_of (i := kk) HGQ.out (Array.getElem?_eq_getElem (by omega))
              have f0 := frozen_of (i := kk) HGQ.out
              go_wp2_with fail
              go_roundw
              case rel =>
                refine ⟨kk + 1, cu2.setIfInBounds kk (.string (mkS j)), hkl, by go_num, HKQ.out.trans (Kp.set _ _ _ _ (fun h => h rfl)), set_at HGQ.out kk _, by simpa using hcu2, fun k hk => ?_⟩
                by_cases e : kk = k
                · subst e; rw [Array.getElem?_setIfInBounds_self_of_lt (by omega)]
                · rw [Array.getElem?_setIfInBounds_ne e]; exact HCM.out k (by omega)
              case measure => simp [intOf]; omega
            · have hke : kk = nn := by omega
              go_wp2_with fail
              go_roundw
              case rel =>
                refine ⟨j + 1, f', hlt, by go_num, HG2.out.fill hlt HKQ.out cu2 HGQ.out hcu2 (fun k hk => HCM.out k (by have := HFN.out; omega)), fun i h h2 => ?_, fun i h h2 => HF2'.out i h (by omega), HK2.out.trans (HKQ.out.mono (fun q _ hq e => hq (.inr (.inr (List.mem_map.2 ⟨_, hmj, e.symm⟩)))))⟩
                by_cases e : i = j
                · subst e; rw [HFN.out, hne]
                · exact HF1'.out i h (by omega)
              case measure => simp [intOf]; omega
    · have hje : j = rs.length := by omega
      have HGO := hid (show ∀ i, (h : i < rs.length) → f i = goal rs[i] from fun i h => HF1.out i h (by omega))
      have HFU := hid (show ∀ i, (h : i < rs.length) → ∃ cur, wr.heap[rs[i].1]? = some (.cells cur 9) ∧ ∀ k, k < f i → cur[k]? = some (.string (mkS i)) from fun i h => hG.full i h (by omega))
      clear hG hje
      obtain ⟨V, hV⟩ : ∃ V, V = wr := ⟨wr, rfl⟩
      rw [← hV] at HG HFU HK
      go_wp2_with fail
      go_loopw [7] (fun i wq => ∃ j2 : Nat, j2 ≤ rs.length ∧ i = .int .i64 j2 ∧ Ext V wq) (fun i _ => rs.length - (intOf i).toNat)
      case atStart => exact ⟨0, Nat.zero_le _, rfl, hV ▸ Ext.refl _⟩
      case round =>
        clear hV
        obtain ⟨j2, hj2, rfl, hx⟩ := hrel
        have HX := hid hx
        clear hx b0 b1
        obtain ⟨b0, b1⟩ := two_of (HX.out.block HG.out.box)
        by_cases hlt2 : j2 < rs.length
        · have hlt2' : (j2 : Int) < rs.length := by omega
          have hmj : rs[j2] ∈ rs := List.getElem_mem hlt2
          have L0 := hid (HG.out.cells hlt2)
          rw [HGO.out j2 hlt2] at L0
          obtain ⟨cur, hc1, hc2⟩ := HFU.out j2 hlt2
          rw [HGO.out j2 hlt2] at hc2
          obtain ⟨⟨h1, h2, h3, h4, h5, _⟩, _, _⟩ := HG.out.ok j2 hlt2
          obtain ⟨g1, g2, g3⟩ := goal_le (r := rs[j2]) h3
          have hgl : goal rs[j2] ≤ 1071000 := by
            have := g3
            unfold roomI at this
            split at this <;> omega
          have HC := hid (And.intro hc1 hc2)
          have CD := hid (fun W => digits_any j2 (by omega) W)
          clear hc1 hc2 h1 h2 h4 g1 g2 g3
          go_wp2_with fail
          refine (CD.out _).mono ?_
          rintro e w2 ⟨rfl, hx2⟩
          have HX2 := hid (HX.out.trans hx2)
          clear hx2 CD b0 b1
          go_wp2_with fail
          go_loopw [9] (fun k wq => ∃ kk : Nat, kk ≤ goal rs[j2] ∧ k = .int .i64 kk ∧ wq = w2) (fun k _ => goal rs[j2] - (intOf k).toNat)
          case atStart => exact ⟨0, Nat.zero_le _, rfl, rfl⟩
          case round =>
            obtain ⟨kk, hkk, rfl, rfl⟩ := hrel
            have l0 := (HX2.out.kp (fun _ => True)).cell L0.out trivial
            obtain ⟨b0, b1⟩ := two_of (HX2.out.block HG.out.box)
            by_cases hkl : kk < goal rs[j2]
            · have hkl' : (kk : Int) < (goal rs[j2] : Int) := by omega
              have c0 := cell_of (HX2.out.block HC.out.1) (HC.out.2 kk hkl)
              unfold mkS at c0
              go_wp2_with fail
              go_roundw
              case rel => exact ⟨kk + 1, hkl, by go_num, trivial⟩
              case measure => simp [intOf]; omega
            · go_wp2_with fail
              go_roundw
              case rel => exact ⟨j2 + 1, hlt2, by go_num, HX2.out⟩
              case measure => simp [intOf]; omega
        · go_wp2_with fail
          go_ret
          exact ⟨rfl, HK.out.trans (HX.out.kp _)⟩
set_option maxRecDepth 100000 in
theorem lapart_nil (w : World) (b base : Nat) (lv : Value) (sz : Int) (h : LB w b base lv [] sz) : Calls Try.prog 31 #[.pointer (some ⟨b, 0, none⟩)] w fun e w' => e = .returned (.bool true) ∧ w' = w := by
  obtain ⟨lb, lc, rfl⟩ := ownsRow_slice h.rowL
  obtain ⟨b0, b1⟩ := two_of h.box
  simp only [List.length_nil] at b0
  clear h
  go_enter Try.func31, Try.ntmps31
  go_wp2_with fail
  go_loopw [3] (fun i wr => i = .int .i64 0 ∧ wr = w) (fun _ _ => 0)
  case atStart => exact ⟨rfl, rfl⟩
  case round =>
    obtain ⟨rfl, rfl⟩ := hrel
    go_wp2_with fail
    go_loopw [7] (fun i wq => i = .int .i64 0 ∧ wq = wr) (fun _ _ => 0)
    case atStart => exact ⟨rfl, rfl⟩
    case round =>
      obtain ⟨rfl, rfl⟩ := hrel
      go_wp2_with fail
      go_ret
      exact ⟨rfl, rfl⟩
theorem lapart_any (w : World) (b base : Nat) (lv : Value) (rs : List PR) (sz : Int) (h : LB w b base lv rs sz) (hrl : rs.length ≤ 100000) :
    Calls Try.prog 31 #[.pointer (some ⟨b, 0, none⟩)] w fun e w' => e = .returned (.bool true) ∧ Kp (fun q => ¬ LBk b lv rs q) w w' := by
  by_cases h0 : rs.length = 0
  · obtain rfl : rs = [] := List.eq_nil_of_length_eq_zero h0
    exact (lapart_nil w b base lv sz h).mono (fun e w' hh => ⟨hh.1, by rw [hh.2]; exact Kp.refl _ _⟩)
  · rcases h.rowL.2 with ⟨_, h1⟩ | ⟨lb, lc, cl, rfl, _⟩
    · exact absurd h1 h0
    · exact lapart_some w b base lb lc rs sz h hrl
end Go.Proofs.Ythdmoghooaccgaa
