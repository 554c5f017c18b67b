/-
  Room and Take of the statements' Paths, by contracts: a path more in the book, written over.
-/
import Derived.Test.YthdmoghooaccgaaRefAllF
import Derived.Test.YthdmoghooaccgaaPathAid
namespace Go.Proofs.Ythdmoghooaccgaa
open Go.RowKit
/-- How far a list is grown. -/
def roomI (n all : Int) : Int := if n + 70000 < all then n + 70000 else all
theorem room_any (n all : Int) (w : World) (hn : 0 ≤ n) (hn' : n ≤ 140737488355328) : Calls Try.prog 55 #[.int .i64 n, .int .i64 all] w fun e w' => e = .returned (.int .i64 (roomI n all)) ∧ w' = w := by
  unfold roomI
  by_cases h : n + 70000 < all
  · have h' : decide (n + 70000 < all) = true := decide_eq_true h
    rw [if_pos h]
    go_enter Try.func55, Try.ntmps55
    go_wp2_with fail
    go_ret
    exact ⟨rfl, rfl⟩
  · have h' : decide (n + 70000 < all) = false := decide_eq_false h
    rw [if_neg h]
    go_enter Try.func55, Try.ntmps55
    go_wp2_with fail
    go_ret
    exact ⟨rfl, rfl⟩
/-- A path of the book: its block, its length, its capacity. -/
abbrev PR := Nat × Nat × Nat
abbrev prV (r : PR) : Value := .slice (some ⟨r.1, 0, none⟩) r.2.1 r.2.2
/-- A path that is written full with a mark. -/
def Full (w : World) (base : Nat) (r : PR) (m : Int) : Prop :=
  base ≤ r.1 ∧ 0 < r.2.2 ∧ r.2.1 ≤ r.2.2 ∧ r.2.2 ≤ maxLen ∧ ∃ cur, w.heap[r.1]? = some (.cells cur 3) ∧ cur.size = r.2.2 ∧ (∀ k, k < r.2.2 → ∃ v : Value, cur[k]? = some v) ∧ ∀ k, k < r.2.1 → cur[k]? = some (.int .i64 m)
/-- The book: paths that were taken, each written full with its own mark, in blocks that are all unlike. -/
structure PBook (w : World) (b base : Nat) (lv nv : Value) (rs : List PR) (sz : Int) : Prop where
  box : w.heap[b]? = some (.cells #[lv, nv, .int .i64 sz, .slice none 0 0] 55)
  rowL : w.ownsRow base 27 1 lv rs.length (rs.map prV)
  rowN : w.ownsRow base 3 1 nv rs.length (rs.map (fun r => Value.int .i64 (r.2.1 : Int)))
  full : ∀ i, (h : i < rs.length) → Full w base rs[i] (-2 * ((i : Int) + 1))
  nodup : (rs.map (·.1)).Nodup
  apart : ∀ r ∈ rs, nv.ownBlock ≠ some r.1
/-- The book's blocks. -/
def Bk (b : Nat) (lv nv : Value) (rs : List PR) (q : Nat) : Prop := q = b ∨ lv.ownBlock = some q ∨ nv.ownBlock = some q ∨ q ∈ rs.map (·.1)
theorem Full.keep {K : Nat → Prop} {w w' : World} {base : Nat} {r : PR} {m : Int} (h : Full w base r m) (hk : Kp K w w') (hr : K r.1) : Full w' base r m := by
  obtain ⟨h1, h2, h3, h4, cur, h5, h6⟩ := h
  exact ⟨h1, h2, h3, h4, cur, hk.block' h5 hr, h6⟩
theorem PBook.keep {K : Nat → Prop} {w w' : World} {b base : Nat} {lv nv : Value} {rs : List PR} {sz : Int} (h : PBook w b base lv nv rs sz) (hk : Kp K w w') (hK : ∀ q, Bk b lv nv rs q → K q) : PBook w' b base lv nv rs sz where
  box := hk.block' h.box (hK b (.inl rfl))
  rowL := ownsRow_keep h.rowL hk (fun q hq => hK q (.inr (.inl hq)))
  rowN := ownsRow_keep h.rowN hk (fun q hq => hK q (.inr (.inr (.inl hq))))
  full := fun i hi => (h.full i hi).keep hk (hK _ (.inr (.inr (.inr (List.mem_map.2 ⟨_, List.getElem_mem hi, rfl⟩)))))
  nodup := h.nodup
  apart := h.apart
theorem PBook.lt {w : World} {b base : Nat} {lv nv : Value} {rs : List PR} {sz : Int} (h : PBook w b base lv nv rs sz) : ∀ q, Bk b lv nv rs q → q < w.heap.size := by
  intro q hq
  rcases hq with rfl | hq | hq | hq
  · exact lt_of_block h.box
  · obtain ⟨_, cur, hc⟩ := ownsRow_block h.rowL hq; exact lt_of_block hc
  · obtain ⟨_, cur, hc⟩ := ownsRow_block h.rowN hq; exact lt_of_block hc
  · obtain ⟨r, hr, rfl⟩ := List.mem_map.1 hq
    obtain ⟨i, hi, rfl⟩ := List.getElem_of_mem hr
    obtain ⟨_, _, _, _, cur, hc, _⟩ := h.full i hi
    exact lt_of_block hc
theorem PBook.ne {w : World} {b base : Nat} {lv nv : Value} {rs : List PR} {sz : Int} (h : PBook w b base lv nv rs sz) : (∀ q, lv.ownBlock = some q → q ≠ b) ∧ (∀ q, nv.ownBlock = some q → q ≠ b) ∧ (∀ q ∈ rs.map (·.1), q ≠ b) ∧ (∀ q, lv.ownBlock = some q → nv.ownBlock ≠ some q) ∧ (∀ q ∈ rs.map (·.1), lv.ownBlock ≠ some q) := by
  have ty : ∀ {q : Nat} {c c' : Array Value} {t t' : TypeId}, w.heap[q]? = some (.cells c t) → w.heap[q]? = some (.cells c' t') → t = t' := fun h1 h2 => by
    rw [h1] at h2; injection h2 with h2; injection h2
  have hb := h.box
  have full : ∀ q ∈ rs.map (·.1), ∃ cur, w.heap[q]? = some (.cells cur 3) := fun q hq => by
    obtain ⟨r, hr, rfl⟩ := List.mem_map.1 hq
    obtain ⟨i, hi, rfl⟩ := List.getElem_of_mem hr
    obtain ⟨_, _, _, _, cur, hc, _⟩ := h.full i hi
    exact ⟨cur, hc⟩
  refine ⟨fun q hq e => ?_, fun q hq e => ?_, fun q hq e => ?_, fun q hq e => ?_, fun q hq e => ?_⟩
  · subst e; obtain ⟨_, cur, hc⟩ := ownsRow_block h.rowL hq; have := ty hb hc; revert this; decide
  · subst e; obtain ⟨_, cur, hc⟩ := ownsRow_block h.rowN hq; have := ty hb hc; revert this; decide
  · subst e; obtain ⟨cur, hc⟩ := full q hq; have := ty hb hc; revert this; decide
  · obtain ⟨_, cur, hc⟩ := ownsRow_block h.rowL hq
    obtain ⟨_, cur', hc'⟩ := ownsRow_block h.rowN e
    have := ty hc hc'; revert this; decide
  · obtain ⟨cur, hc⟩ := full q hq
    obtain ⟨_, cur', hc'⟩ := ownsRow_block h.rowL e
    have := ty hc hc'; revert this; decide
theorem wrap_small (m : Int) (h : -100000 ≤ m) (h' : m ≤ 100000) : IntKind.i64.wrap m = m := by rw [IntKind.wrap_i64]; omega
/-- What Take leaves. -/
def TakeR (w : World) (b base : Nat) (lv nv : Value) (rs : List PR) (sz : Int) (g : Nat) (w' : World) : Prop :=
  ∃ lv' nv' rs' sz', PBook w' b base lv' nv' rs' sz' ∧ rs'.length ≤ rs.length + 1 ∧ 0 ≤ sz' ∧ sz' ≤ sz + 100000 ∧ (∀ r ∈ rs', r ∈ rs ∨ r.2.1 ≤ 1000) ∧ Kp (fun q => ¬ (Bk b lv nv rs q ∨ q = g)) w w' ∧ ∀ q, Bk b lv' nv' rs' q → Bk b lv nv rs q ∨ q = g ∨ w.heap.size ≤ q
theorem spInfo : (Try.prog.info? 27).map (fun i => (i.zero, i.size, i.bytes)) = some (some (.slice none 0 0), 1, 24) := by kernel_rfl
set_option maxRecDepth 100000 in
set_option maxHeartbeats 4000000 in
theorem take_any (w : World) (b base pb : Nat) (lv nv : Value) (rs : List PR) (sz : Int) (g len cap : Nat) (cur : Array Value) (h : PBook w b base lv nv rs sz) (hbs : base ≤ w.heap.size) (hpb : w.heap[pb]? = some (.cells #[.slice (some ⟨g, 0, none⟩) len cap] 27))
    (hg : w.heap[g]? = some (.cells cur 3)) (hgb : base ≤ g) (hlc : len ≤ cap) (hcm : cap ≤ maxLen) (hcs : cur.size = cap) (hci : ∀ k, k < cap → ∃ v : Value, cur[k]? = some v) (hll : len ≤ 1000) (hgn : ¬ Bk b lv nv rs g) (hpn : ¬ Bk b lv nv rs pb) (hrl : rs.length ≤ 5000) (hsz : 0 ≤ sz) (hsz' : sz ≤ 4000000000000) :
    Calls Try.prog 25 #[.pointer (some ⟨b, 0, none⟩), .slice (some ⟨pb, 0, none⟩) 1 1] w fun e w' => (∃ v, e = .returned v) ∧ TakeR w b base lv nv rs sz g w' := by
  obtain ⟨lb, lc, rfl⟩ := ownsRow_slice h.rowL
  obtain ⟨nb, nc, rfl⟩ := ownsRow_slice h.rowN
  have H := hid h
  have HG := hid hg
  have HCI := hid hci
  have HGN := hid hgn
  have HPN := hid hpn
  have hb0 := four_of h.box
  obtain ⟨b0, b1, b2, b3⟩ := hb0
  have p0 := cell_of (i := 0) hpb rfl
  simp only [List.getElem_toArray, List.getElem_cons_zero] at p0
  have HPB := hid hpb
  clear h hg hci hgn hpn hpb
  obtain ⟨rm, hrm⟩ : ∃ rm, roomI len cap = rm := ⟨_, rfl⟩
  have hr0 : 0 ≤ rm ∧ rm ≤ 71000 := by rw [← hrm]; unfold roomI; split <;> omega
  have CR := hid (fun W => room_any len cap W (by omega) (by omega))
  rw [hrm] at CR
  clear hrm
  go_enter Try.func25, Try.ntmps25
  go_wp2_with fail
  go_loopw [4] (fun i wr => (i = .int .i64 0 ∧ wr = w) ∨ (i = .int .i64 1 ∧ TakeR w b base (.slice lb rs.length lc) (.slice nb rs.length nc) rs sz g wr)) (fun i _ => 1 - (intOf i).toNat)
  case atStart => exact .inl ⟨rfl, rfl⟩
  case round =>
    rcases hrel with ⟨rfl, rfl⟩ | ⟨rfl, hfin⟩
    · go_wp2_with fail
      have f2 := frozen_of (i := 2) H.out.box
      have hpbb : pb ≠ b := fun e => HPN.out (.inl e)
      have hw1 : IntKind.i64.wrap (sz + 4) = sz + 4 := by rw [IntKind.wrap_i64]; omega
      have hw2 : IntKind.i64.wrap (sz + 4 + rm) = sz + 4 + rm := by rw [IntKind.wrap_i64]; omega
      have SETS := hid (show Kp (· ≠ b) wr (wr.setCell ⟨b, 2, none⟩ (.int .i64 (sz + 4 + rm))).drew ∧ (wr.setCell ⟨b, 2, none⟩ (.int .i64 (sz + 4 + rm))).drew.heap[b]? = some (.cells #[.slice lb rs.length lc, .slice nb rs.length nc, .int .i64 (sz + 4 + rm), .slice none 0 0] 55) from ⟨(Kp.set _ _ _ _ (fun h => h rfl)).drew, set_at H.out.box 2 _⟩)
      have PKS := hid (show (wr.setCell ⟨b, 2, none⟩ (.int .i64 (sz + 4 + rm))).drew.cell? ⟨pb, 0, none⟩ = some (.slice (some ⟨g, 0, none⟩) len cap) from SETS.out.1.cell p0 hpbb)
      go_cut [] from 6 to 92 (fun wx => Kp (· ≠ b) wr wx ∧ wx.heap[b]? = some (.cells #[.slice lb rs.length lc, .slice nb rs.length nc, .int .i64 (sz + 4 + rm), .slice none 0 0] 55))
      case first =>
        have hset := SETS.out
        have hpk := PKS.out
        refine wp_region_held_drew (S := fun W' => W'.cell? ⟨pb, 0, none⟩ = some (.slice (some ⟨g, 0, none⟩) len cap)) (by kernel_rfl) (p0) (fun hHeld => ?_)
        refine wpAnyH_take (i := 0) (v := ?vax1) rfl (by kernel_rfl) (by kernel_rfl) (by kernel_rfl) (fun _ _ _ h => h) (Or.inl ⟨by kernel_rfl, ?hax1⟩) (by assumption) ?rax1
        case hax1 => (intro w hSw; (try dsimp only at hSw); go_simp; try with_reducible rfl)
        try simp only [Act.put, List.getElem_toArray, List.getElem_cons_zero, List.setIfInBounds_toArray, List.set_cons_zero, List.set_cons_succ]
        refine wpAnyH_take (i := 1) (v := ?vax2) rfl (by kernel_rfl) (by kernel_rfl) (by kernel_rfl) (fun _ _ _ h => h) (Or.inl ⟨by kernel_rfl, ?hax2⟩) (by assumption) ?rax2
        case hax2 => (intro w hSw; (try dsimp only at hSw); go_simp; try with_reducible rfl)
        try simp only [Act.put, List.getElem_toArray, List.getElem_cons_zero, List.getElem_cons_succ, List.setIfInBounds_toArray, List.set_cons_zero, List.set_cons_succ]
        refine wpAnyH_take (i := 2) (v := ?vax3) rfl (by kernel_rfl) (by kernel_rfl) (by kernel_rfl) (fun _ _ _ h => h) (Or.inl ⟨by kernel_rfl, ?hax3⟩) (by assumption) ?rax3
        case hax3 => (intro w hSw; (try dsimp only at hSw); go_simp; try with_reducible rfl)
        try simp only [Act.put, List.getElem_toArray, List.getElem_cons_zero, List.getElem_cons_succ, List.setIfInBounds_toArray, List.set_cons_zero, List.set_cons_succ]
        refine wpAnyH_take (i := 3) (v := ?vax4) rfl (by kernel_rfl) (by kernel_rfl) (by kernel_rfl) (fun _ _ _ h => h) (Or.inl ⟨by kernel_rfl, ?hax4⟩) (by assumption) ?rax4
        case hax4 => (intro w hSw; (try dsimp only at hSw); go_simp; try with_reducible rfl)
        try simp only [Act.put, List.getElem_toArray, List.getElem_cons_zero, List.getElem_cons_succ, List.setIfInBounds_toArray, List.set_cons_zero, List.set_cons_succ]
        refine wpAnyH_take (i := 6) (v := ?vax5) rfl (by kernel_rfl) (by kernel_rfl) (by kernel_rfl) (fun _ _ _ h => h) (Or.inl ⟨by kernel_rfl, ?hax5⟩) (by assumption) ?rax5
        case hax5 => (intro w hSw; (try dsimp only at hSw); go_simp; try with_reducible rfl)
        try simp only [Act.put, List.getElem_toArray, List.getElem_cons_zero, List.getElem_cons_succ, List.setIfInBounds_toArray, List.set_cons_zero, List.set_cons_succ]
        refine wpAnyH_take (i := 7) (v := ?vax6) rfl (by kernel_rfl) (by kernel_rfl) (by kernel_rfl) (fun _ _ _ h => h) (Or.inl ⟨by kernel_rfl, ?hax6⟩) (by assumption) ?rax6
        case hax6 => (intro w hSw; (try dsimp only at hSw); go_simp; try with_reducible rfl)
        try simp only [Act.put, List.getElem_toArray, List.getElem_cons_zero, List.getElem_cons_succ, List.setIfInBounds_toArray, List.set_cons_zero, List.set_cons_succ]
        refine wpAnyH_take (i := 8) (v := ?vax7) rfl (by kernel_rfl) (by kernel_rfl) (by kernel_rfl) (fun _ _ _ h => h) (Or.inl ⟨by kernel_rfl, ?hax7⟩) (by assumption) ?rax7
        case hax7 => (intro w hSw; (try dsimp only at hSw); go_simp; try with_reducible rfl)
        try simp only [Act.put, List.getElem_toArray, List.getElem_cons_zero, List.getElem_cons_succ, List.setIfInBounds_toArray, List.set_cons_zero, List.set_cons_succ]
        refine wpAnyH_take (i := 9) (v := ?vax8) rfl (by kernel_rfl) (by kernel_rfl) (by kernel_rfl) (fun _ _ _ h => h) (Or.inl ⟨by kernel_rfl, ?hax8⟩) (by assumption) ?rax8
        case hax8 => (intro w hSw; (try dsimp only at hSw); go_simp; try with_reducible rfl)
        try simp only [Act.put, List.getElem_toArray, List.getElem_cons_zero, List.getElem_cons_succ, List.setIfInBounds_toArray, List.set_cons_zero, List.set_cons_succ]
        refine wpAnyH_take (i := 10) (v := ?vax9) rfl (by kernel_rfl) (by kernel_rfl) (by kernel_rfl) (fun _ _ _ h => h) (Or.inl ⟨by kernel_rfl, ?hax9⟩) (by assumption) ?rax9
        case hax9 => (intro w hSw; (try dsimp only at hSw); go_simp; try with_reducible rfl)
        try simp only [Act.put, List.getElem_toArray, List.getElem_cons_zero, List.getElem_cons_succ, List.setIfInBounds_toArray, List.set_cons_zero, List.set_cons_succ]
        refine wpAnyH_take (i := 11) (v := ?vax10) rfl (by kernel_rfl) (by kernel_rfl) (by kernel_rfl) (fun _ _ _ h => h) (Or.inl ⟨by kernel_rfl, ?hax10⟩) (by assumption) ?rax10
        case hax10 => (intro w hSw; (try dsimp only at hSw); go_simp; try with_reducible rfl)
        try simp only [Act.put, List.getElem_toArray, List.getElem_cons_zero, List.getElem_cons_succ, List.setIfInBounds_toArray, List.set_cons_zero, List.set_cons_succ]
        refine wpAnyH_take (i := 12) (v := ?vax11) rfl (by kernel_rfl) (by kernel_rfl) (by kernel_rfl) (fun _ _ _ h => h) (Or.inl ⟨by kernel_rfl, ?hax11⟩) (by assumption) ?rax11
        case hax11 => (intro w hSw; (try dsimp only at hSw); go_simp; try with_reducible rfl)
        try simp only [Act.put, List.getElem_toArray, List.getElem_cons_zero, List.getElem_cons_succ, List.setIfInBounds_toArray, List.set_cons_zero, List.set_cons_succ]
        refine wpAnyH_take (i := 13) (v := ?vax12) rfl (by kernel_rfl) (by kernel_rfl) (by kernel_rfl) (fun _ _ _ h => h) (Or.inl ⟨by kernel_rfl, ?hax12⟩) (by assumption) ?rax12
        case hax12 => (intro w hSw; (try dsimp only at hSw); go_simp; try with_reducible rfl)
        try simp only [Act.put, List.getElem_toArray, List.getElem_cons_zero, List.getElem_cons_succ, List.setIfInBounds_toArray, List.set_cons_zero, List.set_cons_succ]
        refine wpAnyH_take (i := 14) (v := ?vax13) rfl (by kernel_rfl) (by kernel_rfl) (by kernel_rfl) (fun _ _ _ h => h) (Or.inl ⟨by kernel_rfl, ?hax13⟩) (by assumption) ?rax13
        case hax13 => (intro w hSw; (try dsimp only at hSw); go_simp; try with_reducible rfl)
        try simp only [Act.put, List.getElem_toArray, List.getElem_cons_zero, List.getElem_cons_succ, List.setIfInBounds_toArray, List.set_cons_zero, List.set_cons_succ]
        refine wpAnyH_take (i := 15) (v := ?vax14) rfl (by kernel_rfl) (by kernel_rfl) (by kernel_rfl) (fun _ _ _ h => h) (Or.inl ⟨by kernel_rfl, ?hax14⟩) (by assumption) ?rax14
        case hax14 => (intro w hSw; (try dsimp only at hSw); go_simp; try with_reducible rfl)
        try simp only [Act.put, List.getElem_toArray, List.getElem_cons_zero, List.getElem_cons_succ, List.setIfInBounds_toArray, List.set_cons_zero, List.set_cons_succ]
        refine wpAnyH_ready (rs := [4, 16]) (by kernel_rfl) (by simp) ?_
        refine AllReadyH.cons rfl (fun K hK => ?_) (AllReadyH.cons rfl (fun K hK => ?_) AllReadyH.nil)
        · go_simp
          refine hK.out _ _ (p0) (fun hHeld => ?_)
          clear hK K
          try simp only [Act.put, List.getElem_toArray, List.getElem_cons_zero, List.getElem_cons_succ, List.setIfInBounds_toArray, List.set_cons_zero, List.set_cons_succ]
          refine wpAnyH_take (i := 5) (v := .int .i64 (sz + 4)) rfl (by kernel_rfl) (by kernel_rfl) (by kernel_rfl) (fun _ _ _ h => h) (Or.inl ⟨by kernel_rfl, ?hbx1⟩) (by assumption) ?rbx1
          case hbx1 => (intro w hSw; (try dsimp only at hSw); go_simp; try with_reducible rfl)
          try simp only [Act.put, List.getElem_toArray, List.getElem_cons_zero, List.getElem_cons_succ, List.setIfInBounds_toArray, List.set_cons_zero, List.set_cons_succ]
          refine wpAnyH_ready (rs := [16]) (by kernel_rfl) (by simp) ?_
          refine AllReadyH.cons rfl (fun K hK => ?_) AllReadyH.nil
          go_simp
          refine (CR.out _).mono ?_
          rintro e w1 ⟨rfl, rfl⟩
          show K _ _
          refine hK.out _ _ (p0) (fun hHeld => ?_)
          clear hK K
          try simp only [Act.put, List.getElem_toArray, List.getElem_cons_zero, List.getElem_cons_succ, List.setIfInBounds_toArray, List.set_cons_zero, List.set_cons_succ]
          refine wpAnyH_take (i := 17) (v := .int .i64 (sz + 4 + rm)) rfl (by kernel_rfl) (by kernel_rfl) (by kernel_rfl) (fun _ _ _ h => h) (Or.inl ⟨by kernel_rfl, ?hbx2⟩) (by assumption) ?rbx2
          case hbx2 => (intro w hSw; (try dsimp only at hSw); go_simp; try with_reducible rfl)
          try simp only [Act.put, List.getElem_toArray, List.getElem_cons_zero, List.getElem_cons_succ, List.setIfInBounds_toArray, List.set_cons_zero, List.set_cons_succ]
          refine wpAnyH_take (i := 18) (v := ?vbx3) rfl (by kernel_rfl) (by kernel_rfl) (by kernel_rfl) (fun _ _ _ h => h) (Or.inl ⟨by kernel_rfl, ?hbx3⟩) (by assumption) ?rbx3
          case hbx3 => (intro w hSw; (try dsimp only at hSw); go_simp; try with_reducible rfl)
          try simp only [Act.put, List.getElem_toArray, List.getElem_cons_zero, List.getElem_cons_succ, List.setIfInBounds_toArray, List.set_cons_zero, List.set_cons_succ]
          refine wpAnyH_take (i := 19) (v := ?vbx4) rfl (by kernel_rfl) (by kernel_rfl) (by kernel_rfl) (fun _ _ _ h => h) (Or.inl ⟨by kernel_rfl, ?hbx4⟩) (by assumption) ?rbx4
          case hbx4 => (intro w hSw; (try dsimp only at hSw); go_simp; try with_reducible rfl)
          try simp only [Act.put, List.getElem_toArray, List.getElem_cons_zero, List.getElem_cons_succ, List.setIfInBounds_toArray, List.set_cons_zero, List.set_cons_succ]
          refine wpAnyH_ready (rs := [20]) (by kernel_rfl) (by simp) ?_
          refine AllReadyH.cons rfl (fun K hK => ?_) AllReadyH.nil
          go_simp
          refine hK.out _ _ (hpk) (fun hHeld => ?_)
          clear hK K
          try simp only [Act.put, List.getElem_toArray, List.getElem_cons_zero, List.getElem_cons_succ, List.setIfInBounds_toArray, List.set_cons_zero, List.set_cons_succ]
          refine wpAnyH_done (by kernel_rfl) ?_ _
          go_wp2_with fail
          go_meet
          case rel => exact hset
        · go_simp
          refine (CR.out _).mono ?_
          rintro e w1 ⟨rfl, rfl⟩
          show K _ _
          refine hK.out _ _ (p0) (fun hHeld => ?_)
          clear hK K
          try simp only [Act.put, List.getElem_toArray, List.getElem_cons_zero, List.getElem_cons_succ, List.setIfInBounds_toArray, List.set_cons_zero, List.set_cons_succ]
          refine wpAnyH_ready (rs := [4]) (by kernel_rfl) (by simp) ?_
          refine AllReadyH.cons rfl (fun K hK => ?_) AllReadyH.nil
          go_simp
          refine hK.out _ _ (p0) (fun hHeld => ?_)
          clear hK K
          try simp only [Act.put, List.getElem_toArray, List.getElem_cons_zero, List.getElem_cons_succ, List.setIfInBounds_toArray, List.set_cons_zero, List.set_cons_succ]
          refine wpAnyH_take (i := 5) (v := .int .i64 (sz + 4)) rfl (by kernel_rfl) (by kernel_rfl) (by kernel_rfl) (fun _ _ _ h => h) (Or.inl ⟨by kernel_rfl, ?hcx1⟩) (by assumption) ?rcx1
          case hcx1 => (intro w hSw; (try dsimp only at hSw); go_simp; try with_reducible rfl)
          try simp only [Act.put, List.getElem_toArray, List.getElem_cons_zero, List.getElem_cons_succ, List.setIfInBounds_toArray, List.set_cons_zero, List.set_cons_succ]
          refine wpAnyH_take (i := 17) (v := .int .i64 (sz + 4 + rm)) rfl (by kernel_rfl) (by kernel_rfl) (by kernel_rfl) (fun _ _ _ h => h) (Or.inl ⟨by kernel_rfl, ?hcx2⟩) (by assumption) ?rcx2
          case hcx2 => (intro w hSw; (try dsimp only at hSw); go_simp; try with_reducible rfl)
          try simp only [Act.put, List.getElem_toArray, List.getElem_cons_zero, List.getElem_cons_succ, List.setIfInBounds_toArray, List.set_cons_zero, List.set_cons_succ]
          refine wpAnyH_take (i := 18) (v := ?vcx3) rfl (by kernel_rfl) (by kernel_rfl) (by kernel_rfl) (fun _ _ _ h => h) (Or.inl ⟨by kernel_rfl, ?hcx3⟩) (by assumption) ?rcx3
          case hcx3 => (intro w hSw; (try dsimp only at hSw); go_simp; try with_reducible rfl)
          try simp only [Act.put, List.getElem_toArray, List.getElem_cons_zero, List.getElem_cons_succ, List.setIfInBounds_toArray, List.set_cons_zero, List.set_cons_succ]
          refine wpAnyH_take (i := 19) (v := ?vcx4) rfl (by kernel_rfl) (by kernel_rfl) (by kernel_rfl) (fun _ _ _ h => h) (Or.inl ⟨by kernel_rfl, ?hcx4⟩) (by assumption) ?rcx4
          case hcx4 => (intro w hSw; (try dsimp only at hSw); go_simp; try with_reducible rfl)
          try simp only [Act.put, List.getElem_toArray, List.getElem_cons_zero, List.getElem_cons_succ, List.setIfInBounds_toArray, List.set_cons_zero, List.set_cons_succ]
          refine wpAnyH_ready (rs := [20]) (by kernel_rfl) (by simp) ?_
          refine AllReadyH.cons rfl (fun K hK => ?_) AllReadyH.nil
          go_simp
          refine hK.out _ _ (hpk) (fun hHeld => ?_)
          clear hK K
          try simp only [Act.put, List.getElem_toArray, List.getElem_cons_zero, List.getElem_cons_succ, List.setIfInBounds_toArray, List.set_cons_zero, List.set_cons_succ]
          refine wpAnyH_done (by kernel_rfl) ?_ _
          go_wp2_with fail
          go_meet
          case rel => exact hset
      case rest =>
      obtain ⟨hk1, hb1⟩ := hcut
      obtain ⟨V1, rfl⟩ : ∃ V1, V1 = wc := ⟨wc, rfl⟩
      have HNE := hid H.out.ne
      have HP1 := hid (show PBook V1 b base (.slice lb rs.length lc) (.slice nb rs.length nc) rs (sz + 4 + rm) from
        ⟨hb1, ownsRow_keep H.out.rowL hk1 (fun q hq => HNE.out.1 q hq), ownsRow_keep H.out.rowN hk1 (fun q hq => HNE.out.2.1 q hq), fun i hi => (H.out.full i hi).keep hk1 (HNE.out.2.2.1 _ (List.mem_map.2 ⟨_, List.getElem_mem hi, rfl⟩)), H.out.nodup, H.out.apart⟩)
      have HK1 := hid hk1
      have hs1 := hk1.size
      have HPB1 := hid (hk1.block' HPB.out hpbb)
      have hgb' : g ≠ b := fun e => HGN.out (.inl e)
      have HG1 := hid (hk1.block' HG.out hgb')
      have HR0 := hid (show TakeR wr b base (.slice lb rs.length lc) (.slice nb rs.length nc) rs sz g V1 from ⟨_, _, _, _, HP1.out, Nat.le_succ _, by omega, by omega, fun r hr => .inl hr, hk1.mono (fun q _ hq e => hq (.inl (.inl e))), fun q hq => .inl hq⟩)
      clear hk1 hb1 SETS PKS b0 b1 b2 b3 f2
      obtain ⟨b0, b1, b2, b3⟩ := four_of HP1.out.box
      have q0 := cell_of (i := 0) HPB1.out rfl
      simp only [List.getElem_toArray, List.getElem_cons_zero] at q0
      by_cases hc0 : cap = 0
      · have hc0' : ((cap : Int) == 0) = true := by rw [hc0]; rfl
        go_wp2_with fail
        go_roundw
        case rel => exact .inr ⟨by go_num, HR0.out⟩
        case measure => simp [intOf]
      have hc0' : ((cap : Int) == 0) = false := by rw [beq_eq_false_iff_ne]; omega
      by_cases hs2 : 2097152 < sz + 4 + rm
      · have hs2' : decide (2097152 < sz + 4 + rm) = true := decide_eq_true hs2
        go_wp2_with fail
        go_roundw
        case rel => exact .inr ⟨by go_num, HR0.out⟩
        case measure => simp [intOf]
      have hs2' : decide (2097152 < sz + 4 + rm) = false := decide_eq_false hs2
      have f0 := frozen_of (i := 0) HP1.out.box
      have hbl := lt_of_block HP1.out.box
      have hpl := lt_of_block HPB1.out
      obtain ⟨i0, hi0, hz0, hz1, hz2⟩ := info_parts spInfo
      have HK5 := hid (show ∀ (w9 : World) (o : Obj), (V1.alloc o).drew.grownBy w9 (Value.slice lb rs.length lc).ownBlock → Kp (fun q => some q ≠ (Value.slice lb rs.length lc).ownBlock) V1 w9 from fun w9 o hg => ((Ext.alloc V1 o).drew.kp _).trans ⟨hg.os, hg.tape, hg.output, hg.size, fun q hq hne => hg.block q hq hne⟩)
      go_upto_region 5 with fail
      go_cut [] from 6 to 92 (fun wx => ∃ lb2 lc2, wx.heap[b]? = some (.cells #[.slice lb2 (rs.length + 1) lc2, .slice nb rs.length nc, .int .i64 (sz + 4 + rm), .slice none 0 0] 55) ∧ wx.ownsRow base 27 1 (.slice lb2 (rs.length + 1) lc2) (rs.length + 1) (rs.map prV ++ [.slice (some ⟨g, 0, none⟩) len cap]) ∧ Kp (fun q => q ≠ b ∧ (Value.slice lb rs.length lc).ownBlock ≠ some q) V1 wx ∧ ((Value.slice lb2 (rs.length + 1) lc2).ownBlock = (Value.slice lb rs.length lc).ownBlock ∨ ∃ q, (Value.slice lb2 (rs.length + 1) lc2).ownBlock = some q ∧ V1.heap.size ≤ q))
      case first =>
        refine wp_region_held_drew (S := fun W' => W'.cell? ⟨pb, 0, none⟩ = some (.slice (some ⟨g, 0, none⟩) len cap)) (by kernel_rfl) (q0) (fun hHeld => ?_)
        refine wpAnyH_take (i := 0) (v := ?vdx1) rfl (by kernel_rfl) (by kernel_rfl) (by kernel_rfl) (fun _ _ _ h => h) (Or.inl ⟨by kernel_rfl, ?hdx1⟩) (by assumption) ?rdx1
        case hdx1 => (intro w hSw; (try dsimp only at hSw); go_simp; try with_reducible rfl)
        try simp only [Act.put, List.getElem_toArray, List.getElem_cons_zero, List.setIfInBounds_toArray, List.set_cons_zero, List.set_cons_succ]
        refine wpAnyH_take (i := 1) (v := ?vdx2) rfl (by kernel_rfl) (by kernel_rfl) (by kernel_rfl) (fun _ _ _ h => h) (Or.inl ⟨by kernel_rfl, ?hdx2⟩) (by assumption) ?rdx2
        case hdx2 => (intro w hSw; (try dsimp only at hSw); go_simp; try with_reducible rfl)
        try simp only [Act.put, List.getElem_toArray, List.getElem_cons_zero, List.getElem_cons_succ, List.setIfInBounds_toArray, List.set_cons_zero, List.set_cons_succ]
        refine wpAnyH_take (i := 2) (v := ?vdx3) rfl (by kernel_rfl) (by kernel_rfl) (by kernel_rfl) (fun _ _ _ h => h) (Or.inl ⟨by kernel_rfl, ?hdx3⟩) (by assumption) ?rdx3
        case hdx3 => (intro w hSw; (try dsimp only at hSw); go_simp; try with_reducible rfl)
        try simp only [Act.put, List.getElem_toArray, List.getElem_cons_zero, List.getElem_cons_succ, List.setIfInBounds_toArray, List.set_cons_zero, List.set_cons_succ]
        refine wpAnyH_take (i := 3) (v := ?vdx4) rfl (by kernel_rfl) (by kernel_rfl) (by kernel_rfl) (fun _ _ _ h => h) (Or.inl ⟨by kernel_rfl, ?hdx4⟩) (by assumption) ?rdx4
        case hdx4 => (intro w hSw; (try dsimp only at hSw); go_simp; try with_reducible rfl)
        try simp only [Act.put, List.getElem_toArray, List.getElem_cons_zero, List.getElem_cons_succ, List.setIfInBounds_toArray, List.set_cons_zero, List.set_cons_succ]
        refine wpAnyH_take (i := 5) (v := ?vdx5) rfl (by kernel_rfl) (by kernel_rfl) (by kernel_rfl) (fun _ _ _ h => h) (Or.inl ⟨by kernel_rfl, ?hdx5⟩) (by assumption) ?rdx5
        case hdx5 => (intro w hSw; (try dsimp only at hSw); go_simp; try with_reducible rfl)
        try simp only [Act.put, List.getElem_toArray, List.getElem_cons_zero, List.getElem_cons_succ, List.setIfInBounds_toArray, List.set_cons_zero, List.set_cons_succ]
        refine wpAnyH_take (i := 6) (v := ?vdx6) rfl (by kernel_rfl) (by kernel_rfl) (by kernel_rfl) (fun _ _ _ h => h) (Or.inl ⟨by kernel_rfl, ?hdx6⟩) (by assumption) ?rdx6
        case hdx6 => (intro w hSw; (try dsimp only at hSw); go_simp; try with_reducible rfl)
        try simp only [Act.put, List.getElem_toArray, List.getElem_cons_zero, List.getElem_cons_succ, List.setIfInBounds_toArray, List.set_cons_zero, List.set_cons_succ]
        refine wpAnyH_take (i := 7) (v := ?vdx7) rfl (by kernel_rfl) (by kernel_rfl) (by kernel_rfl) (fun _ _ _ h => h) (Or.inl ⟨by kernel_rfl, ?hdx7⟩) (by assumption) ?rdx7
        case hdx7 => (intro w hSw; (try dsimp only at hSw); go_simp; try with_reducible rfl)
        try simp only [Act.put, List.getElem_toArray, List.getElem_cons_zero, List.getElem_cons_succ, List.setIfInBounds_toArray, List.set_cons_zero, List.set_cons_succ]
        refine wpAnyH_take (i := 8) (v := ?vdx8) rfl (by kernel_rfl) (by kernel_rfl) (by kernel_rfl) (fun _ _ _ h => h) (Or.inl ⟨by kernel_rfl, ?hdx8⟩) (by assumption) ?rdx8
        case hdx8 => (intro w hSw; (try dsimp only at hSw); go_simp; try with_reducible rfl)
        try simp only [Act.put, List.getElem_toArray, List.getElem_cons_zero, List.getElem_cons_succ, List.setIfInBounds_toArray, List.set_cons_zero, List.set_cons_succ]
        refine wpAnyH_ready (rs := [4, 9]) (by kernel_rfl) (by simp) ?_
        refine AllReadyH.cons rfl (fun K hK => ?_) (AllReadyH.cons rfl (fun K hK => ?_) AllReadyH.nil)
        · go_simp
          refine hK.out _ _ (q0) (fun hHeld => ?_)
          clear hK K
          try simp only [Act.put, List.getElem_toArray, List.getElem_cons_zero, List.getElem_cons_succ, List.setIfInBounds_toArray, List.set_cons_zero, List.set_cons_succ]
          refine wpAnyH_ready (rs := [9]) (by kernel_rfl) (by simp) ?_
          refine AllReadyH.cons rfl (fun K hK => ?_) AllReadyH.nil
          go_simp
          refine hK.out _ _ (cell_of (i := 0) (blkOld _ HPB1.out) rfl) (fun hHeld => ?_)
          clear hK K
          try simp only [Act.put, List.getElem_toArray, List.getElem_cons_zero, List.getElem_cons_succ, List.setIfInBounds_toArray, List.set_cons_zero, List.set_cons_succ]
          refine wpAnyH_ready (rs := [10]) (by kernel_rfl) (by simp) ?_
          refine AllReadyH.cons rfl (fun K hK => ?_) AllReadyH.nil
          refine step_append_own _ (by rfl) _ _ 41 (by rfl) base 27 i0 (.slice none 0 0) 1 24 Try.underlying41 hi0 hz0 hz1 hz2 rfl (by decide) _ rs.length (rs.map prV) (by rfl) (ownsRow_keep HP1.out.rowL ((show Ext V1 _ from (by repeat (first | with_reducible exact Ext.refl _ | with_reducible refine Ext.drew ?_ | with_reducible refine Ext.more ?_ _))).kp (fun _ => True)) (fun _ _ => trivial)) ⟨V1.heap.size, 0, none⟩ 1 1 [.slice (some ⟨g, 0, none⟩) len cap] (by rfl) rfl (fun e u he => by match e, he with | 0, he => cases he; exact cell_of (i := 0) (blk0 V1 _) rfl) (by simp [Value.oneCell']) (by unfold maxLen; omega) (by omega) (Nat.le_trans (Nat.le_trans hbs hs1) (show Ext V1 _ from (by repeat (first | with_reducible exact Ext.refl _ | with_reducible refine Ext.drew ?_ | with_reducible refine Ext.more ?_ _))).size) ?_
          intro v9 w9 hown9 hgrow9 hat9
          obtain ⟨lb2, lc2, rfl⟩ := ownsRow_slice hown9
          have K9 := HK5.out w9 _ hgrow9
          have hb9 := K9.block' HP1.out.box (fun e => HNE.out.1 b e.symm rfl)
          have y0 := cell_of (i := 0) hb9 rfl
          have y1 := frozen_of (i := 0) hb9
          simp only [List.getElem_toArray, List.getElem_cons_zero] at y0
          show K _ _
          refine hK.out _ _ (K9.cell q0 (fun e => HPN.out (.inr (.inl e.symm)))) (fun hHeld => ?_)
          clear hK K
          try simp only [Act.put, List.getElem_toArray, List.getElem_cons_zero, List.getElem_cons_succ, List.setIfInBounds_toArray, List.set_cons_zero, List.set_cons_succ]
          refine wpAnyH_take (i := 11) (v := ?vex1) rfl (by kernel_rfl) (by kernel_rfl) (by kernel_rfl) (fun _ _ _ h => h) (Or.inl ⟨by kernel_rfl, ?hex1⟩) (by assumption) ?rex1
          case hex1 => (intro w hSw; (try dsimp only at hSw); go_simp; try with_reducible rfl)
          try simp only [Act.put, List.getElem_toArray, List.getElem_cons_zero, List.getElem_cons_succ, List.setIfInBounds_toArray, List.set_cons_zero, List.set_cons_succ]
          refine wpAnyH_take (i := 12) (v := ?vex2) rfl (by kernel_rfl) (by kernel_rfl) (by kernel_rfl) (fun _ _ _ h => h) (Or.inl ⟨by kernel_rfl, ?hex2⟩) (by assumption) ?rex2
          case hex2 => (intro w hSw; (try dsimp only at hSw); go_simp; try with_reducible rfl)
          try simp only [Act.put, List.getElem_toArray, List.getElem_cons_zero, List.getElem_cons_succ, List.setIfInBounds_toArray, List.set_cons_zero, List.set_cons_succ]
          refine wpAnyH_ready (rs := [13]) (by kernel_rfl) (by simp) ?_
          refine AllReadyH.cons rfl (fun K hK => ?_) AllReadyH.nil
          go_simp
          refine hK.out _ _ ((Kp.set (K := (· ≠ b)) w9 b 0 _ (fun h => h rfl)).cell (K9.cell q0 (fun e => HPN.out (.inr (.inl e.symm)))) hpbb) (fun hHeld => ?_)
          clear hK K
          try simp only [Act.put, List.getElem_toArray, List.getElem_cons_zero, List.getElem_cons_succ, List.setIfInBounds_toArray, List.set_cons_zero, List.set_cons_succ]
          refine wpAnyH_done (by kernel_rfl) ?_ _
          go_wp2_with fail
          go_meet
          case rel =>
            have k0 := Kp.set (K := (· ≠ b)) w9 b 0 (.slice lb2 (rs.length + 1) lc2) (fun h => h rfl)
            refine ⟨lb2, lc2, set_at hb9 0 _, ownsRow_keep hown9 k0 (fun q hq e => ?_), (K9.mono (fun q _ hq e => hq.2 e.symm)).trans (k0.mono (fun q _ hq => hq.1)), hat9.imp id (fun h => ⟨_, h, by simp⟩)⟩
            rcases hat9 with h | h
            · rw [h] at hq; exact HNE.out.1 q hq e
            · rw [h] at hq; cases hq; have e' : _ = b := e; simp at e'; omega
        · go_simp
          refine hK.out _ _ (cell_of (i := 0) (blkOld _ HPB1.out) rfl) (fun hHeld => ?_)
          clear hK K
          try simp only [Act.put, List.getElem_toArray, List.getElem_cons_zero, List.getElem_cons_succ, List.setIfInBounds_toArray, List.set_cons_zero, List.set_cons_succ]
          refine wpAnyH_ready (rs := [4]) (by kernel_rfl) (by simp) ?_
          refine AllReadyH.cons rfl (fun K hK => ?_) AllReadyH.nil
          go_simp
          refine hK.out _ _ (cell_of (i := 0) (blkOld _ HPB1.out) rfl) (fun hHeld => ?_)
          clear hK K
          try simp only [Act.put, List.getElem_toArray, List.getElem_cons_zero, List.getElem_cons_succ, List.setIfInBounds_toArray, List.set_cons_zero, List.set_cons_succ]
          refine wpAnyH_ready (rs := [10]) (by kernel_rfl) (by simp) ?_
          refine AllReadyH.cons rfl (fun K hK => ?_) AllReadyH.nil
          refine step_append_own _ (by rfl) _ _ 41 (by rfl) base 27 i0 (.slice none 0 0) 1 24 Try.underlying41 hi0 hz0 hz1 hz2 rfl (by decide) _ rs.length (rs.map prV) (by rfl) (ownsRow_keep HP1.out.rowL ((show Ext V1 _ from (by repeat (first | with_reducible exact Ext.refl _ | with_reducible refine Ext.drew ?_ | with_reducible refine Ext.more ?_ _))).kp (fun _ => True)) (fun _ _ => trivial)) ⟨V1.heap.size, 0, none⟩ 1 1 [.slice (some ⟨g, 0, none⟩) len cap] (by rfl) rfl (fun e u he => by match e, he with | 0, he => cases he; exact cell_of (i := 0) (blk0 V1 _) rfl) (by simp [Value.oneCell']) (by unfold maxLen; omega) (by omega) (Nat.le_trans (Nat.le_trans hbs hs1) (show Ext V1 _ from (by repeat (first | with_reducible exact Ext.refl _ | with_reducible refine Ext.drew ?_ | with_reducible refine Ext.more ?_ _))).size) ?_
          intro v9 w9 hown9 hgrow9 hat9
          obtain ⟨lb2, lc2, rfl⟩ := ownsRow_slice hown9
          have K9 := HK5.out w9 _ hgrow9
          have hb9 := K9.block' HP1.out.box (fun e => HNE.out.1 b e.symm rfl)
          have y0 := cell_of (i := 0) hb9 rfl
          have y1 := frozen_of (i := 0) hb9
          simp only [List.getElem_toArray, List.getElem_cons_zero] at y0
          show K _ _
          refine hK.out _ _ (K9.cell q0 (fun e => HPN.out (.inr (.inl e.symm)))) (fun hHeld => ?_)
          clear hK K
          try simp only [Act.put, List.getElem_toArray, List.getElem_cons_zero, List.getElem_cons_succ, List.setIfInBounds_toArray, List.set_cons_zero, List.set_cons_succ]
          refine wpAnyH_take (i := 11) (v := ?vfx1) rfl (by kernel_rfl) (by kernel_rfl) (by kernel_rfl) (fun _ _ _ h => h) (Or.inl ⟨by kernel_rfl, ?hfx1⟩) (by assumption) ?rfx1
          case hfx1 => (intro w hSw; (try dsimp only at hSw); go_simp; try with_reducible rfl)
          try simp only [Act.put, List.getElem_toArray, List.getElem_cons_zero, List.getElem_cons_succ, List.setIfInBounds_toArray, List.set_cons_zero, List.set_cons_succ]
          refine wpAnyH_take (i := 12) (v := ?vfx2) rfl (by kernel_rfl) (by kernel_rfl) (by kernel_rfl) (fun _ _ _ h => h) (Or.inl ⟨by kernel_rfl, ?hfx2⟩) (by assumption) ?rfx2
          case hfx2 => (intro w hSw; (try dsimp only at hSw); go_simp; try with_reducible rfl)
          try simp only [Act.put, List.getElem_toArray, List.getElem_cons_zero, List.getElem_cons_succ, List.setIfInBounds_toArray, List.set_cons_zero, List.set_cons_succ]
          refine wpAnyH_ready (rs := [13]) (by kernel_rfl) (by simp) ?_
          refine AllReadyH.cons rfl (fun K hK => ?_) AllReadyH.nil
          go_simp
          refine hK.out _ _ ((Kp.set (K := (· ≠ b)) w9 b 0 _ (fun h => h rfl)).cell (K9.cell q0 (fun e => HPN.out (.inr (.inl e.symm)))) hpbb) (fun hHeld => ?_)
          clear hK K
          try simp only [Act.put, List.getElem_toArray, List.getElem_cons_zero, List.getElem_cons_succ, List.setIfInBounds_toArray, List.set_cons_zero, List.set_cons_succ]
          refine wpAnyH_done (by kernel_rfl) ?_ _
          go_wp2_with fail
          go_meet
          case rel =>
            have k0 := Kp.set (K := (· ≠ b)) w9 b 0 (.slice lb2 (rs.length + 1) lc2) (fun h => h rfl)
            refine ⟨lb2, lc2, set_at hb9 0 _, ownsRow_keep hown9 k0 (fun q hq e => ?_), (K9.mono (fun q _ hq e => hq.2 e.symm)).trans (k0.mono (fun q _ hq => hq.1)), hat9.imp id (fun h => ⟨_, h, by simp⟩)⟩
            rcases hat9 with h | h
            · rw [h] at hq; exact HNE.out.1 q hq e
            · rw [h] at hq; cases hq; have e' : _ = b := e; simp at e'; omega
      case rest =>
      obtain ⟨lb2, lc2, hb2, hl2, hk2, ho2⟩ := hcut
      obtain ⟨V2, rfl⟩ : ∃ V2, V2 = wc := ⟨wc, rfl⟩
      have HB2 := hid hb2
      have HL2 := hid hl2
      have HK2 := hid hk2
      have HO2 := hid ho2
      have hs3 := hk2.size
      have HPB2 := hid (hk2.block' HPB1.out ⟨hpbb, fun e => HPN.out (.inr (.inl e))⟩)
      have HN2 := hid (ownsRow_keep HP1.out.rowN hk2 (fun q hq => ⟨HNE.out.2.1 q hq, fun e => HNE.out.2.2.2.1 q e hq⟩))
      have HG2 := hid (hk2.block' HG1.out ⟨hgb', fun e => HGN.out (.inr (.inl e))⟩)
      clear hb2 hl2 hk2 ho2 b0 b1 b2 b3 f0 hi0 hz0 hz1 hz2 q0 hbl hpl HK5
      obtain ⟨b0, b1, b2, b3⟩ := four_of HB2.out
      have q0 := cell_of (i := 0) HPB2.out rfl
      simp only [List.getElem_toArray, List.getElem_cons_zero] at q0
      have f0 := frozen_of (i := 1) HB2.out
      have hbl := lt_of_block HB2.out
      have hpl := lt_of_block HPB2.out
      obtain ⟨i1, hi1, hu0, hu1, hu2⟩ := info_parts intInfo
      have HK6 := hid (show ∀ (w9 : World) (o : Obj), (V2.alloc o).drew.grownBy w9 (Value.slice nb rs.length nc).ownBlock → Kp (fun q => some q ≠ (Value.slice nb rs.length nc).ownBlock) V2 w9 from fun w9 o hg => ((Ext.alloc V2 o).drew.kp _).trans ⟨hg.os, hg.tape, hg.output, hg.size, fun q hq hne => hg.block q hq hne⟩)
      go_upto_region 6 with fail
      go_cut [] from 6 to 92 (fun wx => ∃ nb2 nc2, wx.heap[b]? = some (.cells #[.slice lb2 (rs.length + 1) lc2, .slice nb2 (rs.length + 1) nc2, .int .i64 (sz + 4 + rm), .slice none 0 0] 55) ∧ wx.ownsRow base 3 1 (.slice nb2 (rs.length + 1) nc2) (rs.length + 1) (rs.map (fun r => Value.int .i64 (r.2.1 : Int)) ++ [.int .i64 len]) ∧ Kp (fun q => q ≠ b ∧ (Value.slice nb rs.length nc).ownBlock ≠ some q) V2 wx ∧ ((Value.slice nb2 (rs.length + 1) nc2).ownBlock = (Value.slice nb rs.length nc).ownBlock ∨ ∃ q, (Value.slice nb2 (rs.length + 1) nc2).ownBlock = some q ∧ V2.heap.size ≤ q))
      case first =>
        refine wp_region_held_drew (S := fun W' => W'.cell? ⟨pb, 0, none⟩ = some (.slice (some ⟨g, 0, none⟩) len cap)) (by kernel_rfl) (q0) (fun hHeld => ?_)
        refine wpAnyH_take (i := 0) (v := ?vgx1) rfl (by kernel_rfl) (by kernel_rfl) (by kernel_rfl) (fun _ _ _ h => h) (Or.inl ⟨by kernel_rfl, ?hgx1⟩) (by assumption) ?rgx1
        case hgx1 => (intro w hSw; (try dsimp only at hSw); go_simp; try with_reducible rfl)
        try simp only [Act.put, List.getElem_toArray, List.getElem_cons_zero, List.setIfInBounds_toArray, List.set_cons_zero, List.set_cons_succ]
        refine wpAnyH_take (i := 1) (v := ?vgx2) rfl (by kernel_rfl) (by kernel_rfl) (by kernel_rfl) (fun _ _ _ h => h) (Or.inl ⟨by kernel_rfl, ?hgx2⟩) (by assumption) ?rgx2
        case hgx2 => (intro w hSw; (try dsimp only at hSw); go_simp; try with_reducible rfl)
        try simp only [Act.put, List.getElem_toArray, List.getElem_cons_zero, List.getElem_cons_succ, List.setIfInBounds_toArray, List.set_cons_zero, List.set_cons_succ]
        refine wpAnyH_take (i := 2) (v := ?vgx3) rfl (by kernel_rfl) (by kernel_rfl) (by kernel_rfl) (fun _ _ _ h => h) (Or.inl ⟨by kernel_rfl, ?hgx3⟩) (by assumption) ?rgx3
        case hgx3 => (intro w hSw; (try dsimp only at hSw); go_simp; try with_reducible rfl)
        try simp only [Act.put, List.getElem_toArray, List.getElem_cons_zero, List.getElem_cons_succ, List.setIfInBounds_toArray, List.set_cons_zero, List.set_cons_succ]
        refine wpAnyH_take (i := 3) (v := ?vgx4) rfl (by kernel_rfl) (by kernel_rfl) (by kernel_rfl) (fun _ _ _ h => h) (Or.inl ⟨by kernel_rfl, ?hgx4⟩) (by assumption) ?rgx4
        case hgx4 => (intro w hSw; (try dsimp only at hSw); go_simp; try with_reducible rfl)
        try simp only [Act.put, List.getElem_toArray, List.getElem_cons_zero, List.getElem_cons_succ, List.setIfInBounds_toArray, List.set_cons_zero, List.set_cons_succ]
        refine wpAnyH_take (i := 5) (v := ?vgx5) rfl (by kernel_rfl) (by kernel_rfl) (by kernel_rfl) (fun _ _ _ h => h) (Or.inl ⟨by kernel_rfl, ?hgx5⟩) (by assumption) ?rgx5
        case hgx5 => (intro w hSw; (try dsimp only at hSw); go_simp; try with_reducible rfl)
        try simp only [Act.put, List.getElem_toArray, List.getElem_cons_zero, List.getElem_cons_succ, List.setIfInBounds_toArray, List.set_cons_zero, List.set_cons_succ]
        refine wpAnyH_take (i := 6) (v := ?vgx6) rfl (by kernel_rfl) (by kernel_rfl) (by kernel_rfl) (fun _ _ _ h => h) (Or.inl ⟨by kernel_rfl, ?hgx6⟩) (by assumption) ?rgx6
        case hgx6 => (intro w hSw; (try dsimp only at hSw); go_simp; try with_reducible rfl)
        try simp only [Act.put, List.getElem_toArray, List.getElem_cons_zero, List.getElem_cons_succ, List.setIfInBounds_toArray, List.set_cons_zero, List.set_cons_succ]
        refine wpAnyH_take (i := 7) (v := ?vgx7) rfl (by kernel_rfl) (by kernel_rfl) (by kernel_rfl) (fun _ _ _ h => h) (Or.inl ⟨by kernel_rfl, ?hgx7⟩) (by assumption) ?rgx7
        case hgx7 => (intro w hSw; (try dsimp only at hSw); go_simp; try with_reducible rfl)
        try simp only [Act.put, List.getElem_toArray, List.getElem_cons_zero, List.getElem_cons_succ, List.setIfInBounds_toArray, List.set_cons_zero, List.set_cons_succ]
        refine wpAnyH_take (i := 8) (v := ?vgx8) rfl (by kernel_rfl) (by kernel_rfl) (by kernel_rfl) (fun _ _ _ h => h) (Or.inl ⟨by kernel_rfl, ?hgx8⟩) (by assumption) ?rgx8
        case hgx8 => (intro w hSw; (try dsimp only at hSw); go_simp; try with_reducible rfl)
        try simp only [Act.put, List.getElem_toArray, List.getElem_cons_zero, List.getElem_cons_succ, List.setIfInBounds_toArray, List.set_cons_zero, List.set_cons_succ]
        refine wpAnyH_take (i := 9) (v := .int .i64 len) rfl (by kernel_rfl) (by kernel_rfl) (by kernel_rfl) (fun _ _ _ h => h) (Or.inl ⟨by kernel_rfl, ?hgx9⟩) (by assumption) ?rgx9
        case hgx9 => (intro w hSw; (try dsimp only at hSw); go_simp; try with_reducible rfl)
        try simp only [Act.put, List.getElem_toArray, List.getElem_cons_zero, List.getElem_cons_succ, List.setIfInBounds_toArray, List.set_cons_zero, List.set_cons_succ]
        refine wpAnyH_ready (rs := [4, 10]) (by kernel_rfl) (by simp) ?_
        refine AllReadyH.cons rfl (fun K hK => ?_) (AllReadyH.cons rfl (fun K hK => ?_) AllReadyH.nil)
        · go_simp
          refine hK.out _ _ (q0) (fun hHeld => ?_)
          clear hK K
          try simp only [Act.put, List.getElem_toArray, List.getElem_cons_zero, List.getElem_cons_succ, List.setIfInBounds_toArray, List.set_cons_zero, List.set_cons_succ]
          refine wpAnyH_ready (rs := [10]) (by kernel_rfl) (by simp) ?_
          refine AllReadyH.cons rfl (fun K hK => ?_) AllReadyH.nil
          go_simp
          refine hK.out _ _ (cell_of (i := 0) (blkOld _ HPB2.out) rfl) (fun hHeld => ?_)
          clear hK K
          try simp only [Act.put, List.getElem_toArray, List.getElem_cons_zero, List.getElem_cons_succ, List.setIfInBounds_toArray, List.set_cons_zero, List.set_cons_succ]
          refine wpAnyH_ready (rs := [11]) (by kernel_rfl) (by simp) ?_
          refine AllReadyH.cons rfl (fun K hK => ?_) AllReadyH.nil
          refine step_append_own _ (by rfl) _ _ 27 (by rfl) base 3 i1 (.int .i64 0) 1 8 Try.underlying27 hi1 hu0 hu1 hu2 rfl (by decide) _ rs.length (rs.map (fun r => Value.int .i64 (r.2.1 : Int))) (by rfl) (ownsRow_keep HN2.out ((show Ext V2 _ from (by repeat (first | with_reducible exact Ext.refl _ | with_reducible refine Ext.drew ?_ | with_reducible refine Ext.more ?_ _))).kp (fun _ => True)) (fun _ _ => trivial)) ⟨V2.heap.size, 0, none⟩ 1 1 [.int .i64 len] (by rfl) rfl (fun e u he => by match e, he with | 0, he => cases he; exact cell_of (i := 0) (blk0 V2 _) rfl) (by simp [Value.oneCell']) (by unfold maxLen; omega) (by omega) (Nat.le_trans (Nat.le_trans (Nat.le_trans hbs hs1) hs3) (show Ext V2 _ from (by repeat (first | with_reducible exact Ext.refl _ | with_reducible refine Ext.drew ?_ | with_reducible refine Ext.more ?_ _))).size) ?_
          intro v9 w9 hown9 hgrow9 hat9
          obtain ⟨nb2, nc2, rfl⟩ := ownsRow_slice hown9
          have K9 := HK6.out w9 _ hgrow9
          have hb9 := K9.block' HB2.out (fun e => HNE.out.2.1 b e.symm rfl)
          have y0 := cell_of (i := 1) hb9 rfl
          have y1 := frozen_of (i := 1) hb9
          simp only [List.getElem_toArray, List.getElem_cons_zero, List.getElem_cons_succ] at y0
          show K _ _
          refine hK.out _ _ (K9.cell q0 (fun e => HPN.out (.inr (.inr (.inl e.symm))))) (fun hHeld => ?_)
          clear hK K
          try simp only [Act.put, List.getElem_toArray, List.getElem_cons_zero, List.getElem_cons_succ, List.setIfInBounds_toArray, List.set_cons_zero, List.set_cons_succ]
          refine wpAnyH_take (i := 12) (v := ?vhx1) rfl (by kernel_rfl) (by kernel_rfl) (by kernel_rfl) (fun _ _ _ h => h) (Or.inl ⟨by kernel_rfl, ?hhx1⟩) (by assumption) ?rhx1
          case hhx1 => (intro w hSw; (try dsimp only at hSw); go_simp; try with_reducible rfl)
          try simp only [Act.put, List.getElem_toArray, List.getElem_cons_zero, List.getElem_cons_succ, List.setIfInBounds_toArray, List.set_cons_zero, List.set_cons_succ]
          refine wpAnyH_take (i := 13) (v := ?vhx2) rfl (by kernel_rfl) (by kernel_rfl) (by kernel_rfl) (fun _ _ _ h => h) (Or.inl ⟨by kernel_rfl, ?hhx2⟩) (by assumption) ?rhx2
          case hhx2 => (intro w hSw; (try dsimp only at hSw); go_simp; try with_reducible rfl)
          try simp only [Act.put, List.getElem_toArray, List.getElem_cons_zero, List.getElem_cons_succ, List.setIfInBounds_toArray, List.set_cons_zero, List.set_cons_succ]
          refine wpAnyH_ready (rs := [14]) (by kernel_rfl) (by simp) ?_
          refine AllReadyH.cons rfl (fun K hK => ?_) AllReadyH.nil
          go_simp
          refine hK.out _ _ ((Kp.set (K := (· ≠ b)) w9 b 1 _ (fun h => h rfl)).cell (K9.cell q0 (fun e => HPN.out (.inr (.inr (.inl e.symm))))) hpbb) (fun hHeld => ?_)
          clear hK K
          try simp only [Act.put, List.getElem_toArray, List.getElem_cons_zero, List.getElem_cons_succ, List.setIfInBounds_toArray, List.set_cons_zero, List.set_cons_succ]
          refine wpAnyH_done (by kernel_rfl) ?_ _
          go_wp2_with fail
          go_meet
          case rel =>
            have k0 := Kp.set (K := (· ≠ b)) w9 b 1 (.slice nb2 (rs.length + 1) nc2) (fun h => h rfl)
            refine ⟨nb2, nc2, set_at hb9 1 _, ownsRow_keep hown9 k0 (fun q hq e => ?_), (K9.mono (fun q _ hq e => hq.2 e.symm)).trans (k0.mono (fun q _ hq => hq.1)), hat9.imp id (fun h => ⟨_, h, by simp⟩)⟩
            rcases hat9 with h | h
            · rw [h] at hq; exact HNE.out.2.1 q hq e
            · rw [h] at hq; cases hq; have e' : _ = b := e; simp at e'; omega
        · go_simp
          refine hK.out _ _ (cell_of (i := 0) (blkOld _ HPB2.out) rfl) (fun hHeld => ?_)
          clear hK K
          try simp only [Act.put, List.getElem_toArray, List.getElem_cons_zero, List.getElem_cons_succ, List.setIfInBounds_toArray, List.set_cons_zero, List.set_cons_succ]
          refine wpAnyH_ready (rs := [4]) (by kernel_rfl) (by simp) ?_
          refine AllReadyH.cons rfl (fun K hK => ?_) AllReadyH.nil
          go_simp
          refine hK.out _ _ (cell_of (i := 0) (blkOld _ HPB2.out) rfl) (fun hHeld => ?_)
          clear hK K
          try simp only [Act.put, List.getElem_toArray, List.getElem_cons_zero, List.getElem_cons_succ, List.setIfInBounds_toArray, List.set_cons_zero, List.set_cons_succ]
          refine wpAnyH_ready (rs := [11]) (by kernel_rfl) (by simp) ?_
          refine AllReadyH.cons rfl (fun K hK => ?_) AllReadyH.nil
          refine step_append_own _ (by rfl) _ _ 27 (by rfl) base 3 i1 (.int .i64 0) 1 8 Try.underlying27 hi1 hu0 hu1 hu2 rfl (by decide) _ rs.length (rs.map (fun r => Value.int .i64 (r.2.1 : Int))) (by rfl) (ownsRow_keep HN2.out ((show Ext V2 _ from (by repeat (first | with_reducible exact Ext.refl _ | with_reducible refine Ext.drew ?_ | with_reducible refine Ext.more ?_ _))).kp (fun _ => True)) (fun _ _ => trivial)) ⟨V2.heap.size, 0, none⟩ 1 1 [.int .i64 len] (by rfl) rfl (fun e u he => by match e, he with | 0, he => cases he; exact cell_of (i := 0) (blk0 V2 _) rfl) (by simp [Value.oneCell']) (by unfold maxLen; omega) (by omega) (Nat.le_trans (Nat.le_trans (Nat.le_trans hbs hs1) hs3) (show Ext V2 _ from (by repeat (first | with_reducible exact Ext.refl _ | with_reducible refine Ext.drew ?_ | with_reducible refine Ext.more ?_ _))).size) ?_
          intro v9 w9 hown9 hgrow9 hat9
          obtain ⟨nb2, nc2, rfl⟩ := ownsRow_slice hown9
          have K9 := HK6.out w9 _ hgrow9
          have hb9 := K9.block' HB2.out (fun e => HNE.out.2.1 b e.symm rfl)
          have y0 := cell_of (i := 1) hb9 rfl
          have y1 := frozen_of (i := 1) hb9
          simp only [List.getElem_toArray, List.getElem_cons_zero, List.getElem_cons_succ] at y0
          show K _ _
          refine hK.out _ _ (K9.cell q0 (fun e => HPN.out (.inr (.inr (.inl e.symm))))) (fun hHeld => ?_)
          clear hK K
          try simp only [Act.put, List.getElem_toArray, List.getElem_cons_zero, List.getElem_cons_succ, List.setIfInBounds_toArray, List.set_cons_zero, List.set_cons_succ]
          refine wpAnyH_take (i := 12) (v := ?vix1) rfl (by kernel_rfl) (by kernel_rfl) (by kernel_rfl) (fun _ _ _ h => h) (Or.inl ⟨by kernel_rfl, ?hix1⟩) (by assumption) ?rix1
          case hix1 => (intro w hSw; (try dsimp only at hSw); go_simp; try with_reducible rfl)
          try simp only [Act.put, List.getElem_toArray, List.getElem_cons_zero, List.getElem_cons_succ, List.setIfInBounds_toArray, List.set_cons_zero, List.set_cons_succ]
          refine wpAnyH_take (i := 13) (v := ?vix2) rfl (by kernel_rfl) (by kernel_rfl) (by kernel_rfl) (fun _ _ _ h => h) (Or.inl ⟨by kernel_rfl, ?hix2⟩) (by assumption) ?rix2
          case hix2 => (intro w hSw; (try dsimp only at hSw); go_simp; try with_reducible rfl)
          try simp only [Act.put, List.getElem_toArray, List.getElem_cons_zero, List.getElem_cons_succ, List.setIfInBounds_toArray, List.set_cons_zero, List.set_cons_succ]
          refine wpAnyH_ready (rs := [14]) (by kernel_rfl) (by simp) ?_
          refine AllReadyH.cons rfl (fun K hK => ?_) AllReadyH.nil
          go_simp
          refine hK.out _ _ ((Kp.set (K := (· ≠ b)) w9 b 1 _ (fun h => h rfl)).cell (K9.cell q0 (fun e => HPN.out (.inr (.inr (.inl e.symm))))) hpbb) (fun hHeld => ?_)
          clear hK K
          try simp only [Act.put, List.getElem_toArray, List.getElem_cons_zero, List.getElem_cons_succ, List.setIfInBounds_toArray, List.set_cons_zero, List.set_cons_succ]
          refine wpAnyH_done (by kernel_rfl) ?_ _
          go_wp2_with fail
          go_meet
          case rel =>
            have k0 := Kp.set (K := (· ≠ b)) w9 b 1 (.slice nb2 (rs.length + 1) nc2) (fun h => h rfl)
            refine ⟨nb2, nc2, set_at hb9 1 _, ownsRow_keep hown9 k0 (fun q hq e => ?_), (K9.mono (fun q _ hq e => hq.2 e.symm)).trans (k0.mono (fun q _ hq => hq.1)), hat9.imp id (fun h => ⟨_, h, by simp⟩)⟩
            rcases hat9 with h | h
            · rw [h] at hq; exact HNE.out.2.1 q hq e
            · rw [h] at hq; cases hq; have e' : _ = b := e; simp at e'; omega
      case rest =>
      obtain ⟨nb2, nc2, hb3, hn3, hk3, ho3⟩ := hcut
      obtain ⟨V3, rfl⟩ : ∃ V3, V3 = wc := ⟨wc, rfl⟩
      have HB3 := hid hb3
      have HN3 := hid hn3
      have HK3 := hid hk3
      have HO3 := hid ho3
      have hs4 := hk3.size
      have HPB3 := hid (hk3.block' HPB2.out ⟨hpbb, fun e => HPN.out (.inr (.inr (.inl e)))⟩)
      have HG3 := hid (hk3.block' HG2.out ⟨hgb', fun e => HGN.out (.inr (.inr (.inl e)))⟩)
      have HNL := hid (show ∀ q, (Value.slice lb2 (rs.length + 1) lc2).ownBlock = some q → q ≠ b ∧ (Value.slice nb rs.length nc).ownBlock ≠ some q ∧ (q = g → False) from fun q hq => by
        rcases HO2.out with e | ⟨q', e, hq'⟩
        · rw [e] at hq; exact ⟨HNE.out.1 q hq, HNE.out.2.2.2.1 q hq, fun e2 => HGN.out (.inr (.inl (e2 ▸ hq)))⟩
        · rw [e] at hq; cases hq
          refine ⟨fun e2 => ?_, fun e2 => ?_, fun e2 => ?_⟩
          · have := lt_of_block HP1.out.box; omega
          · have := HP1.out.lt _ (.inr (.inr (.inl e2))); omega
          · have := lt_of_block HG1.out; omega)
      have HL3 := hid (ownsRow_keep HL2.out hk3 (fun q hq => ⟨(HNL.out q hq).1, (HNL.out q hq).2.1⟩))
      clear hb3 hn3 hk3 ho3 b0 b1 b2 b3 f0 hi1 hu0 hu1 hu2 q0 hbl hpl HK6
      have hwm : IntKind.i64.wrap (-2 * ((rs.length : Int) + 1)) = -2 * ((rs.length : Int) + 1) := wrap_small _ (by omega) (by omega)
      go_wp2_with fail
      go_loopw [5] (fun k wq => ∃ (kk : Nat) (cu : Array Value), kk ≤ len ∧ k = .int .i64 kk ∧ Kp (· ≠ g) V3 wq ∧ wq.heap[g]? = some (.cells cu 3) ∧ cu.size = cap ∧ (∀ k, k < cap → ∃ v : Value, cu[k]? = some v) ∧ ∀ k, k < kk → cu[k]? = some (.int .i64 (-2 * ((rs.length : Int) + 1)))) (fun k _ => len - (intOf k).toNat)
      case atStart => exact ⟨0, cur, Nat.zero_le _, rfl, Kp.refl _ _, HG3.out, hcs, HCI.out, fun k hk => absurd hk (Nat.not_lt_zero _)⟩
      case round =>
        obtain ⟨kk, cu, hkk, rfl, hkq, hgq, hcu, hcv, hcm2⟩ := hrel
        have HKQ := hid hkq
        have HGQ := hid hgq
        have HCV := hid hcv
        have HCM := hid hcm2
        have hgp : pb ≠ g := fun e => by
          have h1 := HPB3.out
          rw [e, HG3.out] at h1
          injection h1 with h1
          injection h1 with _ h2
          revert h2
          decide
        have hbq := hkq.block' HB3.out (fun e => hgb' e.symm)
        have hpq := hkq.block' HPB3.out hgp
        obtain ⟨b0, b1, b2, b3⟩ := four_of hbq
        have q0 := cell_of (i := 0) hpq rfl
        simp only [List.getElem_toArray, List.getElem_cons_zero] at q0
        clear hkq hgq hcv hcm2 hbq hpq
        by_cases hkl : kk < len
        · have hkl' : (kk : Int) < len := by omega
          obtain ⟨vk, hvk⟩ := HCV.out kk (by omega)
          have g0 := cell_of HGQ.out hvk
          have g1 := frozen_of (i := kk) HGQ.out
          have HPQ := hid (show ∀ v, ((wr.setCell ⟨g, kk, none⟩ v).drew.cell? ⟨pb, 0, none⟩ = some (.slice (some ⟨g, 0, none⟩) len cap) ∧ (wr.setCell ⟨g, kk, none⟩ v).drew.cell? ⟨b, 0, none⟩ = some (.slice lb2 (rs.length + 1) lc2)) from fun v => ⟨(Kp.set (K := (· ≠ g)) wr g kk v (fun h => h rfl)).drew.cell q0 hgp, (Kp.set (K := (· ≠ g)) wr g kk v (fun h => h rfl)).drew.cell b0 (fun e => hgb' e.symm)⟩)
          go_wp2_with fail
          refine wp_region_held_drew (S := fun W' => W'.cell? ⟨pb, 0, none⟩ = some (.slice (some ⟨g, 0, none⟩) len cap) ∧ W'.cell? ⟨b, 0, none⟩ = some (.slice lb2 (rs.length + 1) lc2)) (by kernel_rfl) (And.intro q0 b0) (fun hHeld => ?_)
          refine wpAnyH_take (i := 0) (v := ?vjx1) rfl (by kernel_rfl) (by kernel_rfl) (by kernel_rfl) (fun _ _ _ h => h) (Or.inl ⟨by kernel_rfl, ?hjx1⟩) (by assumption) ?rjx1
          case hjx1 => (intro w hSw; (try dsimp only at hSw); go_simp; try with_reducible rfl)
          try simp only [Act.put, List.getElem_toArray, List.getElem_cons_zero, List.setIfInBounds_toArray, List.set_cons_zero, List.set_cons_succ]
          refine wpAnyH_take (i := 1) (v := ?vjx2) rfl (by kernel_rfl) (by kernel_rfl) (by kernel_rfl) (fun _ _ _ h => h) (Or.inl ⟨by kernel_rfl, ?hjx2⟩) (by assumption) ?rjx2
          case hjx2 => (intro w hSw; (try dsimp only at hSw); go_simp; try with_reducible rfl)
          try simp only [Act.put, List.getElem_toArray, List.getElem_cons_zero, List.getElem_cons_succ, List.setIfInBounds_toArray, List.set_cons_zero, List.set_cons_succ]
          refine wpAnyH_take (i := 2) (v := ?vjx3) rfl (by kernel_rfl) (by kernel_rfl) (by kernel_rfl) (fun _ _ _ h => h) (Or.inl ⟨by kernel_rfl, ?hjx3⟩) (by assumption) ?rjx3
          case hjx3 => (intro w hSw; (try dsimp only at hSw); go_simp; try with_reducible rfl)
          try simp only [Act.put, List.getElem_toArray, List.getElem_cons_zero, List.getElem_cons_succ, List.setIfInBounds_toArray, List.set_cons_zero, List.set_cons_succ]
          refine wpAnyH_take (i := 3) (v := ?vjx4) rfl (by kernel_rfl) (by kernel_rfl) (by kernel_rfl) (fun _ _ _ h => h) (Or.inl ⟨by kernel_rfl, ?hjx4⟩) (by assumption) ?rjx4
          case hjx4 => (intro w hSw; (try dsimp only at hSw); go_simp; try with_reducible rfl)
          try simp only [Act.put, List.getElem_toArray, List.getElem_cons_zero, List.getElem_cons_succ, List.setIfInBounds_toArray, List.set_cons_zero, List.set_cons_succ]
          refine wpAnyH_take (i := 4) (v := ?vjx5) rfl (by kernel_rfl) (by kernel_rfl) (by kernel_rfl) (fun _ _ _ h => h) (Or.inl ⟨by kernel_rfl, ?hjx5⟩) (by assumption) ?rjx5
          case hjx5 => (intro w hSw; (try dsimp only at hSw); go_simp; try with_reducible rfl)
          try simp only [Act.put, List.getElem_toArray, List.getElem_cons_zero, List.getElem_cons_succ, List.setIfInBounds_toArray, List.set_cons_zero, List.set_cons_succ]
          refine wpAnyH_take (i := 5) (v := ?vjx6) rfl (by kernel_rfl) (by kernel_rfl) (by kernel_rfl) (fun _ _ _ h => h) (Or.inl ⟨by kernel_rfl, ?hjx6⟩) (by assumption) ?rjx6
          case hjx6 => (intro w hSw; (try dsimp only at hSw); go_simp; try with_reducible rfl)
          try simp only [Act.put, List.getElem_toArray, List.getElem_cons_zero, List.getElem_cons_succ, List.setIfInBounds_toArray, List.set_cons_zero, List.set_cons_succ]
          refine wpAnyH_take (i := 6) (v := ?vjx7) rfl (by kernel_rfl) (by kernel_rfl) (by kernel_rfl) (fun _ _ _ h => h) (Or.inl ⟨by kernel_rfl, ?hjx7⟩) (by assumption) ?rjx7
          case hjx7 => (intro w hSw; (try dsimp only at hSw); go_simp; try with_reducible rfl)
          try simp only [Act.put, List.getElem_toArray, List.getElem_cons_zero, List.getElem_cons_succ, List.setIfInBounds_toArray, List.set_cons_zero, List.set_cons_succ]
          refine wpAnyH_take (i := 7) (v := ?vjx8) rfl (by kernel_rfl) (by kernel_rfl) (by kernel_rfl) (fun _ _ _ h => h) (Or.inl ⟨by kernel_rfl, ?hjx8⟩) (by assumption) ?rjx8
          case hjx8 => (intro w hSw; (try dsimp only at hSw); go_simp; try with_reducible rfl)
          try simp only [Act.put, List.getElem_toArray, List.getElem_cons_zero, List.getElem_cons_succ, List.setIfInBounds_toArray, List.set_cons_zero, List.set_cons_succ]
          refine wpAnyH_take (i := 8) (v := ?vjx9) rfl (by kernel_rfl) (by kernel_rfl) (by kernel_rfl) (fun _ _ _ h => h) (Or.inl ⟨by kernel_rfl, ?hjx9⟩) (by assumption) ?rjx9
          case hjx9 => (intro w hSw; (try dsimp only at hSw); go_simp; try with_reducible rfl)
          try simp only [Act.put, List.getElem_toArray, List.getElem_cons_zero, List.getElem_cons_succ, List.setIfInBounds_toArray, List.set_cons_zero, List.set_cons_succ]
          refine wpAnyH_take (i := 9) (v := .int .i64 ((rs.length : Int) + 1)) rfl (by kernel_rfl) (by kernel_rfl) (by kernel_rfl) (fun _ _ _ h => h) (Or.inl ⟨by kernel_rfl, ?hjx10⟩) (by assumption) ?rjx10
          case hjx10 => (intro w hSw; (try dsimp only at hSw); go_simp; try with_reducible rfl)
          try simp only [Act.put, List.getElem_toArray, List.getElem_cons_zero, List.getElem_cons_succ, List.setIfInBounds_toArray, List.set_cons_zero, List.set_cons_succ]
          refine wpAnyH_take (i := 10) (v := .int .i64 (-2 * ((rs.length : Int) + 1))) rfl (by kernel_rfl) (by kernel_rfl) (by kernel_rfl) (fun _ _ _ h => h) (Or.inl ⟨by kernel_rfl, ?hjx11⟩) (by assumption) ?rjx11
          case hjx11 => (intro w hSw; (try dsimp only at hSw); go_simp; try with_reducible rfl)
          try simp only [Act.put, List.getElem_toArray, List.getElem_cons_zero, List.getElem_cons_succ, List.setIfInBounds_toArray, List.set_cons_zero, List.set_cons_succ]
          refine wpAnyH_take (i := 11) (v := ?vjx12) rfl (by kernel_rfl) (by kernel_rfl) (by kernel_rfl) (fun _ _ _ h => h) (Or.inl ⟨by kernel_rfl, ?hjx12⟩) (by assumption) ?rjx12
          case hjx12 => (intro w hSw; (try dsimp only at hSw); go_simp; try with_reducible rfl)
          try simp only [Act.put, List.getElem_toArray, List.getElem_cons_zero, List.getElem_cons_succ, List.setIfInBounds_toArray, List.set_cons_zero, List.set_cons_succ]
          refine wpAnyH_ready (rs := [12]) (by kernel_rfl) (by simp) ?_
          refine AllReadyH.cons rfl (fun K hK => ?_) AllReadyH.nil
          go_simp
          refine hK.out _ _ (HPQ.out _) (fun hHeld => ?_)
          clear hK K
          try simp only [Act.put, List.getElem_toArray, List.getElem_cons_zero, List.getElem_cons_succ, List.setIfInBounds_toArray, List.set_cons_zero, List.set_cons_succ]
          refine wpAnyH_done (by kernel_rfl) ?_ _
          go_wp2_with fail
          go_roundw
          case rel =>
            refine ⟨kk + 1, cu.setIfInBounds kk (.int .i64 (-2 * ((rs.length : Int) + 1))), hkl, by go_num, (HKQ.out.trans (Kp.set _ _ _ _ (fun h => h rfl))).drew, set_at HGQ.out kk _, by simpa using hcu, fun k hk => ?_, fun k hk => ?_⟩
            · by_cases e : kk = k
              · subst e; exact ⟨_, by rw [Array.getElem?_setIfInBounds_self_of_lt (by omega)]⟩
              · rw [Array.getElem?_setIfInBounds_ne e]; exact HCV.out k hk
            · by_cases e : kk = k
              · subst e; rw [Array.getElem?_setIfInBounds_self_of_lt (by omega)]
              · rw [Array.getElem?_setIfInBounds_ne e]; exact HCM.out k (by omega)
          case measure => simp [intOf]; omega
        · have hke : kk = len := by omega
          go_wp2_with fail
          go_roundw
          case rel =>
            refine .inr ⟨by go_num, .slice lb2 (rs.length + 1) lc2, .slice nb2 (rs.length + 1) nc2, rs ++ [(g, len, cap)], sz + 4 + rm, ⟨?_, ?_, ?_, fun i hi => ?_, ?_, fun r hr => ?_⟩, by simp, by omega, by omega, fun r hr => (List.mem_append.1 hr).imp id (fun h => by rw [List.mem_singleton.1 h]; exact hll), ?_, fun q hq => ?_⟩
            · exact HKQ.out.block' HB3.out (fun e => hgb' e.symm)
            · have h1 := ownsRow_keep HL3.out HKQ.out (fun q hq => (HNL.out q hq).2.2)
              simpa using h1
            · have h1 := ownsRow_keep HN3.out HKQ.out (fun q hq e => by
                have e' : q = g := e
                subst e'
                rcases HO3.out with h | ⟨q', h, hq'⟩
                · rw [h] at hq; exact HGN.out (.inr (.inr (.inl hq)))
                · rw [h] at hq; cases hq; have := lt_of_block HG2.out; omega)
              simpa using h1
            · have hi' : i < rs.length + 1 := by simpa using hi
              by_cases e : i < rs.length
              · rw [List.getElem_append_left e]
                have hm : rs[i].1 ∈ rs.map (·.1) := List.mem_map.2 ⟨_, List.getElem_mem e, rfl⟩
                exact ((((HP1.out.full i e).keep HK2.out ⟨HNE.out.2.2.1 _ hm, HNE.out.2.2.2.2 _ hm⟩).keep HK3.out ⟨HNE.out.2.2.1 _ hm, H.out.apart _ (List.getElem_mem e)⟩).keep HKQ.out (fun e2 => HGN.out (.inr (.inr (.inr (by have e' : rs[i].1 = g := e2; rw [← e']; exact hm))))))
              · have e' : i = rs.length := by omega
                subst e'
                rw [List.getElem_append_right (Nat.le_refl _)]
                simp only [Nat.sub_self, List.getElem_cons_zero]
                exact ⟨hgb, by show 0 < cap; omega, hlc, hcm, cu, HGQ.out, hcu, HCV.out, fun k hk => HCM.out k (by have hk' : k < len := hk; omega)⟩
            · rw [List.map_append, List.nodup_append]
              refine ⟨H.out.nodup, by simp, fun a ha c hc e => ?_⟩
              have hc' : c = g := by simpa using hc
              exact HGN.out (.inr (.inr (.inr (by rw [← hc', ← e]; exact ha))))
            · intro e
              have hlr : ∀ r ∈ rs, r.1 < V2.heap.size := fun r hr => by
                have := HP1.out.lt r.1 (.inr (.inr (.inr (List.mem_map.2 ⟨r, hr, rfl⟩))))
                omega
              rcases List.mem_append.1 hr with hr | hr
              · rcases HO3.out with h | ⟨q', h, hq'⟩
                · rw [h] at e; exact H.out.apart r hr e
                · rw [h] at e; cases e; have := hlr r hr; omega
              · have hr' : r = (g, len, cap) := by simpa using hr
                subst hr'
                rcases HO3.out with h | ⟨q', h, hq'⟩
                · rw [h] at e; exact HGN.out (.inr (.inr (.inl e)))
                · rw [h] at e; cases e; have := lt_of_block HG2.out; omega
            · exact ((((HK1.out.mono (fun q _ hq e => hq (.inl (.inl e)))).trans (HK2.out.mono (fun q _ hq => ⟨fun e => hq (.inl (.inl e)), fun e => hq (.inl (.inr (.inl e)))⟩))).trans (HK3.out.mono (fun q _ hq => ⟨fun e => hq (.inl (.inl e)), fun e => hq (.inl (.inr (.inr (.inl e))))⟩))).trans (HKQ.out.mono (fun q _ hq e => hq (.inr e))))
            · rcases hq with h | h | h | h
              · exact .inl (.inl h)
              · rcases HO2.out with h2 | ⟨q', h2, hq'⟩
                · rw [h2] at h; exact .inl (.inr (.inl h))
                · rw [h2] at h; cases h; exact .inr (.inr (by omega))
              · rcases HO3.out with h2 | ⟨q', h2, hq'⟩
                · rw [h2] at h; exact .inl (.inr (.inr (.inl h)))
                · rw [h2] at h; cases h; exact .inr (.inr (by omega))
              · rw [List.map_append, List.mem_append] at h
                rcases h with h | h
                · exact .inl (.inr (.inr (.inr h)))
                · exact .inr (.inl (by simpa using h))
          case measure => simp [intOf]
    · go_wp2_with fail
      go_end0
      exact ⟨⟨_, rfl⟩, hfin⟩
end Go.Proofs.Ythdmoghooaccgaa
