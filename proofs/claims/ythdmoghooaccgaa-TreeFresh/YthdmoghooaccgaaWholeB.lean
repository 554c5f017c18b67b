/-
  Take of a path that is nil, and of no path: the book's paths stay.
-/
import Derived.Test.YthdmoghooaccgaaTake
import Derived.ArgAppend
namespace Go.Proofs.Ythdmoghooaccgaa
open Go.RowKit
theorem take_none (w : World) (b : Nat) : Calls Try.prog 25 #[.pointer (some ⟨b, 0, none⟩), .slice none 0 0] w fun e w' => (∃ v, e = .returned v) ∧ w' = w := by
  go_enter Try.func25, Try.ntmps25
  go_wp2_with fail
  go_loopw [4] (fun i wr => i = .int .i64 0 ∧ wr = w) (fun _ _ => 0)
  case atStart => exact ⟨rfl, rfl⟩
  case round =>
    obtain ⟨rfl, rfl⟩ := hrel
    go_wp2_with fail
    go_end0
    exact ⟨⟨_, rfl⟩, rfl⟩
set_option maxRecDepth 100000 in
set_option maxHeartbeats 4000000 in
theorem take_nil (w : World) (b base pb : Nat) (lv nv : Value) (rs : List PR) (sz : Int) (h : PBook w b base lv nv rs sz) (hpb : w.heap[pb]? = some (.cells #[.slice none 0 0] 27)) (hpn : ¬ Bk b lv nv rs pb) (hsz : 0 ≤ sz) (hsz' : sz ≤ 4000000000000) :
    Calls Try.prog 25 #[.pointer (some ⟨b, 0, none⟩), .slice (some ⟨pb, 0, none⟩) 1 1] w fun e w' => (∃ v, e = .returned v) ∧ Kp (· ≠ b) w w' ∧ ∃ sz', PBook w' b base lv nv rs sz' ∧ 0 ≤ sz' ∧ sz' ≤ sz + 100000 := by
  obtain ⟨lb, lc, rfl⟩ := ownsRow_slice h.rowL
  obtain ⟨nb, nc, rfl⟩ := ownsRow_slice h.rowN
  have H := hid h
  have HPN := hid hpn
  obtain ⟨b0, b1, b2, b3⟩ := four_of h.box
  have p0 := cell_of (i := 0) hpb rfl
  simp only [List.getElem_toArray, List.getElem_cons_zero] at p0
  have HPB := hid hpb
  clear h hpn hpb
  obtain ⟨rm, hrm⟩ : ∃ rm, roomI 0 0 = rm := ⟨_, rfl⟩
  have hr0 : 0 ≤ rm ∧ rm ≤ 71000 := by rw [← hrm]; unfold roomI; split <;> omega
  have CR := hid (fun W => room_any 0 0 W (by omega) (by omega))
  rw [hrm] at CR
  clear hrm
  go_enter Try.func25, Try.ntmps25
  go_wp2_with fail
  go_loopw [4] (fun i wr => (i = .int .i64 0 ∧ wr = w) ∨ (i = .int .i64 1 ∧ Kp (· ≠ b) w wr ∧ ∃ sz', PBook wr b base (.slice lb rs.length lc) (.slice nb rs.length nc) rs sz' ∧ 0 ≤ sz' ∧ sz' ≤ sz + 100000)) (fun i _ => 1 - (intOf i).toNat)
  case atStart => exact .inl ⟨rfl, rfl⟩
  case round =>
    rcases hrel with ⟨rfl, rfl⟩ | ⟨rfl, hfin⟩
    · go_wp2_with fail
      have f2 := frozen_of (i := 2) H.out.box
      have hpbb : pb ≠ b := fun e => HPN.out (.inl e)
      have hw1 : IntKind.i64.wrap (sz + 4) = sz + 4 := by rw [IntKind.wrap_i64]; omega
      have hw2 : IntKind.i64.wrap (sz + 4 + rm) = sz + 4 + rm := by rw [IntKind.wrap_i64]; omega
      have SETS := hid (show Kp (· ≠ b) wr (wr.setCell ⟨b, 2, none⟩ (.int .i64 (sz + 4 + rm))).drew ∧ (wr.setCell ⟨b, 2, none⟩ (.int .i64 (sz + 4 + rm))).drew.heap[b]? = some (.cells #[.slice lb rs.length lc, .slice nb rs.length nc, .int .i64 (sz + 4 + rm), .slice none 0 0] 55) from ⟨(Kp.set _ _ _ _ (fun h => h rfl)).drew, set_at H.out.box 2 _⟩)
      have PKS := hid (show (wr.setCell ⟨b, 2, none⟩ (.int .i64 (sz + 4 + rm))).drew.cell? ⟨pb, 0, none⟩ = some (.slice none 0 0) from SETS.out.1.cell p0 hpbb)
      go_cut [] from 6 to 92 (fun wx => Kp (· ≠ b) wr wx ∧ wx.heap[b]? = some (.cells #[.slice lb rs.length lc, .slice nb rs.length nc, .int .i64 (sz + 4 + rm), .slice none 0 0] 55))
      case first =>
        have hset := SETS.out
        have hpk := PKS.out
        refine wp_region_held_drew (S := fun W' => W'.cell? ⟨pb, 0, none⟩ = some (.slice none 0 0)) (by kernel_rfl) (p0) (fun hHeld => ?_)
        refine wpAnyH_take (i := 0) (v := ?vax1) rfl (by kernel_rfl) (by kernel_rfl) (by kernel_rfl) (fun _ _ _ h => h) (Or.inl ⟨by kernel_rfl, ?hax1⟩) (by assumption) ?rax1
        case hax1 => (intro w hSw; (try dsimp only at hSw); go_simp; try with_reducible rfl)
        try simp only [Act.put, List.getElem_toArray, List.getElem_cons_zero, List.setIfInBounds_toArray, List.set_cons_zero, List.set_cons_succ]
        refine wpAnyH_take (i := 1) (v := ?vax2) rfl (by kernel_rfl) (by kernel_rfl) (by kernel_rfl) (fun _ _ _ h => h) (Or.inl ⟨by kernel_rfl, ?hax2⟩) (by assumption) ?rax2
        case hax2 => (intro w hSw; (try dsimp only at hSw); go_simp; try with_reducible rfl)
        try simp only [Act.put, List.getElem_toArray, List.getElem_cons_zero, List.getElem_cons_succ, List.setIfInBounds_toArray, List.set_cons_zero, List.set_cons_succ]
        refine wpAnyH_take (i := 2) (v := ?vax3) rfl (by kernel_rfl) (by kernel_rfl) (by kernel_rfl) (fun _ _ _ h => h) (Or.inl ⟨by kernel_rfl, ?hax3⟩) (by assumption) ?rax3
        case hax3 => (intro w hSw; (try dsimp only at hSw); go_simp; try with_reducible rfl)
        try simp only [Act.put, List.getElem_toArray, List.getElem_cons_zero, List.getElem_cons_succ, List.setIfInBounds_toArray, List.set_cons_zero, List.set_cons_succ]
        refine wpAnyH_take (i := 3) (v := ?vax4) rfl (by kernel_rfl) (by kernel_rfl) (by kernel_rfl) (fun _ _ _ h => h) (Or.inl ⟨by kernel_rfl, ?hax4⟩) (by assumption) ?rax4
        case hax4 => (intro w hSw; (try dsimp only at hSw); go_simp; try with_reducible rfl)
        try simp only [Act.put, List.getElem_toArray, List.getElem_cons_zero, List.getElem_cons_succ, List.setIfInBounds_toArray, List.set_cons_zero, List.set_cons_succ]
        refine wpAnyH_take (i := 6) (v := ?vax5) rfl (by kernel_rfl) (by kernel_rfl) (by kernel_rfl) (fun _ _ _ h => h) (Or.inl ⟨by kernel_rfl, ?hax5⟩) (by assumption) ?rax5
        case hax5 => (intro w hSw; (try dsimp only at hSw); go_simp; try with_reducible rfl)
        try simp only [Act.put, List.getElem_toArray, List.getElem_cons_zero, List.getElem_cons_succ, List.setIfInBounds_toArray, List.set_cons_zero, List.set_cons_succ]
        refine wpAnyH_take (i := 7) (v := ?vax6) rfl (by kernel_rfl) (by kernel_rfl) (by kernel_rfl) (fun _ _ _ h => h) (Or.inl ⟨by kernel_rfl, ?hax6⟩) (by assumption) ?rax6
        case hax6 => (intro w hSw; (try dsimp only at hSw); go_simp; try with_reducible rfl)
        try simp only [Act.put, List.getElem_toArray, List.getElem_cons_zero, List.getElem_cons_succ, List.setIfInBounds_toArray, List.set_cons_zero, List.set_cons_succ]
        refine wpAnyH_take (i := 8) (v := ?vax7) rfl (by kernel_rfl) (by kernel_rfl) (by kernel_rfl) (fun _ _ _ h => h) (Or.inl ⟨by kernel_rfl, ?hax7⟩) (by assumption) ?rax7
        case hax7 => (intro w hSw; (try dsimp only at hSw); go_simp; try with_reducible rfl)
        try simp only [Act.put, List.getElem_toArray, List.getElem_cons_zero, List.getElem_cons_succ, List.setIfInBounds_toArray, List.set_cons_zero, List.set_cons_succ]
        refine wpAnyH_take (i := 9) (v := ?vax8) rfl (by kernel_rfl) (by kernel_rfl) (by kernel_rfl) (fun _ _ _ h => h) (Or.inl ⟨by kernel_rfl, ?hax8⟩) (by assumption) ?rax8
        case hax8 => (intro w hSw; (try dsimp only at hSw); go_simp; try with_reducible rfl)
        try simp only [Act.put, List.getElem_toArray, List.getElem_cons_zero, List.getElem_cons_succ, List.setIfInBounds_toArray, List.set_cons_zero, List.set_cons_succ]
        refine wpAnyH_take (i := 10) (v := ?vax9) rfl (by kernel_rfl) (by kernel_rfl) (by kernel_rfl) (fun _ _ _ h => h) (Or.inl ⟨by kernel_rfl, ?hax9⟩) (by assumption) ?rax9
        case hax9 => (intro w hSw; (try dsimp only at hSw); go_simp; try with_reducible rfl)
        try simp only [Act.put, List.getElem_toArray, List.getElem_cons_zero, List.getElem_cons_succ, List.setIfInBounds_toArray, List.set_cons_zero, List.set_cons_succ]
        refine wpAnyH_take (i := 11) (v := ?vax10) rfl (by kernel_rfl) (by kernel_rfl) (by kernel_rfl) (fun _ _ _ h => h) (Or.inl ⟨by kernel_rfl, ?hax10⟩) (by assumption) ?rax10
        case hax10 => (intro w hSw; (try dsimp only at hSw); go_simp; try with_reducible rfl)
        try simp only [Act.put, List.getElem_toArray, List.getElem_cons_zero, List.getElem_cons_succ, List.setIfInBounds_toArray, List.set_cons_zero, List.set_cons_succ]
        refine wpAnyH_take (i := 12) (v := ?vax11) rfl (by kernel_rfl) (by kernel_rfl) (by kernel_rfl) (fun _ _ _ h => h) (Or.inl ⟨by kernel_rfl, ?hax11⟩) (by assumption) ?rax11
        case hax11 => (intro w hSw; (try dsimp only at hSw); go_simp; try with_reducible rfl)
        try simp only [Act.put, List.getElem_toArray, List.getElem_cons_zero, List.getElem_cons_succ, List.setIfInBounds_toArray, List.set_cons_zero, List.set_cons_succ]
        refine wpAnyH_take (i := 13) (v := ?vax12) rfl (by kernel_rfl) (by kernel_rfl) (by kernel_rfl) (fun _ _ _ h => h) (Or.inl ⟨by kernel_rfl, ?hax12⟩) (by assumption) ?rax12
        case hax12 => (intro w hSw; (try dsimp only at hSw); go_simp; try with_reducible rfl)
        try simp only [Act.put, List.getElem_toArray, List.getElem_cons_zero, List.getElem_cons_succ, List.setIfInBounds_toArray, List.set_cons_zero, List.set_cons_succ]
        refine wpAnyH_take (i := 14) (v := ?vax13) rfl (by kernel_rfl) (by kernel_rfl) (by kernel_rfl) (fun _ _ _ h => h) (Or.inl ⟨by kernel_rfl, ?hax13⟩) (by assumption) ?rax13
        case hax13 => (intro w hSw; (try dsimp only at hSw); go_simp; try with_reducible rfl)
        try simp only [Act.put, List.getElem_toArray, List.getElem_cons_zero, List.getElem_cons_succ, List.setIfInBounds_toArray, List.set_cons_zero, List.set_cons_succ]
        refine wpAnyH_take (i := 15) (v := ?vax14) rfl (by kernel_rfl) (by kernel_rfl) (by kernel_rfl) (fun _ _ _ h => h) (Or.inl ⟨by kernel_rfl, ?hax14⟩) (by assumption) ?rax14
        case hax14 => (intro w hSw; (try dsimp only at hSw); go_simp; try with_reducible rfl)
        try simp only [Act.put, List.getElem_toArray, List.getElem_cons_zero, List.getElem_cons_succ, List.setIfInBounds_toArray, List.set_cons_zero, List.set_cons_succ]
        refine wpAnyH_ready (rs := [4, 16]) (by kernel_rfl) (by simp) ?_
        refine AllReadyH.cons rfl (fun K hK => ?_) (AllReadyH.cons rfl (fun K hK => ?_) AllReadyH.nil)
        · go_simp
          refine hK.out _ _ (p0) (fun hHeld => ?_)
          clear hK K
          try simp only [Act.put, List.getElem_toArray, List.getElem_cons_zero, List.getElem_cons_succ, List.setIfInBounds_toArray, List.set_cons_zero, List.set_cons_succ]
          refine wpAnyH_take (i := 5) (v := .int .i64 (sz + 4)) rfl (by kernel_rfl) (by kernel_rfl) (by kernel_rfl) (fun _ _ _ h => h) (Or.inl ⟨by kernel_rfl, ?hbx1⟩) (by assumption) ?rbx1
          case hbx1 => (intro w hSw; (try dsimp only at hSw); go_simp; try with_reducible rfl)
          try simp only [Act.put, List.getElem_toArray, List.getElem_cons_zero, List.getElem_cons_succ, List.setIfInBounds_toArray, List.set_cons_zero, List.set_cons_succ]
          refine wpAnyH_ready (rs := [16]) (by kernel_rfl) (by simp) ?_
          refine AllReadyH.cons rfl (fun K hK => ?_) AllReadyH.nil
          go_simp
          refine (CR.out _).mono ?_
          rintro e w1 ⟨rfl, rfl⟩
          show K _ _
          refine hK.out _ _ (p0) (fun hHeld => ?_)
          clear hK K
          try simp only [Act.put, List.getElem_toArray, List.getElem_cons_zero, List.getElem_cons_succ, List.setIfInBounds_toArray, List.set_cons_zero, List.set_cons_succ]
          refine wpAnyH_take (i := 17) (v := .int .i64 (sz + 4 + rm)) rfl (by kernel_rfl) (by kernel_rfl) (by kernel_rfl) (fun _ _ _ h => h) (Or.inl ⟨by kernel_rfl, ?hbx2⟩) (by assumption) ?rbx2
          case hbx2 => (intro w hSw; (try dsimp only at hSw); go_simp; try with_reducible rfl)
          try simp only [Act.put, List.getElem_toArray, List.getElem_cons_zero, List.getElem_cons_succ, List.setIfInBounds_toArray, List.set_cons_zero, List.set_cons_succ]
          refine wpAnyH_take (i := 18) (v := ?vbx3) rfl (by kernel_rfl) (by kernel_rfl) (by kernel_rfl) (fun _ _ _ h => h) (Or.inl ⟨by kernel_rfl, ?hbx3⟩) (by assumption) ?rbx3
          case hbx3 => (intro w hSw; (try dsimp only at hSw); go_simp; try with_reducible rfl)
          try simp only [Act.put, List.getElem_toArray, List.getElem_cons_zero, List.getElem_cons_succ, List.setIfInBounds_toArray, List.set_cons_zero, List.set_cons_succ]
          refine wpAnyH_take (i := 19) (v := ?vbx4) rfl (by kernel_rfl) (by kernel_rfl) (by kernel_rfl) (fun _ _ _ h => h) (Or.inl ⟨by kernel_rfl, ?hbx4⟩) (by assumption) ?rbx4
          case hbx4 => (intro w hSw; (try dsimp only at hSw); go_simp; try with_reducible rfl)
          try simp only [Act.put, List.getElem_toArray, List.getElem_cons_zero, List.getElem_cons_succ, List.setIfInBounds_toArray, List.set_cons_zero, List.set_cons_succ]
          refine wpAnyH_ready (rs := [20]) (by kernel_rfl) (by simp) ?_
          refine AllReadyH.cons rfl (fun K hK => ?_) AllReadyH.nil
          go_simp
          refine hK.out _ _ (hpk) (fun hHeld => ?_)
          clear hK K
          try simp only [Act.put, List.getElem_toArray, List.getElem_cons_zero, List.getElem_cons_succ, List.setIfInBounds_toArray, List.set_cons_zero, List.set_cons_succ]
          refine wpAnyH_done (by kernel_rfl) ?_ _
          go_wp2_with fail
          go_meet
          case rel => exact hset
        · go_simp
          refine (CR.out _).mono ?_
          rintro e w1 ⟨rfl, rfl⟩
          show K _ _
          refine hK.out _ _ (p0) (fun hHeld => ?_)
          clear hK K
          try simp only [Act.put, List.getElem_toArray, List.getElem_cons_zero, List.getElem_cons_succ, List.setIfInBounds_toArray, List.set_cons_zero, List.set_cons_succ]
          refine wpAnyH_ready (rs := [4]) (by kernel_rfl) (by simp) ?_
          refine AllReadyH.cons rfl (fun K hK => ?_) AllReadyH.nil
          go_simp
          refine hK.out _ _ (p0) (fun hHeld => ?_)
          clear hK K
          try simp only [Act.put, List.getElem_toArray, List.getElem_cons_zero, List.getElem_cons_succ, List.setIfInBounds_toArray, List.set_cons_zero, List.set_cons_succ]
          refine wpAnyH_take (i := 5) (v := .int .i64 (sz + 4)) rfl (by kernel_rfl) (by kernel_rfl) (by kernel_rfl) (fun _ _ _ h => h) (Or.inl ⟨by kernel_rfl, ?hcx1⟩) (by assumption) ?rcx1
          case hcx1 => (intro w hSw; (try dsimp only at hSw); go_simp; try with_reducible rfl)
          try simp only [Act.put, List.getElem_toArray, List.getElem_cons_zero, List.getElem_cons_succ, List.setIfInBounds_toArray, List.set_cons_zero, List.set_cons_succ]
          refine wpAnyH_take (i := 17) (v := .int .i64 (sz + 4 + rm)) rfl (by kernel_rfl) (by kernel_rfl) (by kernel_rfl) (fun _ _ _ h => h) (Or.inl ⟨by kernel_rfl, ?hcx2⟩) (by assumption) ?rcx2
          case hcx2 => (intro w hSw; (try dsimp only at hSw); go_simp; try with_reducible rfl)
          try simp only [Act.put, List.getElem_toArray, List.getElem_cons_zero, List.getElem_cons_succ, List.setIfInBounds_toArray, List.set_cons_zero, List.set_cons_succ]
          refine wpAnyH_take (i := 18) (v := ?vcx3) rfl (by kernel_rfl) (by kernel_rfl) (by kernel_rfl) (fun _ _ _ h => h) (Or.inl ⟨by kernel_rfl, ?hcx3⟩) (by assumption) ?rcx3
          case hcx3 => (intro w hSw; (try dsimp only at hSw); go_simp; try with_reducible rfl)
          try simp only [Act.put, List.getElem_toArray, List.getElem_cons_zero, List.getElem_cons_succ, List.setIfInBounds_toArray, List.set_cons_zero, List.set_cons_succ]
          refine wpAnyH_take (i := 19) (v := ?vcx4) rfl (by kernel_rfl) (by kernel_rfl) (by kernel_rfl) (fun _ _ _ h => h) (Or.inl ⟨by kernel_rfl, ?hcx4⟩) (by assumption) ?rcx4
          case hcx4 => (intro w hSw; (try dsimp only at hSw); go_simp; try with_reducible rfl)
          try simp only [Act.put, List.getElem_toArray, List.getElem_cons_zero, List.getElem_cons_succ, List.setIfInBounds_toArray, List.set_cons_zero, List.set_cons_succ]
          refine wpAnyH_ready (rs := [20]) (by kernel_rfl) (by simp) ?_
          refine AllReadyH.cons rfl (fun K hK => ?_) AllReadyH.nil
          go_simp
          refine hK.out _ _ (hpk) (fun hHeld => ?_)
          clear hK K
          try simp only [Act.put, List.getElem_toArray, List.getElem_cons_zero, List.getElem_cons_succ, List.setIfInBounds_toArray, List.set_cons_zero, List.set_cons_succ]
          refine wpAnyH_done (by kernel_rfl) ?_ _
          go_wp2_with fail
          go_meet
          case rel => exact hset
      case rest =>
      obtain ⟨hk1, hb1⟩ := hcut
      obtain ⟨V1, rfl⟩ : ∃ V1, V1 = wc := ⟨wc, rfl⟩
      have HNE := hid H.out.ne
      have HP1 := hid (show PBook V1 b base (.slice lb rs.length lc) (.slice nb rs.length nc) rs (sz + 4 + rm) from
        ⟨hb1, ownsRow_keep H.out.rowL hk1 (fun q hq => HNE.out.1 q hq), ownsRow_keep H.out.rowN hk1 (fun q hq => HNE.out.2.1 q hq), fun i hi => (H.out.full i hi).keep hk1 (HNE.out.2.2.1 _ (List.mem_map.2 ⟨_, List.getElem_mem hi, rfl⟩)), H.out.nodup, H.out.apart⟩)
      have HK1 := hid hk1
      have HPB1 := hid (hk1.block' HPB.out hpbb)
      clear hk1 hb1 SETS PKS b0 b1 b2 b3 f2
      obtain ⟨b0, b1, b2, b3⟩ := four_of HP1.out.box
      have q0 := cell_of (i := 0) HPB1.out rfl
      simp only [List.getElem_toArray, List.getElem_cons_zero] at q0
      go_wp2_with fail
      go_roundw
      case rel => exact .inr ⟨by go_num, HK1.out, _, HP1.out, by omega, by omega⟩
      case measure => simp [intOf]
    · go_wp2_with fail
      go_end0
      exact ⟨⟨_, rfl⟩, hfin⟩
end Go.Proofs.Ythdmoghooaccgaa
/-
  What Whole of the statements' Paths holds: paths that grow over their spare room; append there.
-/
namespace Go.Proofs.Ythdmoghooaccgaa
open Go.RowKit
theorem step_append_room {ops : Array Oper} {o : Oper} {ac : Act} {K : Act → World → Prop} {Q : Exit → Act → World → Prop} {E : Prop} (w : World) (hgd : o.guard = none) (x y : Operand)
    (ho : o.op = .call { callee := .builtin .append, args := #[x, y], argTypes := #[27, 27] })
    (g n c p : Nat) (k : Int) (hx : ac.eval x = .slice (some ⟨g, 0, none⟩) n c) (hy : ac.eval y = .slice (some ⟨p, 0, none⟩) 1 1) (hk : w.cell? ⟨p, 0, none⟩ = some (.int .i64 k)) (hroom : n + 1 ≤ c) (hc : (w.cell? ⟨g, n, none⟩).isSome = true) (hf : w.frozen? ⟨g, n, none⟩ = false)
    (h : K (ac.put o.dst (.slice (some ⟨g, 0, none⟩) (n + 1) c)) (w.setCell ⟨g, n, none⟩ (.int .i64 k))) :
    if Region.wanted o (yielded ops ac.tmps) = true then Oper.wp Try.prog o ac w K Q else E := by
  have hw : Region.wanted o (yielded ops ac.tmps) = true := by simp [Region.wanted, hgd]
  rw [if_pos hw]
  obtain ⟨i0, hi0, hz0, hz1, hz2⟩ := info_parts intInfo
  have hr := run_append_room_cells (P := Try.prog) w 27 o.type 3 i0 Try.underlying27 hi0 g 0 n c ⟨p, 0, none⟩ 1 1 [.int .i64 k] (by rw [hz1]; rfl) (fun j u hu => by
    match j, hu with
    | 0, hu => cases hu; rw [add_none]; exact hk) (fun u hu => by simp at hu; subst hu; rfl) hroom (fun j hj => by
    have hj' : j = 0 := by simpa using hj
    subst hj'
    rw [hz1]; simpa using hc) (fun j hj => by
    have hj' : j = 0 := by simpa using hj
    subst hj'
    rw [hz1]; simpa using hf)
  rw [hz1] at hr
  simp only [World.setCells, Nat.mul_one, Nat.zero_add] at hr
  unfold Oper.wp execOp
  simp only [ho, resolve, invoke, builtin, Sem.run_bind, Sem.run_pure, Result.andThen_ok, List.map_toArray, List.map_cons, List.map_nil, hx, hy, hr]
  exact h
theorem row_setAt {w : World} {base g n c i : Nat} {e : TypeId} {xs : List Value} (h : w.ownsRow base e 1 (.slice (some ⟨g, 0, none⟩) n c) n xs) (v : Value) : (w.setCell ⟨g, i, none⟩ v).ownsRow base e 1 (.slice (some ⟨g, 0, none⟩) n c) n (xs.set i v) := by
  refine ⟨by rw [List.length_set]; exact h.1, ?_⟩
  rcases h.2 with ⟨h0, _⟩ | ⟨g', cap, cur, h0, h1, h2, h3, h4, h5, h6⟩
  · cases h0
  · simp only [Value.slice.injEq, Option.some.injEq, Addr.mk.injEq, and_true] at h0
    obtain ⟨rfl, _, rfl⟩ := h0
    refine .inr ⟨g, c, cur.setIfInBounds i v, rfl, h1, set_at h2 i v, h3, h4, by simpa using h5, ?_⟩
    rw [← h6]
    simp [List.take_set]
/-- How far a path is grown. -/
def goal (r : PR) : Nat := (roomI r.2.1 r.2.2).toNat
theorem goal_le {r : PR} (h : r.2.1 ≤ r.2.2) : r.2.1 ≤ goal r ∧ goal r ≤ r.2.2 ∧ roomI r.2.1 r.2.2 = (goal r : Int) := by
  unfold goal roomI
  split <;> omega
/-- A path that is grown so far: its mark, then the other one. -/
def Grown (w : World) (base : Nat) (r : PR) (n : Nat) (m m' : Int) : Prop :=
  base ≤ r.1 ∧ r.2.1 ≤ n ∧ n ≤ r.2.2 ∧ r.2.2 ≤ maxLen ∧ ∃ cur, w.heap[r.1]? = some (.cells cur 3) ∧ cur.size = r.2.2 ∧ (∀ k, k < r.2.2 → ∃ v : Value, cur[k]? = some v) ∧ (∀ k, k < r.2.1 → cur[k]? = some (.int .i64 m)) ∧ ∀ k, r.2.1 ≤ k → k < n → cur[k]? = some (.int .i64 m')
theorem Grown.keep {K : Nat → Prop} {w w' : World} {base n : Nat} {r : PR} {m m' : Int} (h : Grown w base r n m m') (hk : Kp K w w') (hr : K r.1) : Grown w' base r n m m' := by
  obtain ⟨h1, h3, h4, h5, cur, h6, h7⟩ := h
  exact ⟨h1, h3, h4, h5, cur, hk.block' h6 hr, h7⟩
theorem Full.grown {w : World} {base : Nat} {r : PR} {m : Int} (h : Full w base r m) (m' : Int) : Grown w base r r.2.1 m m' := by
  obtain ⟨h1, _, h3, h4, cur, h5, h6, h7, h8⟩ := h
  exact ⟨h1, Nat.le_refl _, h3, h4, cur, h5, h6, h7, h8, fun k h h' => by omega⟩
/-- The book while it grows: n tells how far each path is grown. -/
structure GBook (w : World) (b base lb lc : Nat) (nv : Value) (rs : List PR) (sz : Int) (n : Nat → Nat) : Prop where
  box : w.heap[b]? = some (.cells #[.slice (some ⟨lb, 0, none⟩) rs.length lc, nv, .int .i64 sz, .slice none 0 0] 55)
  rowL : ∃ L, w.ownsRow base 27 1 (.slice (some ⟨lb, 0, none⟩) rs.length lc) rs.length L ∧ ∀ i, (h : i < rs.length) → L[i]? = some (.slice (some ⟨rs[i].1, 0, none⟩) (n i) rs[i].2.2)
  rowN : w.ownsRow base 3 1 nv rs.length (rs.map (fun r => Value.int .i64 (r.2.1 : Int)))
  grown : ∀ i, (h : i < rs.length) → Grown w base rs[i] (n i) (-2 * ((i : Int) + 1)) (-2 * (i : Int) - 3)
  nodup : (rs.map (·.1)).Nodup
  apart : ∀ r ∈ rs, nv.ownBlock ≠ some r.1
  apartL : ∀ r ∈ rs, lb ≠ r.1
  ne : lb ≠ b ∧ nv.ownBlock ≠ some lb ∧ nv.ownBlock ≠ some b ∧ ∀ r ∈ rs, r.1 ≠ b
theorem PBook.grow {w : World} {b base lb lc : Nat} {nv : Value} {rs : List PR} {sz : Int} (h : PBook w b base (.slice (some ⟨lb, 0, none⟩) rs.length lc) nv rs sz) : GBook w b base lb lc nv rs sz (fun i => (rs[i]?.map (·.2.1)).getD 0) where
  box := h.box
  rowL := ⟨_, h.rowL, fun i hi => by simp [hi, prV]⟩
  rowN := h.rowN
  grown := fun i hi => by simpa [hi] using (h.full i hi).grown (-2 * (i : Int) - 3)
  nodup := h.nodup
  apart := h.apart
  apartL := fun r hr e => h.ne.2.2.2.2 r.1 (List.mem_map.2 ⟨r, hr, rfl⟩) (by rw [← e]; rfl)
  ne := ⟨h.ne.1 lb rfl, h.ne.2.2.2.1 lb rfl, fun e => h.ne.2.1 b e rfl, fun r hr => h.ne.2.2.1 r.1 (List.mem_map.2 ⟨r, hr, rfl⟩)⟩
end Go.Proofs.Ythdmoghooaccgaa
/-
  Whole of the statements' Paths, by a contract: each path holds its own marks alone.
-/
namespace Go.Proofs.Ythdmoghooaccgaa
open Go.RowKit
/-- The length that a cell tells. -/
def lenC : Option Value → Nat | some (.slice _ n _) => n | _ => 0
theorem GBook.cells {w : World} {b base lb lc : Nat} {nv : Value} {rs : List PR} {sz : Int} {n : Nat → Nat} (h : GBook w b base lb lc nv rs sz n) {i : Nat} (hi : i < rs.length) : w.cell? ⟨lb, i, none⟩ = some (.slice (some ⟨rs[i].1, 0, none⟩) (n i) rs[i].2.2) := by
  obtain ⟨L, hL, hc⟩ := h.rowL
  exact (hL.cellAt i (by omega)).trans (hc i hi)
theorem GBook.lens {w : World} {b base lb lc nb nc : Nat} {rs : List PR} {sz : Int} {n : Nat → Nat} (h : GBook w b base lb lc (.slice (some ⟨nb, 0, none⟩) rs.length nc) rs sz n) {i : Nat} (hi : i < rs.length) : w.cell? ⟨nb, i, none⟩ = some (.int .i64 (rs[i].2.1 : Int)) := by
  rw [h.rowN.cellAt i (by omega)]
  simp [hi]
theorem GBook.later {w w' : World} {b base lb lc : Nat} {nv : Value} {rs : List PR} {sz : Int} {n : Nat → Nat} (h : GBook w b base lb lc nv rs sz n) (hx : Ext w w') : GBook w' b base lb lc nv rs sz n := by
  obtain ⟨L, hL, hc⟩ := h.rowL
  exact ⟨hx.block h.box, ⟨L, ownsRow_keep hL (hx.kp (fun _ => True)) (fun _ _ => trivial), hc⟩, ownsRow_keep h.rowN (hx.kp (fun _ => True)) (fun _ _ => trivial), fun i hi => (h.grown i hi).keep (hx.kp (fun _ => True)) trivial, h.nodup, h.apart, h.apartL, h.ne⟩
theorem nodup_at {rs : List PR} (h : (rs.map (·.1)).Nodup) {i j : Nat} (hi : i < rs.length) (hj : j < rs.length) (e : rs[i].1 = rs[j].1) : i = j := by
  have hp := List.pairwise_iff_getElem.1 h
  rcases Nat.lt_trichotomy i j with hl | hl | hl
  · have := hp i j (by simpa using hi) (by simpa using hj) hl
    simp only [List.getElem_map] at this
    exact absurd e this
  · exact hl
  · have := hp j i (by simpa using hj) (by simpa using hi) hl
    simp only [List.getElem_map] at this
    exact absurd e.symm this
/-- A path grown by one. -/
theorem GBook.step {w : World} {b base lb lc : Nat} {nv : Value} {rs : List PR} {sz : Int} {n : Nat → Nat} (h : GBook w b base lb lc nv rs sz n) {j : Nat} (hj : j < rs.length) (hr : n j + 1 ≤ rs[j].2.2) (w1 : World) (hx : Ext w w1) :
    GBook ((w1.setCell ⟨rs[j].1, n j, none⟩ (.int .i64 (-2 * (j : Int) - 3))).setCell ⟨lb, j, none⟩ (.slice (some ⟨rs[j].1, 0, none⟩) (n j + 1) rs[j].2.2)) b base lb lc nv rs sz (fun i => if i = j then n j + 1 else n i) := by
  have hmj : rs[j] ∈ rs := List.getElem_mem hj
  have k1 := Kp.set (K := (· ≠ rs[j].1)) w1 rs[j].1 (n j) (.int .i64 (-2 * (j : Int) - 3)) (fun h => h rfl)
  have k2 := Kp.set (K := (· ≠ lb)) (w1.setCell ⟨rs[j].1, n j, none⟩ (.int .i64 (-2 * (j : Int) - 3))) lb j (.slice (some ⟨rs[j].1, 0, none⟩) (n j + 1) rs[j].2.2) (fun h => h rfl)
  have kk : Kp (fun q => q ≠ rs[j].1 ∧ q ≠ lb) w ((w1.setCell ⟨rs[j].1, n j, none⟩ (.int .i64 (-2 * (j : Int) - 3))).setCell ⟨lb, j, none⟩ (.slice (some ⟨rs[j].1, 0, none⟩) (n j + 1) rs[j].2.2)) := ((hx.kp _).trans (k1.mono (fun q _ h => h.1))).trans (k2.mono (fun q _ h => h.2))
  obtain ⟨L, hL, hc⟩ := h.rowL
  refine ⟨kk.block' h.box ⟨fun e => h.ne.2.2.2 _ hmj e.symm, fun e => h.ne.1 e.symm⟩, ⟨L.set j (.slice (some ⟨rs[j].1, 0, none⟩) (n j + 1) rs[j].2.2), ?_, fun i hi => ?_⟩, ownsRow_keep h.rowN kk (fun q hq => ⟨fun e => h.apart _ hmj (by rw [← e]; exact hq), fun e => h.ne.2.1 (by rw [← e]; exact hq)⟩), fun i hi => ?_, h.nodup, h.apart, h.apartL, h.ne⟩
  · exact row_setAt (ownsRow_keep hL ((hx.kp (· ≠ rs[j].1)).trans k1) (fun q hq => by cases hq; exact h.apartL _ hmj)) _
  · by_cases e : i = j
    · subst e
      have hl : L.length = rs.length := by have := hL.1; omega
      rw [List.getElem?_set_self (by omega), if_pos rfl]
    · rw [List.getElem?_set_ne (fun e2 => e e2.symm), if_neg e]; exact hc i hi
  · by_cases e : i = j
    · subst e
      rw [if_pos rfl]
      obtain ⟨h1, h3, h4, h5, cur, h6, h7, h8, h9, h10⟩ := h.grown i hi
      refine ⟨h1, by omega, hr, h5, cur.setIfInBounds (n i) (.int .i64 (-2 * (i : Int) - 3)), k2.block' (set_at (hx.block h6) (n i) _) (fun e => h.apartL _ hmj e.symm), by simpa using h7, fun k hk => ?_, fun k hk => ?_, fun k hk hk' => ?_⟩
      · by_cases e : n i = k
        · subst e; exact ⟨_, by rw [Array.getElem?_setIfInBounds_self_of_lt (by omega)]⟩
        · rw [Array.getElem?_setIfInBounds_ne e]; exact h8 k hk
      · rw [Array.getElem?_setIfInBounds_ne (by omega)]; exact h9 k hk
      · by_cases e : n i = k
        · subst e; rw [Array.getElem?_setIfInBounds_self_of_lt (by omega)]
        · rw [Array.getElem?_setIfInBounds_ne e]; exact h10 k hk (by omega)
    · rw [if_neg e]
      have hmi : rs[i] ∈ rs := List.getElem_mem hi
      refine (h.grown i hi).keep kk ⟨fun e2 => e ?_, fun e2 => h.apartL _ hmi e2.symm⟩
      exact nodup_at h.nodup hi hj e2
end Go.Proofs.Ythdmoghooaccgaa
