/-
  Proved: espalierlaw5.SortAll returns true for any list of calls, and what came in reads as it did. Condition: the library's three tables are laid as the program's text lays them; the card ties them to that text.
  Ahead of it: the walk of the statement; the tables as they are laid.
-/
import Derived.Test.YtllbelglilkdpaaDoorSPlays
import Derived.Test.YtllbelglilkdpaaDoorSOpsIn
import Derived.Test.YtllbelglilkdpaaDoorSBegun
import Derived.Test.YtllbelglilkdpaaDoorRows
import Derived.ChangeSame
import Derived.ChangeVars
import Derived.JoinedOf
import Derived.RowKit
import Derived.RowKitTokens
import Derived.LaidLaws
import Derived.LaidHandle
import Derived.Stop.Joined
import Derived.Stop.LaidErr
import Derived.Lib.LaidTab
import Derived.Lib.ItoaNum
import Derived.Test.YtllbelglilkdpaaDoorTie
import Derived.Test.YtllbelglilkdpaaDoorCards
import Derived.Carry
import Derived.SevenTiedAt
namespace Go.Proofs.YtllbelglilkdpaaDoor
open Go.RowKit
theorem plays_any (o : OpV) (w : World) (ho : o.Ok w) (hG : Laid w) : Calls Tryd.prog 8 #[.agg o.cells] w (PlayR w) := by
  obtain ⟨kd, pk, pn, x, x', sx, px, a, a', ga, pa, kl, c, kl', c', gl, gc, pl, pc, t, u, l, p, m, m', mg, mp⟩ := o
  obtain ⟨ht, hu, hs, hg, hp⟩ := ho
  by_cases k1 : kd = 1
  · subst k1; exact plays_may w x a kl c x' a' kl' c' sx ga gl gc pk pn px pa pl pc ht
  by_cases k2 : kd = 2
  · subst k2; exact plays_same w x a kl c x' a' kl' c' sx ga gl gc pk pn px pa pl pc ht hu
  by_cases k3 : kd = 3
  · subst k3; exact plays_text w x a kl c x' a' kl' c' sx ga gl gc pk pn px pa pl pc ht
  by_cases k4 : kd = 4
  · subst k4; exact plays_read w x a kl c x' a' kl' c' sx ga gl gc pk pn px pa pl pc hs
  by_cases k5 : kd = 5
  · subst k5; exact plays_unify w x a kl c x' a' kl' c' sx ga gl gc pk pn px pa pl pc ht hu
  by_cases k6 : kd = 6
  · subst k6; exact plays_apply w x a kl c x' a' kl' c' sx ga gl gc pk pn px pa pl pc ht hg
  by_cases k7 : kd = 7
  · subst k7; exact plays_of w x a kl c x' a' kl' c' sx ga gl gc pk pn px pa pl pc hp hG
  by_cases k8 : kd = 8
  · subst k8; exact plays_is w x a kl c x' a' kl' c' sx ga gl gc pk pn px pa pl pc ht hp hG
  exact plays_none w x a kl c x' a' kl' c' sx ga gl gc pk pn px pa pl pc kd (fun i h1 h2 => by omega)
theorem OpV.Ok.later {o : OpV} {w w' : World} (h : o.Ok w) (hx : Ext w w') : o.Ok w' := by
  obtain ⟨h1, h2, h3, h4, h5⟩ := h
  exact ⟨h1.later hx, h2.later hx, h3, h4.later hx, h5.later hx⟩
set_option maxRecDepth 100000 in
set_option maxHeartbeats 2000000 in
theorem all_true (a : Option Addr) (n c : Nat) (w : World) (hS : Ops w a n) (hn : n * 184 ≤ 140737488351232) (hG : Laid w) : Calls Tryd.prog 3 #[.slice a n c] w fun e w' => e = .returned (.bool true) ∧ Ext w w' := by
  have HS := hid hS
  have HG := hid hG
  have hn' : (n : Int) ≤ 140737488351232 := by omega
  have HBG := hid (fun w1 (_ : Ext w w1) => begun_any w1)
  clear hS hG
  go_enter Tryd.func3, Tryd.ntmps3
  go_wp2_with fail
  go_at_call 7
  refine (HBG.out w (Ext.refl _)).mono ?_
  rintro e V0 ⟨rfl, hx0⟩
  have HX0 := hid hx0
  clear hx0
  go_wp2_with fail
  go_loopw [3] (fun i wr => ∃ j : Nat, j ≤ n ∧ i = .int .i64 j ∧ Ext w wr) (fun i _ => n - (intOf i).toNat)
  case atStart => exact ⟨0, Nat.zero_le _, rfl, HX0.out⟩
  case round =>
    obtain ⟨j, hj, rfl, hx⟩ := hrel
    have HX := hid hx
    clear hx
    by_cases hlt : j < n
    · have hlt' : (j : Int) < n := by omega
      obtain ⟨g, off, rfl, p, hc, hp⟩ := HS.out j hlt
      have HC := hid (plays_any p wr (hp.later HX.out) (HG.out.later HX.out))
      have hcc : ∀ i v, p.cells[i]? = some v → wr.cell? ⟨g, off + j * 11 + i, none⟩ = some v := fun i v h => (HX.out.kp (fun _ => True)).cell (hc i v h) trivial
      obtain ⟨kd, pk, pn, x, x', sx, px, aa, a', ga, pa, kl, cc, kl', c', gl, gc, pl, pc, t, u, l, p, m, m', mg, mp⟩ := p
      have e0 : wr.cell? ⟨g, off + j * 11, none⟩ = _ := hcc 0 _ rfl
      have e1 := hcc 1 _ rfl
      have e2 := hcc 2 _ rfl
      have e3 := hcc 3 _ rfl
      have e4 := hcc 4 _ rfl
      have e5 := hcc 5 _ rfl
      have e6 := hcc 6 _ rfl
      have e7 := hcc 7 _ rfl
      have e8 := hcc 8 _ rfl
      have e9 := hcc 9 _ rfl
      have e10 := hcc 10 _ rfl
      have hgl := lt_of_cell e0
      clear hc hp hcc
      simp only [OpV.cells] at HC e0 e1 e2 e3 e4 e5 e6 e7 e8 e9 e10
      go_wp2_with fail
      go_at_call 8
      refine HC.out.mono ?_
      rintro e w1 ⟨rfl, hx1⟩
      have HX1 := hid (HX.out.trans hx1)
      clear hx1 e0 e1 e2 e3 e4 e5 e6 e7 e8 e9 e10
      go_wp2_with fail
      go_roundw
      case rel => exact ⟨j + 1, hlt, by go_num, HX1.out⟩
      case measure => simp [intOf]; omega
    · have hlt' : ¬ (j : Int) < n := by omega
      go_wp2_with fail
      go_ret
      exact ⟨rfl, HX.out⟩
end Go.Proofs.YtllbelglilkdpaaDoor
/-
  The library's tables as they are laid: what the rows' condition gives a walk, and a world that meets it.
-/
namespace Go.Proofs.YtllbelglilkdpaaDoor
open Go.ChangeShapes Go.WideShapes Go.RowKit
theorem own : ownKnob Tryd.prog.godebug = none := by kernel_rfl
theorem laidOut : laidOutB Tryd.prog = true := by kernel_rfl
/-- The rows' list. -/
abbrev listed : List (String × DataW Unit) := [("math/bits.deBruijn32tab", Rows.laid_math_bits_deBruijn32tab), ("math/bits.deBruijn64tab", Rows.laid_math_bits_deBruijn64tab), ("internal/strconv.uint64pow10", Rows.laid_internal_strconv_uint64pow10)]
theorem tensNamed : Tryd.prog.globalNamed "internal/strconv.uint64pow10" = some 1 := by kernel_rfl
theorem tensType : (Tryd.prog.globals[1]?).map (·.type) = some 136 := by kernel_rfl
theorem tens_laid : (Rows.laid_internal_strconv_uint64pow10 : DataW Unit) = Lib.tabData .u64 Lib.pow10Tab := by kernel_rfl
theorem table_of_laid {W : World} (h : laidMetH Tryd.prog listed W) : Lib.TabIs Tryd.prog W "internal/strconv.uint64pow10" .u64 Lib.pow10Tab := by
  have h' : laidMet Tryd.prog listed W := h
  have h3 := h'.tail.tail
  rw [tens_laid] at h3
  exact Lib.tabIs_of_head tensNamed tensType Tryd.underlying136 Tryd.underlying117 (by kernel_rfl) (by kernel_rfl) h3
def litsOf (d : DataW Unit) : Array Value := match d with
  | .agg l => (l.map fun | .lit (.int k z) => Value.int k z | _ => .nilIface).toArray
  | _ => #[]
/-- A world in which they are laid. -/
noncomputable def laidWorld (os : Os) : World :=
  let w0 := World.holding Tryd.prog os ⟨#[], #[], []⟩
  { w0 with heap := ((w0.heap.setIfInBounds 1 (.cells (litsOf Rows.laid_internal_strconv_uint64pow10) 136)).setIfInBounds 2 (.cells (litsOf Rows.laid_math_bits_deBruijn32tab) 141)).setIfInBounds 3 (.cells (litsOf Rows.laid_math_bits_deBruijn64tab) 142) }
theorem laidWorld_met (os : Os) (args : Array Value) : laidMetH Tryd.prog listed ((laidWorld os).forCall (fun _ _ => 0) ⟨#[], args, []⟩).memory :=
  laidMetH_of_parts (laidMet_of_run' 8 (by kernel_rfl) (by kernel_rfl)) (by kernel_rfl)
end Go.Proofs.YtllbelglilkdpaaDoor
namespace Go.Proofs.YtllbelglilkdpaaDoor.sortAll
open Go.ChangeShapes Go.WideShapes Go.ChangeAt Go.RowKit
set_option maxRecDepth 100000 in
theorem lifted (os : Os) (started : os.Started) (H : Type) (enc : TypeId × Value → H) :
    ReturnsInHanded {} Tryd.checked os 3 .any (fun w args => (Rows.sortAllSpec.pre enc Tryd.prog Tryd.f3 [] false w args ∧ laidMetH Tryd.prog listed w) ∧ sizedMet enc Tryd.prog Tryd.f3 (OpenSpec.ofChange Rows.sortAllSpec) false w args)
      (Rows.sortAllSpec.post enc Tryd.prog Tryd.f3 false true false false) := by
  refine returnsInHanded_of_change_and (C := Tryd.checked) (X := fun w _ => laidMetH Tryd.prog listed w) (fun _ _ _ hh h => h.of_heap hh) own started (by kernel_rfl) Tryd.func3
    (ChangeSpec.witness_at (enc := enc) (C := Tryd.checked) (os := os) (X := fun w _ => laidMetH Tryd.prog listed w) false (laidWorld os) #[.slice none 0 0] 8 rfl (by kernel_rfl) (by kernel_rfl) (by kernel_rfl) (by kernel_rfl) (by kernel_rfl) (laidWorld_met os _)) ?_
  intro W base args ds gs before hval0 hW _ hsz0 hLL _
  have hval : ∀ (j : Nat) t v, Tryd.f3.params[j]? = some t → args[j]? = some v → Value.okWide Tryd.prog W .any base t v := hval0
  have hsz : (DataW.weightsEach Tryd.prog (Tryd.f3.params.toList ++ Rows.sortAllSpec.plain.varTypes Tryd.prog) (ds ++ gs)).all (· ≤ reachBytes) = true := hsz0
  have hW' := hW
  obtain ⟨p, q, hA0, hV0, rfl, hfz, hnd⟩ := hW
  have hA : DataW.TrodAll enc Tryd.prog W 0 (fun _ => true) true Tryd.f3.params.toList args.toList ds p := hA0
  have hV : DataW.TrodVars enc Tryd.prog W (fun _ => true) [] gs q := hV0
  rw [Tryd.params3] at hA hval hsz
  obtain ⟨v0, vs0, d0, ds0, p0, q0, hargs, rfl, rfl, h0, r0⟩ := trodAll_cons hA
  obtain ⟨rfl, rfl, rfl⟩ := trodAll_nil r0
  obtain rfl : args = #[v0] := by cases args; simp_all
  obtain ⟨rfl, rfl⟩ : gs = [] ∧ q = [] := by
    cases gs with
    | nil => exact ⟨rfl, hV⟩
    | cons g r => exact absurd hV (by intro h; cases h)
  obtain ⟨a0, n0, c0, rfl, hS, hn⟩ := ops_open (hval 0 22 v0 rfl rfl) h0 (List.all_eq_true.2 (fun n hn => List.all_eq_true.1 hsz n (DataW.weights_mem_each (j := 0) (t := 22) (d := d0) rfl rfl n hn)))
  have e1 : Rows.sortAllSpec.fn H ([d0] ++ []) = { results := [.lit (.bool true)], args := [d0] } := by simp [Rows.sortAllSpec]
  have hlt0 : ∀ x ∈ p0, x.block < W.heap.size := fun x hx => hW'.lt x (by simp [hx])
  refine (all_true a0 n0 c0 W hS hn (table_of_laid hLL)).mono fun e W' ⟨he, hx⟩ => ?_
  subst he
  refine ⟨_, rfl, _, _, _, [], p0 ++ [], [], hW', ?_, ?_, ?_, Below.frame hx _, fun h => by cases h⟩
  · rw [e1]; exact trodAll_cons_mk (shut_bool Tryd.underlying4 true) trodAll_mk0
  · rw [e1]; exact trodAll_cons_mk (Below.trod laidOut (by kernel_rfl) (of_decide_eq_true (by kernel_rfl)) h0 hx hlt0) trodAll_mk0
  · rw [e1]; rfl
theorem over : Rows.sortAllRow.holds Tryd.pinned (OpenSpec.ofChange Rows.sortAllSpec) :=
  OpenClaim.holds_of_wide 3 Tryd.f3 rfl rfl rfl rfl rfl rfl rfl ⟨rfl, rfl, rfl, rfl, rfl⟩ rfl rfl rfl rfl rfl (by kernel_rfl) Tryd.func3 (by kernel_rfl)
    (of_decide_eq_true (by kernel_rfl)) (by unfold Func.isWrapper; rw [if_neg (of_decide_eq_false (by kernel_rfl))]; exact ⟨rfl, rfl⟩)
    (fun os started H enc _ => lifted os started H enc)
end Go.Proofs.YtllbelglilkdpaaDoor.sortAll
namespace Go.Proofs.YtllbelglilkdpaaDoor
open Go
/-- THE STATEMENT. -/
theorem sortAll_holds : Rows.SortAllCardSaid :=
  Claim7.holds_tied_plain_at .later [] [.data, .data, .data] true (true, "0d6dc656acca132e63a2d40672bb8d912ff785b2ff7b2d1e7c04984c99560b1f") false
    sortAll.over (fun _ h => by cases h) (by kernel_rfl) (fun _ h => by cases h) sortAll_row_tie rfl ⟨rfl, rfl⟩ (by kernel_rfl) rfl
    (fun f fn hf hfn => by
      obtain rfl : f = 3 := Option.some.inj ((show Tryd.prog.funcNamed Rows.sortAllRow.func = some 3 by kernel_rfl).symm.trans hf) |>.symm
      obtain rfl : fn = Tryd.f3 := (Option.some.inj (Tryd.func3.symm.trans hfn)).symm
      exact ⟨by kernel_rfl, fun j t ht => by
        rw [Tryd.params3] at ht
        rcases j with _ | j
        · obtain rfl : 22 = t := by simpa using ht
          exact (show Tryd.prog.wantsStandIn 22 = false by kernel_rfl)
        · simp at ht⟩)
    (by kernel_rfl)
#print axioms sortAll_holds
end Go.Proofs.YtllbelglilkdpaaDoor
