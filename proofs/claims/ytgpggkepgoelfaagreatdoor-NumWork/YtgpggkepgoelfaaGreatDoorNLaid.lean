/-
  espalierlaw8.begun by a contract: it tells true.
-/
import Derived.Test.YtgpggkepgoelfaaGreatDoorNKit
import Derived.Test.YtgpggkepgoelfaaGreatDoorNLaw
import Derived.Test.YtgpggkepgoelfaaGreatDoorRows
import Derived.Test.YtgpggkepgoelfaaGreatDoorTie
import Derived.Test.YtgpggkepgoelfaaGreatDoorCards
import Derived.ChangeSame
import Derived.ChangeVars
import Derived.JoinedOf
import Derived.RowKit
import Derived.RowKitTokens
import Derived.LaidLaws
import Derived.LaidHandle
import Derived.Stop.Joined
import Derived.Stop.LaidErr
import Derived.Lib.LaidTab
import Derived.ProofKit
import Derived.OpenShut
import Derived.SizedLaws
import Derived.Carry
import Derived.Handed
import Derived.HandedShaped
import Derived.Shelf.Vars
import Derived.SevenTiedAt
namespace Go.Proofs.YtgpggkepgoelfaaGreatDoor
open Go.RowKit
theorem find_sum : kdFind numK ⟨#[110, 117, 109, 46, 115, 117, 109]⟩ = some numK[12] := by kernel_rfl
theorem wk_sum (t : T) (a : Option Addr) (c : Nat) (w : World) (hm : MaxAt w) (hp : PRow w a [t]) : Calls Tryz.prog 11 #[.string ⟨#[110, 117, 109, 46, 115, 117, 109]⟩, .slice a 1 c] w fun e w' => e = .returned (refV 1) ∧ Ext w w' := by
  refine workN_of _ a 1 c w _ ⟨_, _, _, rfl⟩ fun w1 tb hx1 ht => ?_
  have hwk := work_any numK tb ⟨#[110, 117, 109, 46, 115, 117, 109]⟩ a c [t] (refV 1) w1 (by rw [numLen]; decide) ht (hm.later hx1) (hp.later hx1) (Nat.le_of_ble_eq_true rfl) numJ
    (fun k f h1 h2 _ _ _ => by
      rw [find_sum] at h1
      obtain rfl := Option.some.inj h1
      cases h2)
    (fun k f h1 h2 => by
      rw [find_sum] at h1
      obtain rfl := Option.some.inj h1
      cases h2)
  have hV : workV numK ⟨#[110, 117, 109, 46, 115, 117, 109]⟩ [t] (refV 1) = refV 1 := by
    unfold workV
    rw [find_sum]
    rfl
  rw [hV] at hwk
  exact hwk
theorem wk_bad (x : Int) (a : Option Addr) (c : Nat) (w : World) (hm : MaxAt w) (hp : PRow w a [intT x, unitT]) : Calls Tryz.prog 11 #[.string ⟨#[110, 117, 109, 46, 97, 100, 100]⟩, .slice a 2 c] w fun e w' => e = .returned (refV 20) ∧ Ext w w' := by
  refine workN_of _ a 2 c w _ ⟨_, _, _, rfl⟩ fun w1 tb hx1 ht => ?_
  have hno : rightB numK[0].signs.data.toList ([intT x, unitT].map T.kind) = false := by kernel_rfl
  have hwk := work_any numK tb ⟨#[110, 117, 109, 46, 97, 100, 100]⟩ a c [intT x, unitT] (refV 20) w1 (by rw [numLen]; decide) ht (hm.later hx1) (hp.later hx1) (Nat.le_of_ble_eq_true rfl) numJ
    (fun k f h1 h2 _ _ h3 => by
      rw [find_add] at h1
      obtain rfl := Option.some.inj h1
      rw [hno] at h3
      cases h3)
    (fun k f h1 h2 => by
      rw [find_add] at h1
      obtain rfl := Option.some.inj h1
      obtain rfl : 50 = f := Option.some.inj h2
      exact ent_add)
  have hV : workV numK ⟨#[110, 117, 109, 46, 97, 100, 100]⟩ [intT x, unitT] (refV 20) = refV 20 := by
    unfold workV
    rw [find_add]
    show (if cntOk numK[0] 2 = false then refV 11 else if ∀ t ∈ [intT x, unitT], t.may then (if rightB numK[0].signs.data.toList ([intT x, unitT].map T.kind) = true then refV 20 else refV 20) else refV 1) = _
    rw [if_neg (show ¬ cntOk numK[0] 2 = false by rw [show cntOk numK[0] 2 = true from by kernel_rfl]; decide), if_pos (by intro t ht; simp only [List.mem_cons, List.not_mem_nil, or_false] at ht; rcases ht with rfl | rfl; exact intT_may _; exact unitT_may), if_neg (by rw [hno]; decide)]
  rw [hV] at hwk
  exact hwk

/-- Two numbers in a block, as the statements hand them in. -/
theorem lw2 (op : ByteArray) (x y : Int) (g : Nat) (R : Value) (w : World) (hm : MaxAt w) (h : w.heap[g]? = some (.cells #[.int .i64 x, .int .i64 y] 2)) (hR : IRes R)
    (hwk : ∀ w1 a c, MaxAt w1 → PRow w1 a [intT x, intT y] → Calls Tryz.prog 11 #[.string op, .slice a 2 c] w1 fun e w' => e = .returned R ∧ Ext w1 w') :
    Calls Tryz.prog 25 #[.string op, .slice (some ⟨g, 0, none⟩) 2 2] w fun e w' => e = .returned (lawV R) ∧ Ext w w' :=
  lawWork op [x, y] g R w hm (by simp) (fun j hj => by
    match j, hj with
    | 0, _ => exact cell_of h rfl
    | 1, _ => exact cell_of h rfl
    | n + 2, h => exact absurd h (by simp)) hR hwk
theorem lw1 (op : ByteArray) (x : Int) (g : Nat) (R : Value) (w : World) (hm : MaxAt w) (h : w.heap[g]? = some (.cells #[.int .i64 x] 2)) (hR : IRes R)
    (hwk : ∀ w1 a c, MaxAt w1 → PRow w1 a [intT x] → Calls Tryz.prog 11 #[.string op, .slice a 1 c] w1 fun e w' => e = .returned R ∧ Ext w1 w') :
    Calls Tryz.prog 25 #[.string op, .slice (some ⟨g, 0, none⟩) 1 1] w fun e w' => e = .returned (lawV R) ∧ Ext w w' :=
  lawWork op [x] g R w hm (by simp) (fun j hj => by
    match j, hj with
    | 0, _ => exact cell_of h rfl
    | n + 1, h => exact absurd h (by simp)) hR hwk
theorem prow2 {w : World} {g : Nat} {k0 n0 k1 n1 : Int} {t0 t1 : T} (h : w.heap[g]? = some (.cells #[.int .i64 k0, .int .i64 n0, .string ⟨#[]⟩, .slice none 0 0, .int .i64 k1, .int .i64 n1, .string ⟨#[]⟩, .slice none 0 0] 34)) (h0 : t0 = .node k0 n0 ⟨#[]⟩ []) (h1 : t1 = .node k1 n1 ⟨#[]⟩ []) : PRow w (some ⟨g, 0, none⟩) [t0, t1] := by
  refine .inr ⟨g, 0, rfl, fun j hj => ?_⟩
  match j, hj with
  | 0, _ => exact ⟨fun _ => True, 1, _, _, _, _, ⟨cell_of h rfl, cell_of h rfl, cell_of h rfl, cell_of h rfl⟩, by subst h0; exact ⟨none, 0, rfl, by decide, by decide, .inl rfl⟩⟩
  | 1, _ => exact ⟨fun _ => True, 1, _, _, _, _, ⟨cell_of h rfl, cell_of h rfl, cell_of h rfl, cell_of h rfl⟩, by subst h1; exact ⟨none, 0, rfl, by decide, by decide, .inl rfl⟩⟩
  | n + 2, h => exact absurd h (by simp)
theorem prow1 {w : World} {g : Nat} {k0 n0 : Int} {t0 : T} (h : w.heap[g]? = some (.cells #[.int .i64 k0, .int .i64 n0, .string ⟨#[]⟩, .slice none 0 0] 34)) (h0 : t0 = .node k0 n0 ⟨#[]⟩ []) : PRow w (some ⟨g, 0, none⟩) [t0] := by
  refine .inr ⟨g, 0, rfl, fun j hj => ?_⟩
  match j, hj with
  | 0, _ => exact ⟨fun _ => True, 1, _, _, _, _, ⟨cell_of h rfl, cell_of h rfl, cell_of h rfl, cell_of h rfl⟩, by subst h0; exact ⟨none, 0, rfl, by decide, by decide, .inl rfl⟩⟩
  | n + 1, h => exact absurd h (by simp)
set_option maxRecDepth 100000 in
set_option maxHeartbeats 2000000 in
theorem begun_any (w : World) (hm : MaxAt w) (hl : Laid w) : Calls Tryz.prog 9 #[] w fun e w' => e = .returned (.bool true) ∧ Ext w w' := by
  have HM := hid hm
  have HL := hid hl
  have hqt : ∀ w : World, (binOp .eql 29 (.iface 52 (.bool true)) (.iface 52 (.bool true))).run Tryz.prog w = .ok (.bool true) w := fun _ => by kernel_rfl
  clear hm hl
  go_enter Tryz.func9, Tryz.ntmps9
  go_wp2_with fail
  refine (lw2 ⟨#[110, 117, 109, 46, 109, 111, 100]⟩ (-7) 2 _ (modW (-7) 2) _ (HM.out.later (Ext.alloc _ _)) (blk0 _ _) (.inl ⟨1, by kernel_rfl⟩) (fun w1 a c h1 h2 => wk_mod (-7) 2 (by unfold inR; decide) (by unfold inR; decide) a c w1 h1 h2)).mono ?_
  rintro e w1 ⟨rfl, hx1⟩
  rw [show lawV (modW (-7) 2) = .tuple #[.int .i64 1, .int .i64 0] from by kernel_rfl]
  have X1 := hid ((Ext.alloc _ _).trans hx1)
  clear hx1
  go_wp2_with fail
  refine (lw2 ⟨#[110, 117, 109, 46, 113, 117, 111]⟩ 1 0 _ (quoV 1 0) _ (HM.out.later (X1.out.trans (Ext.alloc _ _))) (blk0 _ _) (.inr ⟨22, by decide, by kernel_rfl⟩) (fun w1 a c h1 h2 => wk_quo 1 0 (by unfold inR; decide) (by unfold inR; decide) a c w1 h1 h2)).mono ?_
  rintro e w2 ⟨rfl, hx2⟩
  rw [show lawV (quoV 1 0) = .tuple #[.int .i64 0, .int .i64 22] from by kernel_rfl]
  have X2 := hid (X1.out.trans ((Ext.alloc _ _).trans hx2))
  clear hx2
  go_wp2_with fail
  refine (lw2 ⟨#[110, 117, 109, 46, 97, 100, 100]⟩ 9223372036854775807 1 _ (addV 9223372036854775807 1) _ (HM.out.later (X2.out.trans (Ext.alloc _ _))) (blk0 _ _) (.inr ⟨21, by decide, by kernel_rfl⟩) (fun w1 a c h1 h2 => wk_add 9223372036854775807 1 (by unfold inR; decide) (by unfold inR; decide) a c w1 h1 h2)).mono ?_
  rintro e w3 ⟨rfl, hx3⟩
  rw [show lawV (addV 9223372036854775807 1) = .tuple #[.int .i64 0, .int .i64 21] from by kernel_rfl]
  have X3 := hid (X2.out.trans ((Ext.alloc _ _).trans hx3))
  clear hx3
  go_wp2_with fail
  refine (lw2 ⟨#[110, 117, 109, 46, 112, 111, 119]⟩ (-2) 63 _ (powV (-2) 63) _ (HM.out.later (X3.out.trans (Ext.alloc _ _))) (blk0 _ _) (.inl ⟨-9223372036854775808, by kernel_rfl⟩) (fun w1 a c h1 h2 => wk_pow (-2) 63 (by unfold inR; decide) (by unfold inR; decide) a c w1 h1 h2)).mono ?_
  rintro e w4 ⟨rfl, hx4⟩
  rw [show lawV (powV (-2) 63) = .tuple #[.int .i64 (-9223372036854775808), .int .i64 0] from by kernel_rfl]
  have X4 := hid (X3.out.trans ((Ext.alloc _ _).trans hx4))
  clear hx4
  go_wp2_with fail
  refine (whole_any 1 _).mono ?_
  rintro e w5 ⟨rfl, hx5⟩
  go_wp2_with fail
  refine (whole_any 2 _).mono ?_
  rintro e w6 ⟨rfl, hx6⟩
  have X6 := hid (X4.out.trans (hx5.trans hx6))
  clear hx5 hx6
  go_wp2_with fail
  refine (wk_less 1 2 (by unfold inR; decide) (by unfold inR; decide) _ _ _ (HM.out.later (X6.out.trans (Ext.alloc _ _))) (prow2 (blk0 _ _) rfl rfl)).mono ?_
  rintro e w7 ⟨rfl, hx7⟩
  rw [show toldV (decide ((1 : Int) < 2)) = .tuple #[.iface 52 (.bool true), .int .i64 0, .string ⟨#[]⟩] from by kernel_rfl]
  have X7 := hid (X6.out.trans ((Ext.alloc _ _).trans hx7))
  clear hx7
  go_wp2_with fail
  refine (whole_any 1 _).mono ?_
  rintro e w8 ⟨rfl, hx8⟩
  have X8 := hid (X7.out.trans hx8)
  clear hx8
  go_wp2_with fail
  refine (wk_sum (intT 1) _ _ _ (HM.out.later (X8.out.trans (Ext.alloc _ _))) (prow1 (blk0 _ _) rfl)).mono ?_
  rintro e w9 ⟨rfl, hx9⟩
  unfold refV
  have X9 := hid (X8.out.trans ((Ext.alloc _ _).trans hx9))
  clear hx9
  go_wp2_with fail
  refine (whole_any 1 _).mono ?_
  rintro e wa ⟨rfl, hxa⟩
  have XA := hid (X9.out.trans hxa)
  clear hxa
  go_wp2_with fail
  refine (wk_bad 1 _ _ _ (HM.out.later (XA.out.trans (Ext.alloc _ _))) (prow2 (blk0 _ _) rfl rfl)).mono ?_
  rintro e wb ⟨rfl, hxb⟩
  unfold refV
  have XB := hid (XA.out.trans ((Ext.alloc _ _).trans hxb))
  clear hxb
  go_wp2_with fail
  refine (numKit_any _ (HL.out.later XB.out)).mono ?_
  rintro e wc ⟨base, kb, mb, lv', bx, rfl, hkm, hb, hxc⟩
  have HKM := hid hkm
  have XC := hid (XB.out.trans hxc)
  clear hkm hb hxc
  go_wp2_with fail
  refine (name_any HKM.out).mono ?_
  rintro e wd ⟨rfl, rfl⟩
  unfold numB
  go_wp2_with fail
  go_ret
  exact ⟨rfl, XC.out⟩
end Go.Proofs.YtgpggkepgoelfaaGreatDoor
/-
  What the rows' condition gives: the library's tables as laid, and that its one variable holds a number.
-/
namespace Go.Proofs.YtgpggkepgoelfaaGreatDoor
open Go.ChangeShapes Go.WideShapes Go.ChangeAt Go.RowKit
theorem ownK : ownKnob Tryz.prog.godebug = none := by kernel_rfl
/-- The rows' list. -/
abbrev listed : List (String × DataW Unit) := [("unicode.White_Space", Rows.laid_unicode_White_Space), ("strings.asciiSpace", Rows.laid_strings_asciiSpace)]
theorem blanksNamed : Tryz.prog.globalNamed "strings.asciiSpace" = some 0 := by kernel_rfl
theorem blanksType : (Tryz.prog.globals[0]?).map (·.type) = some 179 := by kernel_rfl
theorem blanks_laid : (Rows.laid_strings_asciiSpace : DataW Unit) = Lib.tabData .u8 Lib.asciiSpaceTab := by kernel_rfl
theorem table_of_laid {W : World} (h : laidMetH Tryz.prog listed W) : Laid W := by
  have h' : laidMet Tryz.prog listed W := h
  have h3 := h'.tail
  rw [blanks_laid] at h3
  exact Lib.tabIs_of_head blanksNamed blanksType Tryz.underlying179 Tryz.underlying5 (by kernel_rfl) (by kernel_rfl) h3
theorem max_of_shaped {W : World} (h : W.ShapedOpen Tryz.prog) : MaxAt W :=
  cell_of_shapedOpen_int (P := Tryz.prog) (g := 2) (t := 3) (zero := #[.int .i64 0]) (k := .i64) h (of_decide_eq_true (by kernel_rfl)) (by kernel_rfl) rfl (by kernel_rfl) (by kernel_rfl) Tryz.underlying3
/-- A call in whatever well-typed memory in which the listed variables are laid: what is to be shown of it. -/
theorem handed_laid {C : Checked} {Y : World → Prop} {H : Type} {enc : TypeId × Value → H} {os : Os} {f : FuncId} {fn : Func} {s : ChangeSpec} {apart fresh handsOn again : Bool} {X : World → Array Value → Prop} (hX : ∀ (w w' : World) (args : Array Value), w.heap = w'.heap → X w args → X w' args) (hY : ∀ (W : World) (args : Array Value), X W args → W.ShapedOpen C.prog → Y W) (own : ownKnob C.prog.godebug = none) (started : os.Started) (noInit : C.prog.inits.idxOf? f = none) (hfn : C.prog.funcs[f]? = some fn)
    (witness : ∃ (w : World) (tape : Tape) (i : Input), w.os = os ∧ (w.forCall tape i).Shaped C.prog ∧ i.vars = [] ∧ Input.okWide C.prog (w.forCall tape i) .any w.heap.size f i ∧
      ((s.pre enc C.prog fn [] apart (w.forCall tape i).memory i.args ∧ X (w.forCall tape i).memory i.args) ∧ sizedMet enc C.prog fn (OpenSpec.ofChange s) apart (w.forCall tape i).memory i.args) ∧ ({} : Assume).holds C.prog (lone (Frame.enter C.prog f i.args .normal) [] (w.forCall tape i)))
    (contract : ∀ (W : World) (base : Nat) (args : Array Value) (ds gs : List (DataW H)) (before : List MemPlace),
      (∀ (j : Nat) t v, fn.params[j]? = some t → args[j]? = some v → Value.okWide C.prog W .any base t v) →
      DataW.Whole enc C.prog fn.params.toList s.vars apart W args.toList ds gs before →
      (DataW.weightsEach C.prog (fn.params.toList ++ s.plain.varTypes C.prog) (ds ++ gs)).all (· ≤ reachBytes) = true →
      Y W →
      Calls C.prog f args W fun e W' => ∃ v, e = .returned v ∧ s.post enc C.prog fn apart fresh handsOn again W args v W') :
    ReturnsInHanded {} C os f .any (fun w args => (s.pre enc C.prog fn [] apart w args ∧ X w args) ∧ sizedMet enc C.prog fn (OpenSpec.ofChange s) apart w args) (s.post enc C.prog fn apart fresh handsOn again) := by
  refine returnsInHanded_of_calls own started noInit witness ?_
  intro w tape i _ hsh _ hok hpre _
  obtain ⟨_, _, _, fn', hfn', _, _, _, _, hval⟩ := hok
  have e : fn' = fn := Option.some.inj (hfn'.symm.trans hfn)
  subst e
  obtain ⟨⟨⟨ds, gs, before, hw, _⟩, hx⟩, hz⟩ := hpre
  refine (contract (w.forCall tape i) w.heap.size i.args ds gs before hval (DataW.Whole.of_heap (w' := w.forCall tape i) (by rfl) hw) (hz.weights hw) (hY _ _ (hX _ _ _ (by rfl) hx) hsh)).mono fun e W' ⟨v, he, hp⟩ => ?_
  subst he
  exact ChangeSpec.post_blind hp
def litsOf (d : DataW Unit) : Array Value := match d with
  | .agg l => (l.map fun | .lit (.int k z) => Value.int k z | _ => .nilIface).toArray
  | _ => #[]
/-- A world in which they are laid. -/
noncomputable def laidWorld (os : Os) : World :=
  let w0 := World.holding Tryz.prog os ⟨#[], #[], []⟩
  let put (h : Array Obj) (g : Nat) (cs : Array Value) : Array Obj := h.modify g fun
    | .cells _ t frozen => .cells cs t frozen
    | o => o
  { w0 with heap := ((put (put w0.heap 0 (litsOf Rows.laid_strings_asciiSpace)) 1 #[.pointer (some ⟨w0.heap.size, 0, none⟩)]).push (.cells #[.slice (some ⟨w0.heap.size + 1, 0, none⟩) 7 7, .slice none 0 0, .int .i64 2] 261)).push (.cells #[.int .u16 9, .int .u16 13, .int .u16 1, .int .u16 32, .int .u16 133, .int .u16 101, .int .u16 160, .int .u16 5760, .int .u16 5600, .int .u16 8192, .int .u16 8202, .int .u16 1, .int .u16 8232, .int .u16 8233, .int .u16 1, .int .u16 8239, .int .u16 8287, .int .u16 48, .int .u16 12288, .int .u16 12288, .int .u16 1] 264) }
theorem laidWorld_met (os : Os) (args : Array Value) : laidMetH Tryz.prog listed ((laidWorld os).forCall (fun _ _ => 0) ⟨#[], args, []⟩).memory :=
  laidMetH_of_parts (laidMet_of_run' 8 (by kernel_rfl) (by kernel_rfl)) (by kernel_rfl)
end Go.Proofs.YtgpggkepgoelfaaGreatDoor
