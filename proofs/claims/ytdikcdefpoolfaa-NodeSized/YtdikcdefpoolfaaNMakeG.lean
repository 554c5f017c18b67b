/-
  node.Make with no kids of each kind of the kit base, of any number and text; by contracts.
-/
import Derived.Test.YtdikcdefpoolfaaNFitG
import Derived.Test.YtdikcdefpoolfaaNMakeU
import Derived.Test.YtdikcdefpoolfaaNVoid
namespace Go.Proofs.Ytdikcdefpoolfaa
open Go.RowKit
attribute [local go_sem] isLitLiteral isLitStrict isLitWrapped isLitOrigin isLitFramed isOrgLiteral isOrgStrict isOrgWrapped isOrgOrigin isOrgFramed isCodCoded isCodLocated isCodRaised isCodLacking isLacCoded isLacLocated isLacRaised isLacLacking isFraLiteral isFraStrict isFraWrapped isFraOrigin isFraFramed isVarLiteral isVarStrict isVarWrapped isVarOrigin isVarFramed mCodCode mLacCode mLacWhere mLacLacks mLitWorth mLitKind mLitNum mLitText mLitLen mLitKid mFraFrames mFraKind mFraNum mFraText mFraLen mFraKid mOrgFrom
def nYes : ByteArray := ⟨#[98, 97, 115, 101, 46, 121, 101, 115]⟩
theorem find_Yes : kdFind nYes = some 1 := by decide
def nNo : ByteArray := ⟨#[98, 97, 115, 101, 46, 110, 111]⟩
theorem find_No : kdFind nNo = some 2 := by decide
def nText : ByteArray := ⟨#[98, 97, 115, 101, 46, 116, 101, 120, 116]⟩
theorem find_Text : kdFind nText = some 4 := by decide
def nVar : ByteArray := ⟨#[98, 97, 115, 101, 46, 118, 97, 114]⟩
theorem find_Var : kdFind nVar = some 5 := by decide
def hUse : ByteArray := ⟨#[85, 115, 101, 114, 32, 80, 117, 114, 101]⟩
set_option maxRecDepth 100000 in
theorem mkYes_any (k x : ByteArray) (n : Int) (g : Nat) (w : World) (hg : OfAt w g) : Calls Try.prog 56 #[.agg #[.string k, .int .i64 n, .string x, .slice none 0 0], .pointer (some ⟨g, 0, none⟩)] w fun e w' => ∃ b, e = .returned (.iface 165 (.pointer (some ⟨b, 0, none⟩))) ∧ w.heap.size ≤ b ∧ LitAt w' b k n x (.iface 174 (.bool true)) ∧ Ext w w' := by
  have hgc : (w.alloc (.cells #[.string k, .int .i64 n, .string x, .slice none 0 0] 79)).cell? ⟨g, 0, none⟩ = some (.func (.func 54) #[] #[]) := cell_of (blkOld _ hg) rfl
  have hgw : w.cell? ⟨g, 0, none⟩ = some (.func (.func 54) #[] #[]) := cell_of hg rfl
  have hgl : g < w.heap.size := lt_of_block hg
  go_enter Try.func56, Try.ntmps56
  go_wp2_with fail
  go_at_call 54
  refine (lit_of k x n _ _ _).mono ?_
  rintro r w1 ⟨b, rfl, hb, hl, hx⟩
  go_wp2_with fail
  go_ret
  exact ⟨_, rfl, Nat.le_trans (Ext.alloc w _).size hb, hl, (Ext.alloc w _).trans hx⟩
set_option maxRecDepth 100000 in
theorem mkNo_any (k x : ByteArray) (n : Int) (g : Nat) (w : World) (hg : OfAt w g) : Calls Try.prog 57 #[.agg #[.string k, .int .i64 n, .string x, .slice none 0 0], .pointer (some ⟨g, 0, none⟩)] w fun e w' => ∃ b, e = .returned (.iface 165 (.pointer (some ⟨b, 0, none⟩))) ∧ w.heap.size ≤ b ∧ LitAt w' b k n x (.iface 174 (.bool false)) ∧ Ext w w' := by
  have hgc : (w.alloc (.cells #[.string k, .int .i64 n, .string x, .slice none 0 0] 79)).cell? ⟨g, 0, none⟩ = some (.func (.func 54) #[] #[]) := cell_of (blkOld _ hg) rfl
  have hgw : w.cell? ⟨g, 0, none⟩ = some (.func (.func 54) #[] #[]) := cell_of hg rfl
  have hgl : g < w.heap.size := lt_of_block hg
  go_enter Try.func57, Try.ntmps57
  go_wp2_with fail
  go_at_call 54
  refine (lit_of k x n _ _ _).mono ?_
  rintro r w1 ⟨b, rfl, hb, hl, hx⟩
  go_wp2_with fail
  go_ret
  exact ⟨_, rfl, Nat.le_trans (Ext.alloc w _).size hb, hl, (Ext.alloc w _).trans hx⟩
theorem text_at (b : Nat) (x : ByteArray) (w : World) (h : w.cell? ⟨b, 2, none⟩ = some (.string x)) : Calls Try.prog 61 #[.pointer (some ⟨b, 0, none⟩)] w fun e w' => e = .returned (.string x) ∧ w' = w := by
  go_enter Try.func61, Try.ntmps61
  go_wp2
  go_ret
  exact ⟨rfl, rfl⟩
set_option maxRecDepth 100000 in
set_option maxHeartbeats 2000000 in
theorem mkText_any (k x : ByteArray) (n : Int) (g : Nat) (w : World) (hg : OfAt w g) : Calls Try.prog 60 #[.agg #[.string k, .int .i64 n, .string x, .slice none 0 0], .pointer (some ⟨g, 0, none⟩)] w fun e w' => ∃ b, e = .returned (.iface 165 (.pointer (some ⟨b, 0, none⟩))) ∧ w.heap.size ≤ b ∧ LitAt w' b k n x (.iface 175 (.string x)) ∧ Ext w w' := by
  obtain ⟨M, hM⟩ : ∃ M, w.alloc (.cells #[.string k, .int .i64 n, .string x, .slice none 0 0] 79) = M := ⟨_, rfl⟩
  have XM := hid (show Ext w M from hM ▸ Ext.alloc _ _)
  have HM0 := hid (show M.heap[w.heap.size]? = some (.cells #[.string k, .int .i64 n, .string x, .slice none 0 0] 79) from hM ▸ blk0 _ _)
  have HG := hid hg
  clear hg
  have HSK := hid (show ∀ W', Ext M W' → (Ext M W' ∧ W'.cell? ⟨g, 0, none⟩ = some (.func (.func 54) #[] #[]) ∧ W'.cell? ⟨w.heap.size, 0, none⟩ = some (.string k) ∧ W'.cell? ⟨w.heap.size, 1, none⟩ = some (.int .i64 n) ∧ W'.cell? ⟨w.heap.size, 2, none⟩ = some (.string x) ∧ W'.cell? ⟨w.heap.size, 3, none⟩ = some (.slice none 0 0)) from fun W' X => by
    obtain ⟨s0, s1, s2, s3⟩ := four_of (X.block HM0.out)
    exact ⟨X, cell_of ((XM.out.trans X).block HG.out) rfl, s0, s1, s2, s3⟩)
  go_enter Try.func60, Try.ntmps60
  go_wp2_with fail
  clear hM
  go_region_held3 (fun W' => Ext M W' ∧ W'.cell? ⟨g, 0, none⟩ = some (.func (.func 54) #[] #[]) ∧ W'.cell? ⟨w.heap.size, 0, none⟩ = some (.string k) ∧ W'.cell? ⟨w.heap.size, 1, none⟩ = some (.int .i64 n) ∧ W'.cell? ⟨w.heap.size, 2, none⟩ = some (.string x) ∧ W'.cell? ⟨w.heap.size, 3, none⟩ = some (.slice none 0 0))
    (first | with_reducible exact HSK.out _ (Ext.refl _) | with_reducible exact HSK.out _ (Ext.refl _).drew | with_reducible exact HSK.out _ Z1 | go_keep)
    (first
      | (go_at_call 61; refine (text_at _ x _ (HSK.out _ (by repeat (first | with_reducible exact Ext.refl _ | with_reducible refine Ext.drew ?_))).2.2.2.2.1).mono ?_; rintro r w1 ⟨rfl, rfl⟩)
      | (go_at_call 54; refine (lit_of k x n _ _ _).mono ?_; rintro r w1 ⟨b, rfl, hb, hl, hx⟩; have Z1 : Ext M w1 := Ext.trans (by repeat (first | with_reducible exact Ext.refl _ | with_reducible refine Ext.drew ?_)) hx))
  all_goals
    go_wp2_with fail
    go_ret
    exact ⟨_, rfl, Nat.le_trans XM.out.size hb, hl, XM.out.trans Z1⟩
/-- A variable's block. -/
abbrev VarAt (w : World) (b : Nat) (k : ByteArray) (n : Int) (x : ByteArray) : Prop := w.heap[b]? = some (.cells #[.string k, .int .i64 n, .string x, .slice none 0 0] 178)
set_option maxRecDepth 100000 in
theorem mkVar_any (k x : ByteArray) (n : Int) (w : World) : Calls Try.prog 62 #[.agg #[.string k, .int .i64 n, .string x, .slice none 0 0]] w fun e w' => ∃ b, e = .returned (.iface 176 (.pointer (some ⟨b, 0, none⟩))) ∧ w.heap.size ≤ b ∧ VarAt w' b k n x ∧ Ext w w' := by
  go_enter Try.func62, Try.ntmps62
  go_wp2_with fail
  go_ret
  exact ⟨_, rfl, Nat.le_succ _, blk1 _ _ _, Ext.alloc2 _ _ _⟩
theorem coreOf_var (v : Value) (w : World) : Calls Try.prog 32 #[.iface 176 v] w fun e w' => e = .returned (.iface 176 v) ∧ w' = w := by
  go_enter Try.func32, Try.ntmps32
  go_wp2
  refine wp_loop_rounds 1 ?_
  rw [rounds_succ]
  go_wp2
  go_ret
  exact ⟨rfl, rfl⟩
theorem hold_var (v : Value) (w : World) : Calls Try.prog 16 #[.iface 176 v] w fun e w' => e = .returned (.pointer (some ⟨w.heap.size, 0, none⟩)) ∧ HandAt w' w.heap.size (.iface 176 v) (.iface 176 v) ∧ Ext w w' := by
  go_enter Try.func16, Try.ntmps16
  go_wp2_with fail
  go_at_call 32
  refine (coreOf_var v _).mono ?_
  rintro r w1 ⟨rfl, rfl⟩
  go_wp2_with fail
  go_ret
  exact ⟨rfl, blk0 _ _, Ext.alloc _ _⟩
/-- What Make answers with no kids: a handle of a node of the type ty, of which P tells, or an error. -/
def MkR (ty : TypeId) (ok : Prop) (P : World → Nat → Prop) (w : World) (e : Ending) (w' : World) : Prop := Ext w w' ∧
  ((ok ∧ ∃ b h, e = .returned (.tuple #[.pointer (some ⟨h, 0, none⟩), .nilIface]) ∧ w.heap.size ≤ b ∧ w.heap.size ≤ h ∧ HandAt w' h (.iface ty (.pointer (some ⟨b, 0, none⟩))) (.iface ty (.pointer (some ⟨b, 0, none⟩))) ∧ P w' b) ∨
   (¬ ok ∧ ∃ b c, e = .returned (.tuple #[.pointer none, ErrV b]) ∧ Fa.CodedAt w' b c ∧ (c = 2 ∨ c = 12)))
/-- What a tree with no kids must be to fit a kind. -/
def fitP (bj : Bool) (c n : Int) (x : ByteArray) : Prop := x.size ≤ 16384 ∧ (n = 0 ∨ bj = true) ∧ takesP c x
set_option maxRecDepth 100000 in
set_option maxHeartbeats 4000000 in
theorem makeUnit_any (n : Int) (x : ByteArray) (ka : Option Addr) (kl kc : Nat) (w : World) (hxs : x.size ≤ 140737488355328) : Calls Try.prog 5 #[.agg #[.string nUnit, .int .i64 n, .string x, .slice ka kl kc], .slice none 0 0] w (MkR 165 (fitP false 0 n x) (fun W b => LitAt W b nUnit n x (.iface 173 (.agg #[]))) w) := by
  obtain ⟨M, hM⟩ : ∃ M, w.alloc (.cells #[.string nUnit, .int .i64 n, .string x, .slice ka kl kc] 30) = M := ⟨_, rfl⟩
  have XM := hid (show Ext w M from hM ▸ Ext.alloc _ _)
  have HM0 := hid (show M.heap[w.heap.size]? = some (.cells #[.string nUnit, .int .i64 n, .string x, .slice ka kl kc] 30) from hM ▸ blk0 _ _)
  obtain ⟨t0, t1, t2, t3⟩ := four_of HM0.out
  have HXS := hid hxs
  have hxs' : (x.size : Int) ≤ 140737488355328 := by omega
  clear hxs
  have HKF := hid find_unit
  generalize hnn : nUnit = nn at *
  have HNN := hid hnn
  clear hnn
  go_enter Try.func5, Try.ntmps5
  go_wp2_with fail
  clear hM
  go_at_call 13
  refine (kindOf_any nn M).mono ?_
  rintro e w1 ⟨hx1, hk⟩
  rw [HKF.out] at hk
  obtain ⟨g, hg, hO, rfl⟩ := hk
  rw [show kdV g 0 = .agg #[.string nUnit, .int .i64 0, .int .i64 0, .bool false, .int .i64 0, .string hLit, .func (.func 55) #[] #[.pointer (some ⟨g, 0, none⟩)]] from rfl]
  rw [HNN.out]
  generalize hhl : hLit = hl at *
  clear hhl
  obtain ⟨V, hV⟩ : ∃ V, w1.alloc (.cells #[.string nn, .int .i64 0, .int .i64 0, .bool false, .int .i64 0, .string hl, .func (.func 55) #[] #[.pointer (some ⟨g, 0, none⟩)]] 71) = V := ⟨_, rfl⟩
  have X1 := hid (show Ext M V from hV ▸ hx1.trans (Ext.alloc _ _))
  have HOV := hid (show OfAt V g from hV ▸ blkOld _ hO)
  have HKB := hid (show V.heap[w1.heap.size]? = some (.cells #[.string nn, .int .i64 0, .int .i64 0, .bool false, .int .i64 0, .string hl, .func (.func 55) #[] #[.pointer (some ⟨g, 0, none⟩)]] 71) from hV ▸ blk0 _ _)
  obtain ⟨r0, r1, r2, r3, r4, r5, r6⟩ := seven_of HKB.out
  have HTB := hid (X1.out.block HM0.out)
  clear t0 t1 t2 t3 hx1 hO hg
  obtain ⟨t0, t1, t2, t3⟩ := four_of HTB.out
  go_wp2_with fail
  clear hV
  refine wp_loop_rounds 1 ?_
  rw [rounds_succ]
  go_wp2_with fail
  go_at_call 15
  refine (fits_zero nn hl 0 false _ nn x n _ V ⟨_, _, _, rfl⟩ (by decide) HXS.out).mono ?_
  rintro e w2 ⟨hx2, r, rfl, hr⟩
  have X2 := hid (X1.out.trans hx2)
  have HK2 := hid (hx2.block HKB.out)
  have HT2 := hid (hx2.block HTB.out)
  have HO2 := hid (hx2.block HOV.out)
  clear hx2 r0 r1 r2 r3 r4 r5 r6 t0 t1 t2 t3
  rcases hr with ⟨rfl, hok⟩ | ⟨hrc, hno⟩
  · have HOK := hid (show fitP false 0 n x from hok)
    clear hok
    have HSK := hid (show ∀ W', Ext w2 W' → (Ext w2 W' ∧ W'.cell? ⟨w1.heap.size, 6, none⟩ = some (.func (.func 55) #[] #[.pointer (some ⟨g, 0, none⟩)]) ∧ W'.cell? ⟨w.heap.size, 0, none⟩ = some (.string nn) ∧ W'.cell? ⟨w.heap.size, 1, none⟩ = some (.int .i64 n) ∧ W'.cell? ⟨w.heap.size, 2, none⟩ = some (.string x) ∧ W'.cell? ⟨w.heap.size, 3, none⟩ = some (.slice ka kl kc)) from fun W' X => by
      obtain ⟨s0, s1, s2, s3⟩ := four_of (X.block HT2.out)
      exact ⟨X, cell_of (X.block HK2.out) rfl, s0, s1, s2, s3⟩)
    go_wp2_with fail
    go_region_held3 (fun W' => Ext w2 W' ∧ W'.cell? ⟨w1.heap.size, 6, none⟩ = some (.func (.func 55) #[] #[.pointer (some ⟨g, 0, none⟩)]) ∧ W'.cell? ⟨w.heap.size, 0, none⟩ = some (.string nn) ∧ W'.cell? ⟨w.heap.size, 1, none⟩ = some (.int .i64 n) ∧ W'.cell? ⟨w.heap.size, 2, none⟩ = some (.string x) ∧ W'.cell? ⟨w.heap.size, 3, none⟩ = some (.slice ka kl kc))
      (first | with_reducible exact HSK.out _ (Ext.refl _) | with_reducible exact HSK.out _ (Ext.refl _).drew | with_reducible exact HSK.out _ Z3 | with_reducible exact HSK.out _ Z2 | with_reducible exact HSK.out _ Z1 | go_keep)
      (first
        | (go_at_call 18; refine (nodesOf_none _).mono ?_; rintro r u1 ⟨rfl, rfl⟩)
        | (go_at_call 17; refine (new_none nn x n _ _).mono ?_; rintro r u1 ⟨rfl, hy⟩; have Z1 : Ext w2 u1 := Ext.trans (by repeat (first | with_reducible exact Ext.refl _ | with_reducible refine Ext.drew ?_)) hy)
        | (go_at_call 55; refine (mkUnit_any nn x n g _ ((Ext.trans (by repeat (first | with_reducible exact Z1 | with_reducible refine Ext.drew ?_)) (Ext.refl _)).block HO2.out)).mono ?_; rintro r u2 ⟨b, rfl, hb, hl2, hy⟩; have Z2 : Ext w2 u2 := Ext.trans (by repeat (first | with_reducible exact Z1 | with_reducible refine Ext.drew ?_)) hy; have ZB : w2.heap.size ≤ b := Nat.le_trans Z1.size hb)
        | (go_at_call 16; refine (hold_lit _ _).mono ?_; rintro r u3 ⟨rfl, hh, hy⟩; have Z3 : Ext w2 u3 := Ext.trans (by repeat (first | with_reducible exact Z2 | with_reducible refine Ext.drew ?_)) hy; have ZH := hy.block hl2))
    all_goals
      go_wp2_with fail
      go_ret2
      exact ⟨XM.out.trans (X2.out.trans Z3), .inl ⟨HOK.out, _, _, rfl, Nat.le_trans (XM.out.trans X2.out).size ZB, Nat.le_trans (XM.out.trans X2.out).size Z2.size, hh, ZH⟩⟩
  · have HNO := hid (show ¬ fitP false 0 n x from hno)
    clear hno
    rcases hrc with rfl | rfl
    · go_wp2_with fail
      go_at_call 14
      refine (Fa.new_any 2 w2 rfl).mono ?_
      rintro e w3 ⟨rfl, hc, hx⟩
      go_wp2_with fail
      go_ret2
      exact ⟨XM.out.trans (X2.out.trans hx), .inr ⟨HNO.out, _, _, rfl, hc, .inl rfl⟩⟩
    · go_wp2_with fail
      go_at_call 14
      refine (Fa.new_any 12 w2 rfl).mono ?_
      rintro e w3 ⟨rfl, hc, hx⟩
      go_wp2_with fail
      go_ret2
      exact ⟨XM.out.trans (X2.out.trans hx), .inr ⟨HNO.out, _, _, rfl, hc, .inr rfl⟩⟩
set_option maxRecDepth 100000 in
set_option maxHeartbeats 4000000 in
theorem makeYes_any (n : Int) (x : ByteArray) (ka : Option Addr) (kl kc : Nat) (w : World) (hxs : x.size ≤ 140737488355328) : Calls Try.prog 5 #[.agg #[.string nYes, .int .i64 n, .string x, .slice ka kl kc], .slice none 0 0] w (MkR 165 (fitP false 0 n x) (fun W b => LitAt W b nYes n x (.iface 174 (.bool true))) w) := by
  obtain ⟨M, hM⟩ : ∃ M, w.alloc (.cells #[.string nYes, .int .i64 n, .string x, .slice ka kl kc] 30) = M := ⟨_, rfl⟩
  have XM := hid (show Ext w M from hM ▸ Ext.alloc _ _)
  have HM0 := hid (show M.heap[w.heap.size]? = some (.cells #[.string nYes, .int .i64 n, .string x, .slice ka kl kc] 30) from hM ▸ blk0 _ _)
  obtain ⟨t0, t1, t2, t3⟩ := four_of HM0.out
  have HXS := hid hxs
  have hxs' : (x.size : Int) ≤ 140737488355328 := by omega
  clear hxs
  have HKF := hid find_Yes
  generalize hnn : nYes = nn at *
  have HNN := hid hnn
  clear hnn
  go_enter Try.func5, Try.ntmps5
  go_wp2_with fail
  clear hM
  go_at_call 13
  refine (kindOf_any nn M).mono ?_
  rintro e w1 ⟨hx1, hk⟩
  rw [HKF.out] at hk
  obtain ⟨g, hg, hO, rfl⟩ := hk
  rw [show kdV g 1 = .agg #[.string nYes, .int .i64 0, .int .i64 0, .bool false, .int .i64 0, .string hLit, .func (.func 56) #[] #[.pointer (some ⟨g, 0, none⟩)]] from rfl]
  rw [HNN.out]
  generalize hhl : hLit = hl at *
  clear hhl
  obtain ⟨V, hV⟩ : ∃ V, w1.alloc (.cells #[.string nn, .int .i64 0, .int .i64 0, .bool false, .int .i64 0, .string hl, .func (.func 56) #[] #[.pointer (some ⟨g, 0, none⟩)]] 71) = V := ⟨_, rfl⟩
  have X1 := hid (show Ext M V from hV ▸ hx1.trans (Ext.alloc _ _))
  have HOV := hid (show OfAt V g from hV ▸ blkOld _ hO)
  have HKB := hid (show V.heap[w1.heap.size]? = some (.cells #[.string nn, .int .i64 0, .int .i64 0, .bool false, .int .i64 0, .string hl, .func (.func 56) #[] #[.pointer (some ⟨g, 0, none⟩)]] 71) from hV ▸ blk0 _ _)
  obtain ⟨r0, r1, r2, r3, r4, r5, r6⟩ := seven_of HKB.out
  have HTB := hid (X1.out.block HM0.out)
  clear t0 t1 t2 t3 hx1 hO hg
  obtain ⟨t0, t1, t2, t3⟩ := four_of HTB.out
  go_wp2_with fail
  clear hV
  refine wp_loop_rounds 1 ?_
  rw [rounds_succ]
  go_wp2_with fail
  go_at_call 15
  refine (fits_zero nn hl 0 false _ nn x n _ V ⟨_, _, _, rfl⟩ (by decide) HXS.out).mono ?_
  rintro e w2 ⟨hx2, r, rfl, hr⟩
  have X2 := hid (X1.out.trans hx2)
  have HK2 := hid (hx2.block HKB.out)
  have HT2 := hid (hx2.block HTB.out)
  have HO2 := hid (hx2.block HOV.out)
  clear hx2 r0 r1 r2 r3 r4 r5 r6 t0 t1 t2 t3
  rcases hr with ⟨rfl, hok⟩ | ⟨hrc, hno⟩
  · have HOK := hid (show fitP false 0 n x from hok)
    clear hok
    have HSK := hid (show ∀ W', Ext w2 W' → (Ext w2 W' ∧ W'.cell? ⟨w1.heap.size, 6, none⟩ = some (.func (.func 56) #[] #[.pointer (some ⟨g, 0, none⟩)]) ∧ W'.cell? ⟨w.heap.size, 0, none⟩ = some (.string nn) ∧ W'.cell? ⟨w.heap.size, 1, none⟩ = some (.int .i64 n) ∧ W'.cell? ⟨w.heap.size, 2, none⟩ = some (.string x) ∧ W'.cell? ⟨w.heap.size, 3, none⟩ = some (.slice ka kl kc)) from fun W' X => by
      obtain ⟨s0, s1, s2, s3⟩ := four_of (X.block HT2.out)
      exact ⟨X, cell_of (X.block HK2.out) rfl, s0, s1, s2, s3⟩)
    go_wp2_with fail
    go_region_held3 (fun W' => Ext w2 W' ∧ W'.cell? ⟨w1.heap.size, 6, none⟩ = some (.func (.func 56) #[] #[.pointer (some ⟨g, 0, none⟩)]) ∧ W'.cell? ⟨w.heap.size, 0, none⟩ = some (.string nn) ∧ W'.cell? ⟨w.heap.size, 1, none⟩ = some (.int .i64 n) ∧ W'.cell? ⟨w.heap.size, 2, none⟩ = some (.string x) ∧ W'.cell? ⟨w.heap.size, 3, none⟩ = some (.slice ka kl kc))
      (first | with_reducible exact HSK.out _ (Ext.refl _) | with_reducible exact HSK.out _ (Ext.refl _).drew | with_reducible exact HSK.out _ Z3 | with_reducible exact HSK.out _ Z2 | with_reducible exact HSK.out _ Z1 | go_keep)
      (first
        | (go_at_call 18; refine (nodesOf_none _).mono ?_; rintro r u1 ⟨rfl, rfl⟩)
        | (go_at_call 17; refine (new_none nn x n _ _).mono ?_; rintro r u1 ⟨rfl, hy⟩; have Z1 : Ext w2 u1 := Ext.trans (by repeat (first | with_reducible exact Ext.refl _ | with_reducible refine Ext.drew ?_)) hy)
        | (go_at_call 56; refine (mkYes_any nn x n g _ ((Ext.trans (by repeat (first | with_reducible exact Z1 | with_reducible refine Ext.drew ?_)) (Ext.refl _)).block HO2.out)).mono ?_; rintro r u2 ⟨b, rfl, hb, hl2, hy⟩; have Z2 : Ext w2 u2 := Ext.trans (by repeat (first | with_reducible exact Z1 | with_reducible refine Ext.drew ?_)) hy; have ZB : w2.heap.size ≤ b := Nat.le_trans Z1.size hb)
        | (go_at_call 16; refine (hold_lit _ _).mono ?_; rintro r u3 ⟨rfl, hh, hy⟩; have Z3 : Ext w2 u3 := Ext.trans (by repeat (first | with_reducible exact Z2 | with_reducible refine Ext.drew ?_)) hy; have ZH := hy.block hl2))
    all_goals
      go_wp2_with fail
      go_ret2
      exact ⟨XM.out.trans (X2.out.trans Z3), .inl ⟨HOK.out, _, _, rfl, Nat.le_trans (XM.out.trans X2.out).size ZB, Nat.le_trans (XM.out.trans X2.out).size Z2.size, hh, ZH⟩⟩
  · have HNO := hid (show ¬ fitP false 0 n x from hno)
    clear hno
    rcases hrc with rfl | rfl
    · go_wp2_with fail
      go_at_call 14
      refine (Fa.new_any 2 w2 rfl).mono ?_
      rintro e w3 ⟨rfl, hc, hx⟩
      go_wp2_with fail
      go_ret2
      exact ⟨XM.out.trans (X2.out.trans hx), .inr ⟨HNO.out, _, _, rfl, hc, .inl rfl⟩⟩
    · go_wp2_with fail
      go_at_call 14
      refine (Fa.new_any 12 w2 rfl).mono ?_
      rintro e w3 ⟨rfl, hc, hx⟩
      go_wp2_with fail
      go_ret2
      exact ⟨XM.out.trans (X2.out.trans hx), .inr ⟨HNO.out, _, _, rfl, hc, .inr rfl⟩⟩
set_option maxRecDepth 100000 in
set_option maxHeartbeats 4000000 in
theorem makeNo_any (n : Int) (x : ByteArray) (ka : Option Addr) (kl kc : Nat) (w : World) (hxs : x.size ≤ 140737488355328) : Calls Try.prog 5 #[.agg #[.string nNo, .int .i64 n, .string x, .slice ka kl kc], .slice none 0 0] w (MkR 165 (fitP false 0 n x) (fun W b => LitAt W b nNo n x (.iface 174 (.bool false))) w) := by
  obtain ⟨M, hM⟩ : ∃ M, w.alloc (.cells #[.string nNo, .int .i64 n, .string x, .slice ka kl kc] 30) = M := ⟨_, rfl⟩
  have XM := hid (show Ext w M from hM ▸ Ext.alloc _ _)
  have HM0 := hid (show M.heap[w.heap.size]? = some (.cells #[.string nNo, .int .i64 n, .string x, .slice ka kl kc] 30) from hM ▸ blk0 _ _)
  obtain ⟨t0, t1, t2, t3⟩ := four_of HM0.out
  have HXS := hid hxs
  have hxs' : (x.size : Int) ≤ 140737488355328 := by omega
  clear hxs
  have HKF := hid find_No
  generalize hnn : nNo = nn at *
  have HNN := hid hnn
  clear hnn
  go_enter Try.func5, Try.ntmps5
  go_wp2_with fail
  clear hM
  go_at_call 13
  refine (kindOf_any nn M).mono ?_
  rintro e w1 ⟨hx1, hk⟩
  rw [HKF.out] at hk
  obtain ⟨g, hg, hO, rfl⟩ := hk
  rw [show kdV g 2 = .agg #[.string nNo, .int .i64 0, .int .i64 0, .bool false, .int .i64 0, .string hLit, .func (.func 57) #[] #[.pointer (some ⟨g, 0, none⟩)]] from rfl]
  rw [HNN.out]
  generalize hhl : hLit = hl at *
  clear hhl
  obtain ⟨V, hV⟩ : ∃ V, w1.alloc (.cells #[.string nn, .int .i64 0, .int .i64 0, .bool false, .int .i64 0, .string hl, .func (.func 57) #[] #[.pointer (some ⟨g, 0, none⟩)]] 71) = V := ⟨_, rfl⟩
  have X1 := hid (show Ext M V from hV ▸ hx1.trans (Ext.alloc _ _))
  have HOV := hid (show OfAt V g from hV ▸ blkOld _ hO)
  have HKB := hid (show V.heap[w1.heap.size]? = some (.cells #[.string nn, .int .i64 0, .int .i64 0, .bool false, .int .i64 0, .string hl, .func (.func 57) #[] #[.pointer (some ⟨g, 0, none⟩)]] 71) from hV ▸ blk0 _ _)
  obtain ⟨r0, r1, r2, r3, r4, r5, r6⟩ := seven_of HKB.out
  have HTB := hid (X1.out.block HM0.out)
  clear t0 t1 t2 t3 hx1 hO hg
  obtain ⟨t0, t1, t2, t3⟩ := four_of HTB.out
  go_wp2_with fail
  clear hV
  refine wp_loop_rounds 1 ?_
  rw [rounds_succ]
  go_wp2_with fail
  go_at_call 15
  refine (fits_zero nn hl 0 false _ nn x n _ V ⟨_, _, _, rfl⟩ (by decide) HXS.out).mono ?_
  rintro e w2 ⟨hx2, r, rfl, hr⟩
  have X2 := hid (X1.out.trans hx2)
  have HK2 := hid (hx2.block HKB.out)
  have HT2 := hid (hx2.block HTB.out)
  have HO2 := hid (hx2.block HOV.out)
  clear hx2 r0 r1 r2 r3 r4 r5 r6 t0 t1 t2 t3
  rcases hr with ⟨rfl, hok⟩ | ⟨hrc, hno⟩
  · have HOK := hid (show fitP false 0 n x from hok)
    clear hok
    have HSK := hid (show ∀ W', Ext w2 W' → (Ext w2 W' ∧ W'.cell? ⟨w1.heap.size, 6, none⟩ = some (.func (.func 57) #[] #[.pointer (some ⟨g, 0, none⟩)]) ∧ W'.cell? ⟨w.heap.size, 0, none⟩ = some (.string nn) ∧ W'.cell? ⟨w.heap.size, 1, none⟩ = some (.int .i64 n) ∧ W'.cell? ⟨w.heap.size, 2, none⟩ = some (.string x) ∧ W'.cell? ⟨w.heap.size, 3, none⟩ = some (.slice ka kl kc)) from fun W' X => by
      obtain ⟨s0, s1, s2, s3⟩ := four_of (X.block HT2.out)
      exact ⟨X, cell_of (X.block HK2.out) rfl, s0, s1, s2, s3⟩)
    go_wp2_with fail
    go_region_held3 (fun W' => Ext w2 W' ∧ W'.cell? ⟨w1.heap.size, 6, none⟩ = some (.func (.func 57) #[] #[.pointer (some ⟨g, 0, none⟩)]) ∧ W'.cell? ⟨w.heap.size, 0, none⟩ = some (.string nn) ∧ W'.cell? ⟨w.heap.size, 1, none⟩ = some (.int .i64 n) ∧ W'.cell? ⟨w.heap.size, 2, none⟩ = some (.string x) ∧ W'.cell? ⟨w.heap.size, 3, none⟩ = some (.slice ka kl kc))
      (first | with_reducible exact HSK.out _ (Ext.refl _) | with_reducible exact HSK.out _ (Ext.refl _).drew | with_reducible exact HSK.out _ Z3 | with_reducible exact HSK.out _ Z2 | with_reducible exact HSK.out _ Z1 | go_keep)
      (first
        | (go_at_call 18; refine (nodesOf_none _).mono ?_; rintro r u1 ⟨rfl, rfl⟩)
        | (go_at_call 17; refine (new_none nn x n _ _).mono ?_; rintro r u1 ⟨rfl, hy⟩; have Z1 : Ext w2 u1 := Ext.trans (by repeat (first | with_reducible exact Ext.refl _ | with_reducible refine Ext.drew ?_)) hy)
        | (go_at_call 57; refine (mkNo_any nn x n g _ ((Ext.trans (by repeat (first | with_reducible exact Z1 | with_reducible refine Ext.drew ?_)) (Ext.refl _)).block HO2.out)).mono ?_; rintro r u2 ⟨b, rfl, hb, hl2, hy⟩; have Z2 : Ext w2 u2 := Ext.trans (by repeat (first | with_reducible exact Z1 | with_reducible refine Ext.drew ?_)) hy; have ZB : w2.heap.size ≤ b := Nat.le_trans Z1.size hb)
        | (go_at_call 16; refine (hold_lit _ _).mono ?_; rintro r u3 ⟨rfl, hh, hy⟩; have Z3 : Ext w2 u3 := Ext.trans (by repeat (first | with_reducible exact Z2 | with_reducible refine Ext.drew ?_)) hy; have ZH := hy.block hl2))
    all_goals
      go_wp2_with fail
      go_ret2
      exact ⟨XM.out.trans (X2.out.trans Z3), .inl ⟨HOK.out, _, _, rfl, Nat.le_trans (XM.out.trans X2.out).size ZB, Nat.le_trans (XM.out.trans X2.out).size Z2.size, hh, ZH⟩⟩
  · have HNO := hid (show ¬ fitP false 0 n x from hno)
    clear hno
    rcases hrc with rfl | rfl
    · go_wp2_with fail
      go_at_call 14
      refine (Fa.new_any 2 w2 rfl).mono ?_
      rintro e w3 ⟨rfl, hc, hx⟩
      go_wp2_with fail
      go_ret2
      exact ⟨XM.out.trans (X2.out.trans hx), .inr ⟨HNO.out, _, _, rfl, hc, .inl rfl⟩⟩
    · go_wp2_with fail
      go_at_call 14
      refine (Fa.new_any 12 w2 rfl).mono ?_
      rintro e w3 ⟨rfl, hc, hx⟩
      go_wp2_with fail
      go_ret2
      exact ⟨XM.out.trans (X2.out.trans hx), .inr ⟨HNO.out, _, _, rfl, hc, .inr rfl⟩⟩
set_option maxRecDepth 100000 in
set_option maxHeartbeats 4000000 in
theorem makeInt_any (n : Int) (x : ByteArray) (ka : Option Addr) (kl kc : Nat) (w : World) (hxs : x.size ≤ 140737488355328) : Calls Try.prog 5 #[.agg #[.string nInt, .int .i64 n, .string x, .slice ka kl kc], .slice none 0 0] w (MkR 165 (fitP true 0 n x) (fun W b => LitAt W b nInt n x (.iface 64 (.int .i64 n))) w) := by
  obtain ⟨M, hM⟩ : ∃ M, w.alloc (.cells #[.string nInt, .int .i64 n, .string x, .slice ka kl kc] 30) = M := ⟨_, rfl⟩
  have XM := hid (show Ext w M from hM ▸ Ext.alloc _ _)
  have HM0 := hid (show M.heap[w.heap.size]? = some (.cells #[.string nInt, .int .i64 n, .string x, .slice ka kl kc] 30) from hM ▸ blk0 _ _)
  obtain ⟨t0, t1, t2, t3⟩ := four_of HM0.out
  have HXS := hid hxs
  have hxs' : (x.size : Int) ≤ 140737488355328 := by omega
  clear hxs
  have HKF := hid find_int
  generalize hnn : nInt = nn at *
  have HNN := hid hnn
  clear hnn
  go_enter Try.func5, Try.ntmps5
  go_wp2_with fail
  clear hM
  go_at_call 13
  refine (kindOf_any nn M).mono ?_
  rintro e w1 ⟨hx1, hk⟩
  rw [HKF.out] at hk
  obtain ⟨g, hg, hO, rfl⟩ := hk
  rw [show kdV g 3 = .agg #[.string nInt, .int .i64 0, .int .i64 0, .bool true, .int .i64 0, .string hLit, .func (.func 58) #[] #[.pointer (some ⟨g, 0, none⟩)]] from rfl]
  rw [HNN.out]
  generalize hhl : hLit = hl at *
  clear hhl
  obtain ⟨V, hV⟩ : ∃ V, w1.alloc (.cells #[.string nn, .int .i64 0, .int .i64 0, .bool true, .int .i64 0, .string hl, .func (.func 58) #[] #[.pointer (some ⟨g, 0, none⟩)]] 71) = V := ⟨_, rfl⟩
  have X1 := hid (show Ext M V from hV ▸ hx1.trans (Ext.alloc _ _))
  have HOV := hid (show OfAt V g from hV ▸ blkOld _ hO)
  have HKB := hid (show V.heap[w1.heap.size]? = some (.cells #[.string nn, .int .i64 0, .int .i64 0, .bool true, .int .i64 0, .string hl, .func (.func 58) #[] #[.pointer (some ⟨g, 0, none⟩)]] 71) from hV ▸ blk0 _ _)
  obtain ⟨r0, r1, r2, r3, r4, r5, r6⟩ := seven_of HKB.out
  have HTB := hid (X1.out.block HM0.out)
  clear t0 t1 t2 t3 hx1 hO hg
  obtain ⟨t0, t1, t2, t3⟩ := four_of HTB.out
  go_wp2_with fail
  clear hV
  refine wp_loop_rounds 1 ?_
  rw [rounds_succ]
  go_wp2_with fail
  go_at_call 15
  refine (fits_zero nn hl 0 true _ nn x n _ V ⟨_, _, _, rfl⟩ (by decide) HXS.out).mono ?_
  rintro e w2 ⟨hx2, r, rfl, hr⟩
  have X2 := hid (X1.out.trans hx2)
  have HK2 := hid (hx2.block HKB.out)
  have HT2 := hid (hx2.block HTB.out)
  have HO2 := hid (hx2.block HOV.out)
  clear hx2 r0 r1 r2 r3 r4 r5 r6 t0 t1 t2 t3
  rcases hr with ⟨rfl, hok⟩ | ⟨hrc, hno⟩
  · have HOK := hid (show fitP true 0 n x from hok)
    clear hok
    have HSK := hid (show ∀ W', Ext w2 W' → (Ext w2 W' ∧ W'.cell? ⟨w1.heap.size, 6, none⟩ = some (.func (.func 58) #[] #[.pointer (some ⟨g, 0, none⟩)]) ∧ W'.cell? ⟨w.heap.size, 0, none⟩ = some (.string nn) ∧ W'.cell? ⟨w.heap.size, 1, none⟩ = some (.int .i64 n) ∧ W'.cell? ⟨w.heap.size, 2, none⟩ = some (.string x) ∧ W'.cell? ⟨w.heap.size, 3, none⟩ = some (.slice ka kl kc)) from fun W' X => by
      obtain ⟨s0, s1, s2, s3⟩ := four_of (X.block HT2.out)
      exact ⟨X, cell_of (X.block HK2.out) rfl, s0, s1, s2, s3⟩)
    go_wp2_with fail
    go_region_held3 (fun W' => Ext w2 W' ∧ W'.cell? ⟨w1.heap.size, 6, none⟩ = some (.func (.func 58) #[] #[.pointer (some ⟨g, 0, none⟩)]) ∧ W'.cell? ⟨w.heap.size, 0, none⟩ = some (.string nn) ∧ W'.cell? ⟨w.heap.size, 1, none⟩ = some (.int .i64 n) ∧ W'.cell? ⟨w.heap.size, 2, none⟩ = some (.string x) ∧ W'.cell? ⟨w.heap.size, 3, none⟩ = some (.slice ka kl kc))
      (first | with_reducible exact HSK.out _ (Ext.refl _) | with_reducible exact HSK.out _ (Ext.refl _).drew | with_reducible exact HSK.out _ Z3 | with_reducible exact HSK.out _ Z2 | with_reducible exact HSK.out _ Z1 | go_keep)
      (first
        | (go_at_call 18; refine (nodesOf_none _).mono ?_; rintro r u1 ⟨rfl, rfl⟩)
        | (go_at_call 17; refine (new_none nn x n _ _).mono ?_; rintro r u1 ⟨rfl, hy⟩; have Z1 : Ext w2 u1 := Ext.trans (by repeat (first | with_reducible exact Ext.refl _ | with_reducible refine Ext.drew ?_)) hy)
        | (go_at_call 58; refine (mkInt_any nn x n g _ ((Ext.trans (by repeat (first | with_reducible exact Z1 | with_reducible refine Ext.drew ?_)) (Ext.refl _)).block HO2.out)).mono ?_; rintro r u2 ⟨b, rfl, hb, hl2, hy⟩; have Z2 : Ext w2 u2 := Ext.trans (by repeat (first | with_reducible exact Z1 | with_reducible refine Ext.drew ?_)) hy; have ZB : w2.heap.size ≤ b := Nat.le_trans Z1.size hb)
        | (go_at_call 16; refine (hold_lit _ _).mono ?_; rintro r u3 ⟨rfl, hh, hy⟩; have Z3 : Ext w2 u3 := Ext.trans (by repeat (first | with_reducible exact Z2 | with_reducible refine Ext.drew ?_)) hy; have ZH := hy.block hl2))
    all_goals
      go_wp2_with fail
      go_ret2
      exact ⟨XM.out.trans (X2.out.trans Z3), .inl ⟨HOK.out, _, _, rfl, Nat.le_trans (XM.out.trans X2.out).size ZB, Nat.le_trans (XM.out.trans X2.out).size Z2.size, hh, ZH⟩⟩
  · have HNO := hid (show ¬ fitP true 0 n x from hno)
    clear hno
    rcases hrc with rfl | rfl
    · go_wp2_with fail
      go_at_call 14
      refine (Fa.new_any 2 w2 rfl).mono ?_
      rintro e w3 ⟨rfl, hc, hx⟩
      go_wp2_with fail
      go_ret2
      exact ⟨XM.out.trans (X2.out.trans hx), .inr ⟨HNO.out, _, _, rfl, hc, .inl rfl⟩⟩
    · go_wp2_with fail
      go_at_call 14
      refine (Fa.new_any 12 w2 rfl).mono ?_
      rintro e w3 ⟨rfl, hc, hx⟩
      go_wp2_with fail
      go_ret2
      exact ⟨XM.out.trans (X2.out.trans hx), .inr ⟨HNO.out, _, _, rfl, hc, .inr rfl⟩⟩
set_option maxRecDepth 100000 in
set_option maxHeartbeats 4000000 in
theorem makeText_any (n : Int) (x : ByteArray) (ka : Option Addr) (kl kc : Nat) (w : World) (hxs : x.size ≤ 140737488355328) : Calls Try.prog 5 #[.agg #[.string nText, .int .i64 n, .string x, .slice ka kl kc], .slice none 0 0] w (MkR 165 (fitP false 1 n x) (fun W b => LitAt W b nText n x (.iface 175 (.string x))) w) := by
  obtain ⟨M, hM⟩ : ∃ M, w.alloc (.cells #[.string nText, .int .i64 n, .string x, .slice ka kl kc] 30) = M := ⟨_, rfl⟩
  have XM := hid (show Ext w M from hM ▸ Ext.alloc _ _)
  have HM0 := hid (show M.heap[w.heap.size]? = some (.cells #[.string nText, .int .i64 n, .string x, .slice ka kl kc] 30) from hM ▸ blk0 _ _)
  obtain ⟨t0, t1, t2, t3⟩ := four_of HM0.out
  have HXS := hid hxs
  have hxs' : (x.size : Int) ≤ 140737488355328 := by omega
  clear hxs
  have HKF := hid find_Text
  generalize hnn : nText = nn at *
  have HNN := hid hnn
  clear hnn
  go_enter Try.func5, Try.ntmps5
  go_wp2_with fail
  clear hM
  go_at_call 13
  refine (kindOf_any nn M).mono ?_
  rintro e w1 ⟨hx1, hk⟩
  rw [HKF.out] at hk
  obtain ⟨g, hg, hO, rfl⟩ := hk
  rw [show kdV g 4 = .agg #[.string nText, .int .i64 0, .int .i64 0, .bool false, .int .i64 1, .string hLit, .func (.func 60) #[] #[.pointer (some ⟨g, 0, none⟩)]] from rfl]
  rw [HNN.out]
  generalize hhl : hLit = hl at *
  clear hhl
  obtain ⟨V, hV⟩ : ∃ V, w1.alloc (.cells #[.string nn, .int .i64 0, .int .i64 0, .bool false, .int .i64 1, .string hl, .func (.func 60) #[] #[.pointer (some ⟨g, 0, none⟩)]] 71) = V := ⟨_, rfl⟩
  have X1 := hid (show Ext M V from hV ▸ hx1.trans (Ext.alloc _ _))
  have HOV := hid (show OfAt V g from hV ▸ blkOld _ hO)
  have HKB := hid (show V.heap[w1.heap.size]? = some (.cells #[.string nn, .int .i64 0, .int .i64 0, .bool false, .int .i64 1, .string hl, .func (.func 60) #[] #[.pointer (some ⟨g, 0, none⟩)]] 71) from hV ▸ blk0 _ _)
  obtain ⟨r0, r1, r2, r3, r4, r5, r6⟩ := seven_of HKB.out
  have HTB := hid (X1.out.block HM0.out)
  clear t0 t1 t2 t3 hx1 hO hg
  obtain ⟨t0, t1, t2, t3⟩ := four_of HTB.out
  go_wp2_with fail
  clear hV
  refine wp_loop_rounds 1 ?_
  rw [rounds_succ]
  go_wp2_with fail
  go_at_call 15
  refine (fits_zero nn hl 1 false _ nn x n _ V ⟨_, _, _, rfl⟩ (by decide) HXS.out).mono ?_
  rintro e w2 ⟨hx2, r, rfl, hr⟩
  have X2 := hid (X1.out.trans hx2)
  have HK2 := hid (hx2.block HKB.out)
  have HT2 := hid (hx2.block HTB.out)
  have HO2 := hid (hx2.block HOV.out)
  clear hx2 r0 r1 r2 r3 r4 r5 r6 t0 t1 t2 t3
  rcases hr with ⟨rfl, hok⟩ | ⟨hrc, hno⟩
  · have HOK := hid (show fitP false 1 n x from hok)
    clear hok
    have HSK := hid (show ∀ W', Ext w2 W' → (Ext w2 W' ∧ W'.cell? ⟨w1.heap.size, 6, none⟩ = some (.func (.func 60) #[] #[.pointer (some ⟨g, 0, none⟩)]) ∧ W'.cell? ⟨w.heap.size, 0, none⟩ = some (.string nn) ∧ W'.cell? ⟨w.heap.size, 1, none⟩ = some (.int .i64 n) ∧ W'.cell? ⟨w.heap.size, 2, none⟩ = some (.string x) ∧ W'.cell? ⟨w.heap.size, 3, none⟩ = some (.slice ka kl kc)) from fun W' X => by
      obtain ⟨s0, s1, s2, s3⟩ := four_of (X.block HT2.out)
      exact ⟨X, cell_of (X.block HK2.out) rfl, s0, s1, s2, s3⟩)
    go_wp2_with fail
    go_region_held3 (fun W' => Ext w2 W' ∧ W'.cell? ⟨w1.heap.size, 6, none⟩ = some (.func (.func 60) #[] #[.pointer (some ⟨g, 0, none⟩)]) ∧ W'.cell? ⟨w.heap.size, 0, none⟩ = some (.string nn) ∧ W'.cell? ⟨w.heap.size, 1, none⟩ = some (.int .i64 n) ∧ W'.cell? ⟨w.heap.size, 2, none⟩ = some (.string x) ∧ W'.cell? ⟨w.heap.size, 3, none⟩ = some (.slice ka kl kc))
      (first | with_reducible exact HSK.out _ (Ext.refl _) | with_reducible exact HSK.out _ (Ext.refl _).drew | with_reducible exact HSK.out _ Z3 | with_reducible exact HSK.out _ Z2 | with_reducible exact HSK.out _ Z1 | go_keep)
      (first
        | (go_at_call 18; refine (nodesOf_none _).mono ?_; rintro r u1 ⟨rfl, rfl⟩)
        | (go_at_call 17; refine (new_none nn x n _ _).mono ?_; rintro r u1 ⟨rfl, hy⟩; have Z1 : Ext w2 u1 := Ext.trans (by repeat (first | with_reducible exact Ext.refl _ | with_reducible refine Ext.drew ?_)) hy)
        | (go_at_call 60; refine (mkText_any nn x n g _ ((Ext.trans (by repeat (first | with_reducible exact Z1 | with_reducible refine Ext.drew ?_)) (Ext.refl _)).block HO2.out)).mono ?_; rintro r u2 ⟨b, rfl, hb, hl2, hy⟩; have Z2 : Ext w2 u2 := Ext.trans (by repeat (first | with_reducible exact Z1 | with_reducible refine Ext.drew ?_)) hy; have ZB : w2.heap.size ≤ b := Nat.le_trans Z1.size hb)
        | (go_at_call 16; refine (hold_lit _ _).mono ?_; rintro r u3 ⟨rfl, hh, hy⟩; have Z3 : Ext w2 u3 := Ext.trans (by repeat (first | with_reducible exact Z2 | with_reducible refine Ext.drew ?_)) hy; have ZH := hy.block hl2))
    all_goals
      go_wp2_with fail
      go_ret2
      exact ⟨XM.out.trans (X2.out.trans Z3), .inl ⟨HOK.out, _, _, rfl, Nat.le_trans (XM.out.trans X2.out).size ZB, Nat.le_trans (XM.out.trans X2.out).size Z2.size, hh, ZH⟩⟩
  · have HNO := hid (show ¬ fitP false 1 n x from hno)
    clear hno
    rcases hrc with rfl | rfl
    · go_wp2_with fail
      go_at_call 14
      refine (Fa.new_any 2 w2 rfl).mono ?_
      rintro e w3 ⟨rfl, hc, hx⟩
      go_wp2_with fail
      go_ret2
      exact ⟨XM.out.trans (X2.out.trans hx), .inr ⟨HNO.out, _, _, rfl, hc, .inl rfl⟩⟩
    · go_wp2_with fail
      go_at_call 14
      refine (Fa.new_any 12 w2 rfl).mono ?_
      rintro e w3 ⟨rfl, hc, hx⟩
      go_wp2_with fail
      go_ret2
      exact ⟨XM.out.trans (X2.out.trans hx), .inr ⟨HNO.out, _, _, rfl, hc, .inr rfl⟩⟩
set_option maxRecDepth 100000 in
set_option maxHeartbeats 4000000 in
theorem makeVar_any (n : Int) (x : ByteArray) (ka : Option Addr) (kl kc : Nat) (w : World) (hxs : x.size ≤ 140737488355328) : Calls Try.prog 5 #[.agg #[.string nVar, .int .i64 n, .string x, .slice ka kl kc], .slice none 0 0] w (MkR 176 (fitP false 4 n x) (fun W b => VarAt W b nVar n x) w) := by
  obtain ⟨M, hM⟩ : ∃ M, w.alloc (.cells #[.string nVar, .int .i64 n, .string x, .slice ka kl kc] 30) = M := ⟨_, rfl⟩
  have XM := hid (show Ext w M from hM ▸ Ext.alloc _ _)
  have HM0 := hid (show M.heap[w.heap.size]? = some (.cells #[.string nVar, .int .i64 n, .string x, .slice ka kl kc] 30) from hM ▸ blk0 _ _)
  obtain ⟨t0, t1, t2, t3⟩ := four_of HM0.out
  have HXS := hid hxs
  have hxs' : (x.size : Int) ≤ 140737488355328 := by omega
  clear hxs
  have HKF := hid find_Var
  generalize hnn : nVar = nn at *
  have HNN := hid hnn
  clear hnn
  go_enter Try.func5, Try.ntmps5
  go_wp2_with fail
  clear hM
  go_at_call 13
  refine (kindOf_any nn M).mono ?_
  rintro e w1 ⟨hx1, hk⟩
  rw [HKF.out] at hk
  obtain ⟨g, hg, hO, rfl⟩ := hk
  rw [show kdV g 5 = .agg #[.string nVar, .int .i64 0, .int .i64 0, .bool false, .int .i64 4, .string hUse, .func (.func 62) #[] #[]] from rfl]
  rw [HNN.out]
  generalize hhl : hUse = hl at *
  clear hhl
  obtain ⟨V, hV⟩ : ∃ V, w1.alloc (.cells #[.string nn, .int .i64 0, .int .i64 0, .bool false, .int .i64 4, .string hl, .func (.func 62) #[] #[]] 71) = V := ⟨_, rfl⟩
  have X1 := hid (show Ext M V from hV ▸ hx1.trans (Ext.alloc _ _))
  have HOV := hid (show OfAt V g from hV ▸ blkOld _ hO)
  have HKB := hid (show V.heap[w1.heap.size]? = some (.cells #[.string nn, .int .i64 0, .int .i64 0, .bool false, .int .i64 4, .string hl, .func (.func 62) #[] #[]] 71) from hV ▸ blk0 _ _)
  obtain ⟨r0, r1, r2, r3, r4, r5, r6⟩ := seven_of HKB.out
  have HTB := hid (X1.out.block HM0.out)
  clear t0 t1 t2 t3 hx1 hO hg
  obtain ⟨t0, t1, t2, t3⟩ := four_of HTB.out
  go_wp2_with fail
  clear hV
  refine wp_loop_rounds 1 ?_
  rw [rounds_succ]
  go_wp2_with fail
  go_at_call 15
  refine (fits_zero nn hl 4 false _ nn x n _ V ⟨_, _, _, rfl⟩ (by decide) HXS.out).mono ?_
  rintro e w2 ⟨hx2, r, rfl, hr⟩
  have X2 := hid (X1.out.trans hx2)
  have HK2 := hid (hx2.block HKB.out)
  have HT2 := hid (hx2.block HTB.out)
  have HO2 := hid (hx2.block HOV.out)
  clear hx2 r0 r1 r2 r3 r4 r5 r6 t0 t1 t2 t3
  rcases hr with ⟨rfl, hok⟩ | ⟨hrc, hno⟩
  · have HOK := hid (show fitP false 4 n x from hok)
    clear hok
    have HSK := hid (show ∀ W', Ext w2 W' → (Ext w2 W' ∧ W'.cell? ⟨w1.heap.size, 6, none⟩ = some (.func (.func 62) #[] #[]) ∧ W'.cell? ⟨w.heap.size, 0, none⟩ = some (.string nn) ∧ W'.cell? ⟨w.heap.size, 1, none⟩ = some (.int .i64 n) ∧ W'.cell? ⟨w.heap.size, 2, none⟩ = some (.string x) ∧ W'.cell? ⟨w.heap.size, 3, none⟩ = some (.slice ka kl kc)) from fun W' X => by
      obtain ⟨s0, s1, s2, s3⟩ := four_of (X.block HT2.out)
      exact ⟨X, cell_of (X.block HK2.out) rfl, s0, s1, s2, s3⟩)
    go_wp2_with fail
    go_region_held3 (fun W' => Ext w2 W' ∧ W'.cell? ⟨w1.heap.size, 6, none⟩ = some (.func (.func 62) #[] #[]) ∧ W'.cell? ⟨w.heap.size, 0, none⟩ = some (.string nn) ∧ W'.cell? ⟨w.heap.size, 1, none⟩ = some (.int .i64 n) ∧ W'.cell? ⟨w.heap.size, 2, none⟩ = some (.string x) ∧ W'.cell? ⟨w.heap.size, 3, none⟩ = some (.slice ka kl kc))
      (first | with_reducible exact HSK.out _ (Ext.refl _) | with_reducible exact HSK.out _ (Ext.refl _).drew | with_reducible exact HSK.out _ Z3 | with_reducible exact HSK.out _ Z2 | with_reducible exact HSK.out _ Z1 | go_keep)
      (first
        | (go_at_call 18; refine (nodesOf_none _).mono ?_; rintro r u1 ⟨rfl, rfl⟩)
        | (go_at_call 17; refine (new_none nn x n _ _).mono ?_; rintro r u1 ⟨rfl, hy⟩; have Z1 : Ext w2 u1 := Ext.trans (by repeat (first | with_reducible exact Ext.refl _ | with_reducible refine Ext.drew ?_)) hy)
        | (go_at_call 62; refine (mkVar_any nn x n _).mono ?_; rintro r u2 ⟨b, rfl, hb, hl2, hy⟩; have Z2 : Ext w2 u2 := Ext.trans (by repeat (first | with_reducible exact Z1 | with_reducible refine Ext.drew ?_)) hy; have ZB : w2.heap.size ≤ b := Nat.le_trans Z1.size hb)
        | (go_at_call 16; refine (hold_var _ _).mono ?_; rintro r u3 ⟨rfl, hh, hy⟩; have Z3 : Ext w2 u3 := Ext.trans (by repeat (first | with_reducible exact Z2 | with_reducible refine Ext.drew ?_)) hy; have ZH := hy.block hl2))
    all_goals
      go_wp2_with fail
      go_ret2
      exact ⟨XM.out.trans (X2.out.trans Z3), .inl ⟨HOK.out, _, _, rfl, Nat.le_trans (XM.out.trans X2.out).size ZB, Nat.le_trans (XM.out.trans X2.out).size Z2.size, hh, ZH⟩⟩
  · have HNO := hid (show ¬ fitP false 4 n x from hno)
    clear hno
    rcases hrc with rfl | rfl
    · go_wp2_with fail
      go_at_call 14
      refine (Fa.new_any 2 w2 rfl).mono ?_
      rintro e w3 ⟨rfl, hc, hx⟩
      go_wp2_with fail
      go_ret2
      exact ⟨XM.out.trans (X2.out.trans hx), .inr ⟨HNO.out, _, _, rfl, hc, .inl rfl⟩⟩
    · go_wp2_with fail
      go_at_call 14
      refine (Fa.new_any 12 w2 rfl).mono ?_
      rintro e w3 ⟨rfl, hc, hx⟩
      go_wp2_with fail
      go_ret2
      exact ⟨XM.out.trans (X2.out.trans hx), .inr ⟨HNO.out, _, _, rfl, hc, .inr rfl⟩⟩

end Go.Proofs.Ytdikcdefpoolfaa
