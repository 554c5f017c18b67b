/-
  Text of package sort by a contract.
-/
import Derived.Test.YtllbelglilkdpaaDoorSFace
import Derived.Test.YtllbelglilkdpaaDoorShelf
import Derived.Deep.RegionHeld3
import Derived.WalkSpells
namespace Go.Proofs.YtllbelglilkdpaaDoor
open Go.RowKit
/-- The text of a shape. -/
def txtB (n : Nat) (x : ByteArray) : ByteArray := ⟨(txtL n x.data.toList).toArray⟩
theorem txtB_eq (n : Nat) (x : ByteArray) : (⟨(Lib.repeatL [108, 105, 115, 116, 32] n).toArray⟩ : ByteArray) ++ x = txtB n x := by
  refine data_inj ?_
  have e : ((⟨(Lib.repeatL [108, 105, 115, 116, 32] n).toArray⟩ : ByteArray) ++ x).data.toList = Lib.repeatL [108, 105, 115, 116, 32] n ++ x.data.toList := by simp
  rw [e]
  exact (txt_rep n x.data.toList).trans (by unfold txtB; simp)
/-- What Text answers. -/
def txtV (t : S) : Value := match shp t with
  | some (n, x) => .tuple #[.string (txtB n x), .int .i64 0]
  | none => .tuple #[.string ⟨#[]⟩, .int .i64 14]
set_option maxRecDepth 100000 in
set_option maxHeartbeats 2000000 in
theorem textS_any {K : Nat → Prop} {d : Nat} {v : Value} {t : S} (w : World) (hr : SRd K w d v t) : Calls Tryd.prog 9 #[v] w fun e w' => e = .returned (txtV t) ∧ Ext w w' := by
  obtain ⟨a, c, rfl⟩ := hr.shape
  have HC := hid (fun w1 (h : Ext w w1) => shapeOf_any w1 (hr.later h))
  obtain ⟨ans, hans⟩ : ∃ ans, txtV t = ans := ⟨_, rfl⟩
  rw [hans]
  cases hs : shp t with
  | none =>
    have HA := hid (show ans = .tuple #[.string ⟨#[]⟩, .int .i64 14] by rw [← hans]; unfold txtV; rw [hs])
    rw [hs] at HC
    clear hr hans hs
    generalize t.kids.length = kl at *
    generalize t.name = nm at *
    go_enter Tryd.func9, Tryd.ntmps9
    go_wp2_with fail
    refine (HC.out _ (Ext.alloc _ _)).mono ?_
    rintro e w1 ⟨rfl, hx1⟩
    have HX := hid ((Ext.alloc w _).trans hx1)
    clear hx1
    unfold shpV
    go_wp2_with fail
    go_ret2
    exact ⟨by rw [HA.out]; rfl, HX.out.more _⟩
  | some y =>
    obtain ⟨n, x⟩ := y
    have HA := hid (show ans = .tuple #[.string (txtB n x), .int .i64 0] by rw [← hans]; unfold txtV; rw [hs])
    have hsm := shp_some hs
    have hn : n ≤ 64 := by rw [← hsm.1]; exact peel_le 64 t
    have HLX := hid (leaf_len hsm.2.2.2)
    rw [hs] at HC
    clear hr hans hs hsm
    generalize t.kids.length = kl at *
    generalize t.name = nm at *
    go_enter Tryd.func9, Tryd.ntmps9
    go_wp2_with fail
    refine (HC.out _ (Ext.alloc _ _)).mono ?_
    rintro e w1 ⟨rfl, hx1⟩
    unfold shpV
    have HX := hid ((Ext.alloc w _).trans hx1)
    clear hx1
    go_upto_region 4 with fail
    have HX2 := hid (HX.out.more (.cells #[.int .i64 n, .string x] 58))
    have HB := hid (blk0 w1 (.cells #[.int .i64 n, .string x] 58))
    generalize w1.alloc (.cells #[.int .i64 n, .string x] 58) = M at *
    generalize w1.heap.size = b at *
    obtain ⟨t0, t1⟩ := two_of HB.out
    have HSK := hid (show ∀ W', Ext M W' → W'.cell? ⟨b, 0, none⟩ = some (.int .i64 n) ∧ W'.cell? ⟨b, 1, none⟩ = some (.string x) from fun W' Y => by
      obtain ⟨s0, s1⟩ := two_of (Y.block HB.out)
      exact ⟨s0, s1⟩)
    have HRP := hid (fun w1 => Tryd.strings_Repeat ⟨#[108, 105, 115, 116, 32]⟩ n w1 (by omega) (by show 5 * n ≤ _; omega))
    have hrl : (⟨(Lib.repeatL [108, 105, 115, 116, 32] n).toArray⟩ : ByteArray).size ≤ 320 := by
      show (Lib.repeatL [108, 105, 115, 116, 32] n).toArray.size ≤ 320
      rw [List.size_toArray, Lib.repeatL_length]
      simp
      omega
    have HTX := hid (txtB_eq n x)
    have HRP3 := hid (show ∀ w1, Calls Tryd.prog 33 #[.string ⟨#[108, 105, 115, 116, 32]⟩, .int .i64 n] w1 fun e w' => e = .returned (.string ⟨(Lib.repeatL [108, 105, 115, 116, 32] n).toArray⟩) ∧ Below w1.heap.size w1 w' from HRP.out)
    clear HRP
    generalize (⟨(Lib.repeatL [108, 105, 115, 116, 32] n).toArray⟩ : ByteArray) = R at *
    have hR' : (R.size : Int) ≤ 320 := by omega
    have hx' : (x.size : Int) ≤ 5 := by have := HLX.out.1; rw [Array.length_toList] at this; have h' : x.size ≤ 5 := this; omega
    have hRx : ¬ ((9223372036854775807 : Int) < ((R.size + x.size : Nat) : Int)) := by omega
    have hRy : ¬ ((9223372036854775807 : Int) < (R.size : Int) + (x.size : Int)) := by omega
    have hRz : decide ((9223372036854775807 : Int) < (R.size : Int) + (x.size : Int)) = false := decide_eq_false hRy
    have hadd : ∀ w1 : World, (Op.stringOp .add R x).run Tryd.prog w1 = .ok (.string (R ++ x)) w1 := fun w1 => run_string_add_sum w1 R x (by omega)
    clear hRx hRy hRz
    go_region_held3 (fun W' => W'.cell? ⟨b, 0, none⟩ = some (.int .i64 n) ∧ W'.cell? ⟨b, 1, none⟩ = some (.string x))
      (first | exact SK1 | exact ⟨t0, t1⟩ | go_keep)
      (first | (go_at_call 33; refine (HRP3.out _).mono ?_; rintro e w2 ⟨rfl, hx2⟩; have Z1 : Ext M w2 := Ext.trans (by repeat (first | with_reducible exact Ext.refl _ | with_reducible refine Ext.drew ?_)) hx2; have SK1 := HSK.out w2 Z1))
    all_goals
      go_wp2_with fail
      go_ret2
      exact ⟨by rw [HA.out, ← HTX.out]; rfl, HX2.out.trans Z1⟩
end Go.Proofs.YtllbelglilkdpaaDoor
