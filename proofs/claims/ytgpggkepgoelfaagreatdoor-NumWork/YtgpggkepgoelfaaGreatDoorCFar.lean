/-
  craft.Work where the operation is none, or the number of values is wrong: whatever the values.
-/
import Derived.Test.YtgpggkepgoelfaaGreatDoorCWork
namespace Go.Proofs.YtgpggkepgoelfaaGreatDoor
open Go.RowKit
set_option maxRecDepth 100000 in
set_option maxHeartbeats 4000000 in
theorem work_far (ks : List Kd) (tb : Nat) (op : ByteArray) (a : Option Addr) (c : Nat) (ts : List T) (R : Value) (w : World) (hl : ks.length ≤ 1000) (ht : TabAt w tb ks) (hn : ts.length ≤ 140737488351232)
    (hc : ∀ k f, kdFind ks op = some k → k.does = some f → cntOk k ts.length = false) :
    Calls Tryz.prog 32 #[.slice (some ⟨tb, 0, none⟩) ks.length ks.length, .string op, .slice a ts.length c] w fun e w' => e = .returned (workV ks op ts R) ∧ Ext w w' := by
  have HF := hid (fun w1 (hx : Ext w w1) => find_any ks tb op w1 hl (ht.later hx))
  have HC := hid hc
  have hn' : (ts.length : Int) ≤ 140737488351232 := by omega
  have hqn : ∀ w : World, (binOp .eql 62 .nilFunc .nilFunc).run Tryz.prog w = .ok (.bool true) w := fun _ => by kernel_rfl
  have hqf : ∀ (f : Nat) (w : World), (binOp .eql 62 (.func (.func f) #[] #[]) .nilFunc).run Tryz.prog w = .ok (.bool false) w := fun _ _ => by kernel_rfl
  clear hl ht hc
  obtain ⟨kn, hkn⟩ : ∃ n, ks.length = n := ⟨_, rfl⟩
  rw [hkn] at HF ⊢
  clear hkn
  obtain ⟨o, ho⟩ : ∃ o, kdFind ks op = o := ⟨_, rfl⟩
  cases o with
  | none =>
    have HV := hid (show workV ks op ts R = refV 1 by unfold workV; rw [ho])
    rw [ho] at HF
    clear ho
    go_enter Tryz.func32, Tryz.ntmps32
    go_wp2_with fail
    refine (HF.out _ (Ext.refl _)).mono ?_
    rintro e w1 ⟨rfl, hx1⟩
    have X1 := hid hx1
    clear hx1
    unfold kdVal
    go_wp2_with fail
    go_ret3
    exact ⟨by rw [HV.out]; rfl, X1.out.trans (Ext.alloc _ _)⟩
  | some k =>
    have HCK := hid (fun f h => HC.out k f ho h)
    have HW := hid (show workV ks op ts R = match k.does with | none => refV 1 | some _ => if cntOk k ts.length = false then refV 11 else if ∀ t ∈ ts, t.may then (if rightB k.signs.data.toList (ts.map T.kind) = true then R else refV 20) else refV 1 by unfold workV; rw [ho] <;> rfl)
    rw [ho] at HF
    have HCN := hid (show cntOk k ts.length = (decide (k.min ≤ ts.length) && (decide (k.max < 0) || decide ((ts.length : Int) ≤ k.max))) from rfl)
    clear ho HC
    obtain ⟨k0, k1, k2, k3, k4, k5, k6, k7, k8⟩ := k
    dsimp only at HW HCK HCN
    cases k7 with
    | none =>
      have HV := hid (show workV ks op ts R = refV 1 from HW.out)
      go_enter Tryz.func32, Tryz.ntmps32
      go_wp2_with fail
      refine (HF.out _ (Ext.refl _)).mono ?_
      rintro e w1 ⟨rfl, hx1⟩
      have X1 := hid hx1
      clear hx1
      unfold kdVal Kd.val fnV
      dsimp only
      go_wp2_with fail
      go_ret3
      exact ⟨by rw [HV.out]; rfl, X1.out.trans (Ext.alloc _ _)⟩
    | some f =>
      have hcb := HCK.out f rfl
      have HV := hid (show workV ks op ts R = refV 11 from HW.out.trans (if_pos hcb))
      rw [hcb] at HCN
      clear HW HCK hcb
      generalize ts.length = n at *
      have HCF := hid (show ¬ (k1 ≤ (n : Int) ∧ (k2 < 0 ∨ (n : Int) ≤ k2)) from fun h => by
        have := HCN.out
        simp only [Bool.false_eq, Bool.and_eq_false_iff, Bool.or_eq_false_iff, decide_eq_false_iff_not] at this
        omega)
      by_cases h1 : k1 ≤ (n : Int)
      · have h2 : 0 ≤ k2 := by have := HCF.out; omega
        have h3 : k2 < (n : Int) := by have := HCF.out; omega
        go_enter Tryz.func32, Tryz.ntmps32
        go_wp2_with fail
        refine (HF.out _ (Ext.refl _)).mono ?_
        rintro e w1 ⟨rfl, hx1⟩
        have X1 := hid hx1
        clear hx1
        unfold kdVal Kd.val fnV
        dsimp only
        go_wp2_with fail
        go_ret3
        exact ⟨by rw [HV.out]; rfl, X1.out.trans (Ext.alloc _ _)⟩
      · go_enter Tryz.func32, Tryz.ntmps32
        go_wp2_with fail
        refine (HF.out _ (Ext.refl _)).mono ?_
        rintro e w1 ⟨rfl, hx1⟩
        have X1 := hid hx1
        clear hx1
        unfold kdVal Kd.val fnV
        dsimp only
        go_wp2_with fail
        go_ret3
        exact ⟨by rw [HV.out]; rfl, X1.out.trans (Ext.alloc _ _)⟩
end Go.Proofs.YtgpggkepgoelfaaGreatDoor
