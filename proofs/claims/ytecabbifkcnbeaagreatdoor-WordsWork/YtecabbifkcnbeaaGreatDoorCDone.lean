/-
  (Kind).done by a contract: what an operation of a kit comes to, given what its function does.
-/
import Derived.Test.YtecabbifkcnbeaaGreatDoorCRight
import Derived.Test.YtecabbifkcnbeaaGreatDoorCRightW
import Derived.Test.YtecabbifkcnbeaaGreatDoorKAbil
namespace Go.Proofs.YtecabbifkcnbeaaGreatDoor
open Go.RowKit
/-- An answer of an operation on numbers. -/
def NRes (R : Value) : Prop := (∃ n, R = cameV n) ∨ (∃ b, R = toldV b) ∨ (∃ c, (c == 0) = false ∧ R = refV c) ∨ (∃ s : ByteArray, s.size ≤ 65535 ∧ R = wroteV s)
/-- A function is entered when it is called. -/
def Enters (f : Nat) : Prop := ∀ (a : Array Value) (w : World), (callFunc f a).run Tryz.prog w = .ok (.enter f a) w
set_option maxRecDepth 100000 in
set_option maxHeartbeats 2000000 in
theorem done_any (k : Kd) (f : Nat) (hf : k.does = some f) (he : Enters f) (g : Nat) (ks : List Int) (R : Value) (w : World) (hs : k.signs.size ≤ 4000) (hn : ks.length ≤ 100000000) (hm : MaxAt w) (hv : VRow w g ks)
    (hd : rightB k.signs.data.toList ks = true → NRes R ∧ ∀ w1, Ext w w1 → Calls Tryz.prog f #[.slice (some ⟨g, 0, none⟩) ks.length ks.length] w1 fun e w' => e = .returned R ∧ Ext w1 w') :
    Calls Tryz.prog 57 #[k.val, .slice (some ⟨g, 0, none⟩) ks.length ks.length] w fun e w' => e = .returned (if rightB k.signs.data.toList ks = true then R else refV 20) ∧ Ext w w' := by
  obtain ⟨k0, k1, k2, k3, k4, k5, k6, k7, k8⟩ := k
  dsimp only [Kd.val] at *
  subst hf
  show Calls Tryz.prog 57 #[.agg #[.string k0, .int .i64 k1, .int .i64 k2, .int .i64 k3, .string k4, .string k5, .func (.func k6) #[] #[], .func (.func f) #[] #[], .bool k8], .slice (some ⟨g, 0, none⟩) ks.length ks.length] w _
  obtain ⟨M, hM⟩ : ∃ M, w.alloc (.cells #[.string k0, .int .i64 k1, .int .i64 k2, .int .i64 k3, .string k4, .string k5, .func (.func k6) #[] #[], .func (.func f) #[] #[], .bool k8] 69) = M := ⟨_, rfl⟩
  have XM := hid (show Ext w M from hM ▸ Ext.alloc _ _)
  have HM0 := hid (show M.heap[w.heap.size]? = some (.cells #[.string k0, .int .i64 k1, .int .i64 k2, .int .i64 k3, .string k4, .string k5, .func (.func k6) #[] #[], .func (.func f) #[] #[], .bool k8] 69) from hM ▸ blk0 _ _)
  have HRI := hid (right_any k5 g ks M hs hn (hm.later XM.out) (hv.later XM.out))
  have HD := hid hd
  generalize ks.length = n at *
  obtain ⟨b, hb⟩ : ∃ b, rightB k5.data.toList ks = b := ⟨_, rfl⟩
  rw [hb] at HRI HD ⊢
  have he' : ∀ (a : Array Value) (w : World), (callFunc f a).run Tryz.prog w = .ok (.enter f a) w := he
  obtain ⟨z0, z1, z2, z3, z4, z5, z6, z7, z8⟩ := nine_of HM0.out
  clear hb hd hm hv hs hn he
  go_enter Tryz.func57, Tryz.ntmps57
  go_wp2_with fail
  clear hM
  refine HRI.out.mono ?_
  rintro e w1 ⟨rfl, hx1⟩
  have X1 := hid (XM.out.trans hx1)
  obtain ⟨y0, y1, y2, y3, y4, y5, y6, y7, y8⟩ := nine_of (hx1.block HM0.out)
  clear hx1
  cases b with
  | false =>
    go_wp2_with fail
    go_ret3
    exact ⟨rfl, X1.out⟩
  | true =>
    obtain ⟨hR, hC⟩ := HD.out rfl
    have HC := hid (hC _ X1.out)
    have HR := hid hR
    clear hR hC
    go_wp2_with fail
    refine HC.out.mono ?_
    rintro e w2 ⟨rfl, hx2⟩
    have X2 := hid (X1.out.trans hx2)
    clear hx2
    rcases HR.out with ⟨nn, rfl⟩ | ⟨bb, rfl⟩ | ⟨cc, hcc, rfl⟩ | ⟨ss, hss, rfl⟩
    · unfold cameV
      go_wp2_with fail
      refine (cmay_in _ _).mono ?_
      rintro e w3 ⟨rfl, hx3⟩
      have X3 := hid (X2.out.trans hx3)
      clear hx3
      go_wp2_with fail
      go_ret3
      exact ⟨rfl, X3.out⟩
    · unfold toldV
      go_wp2_with fail
      refine (cmay_tu _ _).mono ?_
      rintro e w3 ⟨rfl, hx3⟩
      have X3 := hid (X2.out.trans hx3)
      clear hx3
      go_wp2_with fail
      go_ret3
      exact ⟨rfl, X3.out⟩
    · unfold refV
      go_wp2_with fail
      go_ret3
      exact ⟨rfl, X2.out⟩
    · have HS := hid hss
      clear hss
      unfold wroteV
      go_wp2_with fail
      refine (cmay_tx _ HS.out _).mono ?_
      rintro e w3 ⟨rfl, hx3⟩
      have X3 := hid (X2.out.trans hx3)
      clear hx3
      go_wp2_with fail
      go_ret3
      exact ⟨rfl, X3.out⟩
end Go.Proofs.YtecabbifkcnbeaaGreatDoor
