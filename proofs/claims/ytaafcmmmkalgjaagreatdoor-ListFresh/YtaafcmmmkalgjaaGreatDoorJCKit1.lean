/-
  node.Rows: the rows of the kit base; kit.Base: its kit; by contracts.
-/
import Derived.Test.YtaafcmmmkalgjaaGreatDoorJMk
import Derived.Test.YtaafcmmmkalgjaaGreatDoorKRows
import Derived.Test.YtaafcmmmkalgjaaGreatDoorBFind
import Derived.Deep.Cut
import Derived.Deep.CutRange
import Derived.Deep.CutBlock
namespace Go.Proofs.YtaafcmmmkalgjaaGreatDoor.Nd
open Go.RowKit
/-- What a kind can do, word by word. -/
def absL : Nat → List ByteArray
  | 0 => [⟨#[76, 105, 116, 101, 114, 97, 108]⟩, ⟨#[80, 117, 114, 101]⟩, ⟨#[84, 111, 116, 97, 108]⟩, ⟨#[83, 111, 114, 116, 101, 100]⟩]
  | 1 => [⟨#[76, 105, 116, 101, 114, 97, 108]⟩, ⟨#[80, 117, 114, 101]⟩, ⟨#[84, 111, 116, 97, 108]⟩, ⟨#[83, 111, 114, 116, 101, 100]⟩]
  | 2 => [⟨#[76, 105, 116, 101, 114, 97, 108]⟩, ⟨#[80, 117, 114, 101]⟩, ⟨#[84, 111, 116, 97, 108]⟩, ⟨#[83, 111, 114, 116, 101, 100]⟩]
  | 3 => [⟨#[76, 105, 116, 101, 114, 97, 108]⟩, ⟨#[80, 117, 114, 101]⟩, ⟨#[84, 111, 116, 97, 108]⟩, ⟨#[83, 111, 114, 116, 101, 100]⟩]
  | 4 => [⟨#[76, 105, 116, 101, 114, 97, 108]⟩, ⟨#[80, 117, 114, 101]⟩, ⟨#[84, 111, 116, 97, 108]⟩, ⟨#[83, 111, 114, 116, 101, 100]⟩]
  | 5 => [⟨#[85, 115, 101, 114]⟩, ⟨#[80, 117, 114, 101]⟩]
  | 6 => [⟨#[80, 117, 114, 101]⟩, ⟨#[84, 111, 116, 97, 108]⟩, ⟨#[70, 114, 97, 109, 101, 100]⟩]
  | _ => []
theorem absL_fields : ∀ j, j < 7 → (Lib.fields (hasK j).data.toList).map (fun l => (⟨l.toArray⟩ : ByteArray)) = absL j ∧ (hasK j).size ≤ 4000 ∧ (hasK j).data.toList.all (fun b => decide (b.toNat < 128)) = true
  | 0, _ => ⟨by kernel_rfl, by decide, by decide⟩
  | 1, _ => ⟨by kernel_rfl, by decide, by decide⟩
  | 2, _ => ⟨by kernel_rfl, by decide, by decide⟩
  | 3, _ => ⟨by kernel_rfl, by decide, by decide⟩
  | 4, _ => ⟨by kernel_rfl, by decide, by decide⟩
  | 5, _ => ⟨by kernel_rfl, by decide, by decide⟩
  | 6, _ => ⟨by kernel_rfl, by decide, by decide⟩
  | n + 7, h => absurd h (by omega)

/-- A row of the kit base. -/
def rowJ (j : Nat) : Rw := ⟨nmK j, minK j, maxK j, numK j, textK j, absL j⟩
def rowsK : List Rw := [rowJ 0, rowJ 1, rowJ 2, rowJ 3, rowJ 4, rowJ 5, rowJ 6]
theorem rowsK_at : ∀ j, (h : j < 7) → rowsK[j]? = some (rowJ j)
  | 0, _ => rfl
  | 1, _ => rfl
  | 2, _ => rfl
  | 3, _ => rfl
  | 4, _ => rfl
  | 5, _ => rfl
  | 6, _ => rfl
  | n + 7, h => absurd h (by omega)
theorem RItems.base {w : World} {B B' : Nat} {lv : Value} {acc : List Rw} (h : RItems w B lv acc) (hb : B' ≤ B) : RItems w B' lv acc := by
  obtain ⟨us, ho, hi⟩ := h
  refine ⟨us, ⟨ho.1, ?_⟩, hi⟩
  rcases ho.2 with h | ⟨g, cap, cur, hv, hg, hr⟩
  · exact .inl h
  · exact .inr ⟨g, cap, cur, hv, Nat.le_trans hb hg, hr⟩
theorem rowsK_take : ∀ j, j < 7 → rowsK.take j ++ [rowJ j] = rowsK.take (j + 1)
  | 0, _ => rfl
  | 1, _ => rfl
  | 2, _ => rfl
  | 3, _ => rfl
  | 4, _ => rfl
  | 5, _ => rfl
  | 6, _ => rfl
  | n + 7, h => absurd h (by omega)
def baseB : ByteArray := ⟨#[98, 97, 115, 101]⟩
theorem rowJ_good : ∀ j, j < 7 → GoodR [98, 97, 115, 101] (rowJ j)
  | 0, _ => ⟨⟨[117, 110, 105, 116], rfl, by kernel_rfl⟩, by decide, by kernel_rfl, by decide, by decide, by decide, by decide, by decide, by kernel_rfl, by decide⟩
  | 1, _ => ⟨⟨[121, 101, 115], rfl, by kernel_rfl⟩, by decide, by kernel_rfl, by decide, by decide, by decide, by decide, by decide, by kernel_rfl, by decide⟩
  | 2, _ => ⟨⟨[110, 111], rfl, by kernel_rfl⟩, by decide, by kernel_rfl, by decide, by decide, by decide, by decide, by decide, by kernel_rfl, by decide⟩
  | 3, _ => ⟨⟨[105, 110, 116], rfl, by kernel_rfl⟩, by decide, by kernel_rfl, by decide, by decide, by decide, by decide, by decide, by kernel_rfl, by decide⟩
  | 4, _ => ⟨⟨[116, 101, 120, 116], rfl, by kernel_rfl⟩, by decide, by kernel_rfl, by decide, by decide, by decide, by decide, by decide, by kernel_rfl, by decide⟩
  | 5, _ => ⟨⟨[118, 97, 114], rfl, by kernel_rfl⟩, by decide, by kernel_rfl, by decide, by decide, by decide, by decide, by decide, by kernel_rfl, by decide⟩
  | 6, _ => ⟨⟨[102, 114, 97, 109, 101], rfl, by kernel_rfl⟩, by decide, by kernel_rfl, by decide, by decide, by decide, by decide, by decide, by kernel_rfl, by decide⟩

  | n + 7, h => absurd h (by omega)
theorem rowsK_good : ∀ r ∈ rowsK, GoodR [98, 97, 115, 101] r := by
  intro r hr
  obtain ⟨j, hj, rfl⟩ := List.getElem_of_mem hr
  have hj7 : j < 7 := hj
  have e := rowsK_at j hj7
  rw [List.getElem?_eq_getElem hj] at e
  rw [Option.some.inj e]
  exact rowJ_good j hj7
theorem rowsK_nodup : (rowsK.map Rw.kind).Nodup := by decide
end Go.Proofs.YtaafcmmmkalgjaaGreatDoor.Nd
/-
  What the makers of the kits by tables give: a node with its base; by contracts.
-/
namespace Go.Proofs.YtaafcmmmkalgjaaGreatDoor.Nd
open Go.RowKit
/-- What a maker of a kind's nodes does. -/
def MakerJ (m : Nat) (τ : TypeId) : Prop := ∀ (k x sg : ByteArray) (n : Int) (a : Option Addr) (l c f : Nat) (cap : Array Value) (w : World), Calls Tryz.prog m #[baseV k x n a l c (.func (.func f) #[] cap), .string sg] w fun e w' => ∃ b, e = .returned (.iface τ (.pointer (some ⟨b, 0, none⟩))) ∧ w.heap.size ≤ b ∧ NodeB w' b k n x (.slice a l c) ∧ Ext w w'
theorem enterK11 : EntersF 63 := fun a w => by simp [callFunc, go_sem, Tryz.func63]; rfl
theorem bareEc : Bare 164 := fun v xT w => isEcWrapped v xT w
theorem makerEc : MakerJ 47 164 := by
  intro k x sg n a l c fq cap w
  go_enter Tryz.func47, Tryz.ntmps47
  go_wp2_with fail
  go_ret
  exact ⟨_, rfl, Nat.le_succ _, ⟨_, _, blk1 _ _ _, rfl, rfl, rfl, rfl, rfl⟩, Ext.alloc2 _ _ _⟩
theorem enterEc (a : Array Value) (w : World) : (callFunc 47 a).run Tryz.prog w = .ok (.enter 47 a) w := by simp [callFunc, go_sem, Tryz.func47]; rfl
theorem k11_Ec (p p2 : Nat) (k x sg : ByteArray) (n : Int) (a : Option Addr) (l c f : Nat) (cap : Array Value) (w : World) (h1 : w.cell? ⟨p, 0, none⟩ = some (.func (.func 47) #[] #[])) (h2 : w.cell? ⟨p2, 0, none⟩ = some (.string sg)) : Calls Tryz.prog 63 #[baseV k x n a l c (.func (.func f) #[] cap), .pointer (some ⟨p, 0, none⟩), .pointer (some ⟨p2, 0, none⟩)] w fun e w' => ∃ v, e = .returned v ∧ (∃ b, v = .iface 164 (.pointer (some ⟨b, 0, none⟩)) ∧ w.heap.size ≤ b ∧ NodeB w' b k n x (.slice a l c)) ∧ Ext w w' := by
  have p1 := lt_of_cell h1
  have p3 := lt_of_cell h2
  have henter := enterEc
  have HMK := hid (fun w1 => makerEc k x sg n a l c f cap w1)
  go_enter Tryz.func63, Tryz.ntmps63
  go_wp2_with fail
  refine (HMK.out _).mono ?_
  rintro e w1 ⟨b, rfl, hb, hn, hx⟩
  have HB := hid hb
  have HN := hid hn
  have HX := hid hx
  clear hb hn hx
  go_wp2_with fail
  go_ret
  have hs := (Ext.alloc w (.cells #[.string k, .string k, .int .i64 n, .string x, .slice a l c, .func (.func f) #[] cap] 121)).size
  exact ⟨_, rfl, ⟨b, rfl, by have := HB.out; omega, HN.out⟩, (Ext.alloc _ _).trans HX.out⟩

end Go.Proofs.YtaafcmmmkalgjaaGreatDoor.Nd
/-
  The maker of a kit by a table (craft.Kit$1), for each kind's type; by contracts.
-/
namespace Go.Proofs.YtaafcmmmkalgjaaGreatDoor.Nd
open Go.RowKit
/-- A node that was made, in its handle. -/
def MadeN (B : Nat) (τ : TypeId) (k : ByteArray) (n : Int) (x : ByteArray) (nk : Nat) (t : Nat → TypeId) (v : Nat → Value) (h : Nat) (w' : World) : Prop := ∃ b a c, HandAt w' h (.iface τ (.pointer (some ⟨b, 0, none⟩))) (.iface τ (.pointer (some ⟨b, 0, none⟩))) ∧ NodeB w' b k n x (.slice a nk c) ∧ w'.ownsRow B 50 1 (.slice a nk c) nk ((List.range nk).map fun i => .iface (t i) (v i)) ∧ B ≤ b ∧ B ≤ h
theorem MadeN.later {B : Nat} {w1 w' : World} {τ : TypeId} {k x : ByteArray} {n : Int} {nk h : Nat} {t : Nat → TypeId} {v : Nat → Value} (hm : MadeN B τ k n x nk t v h w1) (hx : Ext w1 w') : MadeN B τ k n x nk t v h w' := by
  obtain ⟨b, a, c, h1, h2, h3, h4, h5⟩ := hm
  exact ⟨b, a, c, hx.block h1, h2.later hx, row_ext h3 hx, h4, h5⟩
theorem MadeN.base {B B' : Nat} {w' : World} {τ : TypeId} {k x : ByteArray} {n : Int} {nk h : Nat} {t : Nat → TypeId} {v : Nat → Value} (hm : MadeN B τ k n x nk t v h w') (hb : B' ≤ B) : MadeN B' τ k n x nk t v h w' := by
  obtain ⟨b, a, c, h1, h2, h3, h4, h5⟩ := hm
  exact ⟨b, a, c, h1, h2, row_base h3 hb, Nat.le_trans hb h4, Nat.le_trans hb h5⟩
def Kit1R (w : World) (τ : TypeId) (k : ByteArray) (n : Int) (x : ByteArray) (nk : Nat) (t : Nat → TypeId) (v : Nat → Value) (e : Ending) (w' : World) : Prop := ∃ h, e = .returned (.pointer (some ⟨h, 0, none⟩)) ∧ MadeN w.heap.size τ k n x nk t v h w' ∧ Ext w w'
/-- The two variables that a node's function keeps. -/
def KeptF (w : World) (m : Nat) (sg : ByteArray) (v10 v11 : Value) : Prop := ∃ p p2, v10 = .pointer (some ⟨p, 0, none⟩) ∧ v11 = .pointer (some ⟨p2, 0, none⟩) ∧ w.cell? ⟨p, 0, none⟩ = some (.func (.func m) #[] #[]) ∧ w.cell? ⟨p2, 0, none⟩ = some (.string sg)
theorem KeptF.later {w w' : World} {m : Nat} {sg : ByteArray} {v10 v11 : Value} (h : KeptF w m sg v10 v11) (hx : Ext w w') : KeptF w' m sg v10 v11 := by
  obtain ⟨p, p2, h1, h2, h3, h4⟩ := h
  exact ⟨p, p2, h1, h2, (hx.kp (fun _ => True)).cell h3 trivial, (hx.kp (fun _ => True)).cell h4 trivial⟩
theorem kept_a (w : World) (m : Nat) (sg : ByteArray) (t t' : TypeId) : KeptF ((w.alloc (.cells #[.func (.func m) #[] #[]] t)).alloc (.cells #[.string sg] t')).drew m sg (.pointer (some ⟨w.heap.size, 0, none⟩)) (.pointer (some ⟨w.heap.size + 1, 0, none⟩)) :=
  ⟨_, _, rfl, rfl, by rw [World.cell?_drew]; exact cell_of (blkOld _ (blk0 _ _)) rfl, by rw [World.cell?_drew]; exact cell_of (blk1 _ _ _) rfl⟩
theorem kept_b (w : World) (m : Nat) (sg : ByteArray) (t t' : TypeId) : KeptF ((w.alloc (.cells #[.string sg] t')).alloc (.cells #[.func (.func m) #[] #[]] t)).drew m sg (.pointer (some ⟨w.heap.size + 1, 0, none⟩)) (.pointer (some ⟨w.heap.size, 0, none⟩)) :=
  ⟨_, _, rfl, rfl, by rw [World.cell?_drew]; exact cell_of (blk1 _ _ _) rfl, by rw [World.cell?_drew]; exact cell_of (blkOld _ (blk0 _ _)) rfl⟩
set_option maxRecDepth 100000 in
set_option maxHeartbeats 4000000 in
theorem kit1_Ec (ks : List Kd) (g cp bx : Nat) (k x : ByteArray) (n : Int) (ao : Option Addr) (nk c : Nat) (t : Nat → TypeId) (v : Nat → Value) (kd : Kd) (w : World) (hl : ks.length ≤ 1000) (hb : w.heap[bx]? = some (.cells #[.slice (some ⟨g, 0, none⟩) ks.length cp] 80)) (hk : KRow w g ks) (hf : Go.Proofs.YtaafcmmmkalgjaaGreatDoor.kdFind ks k = some kd) (hm : kd.make = 47) (hd : kd.does = none) (hn : nk ≤ 100000) (hh : HandsO w ao nk t v) :
    Calls Tryz.prog 58 #[.agg #[.string k, .int .i64 n, .string x, .slice none 0 0], .slice ao nk c, .pointer (some ⟨bx, 0, none⟩)] w (Kit1R w 164 k n x nk t v) := by
  have HF := hid (fun w1 (hx : Ext w w1) => findK_any ks g cp k w1 hl (hk.later hx))
  rw [hf] at HF
  have HNO := hid (fun w1 (hx : Ext w w1) => knodesOf_any ao nk c t v w1 hn (hh.later hx))
  have HXS := hid (one_cells nk t v)
  have HNEW := hid (fun q B xs w1 h1 h => new_row k x n (.slice none 0 0) q B nk xs w1 hn h1 h)
  have HBX := hid hb
  obtain ⟨q0, q1, q2, q3, q4, q5, q6, q7, q8⟩ := kd
  obtain rfl : q6 = 47 := hm
  obtain rfl : q7 = none := hd
  clear hl hb hk hf hn hh
  generalize ks.length = kn at *
  obtain ⟨M, hM⟩ : ∃ M, w.alloc (.cells #[.string k, .int .i64 n, .string x, .slice none 0 0] 54) = M := ⟨_, rfl⟩
  have XM := hid (show Ext w M from hM ▸ Ext.alloc _ _)
  have HM0 := hid (show M.heap[w.heap.size]? = some (.cells #[.string k, .int .i64 n, .string x, .slice none 0 0] 54) from hM ▸ blk0 _ _)
  obtain ⟨t0, t1, t2, t3⟩ := four_of HM0.out
  have c0 : M.cell? ⟨bx, 0, none⟩ = some (.slice (some ⟨g, 0, none⟩) kn cp) := cell_of (XM.out.block HBX.out) rfl
  go_enter Tryz.func58, Tryz.ntmps58
  go_wp2_with fail
  clear hM c0
  refine (HF.out _ XM.out).mono ?_
  rintro e w1 ⟨rfl, hx1⟩
  unfold kdVal Kd.val fnV
  dsimp only
  obtain ⟨V, hV⟩ : ∃ V, w1.alloc (.cells #[.string q0, .int .i64 q1, .int .i64 q2, .int .i64 q3, .string q4, .string q5, .func (.func 47) #[] #[], .nilFunc, .bool q8] 76) = V := ⟨_, rfl⟩
  have XV := hid (show Ext M V from hV ▸ hx1.trans (Ext.alloc _ _))
  have HKB := hid (show V.heap[w1.heap.size]? = some (.cells #[.string q0, .int .i64 q1, .int .i64 q2, .int .i64 q3, .string q4, .string q5, .func (.func 47) #[] #[], .nilFunc, .bool q8] 76) from hV ▸ blk0 _ _)
  clear hx1 t0 t1 t2 t3
  go_wp2_with fail
  first | rw [hV] | skip
  clear hV
  generalize w1.heap.size = kx at HKB ⊢
  refine (HNO.out _ (XM.out.trans XV.out)).mono ?_
  rintro r u1 ⟨q, rfl, hq, hy⟩
  obtain ⟨qa, qc, rfl⟩ := ownsRow_slice hq
  have HQ := hid hq
  have Z1 := hid hy
  clear hq hy
  have s6 : u1.cell? ⟨kx, 6, none⟩ = some (.func (.func 47) #[] #[]) := cell_of (Z1.out.block HKB.out) rfl
  have s5 : u1.cell? ⟨kx, 5, none⟩ = some (.string q5) := cell_of (Z1.out.block HKB.out) rfl
  have hkl := lt_of_cell s6
  go_upto_region 3 with fail
  go_cut [10, 11] from 10 to 27 (fun s10 s11 wx => KeptF wx 47 q5 s10 s11 ∧ Ext u1 wx)
  case first =>
    go_region
    all_goals
      go_wp2_with fail
      go_meet
      case rel => first | exact ⟨kept_a _ _ _ _ _, (Ext.alloc2 _ _ _).drew⟩ | exact ⟨kept_b _ _ _ _ _, (Ext.alloc2 _ _ _).drew⟩
  case rest =>
    obtain ⟨⟨p, p2, rfl, rfl, hp, hp2⟩, hxc⟩ := hcut
    have HP := hid hp
    have HP2 := hid hp2
    have XC := hid hxc
    clear hp hp2 hxc s6 s5
    have HXT := hid (show Ext M wc from XV.out.trans (Z1.out.trans XC.out))
    obtain ⟨t0, t1, t2, t3⟩ := four_of (HXT.out.block HM0.out)
    have hwl := lt_of_cell t0
    go_wp2_with fail
    refine (HNEW.out _ _ _ _ HXS.out (row_ext HQ.out XC.out)).mono ?_
    rintro r u2 ⟨ra, rc, rfl, hr, hy⟩
    have HR2 := hid hr
    have X2 := hid hy
    clear hr hy t0 t1 t2 t3 hwl
    have HPM := hid (pmake2 63 enterK11 p p2 k x n ra nk rc (fun v w' => ∃ b, v = .iface 164 (.pointer (some ⟨b, 0, none⟩)) ∧ u2.heap.size ≤ b ∧ NodeB w' b k n x (.slice ra nk rc)) u2 (fun w1 hx1 => (k11_Ec p p2 k x q5 n ra nk rc 63 #[.pointer (some ⟨p, 0, none⟩), .pointer (some ⟨p2, 0, none⟩)] w1 (((X2.out.trans hx1).kp (fun _ => True)).cell HP.out trivial) (((X2.out.trans hx1).kp (fun _ => True)).cell HP2.out trivial)).mono (fun e w' ⟨v, he, ⟨b, h1, h2, h3⟩, h4⟩ => ⟨v, he, ⟨b, h1, Nat.le_trans hx1.size h2, h3⟩, h4⟩)))
    go_wp2_with fail
    refine HPM.out.mono ?_
    rintro r u3 ⟨_, rfl, ⟨b, rfl, hb, hnb⟩, hy⟩
    have HB := hid hb
    have HNB := hid hnb
    have X3 := hid hy
    clear hb hnb hy
    go_wp2_with fail
    refine (hold_gen 164 bareEc _ _).mono ?_
    rintro r u4 ⟨rfl, hhd, hy⟩
    have HHD := hid hhd
    have X4 := hid hy
    clear hhd hy
    go_wp2_with fail
    go_ret
    have z0 := XM.out.size
    have z1 := (XV.out.trans Z1.out).size
    have z2 := XC.out.size
    have z3 := X2.out.size
    have z4 := X3.out.size
    have hbb := HB.out
    exact ⟨u3.heap.size, rfl, ⟨b, ra, rc, HHD.out, HNB.out.later X4.out, row_base (row_ext (row_ext HR2.out X3.out) X4.out) (by omega), by omega, by omega⟩, XM.out.trans (HXT.out.trans (X2.out.trans (X3.out.trans X4.out)))⟩

end Go.Proofs.YtaafcmmmkalgjaaGreatDoor.Nd
