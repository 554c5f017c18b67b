/-
  worth.Text by a contract.
-/
import Derived.Test.YtbpbkihcfdnphaaGreatDoorWrite
import Derived.Test.YtbpbkihcfdnphaaGreatDoorFace
import Derived.Laws.BytesArg
import Derived.Laws.IdiomStrings
namespace Go.Proofs.YtbpbkihcfdnphaaGreatDoor
open Go.RowKit
theorem convert_none (w : World) (c : Nat) : (convert 61 9 (.slice none 0 c)).run Tryz.prog w = .ok (.string ⟨#[]⟩) w := by kernel_rfl
set_option maxRecDepth 100000 in
theorem Bs.convert {B : Nat} {w : World} {ao : Option Addr} {c : Nat} {m : List UInt8} (h : Bs B w (.slice ao m.length c) m) : (convert 61 9 (.slice ao m.length c)).run Tryz.prog w = .ok (.string ⟨m.toArray⟩) w := by
  obtain ⟨h1, h2⟩ := h
  rcases h2 with ⟨hv, h0⟩ | ⟨g, cap, cur, hv, hg, hb, h3, h4, h5, h6⟩
  · injection hv with e1 e2 e3
    subst e1
    have e : m = [] := List.eq_nil_of_length_eq_zero h0
    subst e
    exact convert_none w c
  · injection hv with e1 e2 e3
    subst e1
    refine run_convert_bytes_back w 61 9 5 ⟨g, 0, none⟩ c m Tryz.underlying61 Tryz.underlying5 Tryz.underlying9 (fun j hj => ?_)
    have ea : Addr.add ⟨g, 0, none⟩ j = ⟨g, j, none⟩ := by
      by_cases hj : j = 0
      · subst hj; simp [Addr.add]
      · simp [Addr.add, hj]
    rw [ea]
    refine cell_of hb ?_
    have e : (cur.toList.take (m.length * 1))[j]? = some (.int .u8 (m[j].toNat : Int)) := by rw [h6]; simp [Lib.byteCells, hj]
    rw [List.getElem?_take_of_lt (by omega)] at e
    simpa using e
/-- What Text answers. -/
def textV (t : T) : Value := if t.may then (if t.wr.length ≤ 1048576 then .tuple #[.string ⟨t.wr.toArray⟩, .int .i64 0] else .tuple #[.string ⟨#[]⟩, .int .i64 2]) else .tuple #[.string ⟨#[]⟩, .int .i64 1]
set_option maxRecDepth 100000 in
set_option maxHeartbeats 2000000 in
theorem text_any {K : Nat → Prop} {d : Nat} {v : Value} {t : T} {Tb : World → Prop} (w : World) (hr : Rd K w d v t) (HAPP : ∀ B, w.heap.size ≤ B → AppI B Tb) (hf : t.fitI) (hi : t.noInt ∨ ∀ w', Ext w w' → Tb w') :
    Calls Tryz.prog 8 #[v] w fun e w' => e = .returned (textV t) ∧ Ext w w' := by
  obtain ⟨u0, u1, u2, u3, rfl⟩ := hr.agg
  obtain ⟨k, n, x, a, c, rfl, rfl, rfl, rfl⟩ := hr.shape
  have HR := hid hr
  generalize t.kids.length = l at *
  by_cases hm : t.may
  · have HM := hid (may_to hr true (decide_eq_true hm))
    have HG := hid hm
    clear hr hm
    go_enter Tryz.func8, Tryz.ntmps8
    go_wp2_with fail
    refine (HM.out _ (Ext.alloc _ _)).mono ?_
    rintro e w1 ⟨rfl, hx1⟩
    obtain ⟨p0, p1, p2, p3⟩ := four_of (hx1.block (blk0 w _))
    have HX1 := hid ((Ext.alloc w _).trans hx1)
    clear hx1
    go_wp2_with fail
    refine (value_any d _ t K w1 (HR.out.later HX1.out) HG.out.1).mono ?_
    rintro e w2 ⟨u, bs, rfl, hx2, ho, hge, hnd⟩
    obtain ⟨τ, p, rfl⟩ := ho.rd.iface
    clear p0 p1 p2 p3
    have HO := hid ho
    have HX2 := hid (HX1.out.trans hx2)
    have HLT := hid ho.lt
    clear ho hx2 hge hnd
    go_wp2_with fail
    refine (write_any (HAPP w2.heap.size HX2.out.size) d _ t _ w2 _ [] HO.out.rd HLT.out (Nat.le_refl _) (Bs.nil _ _) (by have := HG.out.2.1; simp; omega) hf (hi.imp id (fun h => h w2 HX2.out))).mono ?_
    rintro e w3 ⟨ao, c3, rfl, hb, hbl⟩
    have HX3 := hid (HX2.out.trans hbl)
    have HB := hid (show Bs w2.heap.size w3 (.slice ao t.wr.length c3) t.wr from hb)
    have hwl := T.wr_len t hf
    have hsz := HG.out.2.1
    have hl' : (t.wr.length : Int) ≤ 140737488355328 := by omega
    simp only [List.nil_append]
    have HCV := HB.out.convert
    clear hb hbl hwl hsz
    by_cases hg : t.wr.length ≤ 1048576
    · have HV := hid (show textV t = .tuple #[.string ⟨t.wr.toArray⟩, .int .i64 0] by rw [textV, if_pos HG.out, if_pos hg])
      have hg' : (t.wr.length : Int) ≤ 1048576 := by omega
      generalize t.wr = m at *
      go_wp2_with fail
      go_ret2
      exact ⟨by rw [HV.out]; rfl, HX3.out⟩
    · have HV := hid (show textV t = .tuple #[.string ⟨#[]⟩, .int .i64 2] by rw [textV, if_pos HG.out, if_neg hg])
      have hg' : (1048576 : Int) < t.wr.length := by omega
      generalize t.wr = m at *
      go_wp2_with fail
      go_ret2
      exact ⟨by rw [HV.out]; rfl, HX3.out⟩
  · have HM := hid (may_to hr false (decide_eq_false hm))
    have HV := hid (show textV t = .tuple #[.string ⟨#[]⟩, .int .i64 1] by rw [textV, if_neg hm])
    clear hr hm
    go_enter Tryz.func8, Tryz.ntmps8
    go_wp2_with fail
    refine (HM.out _ (Ext.alloc _ _)).mono ?_
    rintro e w1 ⟨rfl, hx1⟩
    have HX1 := hid ((Ext.alloc w _).trans hx1)
    clear hx1
    go_wp2_with fail
    go_ret2
    exact ⟨by rw [HV.out]; rfl, HX1.out⟩
end Go.Proofs.YtbpbkihcfdnphaaGreatDoor
