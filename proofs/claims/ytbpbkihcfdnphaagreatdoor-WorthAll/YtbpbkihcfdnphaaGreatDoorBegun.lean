/-
  begun by a contract: it tells yes, and only makes new blocks.
-/
import Derived.Test.YtbpbkihcfdnphaaGreatDoorClosed
namespace Go.Proofs.YtbpbkihcfdnphaaGreatDoor
open Go.RowKit
attribute [local go_sem] as_in_in as_in_li as_li_li
theorem eq_one (w : World) : (binOp .eql 32 (.iface 37 (.int .i64 1)) (.iface 37 (.int .i64 1))).run Tryz.prog w = .ok (.bool true) w := by kernel_rfl
theorem eq_yes (w : World) : (binOp .eql 32 (.iface 48 (.bool true)) (.iface 48 (.bool true))).run Tryz.prog w = .ok (.bool true) w := by kernel_rfl
theorem eq_none (w : World) : (binOp .eql 32 .nilIface .nilIface).run Tryz.prog w = .ok (.bool true) w := by kernel_rfl
attribute [local go_sem] eq_one eq_yes eq_none
theorem of_num (n : Int) (w : World) : Calls Tryz.prog 6 #[numV n] w fun e w' => e = .returned (.tuple #[.iface 37 (.int .i64 n), .int .i64 0]) ∧ Ext w w' := by
  refine (of_any w (num_rd (fun _ => True) w n)).mono ?_
  rintro e w' ⟨hx, h⟩
  have hm : T.may (.node 3 n ⟨#[]⟩ []) := ⟨⟨.inr (.inr (.inl ⟨rfl, rfl, rfl⟩)), trivial⟩, (show 1 + 0 + 0 ≤ 65536 by decide), (show (if (3 : Int) = 5 then 1 + 0 else 0) ≤ 64 by decide)⟩
  rcases h with ⟨_, u, bs, rfl, ho, _⟩ | ⟨h, _⟩
  · rcases ho with ⟨h, _⟩ | ⟨h, _⟩ | ⟨_, _, _, _, rfl⟩ | ⟨h, _⟩ | ⟨h, _⟩
    · exact absurd h (by decide)
    · exact absurd h (by decide)
    · exact ⟨rfl, hx⟩
    · exact absurd h (by decide)
    · exact absurd h (by decide)
  · exact absurd hm h
theorem of_zero (w : World) : Calls Tryz.prog 6 #[.agg #[.int .i64 0, .int .i64 0, .string ⟨#[]⟩, .slice none 0 0]] w fun e w' => e = .returned (.tuple #[.nilIface, .int .i64 1]) ∧ Ext w w' := by
  have hr : Rd (fun _ => True) w 1 (.agg #[.int .i64 0, .int .i64 0, .string ⟨#[]⟩, .slice none 0 0]) (.node 0 0 ⟨#[]⟩ []) := ⟨none, 0, rfl, by decide, by decide, .inl rfl⟩
  refine (of_any w hr).mono ?_
  rintro e w' ⟨hx, h⟩
  rcases h with ⟨h, _⟩ | ⟨_, rfl⟩
  · exact absurd h (by decide)
  · exact ⟨rfl, hx⟩
theorem read_one (w : World) : Calls Tryz.prog 11 #[.string ⟨#[91, 49, 44, 32, 121, 101, 115, 93]⟩] w fun e w' => ∃ g c, e = .returned (.tuple #[.iface 46 (.slice (some ⟨g, 0, none⟩) 2 c), .int .i64 0, .int .i64 0]) ∧ Ext w w' ∧ w'.cell? ⟨g, 0, none⟩ = some (.iface 37 (.int .i64 1)) ∧ w'.cell? ⟨g, 1, none⟩ = some (.iface 48 (.bool true)) := by
  refine (read_any sOne (I := fun _ => True) (Q := qNone) w (by decide) (fun _ => ⟨envOne _, fun _ => trivial⟩) (fun _ => szOne)).mono ?_
  rw [readOne]
  rintro e w' ⟨hx, u, bs, rfl, ho, _⟩
  rcases ho with ⟨h, _⟩ | ⟨h, _⟩ | ⟨h, _⟩ | ⟨h, _⟩ | ⟨_, _, _, _, g, c, cs, bss, rfl, _, hb, _, _, _, hi⟩
  · exact absurd h (by decide)
  · exact absurd h (by decide)
  · exact absurd h (by decide)
  · exact absurd h (by decide)
  · obtain ⟨u0, b0, h0, _, o0⟩ := hi 0 (by decide)
    obtain ⟨u1, b1, h1, _, o1⟩ := hi 1 (by decide)
    refine ⟨g, c, rfl, hx, (cell_of hb h0).trans ?_, (cell_of hb h1).trans ?_⟩
    · rcases o0 with ⟨h, _⟩ | ⟨h, _⟩ | ⟨_, _, _, _, rfl⟩ | ⟨h, _⟩ | ⟨h, _⟩
      · exact absurd h (by decide)
      · exact absurd h (by decide)
      · rfl
      · exact absurd h (by decide)
      · exact absurd h (by decide)
    · rcases o1 with ⟨h, _⟩ | ⟨_, _, _, _, b, hb, rfl⟩ | ⟨h, _⟩ | ⟨h, _⟩ | ⟨h, _⟩
      · exact absurd h (by decide)
      · cases b with
        | true => rfl
        | false => exact absurd hb (by decide)
      · exact absurd h (by decide)
      · exact absurd h (by decide)
      · exact absurd h (by decide)
theorem read_two (w : World) : Calls Tryz.prog 11 #[.string ⟨#[48, 48, 55]⟩] w fun e w' => e = .returned (.tuple #[.nilIface, .int .i64 1, .int .i64 5]) ∧ Ext w w' := by
  refine (read_any sTwo (I := fun _ => True) (Q := qNone) w (by decide) (fun _ => ⟨envTwo _, fun _ => trivial⟩) (fun _ => szTwo)).mono ?_
  rw [readTwo]
  rintro e w' ⟨hx, rfl⟩
  exact ⟨rfl, hx⟩
theorem text_two (w w1 : World) (g : Nat) (h : w.heap[g]? = some (.cells #[.int .i64 1, .int .i64 0, .string ⟨#[]⟩, .slice none 0 0, .int .i64 4, .int .i64 0, .string ⟨#[97, 34]⟩, .slice none 0 0] 27)) (hx : Ext w w1) :
    Calls Tryz.prog 8 #[.agg #[.int .i64 5, .int .i64 0, .string ⟨#[]⟩, .slice (some ⟨g, 0, none⟩) 2 2]] w1 fun e w' => e = .returned (.tuple #[.string ⟨#[91, 117, 110, 105, 116, 44, 32, 34, 97, 92, 34, 34, 93]⟩, .int .i64 0]) ∧ Ext w1 w' := by
  have hb := hx.block h
  have hr : Rd (fun _ => True) w1 2 (.agg #[.int .i64 5, .int .i64 0, .string ⟨#[]⟩, .slice (some ⟨g, 0, none⟩) 2 2]) tText := by
    refine ⟨some ⟨g, 0, none⟩, 2, rfl, by decide, by decide, .inr ⟨g, 0, rfl, trivial, fun j hj => ?_⟩⟩
    have hj2 : j < 2 := hj
    match j, hj2 with
    | 0, _ => exact ⟨_, _, _, _, ⟨cell_of hb rfl, cell_of hb rfl, cell_of hb rfl, cell_of hb rfl⟩, none, 0, rfl, by decide, by decide, .inl rfl⟩
    | 1, _ => exact ⟨_, _, _, _, ⟨cell_of hb rfl, cell_of hb rfl, cell_of hb rfl, cell_of hb rfl⟩, none, 0, rfl, by decide, by decide, .inl rfl⟩
  have hf : tText.fitI := by refine ⟨fun h => absurd h (by decide), ⟨fun h => absurd h (by decide), trivial⟩, ⟨fun h => absurd h (by decide), trivial⟩, trivial⟩
  have hn : tText.noInt := by refine ⟨by decide, ⟨by decide, trivial⟩, ⟨by decide, trivial⟩, trivial⟩
  have := text_any (Tb := fun _ => False) w1 hr (fun B _ => AppI.none B) hf (.inl hn)
  rw [text_one] at this
  exact this
theorem size_txt (w : World) : Calls Tryz.prog 12 #[txtV ⟨#[97, 98]⟩] w fun e w' => e = .returned (.int .i64 3) ∧ Ext w w' := by
  have h := sizeOf_any w (txt_rd (fun _ => True) w ⟨#[97, 98]⟩ (by decide))
  rw [show sizeN (.node 4 0 ⟨#[97, 98]⟩ []) = 3 by decide] at h
  exact h
theorem cmp_one (w : World) : Calls Tryz.prog 13 #[numV 5, txtV ⟨#[]⟩] w fun e w' => e = .returned (.int .i64 (-1)) ∧ Ext w w' := by
  have h := compareOf_any w (num_rd (fun _ => True) w 5) (txt_rd (fun _ => True) w ⟨#[]⟩ (by decide))
  rw [show cmpN (.node 3 5 ⟨#[]⟩ []) (.node 4 0 ⟨#[]⟩ []) = -1 by decide] at h
  exact h
theorem same_one (w : World) : Calls Tryz.prog 14 #[numV 1, numV 1] w fun e w' => e = .returned (.bool true) ∧ Ext w w' := by
  have h := sameOf_any w (num_rd (fun _ => True) w 1) (num_rd (fun _ => True) w 1)
  rw [show sameN (.node 3 1 ⟨#[]⟩ []) (.node 3 1 ⟨#[]⟩ []) = true by decide] at h
  exact h
set_option maxRecDepth 100000 in
set_option maxHeartbeats 4000000 in
theorem begun_any (w : World) : Calls Tryz.prog 4 #[] w fun e w' => e = .returned (.bool true) ∧ Ext w w' := by
  go_enter Tryz.func4, Tryz.ntmps4
  go_wp2_with fail
  refine (num_any 5 _).mono ?_
  rintro e w1 ⟨rfl, hx1⟩
  go_wp2_with fail
  refine (of_num 5 _).mono ?_
  rintro e w2 ⟨rfl, hx2⟩
  have HX2 := hid (hx1.trans hx2)
  clear hx1 hx2
  go_wp2_with fail
  refine (txt_any ⟨#[97, 34]⟩ _).mono ?_
  rintro e w3 ⟨rfl, hx3⟩
  have HX3 := hid (HX2.out.trans hx3)
  clear hx3
  unfold txtV
  go_wp2_with fail
  have HB3 := hid (blk0 w3 (.cells #[.int .i64 1, .int .i64 0, .string ⟨#[]⟩, .slice none 0 0, .int .i64 4, .int .i64 0, .string ⟨#[97, 34]⟩, .slice none 0 0] 27))
  refine (lst_any _ 2 2 _).mono ?_
  rintro e w4 ⟨rfl, hx4⟩
  have HX4 := hid (HX3.out.trans ((Ext.alloc w3 _).trans hx4))
  have HT := hid (text_two _ w4 w3.heap.size HB3.out hx4)
  clear hx4
  go_wp2_with fail
  refine HT.out.mono ?_
  rintro e w5 ⟨rfl, hx5⟩
  have HX5 := hid (HX4.out.trans hx5)
  clear hx5 HT HB3
  go_wp2_with fail
  refine (read_one w5).mono ?_
  rintro e w6 ⟨g, c, rfl, hx6, c0, c1⟩
  have HX6 := hid (HX5.out.trans hx6)
  have hgl := lt_of_cell c0
  clear hx6
  go_wp2_with fail
  refine (read_two w6).mono ?_
  rintro e w7 ⟨rfl, hx7⟩
  have HX7 := hid (HX6.out.trans hx7)
  have d0 := (Below.cell hx7 hgl (p := ⟨g, 0, none⟩)).trans c0
  have d1 := (Below.cell hx7 hgl (p := ⟨g, 1, none⟩)).trans c1
  clear hx7 c0 c1 hgl
  go_wp2_with fail
  refine (of_zero w7).mono ?_
  rintro e w8 ⟨rfl, hx8⟩
  have hgl := lt_of_cell d0
  have HX8 := hid (HX7.out.trans hx8)
  have c0 := (Below.cell hx8 hgl (p := ⟨g, 0, none⟩)).trans d0
  have c1 := (Below.cell hx8 hgl (p := ⟨g, 1, none⟩)).trans d1
  clear hx8 d0 d1 hgl
  have hgl := lt_of_cell c0
  go_wp2_with fail
  refine (txt_any ⟨#[97, 98]⟩ _).mono ?_
  rintro e w9 ⟨rfl, hx9⟩
  have HX9 := hid (HX8.out.trans hx9)
  clear hx9 c0 c1 hgl
  go_wp2_with fail
  refine (size_txt w9).mono ?_
  rintro e w10 ⟨rfl, hx10⟩
  have HX10 := hid (HX9.out.trans hx10)
  clear hx10
  go_wp2_with fail
  refine (num_any 5 _).mono ?_
  rintro e w11 ⟨rfl, hx11⟩
  have HX11 := hid (HX10.out.trans hx11)
  clear hx11
  go_wp2_with fail
  refine (txt_any ⟨#[]⟩ _).mono ?_
  rintro e w12 ⟨rfl, hx12⟩
  have HX12 := hid (HX11.out.trans hx12)
  clear hx12
  go_wp2_with fail
  refine (cmp_one w12).mono ?_
  rintro e w13 ⟨rfl, hx13⟩
  have HX13 := hid (HX12.out.trans hx13)
  clear hx13
  go_wp2_with fail
  refine (num_any 1 _).mono ?_
  rintro e w14 ⟨rfl, hx14⟩
  have HX14 := hid (HX13.out.trans hx14)
  clear hx14
  go_wp2_with fail
  refine (num_any 1 _).mono ?_
  rintro e w15 ⟨rfl, hx15⟩
  have HX15 := hid (HX14.out.trans hx15)
  clear hx15
  go_wp2_with fail
  refine (same_one w15).mono ?_
  rintro e w16 ⟨rfl, hx16⟩
  have HX16 := hid (HX15.out.trans hx16)
  clear hx16
  go_wp2_with fail
  go_ret
  exact ⟨rfl, HX16.out⟩
end Go.Proofs.YtbpbkihcfdnphaaGreatDoor
