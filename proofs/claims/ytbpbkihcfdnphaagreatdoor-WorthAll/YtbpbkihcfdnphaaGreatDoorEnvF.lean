/-
  What the reader and the writer lean on, of a world in which the library's tables and errors are laid; Read and Text in general.
-/
import Derived.Test.YtbpbkihcfdnphaaGreatDoorBackMath
import Derived.Test.YtbpbkihcfdnphaaGreatDoorClosed
namespace Go.Proofs.YtbpbkihcfdnphaaGreatDoor
open Go.RowKit
/-- The two errors that ParseInt hands on are there. -/
def LaidE (w : World) : Prop := (∃ ev, w.cell? ⟨1, 0, none⟩ = some ev ∧ (ev = .nilIface ∨ ∃ te pe, ev = .iface te pe)) ∧ (∃ ev, w.cell? ⟨2, 0, none⟩ = some ev ∧ (ev = .nilIface ∨ ∃ te pe, ev = .iface te pe))
theorem LaidE.keep {w w' : World} {K : Nat → Prop} (h : LaidE w) (hk : Kp K w w') (h1 : K 1) (h2 : K 2) : LaidE w' := by
  obtain ⟨⟨e1, a1, b1⟩, ⟨e2, a2, b2⟩⟩ := h
  exact ⟨⟨e1, hk.cell a1 h1, b1⟩, ⟨e2, hk.cell a2 h2, b2⟩⟩
theorem LaidE.size {w : World} (h : LaidE w) : 2 < w.heap.size := by
  obtain ⟨_, ⟨e2, a2, _⟩⟩ := h
  exact lt_of_cell a2
theorem parTo_all {s : ByteArray} {i : Nat} {w : World} (hs : s.size ≤ 1048576) (h : LaidE w) : ParTo s i w := by
  rcases hp : Lib.parseIntB 64 (s.extract i (digEnd s (numAt s i))).data.toList with v | _ | _
  · exact parTo_ok hs hp
  · obtain ⟨ev, h1, h2⟩ := h.1
    unfold ParTo
    rw [hp]
    refine (Tryz.strconv_ParseInt_10_at64_syntax _ (by rw [ByteArray.size_extract]; omega) hp ev w h1 h2).mono ?_
    rintro e w' ⟨N, rfl, _, _, hx⟩
    exact ⟨hx, _, _, _, rfl⟩
  · obtain ⟨ev, h1, h2⟩ := h.2
    unfold ParTo
    rw [hp]
    refine (Tryz.strconv_ParseInt_10_at64_range _ (by rw [ByteArray.size_extract]; omega) hp ev w h1 h2).mono ?_
    rintro e w' ⟨N, rfl, _, _, hx⟩
    exact ⟨hx, _, _, _, rfl⟩
theorem quoQ_ge {s : ByteArray} {i : Nat} {t : T} {a : Nat} (h : quoQ s i = .ok t a) : i ≤ a := by
  obtain ⟨x, _, _, e⟩ := quoL_bwd _ _ _ _ _ h
  omega
theorem env_all {b : Nat} {s : ByteArray} (hs : s.size ≤ 1048576) (hb : 2 < b) : REnv b s LaidE (quoQ s) where
  keep := fun w w' h hk => h.keep hk (by show 1 ≠ b; omega) (by show 2 ≠ b; omega)
  par := fun i w h _ => parTo_all hs h
  quo := fun w i n d _ hr hi _ => quoted_any w b s i n d hr hi hs
  ahead := fun i t a h => quoQ_ge h
theorem escs_ge (l : List UInt8) : l.length ≤ (escs l).length := by
  induction l with
  | nil => simp
  | cons b r ih =>
    have : 1 ≤ (esc b).length := by
      unfold esc
      split
      · simp
      split <;> simp
    rw [escs_cons, List.length_append, List.length_cons]
    omega
mutual
theorem wr_size : ∀ t : T, t.good → t.size ≤ t.wr.length
  | .node k n x ks, h => by
    have hw : T.wfP k n x.size ks.length := h.1
    unfold T.wfP at hw
    have hL := wrL_size ks h.2
    have hp : 1 ≤ (T.wr (.node k n x ks)).length := by obtain ⟨c, l, e, _⟩ := wr_head (.node k n x ks); rw [e]; simp
    simp only [T.size]
    rcases hw with ⟨rfl, rfl, hx, hl⟩ | ⟨rfl, hm, hx, hl⟩ | ⟨rfl, hx, hl⟩ | ⟨rfl, rfl, hl⟩ | ⟨rfl, rfl, hx⟩
    · obtain rfl := List.eq_nil_of_length_eq_zero hl
      simp only [T.sizeL]; omega
    · obtain rfl := List.eq_nil_of_length_eq_zero hl
      simp only [T.sizeL]; omega
    · obtain rfl := List.eq_nil_of_length_eq_zero hl
      simp only [T.sizeL]; omega
    · obtain rfl := List.eq_nil_of_length_eq_zero hl
      have e : T.wr (.node 4 0 x []) = quo x := by rw [T.wr, if_neg (by decide), if_neg (by decide), if_neg (by decide), if_pos rfl]
      have e2 := escs_ge x.data.toList
      have e3 : x.data.toList.length = x.size := by rw [Array.length_toList]; rfl
      rw [e]
      simp only [T.sizeL, quo, List.length_cons, List.length_append, List.length_nil]
      omega
    · have e : T.wr (.node 5 0 x ks) = 91 :: (T.wrL ks ++ [93]) := by rw [T.wr, if_neg (by decide), if_neg (by decide), if_neg (by decide), if_neg (by decide)]
      rw [e]
      simp only [List.length_cons, List.length_append, List.length_nil]
      omega
theorem wrL_size : ∀ l : List T, T.goodL l → T.sizeL l ≤ (T.wrL l).length
  | [], _ => by simp [T.sizeL]
  | t :: r, h => by
    have h1 := wr_size t h.1
    have h2 := wrR_size r h.2
    simp only [T.sizeL, T.wrL, List.length_append]
    omega
theorem wrR_size : ∀ l : List T, T.goodL l → T.sizeL l ≤ (T.wrR l).length
  | [], _ => by simp [T.sizeL]
  | t :: r, h => by
    have h1 := wr_size t h.1
    have h2 := wrR_size r h.2
    simp only [T.sizeL, T.wrR, List.length_append]
    omega
end
theorem rd_size {s : ByteArray} {t : T} {f a : Nat} (h : rdV s (quoQ s) f 0 0 = .ok t a) : t.size ≤ s.size := by
  obtain ⟨h1, _, _, h4, _⟩ := rdV_bwd _ _ _ _ _ (by decide) h
  have := At.le h4 (Nat.zero_le _)
  have := wr_size t h1
  omega
theorem read_gen (s : ByteArray) (w : World) (hx : s.size ≤ 140737488351232) (hL : LaidE w) : Calls Tryz.prog 11 #[.string s] w (ReadR w (readR s (quoQ s))) :=
  read_any s w hx (fun hs => ⟨env_all hs hL.size, fun o => hL.keep ((Ext.alloc w o).kp (fun _ => True)) trivial trivial⟩) (fun _ _ _ h => Nat.le_trans (rd_size h) hx)
/-- The table of powers is there. -/
def LaidT (w : World) : Prop := Lib.TabIs Tryz.prog w "internal/strconv.uint64pow10" .u64 Lib.pow10Tab
theorem LaidT.below {B : Nat} {w w' : World} (h : LaidT w) (hx : Below B w w') (hB : 0 < B) : LaidT w' := by
  have hgn : Tryz.prog.globalNamed "internal/strconv.uint64pow10" = some 0 := by kernel_rfl
  unfold LaidT Lib.TabIs World.var? at h ⊢
  rw [hgn] at h ⊢
  simp only [Option.bind_some] at h ⊢
  rw [Below.block hx 0 hB]
  exact h
theorem app_all (B : Nat) (hB : 0 < B) : AppI B LaidT where
  keep := fun w w' h hx => h.below hx hB
  app := fun i sv l w h0 h1 hb hBw hl ht => by
    refine (Tryz.strconv_AppendInt_10 B l.length i h0 h1 sv (Lib.byteCells l) w hb hBw hl (fun w' hx => ht.below hx hB)).mono ?_
    rintro e w' ⟨v', rfl, h2, h3, _⟩
    have hbs : Bs B w' v' (l ++ Lib.itoa i) := by unfold Bs; rw [List.length_append, app_len]; exact h2
    obtain ⟨ao, c, rfl⟩ := hbs.shape
    exact ⟨ao, c, rfl, hbs, h3⟩
theorem text_gen {K : Nat → Prop} {d : Nat} {v : Value} {t : T} (w : World) (hr : Rd K w d v t) (hf : t.fitI) (hT : LaidT w) (h0 : 0 < w.heap.size) : Calls Tryz.prog 8 #[v] w fun e w' => e = .returned (textV t) ∧ Ext w w' :=
  text_any w hr (fun B hB => app_all B (by omega)) hf (.inr (fun w' hx => hT.below hx h0))
end Go.Proofs.YtbpbkihcfdnphaaGreatDoor
