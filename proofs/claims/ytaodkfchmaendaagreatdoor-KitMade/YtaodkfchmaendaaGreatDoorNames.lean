/-
  sign.Names by a contract: it cuts names where blanks stand, or says that the text is of none.
-/
import Derived.Test.YtaodkfchmaendaaGreatDoorRead
namespace Go.Proofs.YtaodkfchmaendaaGreatDoor
open Go.RowKit

def joinS : List (List UInt8) → List UInt8
  | [] => []
  | [x] => x
  | x :: y :: r => x ++ 32 :: joinS (y :: r)
def joinSp : List (List UInt8) → List UInt8
  | [] => []
  | x :: r => x ++ 32 :: joinSp r
theorem joinSp_snoc (xs : List (List UInt8)) (n : List UInt8) : joinSp (xs ++ [n]) = joinSp xs ++ (n ++ [32]) := by
  induction xs with
  | nil => simp [joinSp]
  | cons x xs ih => simp [joinSp, ih]
theorem joinSp_len (xs : List (List UInt8)) : xs.length ≤ (joinSp xs).length := by
  induction xs with
  | nil => simp
  | cons x xs ih => simp [joinSp]; omega
theorem joinS_append (xs p : List (List UInt8)) (hp : p ≠ []) : joinS (xs ++ p) = joinSp xs ++ joinS p := by
  induction xs with
  | nil => rfl
  | cons x xs ih =>
    obtain ⟨y, r, e⟩ : ∃ y r, xs ++ p = y :: r := by
      cases h : xs ++ p with
      | nil => exact absurd (List.append_eq_nil_iff.1 h).2 hp
      | cons y r => exact ⟨y, r, rfl⟩
    show joinS (x :: (xs ++ p)) = _
    rw [e]
    show x ++ 32 :: joinS (y :: r) = _
    rw [← e, ih]
    simp [joinSp]
theorem joinS_head (p : List (List UInt8)) (hp : p ≠ []) : ∃ y r tail, p = y :: r ∧ joinS p = y ++ tail ∧ ((tail = [] ∧ r = []) ∨ (r ≠ [] ∧ tail = 32 :: joinS r)) := by
  match p, hp with
  | [x], _ => exact ⟨x, [], [], rfl, by simp [joinS], .inl ⟨rfl, rfl⟩⟩
  | x :: y :: r, _ => exact ⟨x, y :: r, _, rfl, rfl, .inr ⟨by simp, rfl⟩⟩
theorem joinS_begins : ∀ (xs p : List (List UInt8)) (rest : List UInt8), p ≠ [] → (∀ x ∈ xs, (32 : UInt8) ∉ x) → (∀ x ∈ p, (32 : UInt8) ∉ x) → joinS p = joinSp xs ++ rest → ∃ p', p = xs ++ p' ∧ p' ≠ [] ∧ joinS p' = rest
  | [], p, rest, hp, _, _, h => ⟨p, rfl, hp, h⟩
  | x :: xs, p, rest, hp, hx, hy, h => by
    obtain ⟨y, r, tail, rfl, hj, ht⟩ := joinS_head p hp
    rw [hj] at h
    have h' : y ++ tail = x ++ 32 :: (joinSp xs ++ rest) := by rw [h]; simp [joinSp]
    rcases ht with ⟨rfl, rfl⟩ | ⟨hr, rfl⟩
    · exfalso
      rw [List.append_nil] at h'
      exact hy y (by simp) (by rw [h']; simp)
    · obtain ⟨e1, e2⟩ := split58 (hy y (by simp)) (hx x (by simp)) h'
      obtain ⟨p', rfl, hp', hq⟩ := joinS_begins xs r rest hr (fun z hz => hx z (List.mem_cons_of_mem _ hz)) (fun z hz => hy z (List.mem_cons_of_mem _ hz)) e2
      exact ⟨p', by rw [e1]; rfl, hp', hq⟩
theorem no32_name {f : List UInt8} (h : nameB f = true) : (32 : UInt8) ∉ f := nameB_no (by decide) h
/-- The names that a text is of. -/
def NamesOf (l : List UInt8) (ns : List (List UInt8)) : Prop := (l = [] ∧ ns = []) ∨ (ns ≠ [] ∧ joinS ns = l ∧ ∀ n ∈ ns, nameB n = true)
theorem names_first {l : List UInt8} {xs : List (List UInt8)} {rest : List UInt8} (h0 : l ≠ []) (hl : l = joinSp xs ++ rest) (hx : ∀ n ∈ xs, nameB n = true) {ns : List (List UInt8)} (hn : NamesOf l ns) :
    ∃ y r tail, rest = y ++ tail ∧ nameB y = true ∧ (tail = [] ∨ ∃ t, tail = 32 :: t) ∧ ns = xs ++ y :: r := by
  rcases hn with ⟨h, _⟩ | ⟨h1, h2, h3⟩
  · exact absurd h h0
  obtain ⟨p', rfl, hp', hj⟩ := joinS_begins xs ns rest h1 (fun x h => no32_name (hx x h)) (fun x h => no32_name (h3 x h)) (h2.trans hl)
  obtain ⟨y, r, tail, rfl, hh, ht⟩ := joinS_head p' hp'
  refine ⟨y, r, tail, hj.symm.trans hh, h3 y (by simp), ?_, rfl⟩
  rcases ht with ⟨h, _⟩ | ⟨_, h⟩
  · exact .inl h
  · exact .inr ⟨_, h⟩
theorem names_fail_last {l : List UInt8} {xs : List (List UInt8)} {rest : List UInt8} (h0 : l ≠ []) (hl : l = joinSp xs ++ rest) (hx : ∀ n ∈ xs, nameB n = true) (hr : (32 : UInt8) ∉ rest) (hb : nameB rest = false) : ∀ ns, ¬ NamesOf l ns := fun ns hn => by
  obtain ⟨y, r, tail, rfl, hy, ht, _⟩ := names_first h0 hl hx hn
  rcases ht with rfl | ⟨t, rfl⟩
  · rw [List.append_nil] at hb; rw [hy] at hb; cases hb
  · exact hr (by simp)
theorem names_fail {l : List UInt8} {xs : List (List UInt8)} {pre post : List UInt8} (h0 : l ≠ []) (hl : l = joinSp xs ++ (pre ++ 32 :: post)) (hx : ∀ n ∈ xs, nameB n = true) (hr : (32 : UInt8) ∉ pre) (hb : nameB pre = false) : ∀ ns, ¬ NamesOf l ns := fun ns hn => by
  obtain ⟨y, r, tail, e, hy, ht, _⟩ := names_first h0 hl hx hn
  rcases ht with rfl | ⟨t, rfl⟩
  · rw [List.append_nil] at e; exact no32_name hy (by rw [← e]; simp)
  · obtain ⟨e1, _⟩ := split58 hr (no32_name hy) e
    rw [e1, hy] at hb; cases hb
theorem NamesOf.one {l : List UInt8} {p q : List (List UInt8)} (hp : NamesOf l p) (hq : NamesOf l q) : p = q := by
  by_cases h0 : l = []
  · have key : ∀ p, NamesOf l p → p = [] := fun p hp => by
      rcases hp with ⟨_, h⟩ | ⟨h1, h2, h3⟩
      · exact h
      · exfalso
        obtain ⟨y, r, tail, rfl, hh, _⟩ := joinS_head p h1
        rw [h2, h0] at hh
        have hy := h3 y (by simp)
        rw [(List.append_eq_nil_iff.1 hh.symm).1] at hy
        cases hy
    rw [key p hp, key q hq]
  · have hp' : p ≠ [] ∧ joinS p = l ∧ ∀ n ∈ p, nameB n = true := hp.resolve_left (fun h => h0 h.1)
    obtain ⟨p1, x, rfl⟩ : ∃ p1 x, p = p1 ++ [x] := ⟨p.dropLast, p.getLast hp'.1, (List.dropLast_concat_getLast hp'.1).symm⟩
    have hl : l = joinSp p1 ++ x := by rw [← hp'.2.1, joinS_append _ _ (by simp)]; rfl
    obtain ⟨y, r, tail, rfl, hy, ht, rfl⟩ := names_first h0 hl (fun n hn => hp'.2.2 n (by simp [hn])) hq
    rcases ht with rfl | ⟨t, rfl⟩
    · rw [List.append_nil] at hl ⊢
      have hq' : joinS (p1 ++ y :: r) = l := (hq.resolve_left (fun h => h0 h.1)).2.1
      rw [joinS_append _ _ (by simp), hl] at hq'
      have e := List.append_cancel_left hq'
      cases r with
      | nil => rfl
      | cons z r =>
        have e' : y ++ 32 :: joinS (z :: r) = y := e
        have := congrArg List.length e'
        simp at this
    · exact absurd (hp'.2.2 (y ++ 32 :: t) (by simp)) (fun h => no32_name h (by simp))

abbrev strV (l : List UInt8) : Value := .string ⟨l.toArray⟩
def strCells' (ns : List (List UInt8)) : List Value := ns.map strV
theorem strCells'_snoc (xs : List (List UInt8)) (n : List UInt8) : strCells' (xs ++ [n]) = strCells' xs ++ [strV n] := by simp [strCells']
/-- What sign.Names tells of a text. -/
def NamesTold (l : List UInt8) (base : Nat) (e : Ending) (w' : World) : Prop :=
  (∃ ns v, e = .returned (.tuple #[v, .bool true]) ∧ NamesOf l ns ∧ w'.ownsRow base 9 1 v ns.length (strCells' ns)) ∨ (e = .returned (.tuple #[.slice none 0 0, .bool false]) ∧ ∀ ns, ¬ NamesOf l ns)
set_option maxRecDepth 100000 in
set_option maxHeartbeats 4000000 in
theorem names_any (l : List UInt8) (w : World) (hb : l.length ≤ 1099511627776) :
    Calls Tryz.prog 101 #[.string ⟨l.toArray⟩] w fun e w' => NamesTold l w.heap.size e w' ∧ Ext w w' := by
  obtain ⟨i0, hi0, hz0, hz1, hz2⟩ := info_parts strInfo
  by_cases h0 : l = []
  · subst h0
    go_enter Tryz.func101, Tryz.ntmps101
    go_wp2
    refine wp_loop_rounds 1 ?_
    rw [rounds_succ]
    go_wp2
    go_ret2
    exact ⟨.inl ⟨[], _, rfl, .inl ⟨rfl, rfl⟩, World.ownsRow_nil _ _ _ _⟩, Ext.refl _⟩
  have he : l.isEmpty = false := by
    cases l with
    | nil => exact absurd rfl h0
    | cons x l => rfl
  have H0 := hid h0
  clear h0
  go_enter Tryz.func101, Tryz.ntmps101
  go_wp2
  go_loopg [0, 4, 5] (l.length + 1) (fun g t0 t4 t5 wr => ∃ (rest : List UInt8) (xs : List (List UInt8)) (more : Bool), t0 = strV rest ∧ t5 = .bool more ∧ wr.ownsRow w.heap.size 9 1 t4 xs.length (strCells' xs) ∧ Ext w wr ∧
    ((more = true ∧ l = joinSp xs ++ rest ∧ (∀ n ∈ xs, nameB n = true) ∧ g = rest.length + 1) ∨ (more = false ∧ NamesOf l xs)))
  case atStart => exact ⟨l, [], true, rfl, rfl, World.ownsRow_nil _ _ _ _, Ext.refl _, .inl ⟨rfl, rfl, fun n h => absurd h (List.not_mem_nil), rfl⟩⟩
  case round =>
    obtain ⟨rest, xs, more, rfl, rfl, hown, hx, hm⟩ := hrel
    obtain ⟨a, c4, rfl⟩ := ownsRow_slice hown
    have HO := hid hown
    have HX := hid hx
    clear hown hx
    rcases hm with ⟨rfl, hl, hxm, hg⟩ | ⟨rfl, hn⟩
    · have hlen := congrArg List.length hl
      rw [List.length_append] at hlen
      have hxl := joinSp_len xs
      have hxb : (xs.length : Int) ≤ 1099511627776 := by omega
      have hrb : (⟨rest.toArray⟩ : ByteArray).size ≤ 140737488355328 := by show rest.toArray.size ≤ _; simp; omega
      have HL := hid hl
      have HXM := hid hxm
      have HG := hid hg
      have HLN := hid hlen
      clear hl hxm hlen hg
      rcases parts_of rest 32 with h32 | ⟨pre, post, hr, h32⟩
      · have H32 := hid h32
        clear h32
        go_wp2_with fail
        refine (cut_none ⟨rest.toArray⟩ 32 _ (by simpa using H32.out)).mono ?_
        rintro e w1 ⟨rfl, hx1⟩
        have HX1 := hid (HX.out.trans hx1)
        have HO1 := hid (row_ext HO.out hx1)
        clear hx1
        go_wp2_with fail
        refine (name_list rest _).mono ?_
        rintro e w2 ⟨rfl, hx2⟩
        have HX2 := hid (HX1.out.trans hx2)
        have HO2 := hid (show (w2.alloc (.cells #[strV rest] 9)).ownsRow w.heap.size 9 1 (.slice a xs.length c4) xs.length (strCells' xs) from (row_ext HO1.out hx2).alloc _)
        clear hx2
        by_cases hn : nameB rest = true
        · go_wp2_with (at_builtin; refine wpList_append_own _ rfl _ _ 35 rfl w.heap.size 9 i0 (.string ⟨#[]⟩) 1 16 Tryz.underlying35 hi0 hz0 hz1 hz2 rfl (by decide) _ _ _ rfl HO2.out ⟨w2.heap.size, 0, none⟩ 1 1 [strV rest] rfl rfl ?c1 ?c2 ?c3 ?c4 ?c5 ?_)
          case c1 =>
            intro j u hj
            match j, hj with
            | 0, hj => simp at hj; subst hj; simp [Addr.add]
          case c2 => intro u hu; simp at hu; subst hu; rfl
          case c3 => unfold maxLen; omega
          case c4 => omega
          case c5 => have := HX2.out.size; simp; omega
          intro v' w3 hown' hgrow _
          have HO' := hid (show w3.ownsRow w.heap.size 9 1 v' (xs ++ [rest]).length (strCells' (xs ++ [rest])) by rw [strCells'_snoc]; simpa using hown')
          have HX' := hid (show Ext w w3 from (HX2.out.more _).grown hgrow (by have := HX2.out.size; simp; omega) (fun k hk => (HO2.out.lt k hk).1))
          clear hown' hgrow
          go_wp2
          go_roundg 0
          case measure => have := HG.out; omega
          case rel => exact ⟨[], xs ++ [rest], false, rfl, rfl, HO'.out, HX'.out, .inr ⟨rfl, .inr ⟨by simp, by rw [joinS_append _ _ (by simp), HL.out]; rfl, fun n h => by
              rcases List.mem_append.1 h with h | h
              · exact HXM.out n h
              · simp at h; rw [h]; exact hn⟩⟩⟩
        · have hn' : nameB rest = false := by simpa using hn
          have HF := hid (names_fail_last H0.out HL.out HXM.out H32.out hn')
          clear hn
          go_wp2
          go_ret2
          exact ⟨.inr ⟨rfl, HF.out⟩, HX2.out⟩
      · have H32 := hid h32
        have HR := hid hr
        clear h32 hr
        go_wp2_with fail
        refine (cut_found ⟨rest.toArray⟩ 32 pre post _ (by simpa using HR.out) H32.out hrb).mono ?_
        rintro e w1 ⟨rfl, hx1⟩
        have HX1 := hid (HX.out.trans hx1)
        have HO1 := hid (row_ext HO.out hx1)
        clear hx1
        go_wp2_with fail
        refine (name_list pre _).mono ?_
        rintro e w2 ⟨rfl, hx2⟩
        have HX2 := hid (HX1.out.trans hx2)
        have HO2 := hid (show (w2.alloc (.cells #[strV pre] 9)).ownsRow w.heap.size 9 1 (.slice a xs.length c4) xs.length (strCells' xs) from (row_ext HO1.out hx2).alloc _)
        clear hx2
        by_cases hn : nameB pre = true
        · go_wp2_with (at_builtin; refine wpList_append_own _ rfl _ _ 35 rfl w.heap.size 9 i0 (.string ⟨#[]⟩) 1 16 Tryz.underlying35 hi0 hz0 hz1 hz2 rfl (by decide) _ _ _ rfl HO2.out ⟨w2.heap.size, 0, none⟩ 1 1 [strV pre] rfl rfl ?c1 ?c2 ?c3 ?c4 ?c5 ?_)
          case c1 =>
            intro j u hj
            match j, hj with
            | 0, hj => simp at hj; subst hj; simp [Addr.add]
          case c2 => intro u hu; simp at hu; subst hu; rfl
          case c3 => unfold maxLen; omega
          case c4 => omega
          case c5 => have := HX2.out.size; simp; omega
          intro v' w3 hown' hgrow _
          have HO' := hid (show w3.ownsRow w.heap.size 9 1 v' (xs ++ [pre]).length (strCells' (xs ++ [pre])) by rw [strCells'_snoc]; simpa using hown')
          have HX' := hid (show Ext w w3 from (HX2.out.more _).grown hgrow (by have := HX2.out.size; simp; omega) (fun k hk => (HO2.out.lt k hk).1))
          clear hown' hgrow
          go_wp2
          go_roundg (post.length + 1)
          case measure => have := HG.out; rw [HR.out] at this; simp at this; omega
          case rel => exact ⟨post, xs ++ [pre], true, rfl, rfl, HO'.out, HX'.out, .inl ⟨rfl, by rw [joinSp_snoc, HL.out, HR.out]; simp, fun n h => by
              rcases List.mem_append.1 h with h | h
              · exact HXM.out n h
              · simp at h; rw [h]; exact hn, rfl⟩⟩
        · have hn' : nameB pre = false := by simpa using hn
          have HF := hid (names_fail H0.out (by rw [← HR.out]; exact HL.out) HXM.out H32.out hn')
          clear hn
          go_wp2
          go_ret2
          exact ⟨.inr ⟨rfl, HF.out⟩, HX2.out⟩
    · have HN := hid hn
      clear hn
      go_wp2
      go_ret2
      exact ⟨.inl ⟨xs, _, rfl, HN.out, HO.out⟩, HX.out⟩
end Go.Proofs.YtaodkfchmaendaaGreatDoor
