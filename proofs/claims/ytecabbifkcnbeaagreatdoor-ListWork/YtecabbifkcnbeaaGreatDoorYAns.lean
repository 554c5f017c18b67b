/-
  What an operation of a kit comes to, as data; the program's answer and the document's beside it.
-/
import Derived.Test.YtecabbifkcnbeaaGreatDoorCWorkG
import Derived.Test.YtecabbifkcnbeaaGreatDoorLKinds
import Derived.Test.YtecabbifkcnbeaaGreatDoorCFits
import Derived.Test.YtecabbifkcnbeaaGreatDoorKKitT
namespace Go.Proofs.YtecabbifkcnbeaaGreatDoor
open Go.RowKit
/-- A fault's number and what was raised, or a value. -/
inductive Ans where
  | bad (c : Int) (x : ByteArray)
  | good (t : T)
def Ans.one (c : Int) : Ans := .bad c ⟨#[]⟩
def AnsV (r : Ans) (w : World) (V : Value) : Prop := match r with
  | .bad c x => (c == 0) = false ∧ V = refX c x
  | .good t => t.may ∧ ∃ K d v, V = .tuple #[v, .int .i64 0, .string ⟨#[]⟩] ∧ VRd K w d v t
def AnsP (r : Ans) (w : World) (R : Value) : Prop := match r with
  | .bad c x => R = .tuple #[.agg #[.int .i64 0, .int .i64 0, .string ⟨#[]⟩, .slice none 0 0], .int .i64 c, .string x]
  | .good t => ∃ K d p, R = .tuple #[p, .int .i64 0, .string ⟨#[]⟩] ∧ Rd K w d p t
theorem AnsV.later {r : Ans} {w w' : World} {V : Value} (h : AnsV r w V) (hx : Ext w w') : AnsV r w' V := by
  cases r with
  | bad c x => exact h
  | good t =>
    obtain ⟨hm, K, d, v, e, hr⟩ := h
    exact ⟨hm, K, d, v, e, hr.later hx⟩
theorem AnsP.later {r : Ans} {w w' : World} {V : Value} (h : AnsP r w V) (hx : Ext w w') : AnsP r w' V := by
  cases r with
  | bad c x => exact h
  | good t =>
    obtain ⟨K, d, p, e, hr⟩ := h
    exact ⟨K, d, p, e, hr.later hx⟩
theorem AnsV.shape {r : Ans} {w : World} {V : Value} (h : AnsV r w V) : ∃ v ec ex, V = .tuple #[v, .int .i64 ec, .string ex] ∧ (v = .nilIface ∨ ∃ τ q, v = .iface τ q) := by
  cases r with
  | bad c x => exact ⟨_, _, _, h.2, .inl rfl⟩
  | good t =>
    obtain ⟨_, K, d, v, e, hr⟩ := h
    obtain ⟨τ, q, rfl⟩ := hr.iface
    exact ⟨_, _, _, e, .inr ⟨_, _, rfl⟩⟩
/-- The document's answer beside the program's: Fits holds them for the same. -/
theorem AnsP.beside {r : Ans} {w1 w2 : World} {v : Value} {ec : Int} {ex : ByteArray} {R : Value} (h : AnsP r w2 R) (hv : AnsV r w1 (.tuple #[v, .int .i64 ec, .string ex])) : ∃ k n x a l c, R = .tuple #[.agg #[.int .i64 k, .int .i64 n, .string x, .slice a l c], .int .i64 ec, .string ex] ∧ ∀ w, Ext w1 w → Ext w2 w → Calls Tryz.prog 34 #[v, .int .i64 ec, .agg #[.int .i64 k, .int .i64 n, .string x, .slice a l c], .int .i64 ec] w fun r w' => r = .returned (.bool true) ∧ Ext w w' := by
  cases r with
  | bad c x =>
    obtain ⟨hc, e⟩ := hv
    simp only [refX, Value.tuple.injEq, Array.mk.injEq, List.cons.injEq, and_true, Value.int.injEq, Value.string.injEq, true_and] at e
    obtain ⟨rfl, rfl, rfl⟩ := e
    exact ⟨_, _, _, _, _, _, h, fun w _ _ => fits_err ec (by simpa using hc) _ ⟨_, _, _, _, _, _, rfl⟩ w⟩
  | good t =>
    obtain ⟨hm, K, d, v', e, hr⟩ := hv
    obtain ⟨K', d', p, e', hr'⟩ := h
    simp only [Value.tuple.injEq, Array.mk.injEq, List.cons.injEq, and_true, Value.int.injEq, Value.string.injEq, true_and] at e
    obtain ⟨rfl, rfl, rfl⟩ := e
    obtain ⟨u0, u1, u2, u3, rfl⟩ := hr'.agg
    obtain ⟨k, n, x, a, c, rfl, rfl, rfl, rfl⟩ := hr'.shape
    exact ⟨_, _, _, _, _, _, e', fun w h1 h2 => fits_ok w (hr.later h1) (hr'.later h2) hm⟩
theorem AnsV.one {c : Int} (h : (c == 0) = false) (w : World) : AnsV (Ans.one c) w (refV c) := ⟨h, rfl⟩
/-- The answer of a kit's Work; fn: what the operation itself comes to. -/
noncomputable def ansOf (ks : List Kd) (op : ByteArray) (ts : List T) (fn : Ans) : Ans :=
  match kdFind ks op with
  | none => Ans.one 1
  | some k => match k.does with
    | none => Ans.one 1
    | some _ => if cntOk k ts.length = false then Ans.one 11 else if ∀ t ∈ ts, t.may then (if rightB k.signs.data.toList (ts.map T.kind) = true then fn else Ans.one 20) else Ans.one 1
theorem ansOf_of {ks : List Kd} {op : ByteArray} {ts : List T} {fn : Ans} {w : World} {V : Value} (h : WorkQ ks op ts (AnsV fn) w V) : AnsV (ansOf ks op ts fn) w V := by
  unfold WorkQ at h
  unfold ansOf
  split at h
  · rename_i e; rw [e]; rw [h]; exact AnsV.one (by decide) w
  · rename_i k e
    rw [e]
    split at h
    · rename_i e2
      dsimp only
      rw [e2, h]; exact AnsV.one (by decide) w
    · rename_i e2
      dsimp only
      rw [e2]
      dsimp only
      split at h
      · rename_i h1
        rw [if_pos h1, h]; exact AnsV.one (by decide) w
      · rename_i h1
        rw [if_neg h1]
        split at h
        · rename_i h2
          rw [if_pos h2]
          split at h
          · rename_i h3; rw [if_pos h3]; exact h
          · rename_i h3; rw [if_neg h3, h]; exact AnsV.one (by decide) w
        · rename_i h2
          rw [if_neg h2, h]; exact AnsV.one (by decide) w
/-- What the document asks of a call, but for sorts. -/
def strictS : ByteArray := ⟨#[83, 116, 114, 105, 99, 116]⟩
def anyS (x : ByteArray) (xs : List ByteArray) : Bool := xs.any (fun y => decide (y = x))
def strictM (op : ByteArray) (r : Rw) : Bool := decide (r.kind = op) && anyS strictS r.abs
noncomputable def askM (rs : List Rw) (op : ByteArray) (ts : List T) : Int := match rs.find? (strictM op) with
  | none => 1
  | some r => if (ts.length : Int) < r.min ∨ (r.max ≠ -1 ∧ r.max < (ts.length : Int)) then 11 else if ∀ t ∈ ts, t.may then 0 else 1
noncomputable def askK (ks : List Kd) (op : ByteArray) (ts : List T) : Int := match kdFind ks op with
  | none => 1
  | some k => match k.does with
    | none => 1
    | some _ => if cntOk k ts.length = false then 11 else if ∀ t ∈ ts, t.may then 0 else 1
/-- A table whose kinds that do something are its strict ones. -/
structure TabK (ks : List Kd) : Prop where
  strict : ∀ k ∈ ks, anyS strictS (kdRow k).abs = k.does.isSome
  nodup : (ks.map Kd.name).Nodup
  max : ∀ k ∈ ks, k.max = -1 ∨ 0 ≤ k.max
theorem TabK.tail {k : Kd} {ks : List Kd} (h : TabK (k :: ks)) : TabK ks :=
  ⟨fun q hq => h.strict q (List.mem_cons_of_mem _ hq), (List.nodup_cons.1 h.nodup).2, fun q hq => h.max q (List.mem_cons_of_mem _ hq)⟩
theorem find_none_of {ks : List Kd} {op : ByteArray} (h : op ∉ ks.map Kd.name) : (ks.map kdRow).find? (strictM op) = none := by
  rw [List.find?_eq_none]
  intro r hr
  obtain ⟨k, hk, rfl⟩ := List.mem_map.1 hr
  unfold strictM
  rw [Bool.and_eq_true, decide_eq_true_eq]
  intro hh
  exact h (List.mem_map.2 ⟨k, hk, hh.1⟩)
theorem ask_eq : ∀ (ks : List Kd) (_ : TabK ks) (op : ByteArray) (ts : List T), askM (ks.map kdRow) op ts = askK ks op ts
  | [], _, _, _ => rfl
  | k :: ks, h, op, ts => by
    have ih := ask_eq ks h.tail op ts
    unfold askM askK kdFind at ih ⊢
    rw [List.map_cons, List.find?_cons, List.find?_cons]
    by_cases hk : k.name = op
    · have e1 : decide (k.name = op) = true := decide_eq_true hk
      have e2 : strictM op (kdRow k) = k.does.isSome := by
        unfold strictM
        rw [show (kdRow k).kind = k.name from rfl, e1, Bool.true_and, h.strict k List.mem_cons_self]
      rw [e1, e2]
      cases hd : k.does with
      | none =>
        have hn : op ∉ ks.map Kd.name := by rw [← hk]; exact (List.nodup_cons.1 h.nodup).1
        rw [show (Option.none : Option Nat).isSome = false from rfl]
        dsimp only
        rw [find_none_of hn, hd]
      | some f =>
        rw [show (some f).isSome = true from rfl]
        dsimp only
        rw [hd]
        dsimp only
        have hmx := h.max k List.mem_cons_self
        have ec : ((ts.length : Int) < (kdRow k).min ∨ ((kdRow k).max ≠ -1 ∧ (kdRow k).max < (ts.length : Int))) ↔ cntOk k ts.length = false := by
          unfold cntOk
          rw [show (kdRow k).min = k.min from rfl, show (kdRow k).max = k.max from rfl]
          simp only [Bool.and_eq_false_iff, Bool.or_eq_false_iff, decide_eq_false_iff_not]
          omega
        by_cases hc : cntOk k ts.length = false
        · rw [if_pos hc, if_pos (ec.2 hc)]
        · rw [if_neg hc, if_neg (fun hh => hc (ec.1 hh))]
    · have e1 : decide (k.name = op) = false := decide_eq_false hk
      have e2 : strictM op (kdRow k) = false := by
        unfold strictM
        rw [show (kdRow k).kind = k.name from rfl, e1, Bool.false_and]
      rw [e1, e2]
      exact ih
/-- Beside a number of the document's asking the answer is that fault. -/
theorem ansOf_ask {ks : List Kd} {op : ByteArray} {ts : List T} {fn : Ans} (h : (askK ks op ts == 0) = false) : ansOf ks op ts fn = Ans.one (askK ks op ts) := by
  unfold ansOf
  unfold askK at h ⊢
  split
  · rename_i e; rfl
  · rename_i k e
    rw [e] at h
    dsimp only at h
    split
    · rfl
    · rename_i e2
      rw [e2] at h
      dsimp only at h
      by_cases hc : cntOk k ts.length = false
      · rw [if_pos hc, if_pos hc]
      · rw [if_neg hc] at h
        rw [if_neg hc, if_neg hc]
        by_cases hm : ∀ t ∈ ts, t.may
        · rw [if_pos hm] at h; exact absurd h (by decide)
        · rw [if_neg hm, if_neg hm]
/-- Where nothing is amiss the operation is one of the table's, with its number of values, each of which may be. -/
theorem ask_zero {ks : List Kd} {op : ByteArray} {ts : List T} (h : askK ks op ts = 0) : ∃ k f, kdFind ks op = some k ∧ k.does = some f ∧ cntOk k ts.length = true ∧ (∀ t ∈ ts, t.may) ∧ ∀ fn, ansOf ks op ts fn = if rightB k.signs.data.toList (ts.map T.kind) = true then fn else Ans.one 20 := by
  unfold askK at h
  split at h
  · exact absurd h (by decide)
  · rename_i k e
    split at h
    · exact absurd h (by decide)
    · rename_i f e2
      by_cases hc : cntOk k ts.length = false
      · rw [if_pos hc] at h; exact absurd h (by decide)
      · rw [if_neg hc] at h
        by_cases hm : ∀ t ∈ ts, t.may
        · have hc' : cntOk k ts.length = true := by simpa using hc
          refine ⟨k, f, e, e2, hc', hm, fun fn => ?_⟩
          unfold ansOf
          rw [e]
          dsimp only
          rw [e2]
          dsimp only
          rw [if_neg hc, if_pos hm]
        · rw [if_neg hm] at h; exact absurd h (by decide)
/-- One answer of both: the program's function nw and the document's rw. -/
def BothQ (nw rw : Nat) (op : ByteArray) (ts : List T) : Prop := ∃ r : Ans, (∀ w a c, MaxAt w → PRow w a ts → Calls Tryz.prog nw #[.string op, .slice a ts.length c] w fun e w' => ∃ V, e = .returned V ∧ AnsV r w' V ∧ Ext w w') ∧
  ∀ K d w a c, RdL K w d a ts → Calls Tryz.prog rw #[.string op, .slice a ts.length c] w fun e w' => ∃ R, e = .returned R ∧ AnsP r w' R ∧ Ext w w'
theorem kind_five {t : T} (h : t.may) : t.kind = 1 ∨ t.kind = 2 ∨ t.kind = 3 ∨ t.kind = 4 ∨ t.kind = 5 := by
  have := T.wf_of t h.1
  obtain ⟨k, n, x, ks⟩ := t
  have : T.wfP k n x.size ks.length := this
  unfold T.wfP at this
  show k = 1 ∨ k = 2 ∨ k = 3 ∨ k = 4 ∨ k = 5
  omega
def truthI (b : Bool) : Int := if b then 1 else 0
def trT (b : Bool) : T := .node 2 (truthI b) ⟨#[]⟩ []
theorem bytes_nil {x : ByteArray} (h : x.size = 0) : x = ⟨#[]⟩ := by
  obtain ⟨d⟩ := x
  have hd : d.size = 0 := h
  rw [Array.eq_empty_of_size_eq_zero hd]
theorem truth_of {t : T} (h : t.may) (h2 : t.kind = 2) : ∃ b, t = trT b := by
  have := T.wf_of t h.1
  obtain ⟨k, n, x, ks⟩ := t
  obtain rfl : k = 2 := h2
  have : T.wfP 2 n x.size ks.length := this
  unfold T.wfP at this
  have hx : (n = 0 ∨ n = 1) ∧ x.size = 0 ∧ ks.length = 0 := by omega
  obtain rfl := List.eq_nil_of_length_eq_zero hx.2.2
  obtain rfl := bytes_nil hx.2.1
  rcases hx.1 with rfl | rfl
  · exact ⟨false, rfl⟩
  · exact ⟨true, rfl⟩
theorem text_of {t : T} (h : t.may) (h4 : t.kind = 4) : ∃ s : ByteArray, s.size ≤ 65535 ∧ t = textT s := by
  have := T.wf_of t h.1
  have hz := h.2.1
  obtain ⟨k, n, x, ks⟩ := t
  obtain rfl : k = 4 := h4
  have : T.wfP 4 n x.size ks.length := this
  unfold T.wfP at this
  have hx : n = 0 ∧ ks.length = 0 := by omega
  obtain rfl := List.eq_nil_of_length_eq_zero hx.2
  obtain rfl := hx.1
  have hz' : (T.node 4 0 x []).size ≤ 65536 := hz
  simp only [T.size, T.sizeL] at hz'
  exact ⟨x, by omega, rfl⟩
end Go.Proofs.YtecabbifkcnbeaaGreatDoor
