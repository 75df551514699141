import PyProof.Rows.All
import HandS.ForMost
import HandS.Walk
import HandS.IsInst
import HandS.Zip
import HandS.EndBits
import HandS.Evl
import HandS.TupAny
import HandS.Style
import HandS.TupLe
import KE.SortData
import KE.KDictKeyed
import HandS.TupMul
import KE.GoesEnum
import HandS.Star
import HandS.Deep
import HandS.More
import PyProof.StrOps2
import HandS.FStr
import HandS.Flow
import HandS.Defaults
import HandS.ForExc
import HandS.ExcIs
import HandS.ExcCtx
import HandS.Hot
import HandS.HotCalls
import HandS.Lambda
import HandS.ExcField
import HandS.ExcInit
import KE.KExcMore
import KE.KTypeName
import KE.KUnpackStar
import KE.KIntText
import HandS.RaiseMore
import HandS.HeadHook3
import KE.GoesZip
import KE.GoesMore
import HandS.Zip
import KE.KStateDown
import KE.KNestM
import HandS.Head0
import HandS.Head1
import HandS.Head2
import HandS.EndTab
import KE.KNestM
import KE.KStateDown
import HandS.Head0
import HandS.Head1
import HandS.Head2
import PySem.Challenge.RW_whoseink_k52_deed_texts_refused
set_option Elab.async false
set_option linter.all false
set_option maxRecDepth 100000
set_option maxHeartbeats 4000000
namespace Ink
open PySem PySem.Spec PyProof.Rows L2
/-! ### a def that is called, by its module name -/
def Cal (P : Program) (w : World) (K : PySem.W.Frag) (mg : Str → Option Value) (base : Heap) (k : Nat) (x : Str) (ps : List Str) (sp : Sp) : Prop :=
  ∃ f fd, FnOk P w K mg base CX0 k f fd ps sp ∧ mg x = some (.ref f) ∧ PySem.W.keepIn K (.ref f) = true ∧ Binds K fd ps []
theorem Cal.mono {P : Program} {w : World} {K : PySem.W.Frag} {mg : Str → Option Value} {base : Heap} {j k : Nat} {x : Str} {ps : List Str} {sp : Sp} (c : Cal P w K mg base j x ps sp) (h : j ≤ k) : Cal P w K mg base k x ps sp := by
  obtain ⟨f, fd, G, g, kp, b⟩ := c
  exact ⟨f, fd, G.mono h, g, kp, b⟩
section
variable {X : Cx} {k : Nat} {x : Str} {ps : List Str} {sp : Sp} {p pos : Pos} {e : Expr} {es : List Expr} {t : TA}
theorem pe_callC (c : Cal X.prog X.w X.K X.mg X.base k x ps sp) (hr : Room k X.A) (hg : Gl X x)
    (ha : PA X (e :: es) t) (hdb : (x == ("__debug__" : Str)) = false := by decide) (he : starEach (e :: es) X.env = (false, eval e X.env) :: starEach es X.env := by rfl) (hpl : (backTo pos (starEach es X.env)).any (·.1) = false := by rfl)
    (hp : ∀ f fd, FnOk X.prog X.w X.K X.mg X.base CX0 k f fd ps sp → Passes CX0 X E0 := by exact fun _ _ _ => pass0) :
    PE X (.Call (.Name x p) (e :: es) [] pos) (tCall sp [] E0 t) := by
  obtain ⟨f, fd, G, g, kp, b⟩ := c
  exact pe_call G hr hg g kp b .nil pass0 ha hdb he hpl
theorem pe_callC0 (c : Cal X.prog X.w X.K X.mg X.base k x ps sp) (hr : Room k X.A) (hg : Gl X x) (hdb : (x == ("__debug__" : Str)) = false := by decide) :
    PE X (.Call (.Name x p) [] [] pos) (tCall sp [] E0 tNil) := by
  obtain ⟨f, fd, G, g, kp, b⟩ := c
  exact pe_call0 G hr hg g kp b .nil pass0 hdb
end
theorem pe_globI {X : Cx} {x : Str} {n : Int} {pos : Pos} (hg : Gl X x) (hm : ∃ t, X.mg x = some (.int n t)) (hd : (x == ("__debug__" : Str)) = false := by decide) : PE X (.Name x pos) (tC (.int n)) := by
  obtain ⟨t, e⟩ := hm
  exact pe_glob hg e ⟨t, rfl⟩ hd
/-! ### heaps -/
/-- all but what stands at a is as it was -/
def Keep (a : Addr) (H H' : Hp) : Prop := ∀ b o, b ≠ a → H b = some o → H' b = some o
theorem Keep.refl {a : Addr} (H : Hp) : Keep a H H := fun _ _ _ h => h
theorem Keep.trans {a : Addr} {H H1 H2 : Hp} (x : Keep a H H1) (y : Keep a H1 H2) : Keep a H H2 := fun b o n h => y b o n (x b o n h)
theorem Keep.of_same {a : Addr} {H H' : Hp} (h : Same H H') : Keep a H H' := fun b o _ e => h b o e
theorem Keep.at {a : Addr} {H : Hp} {o : HO} : Keep a H (upd H a o) := fun b _ n h => by
  rw [upd_ne n]
  exact h
theorem Keep.seq {K : PySem.W.Frag} {a b : Addr} {H H' : Hp} {xs : List V} (e : Keep a H H') (n : b ≠ a) (h : SqL K H b xs) : SqL K H' b xs := by
  rcases h with (h | ⟨o, h⟩) | h
  · exact .inl (.inl (e _ _ n h))
  · exact .inl (.inr ⟨o, e _ _ n h⟩)
  · exact .inr h
theorem same_new {H : Hp} {p : Addr} {o : HO} (h : H p = none) : Same H (upd H p o) := fun b x e => by
  rw [upd_ne (ne_of_none e h)]
  exact e
theorem same_tup {K : PySem.W.Frag} {H H' : Hp} {a : Addr} {xs : List V} (e : Same H H') (h : SqT K H a xs) : SqT K H' a xs := Evl.ex_t e h
theorem atI_of {α : Type} {xs : List α} {r : Int} {v : α} (h0 : 0 ≤ r) (h : xs[r.toNat]? = some v) : atI xs r = some v := by
  have e : ((r.toNat : Nat) : Int) = r := by omega
  rw [← e]
  exact atI_nat h
theorem walk_range0 {n : Nat} : Walk (Itr 0 n) n (fun _ => True) (YFn fun i => .int (i : Int)) :=
  walk_range.mono (fun _ h => h) fun i H x H' _ _ y => ⟨y.1, y.2.trans (by show V.int (0 + (i : Int)) = V.int (i : Int); rw [Int.zero_add])⟩
/-! ### the bag of the drawn numbers -/
def BagAt (H : Hp) (a l : Addr) : Prop := ∃ (ns : List Int) (p h s : Int), H a = some (.lst [.ref l, .int p, .int h, .int s]) ∧ H l = some (.lst (ns.map V.int)) ∧ 0 ≤ p ∧ 0 ≤ h ∧ 0 ≤ s ∧ s < 2147483563
theorem bag_ne {H : Hp} {a l : Addr} {ns : List Int} {x y z w : V} (h : H a = some (.lst [x, y, z, w])) (hx : ∀ i, x ≠ .int i) (h' : H l = some (.lst (ns.map V.int))) : l ≠ a := by
  intro e
  rw [e, h] at h'
  injection h' with h'
  injection h' with h'
  cases ns with
  | nil => cases h'
  | cons n r =>
    injection h' with h1 _
    exact hx n h1
theorem BagAt.same {H H' : Hp} {a l : Addr} (b : BagAt H a l) (e : Same H H') : BagAt H' a l := by
  obtain ⟨ns, p, h, s, h1, h2, r⟩ := b
  exact ⟨ns, p, h, s, e _ _ h1, e _ _ h2, r⟩
theorem BagAt.ne {H : Hp} {a l D : Addr} (b : BagAt H a l) (h : H D = none) : a ≠ D ∧ l ≠ D := by
  obtain ⟨ns, p, h', s, h1, h2, r⟩ := b
  exact ⟨ne_of_none h1 h, ne_of_none h2 h⟩
theorem BagAt.upd {H : Hp} {a l D : Addr} {o : HO} (b : BagAt H a l) (n : a ≠ D ∧ l ≠ D) : BagAt (upd H D o) a l := by
  obtain ⟨ns, p, h, s, h1, h2, r⟩ := b
  exact ⟨ns, p, h, s, by rw [upd_ne n.1]; exact h1, by rw [upd_ne n.2]; exact h2, r⟩
theorem Keep.mut {a D : Addr} {H H' : Hp} {o : HO} (k : Keep a H H') (h : H D = none) : Keep a H (L2.upd H' D o) := fun b u n e => by
  rw [upd_ne (ne_of_none e h)]
  exact k b u n e
theorem Keep.seqT {K : PySem.W.Frag} {a b : Addr} {H H' : Hp} {xs : List V} (e : Keep a H H') (n : b ≠ a) (h : SqT K H b xs) : SqT K H' b xs := by
  rcases h with (h | ⟨o, h⟩) | h
  · exact .inl (.inl (e _ _ n h))
  · exact .inl (.inr ⟨o, e _ _ n h⟩)
  · exact .inr h
/-- the bag's own list, written anew -/
theorem BagAt.set {H : Hp} {a l : Addr} {ns : List Int} {p h s p' h' s' : Int} (h1 : H a = some (.lst [.ref l, .int p, .int h, .int s])) (h2 : H l = some (.lst (ns.map V.int)))
    (r : 0 ≤ p' ∧ 0 ≤ h' ∧ 0 ≤ s' ∧ s' < 2147483563) : BagAt (L2.upd H a (.lst [.ref l, .int p', .int h', .int s'])) a l :=
  ⟨ns, p', h', s', upd_same, by rw [upd_ne (bag_ne h1 (fun _ => nofun) h2)]; exact h2, r⟩
def spPull : Sp := fun vs H Q _ => ∃ (a l : Addr) (m : Int), vs = [.ref a, .int m] ∧ BagAt H a l ∧ 0 < m ∧ m < 1073741824 ∧ ∀ r H', 0 ≤ r → r < m → BagAt H' a l → Keep a H H' → Q (.int r) H'
def spBag (K : PySem.W.Frag) : Sp := fun vs H Q _ => ∃ (c : Addr) (ns : List Int), vs = [.ref c] ∧ SqL K H c (ns.map V.int) ∧ ns.length ≤ 63 ∧ ∀ a l H', H a = none → BagAt H' a l → Same H H' → Q (.ref a) H'
/-- x is a list, a tuple or a text of these things, apart from the bag -/
def ItemsOf (K : PySem.W.Frag) (H : Hp) (a : Addr) (x : V) (xs : List V) : Prop := (∃ p, x = .ref p ∧ p ≠ a ∧ (SqL K H p xs ∨ SqT K H p xs)) ∨ ∃ z : Str, x = .str z ∧ xs = z.cps.toList.map fun c => .str ⟨#[c]⟩
def spOf (K : PySem.W.Frag) : Sp := fun vs H Q _ => ∃ (a l : Addr) (x : V) (xs : List V), vs = [.ref a, x] ∧ BagAt H a l ∧ ItemsOf K H a x xs ∧ 0 < xs.length ∧ xs.length ≤ 1000 ∧ ∀ v H', v ∈ xs → BagAt H' a l → Keep a H H' → Q v H'
section
variable {K : PySem.W.Frag} {σ : L2.St} {H : Hp} {Q : VK}
theorem rd_ix {i : Nat} {a : Addr} {xs : List V} {j : Nat} {v : V} (hs : σ[i]? = some (some (.ref a))) (h : SqL K H a xs) (hv : xs[j]? = some v) (q : Q v H) : tOp (rIxL K) (tVar i) (tC (.int (j : Int))) σ H Q :=
  ⟨.ref a, hs, a, xs, (j : Int), v, rfl, rfl, h, atI_nat hv, q⟩
end
end Ink
namespace Ink
open PySem PySem.Spec PyProof.Rows L2
def topS (i : Nat) : Stmt := PySem.Challenge.pw_whoseink_k52_deed_texts_refused.main.body.getD i (.Pass ⟨0, 0, 0, 0⟩)
abbrev sIsName : Stmt := topS 10
theorem sc_is_name : FnScope ["text", "letter"] ["text"] (defScope sIsName) := ⟨rfl, rfl, rfl, by decide +kernel, rfl, by decide +kernel, by decide +kernel⟩
abbrev sIsSign : Stmt := topS 11
theorem sc_is_sign : FnScope ["text"] ["text"] (defScope sIsSign) := ⟨rfl, rfl, rfl, by decide +kernel, rfl, by decide +kernel, by decide +kernel⟩
abbrev sIsWriter : Stmt := topS 12
theorem sc_is_writer : FnScope ["thing", "name", "arrows", "patience", "cap"] ["thing"] (defScope sIsWriter) := ⟨rfl, rfl, rfl, by decide +kernel, rfl, by decide +kernel, by decide +kernel⟩
abbrev sIsCount : Stmt := topS 13
theorem sc__is_count : FnScope ["number"] ["number"] (defScope sIsCount) := ⟨rfl, rfl, rfl, by decide +kernel, rfl, by decide +kernel, by decide +kernel⟩
abbrev sIsPlace : Stmt := topS 14
theorem sc__is_place : FnScope ["number"] ["number"] (defScope sIsPlace) := ⟨rfl, rfl, rfl, by decide +kernel, rfl, by decide +kernel, by decide +kernel⟩
abbrev sAreArrows : Stmt := topS 15
theorem sc__are_arrows : FnScope ["arrows", "heads", "place", "sign", "to", "_", "head", "following"] ["arrows"] (defScope sAreArrows) := ⟨rfl, rfl, rfl, by decide +kernel, rfl, by decide +kernel, by decide +kernel⟩
abbrev sReadWriter : Stmt := topS 16
theorem sc_read_writer : FnScope ["text", "parts", "words", "arrows", "writer", "word"] ["text"] (defScope sReadWriter) := ⟨rfl, rfl, rfl, by decide +kernel, rfl, by decide +kernel, by decide +kernel⟩
abbrev sIsFigure : Stmt := topS 17
theorem sc__is_figure : FnScope ["text"] ["text"] (defScope sIsFigure) := ⟨rfl, rfl, rfl, by decide +kernel, rfl, by decide +kernel, by decide +kernel⟩
abbrev sIsArrowText : Stmt := topS 18
theorem sc__is_arrow_text : FnScope ["word"] ["word"] (defScope sIsArrowText) := ⟨rfl, rfl, rfl, by decide +kernel, rfl, by decide +kernel, by decide +kernel⟩
abbrev sLBag : Stmt := topS 26
theorem sc__law_bag : FnScope ["_law_script", "_law_salt", "_law_cell"] ["_law_script"] (defScope sLBag) := ⟨rfl, rfl, rfl, by decide +kernel, rfl, by decide +kernel, by decide +kernel⟩
abbrev sLPull : Stmt := topS 27
theorem sc__law_pull : FnScope ["_law_bag_here", "_law_many", "_law_cell", "_law_got", "_law_seed"] ["_law_bag_here", "_law_many"] (defScope sLPull) := ⟨rfl, rfl, rfl, by decide +kernel, rfl, by decide +kernel, by decide +kernel⟩
abbrev sLOf : Stmt := topS 28
theorem sc__law_of : FnScope ["_law_bag_here", "_law_things"] ["_law_bag_here", "_law_things"] (defScope sLOf) := ⟨rfl, rfl, rfl, by decide +kernel, rfl, by decide +kernel, by decide +kernel⟩
abbrev sLLetters : Stmt := topS 29
theorem sc__law_letters : FnScope [] [] (defScope sLLetters) := ⟨rfl, rfl, rfl, by decide +kernel, rfl, by decide +kernel, by decide +kernel⟩
abbrev sLLike : Stmt := topS 30
theorem sc__law_like : FnScope ["_law_found", "_law_due", "_law_one", "_law_other"] ["_law_found", "_law_due"] (defScope sLLike) := ⟨rfl, rfl, rfl, by decide +kernel, rfl, by decide +kernel, by decide +kernel⟩
abbrev sLNames : Stmt := topS 34
theorem sc__law_names : FnScope ["_law_bag_here", "_law_many", "_law_size", "_law_letters_here", "_law_at", "_law_start", "_law_step", "_law_base", "_law_found", "_law_k", "_law_sign", "_law_name"] ["_law_bag_here", "_law_many"] (defScope sLNames) := ⟨rfl, rfl, rfl, by decide +kernel, rfl, by decide +kernel, by decide +kernel⟩
abbrev sLSigns : Stmt := topS 35
theorem sc__law_signs : FnScope ["_law_bag_here", "_law_limit", "_law_start", "_law_step", "_law_many", "_law_letters_here", "_law_k"] ["_law_bag_here", "_law_limit"] (defScope sLSigns) := ⟨rfl, rfl, rfl, by decide +kernel, rfl, by decide +kernel, by decide +kernel⟩
abbrev sLWriter : Stmt := topS 36
theorem sc__law_writer : FnScope ["_law_bag_here", "_law_name", "_law_places", "_law_signs_here", "_law_thick", "_law_lines", "_law_place", "_law_sign", "_law_counts"] ["_law_bag_here", "_law_name", "_law_places", "_law_signs_here", "_law_thick"] (defScope sLWriter) := ⟨rfl, rfl, rfl, by decide +kernel, rfl, by decide +kernel, by decide +kernel⟩
abbrev sLField : Stmt := topS 31
theorem sc__law_field : FnScope ["_law_e", "_law_plain"] ["_law_e"] (defScope sLField) := ⟨rfl, rfl, rfl, by decide +kernel, rfl, by decide +kernel, by decide +kernel⟩
abbrev sLTried : Stmt := topS 32
theorem sc__law_tried : FnScope ["_law_ask", "_law_told", "_law_word", "_law_field_here", "_law_e"] ["_law_ask"] (defScope sLTried) := ⟨rfl, rfl, rfl, by decide +kernel, rfl, by decide +kernel, by decide +kernel⟩
abbrev sLRefused : Stmt := topS 33
theorem sc__law_refused : FnScope ["_law_ask"] ["_law_ask"] (defScope sLRefused) := ⟨rfl, rfl, rfl, by decide +kernel, rfl, by decide +kernel, by decide +kernel⟩
abbrev sLIsName : Stmt := topS 37
theorem sc__law_is_name : FnScope ["_law_text", "_law_sign"] ["_law_text"] (defScope sLIsName) := ⟨rfl, rfl, rfl, by decide +kernel, rfl, by decide +kernel, by decide +kernel⟩
abbrev sLIsWriter : Stmt := topS 38
theorem sc__law_is_writer : FnScope ["_law_thing", "_law_place", "_law_sign", "_law_to", "_law_good", "_law_keys", "_law_rising", "_law_arrow", "_law_k"] ["_law_thing"] (defScope sLIsWriter) := ⟨rfl, rfl, rfl, by decide +kernel, rfl, by decide +kernel, by decide +kernel⟩
abbrev sLBentText : Stmt := topS 41
theorem sc__law_bent_text : FnScope ["_law_bag_here", "_law_text", "_law_signs_here", "_law_at", "_law_pick", "_law_sign"] ["_law_bag_here", "_law_text", "_law_signs_here"] (defScope sLBentText) := ⟨rfl, rfl, rfl, by decide +kernel, rfl, by decide +kernel, by decide +kernel⟩
abbrev sLArrowIn : Stmt := topS 42
theorem sc__law_arrow_in : FnScope ["_law_text", "_law_good"] ["_law_text"] (defScope sLArrowIn) := ⟨rfl, rfl, rfl, by decide +kernel, rfl, by decide +kernel, by decide +kernel⟩
abbrev sLWriterIn : Stmt := topS 43
theorem sc__law_writer_in : FnScope ["_law_text", "_law_parts", "_law_rows", "_law_writer_here", "_law_part", "_law_row"] ["_law_text"] (defScope sLWriterIn) := ⟨rfl, rfl, rfl, by decide +kernel, rfl, by decide +kernel, by decide +kernel⟩
abbrev sLWriterText : Stmt := topS 40
theorem sc__law_writer_text : FnScope ["_law_writer_here", "_law_rows", "_law_place", "_law_sign", "_law_to"] ["_law_writer_here"] (defScope sLWriterText) := ⟨rfl, rfl, rfl, by decide +kernel, rfl, by decide +kernel, by decide +kernel⟩
abbrev sLaw : Stmt := topS 48
theorem sc_law : FnScope ["_law_script", "_law_bag_here", "_law_turn", "_law_text", "_law_bend", "_law_due", "_law_found", "_law_odd"] ["_law_script"] (defScope sLaw) := ⟨rfl, rfl, rfl, by decide +kernel, rfl, by decide +kernel, by decide +kernel⟩
abbrev sReadDeed : Stmt := topS 22
theorem sc_read_deed : FnScope ["text", "word", "things", "kind", "thing"] ["text"] (defScope sReadDeed) := ⟨rfl, rfl, rfl, by decide +kernel, rfl, by decide +kernel, by decide +kernel⟩
abbrev sReadNumber : Stmt := topS 23
theorem sc_read_number : FnScope ["text", "figures", "figure"] ["text"] (defScope sReadNumber) := ⟨rfl, rfl, rfl, by decide +kernel, rfl, by decide +kernel, by decide +kernel⟩
abbrev sReadThing : Stmt := topS 24
theorem sc__read_thing : FnScope ["kind", "text"] ["kind", "text"] (defScope sReadThing) := ⟨rfl, rfl, rfl, by decide +kernel, rfl, by decide +kernel, by decide +kernel⟩
abbrev sLFar : Stmt := topS 39
theorem sc__law_far : FnScope ["_law_bag_here", "_law_near", "_law_wide", "_law_figure"] ["_law_bag_here"] (defScope sLFar) := ⟨rfl, rfl, rfl, by decide +kernel, rfl, by decide +kernel, by decide +kernel⟩
abbrev sLDeedText : Stmt := topS 44
theorem sc__law_deed_text : FnScope ["_law_deed", "_law_thing"] ["_law_deed"] (defScope sLDeedText) := ⟨rfl, rfl, rfl, by decide +kernel, rfl, by decide +kernel, by decide +kernel⟩
abbrev sLEveryDeed : Stmt := topS 47
theorem sc__law_every_deed : FnScope ["_law_bag_here", "_law_pool", "_law_letters_here", "_law_a", "_law_b", "_law_figure", "_law_writer_here", "_law_found"] ["_law_bag_here", "_law_pool", "_law_letters_here"] (defScope sLEveryDeed) := ⟨rfl, rfl, rfl, by decide +kernel, rfl, by decide +kernel, by decide +kernel⟩
abbrev sLNumberIn : Stmt := topS 45
theorem sc__law_number_in : FnScope ["_law_text", "_law_figures", "_law_one"] ["_law_text"] (defScope sLNumberIn) := ⟨rfl, rfl, rfl, by decide +kernel, rfl, by decide +kernel, by decide +kernel⟩
abbrev sLDeedIn : Stmt := topS 46
theorem sc__law_deed_in : FnScope ["_law_text", "_law_words", "_law_forms", "_law_kinds", "_law_found", "_law_kind", "_law_word", "_law_good"] ["_law_text"] (defScope sLDeedIn) := ⟨rfl, rfl, rfl, by decide +kernel, rfl, by decide +kernel, by decide +kernel⟩
structure Txt (mg : Str → Option Value) : Prop where
  m_len : mg "len" = none
  m_all : mg "all" = none
  m_list : mg "list" = none
  m_range : mg "range" = none
  m_zip : mg "zip" = none
  m_isinstance : mg "isinstance" = none
  m_tuple : mg "tuple" = none
  m_bool : mg "bool" = none
  m_int : mg "int" = none
  m_str : mg "str" = none
  m_max : mg "max" = none
  m_sorted : mg "sorted" = none
  e__MOST_FIGURES : ∃ t, mg "_MOST_FIGURES" = some (.int 30 t)
  e__MOST_LETTERS : ∃ t, mg "_MOST_LETTERS" = some (.int 6 t)
  e_MOST_ARROWS : ∃ t, mg "MOST_ARROWS" = some (.int 9 t)
  e_MOST_COUNT : ∃ t, mg "MOST_COUNT" = some (.int 3 t)
  e__LAST_PLACE : ∃ t, mg "_LAST_PLACE" = some (.int 2 t)
end Ink
namespace Ink
open PySem PySem.Spec PyProof.Rows L2
section
variable {P : Program} {w : World} {K : PySem.W.Frag} {mg : Str → Option Value} {base : Heap}
theorem emod_in (x : Int) : 0 ≤ x % 2147483563 ∧ x % 2147483563 < 2147483563 := ⟨Int.emod_nonneg _ (by decide), Int.emod_lt_of_pos _ (by decide)⟩
theorem pos1 : (0 : Int) < 2147483563 := by decide
theorem pos2 : (0 : Int) < 8191 := by decide
theorem ok_pull {f : Addr} {fd : FuncData} {k : Nat} (F : Fun K "_law_pull" "_law_pull" sLPull f fd) (T : Txt mg) : FnOk P w K mg base CX0 (k + 1) f fd ["_law_bag_here", "_law_many"] spPull := by
  refine F.ok sc__law_pull (fun vs H Q E h => ?_) (fun cdv A outer s H vs Q E hr h => ?_)
  · obtain ⟨a, l, m, rfl, _⟩ := h
    rfl
  · obtain ⟨a, l, m, rfl, hB, hm0, hm1, q⟩ := h
    refine ⟨_, (Evl.pss_cut (ps_if (PW.pt (pw_and (pt_cmpR op_eq (pe_ix ix_list (pv 0) pe_int (fun _ _ => rfl)) pe_int (nomark _)) (pw_and1 (pt_cmpR op_lt (pe_ix ix_list (pv 0) pe_int (fun _ _ => rfl)) (pe_callB call_len (by rfl) T.m_len PySem.boot_len (pa_cons (pe_ix ix_list (pv 0) pe_int (fun _ _ => rfl)) pa_nil)) (nomark _)))))
    (pss_cons (ps_set (i := 2) sc__law_pull.nd rfl (.inl rfl) (pe_ix ix_list (pe_ix ix_list (pv 0) pe_int (fun _ _ => rfl)) (pe_ix ix_list (pv 0) pe_int (fun _ _ => rfl)) (fun _ _ => rfl)))
    (pss_cons (ps_asg (pe_op op_add (pe_ix ix_list (pv 0) pe_int (fun _ _ => rfl)) pe_int) (pg_sub (pv 0) pe_int set_list))
    (pss_one (ps_if (pt_cmpR op_ge (pv 2) (pe_op op_pow pe_int pe_int) (nomark _))
    (pss_one (ps_asg (pe_op op_sub (pv 2) (pe_op op_pow pe_int pe_int)) (pg_sub (pv 0) pe_int set_list))) (pss_one (ps_asg (pe_op op_mod (pe_op op_add (pe_op op_add (pe_op op_mul (pe_ix ix_list (pv 0) pe_int (fun _ _ => rfl)) pe_int) (pe_op op_mul (pe_op op_mod (pv 2) pe_int) pe_int)) pe_int) pe_int) (pg_sub (pv 0) pe_int set_list))))))) pss_nil)
    (pss_cons (ps_if (pt_cmpR op_gt (pe_ix ix_list (pv 0) pe_int (fun _ _ => rfl)) pe_int (nomark _))
    (pss_cons (ps_set (i := 3) sc__law_pull.nd rfl (.inl rfl) (pe_op op_mod (pe_ix ix_list (pv 0) pe_int (fun _ _ => rfl)) (pv 1)))
    (pss_cons (ps_asg (pe_op op_fdiv (pe_ix ix_list (pv 0) pe_int (fun _ _ => rfl)) (pv 1)) (pg_sub (pv 0) pe_int set_list))
    (pss_one (ps_ret (pv 3))))) pss_nil)
    (pss_cons (ps_set (i := 4) sc__law_pull.nd rfl (.inl rfl) (pe_ix ix_list (pv 0) pe_int (fun _ _ => rfl)))
    (pss_cons (ps_asg (pe_op op_mod (pe_op op_add (pe_op op_add (pe_op op_mul (pe_op op_mul (pv 4) (pv 4)) pe_int) (pe_op op_mul (pv 4) pe_int)) pe_int) pe_int) (pg_sub (pv 0) pe_int set_list))
    (pss_one (ps_ret (pe_op op_mod (pe_op op_add (pe_op op_fdiv (pe_ix ix_list (pv 0) pe_int (fun _ _ => rfl)) pe_int) (pe_op op_mul (pe_op op_mod (pe_ix ix_list (pv 0) pe_int (fun _ _ => rfl)) pe_int) pe_int)) (pv 1)))))))), ?_⟩
    refine ⟨fun σ H1 => ∃ c, σ = [some (.ref a), some (.int m), c, none, none] ∧ BagAt H1 a l ∧ Keep a H H1, ?_, fun σ H1 hσ => ?_⟩
    · obtain ⟨ns, p, h, s, h1, h2, h3, h4, h5, h6⟩ := hB
      have L : SqL K H a _ := .of h1
      -- bag[2] == 0
      refine ⟨.ref a, rfl, a, _, 2, .int h, rfl, rfl, L, rfl, rfl, _, rfl, ?_⟩
      by_cases e0 : V.int h = V.int 0
      · rw [decide_eq_true e0]
        refine iteT ?_
        refine ⟨.ref a, rfl, a, _, 1, .int p, rfl, rfl, L, rfl, .ref a, rfl, a, _, 0, .ref l, rfl, rfl, L, rfl, .ref l, _, rfl, .inl ⟨_, .of h2, rfl⟩, _, _, rfl, rfl, _, rfl, ?_⟩
        refine ite2 (fun e1 => ?_) (fun e1 => ?_)
        · have e2 : p < ((ns.map V.int).length : Int) := of_decide_eq_true e1
          rw [List.length_map] at e2
          have hc : (ns.map V.int)[p.toNat]? = some (.int (ns[p.toNat]'(by omega))) := by
            rw [List.getElem?_map, List.getElem?_eq_getElem (by omega)]
            rfl
          have ep : ((p.toNat : Nat) : Int) = p := by omega
          generalize ns[p.toNat]'(by omega) = c at hc
          refine ⟨.ref a, rfl, a, _, 0, .ref l, rfl, rfl, L, rfl, .ref a, rfl, a, _, 1, .int p, rfl, rfl, L, rfl, l, _, p, .int c, rfl, rfl, .of h2, ?_, ?_⟩
          · rw [← ep]
            exact atI_nat hc
          · -- bag[1] = bag[1] + 1
            refine ⟨.ref a, rfl, a, _, 1, .int p, rfl, rfl, L, rfl, p, 1, rfl, rfl, .ref a, rfl, a, _, 1, 1, rfl, rfl, h1, rfl, ?_⟩
            -- cell >= 10 ** 18
            have n1 : (upd H a (.lst [.ref l, .int (p + 1), .int h, .int s])) a = some (.lst [.ref l, .int (p + 1), .int h, .int s]) := upd_same
            have n2 : (upd H a (.lst [.ref l, .int (p + 1), .int h, .int s])) l = some (.lst (ns.map V.int)) := by
              rw [upd_ne (bag_ne h1 (fun _ => nofun) h2)]
              exact h2
            refine ⟨.int c, rfl, 10, 18, rfl, rfl, ⟨by decide, by decide, by decide⟩, c, _, rfl, rfl, _, rfl, ?_⟩
            refine ite2 (fun e3 => ?_) (fun e3 => ?_)
            · refine ⟨.int c, rfl, 10, 18, rfl, rfl, ⟨by decide, by decide, by decide⟩, c, _, rfl, rfl, .ref a, rfl, a, _, 2, 2, rfl, rfl, n1, rfl, some (.int c), rfl, ?_, ?_⟩
              · have e4 : (10 : Int) ^ ((18 : Int).toNat) ≤ c := of_decide_eq_true e3
                exact BagAt.set (p' := p + 1) (h' := c - 10 ^ ((18 : Int).toNat)) (s' := s) n1 n2 ⟨by omega, by omega, h5, h6⟩
              · exact Keep.at.trans Keep.at
            · refine ⟨.ref a, rfl, a, _, 3, .int s, rfl, rfl, .of n1, rfl, s, 48271, rfl, rfl, .inl ⟨by omega, by omega⟩, .int c, rfl, c, 2147483563, rfl, rfl, pos1, _, 69621, rfl, rfl, .inr ⟨by decide, by decide⟩, _, _, rfl, rfl, _, 7, rfl, rfl, _, 2147483563, rfl, rfl, pos1, .ref a, rfl, a, _, 3, 3, rfl, rfl, n1, rfl, some (.int c), rfl, ?_, ?_⟩
              · exact BagAt.set (p' := p + 1) (h' := h) n1 n2 ⟨by omega, h4, (emod_in _).1, (emod_in _).2⟩
              · exact Keep.at.trans Keep.at
        · exact ⟨none, rfl, ⟨ns, p, h, s, h1, h2, h3, h4, h5, h6⟩, Keep.refl H⟩
      · rw [decide_eq_false e0]
        exact iteF (iteF ⟨none, rfl, ⟨ns, p, h, s, h1, h2, h3, h4, h5, h6⟩, Keep.refl H⟩)
    · obtain ⟨c, rfl, hB1, k1⟩ := hσ
      obtain ⟨ns, p, h, s, h1, h2, h3, h4, h5, h6⟩ := hB1
      have L : SqL K H1 a _ := .of h1
      refine ⟨.ref a, rfl, a, _, 2, .int h, rfl, rfl, L, rfl, _, _, rfl, rfl, _, rfl, ite2 (fun e1 => ?_) (fun e1 => ?_)⟩
      · have e2 : (0 : Int) < h := of_decide_eq_true e1
        refine ⟨.ref a, rfl, a, _, 2, .int h, rfl, rfl, L, rfl, .int m, rfl, h, m, rfl, rfl, hm0, ?_⟩
        refine ⟨.ref a, rfl, a, _, 2, .int h, rfl, rfl, L, rfl, .int m, rfl, h, m, rfl, rfl, ⟨hm0, hm1⟩, .ref a, rfl, a, _, 2, 2, rfl, rfl, h1, rfl, .int (h % m), rfl, ?_⟩
        exact q _ _ (Int.emod_nonneg _ (by omega)) (Int.emod_lt_of_pos _ hm0) (BagAt.set (p' := p) (h' := h / m) (s' := s) h1 h2 ⟨h3, Int.ediv_nonneg h4 (by omega), h5, h6⟩) (k1.trans Keep.at)
      · refine ⟨.ref a, rfl, a, _, 3, .int s, rfl, rfl, L, rfl, ?_⟩
        refine ⟨.int s, rfl, .int s, rfl, s, s, rfl, rfl, .inl ⟨by omega, by omega⟩, s * s, 3, rfl, rfl, .inr ⟨by decide, by decide⟩, .int s, rfl, s, 16807, rfl, rfl, .inl ⟨by omega, by omega⟩, _, _, rfl, rfl, _, 1013904223, rfl, rfl, _, 2147483563, rfl, rfl, pos1, .ref a, rfl, a, _, 3, 3, rfl, rfl, h1, rfl, ?_⟩
        have b := emod_in (s * s * 3 + s * 16807 + 1013904223)
        have hB2 : BagAt (upd H1 a (.lst [.ref l, .int p, .int h, .int ((s * s * 3 + s * 16807 + 1013904223) % 2147483563)])) a l := BagAt.set h1 h2 ⟨h3, h4, b.1, b.2⟩
        have n1 : (upd H1 a (.lst [.ref l, .int p, .int h, .int ((s * s * 3 + s * 16807 + 1013904223) % 2147483563)])) a = _ := upd_same
        refine ⟨.ref a, rfl, a, _, 3, .int ((s * s * 3 + s * 16807 + 1013904223) % 2147483563), rfl, rfl, .of n1, rfl, _, 61, rfl, rfl, ⟨by decide, by decide⟩, .ref a, rfl, a, _, 3, .int ((s * s * 3 + s * 16807 + 1013904223) % 2147483563), rfl, rfl, .of n1, rfl, _, 8191, rfl, rfl, pos2, _, 17, rfl, rfl, .inr ⟨by decide, by decide⟩, _, _, rfl, rfl, .int m, rfl, _, m, rfl, rfl, hm0, ?_⟩
        exact q _ _ (Int.emod_nonneg _ (by omega)) (Int.emod_lt_of_pos _ hm0) hB2 (k1.trans Keep.at)
theorem cut_ints (ns : List Int) (lo hi : Option Int) : ∃ ms : List Int, cutV (ns.map V.int) lo hi = ms.map V.int ∧ ms.length ≤ ns.length := by
  refine ⟨(ns.drop (HT.sIx (ns.map V.int).length 0 lo)).take (HT.sIx (ns.map V.int).length (ns.map V.int).length hi - HT.sIx (ns.map V.int).length 0 lo), ?_, ?_⟩
  · unfold cutV
    rw [List.map_take, List.map_drop]
  · rw [List.length_take, List.length_drop]
    omega
theorem ok_bag {f : Addr} {fd : FuncData} {k : Nat} (F : Fun K "_law_bag" "_law_bag" sLBag f fd) (T : Txt mg) : FnOk P w K mg base CX0 (k + 1) f fd ["_law_script"] (spBag K) := by
  refine F.ok sc__law_bag (fun vs H Q E h => ?_) (fun cdv A outer s H vs Q E hr h => ?_)
  · obtain ⟨c, ns, rfl, _⟩ := h
    rfl
  · obtain ⟨c, ns, rfl, hS, hlen, q⟩ := h
    refine ⟨_, (pss_cons (ps_set (i := 1) sc__law_bag.nd rfl (.inl rfl) pe_int)
    (pss_cons (ps_for PassesOwn.never rfl (pi_list (pe_slice sl_list (pv 0) po_none (po_some pe_int))) (pg_name (i := 2) sc__law_bag.nd rfl (.inl rfl))
    (pss_one (ps_set (i := 1) sc__law_bag.nd rfl (.inl rfl) (pe_op op_mod (pe_op op_add (pe_op op_add (pe_op op_mul (pv 1) pe_int) (pe_op op_mod (pv 2) pe_int)) pe_int) pe_int))))
    (pss_one (ps_ret (pe_lst (pa_cons (pe_callTy call_list_of (by rfl) T.m_list (by decide +kernel) (pa_cons (pe_slice sl_list (pv 0) po_none (po_some pe_int)) pa_nil)) (pa_cons pe_int (pa_cons pe_int (pa_cons (pv 1) pa_nil))))))))), ?_⟩
    obtain ⟨ms, ems, hms⟩ := cut_ints ns none (some 63)
    refine ⟨.ref c, rfl, 63, rfl, c, _, rfl, hS, fun p np => ?_⟩
    have s1 : Same H (upd H p (.lst (cutV (ns.map V.int) none (some 63)))) := same_new np
    rw [ems] at s1
    show ∃ a, V.ref p = .ref a ∧ (∃ xs, SqL K (upd H p (.lst (cutV (ns.map V.int) none (some 63)))) a xs) ∧ _
    rw [ems]
    have hp : SqL K (upd H p (.lst (ms.map V.int))) p (ms.map V.int) := .of upd_same
    refine ⟨p, rfl, ⟨_, hp⟩, for_it (walk_list (xs := ms.map V.int)) (fun i σ H' => ∃ (s : Int) (y : Option V), σ = [some (.ref c), some (.int s), y] ∧ 0 ≤ s ∧ s < 2147483563 ∧ H' = upd H p (.lst (ms.map V.int))) ⟨9450, none, rfl, by decide, by decide, rfl⟩ (fun i σ H' _ hP => ?_) (fun i x σ H' H2 hi hP hy => ?_) (fun σ H' hP => ?_)⟩
    · obtain ⟨s, y, _, _, _, rfl⟩ := hP
      exact hp
    · obtain ⟨s, y, rfl, hs0, hs1, rfl⟩ := hP
      obtain ⟨rfl, hx⟩ := hy
      have hi2 : i < ms.length := by
        rw [List.length_map] at hi
        exact hi
      rw [List.getElem?_map, List.getElem?_eq_getElem hi2] at hx
      have hx := Option.some.inj hx
      subst hx
      refine ⟨.int s, rfl, s, 40014, rfl, rfl, .inl ⟨by omega, by omega⟩, .int ms[i], rfl, ms[i], 2147483563, rfl, rfl, pos1, _, _, rfl, rfl, _, 13, rfl, rfl, _, 2147483563, rfl, rfl, pos1, ?_⟩
      exact ⟨_, _, rfl, (emod_in _).1, (emod_in _).2, rfl⟩
    · obtain ⟨s, y, rfl, hs0, hs1, rfl⟩ := hP
      refine ⟨.ref c, rfl, 63, rfl, c, _, rfl, s1.seq hS, fun p2 np2 => ?_⟩
      have s2 : Same (upd H p (.lst (ms.map V.int))) (upd (upd H p (.lst (ms.map V.int))) p2 (.lst (cutV (ns.map V.int) none (some 63)))) := same_new np2
      refine ⟨p2, _, rfl, .inl (.of upd_same), fun l nl => ?_⟩
      refine ⟨.int s, rfl, by show 4 ≤ sizeLine; decide, fun a na => ?_⟩
      have s3 := same_new (o := .lst (cutV (ns.map V.int) none (some 63))) nl
      have s4 := same_new (o := .lst [V.ref l, .int 0, .int 0, .int s]) na
      refine q a l _ ((s1.trans (s2.trans s3)).free na) ⟨ms, 0, 0, s, upd_same, ?_, by decide, by decide, hs0, hs1⟩ ((s1.trans (s2.trans s3)).trans s4)
      rw [s4 l _ upd_same, ems]
theorem ok_of {f : Addr} {fd : FuncData} {k : Nat} (F : Fun K "_law_of" "_law_of" sLOf f fd) (T : Txt mg) (C__law_pull : Cal P w K mg base k "_law_pull" ["_law_bag_here", "_law_many"] spPull) : FnOk P w K mg base CX0 (k + 1) f fd ["_law_bag_here", "_law_things"] (spOf K) := by
  refine F.ok sc__law_of (fun vs H Q E h => ?_) (fun cdv A outer s H vs Q E hr h => ?_)
  · obtain ⟨a, l, x, xs, rfl, _⟩ := h
    rfl
  · obtain ⟨a, l, x, xs, rfl, hB, hI, h0, h1, q⟩ := h
    refine ⟨_, (pss_one (ps_ret (pe_ix ix_seq (pv 1) (pe_callC C__law_pull hr (by rfl) (pa_cons (pv 0) (pa_cons (pe_callB call_len (by rfl) T.m_len PySem.boot_len (pa_cons (pv 1) pa_nil)) pa_nil))) (fun _ _ => rfl)))), ?_⟩
    have hL : LenV K x H xs.length := by
      rcases hI with ⟨p, rfl, n, h | h⟩ | ⟨z, rfl, rfl⟩
      · exact .inl ⟨_, h, rfl⟩
      · exact .inr ⟨_, h, rfl⟩
      · rw [List.length_map] at h1 ⊢
        exact ⟨Nat.le_trans h1 (by decide), rfl⟩
    refine ⟨x, rfl, .ref a, rfl, x, rfl, x, _, rfl, hL, a, l, _, rfl, hB, by omega, by omega, fun r H' r0 r1 hB' k' => ?_⟩
    have hr2 : r.toNat < xs.length := by omega
    have er : ((r.toNat : Nat) : Int) = r := by omega
    have hx : xs[r.toNat]? = some (xs[r.toNat]) := List.getElem?_eq_getElem hr2
    have hq := q _ H' (List.mem_of_getElem? hx) hB' k'
    rcases hI with ⟨p, rfl, n, h | h⟩ | ⟨z, rfl, rfl⟩
    · exact .inl ⟨p, xs, r, _, rfl, rfl, k'.seq n h, atI_of r0 hx, hq⟩
    · exact .inr (.inl ⟨p, xs, r, _, rfl, rfl, k'.seqT n h, atI_of r0 hx, hq⟩)
    · rw [List.length_map] at h1 hr2
      have hc : z.cps.toList[r.toNat]? = some (z.cps.toList[r.toNat]) := List.getElem?_eq_getElem hr2
      rw [List.getElem?_map, hc] at hx
      have hx := Option.some.inj hx
      rw [← hx] at hq
      exact .inr (.inr ⟨z, r, _, rfl, rfl, Nat.le_trans h1 (by decide), atI_of r0 hc, hq⟩)
end
end Ink
namespace Ink
open PySem PySem.Spec PyProof.Rows L2
/-- None, a bool, a whole number, a text -/
def flatD : V → Bool
  | .non => true
  | .bl _ => true
  | .int _ => true
  | .str _ => true
  | _ => false
/-- v and w hold the same, at most n deep -/
def Lk (K : PySem.W.Frag) (H : Hp) : Nat → V → V → Prop
  | 0, _, _ => False
  | n + 1, v, w => (v = w ∧ flatD w = true) ∨ ∃ (p q : Addr) (xs ys : List V), v = .ref p ∧ w = .ref q ∧ ((SqL K H p xs ∧ SqL K H q ys) ∨ (SqT K H p xs ∧ SqT K H q ys)) ∧ xs.length = ys.length ∧ xs.length ≤ 100000 ∧
      ∀ (i : Nat) (x y : V), xs[i]? = some x → ys[i]? = some y → Lk K H n x y
theorem Lk.same {K : PySem.W.Frag} {H H' : Hp} (e : Same H H') : ∀ {n : Nat} {v w : V}, Lk K H n v w → Lk K H' n v w
  | 0, _, _, h => h.elim
  | n + 1, v, w, h => by
    rcases h with h | ⟨p, q, xs, ys, h1, h2, h3, h4, h5, h6⟩
    · exact .inl h
    · refine .inr ⟨p, q, xs, ys, h1, h2, ?_, h4, h5, fun i x y a b => Lk.same e (h6 i x y a b)⟩
      rcases h3 with ⟨a, b⟩ | ⟨a, b⟩
      · exact .inl ⟨e.seq a, e.seq b⟩
      · exact .inr ⟨same_tup e a, same_tup e b⟩
def spLike (K : PySem.W.Frag) (n : Nat) : Sp := fun vs H Q _ => ∃ v w, vs = [v, w] ∧ Lk K H n v w ∧ ∀ H', Same H H' → Q (.bl true) H'
theorem tyx_l {K : PySem.W.Frag} {H : Hp} {a : Addr} {xs : List V} (h : SqL K H a xs) : TyX K H (.ref a) (.type "list") := by
  rcases h with (h | ⟨o, h⟩) | ⟨o, its, n, h1, h2, _⟩
  · exact .base (.lst h)
  · exact .base (.frz h)
  · exact .kList h1 h2
theorem tyx_t {K : PySem.W.Frag} {H : Hp} {a : Addr} {xs : List V} (h : SqT K H a xs) : TyX K H (.ref a) (.type "tuple") := by
  rcases h with (h | ⟨o, h⟩) | ⟨o, its, n, h1, h2, _⟩
  · exact .base (.tup h)
  · exact .fTuple h
  · exact .kTuple h1 h2
def tyD : V → String
  | .non => "NoneType"
  | .bl _ => "bool"
  | .int _ => "int"
  | _ => "str"
theorem tyx_f {K : PySem.W.Frag} {H : Hp} : ∀ {v : V}, flatD v = true → TyX K H v (.type (tyD v))
  | .non, _ => .base .non
  | .bl b, _ => .base (.bl b)
  | .int i, _ => .base (.int i)
  | .str z, _ => .base (.str z)
theorem kit_f {K : PySem.W.Frag} {T : String} : ∀ {v : V}, flatD v = true → kitB (tyD v) T = kitB (tyD v) T := fun _ => rfl
theorem kt {K : PySem.W.Frag} {a b : String} {r : Bool} (h : kitB a b = some r) : PySem.W.kitOne K (.type a) (.type b) = some r := kit_ty h
theorem kit2 {K : PySem.W.Frag} {t a b : String} {x y r : Bool} (h1 : kitB t a = some x) (h2 : kitB t b = some y) (hr : r = (x || y)) : PySem.W.kitAny K (.type t) [.type a, .type b] = some r := by
  subst hr
  refine kitAny_cons (kt h1) (fun e => ?_) (fun e => by rw [e]; rfl)
  subst e
  exact kitAny_cons (kt h2) (fun e => by rw [e]; exact kitAny_nil) (fun e => by rw [e]; rfl)
theorem kit_lt {K : PySem.W.Frag} : ∀ {v : V}, flatD v = true → PySem.W.kitAny K (.type (tyD v)) [.type "list", .type "tuple"] = some false
  | .non, _ => kit2 (t := "NoneType") (x := false) (y := false) (by decide +kernel) (by decide +kernel) rfl
  | .bl b, _ => kit2 (t := "bool") (x := false) (y := false) (by decide +kernel) (by decide +kernel) rfl
  | .int i, _ => kit2 (t := "int") (x := false) (y := false) (by decide +kernel) (by decide +kernel) rfl
  | .str z, _ => kit2 (t := "str") (x := false) (y := false) (by decide +kernel) (by decide +kernel) rfl
theorem same_mut {H H' : Hp} {p : Addr} {o : HO} (e : Same H H') (h : H p = none) : Same H (upd H' p o) := Evl.Ex.mut e h
theorem small_lt {n : Nat} (h : n < 1000000) : n < sizeLine := Nat.lt_of_lt_of_le h (by decide)
theorem small_le {n : Nat} (h : n ≤ 1000000) : n ≤ sizeLine := Nat.le_trans h (by decide)
theorem yes_of {σ : L2.St} {H : Hp} {Q : Bool → Hp → Prop} (h : Q true H) : tYes σ H Q := h
theorem pair_lt : Paired ClsV [V.ty "list", V.ty "tuple"] [Value.type "list", Value.type "tuple"] := .cons (.ty _) (.cons (.ty _) .nil)
theorem walk_zipT {K : PySem.W.Frag} {a b : Addr} {xs ys : List V} {n : Nat} (hn : n = min xs.length ys.length) : Walk (RZ.ItzT K a b) n (fun H => SqT K H a xs ∧ SqT K H b ys) (YPair (fun i => xs[i]?) (fun i => ys[i]?)) := by
  subst hn
  refine ⟨fun i _ hi q => ?_, fun _ q => ⟨xs, ys, q.1, q.2, by omega⟩, fun i H v H' _ q y => ?_⟩
  · have h1 : i < xs.length := by omega
    have h2 : i < ys.length := by omega
    exact ⟨xs, ys, xs[i], ys[i], q.1, q.2, by simp [h1], by simp [h2]⟩
  · obtain ⟨T, x, z, h1, h2, h3, h4, h5⟩ := y
    exact ⟨T, x, z, h1, h2, h3, h4 xs q.1, h5 ys q.2⟩
theorem rep_all (n : Nat) : (List.replicate n true).all id = true := by
  induction n with
  | zero => rfl
  | succ n ih =>
    rw [List.replicate_succ, List.all_cons, ih]
    rfl
theorem rep_snoc {α : Type} (n : Nat) (x : α) : List.replicate n x ++ [x] = List.replicate (n + 1) x := by
  induction n with
  | zero => rfl
  | succ n ih =>
    rw [List.replicate_succ, List.cons_append, ih]
    rfl
section
variable {P : Program} {w : World} {K : PySem.W.Frag} {mg : Str → Option Value} {base : Heap}
theorem ok_like_step {f : Addr} {fd : FuncData} {k n : Nat} (F : Fun K "_law_like" "_law_like" sLLike f fd) (T : Txt mg)
    (C__law_like : Cal P w K mg base k "_law_like" ["_law_found", "_law_due"] (spLike K n)) :
    FnOk P w K mg base CX0 (k + 1) f fd ["_law_found", "_law_due"] (spLike K (n + 1)) := by
  refine F.ok sc__law_like (fun vs H Q E h => ?_) (fun cdv A outer s H vs Q E hr h => ?_)
  · obtain ⟨a, m, rfl, _⟩ := h
    rfl
  · obtain ⟨v, w', rfl, hL, q⟩ := h
    refine ⟨_, (pss_cons (ps_if (pt_val (pe_callB call_isiT (by rfl) T.m_isinstance (by decide +kernel) (pa_cons (pv 1) (pa_cons (pe_tup (pa_cons (pe_bltn (v := .ty "list") (by rfl) T.m_list (by decide +kernel) rfl) (pa_cons (pe_bltn (v := .ty "tuple") (by rfl) T.m_tuple (by decide +kernel) rfl) pa_nil))) pa_nil))))
    (pss_cons (ps_if (PW.pt (pw_or (pt_cmpR op_ne (pe_callB call_isi (by rfl) T.m_isinstance (by decide +kernel) (pa_cons (pv 0) (pa_cons (pe_bltn (v := .ty "list") (by rfl) T.m_list (by decide +kernel) rfl) pa_nil))) (pe_callB call_isi (by rfl) T.m_isinstance (by decide +kernel) (pa_cons (pv 1) (pa_cons (pe_bltn (v := .ty "list") (by rfl) T.m_list (by decide +kernel) rfl) pa_nil))) (nomark _)) (pw_or1 (pt_cmpR op_ne (pe_callB call_isi (by rfl) T.m_isinstance (by decide +kernel) (pa_cons (pv 0) (pa_cons (pe_bltn (v := .ty "tuple") (by rfl) T.m_tuple (by decide +kernel) rfl) pa_nil))) (pe_callB call_isi (by rfl) T.m_isinstance (by decide +kernel) (pa_cons (pv 1) (pa_cons (pe_bltn (v := .ty "tuple") (by rfl) T.m_tuple (by decide +kernel) rfl) pa_nil))) (nomark _)))))
    (pss_one (ps_ret pe_bl)) pss_nil)
    (pss_one (ps_ret (pe_and (pe_cmpR op_eq (pe_callB call_len (by rfl) T.m_len PySem.boot_len (pa_cons (pv 0) pa_nil)) (pe_callB call_len (by rfl) T.m_len PySem.boot_len (pa_cons (pv 1) pa_nil)) (nomark _)) (pe_one (pe_callB (cr_all rfl) (by rfl) T.m_all (by decide +kernel) (pa_cons (pe_lc (own := [("_law_one", 2), ("_law_other", 3)]) (g := (gTup K 2 (gCons (gName 2) (gCons (gName 3) gNil)))) (by rfl) sc__law_like.nd (RZ.pi_zipA (by rfl) T.m_zip (pa_cons (pv 0) (pa_cons (pv 1) pa_nil))) (blkOk_by (own := [("_law_one", 2), ("_law_other", 3)]) (N := ["_law_found", "_law_due", "_law_one", "_law_other"]) (sc := defScope sLLike) (by decide +kernel)) (fun _ _ _ _ _ => (pg_tup rfl (pgs_cons (pg_name (i := 2) sc__law_like.nd rfl (.inl rfl)) (pgs_cons (pg_name (i := 3) sc__law_like.nd rfl (.inl rfl)) pgs_nil)))) (fun _ _ _ _ _ => pts_nil) (fun _ _ _ _ _ => (pe_callC C__law_like hr (by rfl) (pa_cons (pv 2) (pa_cons (pv 3) pa_nil))))) pa_nil))))))) pss_nil)
    (pss_cons (ps_if (PW.pt (pw_or (pt_cmpR op_isN (pv 0) pe_non (nomark _)) (pw_or1 (pt_cmpR op_isN (pv 1) pe_non (nomark _)))))
    (pss_one (ps_ret (pe_and (pe_cmpR op_isN (pv 0) pe_non (nomark _)) (pe_one (pe_cmpR op_isN (pv 1) pe_non (nomark _)))))) pss_nil)
    (pss_cons (ps_if (PW.pt (pw_or (pt_cmpR op_ne (pe_callB call_isi (by rfl) T.m_isinstance (by decide +kernel) (pa_cons (pv 0) (pa_cons (pe_bltn (v := .ty "bool") (by rfl) T.m_bool (by decide +kernel) rfl) pa_nil))) (pe_callB call_isi (by rfl) T.m_isinstance (by decide +kernel) (pa_cons (pv 1) (pa_cons (pe_bltn (v := .ty "bool") (by rfl) T.m_bool (by decide +kernel) rfl) pa_nil))) (nomark _)) (pw_or1 (pt_cmpR op_ne (pe_callB call_isi (by rfl) T.m_isinstance (by decide +kernel) (pa_cons (pv 0) (pa_cons (pe_bltn (v := .ty "int") (by rfl) T.m_int (by decide +kernel) rfl) pa_nil))) (pe_callB call_isi (by rfl) T.m_isinstance (by decide +kernel) (pa_cons (pv 1) (pa_cons (pe_bltn (v := .ty "int") (by rfl) T.m_int (by decide +kernel) rfl) pa_nil))) (nomark _)))))
    (pss_one (ps_ret pe_bl)) pss_nil)
    (pss_one (ps_ret (pe_and (pe_cmpR op_eq (pe_callB call_isi (by rfl) T.m_isinstance (by decide +kernel) (pa_cons (pv 0) (pa_cons (pe_bltn (v := .ty "str") (by rfl) T.m_str (by decide +kernel) rfl) pa_nil))) (pe_callB call_isi (by rfl) T.m_isinstance (by decide +kernel) (pa_cons (pv 1) (pa_cons (pe_bltn (v := .ty "str") (by rfl) T.m_str (by decide +kernel) rfl) pa_nil))) (nomark _)) (pe_one (pe_cmpR op_eq (pv 0) (pv 1) (nomark _))))))))), ?_⟩
    rcases hL with ⟨rfl, hf⟩ | ⟨p, q', xs, ys, rfl, rfl, hS, hlen, hmax, hit⟩
    · -- a flat thing
      have ty : ∀ H', TyX K H' v (.type (tyD v)) := fun _ => tyx_f hf
      refine ⟨v, rfl, by show 2 ≤ sizeLine; decide, fun tp htp => ⟨v, tp, _, .type (tyD v), _, false, rfl, upd_same, pair_lt, ty _, ?_, false, rfl, iteF ?_⟩⟩
      · exact kit_lt hf
      have sm : Same H (upd H tp (.tup [V.ty "list", V.ty "tuple"])) := same_new htp
      generalize upd H tp (.tup [V.ty "list", V.ty "tuple"]) = H1 at sm
      by_cases hn : v = .non
      · subst hn
        refine ⟨.non, rfl, rfl, true, rfl, iteT (iteT ?_)⟩
        exact ⟨.non, rfl, rfl, true, rfl, iteT ⟨.non, rfl, rfl, q _ sm⟩⟩
      · have dn : decide (v = .non) = false := decide_eq_false hn
        refine ⟨v, rfl, rfl, _, rfl, ?_⟩
        rw [dn]
        refine iteF ⟨v, rfl, rfl, _, rfl, ?_⟩
        rw [dn]
        refine iteF ?_
        obtain ⟨rb, ri, rs, eb, ei, es, sc⟩ : ∃ rb ri rs, kitB (tyD v) "bool" = some rb ∧ kitB (tyD v) "int" = some ri ∧ kitB (tyD v) "str" = some rs ∧ scal v v = true := by
          cases v with
          | non => exact absurd rfl hn
          | bl b => exact ⟨_, _, _, (by decide +kernel : kitB "bool" "bool" = some true), (by decide +kernel : kitB "bool" "int" = some true), (by decide +kernel : kitB "bool" "str" = some false), rfl⟩
          | int b => exact ⟨_, _, _, (by decide +kernel : kitB "int" "bool" = some false), (by decide +kernel : kitB "int" "int" = some true), (by decide +kernel : kitB "int" "str" = some false), rfl⟩
          | str b => exact ⟨_, _, _, (by decide +kernel : kitB "str" "bool" = some false), (by decide +kernel : kitB "str" "int" = some false), (by decide +kernel : kitB "str" "str" = some true), rfl⟩
          | byt b => cases hf
          | flt b => cases hf
          | ref b => cases hf
          | ty b => cases hf
        refine ⟨v, rfl, v, .ty "bool", .type (tyD v), .type "bool", rb, rfl, .ty _, ty _, kt eb, v, rfl, v, .ty "bool", .type (tyD v), .type "bool", rb, rfl, .ty _, ty _, kt eb, rfl, _, rfl, iteNS rfl ?_⟩
        refine ⟨v, rfl, v, .ty "int", .type (tyD v), .type "int", ri, rfl, .ty _, ty _, kt ei, v, rfl, v, .ty "int", .type (tyD v), .type "int", ri, rfl, .ty _, ty _, kt ei, rfl, _, rfl, iteNS rfl ?_⟩
        refine ⟨v, rfl, v, .ty "str", .type (tyD v), .type "str", rs, rfl, .ty _, ty _, kt es, v, rfl, v, .ty "str", .type (tyD v), .type "str", rs, rfl, .ty _, ty _, kt es, rfl, _, rfl, ?_⟩
        rw [decide_eq_true rfl]
        refine iteT ⟨v, rfl, v, rfl, sc, ?_⟩
        rw [decide_eq_true rfl]
        exact q _ sm
    · obtain ⟨Tn, rl, rt, el, et, eo, tp, tq⟩ : ∃ (Tn : String) (rl rt : Bool), kitB Tn "list" = some rl ∧ kitB Tn "tuple" = some rt ∧ (rl || rt) = true ∧ (∀ H', Same H H' → TyX K H' (.ref p) (.type Tn)) ∧ (∀ H', Same H H' → TyX K H' (.ref q') (.type Tn)) := by
        rcases hS with ⟨hp, hq⟩ | ⟨hp, hq⟩
        · exact ⟨"list", true, false, by decide +kernel, by decide +kernel, rfl, fun H' s' => tyx_l (s'.seq hp), fun H' s' => tyx_l (s'.seq hq)⟩
        · exact ⟨"tuple", false, true, by decide +kernel, by decide +kernel, rfl, fun H' s' => tyx_t (same_tup s' hp), fun H' s' => tyx_t (same_tup s' hq)⟩
      refine ⟨.ref q', rfl, by show 2 ≤ sizeLine; decide, fun t htp => ⟨.ref q', t, _, .type Tn, _, true, rfl, upd_same, pair_lt, tq _ (same_new htp), kit2 el et eo.symm, true, rfl, iteT ?_⟩⟩
      have sm : Same H (upd H t (.tup [V.ty "list", V.ty "tuple"])) := same_new htp
      generalize upd H t (.tup [V.ty "list", V.ty "tuple"]) = H1 at sm
      refine ⟨.ref p, rfl, .ref p, .ty "list", .type Tn, .type "list", rl, rfl, .ty _, tp _ sm, kt el, .ref q', rfl, .ref q', .ty "list", .type Tn, .type "list", rl, rfl, .ty _, tq _ sm, kt el, rfl, _, rfl, iteNS rfl ?_⟩
      refine ⟨.ref p, rfl, .ref p, .ty "tuple", .type Tn, .type "tuple", rt, rfl, .ty _, tp _ sm, kt et, .ref q', rfl, .ref q', .ty "tuple", .type Tn, .type "tuple", rt, rfl, .ty _, tq _ sm, kt et, rfl, _, rfl, iteNS rfl ?_⟩
      have lp : LenV K (.ref p) H1 xs.length := by
        rcases hS with ⟨a, b⟩ | ⟨a, b⟩
        · exact .inl ⟨_, sm.seq a, rfl⟩
        · exact .inr ⟨_, same_tup sm a, rfl⟩
      have lq : LenV K (.ref q') H1 ys.length := by
        rcases hS with ⟨a, b⟩ | ⟨a, b⟩
        · exact .inl ⟨_, sm.seq b, rfl⟩
        · exact .inr ⟨_, same_tup sm b, rfl⟩
      refine ⟨.ref p, rfl, .ref p, _, rfl, lp, .ref q', rfl, .ref q', _, rfl, lq, rfl, _, rfl, ?_⟩
      rw [hlen, decide_eq_true rfl]
      refine iteT ⟨.ref p, rfl, .ref q', rfl, p, q', xs, ys, rfl, ?_⟩
      have fin : ∀ (D : Addr) (H' : Hp), H1 D = none → Same H1 H' → H' D = some (.lst (List.replicate xs.length (.bl true))) → rAll K [.ref D] H' Q := fun D H' nD sD eD =>
        ⟨D, List.replicate xs.length true, rfl, .of (by rw [List.map_replicate]; exact eD), by rw [rep_all]; exact q _ (sm.trans sD)⟩
      rcases hS with ⟨hp, hq⟩ | ⟨hp, hq⟩
      · refine .inl ⟨sm.seq hp, sm.seq hq, fun D nD => ?_⟩
        refine lc_it (walk_zip (n := xs.length) (by rw [← hlen, Nat.min_self])) (fun i H' => Same H1 H' ∧ H' D = some (.lst (List.replicate i (.bl true)))) ⟨same_new nD, upd_same⟩ (fun i H' _ hP => ⟨hP.1.seq (sm.seq hp), hP.1.seq (sm.seq hq)⟩) (fun i v H2 H3 hi hP hy => ?_) (fun H' hP => fin D H' nD hP.1 hP.2)
        obtain ⟨s2, e2⟩ := hP
        obtain ⟨T', x, y, rfl, nT, rfl, hx, hy⟩ := hy
        refine ⟨T', [x, y], rfl, .of upd_same, rfl, x, [y], rfl, y, [], rfl, rfl, rfl, yes_of (iteT ?_)⟩
        refine ⟨x, rfl, y, rfl, x, y, rfl, (hit i x y hx hy).same ((sm.trans s2).trans (same_new nT)), fun H5 s5 => ⟨List.replicate i (.bl true), s5 _ _ (same_new nT _ _ e2), small_lt (by rw [List.length_replicate]; omega), ?_, ?_⟩⟩
        · exact same_mut ((s2.trans (same_new nT)).trans s5) nD
        · rw [upd_same, rep_snoc]
      · refine .inr ⟨same_tup sm hp, same_tup sm hq, fun D nD => ?_⟩
        refine lc_it (walk_zipT (n := xs.length) (by rw [← hlen, Nat.min_self])) (fun i H' => Same H1 H' ∧ H' D = some (.lst (List.replicate i (.bl true)))) ⟨same_new nD, upd_same⟩ (fun i H' _ hP => ⟨same_tup hP.1 (same_tup sm hp), same_tup hP.1 (same_tup sm hq)⟩) (fun i v H2 H3 hi hP hy => ?_) (fun H' hP => fin D H' nD hP.1 hP.2)
        obtain ⟨s2, e2⟩ := hP
        obtain ⟨T', x, y, rfl, nT, rfl, hx, hy⟩ := hy
        refine ⟨T', [x, y], rfl, .of upd_same, rfl, x, [y], rfl, y, [], rfl, rfl, rfl, yes_of (iteT ?_)⟩
        refine ⟨x, rfl, y, rfl, x, y, rfl, (hit i x y hx hy).same ((sm.trans s2).trans (same_new nT)), fun H5 s5 => ⟨List.replicate i (.bl true), s5 _ _ (same_new nT _ _ e2), small_lt (by rw [List.length_replicate]; omega), ?_, ?_⟩⟩
        · exact same_mut ((s2.trans (same_new nT)).trans s5) nD
        · rw [upd_same, rep_snoc]
theorem cal_never {f : Addr} {fd : FuncData} {x : Str} {st : Stmt} {ps : List Str} (F : Fun K x x st f fd) (g : mg x = some (.ref f)) (b : Binds K fd ps []) : Cal P w K mg base 0 x ps (fun _ _ _ _ => False) :=
  ⟨f, fd, ⟨fun _ _ _ _ h => h.elim, fun _ _ _ _ _ _ _ _ _ _ _ _ _ h => h.elim⟩, g, F.kp, b⟩
theorem cal_like {f : Addr} {fd : FuncData} (F : Fun K "_law_like" "_law_like" sLLike f fd) (T : Txt mg) (g : mg "_law_like" = some (.ref f)) (b : Binds K fd ["_law_found", "_law_due"] []) :
    ∀ n, Cal P w K mg base n "_law_like" ["_law_found", "_law_due"] (spLike K n)
  | 0 => ⟨f, fd, ⟨fun _ _ _ _ h => by obtain ⟨_, _, _, h, _⟩ := h; exact h.elim, fun _ _ _ _ _ _ _ _ _ _ _ _ _ h => by obtain ⟨_, _, _, h, _⟩ := h; exact h.elim⟩, g, F.kp, b⟩
  | n + 1 => ⟨f, fd, ok_like_step F T (cal_like F T g b n), g, F.kp, b⟩
end
end Ink
namespace Ink
open PySem PySem.Spec PyProof.Rows L2
/-! ### what the defs reckon -/
def isSign (z : Str) : Bool := decide (V.int (z.length : Nat) = V.int 1) && (!decide (z.cps.toList < [97]) && !decide (([122] : List Nat) < z.cps.toList))
def lets : List Nat := [97, 98, 99, 100, 101, 102, 103, 104, 105, 106, 107, 108, 109, 110, 111, 112, 113, 114, 115, 116, 117, 118, 119, 120, 121, 122]
def lawName (z : Str) : Bool := decide ((0 : Int) < (z.length : Nat)) && decide (((z.length : Nat) : Int) < 7) && (z.cps.toList.map fun c => decide (c ∈ lets)).all id
def isName (z : Str) : Bool := decide ((1 : Int) ≤ (z.length : Nat)) && decide (((z.length : Nat) : Int) ≤ 6) && (z.cps.toList.map fun c => isSign ⟨#[c]⟩).all id
theorem lets_iff (c : Nat) : c ∈ lets ↔ 97 ≤ c ∧ c ≤ 122 := by
  unfold lets
  simp only [List.mem_cons, List.not_mem_nil, or_false]
  omega
theorem lt_one (a b : Nat) : (([a] : List Nat) < [b]) ↔ a < b := by
  constructor
  · intro h
    cases h with
    | rel h => exact h
    | cons h => cases h
  · intro h
    exact .rel h
theorem sign_one (c : Nat) : isSign ⟨#[c]⟩ = decide (c ∈ lets) := by
  unfold isSign
  rw [show decide (V.int (((⟨#[c]⟩ : Str).length : Nat) : Int) = V.int 1) = true from decide_eq_true rfl, Bool.true_and]
  show (!decide (([c] : List Nat) < [97]) && !decide (([122] : List Nat) < [c])) = _
  rw [decide_eq_decide.mpr (lt_one c 97), decide_eq_decide.mpr (lt_one 122 c), decide_eq_decide.mpr (lets_iff c)]
  by_cases h1 : c < 97
  · rw [decide_eq_true h1, decide_eq_false (by omega : ¬ (97 ≤ c ∧ c ≤ 122))]
    rfl
  · rw [decide_eq_false h1]
    by_cases h2 : 122 < c
    · rw [decide_eq_true h2, decide_eq_false (by omega : ¬ (97 ≤ c ∧ c ≤ 122))]
      rfl
    · rw [decide_eq_false h2, decide_eq_true (by omega : (97 ≤ c ∧ c ≤ 122))]
      rfl
theorem name_eq (z : Str) : isName z = lawName z := by
  unfold isName lawName
  rw [show (fun c => isSign ⟨#[c]⟩) = fun c => decide (c ∈ lets) from funext sign_one]
  rw [decide_eq_decide.mpr (show ((1 : Int) ≤ (z.length : Nat)) ↔ ((0 : Int) < (z.length : Nat)) by omega), decide_eq_decide.mpr (show (((z.length : Nat) : Int) ≤ 6) ↔ (((z.length : Nat) : Int) < 7) by omega)]
theorem sign_eq (z : Str) : isSign z = (lawName z && decide (V.int (z.length : Nat) = V.int 1)) := by
  by_cases h : z.length = 1
  · obtain ⟨c, rfl⟩ : ∃ c, z = ⟨#[c]⟩ := by
      obtain ⟨⟨l⟩⟩ := z
      have h : l.length = 1 := h
      cases l with
      | nil => cases h
      | cons c r =>
        cases r with
        | nil => exact ⟨c, rfl⟩
        | cons d r =>
          rw [List.length_cons, List.length_cons] at h
          omega
    rw [sign_one]
    unfold lawName
    show decide (c ∈ lets) = ((decide ((0 : Int) < 1) && decide ((1 : Int) < 7) && ([decide (c ∈ lets)]).all id) && decide (V.int 1 = V.int 1))
    rw [decide_eq_true (rfl : V.int 1 = V.int 1)]
    cases decide (c ∈ lets) <;> rfl
  · have e : decide (V.int (z.length : Nat) = V.int 1) = false := decide_eq_false fun q => h (by
      injection q with q
      omega)
    unfold isSign
    rw [e, Bool.and_false, Bool.false_and]
/-! ### a comprehension over a text, its items reckoned from the signs -/
theorem take_snoc {α : Type} {l : List α} {i : Nat} {x : α} (h : l[i]? = some x) : l.take (i + 1) = l.take i ++ [x] := by
  rw [List.take_add_one, h]
  rfl
theorem el_lcS {σ : L2.St} {H : Hp} {z : Str} {tl te : TE} {j : Nat} {vs : List Nat} (f : Nat → V) (h : Evl.Ev tl σ H (.str z)) (hz : z.length ≤ 40000) (hw : ∀ x, wipe ((wipe σ vs).set j (some x)) vs = wipe σ vs)
    (he : ∀ (c : Nat) H1, Evl.Ex H H1 → c ∈ z.cps.toList → Evl.Ev te ((wipe σ vs).set j (some (.str ⟨#[c]⟩))) H1 (f c)) : Evl.EvL (tLc (iStr tl) (gName j) tYes te vs) σ H (z.cps.toList.map f) := fun H0 e Q q => h H0 e _ fun H1 e1 => ⟨z, rfl, fun D nD =>
  lc_it walk_str (fun i H' => Evl.Ex H1 H' ∧ H' D = some (.lst ((z.cps.toList.map f).take i))) ⟨Evl.Ex.new nD, upd_same⟩ (fun _ _ _ _ => True.intro) (fun i v H2 H3 hi hP hy => by
    obtain ⟨rfl, c, hc, rfl⟩ := hy
    obtain ⟨s2, e2⟩ := hP
    have hc2 : z.cps.toList[i]? = some c := by rw [Array.getElem?_toList]; exact hc
    refine ⟨hw _, yes_of (iteT ?_)⟩
    refine he c H3 ((e.trans e1).trans s2) (List.mem_of_getElem? hc2) H3 (Evl.Ex.refl H3) _ fun H4 e4 => ⟨_, e4 _ _ e2, ?_, Evl.Ex.mut (s2.trans e4) nD, ?_⟩
    · rw [List.length_take, List.length_map]
      have hz2 : z.cps.size ≤ 40000 := hz
      exact small_lt (by omega)
    · rw [upd_same, take_snoc (x := f c) (by rw [List.getElem?_map, hc2]; rfl)]) (fun H' hP => by
    have ez : ((z.cps.toList.map f).take z.cps.size) = z.cps.toList.map f := List.take_of_length_le (by rw [List.length_map]; exact Nat.le_refl _)
    have h2 := hP.2
    rw [ez] at h2
    exact q D H' (Evl.fresh_back e1 nD) (e1.trans hP.1) h2)⟩
section
open Evl
variable {K : PySem.W.Frag} {σ : L2.St} {H : Hp} {ta tb tc te : TE}
theorem ev_all {bs : List Bool} (h : EvL te σ H (bs.map V.bl)) : Ev (tCB (rAll K) (tCons te tNil)) σ H (.bl (bs.all id)) := fun H1 e Q q => h H1 e _ fun p H2 np e2 hp => ⟨p, bs, rfl, .of hp, q H2 e2⟩
theorem ev_lenS {z : Str} (h : Ev te σ H (.str z)) (hz : z.length ≤ 1000000) : Ev (tCB (fun xs H Q => ∃ z : Str, xs = [.str z] ∧ z.length ≤ sizeLine ∧ Q (.int z.length) H) (tCons te tNil)) σ H (.int (z.length : Nat)) := fun H1 e Q q =>
  h H1 e _ fun H2 e2 => ⟨z, rfl, small_le hz, q H2 e2⟩
theorem ev_chainI {f g : Int → Int → Bool} {i j k : Int} (ha : Ev ta σ H (.int i)) (hb : Ev tb σ H (.int j)) (hc : Ev tc σ H (.int k)) : Ev (tChain (rI0 fun i j => .bl (f i j)) (rI0 fun i j => .bl (g i j)) ta tb tc) σ H (.bl (f i j && g j k)) := fun H1 e Q q =>
  ha H1 e _ fun H2 e2 => hb H2 (e.trans e2) _ fun H3 e3 => ⟨i, j, rfl, rfl, f i j, rfl, by
    cases h : f i j with
    | true =>
      rw [h] at q
      exact iteT (hc H3 ((e.trans e2).trans e3) _ fun H4 e4 => ⟨j, k, rfl, rfl, q H4 ((e2.trans e3).trans e4)⟩)
    | false =>
      rw [h] at q
      exact iteF (q H3 (e2.trans e3))⟩
theorem ev_chainS {R R' : R2} {f g : Str → Str → Bool} {x y z : Str} (hR : ∀ x y H (Q : VK), Q (.bl (f x y)) H → R (.str x) (.str y) H Q) (hR' : ∀ x y H (Q : VK), Q (.bl (g x y)) H → R' (.str x) (.str y) H Q)
    (ha : Ev ta σ H (.str x)) (hb : Ev tb σ H (.str y)) (hc : Ev tc σ H (.str z)) : Ev (tChain R R' ta tb tc) σ H (.bl (f x y && g y z)) := fun H1 e Q q =>
  ha H1 e _ fun H2 e2 => hb H2 (e.trans e2) _ fun H3 e3 => hR x y H3 _ ⟨f x y, rfl, by
    cases h : f x y with
    | true =>
      rw [h] at q
      exact iteT (hc H3 ((e.trans e2).trans e3) _ fun H4 e4 => hR' y z H4 Q (q H4 ((e2.trans e3).trans e4)))
    | false =>
      rw [h] at q
      exact iteF (q H3 (e2.trans e3))⟩
theorem ev_call {sp : Sp} {ta : TA} {vs : List V} {v : V} (h : EvA ta σ H vs) (hsp : ∀ H1 (Q : VK), Ex H H1 → (∀ H2, Ex H1 H2 → Q v H2) → sp vs H1 Q E0) : Ev (tCall sp [] E0 ta) σ H v := fun H1 e Q q =>
  h H1 e _ fun H2 e2 => by
    show sp (vs ++ []) H2 Q E0
    rw [List.append_nil]
    exact hsp H2 Q (e.trans e2) fun H3 e3 => q H3 (e2.trans e3)
end
def spSign : Sp := fun vs H Q _ => ∃ z, vs = [.str z] ∧ z.length ≤ 1000 ∧ ∀ H', Same H H' → Q (.bl (isSign z)) H'
def spLetters : Sp := fun vs H Q _ => vs = [] ∧ ∀ H', Same H H' → Q (.str ⟨lets.toArray⟩) H'
def spLawName : Sp := fun vs H Q _ => ∃ z, vs = [.str z] ∧ z.length ≤ 1000 ∧ ∀ H', Same H H' → Q (.bl (lawName z)) H'
def spName : Sp := fun vs H Q _ => ∃ z, vs = [.str z] ∧ z.length ≤ 1000 ∧ ∀ H', Same H H' → Q (.bl (isName z)) H'
section
variable {P : Program} {w : World} {K : PySem.W.Frag} {mg : Str → Option Value} {base : Heap}
theorem and_bl {b : Bool} {A : Prop} {Q : VK} {H : Hp} (h0 : b = false → Q (.bl false) H) (h1 : b = true → A) : if b = true then A else Q (.bl false) H := by
  cases b with
  | true => exact iteT (h1 rfl)
  | false => exact iteF (h0 rfl)
theorem bls_eq {α : Type} (l : List α) (g : α → Bool) : l.map (fun c => V.bl (g c)) = (l.map g).map V.bl := by
  rw [List.map_map]
  rfl
end
end Ink
namespace Ink
open PySem PySem.Spec PyProof.Rows L2
theorem joinL_len : ∀ ps : List (List Nat), (TL.joinL [] ps).length = (ps.map List.length).sum
  | [] => rfl
  | [p] => by
    show p.length = p.length + 0
    rfl
  | p :: q :: r => by
    show (p ++ ([] ++ TL.joinL [] (q :: r))).length = p.length + ((q :: r).map List.length).sum
    rw [List.length_append, List.nil_append, joinL_len (q :: r)]
theorem join_len (zs : List Str) : (Txt.join ⟨#[]⟩ zs).length = (zs.map (·.length)).sum := by
  rw [TL.join_eq]
  show (Str.join ⟨#[]⟩ zs).cps.toList.length = _
  have h := TL.tl_join ⟨#[]⟩ zs
  unfold TL.tl at h
  rw [h, joinL_len, List.map_map]
  rfl
theorem sum_ones : ∀ zs : List Str, (∀ z ∈ zs, z.length ≤ 1) → (zs.map (·.length)).sum ≤ zs.length
  | [], _ => Nat.le_refl _
  | z :: r, h => by
    have h1 := h z (List.mem_cons_self ..)
    have h2 := sum_ones r fun y hy => h y (List.mem_cons_of_mem _ hy)
    show z.length + (r.map (·.length)).sum ≤ r.length + 1
    omega

/-- texts cut at places -/
theorem cut_to {z : Str} {t : Int} (h : 0 ≤ t) : (cutS z none (some t)).cps.toList = z.cps.toList.take t.toNat := by
  have e : ((t.toNat : Nat) : Int) = t := by omega
  show (((z.cps.toList.drop (HT.sIx z.length 0 none)).take (HT.sIx z.length z.length (some t) - HT.sIx z.length 0 none)).toArray).toList = _
  rw [List.toList_toArray, HT.sIx_none, ← e, HT.sIx_nat, List.drop_zero, Nat.sub_zero, Int.toNat_natCast]
  by_cases hz : t.toNat ≤ z.length
  · rw [Nat.min_eq_left hz]
  · have hl : z.cps.toList.length = z.length := Array.length_toList
    rw [Nat.min_eq_right (by omega), List.take_of_length_le (by omega), List.take_of_length_le (by omega)]
theorem cut_from {z : Str} {t : Int} (h : 0 ≤ t) : (cutS z (some t) none).cps.toList = z.cps.toList.drop t.toNat := by
  have e : ((t.toNat : Nat) : Int) = t := by omega
  show (((z.cps.toList.drop (HT.sIx z.length 0 (some t))).take (HT.sIx z.length z.length none - HT.sIx z.length 0 (some t))).toArray).toList = _
  have hl : z.cps.toList.length = z.length := Array.length_toList
  rw [List.toList_toArray, HT.sIx_none, ← e, HT.sIx_nat, Int.toNat_natCast]
  by_cases hz : t.toNat ≤ z.length
  · rw [Nat.min_eq_left hz]
    exact List.take_of_length_le (by rw [List.length_drop]; omega)
  · rw [Nat.min_eq_right (by omega), List.drop_eq_nil_of_le (by omega), List.drop_eq_nil_of_le (by omega), List.take_nil]
theorem join_list (zs : List Str) : (Txt.join ⟨#[]⟩ zs).cps.toList = (zs.map fun z => z.cps.toList).flatten := by
  rw [TL.join_eq]
  have h := TL.tl_join ⟨#[]⟩ zs
  unfold TL.tl at h
  rw [h]
  have g : ∀ ps : List (List Nat), TL.joinL [] ps = ps.flatten := by
    intro ps
    induction ps with
    | nil => rfl
    | cons p r ih =>
      cases r with
      | nil =>
        show p = ([p] : List (List Nat)).flatten
        rw [List.flatten_cons, List.flatten_nil, List.append_nil]
      | cons q r =>
        show p ++ ([] ++ TL.joinL [] (q :: r)) = _
        rw [List.nil_append, ih]
        rfl
  exact g _
theorem join_ones (cs : List Nat) : (Txt.join ⟨#[]⟩ (cs.map fun c => ⟨#[c]⟩)).cps.toList = cs := by
  rw [join_list, List.map_map]
  induction cs with
  | nil => rfl
  | cons c r ih =>
    rw [List.map_cons, List.flatten_cons, ih]
    rfl
/-- a name: one to six small letters -/
def NameZ (z : Str) : Prop := 1 ≤ z.length ∧ z.length ≤ 6 ∧ ∀ c ∈ z.cps.toList, c ∈ lets
theorem NameZ.is {z : Str} (h : NameZ z) : lawName z = true := by
  unfold lawName
  obtain ⟨h1, h2, h3⟩ := h
  rw [decide_eq_true (by omega : (0 : Int) < (z.length : Nat)), decide_eq_true (by omega : ((z.length : Nat) : Int) < 7), Bool.true_and, Bool.true_and, List.all_map, List.all_eq_true]
  intro c hc
  exact decide_eq_true (h3 c hc)
def single (c : Nat) : Str := ⟨#[c]⟩
theorem lets_at {i : Int} (h0 : 0 ≤ i) (h1 : i < 26) : lets[i.toNat]? = some (97 + i.toNat) ∧ 97 + i.toNat ∈ lets := by
  have h : ∀ n : Nat, n < 26 → lets[n]? = some (97 + n) ∧ 97 + n ∈ lets := by decide
  exact h i.toNat (by omega)
end Ink
namespace Ink
open PySem PySem.Spec PyProof.Rows L2
section
variable {P : Program} {w : World} {K : PySem.W.Frag} {mg : Str → Option Value} {base : Heap}
theorem ok_letters {f : Addr} {fd : FuncData} {k : Nat} (F : Fun K "_law_letters" "_law_letters" sLLetters f fd) : FnOk P w K mg base CX0 (k + 1) f fd [] spLetters := by
  refine F.ok sc__law_letters (fun vs H Q E h => ?_) (fun cdv A outer s H vs Q E hr h => ?_)
  · obtain ⟨rfl, _⟩ := h
    rfl
  · obtain ⟨rfl, q⟩ := h
    refine ⟨_, (pss_one (ps_ret pe_str)), ?_⟩
    exact q H (Same.refl H)
end
end Ink
namespace Ink
open PySem PySem.Spec PyProof.Rows L2
/-- names: one to six small letters each, unlike -/
def spNames : Sp := fun vs H Q _ => ∃ (a l : Addr) (m : Int), vs = [.ref a, .int m] ∧ BagAt H a l ∧ 0 ≤ m ∧ m ≤ 20 ∧ ∀ p (zs : List Str) H', H p = none → zs.length = m.toNat → (∀ z ∈ zs, NameZ z) → zs.Nodup → H' p = some (.lst (zs.map V.str)) → BagAt H' a l → Keep a H H' → Q (.ref p) H'
theorem mod_apart {s t : Int} {i j : Nat} (ht : t = 1 ∨ t = 3 ∨ t = 5 ∨ t = 7) (hi : i < 26) (hj : j < 26) (h : (s + t * (i : Int)) % 26 = (s + t * (j : Int)) % 26) : i = j := by
  rcases ht with rfl | rfl | rfl | rfl <;> omega
theorem odd_of {v : V} (h : v ∈ [V.int 1, V.int 3, V.int 5, V.int 7]) : ∃ t : Int, v = .int t ∧ (t = 1 ∨ t = 3 ∨ t = 5 ∨ t = 7) := by
  simp only [List.mem_cons, List.not_mem_nil, or_false] at h
  rcases h with rfl | rfl | rfl | rfl
  · exact ⟨_, rfl, .inl rfl⟩
  · exact ⟨_, rfl, .inr (.inl rfl)⟩
  · exact ⟨_, rfl, .inr (.inr (.inl rfl))⟩
  · exact ⟨_, rfl, .inr (.inr (.inr rfl))⟩
/-- the sign at one place tells the names apart -/
def Apart (s t at' : Int) (zs : List Str) : Prop := ∀ (j : Nat) z, zs[j]? = some z → z.cps.toList[at'.toNat]? = some (97 + ((s + t * (j : Int)) % 26).toNat)
theorem Apart.nodup {s t at' : Int} {zs : List Str} (ht : t = 1 ∨ t = 3 ∨ t = 5 ∨ t = 7) (hl : zs.length ≤ 20) (h : Apart s t at' zs) : zs.Nodup := by
  rw [List.nodup_iff_pairwise_ne, List.pairwise_iff_getElem]
  intro i j hi hj hij e
  have h1 := h i _ (List.getElem?_eq_getElem hi)
  have h2 := h j _ (List.getElem?_eq_getElem hj)
  rw [e] at h1
  have h3 := Option.some.inj (h1.symm.trans h2)
  have m1 := Int.emod_nonneg (s + t * (i : Int)) (show (26 : Int) ≠ 0 by decide)
  have m2 := Int.emod_nonneg (s + t * (j : Int)) (show (26 : Int) ≠ 0 by decide)
  have := mod_apart (s := s) (t := t) (i := i) (j := j) ht (by omega) (by omega) (by omega)
  omega
/-- base[:at] + sign + base[at + 1:], then cut -/
theorem name_made {b z : Str} {at' u : Int} {c : Nat} (hb : NameZ b) (h0 : 0 ≤ at') (h1 : at' < (b.length : Nat)) (hc : c ∈ lets) (hz : z.cps.toList = b.cps.toList.take at'.toNat ++ [c] ++ b.cps.toList.drop (at' + 1).toNat) :
    (NameZ z ∧ z.cps.toList[at'.toNat]? = some c) ∧ (at' + 1 ≤ u → NameZ (cutS z none (some u)) ∧ (cutS z none (some u)).cps.toList[at'.toNat]? = some c) := by
  obtain ⟨b1, b2, b3⟩ := hb
  have bl : b.cps.toList.length = b.length := Array.length_toList
  have zl : z.cps.toList.length = z.length := Array.length_toList
  have zl2 : z.length = b.length := by
    rw [← zl, hz, List.length_append, List.length_append, List.length_take, List.length_drop, List.length_singleton]
    omega
  have zm : ∀ x ∈ z.cps.toList, x ∈ lets := by
    intro x hx
    rw [hz] at hx
    rcases List.mem_append.mp hx with hx | hx
    · rcases List.mem_append.mp hx with hx | hx
      · exact b3 x (List.mem_of_mem_take hx)
      · rw [List.mem_singleton.mp hx]
        exact hc
    · exact b3 x (List.mem_of_mem_drop hx)
  have zat : z.cps.toList[at'.toNat]? = some c := by
    have tl : (b.cps.toList.take at'.toNat).length = at'.toNat := by
      rw [List.length_take]
      omega
    rw [hz, List.append_assoc, List.getElem?_append_right (by omega), tl, Nat.sub_self]
    rfl
  refine ⟨⟨⟨by omega, by omega, zm⟩, zat⟩, fun hu => ?_⟩
  have e := cut_to (z := z) (t := u) (by omega)
  have cl : (cutS z none (some u)).cps.toList.length = (cutS z none (some u)).length := Array.length_toList
  refine ⟨⟨?_, ?_, fun x hx => ?_⟩, ?_⟩
  · rw [← cl, e, List.length_take]
    omega
  · have := cutS_length z none (some u)
    omega
  · rw [e] at hx
    exact zm x (List.mem_of_mem_take hx)
  · rw [e, List.getElem?_take_of_lt (by omega)]
    exact zat
theorem sum_single : ∀ cs : List Nat, ((cs.map fun c => (⟨#[c]⟩ : Str)).map (·.length)).sum = cs.length
  | [] => rfl
  | c :: r => by
    rw [List.map_cons, List.map_cons, List.sum_cons, sum_single r, List.length_cons]
    show 1 + r.length = r.length + 1
    omega
section
variable {P : Program} {w : World} {K : PySem.W.Frag} {mg : Str → Option Value} {base : Heap}
theorem ok_names {f : Addr} {fd : FuncData} {k : Nat} (F : Fun K "_law_names" "_law_names" sLNames f fd) (T : Txt mg)
    (C__law_pull : Cal P w K mg base k "_law_pull" ["_law_bag_here", "_law_many"] spPull) (C__law_of : Cal P w K mg base k "_law_of" ["_law_bag_here", "_law_things"] (spOf K)) (C__law_letters : Cal P w K mg base k "_law_letters" [] spLetters) :
    FnOk P w K mg base CX0 (k + 1) f fd ["_law_bag_here", "_law_many"] spNames := by
  refine F.ok sc__law_names (fun vs H Q E h => ?_) (fun cdv A outer s H vs Q E hr h => ?_)
  · obtain ⟨a, l, m, rfl, _⟩ := h
    rfl
  · obtain ⟨a, l, m, rfl, hB, m0, m1, q⟩ := h
    refine ⟨_, (pss_cons (ps_asg (pe_tup (pa_cons (pe_op op_add pe_int (pe_callC C__law_pull hr (by rfl) (pa_cons (pv 0) (pa_cons pe_int pa_nil)))) (pa_cons (pe_callC0 C__law_letters hr (by rfl)) pa_nil))) (pg_tup rfl (pgs_cons (pg_name (i := 2) sc__law_names.nd rfl (.inl rfl)) (pgs_cons (pg_name (i := 3) sc__law_names.nd rfl (.inr rfl)) pgs_nil))))
    (pss_cons (ps_par (i := 4) (j := 5) (by rfl) sc__law_names.nd rfl rfl (by decide) rfl rfl (pa_cons (pe_callC C__law_pull hr (by rfl) (pa_cons (pv 0) (pa_cons (pv 2) pa_nil))) (pa_cons (pe_callC C__law_pull hr (by rfl) (pa_cons (pv 0) (pa_cons pe_int pa_nil))) pa_nil)) (by rfl))
    (pss_cons (ps_set (i := 6) sc__law_names.nd rfl (.inl rfl) (pe_callC C__law_of hr (by rfl) (pa_cons (pv 0) (pa_cons (pe_lst (pa_cons pe_int (pa_cons pe_int (pa_cons pe_int (pa_cons pe_int pa_nil))))) pa_nil))))
    (pss_cons (ps_par (i := 7) (j := 8) (by rfl) sc__law_names.nd rfl rfl (by decide) rfl rfl (pa_cons (pe_join pe_str (pe_lc (own := [("_law_k", 9)]) (g := (gName 9)) (by rfl) sc__law_names.nd (pi_range1 (by rfl) T.m_range (pa_cons (pv 2) pa_nil)) (blkOk_by (own := [("_law_k", 9)]) (N := ["_law_bag_here", "_law_many", "_law_size", "_law_letters_here", "_law_at", "_law_start", "_law_step", "_law_base", "_law_found", "_law_k", "_law_sign", "_law_name"]) (sc := defScope sLNames) (by decide +kernel)) (fun _ _ _ _ _ => (pg_name (i := 9) sc__law_names.nd rfl (Or.inl rfl))) (fun _ _ _ _ _ => pts_nil) (fun _ _ _ _ _ => (pe_callC C__law_of hr (by rfl) (pa_cons (pv 0) (pa_cons (pv 3) pa_nil)))))) (pa_cons (pe_lst pa_nil) pa_nil)) (by rfl))
    (pss_cons (ps_for PassesOwn.never rfl (pi_range1 (by rfl) T.m_range (pa_cons (pv 1) pa_nil)) (pg_name (i := 9) sc__law_names.nd rfl (.inl rfl))
    (pss_cons (ps_set (i := 10) sc__law_names.nd rfl (.inl rfl) (pe_ix ix_str (pv 3) (pe_op op_mod (pe_op op_add (pv 5) (pe_op op_mul (pv 6) (pv 9))) pe_int) (fun _ _ => rfl)))
    (pss_cons (ps_set (i := 11) sc__law_names.nd rfl (.inl rfl) (pe_op op_add_str (pe_op op_add_str (pe_slice sl_str (pv 7) po_none (po_some (pv 4))) (pv 10)) (pe_slice sl_str (pv 7) (po_some (pe_op op_add (pv 4) pe_int)) po_none)))
    (pss_one (ps_expr (pe_bm PySem.F.plainAttrs_list PySem.F.slot_list_append PySem.F.type_list_append mt_append (pv 8) (pa_cons (pe_ifExp (pt_cmpR op_eq (pe_callC C__law_pull hr (by rfl) (pa_cons (pv 0) (pa_cons pe_int pa_nil))) pe_int (nomark _)) (pe_slice sl_str (pv 11) po_none (po_some (pe_callB (call_max2 rfl) (by rfl) T.m_max (by decide +kernel) (pa_cons (pe_op op_add (pv 4) pe_int) (pa_cons (pe_op op_sub (pv 2) (pv 9)) pa_nil))))) (pv 11)) pa_nil)))))))
    (pss_one (ps_ret (pv 8)))))))), ?_⟩
    -- size, letters
    refine ⟨.ref a, rfl, a, l, 6, rfl, hB, by decide, by decide, fun sz' H1 z0 z1 hB1 k1 => ⟨1, sz', rfl, rfl, rfl, fun H2 s2 => ⟨by show 2 ≤ sizeLine; decide, fun p1 np1 => ?_⟩⟩⟩
    have hB2 := hB1.same s2
    have hB3 := hB2.upd (o := .tup [V.int (1 + sz'), V.str ⟨lets.toArray⟩]) (hB2.ne np1)
    have k3 : Keep a H (upd H2 p1 (.tup [V.int (1 + sz'), V.str ⟨lets.toArray⟩])) := (k1.trans (Keep.of_same s2)).trans (Keep.of_same (same_new np1))
    refine ⟨p1, _, rfl, .of upd_same, rfl, _, _, rfl, _, _, rfl, rfl, ?_⟩
    -- at, start
    refine ⟨.ref a, rfl, .int (1 + sz'), rfl, a, l, _, rfl, hB3, by omega, by omega, fun at' H4 a0 a1 hB4 k4 => ?_⟩
    refine ⟨.ref a, rfl, a, l, 26, rfl, hB4, by decide, by decide, fun st H5 s0 s1 hB5 k5 => ⟨_, _, rfl, ?_⟩⟩
    -- step
    refine ⟨.ref a, rfl, by show 4 ≤ sizeLine; decide, fun p2 np2 => ?_⟩
    refine ⟨a, l, _, _, rfl, hB5.upd (hB5.ne np2), .inl ⟨p2, rfl, (hB5.ne np2).1.symm, .inl (.of upd_same)⟩, by decide, by decide, fun v H6 hv hB6 k6 => ?_⟩
    obtain ⟨t, rfl, ht⟩ := odd_of hv
    have k56 : Keep a H H6 := ((k3.trans k4).trans k5).trans ((Keep.of_same (same_new np2)).trans k6)
    -- base, found
    refine ⟨⟨_, rfl⟩, .int (1 + sz'), rfl, _, rfl, by omega, by omega, fun D nD => ?_⟩
    refine lc_it walk_range (fun i H' => BagAt H' a l ∧ Keep a H6 H' ∧ ∃ cs : List Nat, cs.length = i ∧ (∀ c ∈ cs, c ∈ lets) ∧ H' D = some (.lst ((cs.map fun c => (⟨#[c]⟩ : Str)).map V.str))) ⟨hB6.upd (hB6.ne nD), Keep.mut (Keep.refl H6) nD, [], rfl, fun _ h => (nomatch h), upd_same⟩ (fun _ _ _ _ => True.intro) (fun i x H7 H8 hi hP hy => ?_) (fun H7 hP => ?_)
    · obtain ⟨hB7, k7, cs, rfl, hcs, eD⟩ := hP
      obtain ⟨rfl, rfl⟩ := hy
      refine ⟨rfl, yes_of (iteT ?_)⟩
      refine ⟨.ref a, rfl, _, rfl, a, l, _, _, rfl, hB7, .inr ⟨_, rfl, rfl⟩, by decide, by decide, fun v H9 hv hB9 k9 => ?_⟩
      obtain ⟨c, hc, rfl⟩ := List.mem_map.mp hv
      have hc : c ∈ lets := by simpa using hc
      refine ⟨_, k9 D _ (hB6.ne nD).1.symm eD, ?_, hB9.upd (hB6.ne nD), Keep.mut (k7.trans k9) nD, cs ++ [c], ?_, ?_, ?_⟩
      · rw [List.length_map, List.length_map]
        exact small_lt (by omega)
      · rw [List.length_append]
        rfl
      · intro x h
        rcases List.mem_append.mp h with h | h
        · exact hcs x h
        · rw [List.mem_singleton.mp h]
          exact hc
      · rw [upd_same, List.map_append, List.map_append]
        rfl
    · obtain ⟨hB7, k7, cs, ecs, hcs, eD⟩ := hP
      refine ⟨_, D, _, rfl, rfl, .inl (.of eD), ?_, ?_⟩
      · rw [sum_single, List.length_map]
        show cs.length + cs.length * 0 ≤ 16777216
        omega
      have jb := join_ones cs
      change (Txt.join (Str.ofString "") (cs.map fun c => ⟨#[c]⟩)).cps.toList = cs at jb
      generalize Txt.join (Str.ofString "") (cs.map fun c => ⟨#[c]⟩) = b at jb
      have bl : b.length = cs.length := by
        rw [← jb]
        exact Array.length_toList.symm
      have hb : NameZ b := ⟨by omega, by omega, by rw [jb]; exact hcs⟩
      -- found
      refine ⟨by show 0 ≤ sizeLine; decide, fun fo nfo => ⟨_, _, rfl, ?_⟩⟩
      have hB8 := hB7.upd (o := .lst []) (hB7.ne nfo)
      have nfo0 : H fo = none := by
        cases h : H fo with
        | none => rfl
        | some o =>
          by_cases e : fo = a
          · exact absurd e.symm (hB7.ne nfo).1
          · rw [(k56.trans k7) fo o e h] at nfo
            cases nfo
      have k8 : Keep a H (upd H7 fo (.lst [])) := (k56.trans k7).trans (Keep.of_same (same_new nfo))
      have fa : a ≠ fo ∧ l ≠ fo := hB7.ne nfo
      have e8 : (upd H7 fo (.lst [])) fo = some (.lst []) := upd_same
      generalize upd H7 fo (.lst []) = H8 at hB8 k8 e8
      -- the loop
      refine ⟨.int m, rfl, m, rfl, by omega, by omega, for_it walk_range0 (fun i σ H' => (∃ y9 y10 y11, σ = [some (.ref a), some (.int m), some (.int (1 + sz')), some (.str ⟨lets.toArray⟩), some (.int at'), some (.int st), some (.int t), some (.str b), some (.ref fo), y9, y10, y11]) ∧ BagAt H' a l ∧ Keep a H H' ∧
        ∃ zs : List Str, zs.length = i ∧ (∀ z ∈ zs, NameZ z) ∧ Apart st t at' zs ∧ H' fo = some (.lst (zs.map V.str))) ⟨⟨none, none, none, rfl⟩, hB8, k8, [], rfl, fun _ h => (nomatch h), fun j z h => by simp at h, e8⟩ (fun _ _ _ _ _ => True.intro) (fun i x σ H9 H10 hi hP hy => ?_) (fun σ H9 hP => ?_)⟩
      · obtain ⟨⟨y9, y10, y11, rfl⟩, hB9, k9, zs, rfl, hzs, hap, efo⟩ := hP
        obtain ⟨rfl, rfl⟩ := hy
        have n0 := Int.emod_nonneg (st + t * (zs.length : Int)) (show (26 : Int) ≠ 0 by decide)
        have n1 := Int.emod_lt_of_pos (st + t * (zs.length : Int)) (show (0 : Int) < 26 by decide)
        obtain ⟨l1, l2⟩ := lets_at n0 n1
        -- sign
        refine ⟨.str ⟨lets.toArray⟩, rfl, .int st, rfl, .int t, rfl, _, rfl, t, (zs.length : Int), rfl, rfl, .inl ⟨by omega, by omega⟩, st, _, rfl, rfl, _, 26, rfl, rfl, (by show (0 : Int) < 26; decide), ⟨lets.toArray⟩, _, 97 + ((st + t * (zs.length : Int)) % 26).toNat, rfl, rfl, (by decide), atI_of n0 (by rw [List.toList_toArray]; exact l1), ?_⟩
        have hcc : some (97 + ((st + t * (zs.length : Int)) % 26).toNat) = some (97 + ((st + t * (zs.length : Int)) % 26).toNat) := rfl
        generalize hc : 97 + ((st + t * (zs.length : Int)) % 26).toNat = c at l1 l2
        have ez : ∀ z : Str, z = (cutS b none (some at') ++ ⟨#[c]⟩) ++ cutS b (some (at' + 1)) none → z.cps.toList = b.cps.toList.take at'.toNat ++ [c] ++ b.cps.toList.drop (at' + 1).toNat := fun z e => by
          rw [e, Str.cps_append, Str.cps_append, Array.toList_append, Array.toList_append, cut_to a0, cut_from (by omega)]
        have c1 := cutS_length b none (some at')
        have c2 := cutS_length b (some (at' + 1)) none
        have cb : (⟨#[c]⟩ : Str).length = 1 := rfl
        -- name
        refine ⟨.str b, rfl, .int at', rfl, at', rfl, b, rfl, small_le (by omega), .str ⟨#[c]⟩, rfl, _, _, rfl, rfl, small_le (by omega), .str b, rfl, .int at', rfl, at', 1, rfl, rfl, _, rfl, b, rfl, small_le (by omega), _, _, rfl, rfl, ?_, ?_⟩
        · rw [Str.length_append]
          exact small_le (by omega)
        obtain ⟨z, hz⟩ : ∃ z, z = (cutS b none (some at') ++ ⟨#[c]⟩) ++ cutS b (some (at' + 1)) none := ⟨_, rfl⟩
        rw [← hz]
        have ⟨⟨nz, za⟩, nu⟩ := name_made (u := if (1 + sz') - (zs.length : Int) > at' + 1 then (1 + sz') - (zs.length : Int) else at' + 1) hb a0 (by omega) l2 (ez z hz)
        have nu := nu (by split <;> omega)
        have fin : ∀ (y : Str) (H11 : Hp), BagAt H11 a l → Keep a H10 H11 → NameZ y → y.cps.toList[at'.toNat]? = some c → BagAt (upd H11 fo (.lst (zs.map V.str ++ [.str y]))) a l ∧ Keep a H (upd H11 fo (.lst (zs.map V.str ++ [.str y]))) ∧
            ∃ zs' : List Str, zs'.length = zs.length + 1 ∧ (∀ z ∈ zs', NameZ z) ∧ Apart st t at' zs' ∧ (upd H11 fo (.lst (zs.map V.str ++ [.str y]))) fo = some (.lst (zs'.map V.str)) := fun y H11 hB11 k11 ny ya => by
          refine ⟨hB11.upd fa, Keep.mut (k9.trans k11) nfo0, zs ++ [y], ?_, ?_, ?_, ?_⟩
          · rw [List.length_append]
            rfl
          · intro x hx
            rcases List.mem_append.mp hx with hx | hx
            · exact hzs x hx
            · rw [List.mem_singleton.mp hx]
              exact ny
          · intro j x hj
            by_cases hjl : j < zs.length
            · rw [List.getElem?_append_left hjl] at hj
              exact hap j x hj
            · have hlt := (List.getElem?_eq_some_iff.mp hj).1
              rw [List.length_append, List.length_singleton] at hlt
              have ej : j = zs.length := by omega
              subst ej
              rw [List.getElem?_append_right (Nat.le_refl _), Nat.sub_self] at hj
              rw [← Option.some.inj hj, hc]
              exact ya
          · rw [upd_same, List.map_append]
            rfl
        refine ⟨.ref fo, rfl, .inl ⟨rfl, _, .of efo⟩, .ref a, rfl, a, l, 3, rfl, hB9, by decide, by decide, fun r H11 r0 r1 hB11 k11 => ⟨rfl, _, rfl, ite2 (fun e => ?_) (fun e => ?_)⟩⟩
        · have efo2 := k11 fo _ fa.1.symm efo
          refine ⟨.str z, rfl, .int at', rfl, at', 1, rfl, rfl, .int (1 + sz'), rfl, .int (zs.length : Int), rfl, _, _, rfl, rfl, _, _, rfl, _, rfl, z, rfl, small_le (by have := nz.2.1; omega), fo, _, _, rfl, rfl, efo2, by rw [List.length_map]; exact small_lt (by omega), ?_⟩
          exact ⟨⟨_, _, _, rfl⟩, fin _ H11 hB11 k11 nu.1 nu.2⟩
        · have efo2 := k11 fo _ fa.1.symm efo
          exact ⟨.str z, rfl, fo, _, _, rfl, rfl, efo2, by rw [List.length_map]; exact small_lt (by omega), ⟨_, _, _, rfl⟩, fin _ H11 hB11 k11 nz za⟩
      · obtain ⟨⟨y9, y10, y11, rfl⟩, hB9, k9, zs, ezs, hzs, hap, efo⟩ := hP
        exact ⟨.ref fo, rfl, q fo zs H9 nfo0 ezs hzs (hap.nodup ht (by omega)) efo hB9 k9⟩
end
end Ink
namespace Ink
open PySem PySem.Spec PyProof.Rows L2
/-- signs: unlike small letters, rising -/
def spSigns : Sp := fun vs H Q _ => ∃ (a l : Addr) (m : Int), vs = [.ref a, .int m] ∧ BagAt H a l ∧ 1 ≤ m ∧ m ≤ 20 ∧ ∀ p (cs : List Nat) H', H p = none → 1 ≤ cs.length → (cs.length : Int) ≤ m → (∀ c ∈ cs, c ∈ lets) → cs.Pairwise (· < ·) → H' p = some (.lst ((cs.map single).map V.str)) → BagAt H' a l → Keep a H H' → Q (.ref p) H'
theorem lt_single (c d : Nat) : ltCps (single c).cps.toList (single d).cps.toList = decide (c < d) := by
  show (decide (c < d) || (c == d && ltCps [] [])) = _
  rw [show ltCps [] [] = false from rfl, Bool.and_false, Bool.or_false]
theorem rising_lt : ∀ (cs : List Nat) (c : Nat), risingS (single c) (cs.map single) = true → (c :: cs).Nodup → (c :: cs).Pairwise (· < ·)
  | [], c, _, _ => List.pairwise_singleton _ _
  | d :: r, c, h, hn => by
    have h : (!ltCps (single d).cps.toList (single c).cps.toList && risingS (single d) (r.map single)) = true := h
    rw [Bool.and_eq_true, lt_single] at h
    have hcd : ¬ d < c := fun q => by
      rw [decide_eq_true q] at h
      exact nomatch h.1
    have hn2 := List.nodup_cons.mp hn
    have ih := rising_lt r d h.2 hn2.2
    have hne : c ≠ d := fun e => hn2.1 (by rw [e]; exact List.mem_cons_self ..)
    refine List.pairwise_cons.mpr ⟨fun e he => ?_, ih⟩
    rcases List.mem_cons.mp he with he | he
    · omega
    · have := (List.pairwise_cons.mp ih).1 e he
      omega
def hdZ (z : Str) : Nat := z.cps.toList.headD 0
theorem map_hd (cs : List Nat) : (cs.map single).map hdZ = cs := by
  rw [List.map_map]
  exact List.map_id _
theorem sorted_singles {ys : List Str} {cs : List Nat} (hp : ys.Perm (cs.map single)) (hs : sortedS ys = true) (hn : cs.Nodup) :
    ∃ ds : List Nat, ys = ds.map single ∧ ds.Perm cs ∧ ds.Pairwise (· < ·) := by
  have e : ys = (ys.map hdZ).map single := by
    rw [List.map_map]
    refine (List.map_id ys).symm.trans (List.map_congr_left fun y hy => ?_)
    obtain ⟨c, _, rfl⟩ := List.mem_map.mp (hp.mem_iff.mp hy)
    rfl
  have pm : (ys.map hdZ).Perm cs := by
    have := hp.map hdZ
    rw [map_hd] at this
    exact this
  refine ⟨ys.map hdZ, e, pm, ?_⟩
  have nd : (ys.map hdZ).Nodup := pm.nodup_iff.mpr hn
  rw [e] at hs
  generalize ys.map hdZ = ds at hs nd
  cases ds with
  | nil => exact .nil
  | cons d r => exact rising_lt r d hs nd
section
variable {P : Program} {w : World} {K : PySem.W.Frag} {mg : Str → Option Value} {base : Heap}
theorem ok_signs {f : Addr} {fd : FuncData} {k : Nat} (F : Fun K "_law_signs" "_law_signs" sLSigns f fd) (T : Txt mg)
    (C__law_pull : Cal P w K mg base k "_law_pull" ["_law_bag_here", "_law_many"] spPull) (C__law_of : Cal P w K mg base k "_law_of" ["_law_bag_here", "_law_things"] (spOf K)) (C__law_letters : Cal P w K mg base k "_law_letters" [] spLetters) :
    FnOk P w K mg base CX0 (k + 1) f fd ["_law_bag_here", "_law_limit"] spSigns := by
  refine F.ok sc__law_signs (fun vs H Q E h => ?_) (fun cdv A outer s H vs Q E hr h => ?_)
  · obtain ⟨a, l, m, rfl, _⟩ := h
    rfl
  · obtain ⟨a, l, m, rfl, hB, m0, m1, q⟩ := h
    refine ⟨_, (pss_cons (ps_asg (pe_tup (pa_cons (pe_callC C__law_pull hr (by rfl) (pa_cons (pv 0) (pa_cons pe_int pa_nil))) (pa_cons (pe_callC C__law_of hr (by rfl) (pa_cons (pv 0) (pa_cons (pe_lst (pa_cons pe_int (pa_cons pe_int (pa_cons pe_int (pa_cons pe_int pa_nil))))) pa_nil))) pa_nil))) (pg_tup rfl (pgs_cons (pg_name (i := 2) sc__law_signs.nd rfl (.inr rfl)) (pgs_cons (pg_name (i := 3) sc__law_signs.nd rfl (.inr rfl)) pgs_nil))))
    (pss_cons (ps_asg (pe_tup (pa_cons (pe_op op_add pe_int (pe_callC C__law_pull hr (by rfl) (pa_cons (pv 0) (pa_cons (pv 1) pa_nil)))) (pa_cons (pe_callC0 C__law_letters hr (by rfl)) pa_nil))) (pg_tup rfl (pgs_cons (pg_name (i := 4) sc__law_signs.nd rfl (.inl rfl)) (pgs_cons (pg_name (i := 5) sc__law_signs.nd rfl (.inr rfl)) pgs_nil))))
    (pss_one (ps_ret (pe_callB cr_sortedS (by rfl) T.m_sorted (by decide +kernel) (pa_cons (pe_lc (own := [("_law_k", 6)]) (g := (gName 6)) (by rfl) sc__law_signs.nd (pi_range1 (by rfl) T.m_range (pa_cons (pv 4) pa_nil)) (blkOk_by (own := [("_law_k", 6)]) (N := ["_law_bag_here", "_law_limit", "_law_start", "_law_step", "_law_many", "_law_letters_here", "_law_k"]) (sc := defScope sLSigns) (by decide +kernel)) (fun _ _ _ _ _ => (pg_name (i := 6) sc__law_signs.nd rfl (Or.inl rfl))) (fun _ _ _ _ _ => pts_nil) (fun _ _ _ _ _ => (pe_ix ix_str (pv 5) (pe_op op_mod (pe_op op_add (pv 2) (pe_op op_mul (pv 3) (pv 6))) pe_int) (fun _ _ => rfl)))) pa_nil)))))), ?_⟩
    -- start, step
    refine ⟨.ref a, rfl, a, l, 26, rfl, hB, by decide, by decide, fun st H1 s0 s1 hB1 k1 => ?_⟩
    refine ⟨.ref a, rfl, by show 4 ≤ sizeLine; decide, fun p2 np2 => ?_⟩
    refine ⟨a, l, _, _, rfl, hB1.upd (hB1.ne np2), .inl ⟨p2, rfl, (hB1.ne np2).1.symm, .inl (.of upd_same)⟩, by decide, by decide, fun v H2 hv hB2 k2 => ?_⟩
    obtain ⟨t, rfl, ht⟩ := odd_of hv
    refine ⟨by show 2 ≤ sizeLine; decide, fun p3 np3 => ?_⟩
    have hB3 := hB2.upd (o := .tup [V.int st, V.int t]) (hB2.ne np3)
    have k3 : Keep a H (upd H2 p3 (.tup [V.int st, V.int t])) := (k1.trans ((Keep.of_same (same_new np2)).trans k2)).trans (Keep.of_same (same_new np3))
    refine ⟨p3, _, rfl, .of upd_same, rfl, _, _, rfl, _, _, rfl, rfl, ?_⟩
    -- many, letters
    refine ⟨.ref a, rfl, .int m, rfl, a, l, m, rfl, hB3, by omega, by omega, fun n H4 n0 n1 hB4 k4 => ⟨1, n, rfl, rfl, rfl, fun H5 s5 => ⟨by show 2 ≤ sizeLine; decide, fun p6 np6 => ?_⟩⟩⟩
    have hB5 := hB4.same s5
    have hB6 := hB5.upd (o := .tup [V.int (1 + n), V.str ⟨lets.toArray⟩]) (hB5.ne np6)
    have k6 : Keep a H (upd H5 p6 (.tup [V.int (1 + n), V.str ⟨lets.toArray⟩])) := ((k3.trans k4).trans (Keep.of_same s5)).trans (Keep.of_same (same_new np6))
    refine ⟨p6, _, rfl, .of upd_same, rfl, _, _, rfl, _, _, rfl, rfl, ?_⟩
    -- the signs
    refine ⟨.int (1 + n), rfl, 1 + n, rfl, by omega, by omega, fun D nD => ?_⟩
    refine lc_it walk_range0 (fun i H' => BagAt H' a l ∧ Keep a H H' ∧ H' D = some (.lst ((((List.range i).map fun j : Nat => 97 + ((st + t * (j : Int)) % 26).toNat).map single).map V.str))) ⟨hB6.upd (hB6.ne nD), k6.trans (Keep.of_same (same_new nD)), upd_same⟩ (fun _ _ _ _ => True.intro) (fun i x H7 H8 hi hP hy => ?_) (fun H7 hP => ?_)
    · obtain ⟨hB7, k7, eD⟩ := hP
      obtain ⟨rfl, rfl⟩ := hy
      have n0 := Int.emod_nonneg (st + t * (i : Int)) (show (26 : Int) ≠ 0 by decide)
      have n1 := Int.emod_lt_of_pos (st + t * (i : Int)) (show (0 : Int) < 26 by decide)
      obtain ⟨l1, l2⟩ := lets_at n0 n1
      have nD0 : H D = none := by
        cases h : H D with
        | none => rfl
        | some o =>
          by_cases e : D = a
          · exact absurd e.symm (hB6.ne nD).1
          · rw [k6 D o e h] at nD
            cases nD
      refine ⟨rfl, yes_of (iteT ?_)⟩
      refine ⟨.str ⟨lets.toArray⟩, rfl, .int st, rfl, .int t, rfl, _, rfl, t, (i : Int), rfl, rfl, .inl ⟨by omega, by omega⟩, st, _, rfl, rfl, _, 26, rfl, rfl, (by show (0 : Int) < 26; decide), ⟨lets.toArray⟩, _, 97 + ((st + t * (i : Int)) % 26).toNat, rfl, rfl, (by decide), atI_of n0 (by rw [List.toList_toArray]; exact l1), ?_⟩
      refine ⟨_, eD, ?_, hB7.upd (hB6.ne nD), Keep.mut k7 nD0, ?_⟩
      · rw [List.length_map, List.length_map, List.length_map, List.length_range]
        exact small_lt (by omega)
      · rw [upd_same, List.range_succ, List.map_append, List.map_append, List.map_append]
        rfl
    · obtain ⟨hB7, k7, eD⟩ := hP
      refine ⟨D, _, rfl, .of eD, ?_, fun ys p pm hs np => ?_⟩
      · rw [List.length_map, List.length_map, List.length_range]
        omega
      have nd : ((List.range (1 + n).toNat).map fun j : Nat => 97 + ((st + t * (j : Int)) % 26).toNat).Nodup := by
        rw [List.nodup_iff_pairwise_ne, List.pairwise_map]
        refine List.Pairwise.imp_of_mem (fun {i j} hi hj hij e => hij ?_) (List.nodup_iff_pairwise_ne.mp List.nodup_range)
        have hi := List.mem_range.mp hi
        have hj := List.mem_range.mp hj
        have m1 := Int.emod_nonneg (st + t * (i : Int)) (show (26 : Int) ≠ 0 by decide)
        have m2 := Int.emod_nonneg (st + t * (j : Int)) (show (26 : Int) ≠ 0 by decide)
        exact mod_apart (s := st) (t := t) ht (by omega) (by omega) (by omega)
      obtain ⟨ds, rfl, pd, hlt⟩ := sorted_singles pm hs nd
      have hlen : ds.length = (1 + n).toNat := by
        rw [pd.length_eq, List.length_map, List.length_range]
      have np0 : H p = none := by
        cases h : H p with
        | none => rfl
        | some o =>
          by_cases e : p = a
          · exact absurd e.symm (hB7.ne np).1
          · rw [k7 p o e h] at np
            cases np
      refine q p ds _ np0 (by omega) (by omega) (fun c hc => ?_) hlt upd_same (hB7.upd (hB7.ne np)) (k7.trans (Keep.of_same (same_new np)))
      obtain ⟨j, _, rfl⟩ := List.mem_map.mp (pd.mem_iff.mp hc)
      exact (lets_at (Int.emod_nonneg _ (by decide)) (Int.emod_lt_of_pos _ (by decide))).2
end
end Ink
namespace Ink
open PySem PySem.Spec PyProof.Rows L2
/-- an arrow: place, sign, place -/
abbrev Arw := Int × Str × Int
def ArwAt (H : Hp) (p : Addr) (x : Arw) : Prop := H p = some (.tup [.int x.1, .str x.2.1, .int x.2.2])
def ArsAt (H : Hp) (ps : List Addr) (ar : List Arw) : Prop := Paired (ArwAt H) ps ar
theorem tup_ne {H : Hp} {a l p : Addr} {xs : List V} (b : BagAt H a l) (h : H p = some (.tup xs)) : p ≠ a := by
  obtain ⟨ns, x, y, z, h1, _⟩ := b
  exact fun e => by
    rw [e, h1] at h
    cases h
theorem ArsAt.keep {H H' : Hp} {a l : Addr} {ps : List Addr} {ar : List Arw} (b : BagAt H a l) (k : Keep a H H') (h : ArsAt H ps ar) : ArsAt H' ps ar := L2.Paired.mapP h fun p x hx => k p _ (tup_ne b hx) hx
theorem ArsAt.same {H H' : Hp} {ps : List Addr} {ar : List Arw} (k : Same H H') (h : ArsAt H ps ar) : ArsAt H' ps ar := L2.Paired.mapP h fun p x hx => k p _ hx
theorem prd_snoc {α β : Type} {F : α → β → Prop} : ∀ {xs : List α} {ys : List β} {x : α} {y : β}, Paired F xs ys → F x y → Paired F (xs ++ [x]) (ys ++ [y])
  | _, _, _, _, .nil, h => .cons h .nil
  | _, _, _, _, .cons r t, h => .cons r (prd_snoc t h)
def goodA (x : Arw) : Prop := 0 ≤ x.1 ∧ x.1 ≤ 2 ∧ (∃ c ∈ lets, x.2.1 = single c) ∧ 0 ≤ x.2.2 ∧ x.2.2 ≤ 2
def lessA (x y : Arw) : Prop := x.1 < y.1 ∨ (x.1 = y.1 ∧ x.2.1.cps.toList < y.2.1.cps.toList)
/-- what a drawn writer has -/
structure GoodW (z : Str) (ar : List Arw) (p c : Int) : Prop where
  name : NameZ z
  len : ar.length ≤ 9
  each : ∀ x ∈ ar, goodA x
  rise : ar.Pairwise lessA
  p0 : 0 ≤ p
  p3 : p ≤ 3
  c0 : 0 ≤ c
  c3 : c ≤ 3
def WrAt (H : Hp) (W : Addr) (z : Str) (ar : List Arw) (p c : Int) : Prop := ∃ tp ps, H W = some (.tup [.str z, .ref tp, .int p, .int c]) ∧ H tp = some (.tup (ps.map V.ref)) ∧ ArsAt H ps ar
theorem WrAt.keep {H H' : Hp} {a l W : Addr} {z : Str} {ar : List Arw} {p c : Int} (b : BagAt H a l) (k : Keep a H H') (h : WrAt H W z ar p c) : WrAt H' W z ar p c := by
  obtain ⟨tp, ps, h1, h2, h3⟩ := h
  exact ⟨tp, ps, k _ _ (tup_ne b h1) h1, k _ _ (tup_ne b h2) h2, h3.keep b k⟩
theorem WrAt.same {H H' : Hp} {W : Addr} {z : Str} {ar : List Arw} {p c : Int} (k : Same H H') (h : WrAt H W z ar p c) : WrAt H' W z ar p c := by
  obtain ⟨tp, ps, h1, h2, h3⟩ := h
  exact ⟨tp, ps, k _ _ h1, k _ _ h2, h3.same k⟩
theorem Keep.free {a D : Addr} {H H' : Hp} (k : Keep a H H') (n : a ≠ D) (h : H' D = none) : H D = none := by
  cases e : H D with
  | none => rfl
  | some o =>
    rw [k D o n.symm e] at h
    cases h
def spWriter : Sp := fun vs H Q _ => ∃ (a l : Addr) (z : Str) (m : Int) (sp : Addr) (cs : List Nat) (th : Int), vs = [.ref a, .str z, .int m, .ref sp, .int th] ∧ BagAt H a l ∧ NameZ z ∧ 1 ≤ m ∧ m ≤ 3 ∧
  H sp = some (.lst ((cs.map single).map V.str)) ∧ sp ≠ a ∧ (∀ c ∈ cs, c ∈ lets) ∧ cs.Pairwise (· < ·) ∧ ∀ W ar p c H', H W = none → WrAt H' W z ar p c → GoodW z ar p c → BagAt H' a l → Keep a H H' → Q (.ref W) H'
section
variable {P : Program} {w : World} {K : PySem.W.Frag} {mg : Str → Option Value} {base : Heap}
theorem count_of {v : V} (h : v ∈ [V.int 0, V.int 0, V.int 0, V.int 1, V.int 2, V.int 3]) : ∃ t : Int, v = .int t ∧ 0 ≤ t ∧ t ≤ 3 := by
  simp only [List.mem_cons, List.not_mem_nil, or_false] at h
  rcases h with rfl | rfl | rfl | rfl | rfl | rfl <;> exact ⟨_, rfl, by decide, by decide⟩
theorem pair_get {cs : List Nat} (hp : cs.Pairwise (· < ·)) {i j x y : Nat} (hi : cs[i]? = some x) (hj : cs[j]? = some y) (h : i < j) : x < y := by
  obtain ⟨h1, e1⟩ := List.getElem?_eq_some_iff.mp hi
  obtain ⟨h2, e2⟩ := List.getElem?_eq_some_iff.mp hj
  have := (List.pairwise_iff_getElem.mp hp) i j h1 h2 h
  rw [e1, e2] at this
  exact this
/-- the lines so far, ahead of the j-th sign at the place i -/
def Lines (cs : List Nat) (i j : Nat) (ar : List Arw) : Prop := ar.length ≤ 9 ∧ (∀ x ∈ ar, goodA x) ∧ ar.Pairwise lessA ∧ ∀ x ∈ ar, x.1 < (i : Int) ∨ (x.1 = (i : Int) ∧ ∃ (j' c : Nat), j' < j ∧ cs[j']? = some c ∧ x.2.1 = single c)
theorem Lines.next {cs : List Nat} {i j : Nat} {ar : List Arw} (h : Lines cs i j ar) : Lines cs i (j + 1) ar := by
  obtain ⟨h1, h2, h3, h4⟩ := h
  refine ⟨h1, h2, h3, fun x hx => ?_⟩
  rcases h4 x hx with h | ⟨e, j', c, h5, h6⟩
  · exact .inl h
  · exact .inr ⟨e, j', c, by omega, h6⟩
theorem Lines.row {cs : List Nat} {i j : Nat} {ar : List Arw} (h : Lines cs i j ar) : Lines cs (i + 1) 0 ar := by
  obtain ⟨h1, h2, h3, h4⟩ := h
  refine ⟨h1, h2, h3, fun x hx => .inl ?_⟩
  rcases h4 x hx with h | ⟨e, _⟩ <;> omega
theorem Lines.more {cs : List Nat} {i j c : Nat} {t : Int} {ar : List Arw} (h : Lines cs i j ar) (hl : ar.length < 9) (hc : cs[j]? = some c) (hm : c ∈ lets) (hp : cs.Pairwise (· < ·)) (hi : i ≤ 2) (t0 : 0 ≤ t) (t1 : t ≤ 2) : Lines cs i (j + 1) (ar ++ [((i : Int), single c, t)]) := by
  obtain ⟨h1, h2, h3, h4⟩ := h
  refine ⟨by rw [List.length_append, List.length_singleton]; omega, fun x hx => ?_, ?_, fun x hx => ?_⟩
  · rcases List.mem_append.mp hx with hx | hx
    · exact h2 x hx
    · rw [List.mem_singleton.mp hx]
      exact ⟨by show (0 : Int) ≤ (i : Int); omega, by show ((i : Int)) ≤ 2; omega, ⟨c, hm, rfl⟩, t0, t1⟩
  · refine List.pairwise_append.mpr ⟨h3, List.pairwise_singleton _ _, fun x hx y hy => ?_⟩
    rw [List.mem_singleton.mp hy]
    rcases h4 x hx with h | ⟨e, j', d, h5, h6, h7⟩
    · exact .inl h
    · refine .inr ⟨e, ?_⟩
      show x.2.1.cps.toList < (single c).cps.toList
      rw [h7]
      exact (lt_one d c).mpr (pair_get hp h6 hc h5)
  · rcases List.mem_append.mp hx with hx | hx
    · rcases h4 x hx with h | ⟨e, j', d, h5, h6⟩
      · exact .inl h
      · exact .inr ⟨e, j', d, by omega, h6⟩
    · rw [List.mem_singleton.mp hx]
      exact .inr ⟨rfl, j, c, by omega, hc, rfl⟩
theorem ok_writer {f : Addr} {fd : FuncData} {k : Nat} (F : Fun K "_law_writer" "_law_writer" sLWriter f fd) (T : Txt mg)
    (C__law_pull : Cal P w K mg base k "_law_pull" ["_law_bag_here", "_law_many"] spPull) (C__law_of : Cal P w K mg base k "_law_of" ["_law_bag_here", "_law_things"] (spOf K)) :
    FnOk P w K mg base CX0 (k + 1) f fd ["_law_bag_here", "_law_name", "_law_places", "_law_signs_here", "_law_thick"] spWriter := by
  refine F.ok sc__law_writer (fun vs H Q E h => ?_) (fun cdv A outer s H vs Q E hr h => ?_)
  · obtain ⟨a, l, z, m, sp, cs, th, rfl, _⟩ := h
    rfl
  · obtain ⟨a, l, z, m, sp, cs, th, rfl, hB, hz, m0, m1, hsp, nsp, hcs, hrise, q⟩ := h
    refine ⟨_, (pss_cons (ps_set (i := 5) sc__law_writer.nd rfl (.inl rfl) (pe_lst pa_nil))
    (pss_cons (ps_for PassesOwn.never rfl (pi_range1 (by rfl) T.m_range (pa_cons (pv 2) pa_nil)) (pg_name (i := 6) sc__law_writer.nd rfl (.inl rfl))
    (pss_one (ps_for PassesOwn.never rfl (pi_list (pv 3)) (pg_name (i := 7) sc__law_writer.nd rfl (.inl rfl))
    (pss_one (ps_if (PW.pt (pw_and (pt_cmpR op_lt (pe_callB call_len (by rfl) T.m_len PySem.boot_len (pa_cons (pv 5) pa_nil)) pe_int (nomark _)) (pw_and1 (pt_cmpR op_lt (pe_callC C__law_pull hr (by rfl) (pa_cons (pv 0) (pa_cons pe_int pa_nil))) (pv 4) (nomark _)))))
    (pss_one (ps_expr (pe_bm PySem.F.plainAttrs_list PySem.F.slot_list_append PySem.F.type_list_append mt_append (pv 5) (pa_cons (pe_tup (pa_cons (pv 6) (pa_cons (pv 7) (pa_cons (pe_callC C__law_pull hr (by rfl) (pa_cons (pv 0) (pa_cons (pv 2) pa_nil))) pa_nil)))) pa_nil)))) pss_nil)))))
    (pss_cons (ps_set (i := 8) sc__law_writer.nd rfl (.inl rfl) (pe_lst (pa_cons pe_int (pa_cons pe_int (pa_cons pe_int (pa_cons pe_int (pa_cons pe_int (pa_cons pe_int pa_nil))))))))
    (pss_one (ps_ret (pe_tup (pa_cons (pv 1) (pa_cons (pe_callTy call_tuple_of (by rfl) T.m_tuple (by decide +kernel) (pa_cons (pv 5) pa_nil)) (pa_cons (pe_callC C__law_of hr (by rfl) (pa_cons (pv 0) (pa_cons (pv 8) pa_nil))) (pa_cons (pe_callC C__law_of hr (by rfl) (pa_cons (pv 0) (pa_cons (pv 8) pa_nil))) pa_nil)))))))))), ?_⟩
    refine ⟨by show 0 ≤ sizeLine; decide, fun ln nln => ?_⟩
    have nl := hB.ne nln
    have nls : sp ≠ ln := ne_of_none hsp nln
    refine ⟨.int m, rfl, m, rfl, by omega, by omega, for_it walk_range0 (fun i σ H' => (∃ y6 y7 y8, σ = [some (.ref a), some (.str z), some (.int m), some (.ref sp), some (.int th), some (.ref ln), y6, y7, y8]) ∧ BagAt H' a l ∧ Keep a H H' ∧
      ∃ ps ar, H' ln = some (.lst (ps.map V.ref)) ∧ ArsAt H' ps ar ∧ Lines cs i 0 ar) ⟨⟨none, none, none, rfl⟩, hB.upd nl, Keep.mut (Keep.refl H) nln, [], [], upd_same, .nil, by decide, (fun _ h => nomatch h), .nil, (fun _ h => nomatch h)⟩ (fun _ _ _ _ _ => True.intro) (fun i x σ H1 H2 hi hP hy => ?_) (fun σ H1 hP => ?_)⟩
    · obtain ⟨⟨y6, y7, y8, rfl⟩, hB1, k1, ps, ar, eln, hps, hL⟩ := hP
      obtain ⟨rfl, rfl⟩ := hy
      have es : ∀ H', Keep a H H' → H' sp = some (.lst ((cs.map single).map V.str)) := fun H' k => k sp _ nsp hsp
      refine ⟨.ref sp, rfl, sp, rfl, ⟨_, .of (es _ k1)⟩, for_it (walk_list (xs := (cs.map single).map V.str)) (fun j σ H' => (∃ y7 y8, σ = [some (.ref a), some (.str z), some (.int m), some (.ref sp), some (.int th), some (.ref ln), some (.int (i : Int)), y7, y8]) ∧ BagAt H' a l ∧ Keep a H H' ∧
        ∃ ps ar, H' ln = some (.lst (ps.map V.ref)) ∧ ArsAt H' ps ar ∧ Lines cs i j ar) ⟨⟨_, _, rfl⟩, hB1, k1, ps, ar, eln, hps, hL⟩ (fun _ _ H' _ hP => .of (es _ hP.2.2.1)) (fun j x σ H3 H4 hj hP hy => ?_) (fun σ H3 hP => ?_)⟩
      · obtain ⟨⟨y7, y8, rfl⟩, hB3, k3, ps, ar, eln, hps, hL⟩ := hP
        obtain ⟨rfl, hx⟩ := hy
        obtain ⟨c, hc, rfl⟩ : ∃ c, cs[j]? = some c ∧ x = .str (single c) := by
          rw [List.getElem?_map, List.getElem?_map] at hx
          cases h : cs[j]? with
          | none =>
            rw [h] at hx
            cases hx
          | some c =>
            rw [h] at hx
            exact ⟨c, rfl, (Option.some.inj hx).symm⟩
        have hm : c ∈ lets := hcs c (List.mem_of_getElem? hc)
        have elen : ps.length = ar.length := Paired.length hps
        -- len(lines) < 9
        refine ⟨.ref ln, rfl, .ref ln, _, rfl, .inl ⟨_, .of eln, rfl⟩, _, _, rfl, rfl, _, rfl, ite2 (fun e => ?_) (fun e => ?_)⟩
        · have e : (((ps.map V.ref).length : Nat) : Int) < 9 := of_decide_eq_true e
          rw [List.length_map] at e
          refine ⟨.ref a, rfl, a, l, 8, rfl, hB3, by decide, by decide, fun r H5 _ _ hB5 k5 => ⟨.int th, rfl, _, _, rfl, rfl, _, rfl, ite2 (fun e2 => ?_) (fun e2 => ?_)⟩⟩
          · refine ⟨.ref ln, rfl, .inl ⟨rfl, _, .of (k5 ln _ nl.1.symm eln)⟩, _, rfl, _, rfl, .ref a, rfl, .int m, rfl, a, l, m, rfl, hB5, by omega, by omega, fun t H6 t0 t1 hB6 k6 => ⟨by show 3 ≤ sizeLine; decide, fun p np => ?_⟩⟩
            have hps5 := hps.keep hB3 k5
            have hps6 := (hps5.keep hB5 k6).same (same_new (o := .tup [V.int (i : Int), V.str (single c), V.int t]) np)
            have eln6 := k6 ln _ nl.1.symm (k5 ln _ nl.1.symm eln)
            have npl : ln ≠ p := ne_of_none eln6 np
            refine ⟨ln, _, _, rfl, rfl, (same_new np ln _ eln6), by rw [List.length_map]; exact small_lt (by omega), ⟨_, _, rfl⟩, (hB6.upd (hB6.ne np)).upd nl, Keep.mut ((k3.trans (k5.trans k6)).trans (Keep.of_same (same_new np))) nln, ps ++ [p], ar ++ [((i : Int), single c, t)], ?_, ?_, hL.more (by omega) hc hm hrise (by omega) t0 (by omega)⟩
            · rw [upd_same, List.map_append]
              rfl
            · refine prd_snoc (L2.Paired.mapP hps6 fun p' x' hx' => ?_) ?_
              · show upd _ ln _ p' = _
                rw [upd_ne (ne_of hx' (same_new np ln _ eln6) (by intro z; cases z))]
                exact hx'
              · show upd _ ln _ p = _
                rw [upd_ne npl.symm, upd_same]
          · exact ⟨⟨_, _, rfl⟩, hB5, k3.trans k5, ps, ar, k5 ln _ nl.1.symm eln, hps.keep hB3 k5, hL.next⟩
        · exact iteF ⟨⟨_, _, rfl⟩, hB3, k3, ps, ar, eln, hps, hL.next⟩
      · obtain ⟨⟨y7, y8, rfl⟩, hB3, k3, ps, ar, eln, hps, hL⟩ := hP
        exact ⟨⟨_, _, _, rfl⟩, hB3, k3, ps, ar, eln, hps, hL.row⟩
    · obtain ⟨⟨y6, y7, y8, rfl⟩, hB1, k1, ps, ar, eln, hps, hL⟩ := hP
      -- counts
      refine ⟨by show 6 ≤ sizeLine; decide, fun cp ncp => ?_⟩
      have hB2 := hB1.upd (o := .lst [V.int 0, .int 0, .int 0, .int 1, .int 2, .int 3]) (hB1.ne ncp)
      have k2 := Keep.of_same (a := a) (same_new (o := .lst [V.int 0, .int 0, .int 0, .int 1, .int 2, .int 3]) ncp)
      have ncpa : cp ≠ a := (hB1.ne ncp).1.symm
      -- the tuple of lines
      refine ⟨.str z, rfl, .ref ln, rfl, ln, _, rfl, .inl ⟨.of (k2 ln _ nl.1.symm eln), fun tp ntp => ?_⟩⟩
      have hB3 := hB2.upd (o := .tup (ps.map V.ref)) (hB2.ne ntp)
      have k3 := Keep.of_same (a := a) (same_new (o := .tup (ps.map V.ref)) ntp)
      refine ⟨.ref a, rfl, .ref cp, rfl, a, l, _, _, rfl, hB3, .inl ⟨cp, rfl, ncpa, .inl (.of (k3 cp _ ncpa upd_same))⟩, by decide, by decide, fun v H4 hv hB4 k4 => ?_⟩
      obtain ⟨p, rfl, p0, p3⟩ := count_of hv
      refine ⟨.ref a, rfl, .ref cp, rfl, a, l, _, _, rfl, hB4, .inl ⟨cp, rfl, ncpa, .inl (.of (k4 cp _ ncpa (k3 cp _ ncpa upd_same)))⟩, by decide, by decide, fun v H5 hv hB5 k5 => ?_⟩
      obtain ⟨c, rfl, c0, c3⟩ := count_of hv
      refine ⟨by show 4 ≤ sizeLine; decide, fun W nW => ?_⟩
      have k25 := (k2.trans k3).trans (k4.trans k5)
      have k6 := Keep.of_same (a := a) (same_new (o := .tup [V.str z, .ref tp, .int p, .int c]) nW)
      have nW1 : H W = none := (k1.trans k25).free (hB5.ne nW).1 nW
      refine q W ar p c _ nW1 ⟨tp, ps, upd_same, ?_, ?_⟩ ⟨hz, hL.1, hL.2.1, hL.2.2.1, p0, p3, c0, c3⟩ (hB5.upd (hB5.ne nW)) ((k1.trans k25).trans k6)
      · exact k6 tp _ (hB2.ne ntp).1.symm ((k4.trans k5) tp _ (hB2.ne ntp).1.symm upd_same)
      · exact (hps.keep hB1 k25).keep hB5 k6
end
end Ink
namespace Ink
open PySem PySem.Spec PyProof.Rows L2
/-- (i, x) < (j, y) -/
def ltIS (i : Int) (x : Str) (j : Int) (y : Str) : Bool := if i = j then (if x = y then false else decide (x.cps.toList < y.cps.toList)) else decide (i < j)
def rLtIS (K : PySem.W.Frag) : R2 := fun u v H Q => ∃ a b i x j y, u = .ref a ∧ v = .ref b ∧ SqT K H a [.int i, .str x] ∧ SqT K H b [.int j, .str y] ∧ Q (.bl (ltIS i x j y)) H
theorem op_ltIS {X : Cx} (hu : X.A.units < cLine) : OpR X (compareOp .Lt) (rLtIS X.K) := by
  intro pins s σ H u v uu vv Q I ru rv h
  obtain ⟨a, b, i, x, j, y, rfl, rfl, ha, hb, q⟩ := h
  cases ru
  cases rv
  obtain ⟨its, r1, p1, _⟩ := I.tuple ha
  obtain ⟨its2, r2, p2, _⟩ := I.tuple hb
  cases r1 with
  | cons q1 r1 =>
  cases r1 with
  | cons q2 r1 =>
  cases r1
  cases r2 with
  | cons q3 r2 =>
  cases r2 with
  | cons q4 r2 =>
  cases r2
  obtain ⟨t1, rfl⟩ := q1
  obtain ⟨t2, rfl⟩ := q2
  obtain ⟨t3, rfl⟩ := q3
  obtain ⟨t4, rfl⟩ := q4
  have R := Ob.RcOp.tuples_lt (A := X.A) (s := s) (e := fun n => if n = 0 then i == j else x == y) (r := fun n => if n = 0 then decide (i < j) else decide (x.cps.toList < y.cps.toList)) p1 p2 hu
    (fun n h1 h2 => by
      have hn : n = 0 ∨ n = 1 := by
        have : n < 2 := h1
        omega
      rcases hn with rfl | rfl
      · exact SeqAt.EqAt.int_int i t1 j t3
      · exact SeqAt.EqAt.str_str x t2 y t4)
    (fun n h1 h2 _ => by
      have hn : n = 0 ∨ n = 1 := by
        have : n < 2 := h1
        omega
      rcases hn with rfl | rfl
      · exact Ob.RcOp.lt_int i j t1 t3
      · exact fun _ _ _ _ h => PySem.P.lt_str h)
  refine R _ _ _ _ ⟨.bl (ltIS i x j y), H, I, ?_, q⟩
  show Value.bool _ = Value.bool _
  congr 1
  show (if (i == j) = true then (if (x == y) = true then decide ((2 : Nat) < 2) else decide (x.cps.toList < y.cps.toList)) else decide (i < j)) = ltIS i x j y
  unfold ltIS
  by_cases h : i = j
  · rw [if_pos (beq_iff_eq.mpr h), if_pos h]
    by_cases h2 : x = y
    · rw [if_pos (beq_iff_eq.mpr h2), if_pos h2]
      rfl
    · rw [if_neg (fun z => h2 (beq_iff_eq.mp z)), if_neg h2]
  · rw [if_neg (fun z => h (beq_iff_eq.mp z)), if_neg h]
end Ink
namespace Ink
open PySem PySem.Spec PyProof.Rows L2
section
variable {P : Program} {w : World} {K : PySem.W.Frag} {mg : Str → Option Value} {base : Heap}
theorem ok_is_sign {f : Addr} {fd : FuncData} {k : Nat} (F : Fun K "is_sign" "is_sign" sIsSign f fd) (T : Txt mg) : FnOk P w K mg base CX0 (k + 1) f fd ["text"] spSign := by
  refine F.ok sc_is_sign (fun vs H Q E h => ?_) (fun cdv A outer s H vs Q E hr h => ?_)
  · obtain ⟨z, rfl, _⟩ := h
    rfl
  · obtain ⟨z, rfl, hz, q⟩ := h
    refine ⟨_, (pss_one (ps_ret (pe_and (pe_cmpR op_eq (pe_callB call_len_str (by rfl) T.m_len PySem.boot_len (pa_cons (pv 0) pa_nil)) pe_int (nomark _)) (pe_one (pe_chain op_le_str op_le_str pe_str (pv 0) pe_str))))), ?_⟩
    refine (Evl.ev_andV (Evl.ev_op (ev_lenS (Evl.ev_var rfl) (by omega)) Evl.ev_c (Evl.rv_eq rfl)) fun _ => ev_chainS (f := fun x y => !decide (y.cps.toList < x.cps.toList)) (g := fun x y => !decide (y.cps.toList < x.cps.toList)) (fun x y H Q h => ⟨x, y, rfl, rfl, h⟩) (fun x y H Q h => ⟨x, y, rfl, rfl, h⟩) Evl.ev_c (Evl.ev_var rfl) Evl.ev_c) H (Same.refl H) _ fun H2 e2 => q H2 e2
theorem ok_is_name {f : Addr} {fd : FuncData} {k : Nat} (F : Fun K "is_name" "is_name" sIsName f fd) (T : Txt mg) (C_is_sign : Cal P w K mg base k "is_sign" ["text"] spSign) : FnOk P w K mg base CX0 (k + 1) f fd ["text"] spName := by
  refine F.ok sc_is_name (fun vs H Q E h => ?_) (fun cdv A outer s H vs Q E hr h => ?_)
  · obtain ⟨z, rfl, _⟩ := h
    rfl
  · obtain ⟨z, rfl, hz, q⟩ := h
    refine ⟨_, (pss_one (ps_ret (pe_and (pe_chain op_le op_le pe_int (pe_callB call_len_str (by rfl) T.m_len PySem.boot_len (pa_cons (pv 0) pa_nil)) (pe_globI (by rfl) T.e__MOST_LETTERS)) (pe_one (pe_callB (cr_all rfl) (by rfl) T.m_all (by decide +kernel) (pa_cons (pe_lc (own := [("letter", 1)]) (g := (gName 1)) (by rfl) sc_is_name.nd (pi_str (pv 0)) (blkOk_by (own := [("letter", 1)]) (N := ["text", "letter"]) (sc := defScope sIsName) (by decide +kernel)) (fun _ _ _ _ _ => (pg_name (i := 1) sc_is_name.nd rfl (Or.inl rfl))) (fun _ _ _ _ _ => pts_nil) (fun _ _ _ _ _ => (pe_callC C_is_sign hr (by rfl) (pa_cons (pv 1) pa_nil)))) pa_nil)))))), ?_⟩
    refine (Evl.ev_andV (ev_chainI (f := fun i j => decide (i ≤ j)) (g := fun i j => decide (i ≤ j)) Evl.ev_c (ev_lenS (Evl.ev_var rfl) (by omega)) Evl.ev_c) fun _ => ev_all (bs := z.cps.toList.map fun c => isSign ⟨#[c]⟩) ?_) H (Same.refl H) _ fun H2 e2 => q H2 e2
    rw [← bls_eq]
    refine el_lcS _ (Evl.ev_var rfl) (by omega) (fun _ => rfl) (fun c H1 e1 _ => ?_)
    exact ev_call (Evl.ea_cons (Evl.ev_var rfl) Evl.ea_nil) fun H2 Q2 _ q2 => ⟨_, rfl, by show 1 ≤ 1000; decide, q2⟩
end
end Ink
namespace Ink
open PySem PySem.Spec PyProof.Rows L2
def within (n m : Int) : Bool := decide (0 ≤ n) && decide (n ≤ m)
def okA (x : Arw) : Bool := within x.1 2 && (isSign x.2.1 && within x.2.2 2)
def ltAt (ar : List Arw) (k : Nat) : Bool := match ar[k]?, ar[k + 1]? with
  | some x, some y => ltIS x.1 x.2.1 y.1 y.2.1
  | _, _ => true
def riseB (ar : List Arw) : Bool := ((List.range (ar.length - 1)).map (ltAt ar)).all id
def areArr (ar : List Arw) : Bool := if (9 : Int) < (ar.length : Nat) then false else if (ar.map okA).all id = false then false else riseB ar
def isWr (z : Str) (ar : List Arw) (p c : Int) : Bool := isName z && (areArr ar && (within p 3 && within c 3))
/-- texts of arrows are short -/
def ShortA (ar : List Arw) : Prop := ar.length ≤ 1000 ∧ ∀ x ∈ ar, x.2.1.length ≤ 1000
def spCount : Sp := fun vs H Q _ => ∃ n : Int, vs = [.int n] ∧ ∀ H', Same H H' → Q (.bl (within n 3)) H'
def spPlace : Sp := fun vs H Q _ => ∃ n : Int, vs = [.int n] ∧ ∀ H', Same H H' → Q (.bl (within n 2)) H'
def spAre : Sp := fun vs H Q _ => ∃ (t : Addr) (ps : List Addr) (ar : List Arw), vs = [.ref t] ∧ H t = some (.tup (ps.map V.ref)) ∧ ArsAt H ps ar ∧ ShortA ar ∧ ∀ H', Same H H' → Q (.bl (areArr ar)) H'
/-- of any tuple: of four things a text, arrows, two numbers -/
def spIsWriter (g : Str → List Arw → Int → Int → Bool) : Sp := fun vs H Q _ => ∃ (t : Addr) (xs : List V), vs = [.ref t] ∧ H t = some (.tup xs) ∧ ((xs.length ≠ 4 ∧ ∀ H', Same H H' → Q (.bl false) H') ∨
  ∃ z tp ps ar p c, xs = [.str z, .ref tp, .int p, .int c] ∧ H tp = some (.tup (ps.map V.ref)) ∧ ArsAt H ps ar ∧ ShortA ar ∧ z.length ≤ 1000 ∧ ∀ H', Same H H' → Q (.bl (g z ar p c)) H')
theorem ArsAt.get {H : Hp} : ∀ {ps : List Addr} {ar : List Arw} {i : Nat} {p : Addr}, ArsAt H ps ar → ps[i]? = some p → ∃ x, ar[i]? = some x ∧ ArwAt H p x
  | _, _, _, _, .nil, h => by simp at h
  | _, _, 0, _, .cons r _, h => by
    have e := Option.some.inj h
    subst e
    exact ⟨_, rfl, r⟩
  | _, _, i + 1, p, .cons _ t, h => ArsAt.get (i := i) t h
theorem refs_at {ps : List Addr} {i : Nat} {v : V} (h : (ps.map V.ref)[i]? = some v) : ∃ p, ps[i]? = some p ∧ v = .ref p := by
  rw [List.getElem?_map] at h
  cases e : ps[i]? with
  | none =>
    rw [e] at h
    cases h
  | some p =>
    rw [e] at h
    exact ⟨p, rfl, (Option.some.inj h).symm⟩
theorem go_next {D : Ends} {σ : L2.St} {H : Hp} (h : D.nx σ H) : tNext D σ H := h
section
open Evl
/-- a comprehension over a tuple that stands, its items reckoned by their places -/
theorem el_lcT {K : PySem.W.Frag} {σ : L2.St} {H : Hp} {a : Addr} {xs : List V} {tl te : TE} {g : TG} {vs : List Nat} (f : Nat → V) (σf : Nat → L2.St) (h : Ev tl σ H (.ref a)) (hx : SqT K H a xs) (hz : xs.length ≤ 40000)
    (hg : ∀ i x H1, Ex H H1 → xs[i]? = some x → ∀ Q : L2.St → Hp → Prop, Q (σf i) H1 → g x (wipe σ vs) H1 Q) (hw : ∀ i, i < xs.length → wipe (σf i) vs = wipe σ vs)
    (he : ∀ i H1, Ex H H1 → i < xs.length → Ev te (σf i) H1 (f i)) : EvL (tLc (iTup K tl) g tYes te vs) σ H ((List.range xs.length).map f) := fun H0 e Q q => h H0 e _ fun H1 e1 => ⟨a, rfl, ⟨xs, ex_t (e.trans e1) hx⟩, fun D nD =>
  lc_it (walk_tup (xs := xs)) (fun i H' => Ex H1 H' ∧ H' D = some (.lst ((List.range i).map f))) ⟨Ex.new nD, upd_same⟩ (fun i H' _ hP => ex_t ((e.trans e1).trans hP.1) hx) (fun i v H2 H3 hi hP hy => by
    obtain ⟨rfl, hv⟩ := hy
    obtain ⟨s2, e2⟩ := hP
    refine hg i v H3 ((e.trans e1).trans s2) hv _ ⟨hw i hi, yes_of (iteT ?_)⟩
    refine he i H3 ((e.trans e1).trans s2) hi H3 (Ex.refl H3) _ fun H4 e4 => ⟨_, e4 _ _ e2, ?_, Ex.mut (s2.trans e4) nD, ?_⟩
    · rw [List.length_map, List.length_range]
      exact small_lt (by omega)
    · rw [upd_same, List.range_succ, List.map_append]
      rfl) (fun H' hP => q D H' (fresh_back e1 nD) (e1.trans hP.1) hP.2)⟩
end
theorem range_map {α : Type} (ar : List α) (f : α → Bool) (g : Nat → Bool) (h : ∀ i x, ar[i]? = some x → g i = f x) : (List.range ar.length).map g = ar.map f := by
  refine List.ext_getElem? fun i => ?_
  rw [List.getElem?_map, List.getElem?_map]
  by_cases hi : i < ar.length
  · rw [List.getElem?_range hi, List.getElem?_eq_getElem hi]
    exact congrArg some (h i _ (List.getElem?_eq_getElem hi))
  · rw [List.getElem?_eq_none (by rw [List.length_range]; omega), List.getElem?_eq_none (by omega)]
    rfl
section
variable {P : Program} {w : World} {K : PySem.W.Frag} {mg : Str → Option Value} {base : Heap}
theorem ok_count {f : Addr} {fd : FuncData} {k : Nat} (F : Fun K "_is_count" "_is_count" sIsCount f fd) (T : Txt mg) : FnOk P w K mg base CX0 (k + 1) f fd ["number"] spCount := by
  refine F.ok sc__is_count (fun vs H Q E h => ?_) (fun cdv A outer s H vs Q E hr h => ?_)
  · obtain ⟨n, rfl, _⟩ := h
    rfl
  · obtain ⟨n, rfl, q⟩ := h
    exact ⟨_, (pss_one (ps_ret (pe_chain op_le op_le pe_int (pv 0) (pe_globI (by rfl) T.e_MOST_COUNT)))), Evl.s_ret (ev_chainI (f := fun i j => decide (i ≤ j)) (g := fun i j => decide (i ≤ j)) Evl.ev_c (Evl.ev_var (by rfl)) Evl.ev_c) q⟩
theorem ok_place {f : Addr} {fd : FuncData} {k : Nat} (F : Fun K "_is_place" "_is_place" sIsPlace f fd) (T : Txt mg) : FnOk P w K mg base CX0 (k + 1) f fd ["number"] spPlace := by
  refine F.ok sc__is_place (fun vs H Q E h => ?_) (fun cdv A outer s H vs Q E hr h => ?_)
  · obtain ⟨n, rfl, _⟩ := h
    rfl
  · obtain ⟨n, rfl, q⟩ := h
    exact ⟨_, (pss_one (ps_ret (pe_chain op_le op_le pe_int (pv 0) (pe_globI (by rfl) T.e__LAST_PLACE)))), Evl.s_ret (ev_chainI (f := fun i j => decide (i ≤ j)) (g := fun i j => decide (i ≤ j)) Evl.ev_c (Evl.ev_var (by rfl)) Evl.ev_c) q⟩
theorem ok_are {f : Addr} {fd : FuncData} {k : Nat} (F : Fun K "_are_arrows" "_are_arrows" sAreArrows f fd) (T : Txt mg)
    (C__is_place : Cal P w K mg base k "_is_place" ["number"] spPlace) (C_is_sign : Cal P w K mg base k "is_sign" ["text"] spSign) : FnOk P w K mg base CX0 (k + 1) f fd ["arrows"] spAre := by
  refine F.ok sc__are_arrows (fun vs H Q E h => ?_) (fun cdv A outer s H vs Q E hr h => ?_)
  · obtain ⟨t, ps, ar, rfl, _⟩ := h
    rfl
  · obtain ⟨t, ps, ar, rfl, ht, hps, hsh, q⟩ := h
    refine ⟨_, (pss_cons (ps_if (pt_cmpR op_gt (pe_callB call_len (by rfl) T.m_len PySem.boot_len (pa_cons (pv 0) pa_nil)) (pe_globI (by rfl) T.e_MOST_ARROWS) (nomark _))
    (pss_one (ps_ret pe_bl)) pss_nil)
    (pss_cons (ps_if (pt_not (pt_val (pe_callB (cr_all rfl) (by rfl) T.m_all (by decide +kernel) (pa_cons (pe_lc (own := [("place", 2), ("sign", 3), ("to", 4)]) (g := (gTup K 3 (gCons (gName 2) (gCons (gName 3) (gCons (gName 4) gNil))))) (by rfl) sc__are_arrows.nd (pi_tup (pv 0)) (blkOk_by (own := [("place", 2), ("sign", 3), ("to", 4)]) (N := ["arrows", "heads", "place", "sign", "to", "_", "head", "following"]) (sc := defScope sAreArrows) (by decide +kernel)) (fun _ _ _ _ _ => (pg_tup rfl (pgs_cons (pg_name (i := 2) sc__are_arrows.nd rfl (.inl rfl)) (pgs_cons (pg_name (i := 3) sc__are_arrows.nd rfl (.inl rfl)) (pgs_cons (pg_name (i := 4) sc__are_arrows.nd rfl (.inl rfl)) pgs_nil))))) (fun _ _ _ _ _ => pts_nil) (fun _ _ _ _ _ => (pe_and (pe_callC C__is_place hr (by rfl) (pa_cons (pv 2) pa_nil)) (pe_and (pe_callC C_is_sign hr (by rfl) (pa_cons (pv 3) pa_nil)) (pe_one (pe_callC C__is_place hr (by rfl) (pa_cons (pv 4) pa_nil))))))) pa_nil))))
    (pss_one (ps_ret pe_bl)) pss_nil)
    (pss_cons (ps_setLc (i := 1) (own := [("place", 2), ("sign", 3), ("_", 5)]) (g := (gTup K 3 (gCons (gName 2) (gCons (gName 3) (gCons (gName 5) gNil))))) (by rfl) sc__are_arrows.nd rfl rfl (sw_true rfl rfl rfl (by decide +kernel)) (pi_tup (pv 0)) (blkOk_by (own := [("place", 2), ("sign", 3), ("_", 5)]) (N := ["arrows", "heads", "place", "sign", "to", "_", "head", "following"]) (sc := defScope sAreArrows) (by decide +kernel)) (fun _ _ _ _ _ => (pg_tup rfl (pgs_cons (pg_name (i := 2) sc__are_arrows.nd rfl (.inl rfl)) (pgs_cons (pg_name (i := 3) sc__are_arrows.nd rfl (.inl rfl)) (pgs_cons (pg_name (i := 5) sc__are_arrows.nd rfl (.inl rfl)) pgs_nil))))) (fun _ _ _ _ _ => pts_nil) (fun _ _ _ _ _ => (pe_tup (pa_cons (pv 2) (pa_cons (pv 3) pa_nil)))))
    (pss_one (ps_ret (pe_callB (cr_all rfl) (by rfl) T.m_all (by decide +kernel) (pa_cons (pe_lc (own := [("head", 6), ("following", 7)]) (g := (gTup K 2 (gCons (gName 6) (gCons (gName 7) gNil)))) (by rfl) sc__are_arrows.nd (pi_zip (by rfl) T.m_zip (pa_cons (pv 1) (pa_cons (pe_slice sl_list (pv 1) (po_some pe_int) po_none) pa_nil))) (blkOk_by (own := [("head", 6), ("following", 7)]) (N := ["arrows", "heads", "place", "sign", "to", "_", "head", "following"]) (sc := defScope sAreArrows) (by decide +kernel)) (fun _ _ _ _ _ => (pg_tup rfl (pgs_cons (pg_name (i := 6) sc__are_arrows.nd rfl (.inl rfl)) (pgs_cons (pg_name (i := 7) sc__are_arrows.nd rfl (.inl rfl)) pgs_nil)))) (fun _ _ _ _ _ => pts_nil) (fun _ _ _ _ _ => (pe_cmpR (show OpR _ _ (rLtIS K) from op_ltIS hr.units0) (pv 6) (pv 7) (nomark _)))) pa_nil))))))), ?_⟩
    have elen : ps.length = ar.length := Paired.length hps
    refine ⟨.ref t, rfl, .ref t, _, rfl, .inr ⟨_, .of ht, rfl⟩, _, _, rfl, rfl, _, rfl, ite2 (fun e => ?_) (fun e => ?_)⟩
    · have e : (9 : Int) < (((ps.map V.ref).length : Nat) : Int) := of_decide_eq_true e
      rw [List.length_map, elen] at e
      have h := q H (Same.refl H)
      unfold areArr at h
      rw [if_pos e] at h
      exact h
    · have e : ¬ (9 : Int) < (((ps.map V.ref).length : Nat) : Int) := fun h => e (decide_eq_true h)
      rw [List.length_map, elen] at e
      -- all([..])
      refine go_next ?_
      dsimp only
      refine Evl.q_when (b := !(ar.map okA).all id) (Evl.et_not (Evl.et_B (ev_all (bs := ar.map okA) ?_))) (fun hb H1 e1 => ?_) (fun hb H1 e1 => ?_)
      · rw [← range_map ar okA (fun i => match ar[i]? with | some x => okA x | none => true) (fun i x h => by rw [h]), ← elen, show ps.length = (ps.map V.ref).length from (List.length_map _).symm, ← bls_eq]
        refine el_lcT (a := t) (xs := ps.map V.ref) _ (fun i => match ar[i]? with | some x => [some (.ref t), none, some (.int x.1), some (.str x.2.1), some (.int x.2.2), none, none, none] | none => []) (Evl.ev_var (by rfl)) (.of ht) (by rw [List.length_map, elen]; have := hsh.1; omega) (fun i v H1 e1 hv Q2 q2 => ?_) (fun i hi => ?_) (fun i H1 e1 hi => ?_)
        · obtain ⟨p, hp, rfl⟩ := refs_at hv
          obtain ⟨x, hx, hpx⟩ := hps.get hp
          rw [hx] at q2
          exact ⟨p, _, rfl, .of (e1 _ _ hpx), rfl, _, _, rfl, _, _, rfl, _, _, rfl, rfl, q2⟩
        · rw [List.length_map, elen] at hi
          rw [List.getElem?_eq_getElem hi]
          rfl
        · rw [List.length_map, elen] at hi
          have hm := List.getElem_mem hi
          rw [List.getElem?_eq_getElem hi]
          generalize ar[i] = x at hm
          refine Evl.ev_andV (ev_call (Evl.ea_cons (Evl.ev_var (by rfl)) Evl.ea_nil) fun H2 Q2 _ q2 => ⟨_, rfl, q2⟩) fun _ => Evl.ev_andV (ev_call (Evl.ea_cons (Evl.ev_var (by rfl)) Evl.ea_nil) fun H2 Q2 _ q2 => ⟨_, rfl, hsh.2 x hm, q2⟩) fun _ => ev_call (Evl.ea_cons (Evl.ev_var (by rfl)) Evl.ea_nil) fun H2 Q2 _ q2 => ⟨_, rfl, q2⟩
      · have h := q H1 e1
        unfold areArr at h
        have hb2 : (ar.map okA).all id = false := by
          cases h : (ar.map okA).all id with
          | false => rfl
          | true =>
            rw [h] at hb
            cases hb
        rw [if_neg e, if_pos hb2] at h
        exact h
      · have hb2 : ¬ (ar.map okA).all id = false := fun h => by
          rw [h] at hb
          cases hb
        have hq : ∀ H', Same H1 H' → Q (.bl (riseB ar)) H' := fun H' s' => by
          have h := q H' (Same.trans e1 s')
          unfold areArr at h
          rw [if_neg e, if_neg hb2] at h
          exact h
        have ht1 := e1 _ _ ht
        have hps1 := hps.same e1
        -- heads
        refine ⟨.ref t, rfl, t, rfl, ⟨_, .of ht1⟩, fun D nD => ?_⟩
        refine lc_it (walk_tup (xs := ps.map V.ref)) (fun i H' => Same H1 H' ∧ ∃ qs : List Addr, H' D = some (.lst (qs.map V.ref)) ∧ qs.length = i ∧ ∀ j p, qs[j]? = some p → ∃ x : Arw, ar[j]? = some x ∧ H' p = some (.tup [.int x.1, .str x.2.1])) ⟨same_new nD, [], upd_same, rfl, fun j p h => by rw [List.getElem?_nil] at h; cases h⟩ (fun i H' _ hP => .of (hP.1 _ _ ht1)) (fun i v H2 H3 hi hP hy => ?_) (fun H2 hP => ?_)
        · obtain ⟨rfl, hv⟩ := hy
          obtain ⟨s2, qs, eD, rfl, hq2⟩ := hP
          obtain ⟨p, hp, rfl⟩ := refs_at hv
          obtain ⟨x, hx, hpx⟩ := hps1.get hp
          refine ⟨p, _, rfl, .of (s2 _ _ hpx), rfl, _, _, rfl, _, _, rfl, _, _, rfl, rfl, rfl, yes_of (iteT ?_)⟩
          refine ⟨_, rfl, _, rfl, by show 2 ≤ sizeLine; decide, fun p' np' => ⟨_, same_new np' _ _ eD, ?_, same_mut (s2.trans (same_new np')) nD, qs ++ [p'], ?_, ?_, fun j p2 hj => ?_⟩⟩
          · rw [List.length_map]
            rw [List.length_map, elen] at hi
            have := hsh.1
            exact small_lt (by omega)
          · rw [upd_same, List.map_append]
            rfl
          · rw [List.length_append]
            rfl
          · have nDp : ∀ p3 xs', H3 p3 = some (.tup xs') → p3 ≠ D := fun p3 xs' h3 => ne_of h3 eD (by intro z; cases z)
            by_cases hjl : j < qs.length
            · rw [List.getElem?_append_left hjl] at hj
              obtain ⟨y, hy1, hy2⟩ := hq2 j p2 hj
              exact ⟨y, hy1, by rw [upd_ne (nDp _ _ hy2)]; exact same_new np' _ _ hy2⟩
            · have hlt := (List.getElem?_eq_some_iff.mp hj).1
              rw [List.length_append, List.length_singleton] at hlt
              have ej : j = qs.length := by omega
              subst ej
              rw [List.getElem?_append_right (Nat.le_refl _), Nat.sub_self] at hj
              have hj := Option.some.inj hj
              subst hj
              exact ⟨x, hx, by rw [upd_ne (ne_of_none eD np').symm, upd_same]⟩
        · obtain ⟨s2, qs, eD, eq, hq2⟩ := hP
          rw [List.length_map, elen] at eq
          -- zip(heads, heads[1:])
          have hcut : cutV (qs.map V.ref) (some 1) none = (qs.drop 1).map V.ref := by
            unfold cutV
            rw [show HT.sIx (qs.map V.ref).length 0 (some 1) = min 1 (qs.map V.ref).length from HT.sIx_nat _ 0 1, HT.sIx_none, List.length_map]
            cases qs with
            | nil => rfl
            | cons x r =>
              rw [show min 1 (x :: r).length = 1 by rw [List.length_cons]; omega]
              show List.take ((x :: r).length - 1) (r.map V.ref) = r.map V.ref
              exact List.take_of_length_le (by rw [List.length_map, List.length_cons]; omega)
          refine ⟨.ref D, rfl, .ref D, rfl, 1, rfl, D, _, rfl, .of eD, fun c nc => ?_⟩
          rw [hcut]
          have s3 := same_new (o := .lst ((qs.drop 1).map V.ref)) nc
          refine ⟨D, c, _, _, rfl, .of (s3 _ _ eD), .of upd_same, fun E' nE => ?_⟩
          have fin : ∀ H', Same H2 H' → H' E' = some (.lst ((((List.range (ar.length - 1)).map (ltAt ar))).map V.bl)) → rAll K [.ref E'] H' Q := fun H' s' h' => ⟨E', _, rfl, .of h', hq H' (s2.trans s')⟩
          have eD3 := s3 _ _ eD
          have eC3 : (upd H2 c (.lst ((qs.drop 1).map V.ref))) c = some (.lst ((qs.drop 1).map V.ref)) := upd_same
          have hn : ar.length - 1 = min (qs.map V.ref).length ((qs.drop 1).map V.ref).length := by
            rw [List.length_map, List.length_map, List.length_drop]
            omega
          refine lc_it (walk_zip (xs := qs.map V.ref) (ys := (qs.drop 1).map V.ref) hn) (fun i H' => Same (upd H2 c (.lst ((qs.drop 1).map V.ref))) H' ∧ H' E' = some (.lst (((List.range i).map (ltAt ar)).map V.bl))) ⟨same_new nE, upd_same⟩ (fun i H' _ hP => ⟨.of (hP.1 _ _ eD3), .of (hP.1 _ _ eC3)⟩) (fun i v H4 H5 hi hP hy => ?_) (fun H' hP => fin H' (s3.trans hP.1) hP.2)
          obtain ⟨T', x, y, rfl, nT, rfl, hx, hy⟩ := hy
          obtain ⟨s4, e4⟩ := hP
          obtain ⟨p, hp, rfl⟩ := refs_at hx
          obtain ⟨p', hp', rfl⟩ := refs_at hy
          rw [List.getElem?_drop, Nat.add_comm] at hp'
          obtain ⟨x1, hx1, hx2⟩ := hq2 _ _ hp
          obtain ⟨y1, hy1, hy2⟩ := hq2 _ _ hp'
          have e5 : ltIS x1.1 x1.2.1 y1.1 y1.2.1 = ltAt ar i := by
            unfold ltAt
            rw [hx1, hy1]
          refine ⟨T', _, rfl, .of upd_same, rfl, _, _, rfl, _, _, rfl, rfl, rfl, yes_of (iteT ?_)⟩
          refine ⟨.ref p, rfl, .ref p', rfl, p, p', x1.1, x1.2.1, y1.1, y1.2.1, rfl, rfl, .of (same_new nT _ _ (s4 _ _ (s3 _ _ hx2))), .of (same_new nT _ _ (s4 _ _ (s3 _ _ hy2))), _, same_new nT _ _ e4, ?_, same_mut (s4.trans (same_new nT)) nE, ?_⟩
          · rw [List.length_map, List.length_map, List.length_range]
            have := hsh.1
            exact small_lt (by omega)
          · rw [upd_same, List.range_succ, List.map_append, List.map_append, e5]
            rfl
theorem ok_is_writer {f : Addr} {fd : FuncData} {k : Nat} (F : Fun K "is_writer" "is_writer" sIsWriter f fd) (T : Txt mg) (C_is_name : Cal P w K mg base k "is_name" ["text"] spName)
    (C__are_arrows : Cal P w K mg base k "_are_arrows" ["arrows"] spAre) (C__is_count : Cal P w K mg base k "_is_count" ["number"] spCount) : FnOk P w K mg base CX0 (k + 1) f fd ["thing"] (spIsWriter isWr) := by
  refine F.ok sc_is_writer (fun vs H Q E h => ?_) (fun cdv A outer s H vs Q E hr h => ?_)
  · obtain ⟨t, xs, rfl, _⟩ := h
    rfl
  · obtain ⟨t, xs, rfl, ht, h⟩ := h
    refine ⟨_, (pss_cons (ps_if (pt_cmpR op_ne (pe_callB call_len (by rfl) T.m_len PySem.boot_len (pa_cons (pv 0) pa_nil)) pe_int (nomark _))
    (pss_one (ps_ret pe_bl)) pss_nil)
    (pss_cons (ps_asg (pv 0) (pg_tup rfl (pgs_cons (pg_name (i := 1) sc_is_writer.nd rfl (.inl rfl)) (pgs_cons (pg_name (i := 2) sc_is_writer.nd rfl (.inl rfl)) (pgs_cons (pg_name (i := 3) sc_is_writer.nd rfl (.inl rfl)) (pgs_cons (pg_name (i := 4) sc_is_writer.nd rfl (.inl rfl)) pgs_nil))))))
    (pss_one (ps_ret (pe_and (pe_callC C_is_name hr (by rfl) (pa_cons (pv 1) pa_nil)) (pe_and (pe_callC C__are_arrows hr (by rfl) (pa_cons (pv 2) pa_nil)) (pe_and (pe_callC C__is_count hr (by rfl) (pa_cons (pv 3) pa_nil)) (pe_one (pe_callC C__is_count hr (by rfl) (pa_cons (pv 4) pa_nil)))))))))), ?_⟩
    refine ⟨.ref t, rfl, .ref t, _, rfl, .inr ⟨_, .of ht, rfl⟩, rfl, _, rfl, ?_⟩
    rcases h with ⟨hne, q⟩ | ⟨z, tp, ps, ar, p, c, rfl, htp, hps, hsh, hz, q⟩
    · rw [decide_eq_false (show ¬ V.int ((xs.length : Nat) : Int) = V.int 4 from fun e => hne (by injection e with e; omega))]
      exact iteT (q H (Same.refl H))
    · refine iteNS rfl ?_
      refine ⟨.ref t, rfl, t, _, rfl, .of ht, rfl, _, _, rfl, _, _, rfl, _, _, rfl, _, _, rfl, rfl, ?_⟩
      exact Evl.s_ret (Evl.ev_andV (ev_call (Evl.ea_cons (Evl.ev_var (by rfl)) Evl.ea_nil) fun H2 Q2 _ q2 => ⟨_, rfl, hz, q2⟩) fun _ => Evl.ev_andV (ev_call (Evl.ea_cons (Evl.ev_var (by rfl)) Evl.ea_nil) fun H2 Q2 e2 q2 => ⟨_, _, _, rfl, e2 _ _ htp, hps.same e2, hsh, q2⟩) fun _ =>
        Evl.ev_andV (ev_call (Evl.ea_cons (Evl.ev_var (by rfl)) Evl.ea_nil) fun H2 Q2 _ q2 => ⟨_, rfl, q2⟩) fun _ => ev_call (Evl.ea_cons (Evl.ev_var (by rfl)) Evl.ea_nil) fun H2 Q2 _ q2 => ⟨_, rfl, q2⟩) q
end
end Ink
namespace Ink
open PySem PySem.Spec PyProof.Rows L2
section
variable {P : Program} {w : World} {K : PySem.W.Frag} {mg : Str → Option Value} {base : Heap}
theorem ok_law_name {f : Addr} {fd : FuncData} {k : Nat} (F : Fun K "_law_is_name" "_law_is_name" sLIsName f fd) (T : Txt mg) (C__law_letters : Cal P w K mg base k "_law_letters" [] spLetters) : FnOk P w K mg base CX0 (k + 1) f fd ["_law_text"] spLawName := by
  refine F.ok sc__law_is_name (fun vs H Q E h => ?_) (fun cdv A outer s H vs Q E hr h => ?_)
  · obtain ⟨z, rfl, _⟩ := h
    rfl
  · obtain ⟨z, rfl, hz, q⟩ := h
    refine ⟨_, (pss_one (ps_ret (pe_and (pe_chain op_lt op_lt pe_int (pe_callB call_len_str (by rfl) T.m_len PySem.boot_len (pa_cons (pv 0) pa_nil)) pe_int) (pe_one (pe_callB (cr_all rfl) (by rfl) T.m_all (by decide +kernel) (pa_cons (pe_lc (own := [("_law_sign", 1)]) (g := (gName 1)) (by rfl) sc__law_is_name.nd (pi_str (pv 0)) (blkOk_by (own := [("_law_sign", 1)]) (N := ["_law_text", "_law_sign"]) (sc := defScope sLIsName) (by decide +kernel)) (fun _ _ _ _ _ => (pg_name (i := 1) sc__law_is_name.nd rfl (Or.inl rfl))) (fun _ _ _ _ _ => pts_nil) (fun _ _ _ _ _ => (pe_cmpR op_in_sign (pv 1) (pe_callC0 C__law_letters hr (by rfl)) (by rfl)))) pa_nil)))))), ?_⟩
    refine (Evl.ev_andV (ev_chainI (f := fun i j => decide (i < j)) (g := fun i j => decide (i < j)) Evl.ev_c (ev_lenS (Evl.ev_var rfl) (by omega)) Evl.ev_c) fun _ => ev_all (bs := z.cps.toList.map fun c => decide (c ∈ lets)) ?_) H (Same.refl H) _ fun H2 e2 => q H2 e2
    rw [← bls_eq]
    refine el_lcS _ (Evl.ev_var rfl) (by omega) (fun _ => rfl) (fun c H1 e1 _ H2 e2 Q2 q2 => ?_)
    exact ⟨_, rfl, rfl, fun H3 e3 => ⟨c, _, rfl, rfl, q2 H3 e3⟩⟩
end
end Ink
namespace Ink
open PySem PySem.Spec PyProof.Rows L2
section
open Evl
variable {K : PySem.W.Frag} {σ : L2.St} {H : Hp} {ta tb te to : TE} {t : TT}
theorem ev_lenL {p : Addr} {xs : List V} (h : Ev te σ H (.ref p)) (hx : SqL K H p xs) : Ev (tCB (fun xs H Q => ∃ x n, xs = [x] ∧ LenV K x H n ∧ Q (.int n) H) (tCons te tNil)) σ H (.int (xs.length : Nat)) := fun H1 e Q q =>
  h H1 e _ fun H2 e2 => ⟨.ref p, _, rfl, .inl ⟨_, ex_l (e.trans e2) hx, rfl⟩, q H2 e2⟩
theorem ev_ixL {p : Addr} {xs : List V} {i : Int} {v : V} (ha : Ev ta σ H (.ref p)) (hb : Ev tb σ H (.int i)) (h : SqL K H p xs) (h0 : 0 ≤ i) (hv : xs[i.toNat]? = some v) : Ev (tOp (rIxL K) ta tb) σ H v := ev_op ha hb (rv_ixL h (atI_of h0 hv))
theorem ev_ixT {p : Addr} {xs : List V} {i : Int} {v : V} (ha : Ev ta σ H (.ref p)) (hb : Ev tb σ H (.int i)) (h : SqT K H p xs) (h0 : 0 ≤ i) (hv : xs[i.toNat]? = some v) : Ev (tOp (rIxT K) ta tb) σ H v := ev_op ha hb (rv_ixT h (atI_of h0 hv))
theorem ev_ixS {w : Str} {i : Int} {c : Nat} (ha : Ev ta σ H (.str w)) (hb : Ev tb σ H (.int i)) (hw : w.length ≤ 100000) (h0 : 0 ≤ i) (hv : w.cps.toList[i.toNat]? = some c) : Ev (tOp rIxS ta tb) σ H (.str ⟨#[c]⟩) := ev_op ha hb (rv_ixS hw (atI_of h0 hv))
theorem rv_addS {i j : Str} (h : i.length + j.length ≤ 1000000) : RV (fun x y H Q => ∃ i j, x = .str i ∧ y = .str j ∧ i.length + j.length ≤ sizeLine ∧ Q (.str (i ++ j)) H) (.str i) (.str j) H (.str (i ++ j)) := fun H1 _ _ q => ⟨i, j, rfl, rfl, small_le h, q H1 (Ex.refl H1)⟩
theorem ev_join {s : Str} {zs : List Str} (ho : Ev to σ H (.str s)) (he : EvL te σ H (zs.map V.str)) (hz : (zs.map (·.length)).sum + zs.length * s.length ≤ 16777216) :
    Ev (tM1 (fun x xs H Q => ∃ a p, ∃ ys : List Str, x = .str a ∧ xs = [.ref p] ∧ (SqL K H p (ys.map V.str) ∨ SqT K H p (ys.map V.str)) ∧ (ys.map (·.length)).sum + ys.length * a.length ≤ 16777216 ∧ Q (.str (Txt.join a ys)) H) to te) σ H (.str (Txt.join s zs)) := fun H1 e Q q =>
  ho H1 e _ fun H2 e2 => ⟨⟨_, rfl⟩, he H2 (e.trans e2) _ fun p H3 np e3 hp => ⟨s, p, zs, rfl, rfl, .inl (.of hp), hz, q H3 (e2.trans e3)⟩⟩
theorem ev_joinV {s : Str} {zs : List Str} {p : Addr} (ho : Ev to σ H (.str s)) (he : Ev te σ H (.ref p)) (hp : SqL K H p (zs.map V.str)) (hz : (zs.map (·.length)).sum + zs.length * s.length ≤ 16777216) :
    Ev (tM1 (fun x xs H Q => ∃ a p, ∃ ys : List Str, x = .str a ∧ xs = [.ref p] ∧ (SqL K H p (ys.map V.str) ∨ SqT K H p (ys.map V.str)) ∧ (ys.map (·.length)).sum + ys.length * a.length ≤ 16777216 ∧ Q (.str (Txt.join a ys)) H) to te) σ H (.str (Txt.join s zs)) := fun H1 e Q q =>
  ho H1 e _ fun H2 e2 => ⟨⟨_, rfl⟩, he H2 (e.trans e2) _ fun H3 e3 => ⟨s, p, zs, rfl, rfl, .inl (ex_l ((e.trans e2).trans e3) hp), hz, q H3 (e2.trans e3)⟩⟩
theorem el_split {a b : Str} {ps : List Str} (ho : Ev to σ H (.str a)) (he : Ev te σ H (.str b)) (hb : (b.length == 0) = false) (ha : a.length ≤ 100000) (hs : Txt.split a b = ps) :
    EvL (tM1 (fun x xs H Q => ∃ a b, x = .str a ∧ xs = [.str b] ∧ (b.length == 0) = false ∧ a.length + 2 ≤ sizeLine ∧ rNewStrs (Txt.split a b) H Q) to te) σ H (ps.map V.str) := fun H1 e Q q =>
  ho H1 e _ fun H2 e2 => ⟨⟨_, rfl⟩, he H2 (e.trans e2) _ fun H3 e3 => ⟨a, b, rfl, rfl, hb, small_le (by omega), fun p np => by
    rw [hs]
    exact q p _ (fresh_back (e2.trans e3) np) ((e2.trans e3).trans (Ex.new np)) upd_same⟩⟩
theorem ev_orT {y d : Str} (h : Ev ta σ H (.str y)) (hy : y.length ≤ 1000000) (hd : Ev tb σ H (.str d)) : Ev (tOrT K ta tb) σ H (.str (if y.length = 0 then d else y)) := fun H1 e Q q => h H1 e _ fun H2 e2 => by
  refine ⟨((y.length : Int) != 0), ⟨small_le hy, rfl⟩, ?_⟩
  by_cases h0 : y.length = 0
  · rw [if_pos h0] at q
    rw [h0]
    exact iteF (hd H2 (e.trans e2) Q fun H3 e3 => q H3 (e2.trans e3))
  · rw [if_neg h0] at q
    rw [show ((y.length : Int) != 0) = true from bne_iff_ne.mpr (by omega)]
    exact iteT (q H2 e2)
theorem el_if {b : Bool} {xs : List V} (h : EvT t σ H b) (h1 : b = true → EvL ta σ H xs) (h2 : b = false → EvL tb σ H xs) : EvL (tIf t ta tb) σ H xs := fun H1 e Q q => h H1 e _ fun H2 e2 => by
  cases b with
  | true => exact iteT (h1 rfl H2 (e.trans e2) Q fun p H3 np e3 hp => q p H3 (fresh_back e2 np) (e2.trans e3) hp)
  | false => exact iteF (h2 rfl H2 (e.trans e2) Q fun p H3 np e3 hp => q p H3 (fresh_back e2 np) (e2.trans e3) hp)
theorem el_lcV {a : Addr} {xs : List V} {tl te : TE} {j : Nat} {vs : List Nat} (f : Nat → V) (h : Ev tl σ H (.ref a)) (hx : SqL K H a xs) (hz : xs.length ≤ 40000) (hw : ∀ x, wipe ((wipe σ vs).set j (some x)) vs = wipe σ vs)
    (he : ∀ i x H1, Ex H H1 → xs[i]? = some x → Ev te ((wipe σ vs).set j (some x)) H1 (f i)) : EvL (tLc (iList K tl) (gName j) tYes te vs) σ H ((List.range xs.length).map f) := fun H0 e Q q => h H0 e _ fun H1 e1 => ⟨a, rfl, ⟨xs, ex_l (e.trans e1) hx⟩, fun D nD =>
  lc_it (walk_list (xs := xs)) (fun i H' => Ex H1 H' ∧ H' D = some (.lst ((List.range i).map f))) ⟨Ex.new nD, upd_same⟩ (fun i H' _ hP => ex_l ((e.trans e1).trans hP.1) hx) (fun i v H2 H3 hi hP hy => by
    obtain ⟨rfl, hv⟩ := hy
    obtain ⟨s2, e2⟩ := hP
    refine ⟨hw _, yes_of (iteT ?_)⟩
    refine he i v H3 ((e.trans e1).trans s2) hv H3 (Ex.refl H3) _ fun H4 e4 => ⟨_, e4 _ _ e2, ?_, Ex.mut (s2.trans e4) nD, ?_⟩
    · rw [List.length_map, List.length_range]
      exact small_lt (by omega)
    · rw [upd_same, List.range_succ, List.map_append]
      rfl) (fun H' hP => q D H' (fresh_back e1 nD) (e1.trans hP.1) hP.2)⟩
theorem ev_strI {i : Int} (h : Ev te σ H (.int i)) (h0 : 0 ≤ i) (h9 : i ≤ 9) : Ev (tCB (fun xs H Q => ∃ i, xs = [.int i] ∧ i.natAbs.log2 < 1920 ∧ Q (.str (toString i)) H) (tCons te tNil)) σ H (.str (Str.ofString (toString i))) := fun H1 e Q q =>
  h H1 e _ fun H2 e2 => ⟨i, rfl, by
    have : ∀ k : Nat, k < 10 → k.log2 < 1920 := by decide
    exact this _ (by omega), q H2 e2⟩
end
end Ink
namespace Ink
open PySem PySem.Spec PyProof.Rows L2
/-! ### a writer's text -/
abbrev slash : Str := Str.ofString "/"
abbrev semi : Str := Str.ofString ";"
abbrev dash : Str := Str.ofString "-"
def dig (n : Int) : Str := Str.ofString (toString n)
theorem dig_eq {n : Int} (h0 : 0 ≤ n) (h9 : n ≤ 9) : dig n = single (48 + n.toNat) := by
  have h : ∀ k : Nat, k < 10 → Str.ofString (toString (k : Int)) = single (48 + k) := by decide +kernel
  have := h n.toNat (by omega)
  rw [show ((n.toNat : Nat) : Int) = n by omega] at this
  exact this
def rowT (x : Arw) : Str := dig x.1 ++ x.2.1 ++ dig x.2.2
def told (ar : List Arw) : Str := if ar = [] then dash else Txt.join semi (ar.map rowT)
def wText (z : Str) (ar : List Arw) (p c : Int) : Str := Txt.join slash [z, told ar, dig p, dig c]
theorem row_eq {x : Arw} (h : goodA x) : ∃ c ∈ lets, x.2.1 = single c ∧ (rowT x).cps.toList = [48 + x.1.toNat, c, 48 + x.2.2.toNat] := by
  obtain ⟨h1, h2, ⟨c, hc, e⟩, h3, h4⟩ := h
  refine ⟨c, hc, e, ?_⟩
  unfold rowT
  rw [e, dig_eq h1 (by omega), dig_eq h3 (by omega)]
  rfl
theorem row_len {x : Arw} (h : goodA x) : (rowT x).length = 3 := by
  obtain ⟨c, _, _, e⟩ := row_eq h
  rw [TL.len_tl]
  show (rowT x).cps.toList.length = 3
  rw [e]
  rfl
theorem joinL_le (S : List Nat) : ∀ ps : List (List Nat), (TL.joinL S ps).length ≤ (ps.map fun p => p.length + S.length).sum
  | [] => Nat.le_refl _
  | [p] => by
    show p.length ≤ p.length + S.length + 0
    omega
  | p :: q :: r => by
    have ih := joinL_le S (q :: r)
    show (p ++ (S ++ TL.joinL S (q :: r))).length ≤ (p.length + S.length) + ((q :: r).map fun p => p.length + S.length).sum
    rw [List.length_append, List.length_append]
    omega
theorem rows_sum : ∀ {ar : List Arw}, (∀ x ∈ ar, goodA x) → ((ar.map rowT).map (·.length)).sum = 3 * ar.length
  | [], _ => rfl
  | x :: r, h => by
    rw [List.map_cons, List.map_cons, List.sum_cons, rows_sum fun y hy => h y (List.mem_cons_of_mem _ hy), row_len (h x (List.mem_cons_self ..)), List.length_cons]
    omega
theorem join_rows_len {ar : List Arw} (h : ∀ x ∈ ar, goodA x) : (Txt.join semi (ar.map rowT)).length ≤ 4 * ar.length := by
  rw [TL.join_eq, TL.len_tl, TL.tl_join]
  refine Nat.le_trans (joinL_le _ _) ?_
  induction ar with
  | nil => exact Nat.le_refl _
  | cons x r ih =>
    have ih := ih fun y hy => h y (List.mem_cons_of_mem _ hy)
    rw [List.map_cons, List.map_cons, List.map_cons, List.sum_cons, List.length_cons]
    have e : (TL.tl (rowT x)).length = 3 := by
      rw [← TL.len_tl]
      exact row_len (h x (List.mem_cons_self ..))
    rw [e]
    have : (TL.tl semi).length = 1 := by decide +kernel
    omega
theorem join_rows_pos {x : Arw} {r : List Arw} (h : ∀ y ∈ x :: r, goodA y) : 3 ≤ (Txt.join semi ((x :: r).map rowT)).length := by
  rw [TL.join_eq, TL.len_tl, TL.tl_join]
  have e : (TL.tl (rowT x)).length = 3 := by
    rw [← TL.len_tl]
    exact row_len (h x (List.mem_cons_self ..))
  cases r with
  | nil => exact Nat.le_of_eq e.symm
  | cons y r =>
    show 3 ≤ (TL.tl (rowT x) ++ (TL.tl semi ++ TL.joinL (TL.tl semi) (((y :: r).map rowT).map TL.tl))).length
    rw [List.length_append]
    omega
theorem told_or {ar : List Arw} (h : ∀ x ∈ ar, goodA x) : told ar = if (Txt.join semi (ar.map rowT)).length = 0 then dash else Txt.join semi (ar.map rowT) := by
  unfold told
  cases ar with
  | nil =>
    rw [if_pos rfl]
    rfl
  | cons x r =>
    have := join_rows_pos h
    rw [if_neg (fun e => nomatch e), if_neg (by omega)]
theorem told_len {ar : List Arw} (h : ∀ x ∈ ar, goodA x) (hl : ar.length ≤ 9) : (told ar).length ≤ 36 := by
  unfold told
  split
  · decide +kernel
  · have := join_rows_len h
    omega
theorem join4 (a b c d : Str) : Txt.join slash [a, b, c, d] = a ++ slash ++ b ++ slash ++ c ++ slash ++ d := by
  refine TL.ext_tl ?_
  rw [TL.join_eq, TL.tl_join]
  simp only [TL.tl_append, List.append_assoc]
  rfl
theorem empty_app (a : Str) : Str.empty ++ a = a := TL.ext_tl (by rw [TL.tl_append]; rfl)
/-! ### and read -/
theorem no_slash {z : Str} (h : ∀ c ∈ z.cps.toList, c ∈ lets) : 47 ∉ TL.tl z := fun hm => by
  have := (lets_iff 47).mp (h 47 hm)
  omega
theorem dig_no {n : Int} (h0 : 0 ≤ n) (h9 : n ≤ 9) (k : Nat) (hk : k < 48 ∨ 57 < k) : k ∉ TL.tl (dig n) := by
  rw [dig_eq h0 h9]
  intro hm
  have : k = 48 + n.toNat := List.mem_singleton.mp hm
  omega
theorem row_no {x : Arw} (h : goodA x) (k : Nat) (hk : k < 48 ∨ (57 < k ∧ k < 97)) : k ∉ TL.tl (rowT x) := by
  obtain ⟨c, hc, _, e⟩ := row_eq h
  unfold goodA at h
  have hc := (lets_iff c).mp hc
  show k ∉ (rowT x).cps.toList
  rw [e]
  intro hm
  simp only [List.mem_cons, List.not_mem_nil, or_false] at hm
  omega
theorem joinL_mem {S : List Nat} {k : Nat} : ∀ {ps : List (List Nat)}, k ∈ TL.joinL S ps → k ∈ S ∨ ∃ p ∈ ps, k ∈ p
  | [], h => nomatch h
  | [p], h => .inr ⟨p, List.mem_singleton.mpr rfl, h⟩
  | p :: q :: r, h => by
    have h : k ∈ p ++ (S ++ TL.joinL S (q :: r)) := h
    rcases List.mem_append.mp h with h | h
    · exact .inr ⟨p, List.mem_cons_self .., h⟩
    · rcases List.mem_append.mp h with h | h
      · exact .inl h
      · rcases joinL_mem h with h | ⟨y, hy, h⟩
        · exact .inl h
        · exact .inr ⟨y, List.mem_cons_of_mem _ hy, h⟩
theorem told_no {ar : List Arw} (h : ∀ x ∈ ar, goodA x) : 47 ∉ TL.tl (told ar) := by
  unfold told
  split
  · decide +kernel
  · intro hm
    rw [TL.join_eq, TL.tl_join] at hm
    rcases joinL_mem hm with hm | ⟨y, hy, hm⟩
    · have : 47 ∉ TL.tl semi := by decide +kernel
      exact this hm
    · obtain ⟨z, hz, rfl⟩ := List.mem_map.mp hy
      obtain ⟨x, hx, rfl⟩ := List.mem_map.mp hz
      exact row_no (h x hx) 47 (.inl (by decide)) hm
theorem tl_slash : TL.tl slash = [47] := by decide +kernel
theorem tl_semi : TL.tl semi = [59] := by decide +kernel
theorem wText_split {z : Str} {ar : List Arw} {p c : Int} (g : GoodW z ar p c) : Txt.split (wText z ar p c) slash = [z, told ar, dig p, dig c] := by
  unfold wText
  refine TL.split_join (s := 47) (S := []) tl_slash (by decide +kernel) (fun e => nomatch e) fun q hq => ?_
  simp only [List.mem_cons, List.not_mem_nil, or_false] at hq
  rcases hq with rfl | rfl | rfl | rfl
  · exact no_slash g.name.2.2
  · exact told_no g.each
  · exact dig_no g.p0 (by have := g.p3; omega) 47 (.inl (by decide))
  · exact dig_no g.c0 (by have := g.c3; omega) 47 (.inl (by decide))
theorem told_split {ar : List Arw} (hg : ∀ x ∈ ar, goodA x) (hne : ar ≠ []) : Txt.split (told ar) semi = ar.map rowT := by
  unfold told
  rw [if_neg hne]
  refine TL.split_join (s := 59) (S := []) tl_semi (by decide +kernel) (fun e => hne (List.map_eq_nil_iff.mp e)) fun q hq => ?_
  obtain ⟨x, hx, rfl⟩ := List.mem_map.mp hq
  exact row_no (hg x hx) 59 (.inr ⟨by decide, by decide⟩)
theorem told_dash {ar : List Arw} (hg : ∀ x ∈ ar, goodA x) : decide (V.str (told ar) = V.str dash) = decide (ar = []) := by
  refine decide_eq_decide.mpr ⟨fun e => ?_, fun e => by rw [e]; rfl⟩
  injection e with e
  cases ar with
  | nil => rfl
  | cons x r =>
    have h := join_rows_pos hg
    unfold told at e
    rw [if_neg (fun e => nomatch e)] at e
    rw [e] at h
    have : dash.length = 1 := by decide +kernel
    omega
theorem wText_len {z : Str} {ar : List Arw} {p c : Int} (g : GoodW z ar p c) : (wText z ar p c).length ≤ 60 := by
  unfold wText
  rw [join4]
  have h1 := g.name.2.1
  have h2 := told_len g.each g.len
  have h3 : (dig p).length = 1 := by rw [dig_eq g.p0 (by have := g.p3; omega)]; rfl
  have h4 : (dig c).length = 1 := by rw [dig_eq g.c0 (by have := g.c3; omega)]; rfl
  have h5 : slash.length = 1 := by decide +kernel
  simp only [Str.length_append]
  omega
/-! ### a drawn writer is one -/
theorem good_okA {x : Arw} (h : goodA x) : okA x = true := by
  obtain ⟨h1, h2, ⟨c, hc, e⟩, h3, h4⟩ := h
  unfold okA within
  rw [e, show isSign (single c) = decide (c ∈ lets) from sign_one c, decide_eq_true hc, decide_eq_true h1, decide_eq_true h2, decide_eq_true h3, decide_eq_true h4]
  rfl
theorem less_lt {x y : Arw} (hx : goodA x) (hy : goodA y) (h : lessA x y) : ltIS x.1 x.2.1 y.1 y.2.1 = true := by
  unfold ltIS
  rcases h with h | ⟨e, h⟩
  · rw [if_neg (by omega)]
    exact decide_eq_true h
  · rw [if_pos e]
    by_cases e2 : x.2.1 = y.2.1
    · rw [e2] at h
      exact absurd h (List.lt_irrefl _)
    · rw [if_neg e2]
      exact decide_eq_true h
theorem good_rise {ar : List Arw} (hg : ∀ x ∈ ar, goodA x) (hr : ar.Pairwise lessA) : riseB ar = true := by
  unfold riseB
  rw [List.all_map]
  refine List.all_eq_true.mpr fun k hk => ?_
  have hk := List.mem_range.mp hk
  show ltAt ar k = true
  have h1 : k < ar.length := by omega
  have h2 : k + 1 < ar.length := by omega
  unfold ltAt
  rw [List.getElem?_eq_getElem h1, List.getElem?_eq_getElem h2]
  exact less_lt (hg _ (List.getElem_mem h1)) (hg _ (List.getElem_mem h2)) ((List.pairwise_iff_getElem.mp hr) k (k + 1) h1 h2 (by omega))
theorem GoodW.is {z : Str} {ar : List Arw} {p c : Int} (g : GoodW z ar p c) : isWr z ar p c = true := by
  unfold isWr areArr within
  have hl := g.len
  rw [name_eq, g.name.is, if_neg (by omega), if_neg (by
    rw [show (ar.map okA).all id = true from by
      rw [List.all_map]
      exact List.all_eq_true.mpr fun x hx => good_okA (g.each x hx)]
    exact fun e => nomatch e), good_rise g.each g.rise, decide_eq_true g.p0, decide_eq_true g.p3, decide_eq_true g.c0, decide_eq_true g.c3]
  rfl
theorem GoodW.short {z : Str} {ar : List Arw} {p c : Int} (g : GoodW z ar p c) : ShortA ar := ⟨by have := g.len; omega, fun x hx => by
  obtain ⟨_, _, ⟨c, _, e⟩, _⟩ := g.each x hx
  rw [e]
  show 1 ≤ 1000
  decide⟩
end Ink
namespace Ink
open PySem PySem.Spec PyProof.Rows L2
/-! ### any text, read as a writer's: the program's way -/
theorem spl_len (S : List Nat) : ∀ (l : List Nat) (k : Nat) (acc : List Nat), (∀ p ∈ TL.spl S k acc l, p.length ≤ acc.length + l.length) ∧ (TL.spl S k acc l).length ≤ l.length + 1
  | [], k, acc => by
    rw [TL.spl_nil]
    exact ⟨fun p hp => by rw [List.mem_singleton.mp hp]; exact Nat.le_refl _, Nat.le_refl _⟩
  | c :: r, 0, acc => by
    cases h : TL.pre S (c :: r) with
    | true =>
      rw [TL.spl_hit h]
      obtain ⟨h1, h2⟩ := spl_len S r (S.length - 1) []
      refine ⟨fun p hp => ?_, by rw [List.length_cons, List.length_cons]; omega⟩
      rcases List.mem_cons.mp hp with rfl | hp
      · omega
      · have := h1 p hp
        rw [List.length_nil] at this
        rw [List.length_cons]
        omega
    | false =>
      rw [TL.spl_miss h]
      obtain ⟨h1, h2⟩ := spl_len S r 0 (acc ++ [c])
      refine ⟨fun p hp => ?_, by rw [List.length_cons]; omega⟩
      have := h1 p hp
      rw [List.length_append, List.length_singleton] at this
      rw [List.length_cons]
      omega
  | c :: r, k + 1, acc => by
    obtain ⟨h1, h2⟩ := spl_len S r k acc
    refine ⟨fun p hp => ?_, ?_⟩
    · have := h1 p hp
      rw [List.length_cons]
      omega
    · show (TL.spl S k acc r).length ≤ (c :: r).length + 1
      rw [List.length_cons]
      omega
theorem split_small {x y : Str} (hy : TL.tl y ≠ []) (hk : y.cps.all (· < 256) = true) : (∀ p ∈ Txt.split x y, p.length ≤ x.length) ∧ (Txt.split x y).length ≤ x.length + 1 := by
  have e := TL.split_spl x y hy (TL.kind_ok hk)
  obtain ⟨h1, h2⟩ := spl_len (TL.tl y) (TL.tl x) 0 []
  rw [← e] at h1 h2
  refine ⟨fun p hp => ?_, ?_⟩
  · have := h1 _ (List.mem_map_of_mem hp)
    rw [TL.len_tl, TL.len_tl x]
    rw [List.length_nil] at this
    omega
  · rw [List.length_map] at h2
    rw [TL.len_tl x]
    exact h2
theorem slash_small (x : Str) : (∀ p ∈ Txt.split x slash, p.length ≤ x.length) ∧ (Txt.split x slash).length ≤ x.length + 1 := split_small (by rw [tl_slash]; exact fun e => nomatch e) (by decide +kernel)
theorem semi_small (x : Str) : (∀ p ∈ Txt.split x semi, p.length ≤ x.length) ∧ (Txt.split x semi).length ≤ x.length + 1 := split_small (by rw [tl_semi]; exact fun e => nomatch e) (by decide +kernel)
def isFig (z : Str) : Bool := decide (V.int (z.length : Nat) = V.int 1) && (!decide (z.cps.toList < [48]) && !decide (([57] : List Nat) < z.cps.toList))
theorem fig_sing (c : Nat) : isFig (single c) = (decide (48 ≤ c) && decide (c ≤ 57)) := by
  unfold isFig
  rw [show decide (V.int (((single c).length : Nat) : Int) = V.int 1) = true from decide_eq_true rfl]
  show (true && (!decide (([c] : List Nat) < [48]) && !decide (([57] : List Nat) < [c]))) = _
  have e1 : decide (([c] : List Nat) < [48]) = decide (c < 48) := decide_eq_decide.mpr (lt_one c 48)
  have e2 : decide (([57] : List Nat) < [c]) = decide (57 < c) := decide_eq_decide.mpr (lt_one 57 c)
  rw [e1, e2, Bool.true_and]
  by_cases h1 : 48 ≤ c <;> by_cases h2 : c ≤ 57 <;> simp [h1, h2] <;> omega
theorem len_one {z : Str} (h : z.length = 1) : ∃ c, z = single c := by
  rw [TL.len_tl] at h
  match e : TL.tl z, h with
  | [c], _ => exact ⟨c, TL.ext_tl e⟩
theorem fig_is {z : Str} (h : isFig z = true) : ∃ n : Nat, n ≤ 9 ∧ z = single (48 + n) := by
  have hl : z.length = 1 := by
    unfold isFig at h
    rw [Bool.and_eq_true] at h
    have := of_decide_eq_true h.1
    injection this with this
    omega
  obtain ⟨c, rfl⟩ := len_one hl
  rw [fig_sing, Bool.and_eq_true, decide_eq_true_iff, decide_eq_true_iff] at h
  exact ⟨c - 48, by omega, by rw [show 48 + (c - 48) = c by omega]⟩
theorem int_fig {n : Nat} (h : n ≤ 9) : PySem.intText? (single (48 + n)) = some (n : Int) := by
  have h' : ∀ k : Nat, k < 10 → PySem.intText? (single (48 + k)) = some (k : Int) := by decide +kernel
  exact h' n (by omega)
def intV (z : Str) : Int := (PySem.intText? z).getD 0
theorem intV_fig {z : Str} (h : isFig z = true) : PySem.intText? z = some (intV z) ∧ 0 ≤ intV z ∧ intV z ≤ 9 ∧ z.length = 1 := by
  obtain ⟨n, hn, rfl⟩ := fig_is h
  unfold intV
  rw [int_fig hn]
  exact ⟨rfl, by show (0 : Int) ≤ (n : Int); omega, by show (n : Int) ≤ 9; omega, rfl⟩
def chr (z : Str) (i : Nat) : Str := match z.cps.toList[i]? with
  | some c => single c
  | none => Str.empty
theorem chr_at {z : Str} {i : Nat} (h : i < z.length) : ∃ c, z.cps.toList[i]? = some c ∧ chr z i = single c := by
  rw [TL.len_tl] at h
  exact ⟨_, List.getElem?_eq_getElem h, by unfold chr; rw [List.getElem?_eq_getElem h]⟩
def isAT (z : Str) : Bool := decide (V.int (z.length : Nat) = V.int 3) && (isFig (chr z 0) && isFig (chr z 2))
theorem at_len {z : Str} (h : isAT z = true) : z.length = 3 ∧ isFig (chr z 0) = true ∧ isFig (chr z 2) = true := by
  unfold isAT at h
  rw [Bool.and_eq_true, Bool.and_eq_true] at h
  have := of_decide_eq_true h.1
  injection this with this
  exact ⟨by omega, h.2.1, h.2.2⟩
def rowOf (z : Str) : Arw := (intV (chr z 0), chr z 1, intV (chr z 2))
def wordsOf (q : Str) : List Str := if q = dash then [] else Txt.split q semi
theorem words_small {q : Str} : (∀ p ∈ wordsOf q, p.length ≤ q.length) ∧ (wordsOf q).length ≤ q.length + 1 := by
  unfold wordsOf
  split
  · exact ⟨fun p hp => (nomatch hp), Nat.zero_le _⟩
  · exact semi_small q
/-- four parts -/
def rd4 (a b c d : Str) : Option (Str × List Arw × Int × Int) :=
  if isFig c = true ∧ isFig d = true ∧ (wordsOf b).all isAT = true ∧ isWr a ((wordsOf b).map rowOf) (intV c) (intV d) = true then some (a, (wordsOf b).map rowOf, intV c, intV d) else none
def rdP (t : Str) : Option (Str × List Arw × Int × Int) := match Txt.split t slash with
  | [a, b, c, d] => rd4 a b c d
  | _ => none
theorem rdP_four {t a b c d : Str} (h : Txt.split t slash = [a, b, c, d]) : rdP t = rd4 a b c d := by
  unfold rdP
  rw [h]
theorem rdP_other {t : Str} (h : (Txt.split t slash).length ≠ 4) : rdP t = none := by
  unfold rdP
  split
  · rename_i e
    rw [e] at h
    exact absurd rfl h
  · rfl
end Ink
namespace PySem.W
open PySem PySem.Spec PySem.Calls PyProof.Rows Builtin Builtin.ObjectAttr Builtin.Getset_descriptor
section
variable {prog : Program} {w : World} {A : Around} {E : Value → Shared → Prop} {s : Shared} {K : Frag} {R : Result → Shared → Prop} {C : Addr}
/-- the kept name of an own class -/
theorem own_name_get {v : Value} {o : Obj} (X : K.In s.heap) (hC : K.lookup C = some o) (ho : (o.slots[2]?).join = some v) (ht : typeIn K (.ref C) = some (.type "type")) (h : R (.ok (.ret v)) s) :
    codeAny (model prog w) A (.call (.builtin "getset_descriptor.__get__") ⟨[.builtin "type.__name__", .ref C, .type "type"], []⟩) R s := by
  obtain ⟨hh, g, dr, t, os⟩ := s
  have L0 : Looks (model prog w) hh (typeOf (.ref C)) (.type "type") := looks_typeIn X ht
  have L1 : Looks (model prog w) hh (isSubtype (.type "type") (.type "type")) true := Looks.of_pure (by rw [isSubtype_type]; kernel_rfl)
  have hx : hh.get? C = some o := X _ _ hC
  refine codeAny_call_builtin KF.slot_gs.plain KF.entry_gs (KF.slot_gs.check _ _ _ _ _ _ _ _ ktyn_type (KF.args_gs _ _ _) ?_)
  unfold Builtin.«getset_descriptor.__get__» descrGet
  have hd : descrGetArgs ⟨[.builtin "type.__name__", .ref C, .type "type"], []⟩ = pure (.builtin "type.__name__", some (.ref C), given (.type "type")) := by kernel_rfl
  rw [hd]
  refine wpAny_bind (wpAny_pure ?_)
  unfold descrGetter descrCheckInstance descrNameAndClass isInstance
  simp only [ktyn_owner]
  repeat lk
  refine ⟨Code.quiet_builtin _ (by decide +kernel), codeAny_builtin ktyn_entry ?_⟩
  unfold Builtin.«type.__name__»
  dsimp only
  unfold keptObject PySem.slotAt
  dsimp only
  refine wpAny_bind (wpAny_bind (wpAny_loadPart hx ?_))
  refine wpAny_pure ?_
  rw [ho]
  dsimp only
  first
    | exact wpAny_pure h
    | exact wpAny_bind (wpAny_pure (wpAny_pure h))
    | exact wpAny_bind (wpAny_pure h)
/-- `C.__name__`, C an own class -/
theorem own_name_attr {expr : Bool} {Q : Value → Shared → Prop} {v : Value} {o : Obj} (X : K.In s.heap) (hC : K.lookup C = some o) (ho : (o.slots[2]?).join = some v) (hv : handedIn v = true) (ht : typeIn K (.ref C) = some (.type "type")) (hr : readsIn K C (.type "type") = true)
    (e : findCls K (.ref C) (.type "type") "__name__" = some (.get (.builtin "getset_descriptor.__get__") (.builtin "type.__name__") (.ref C) (.type "type")))
    (h : Q v { s with toks := s.toks + 1 }) : wpAny (model prog w) A (getAttr (.ref C) "__name__" expr) Q E s := by
  refine cls_bind X hr e (wpAny_call (own_name_get (s := { s with toks := s.toks + 1 }) X hC ho ht ?_))
  exact handed_on hv h
/-- `e.__class__`, e an exception of an own class, its dict none as yet -/
theorem exc_class_attr {D x : Addr} {ox : Obj} {expr : Bool} {Q : Value → Shared → Prop} (hga : findIn K (.ref D) "__getattribute__" = some (some (.builtin "BaseException.__getattribute__"))) (hgt : findIn K (.ref D) "__getattr__" = some none) (hsub : subIn K (.ref D) (.type "BaseException") = some true)
    (hdct : hasDictIn K D = true) (ha : findIn K (.ref D) "__class__" = some (some (.builtin "object.__class__")))
    (hn : specialIn K (.builtin "object.__class__") "__get__" = some (some (.builtin "getset_descriptor.__get__"))) (htk : takesIn K (.builtin "object.__class__") = some true) (hm : mroIn K D (.type "object") = some true)
    (X : K.In s.heap) (I : InstAt s.heap x ox D none) (h : Q (.ref D) { s with toks := s.toks + 1 }) : wpAny (model prog w) A (getAttr (.ref x) "__class__" expr) Q E s := by
  have hf : findObj K D none "__class__" = some (.bind (.builtin "getset_descriptor.__get__") (.builtin "object.__class__")) := findObj_dataN (by obtain ⟨cd, hc, _⟩ := any_some hdct; rw [hc]; rfl) ha hn htk
  obtain ⟨hp, g, d, t, os⟩ := s
  have L0 := I.type (M := model prog w)
  have L1 := looks_findIn (M := model prog w) X hga
  have L2 := looks_findIn (M := model prog w) X hgt
  have L3 := looks_find (M := model prog w) X I hf
  have sub : Looks (model prog w) hp (isInstance (.ref x) (.type "BaseException")) true := L0.andThen (looks_subIn X hsub)
  have hx0 : (expr && onTheHeap (Value.builtin "BaseException.__getattribute__")) = false := by cases expr <;> rfl
  have hx2 : (Value.builtin "BaseException.__getattribute__" == Value.builtin "object.__getattribute__") = false := by decide +kernel
  have hx1 : (onTheHeap (Value.ref D) && Value.builtin "BaseException.__getattribute__" == Value.builtin "object.__getattribute__") = false := by rw [hx2]; rfl
  unfold getAttr getAttrBy
  refine wpAny_bind (wpAny_mkText (wpAny_holding (wpAny_bind (L0.at (wpAny_bind (L1.at ?_))))))
  show wpAny _ _ (if (onTheHeap (Value.ref D) && Value.builtin "BaseException.__getattribute__" == Value.builtin "object.__getattribute__") = true then _ else _) _ _ _
  rw [hx1, if_neg Bool.false_ne_true]
  unfold getAttrByItsOwn hookBefore
  refine wpAny_bind ?_
  rw [if_pos (show onTheHeap (Value.ref D) = true from rfl)]
  refine L2.at ?_
  refine wpAny_bind (wpAny_attempt (wpAny_holding ?_))
  unfold callGetattribute
  rw [hx0, if_neg Bool.false_ne_true]
  unfold boundAndCalled
  rw [PySem.F.excAttr_ValueError.ga.bind (.ref x)]
  refine wpAny_bind (wpAny_pure ?_)
  show wpAny _ _ (call (.builtin "BaseException.__getattribute__") [.ref x, .str "__class__" t]) _ _ _
  refine wpAny_call (codeAny_call_builtin PySem.F.excAttr_ValueError.ga.plain PySem.F.entry_bexc_ga ?_)
  refine @check_slot (model prog w) _ _ ⟨hp, g, d, t + 1, os⟩ "BaseException.__getattribute__" "BaseException" "__getattribute__" (.ref x) [.str "__class__" t] [] _ (by decide +kernel) (by decide +kernel) sub (PySem.F.args_bexc_ga (.ref x) (.str "__class__" t)) ?_
  unfold Builtin.«object.__getattribute__»
  refine wpAny_bind (wpAny_of_eq (a := ((Value.ref x : Value), [Value.str "__class__" t])) (by first | rfl | (simp only [slotArgs]; rfl)) ?_)
  refine wpAny_bind (wpAny_pure (wpAny_bind (L0.at (wpAny_bind (L3.at ?_)))))
  show wpAny _ _ (holding [Value.builtin "object.__class__"] (call (.builtin "getset_descriptor.__get__") [.builtin "object.__class__", .ref x, .ref D]) >>= ret) _ _ _
  refine wpAny_bind (wpAny_holding (wpAny_call (class_get (s := ⟨hp, g, d, t + 1, os⟩) (ox := ox) (od := none) X I hm ?_)))
  refine wpAny_pure ?_
  show wpAny _ _ (handedOut (.ref D)) _ _ _
  rw [handedOut_of (v := .ref D) rfl]
  first
    | exact wpAny_pure h
    | exact wpAny_pure (wpAny_pure h)
    | exact wpAny_bind (wpAny_pure h)
end
end PySem.W
namespace L2
open PySem PySem.Spec PyProof.Rows
/-- what an own refusal's class says of `__class__` and `__name__` -/
structure Named (K : PySem.W.Frag) (C : Addr) (nm : Str) : Prop where
  ex : ExcC K C
  ox : OexC K C
  nm : ∃ o tk, K.lookup C = some o ∧ (o.slots[2]?).join = some (.str nm tk)
  rd : PySem.W.readsIn K C (.type "type") = true
  fd : PySem.W.findCls K (.ref C) (.type "type") "__name__" = some (.get (.builtin "getset_descriptor.__get__") (.builtin "type.__name__") (.ref C) (.type "type"))
/-- o.__class__.__name__, o a refusal that has no field yet -/
def tCN (K : PySem.W.Frag) (to : TE) : TE := fun σ H Q => to σ H fun x H1 => ∃ (a C : Addr) (nm : Str), x = .ref a ∧ Named K C nm ∧ H1 a = some (exo a C none) ∧ Q (.str nm) H1
section
variable {X : Cx} {o e : Expr} {es : List Expr} {to te : TE} {ta : TA} {p p' p1 p2 pos : Pos}
theorem pe_cname (ho : PE X o to) (h1 : attributeBase o "__class__" X.env (eval o X.env) = eval o X.env := by rfl) (h2 : attributeBase (.Attribute o "__class__" p) "__name__" X.env (eval (.Attribute o "__class__" p) X.env) = eval (.Attribute o "__class__" p) X.env := by rfl) :
    PE X (.Attribute (.Attribute o "__class__" p) "__name__" p') (tCN X.K to) := by
  refine ⟨fun pins s σ H Q I h => ?_⟩
  refine attr_of h2 (attr_of h1 (thn (ho.run pins s σ H _ I h) fun u s1 ⟨x, H1, I1, rx, a, C, nm, ex, N, ea, q⟩ => ?_))
  subst ex
  obtain rfl : u = Value.ref a := rx
  obtain ⟨t1, hoe⟩ := exo_at I1.hok ea
  obtain ⟨oc, tk, hoc, hsl⟩ := N.nm
  have T := N.ex
  refine PySem.W.exc_class_attr (ox := ({ cls := .ref C, dict := none, data := .fields #[.ref t1, .none, .none, .none, .bool false, .none] } : Obj)) T.hg T.hk T.hs T.hd T.ha T.hn T.ht T.hm I1.kIn ⟨hoe, rfl, rfl, trivial⟩ ?_
  refine PySem.W.own_name_attr (s := { s1 with toks := s1.toks + 1 }) I1.kIn hoc hsl rfl N.ox.tyC N.rd N.fd ?_
  exact ⟨.str nm, H1, (I1.tok _).tok _, ⟨tk, rfl⟩, q⟩
/-- B.__init__(e, ..), B an own class: its own def runs -/
structure OwnI (K : PySem.W.Frag) (B f : Addr) : Prop where
  ga : PySem.W.specialIn K (.ref B) "__getattribute__" = some (some (.builtin "type.__getattribute__"))
  rd : PySem.W.readsIn K B (.type "type") = true
  ty : PySem.W.typeIn K (.ref B) = some (.type "type")
  fd : PySem.W.findCls K (.ref B) (.type "type") "__init__" = some (.val (.ref f))
  kp : PySem.W.keepIn K (.ref f) = true
theorem pe_owninit {pl : Sem Bool} {x : Str} {B f : Addr} {CX : CXT} {k : Nat} {fd : FuncData} {ps : List Str} {sp : Sp} {ds : List Value} {dvs : List V} {Ex : XK} (O : OwnI X.K B f) (F : FnOk X.prog X.w X.K X.mg X.base CX k f fd ps sp) (hr : Room k X.A) (hg : Gl X x) (hm : X.mg x = some (.ref B))
    (hb : Binds X.K fd ps ds) (hd : Vals dvs ds) (hx : Passes CX X Ex) (ha : PA X (e :: es) ta) (hdb : (x == ("__debug__" : Str)) = false := by decide)
    (hc : eval (.Call (.Attribute (.Name x p1) "__init__" p2) (e :: es) [] pos) X.env = (do
      let ov ← eval (.Name x p1) X.env
      standAt p2.atName
      let (f, first) ← holding [ov] (getMethod ov "__init__" pl)
      callWith pos f first (backTo pos (starEach (e :: es) X.env)) (backToKw pos (keywordEach [] X.env))) := by rfl)
    (he : starEach (e :: es) X.env = (false, eval e X.env) :: starEach es X.env := by rfl) (hpl : (backTo pos (starEach es X.env)).any (·.1) = false := by rfl) :
    PE X (.Call (.Attribute (.Name x p1) "__init__" p2) (e :: es) [] pos) (tCall sp dvs Ex ta) := by
  refine ⟨fun pins s σ H Q I h => ?_⟩
  refine PySem.W.methodCall_KW (ld_glob I hg hm ?_ hdb) hc
  refine PySem.W.method_cls I.kIn O.ga (PySem.W.cls_value I.kIn O.rd O.fd rfl ?_)
  refine PySem.W.callWith_K (first := []) (h₀ := X.base) I.ok.mod.kin O.kp (thn (ha.run pos pins _ σ H _ (I.tok _) h) fun us s2 ⟨vs, H2, I2, r, q2⟩ => ⟨I2.kIn, ?_⟩) he hpl
  exact run_fn F hr hb hd hx I2 r q2
end
end L2
namespace Ink
open PySem PySem.Spec PyProof.Rows L2
abbrev sInk : Stmt := inClass (topS 1) 0
abbrev sBad : Stmt := inClass (topS 2) 0
theorem sc_ink : FnScope ["self", "told"] ["self", "told"] (defScope sInk) := ⟨rfl, rfl, rfl, by decide +kernel, rfl, by decide +kernel, by decide +kernel⟩
theorem sc_bad : FnScope ["self", "at"] ["self", "at"] (defScope sBad) := ⟨rfl, rfl, rfl, by decide +kernel, rfl, by decide +kernel, by decide +kernel⟩
/-- InkError.__init__ of a refusal without a field: the word is written -/
def spInk (K : PySem.W.Frag) : Sp := fun vs H Q _ => ∃ (a C : Addr) (nm t : Str), vs = [.ref a, .str t] ∧ Named K C nm ∧ PySem.W.findIn K (.ref C) "word" = some none ∧ H a = some (exo a C none) ∧
  ∀ dx, H dx = none → dx ≠ a → Q .non (upd (upd H dx (exd dx [("word", .str nm)])) a (exo a C (some dx)))
/-- BadText.__init__: the word and at -/
def spBad (K : PySem.W.Frag) : Sp := fun vs H Q _ => ∃ (a C : Addr) (nm : Str) (n : Int), vs = [.ref a, .int n] ∧ n.natAbs.log2 < 1920 ∧ (Str.ofString (toString n)).length ≤ 1000 ∧ Named K C nm ∧ PySem.W.findIn K (.ref C) "word" = some none ∧ PySem.W.findIn K (.ref C) "at" = some none ∧ H a = some (exo a C none) ∧
  ∀ dx, H dx = none → dx ≠ a → ∀ H', H' = upd (upd (upd H dx (exd dx [("word", .str nm)])) a (exo a C (some dx))) dx (exd dx [("at", .int n), ("word", .str nm)]) → Q .non H'
section
variable {P : Program} {w : World} {K : PySem.W.Frag} {mg : Str → Option Value} {base : Heap}
theorem ok_ink {f : Addr} {fd : FuncData} {k : Nat} (F : FunD K "__init__" "InkError.__init__" (defArgs sInk) (defBody sInk) (defScope sInk) [.str ""] [] f fd) (mV : mg "ValueError" = none)
    (vV : PySem.W.findCls K (.type "ValueError") (.type "type") "__init__" = some (.val (.builtin "ValueError.__init__"))) : FnOk P w K mg base CX0 (k + 1) f fd ["self", "told"] (spInk K) := by
  refine F.ok sc_ink (fun vs H Q E h => ?_) (fun cdv A outer s H vs Q E hr h => ?_)
  · obtain ⟨a, C, nm, t, rfl, _⟩ := h
    rfl
  · obtain ⟨a, C, nm, t, rfl, N, hw, ea, q⟩ := h
    refine ⟨_, (pss_cons (ps_expr (pe_veinit (by rfl) mV vV (pa_cons (pv 0) (pa_cons (pv 1) pa_nil)))) (pss_one (ps_ost (pv 0) (pe_cname (pv 0))))), ?_⟩
    refine ⟨_, rfl, _, rfl, a, C, _, rfl, by simp, N.ox, ea, ?_⟩
    refine ⟨_, rfl, a, C, nm, rfl, N, ea, ?_⟩
    refine ⟨_, rfl, a, C, rfl, N.ox, hw, .inl ⟨ea, fun dx n ne => ?_⟩⟩
    exact q dx n ne
theorem ok_bad {f B fI : Addr} {fd fdI : FuncData} {k : Nat} (F : Fun K "__init__" "BadText.__init__" sBad f fd) (mI : mg "InkError" = some (.ref B)) (O : OwnI K B fI)
    (G : FnOk P w K mg base CX0 k fI fdI ["self", "told"] (spInk K)) (b : Binds K fdI ["self", "told"] []) : FnOk P w K mg base CX0 (k + 1) f fd ["self", "at"] (spBad K) := by
  refine F.ok sc_bad (fun vs H Q E h => ?_) (fun cdv A outer s H vs Q E hr h => ?_)
  · obtain ⟨a, C, nm, n, rfl, _⟩ := h
    rfl
  · obtain ⟨a, C, nm, n, rfl, hn, hz, N, hw, hat, ea, q⟩ := h
    refine ⟨_, (pss_cons (ps_expr (pe_owninit O G hr (by rfl) mI b .nil pass0 (pa_cons (pv 0) (pa_cons (pe_joined (PJ.cons pe_str (PJ.cons (pe_fmt (pv 1)) (PJ.cons pe_str PJ.nil)))) pa_nil)))) (pss_one (ps_ost (pv 0) (pv 1)))), ?_⟩
    refine ⟨_, rfl, ?_⟩
    have l1 : (Str.empty ++ Str.ofString "row ").length ≤ 100 := by decide +kernel
    have l2 : (Str.ofString " can't be read").length ≤ 100 := by decide +kernel
    have e1 : ∀ x y : Str, (x ++ y).length = x.length + y.length := Str.length_append
    refine ⟨_, rfl, Nat.le_trans l1 (by rw [sizeLine_eq]; omega), ?_⟩
    refine ⟨_, rfl, .inr ⟨_, rfl, hn, _, rfl, by rw [e1, sizeLine_eq]; omega, ?_⟩⟩
    refine ⟨_, rfl, by rw [e1, e1, sizeLine_eq]; omega, ?_⟩
    refine ⟨a, C, nm, _, rfl, N, hw, ea, fun dx n0 ne => ?_⟩
    refine ⟨_, rfl, _, rfl, a, C, rfl, N.ox, hat, .inr ⟨dx, [("word", .str nm)], upd_same, ?_, by simp, ?_⟩⟩
    · rw [upd_ne ne, upd_same]
    · exact q dx n0 ne _ rfl
end
end Ink
namespace Ink
open PySem PySem.Spec PyProof.Rows L2
/-- what BadText(n) leaves: its dict alone is new -/
def tBad (C : Addr) (n : Int) : L2.St → Hp → XK → Prop := fun _ H Q => ∀ d, H d = none → Q (.ref C) (some d) (upd H d (.xd [("at", .int n), ("word", .str "BadText")]))
theorem bad_made {K : PySem.W.Frag} {C : Addr} {n : Int} {ta : TA} {σ : L2.St} {H : Hp} {Q : XK} (N : Named K C "BadText") (hw : PySem.W.findIn K (.ref C) "word" = some none) (hat : PySem.W.findIn K (.ref C) "at" = some none)
    (hn : n.natAbs.log2 < 1920) (hz : (Str.ofString (toString n)).length ≤ 1000) (ht : ∀ R : List V → Hp → Prop, R [.int n] H → ta σ H R) (h : tBad C n σ H Q) : tMkO C (spBad K) [] ta σ H Q := by
  refine ht _ ⟨by simp, fun a na => ⟨a, C, "BadText", n, rfl, hn, hz, N, hw, hat, upd_same, fun dx ndx ne H' eH => ⟨rfl, dx, [("at", .int n), ("word", .str "BadText")], ?_, ?_, ?_, ?_⟩⟩⟩
  · rw [eH, upd_ne (Ne.symm ne), upd_same]
  · rw [eH, upd_same]
  · rw [upd_ne ne] at ndx
    exact ndx
  · rw [upd_ne ne] at ndx
    have e : upd (del H' a) dx (.xd [("at", .int n), ("word", .str "BadText")]) = upd H dx (.xd [("at", .int n), ("word", .str "BadText")]) := by
      funext b
      by_cases hb : b = dx
      · rw [hb, upd_same, upd_same]
      · rw [upd_ne hb, upd_ne hb]
        by_cases hba : b = a
        · rw [hba, del_same]
          exact na.symm
        · rw [del_ne hba, eH, upd_ne hb, upd_ne hba, upd_ne hb, upd_ne hba]
    rw [e]
    exact h dx ndx
end Ink

namespace L2N
open PySem PySem.Spec PyProof.Rows L2
section
variable {X : Cx} {e : Expr} {es : List Expr} {ta : TA} {p pos : Pos}
/-- C(e, ..) as pmk_oex makes it; its context is None -/
theorem pmk_oexN {CX : CXT} {x : Str} {C fI : Addr} {k : Nat} {fd : FuncData} {ps : List Str} {sp : Sp} (T : OexC X.K C) (iC : PySem.W.findIn X.K (.ref C) "__init__" = some (some (.ref fI))) (tI : PySem.W.typeIn X.K (.ref fI) = some (.type "function"))
    (F1 : FnOk X.prog X.w X.K X.mg X.base CX k fI fd ps sp) (hr : Room (k + 1) X.A) (hb : Binds X.K fd ps []) (hx : Passes CX X (fun _ _ _ => False)) (hg : Gl X x) (hm : X.mg x = some (.ref C)) (ha : PA X (e :: es) ta)
    (hdb : (x == ("__debug__" : Str)) = false := by decide) (he : starEach (e :: es) X.env = (false, eval e X.env) :: starEach es X.env := by rfl) (hpl : (backTo pos (starEach es X.env)).any (·.1) = false := by rfl) :
    PMk X (.Call (.Name x p) (e :: es) [] pos) (tMkO C sp [] ta) := by
  intro pins s σ H Q I h
  obtain ⟨nm, q, N, bs, bm, sn, sub, ab, col, dd, k0, k1, k2, k3, k5, hC, hbm⟩ := T.cls
  refine wpAny_Call_Name_kw (ld_glob I hg hm ?_ hdb)
  refine PySem.W.callWith_K (h₀ := X.base) I.ok.mod.kin T.kC (thn (ha.run pos pins s σ H _ I h) fun us s1 ⟨vs, H1, I1, r1, hz, q1⟩ => ⟨I1.kIn, ?_⟩) he hpl
  show wpAny _ _ (call (.ref C) us) _ _ _
  obtain ⟨hp, g, dr, tk, os⟩ := s1
  -- the new object stands behind the tuple of its arguments
  let a : Addr := hp.objs.size + 1
  let hN : Heap := (hp.push (PySem.W.kdv_tup us)).push (PySem.HandSPX.excO C hp.objs.size)
  have hsz : hp.objs.size ≤ a := Nat.le_succ _
  have na : H1 a = none := I1.hok.fresh hsz
  have hq := q1 a na
  rw [List.append_nil] at hq
  have kk : ∀ b o, hp.get? b = some o → hN.get? b = some o := fun b o e => Heap.get?_push_of_some _ (Heap.get?_push_of_some _ e)
  have ga : hN.get? a = some (PySem.HandSPX.excO C hp.objs.size) := by
    show ((hp.push (PySem.W.kdv_tup us)).push (PySem.HandSPX.excO C hp.objs.size)).get? (hp.objs.size + 1) = _
    heap_get
  have I2 : Inv X pins σ (upd H1 a (exo a C none)) ⟨hN, g, dr, tk, os⟩ := I1.laid (t' := tk) kk hsz (exo_ok ga)
  have r2 : Vals (V.ref a :: vs) (Value.ref a :: us) := .cons rfl r1
  have hl : (Value.ref a :: us ++ []).length = ps.length := by
    have e := r2.length
    rw [F1.len _ _ _ _ hq] at e
    rw [List.append_nil]
    exact e.symm
  have b2 := hb ⟨hN, g, dr, tk, os⟩ (Value.ref a :: us) I2.kIn hl
  rw [List.append_nil] at b2
  have hus : us.length ≤ sizeLine := by
    rw [← Paired.length r1, sizeLine_eq]
    omega
  refine wpAny_call (PySem.HandSPX.call_own F.excBase_ValueError (fun Y => PySem.HandSPX.refsVE_contains Y bm hbm) (I1.kIn _ _ hC) (PySem.W.looks_findIn I1.kIn iC) (fun self => PySem.W.bind_fn I1.kIn self tI) hus
    (codeAny_mono (F1.run _ X.stack ⟨hN, g, dr, tk, os⟩ _ ⟨Value.ref a :: us, []⟩ (Value.ref a :: us) _ _ (fun _ _ _ => False) (hr.make C us []) (I2.env0.make C us []) b2 r2 hq) fun r s' hq' => ?_))
  match r, hq' with
  | .error er, hq' => exact hx pins σ _ _ er s' I2 hq'
  | .ok (.ret u), hq' =>
    obtain ⟨v, H2, os2, bare2, un2, hok2, rv, ev, d, fs, ea, ed, hd1, q2⟩ := hq'
    subst ev
    obtain ⟨h2, g2, d2, t2, os'⟩ := s'
    obtain ⟨t0, G, J, kG, ge, hoe, nd⟩ := mk_end0 (d2 := d2) (t2 := t2) I1 hsz kk un2 hok2 os2 bare2 ea ed hd1
    exact ⟨rv, a, _, _, ⟨G, g2, d2, t2, os'⟩, _, .ref C, some d, rfl, J, kG, ge, hoe, ⟨rfl, rfl, fun ws e => by cases e; rfl⟩, rfl, rfl, nd, rfl, bare2, raises_own T.exC T.tyC, q2⟩
  | .ok .next, hq' => exact False.elim hq'
  | .ok .brk, hq' => exact False.elim hq'
  | .ok .cont, hq' => exact False.elim hq'
end
end L2N
namespace Ink
open PySem PySem.Spec PyProof.Rows L2
theorem g_go {i : Nat} {v : V} {σ : L2.St} {H : Hp} {Q : L2.St → Hp → Prop} (h : Q (σ.set i (some v)) H) : gName i v σ H Q := h
def spFig : Sp := fun vs H Q _ => ∃ z, vs = [.str z] ∧ z.length ≤ 1000 ∧ ∀ H', Same H H' → Q (.bl (isFig z)) H'
def spAT : Sp := fun vs H Q _ => ∃ z, vs = [.str z] ∧ z.length ≤ 1000 ∧ ∀ H', Same H H' → Q (.bl (isAT z)) H'
/-- any text: the tuple, or BadText(0) -/
def spRd (C : Addr) : Sp := fun vs H Q E => ∃ t, vs = [.str t] ∧ t.length ≤ 900 ∧ (∀ z ar p c, rdP t = some (z, ar, p, c) → ∀ W H', H W = none → Same H H' → WrAt H' W z ar p c → Q (.ref W) H') ∧
  (rdP t = none → ∀ d H', H d = none → Same H H' → H' d = some (.xd [("at", .int 0), ("word", .str "BadText")]) → E (.ref C) (some d) H')
structure BadR (P : Program) (w : World) (K : PySem.W.Frag) (mg : Str → Option Value) (base : Heap) (k : Nat) (C : Addr) : Prop where
  nm : Named K C "BadText"
  hw : PySem.W.findIn K (.ref C) "word" = some none
  hat : PySem.W.findIn K (.ref C) "at" = some none
  gB : mg "BadText" = some (.ref C)
  init : ∃ f fd, PySem.W.findIn K (.ref C) "__init__" = some (some (.ref f)) ∧ PySem.W.typeIn K (.ref f) = some (.type "function") ∧ FnOk P w K mg base CX0 k f fd ["self", "at"] (spBad K) ∧ Binds K fd ["self", "at"] []
section
variable {X : Cx} {W : WX} {k : Nat} {C : Addr} {e : Expr} {es : List Expr} {ta : TA} {p pos pos' : Pos}
theorem ps_raiseBad (B : BadR X.prog X.w X.K X.mg X.base k C) (hr : Room (k + 1) X.A) (hg : Gl X "BadText") (hc : X.calm = true) (tk : L2N.Takes X W) (ha : PA X (e :: es) ta)
    (he : starEach (e :: es) X.env = (false, eval e X.env) :: starEach es X.env := by rfl) (hpl : (backTo pos (starEach es X.env)).any (·.1) = false := by rfl) :
    PS X (.Raise (some (.Call (.Name "BadText" p) (e :: es) [] pos)) none pos') (fun _ σ H => tMkO C (spBad X.K) [] ta σ H fun cls d H' => W cls d σ H') := by
  obtain ⟨f, fd, iC, tI, G, b⟩ := B.init
  exact L2N.ps_raise hc tk (L2N.pmk_oexN B.nm.ox iC tI G hr b pass0 hg B.gB ha (by decide) he hpl)
end
section
variable {P : Program} {w : World} {K : PySem.W.Frag} {mg : Str → Option Value} {base : Heap}
/-- a def that may raise, what it raises having no context -/
theorem okN {CX : CXT} {x qual : Str} {st : Stmt} {f : Addr} {fd : FuncData} {N ps : List Str} {k : Nat} {sp : Sp} (F : Fun K x qual st f fd) (S : FnScope N ps (defScope st)) (len : ∀ vs H Q E, sp vs H Q E → vs.length = ps.length)
    (hbody : ∀ (cdv : Value) (A : Around) (outer : List Env) (s : Shared) (H : Hp) (vs : List V) (Q : VK) (E : XK), Room k (A.deeper (envOfC qual (defScope st) s.heap.objs.size f cdv)) → sp vs H Q E →
      ∃ t, PSs (cxOf CX P w K mg base N qual (defScope st) f cdv A outer s H E) (defBody st) t ∧ t { nx := fun _ H' => Q .non H', rt := Q } (start N vs) H) : FnOk P w K mg base CX (k + 1) f fd ps sp := by
  obtain ⟨oc, od, kV, doc, pm, an, cdv, ct, osl, rfl, lk, hcd⟩ := F.ex
  exact fn_of lk hcd S len fun A outer s H vs Q E hr hsp => hbody cdv A outer s H vs Q E hr hsp
theorem ok_figure {f : Addr} {fd : FuncData} {k : Nat} (F : Fun K "_is_figure" "_is_figure" sIsFigure f fd) (T : Txt mg) : FnOk P w K mg base CX0 (k + 1) f fd ["text"] spFig := by
  refine F.ok sc__is_figure (fun vs H Q E h => ?_) (fun cdv A outer s H vs Q E hr h => ?_)
  · obtain ⟨z, rfl, _⟩ := h
    rfl
  · obtain ⟨z, rfl, hz, q⟩ := h
    refine ⟨_, (pss_one (ps_ret (pe_and (pe_cmpR op_eq (pe_callB call_len_str (by rfl) T.m_len PySem.boot_len (pa_cons (pv 0) pa_nil)) pe_int (nomark _)) (pe_one (pe_chain op_le_str op_le_str pe_str (pv 0) pe_str))))), ?_⟩
    exact Evl.s_ret (Evl.ev_andV (Evl.ev_op (ev_lenS (Evl.ev_var (by rfl)) (by omega)) Evl.ev_c (Evl.rv_eq rfl)) fun _ => ev_chainS (f := fun x y => !decide (y.cps.toList < x.cps.toList)) (g := fun x y => !decide (y.cps.toList < x.cps.toList)) (fun x y H Q h => ⟨x, y, rfl, rfl, h⟩) (fun x y H Q h => ⟨x, y, rfl, rfl, h⟩) Evl.ev_c (Evl.ev_var (by rfl)) Evl.ev_c) q
theorem ok_arrow_text {f : Addr} {fd : FuncData} {k : Nat} (F : Fun K "_is_arrow_text" "_is_arrow_text" sIsArrowText f fd) (T : Txt mg) (C__is_figure : Cal P w K mg base k "_is_figure" ["text"] spFig) : FnOk P w K mg base CX0 (k + 1) f fd ["word"] spAT := by
  refine F.ok sc__is_arrow_text (fun vs H Q E h => ?_) (fun cdv A outer s H vs Q E hr h => ?_)
  · obtain ⟨z, rfl, _⟩ := h
    rfl
  · obtain ⟨z, rfl, hz, q⟩ := h
    refine ⟨_, (pss_one (ps_ret (pe_and (pe_cmpR op_eq (pe_callB call_len_str (by rfl) T.m_len PySem.boot_len (pa_cons (pv 0) pa_nil)) pe_int (nomark _)) (pe_and (pe_callC C__is_figure hr (by rfl) (pa_cons (pe_ix ix_str (pv 0) pe_int (fun _ _ => rfl)) pa_nil)) (pe_one (pe_callC C__is_figure hr (by rfl) (pa_cons (pe_ix ix_str (pv 0) pe_int (fun _ _ => rfl)) pa_nil))))))), ?_⟩
    have L3 : decide (V.int ((z.length : Nat) : Int) = V.int 3) = true → z.length = 3 := fun h => by
      have := of_decide_eq_true h
      injection this with this
      omega
    refine Evl.s_ret (v := .bl (isAT z)) (Evl.ev_andV (Evl.ev_op (ev_lenS (Evl.ev_var (by rfl)) (by omega)) Evl.ev_c (Evl.rv_eq rfl)) fun h3 => Evl.ev_andV (a := isFig (chr z 0)) (b := isFig (chr z 2)) ?_ fun _ => ?_) q
    · obtain ⟨c, hc, e⟩ := chr_at (z := z) (i := 0) (by have := L3 h3; omega)
      exact ev_call (vs := [.str (single c)]) (Evl.ea_cons (ev_ixS (Evl.ev_var (by rfl)) Evl.ev_c (by omega) (by decide) hc) Evl.ea_nil) fun H2 Q2 _ q2 => ⟨_, rfl, by show 1 ≤ 1000; decide, by rw [← e]; exact q2⟩
    · obtain ⟨c, hc, e⟩ := chr_at (z := z) (i := 2) (by have := L3 h3; omega)
      exact ev_call (vs := [.str (single c)]) (Evl.ea_cons (ev_ixS (Evl.ev_var (by rfl)) Evl.ev_c (by omega) (by decide) hc) Evl.ea_nil) fun H2 Q2 _ q2 => ⟨_, rfl, by show 1 ≤ 1000; decide, by rw [← e]; exact q2⟩
theorem ok_read {f C : Addr} {fd : FuncData} {k : Nat} (F : Fun K "read_writer" "read_writer" sReadWriter f fd) (T : Txt mg) (hk : 3 ≤ k) (B : BadR P w K mg base 2 C) (C__is_figure : Cal P w K mg base k "_is_figure" ["text"] spFig) (C__is_arrow_text : Cal P w K mg base k "_is_arrow_text" ["word"] spAT)
    (C_is_writer : Cal P w K mg base k "is_writer" ["thing"] (spIsWriter isWr)) : FnOk P w K mg base (L2N.CX P w) (k + 1) f fd ["text"] (spRd C) := by
  refine okN F sc_read_writer (fun vs H Q E h => ?_) (fun cdv A outer s H vs Q E hr h => ?_)
  · obtain ⟨t, rfl, _⟩ := h
    rfl
  · obtain ⟨t, rfl, ht, q, qb⟩ := h
    refine ⟨_, (pss_cons (ps_set (i := 1) sc_read_writer.nd rfl (.inl rfl) (pe_split (pv 0) pe_str))
    (pss_cons (ps_if (PW.pt (pw_or (pt_cmpR op_ne (pe_callB call_len (by rfl) T.m_len PySem.boot_len (pa_cons (pv 1) pa_nil)) pe_int (nomark _)) (pw_or (pt_not (pt_val (pe_callC C__is_figure hr (by rfl) (pa_cons (pe_ix ix_list (pv 1) pe_int (fun _ _ => rfl)) pa_nil)))) (pw_or1 (pt_not (pt_val (pe_callC C__is_figure hr (by rfl) (pa_cons (pe_ix ix_list (pv 1) pe_int (fun _ _ => rfl)) pa_nil))))))))
    (pss_one (ps_raiseBad B (hr.mono hk) (by rfl) rfl (L2N.takes_of rfl rfl rfl rfl) (pa_cons pe_int pa_nil))) pss_nil)
    (pss_cons (ps_set (i := 2) sc_read_writer.nd rfl (.inl rfl) (pe_ifExp (pt_cmpR op_eq (pe_ix ix_list (pv 1) pe_int (fun _ _ => rfl)) pe_str (nomark _)) (pe_lst pa_nil) (pe_split (pe_ix ix_list (pv 1) pe_int (fun _ _ => rfl)) pe_str)))
    (pss_cons (ps_if (pt_not (pt_val (pe_callB (cr_all rfl) (by rfl) T.m_all (by decide +kernel) (pa_cons (pe_lc (own := [("word", 5)]) (g := (gName 5)) (by rfl) sc_read_writer.nd (pi_list (pv 2)) (blkOk_by (own := [("word", 5)]) (N := ["text", "parts", "words", "arrows", "writer", "word"]) (sc := defScope sReadWriter) (by decide +kernel)) (fun _ _ _ _ _ => (pg_name (i := 5) sc_read_writer.nd rfl (Or.inl rfl))) (fun _ _ _ _ _ => pts_nil) (fun _ _ _ _ _ => (pe_callC C__is_arrow_text hr (by rfl) (pa_cons (pv 5) pa_nil)))) pa_nil))))
    (pss_one (ps_raiseBad B (hr.mono hk) (by rfl) rfl (L2N.takes_of rfl rfl rfl rfl) (pa_cons pe_int pa_nil))) pss_nil)
    (pss_cons (ps_set (i := 3) sc_read_writer.nd rfl (.inl rfl) (pe_callTy call_tuple_of (by rfl) T.m_tuple (by decide +kernel) (pa_cons (pe_lc (own := [("word", 5)]) (g := (gName 5)) (by rfl) sc_read_writer.nd (pi_list (pv 2)) (blkOk_by (own := [("word", 5)]) (N := ["text", "parts", "words", "arrows", "writer", "word"]) (sc := defScope sReadWriter) (by decide +kernel)) (fun _ _ _ _ _ => (pg_name (i := 5) sc_read_writer.nd rfl (Or.inl rfl))) (fun _ _ _ _ _ => pts_nil) (fun _ _ _ _ _ => (pe_tup (pa_cons (pe_callTy call_int_str (by rfl) T.m_int (by decide +kernel) (pa_cons (pe_ix ix_str (pv 5) pe_int (fun _ _ => rfl)) pa_nil)) (pa_cons (pe_ix ix_str (pv 5) pe_int (fun _ _ => rfl)) (pa_cons (pe_callTy call_int_str (by rfl) T.m_int (by decide +kernel) (pa_cons (pe_ix ix_str (pv 5) pe_int (fun _ _ => rfl)) pa_nil)) pa_nil)))))) pa_nil)))
    (pss_cons (ps_set (i := 4) sc_read_writer.nd rfl (.inl rfl) (pe_tup (pa_cons (pe_ix ix_list (pv 1) pe_int (fun _ _ => rfl)) (pa_cons (pv 3) (pa_cons (pe_callTy call_int_str (by rfl) T.m_int (by decide +kernel) (pa_cons (pe_ix ix_list (pv 1) pe_int (fun _ _ => rfl)) pa_nil)) (pa_cons (pe_callTy call_int_str (by rfl) T.m_int (by decide +kernel) (pa_cons (pe_ix ix_list (pv 1) pe_int (fun _ _ => rfl)) pa_nil)) pa_nil))))))
    (pss_cons (ps_if (pt_not (pt_val (pe_callC C_is_writer hr (by rfl) (pa_cons (pv 4) pa_nil))))
    (pss_one (ps_raiseBad B (hr.mono hk) (by rfl) rfl (L2N.takes_of rfl rfl rfl rfl) (pa_cons pe_int pa_nil))) pss_nil)
    (pss_one (ps_ret (pv 4)))))))))), ?_⟩
    have hbad : ∀ {σ : L2.St} {H1 : Hp}, Same H H1 → rdP t = none → tMkO C (spBad K) [] (tCons (tC (.int 0)) tNil) σ H1 (fun cls d H' => E cls d H') := fun {σ H1} s1 hn =>
      bad_made B.nm B.hw B.hat (by decide) (by decide +kernel) (fun R r => r) fun d nd => qb hn d _ (by
        cases hd : H d with
        | none => rfl
        | some o => exact nomatch (s1 _ _ hd).symm.trans nd) (s1.trans (same_new nd)) upd_same
    have hp := slash_small t
    refine Evl.q_asgL (xs := (Txt.split t slash).map V.str) (el_split (Evl.ev_var (by rfl)) Evl.ev_c (by decide +kernel) (by omega) rfl) fun pp H1 npp s1 epp => ?_
    by_cases h4 : (Txt.split t slash).length = 4
    case neg =>
      refine Evl.q_when (b := true) (Evl.et_or (a := true) (b := true) (Evl.et_is (Evl.et_test (Evl.ev_op (ev_lenL (Evl.ev_var (by rfl)) (.of epp)) Evl.ev_c (Evl.rv_ne rfl))) (by
        rw [List.length_map]
        refine (Bool.not_eq_true' _).mpr (decide_eq_false fun e => h4 ?_)
        injection e with e
        omega)) fun h => nomatch h) (fun _ H2 s2 => hbad (s1.trans s2) (rdP_other h4)) fun h => nomatch h
    have e4 : ∃ a b c d, Txt.split t slash = [a, b, c, d] := by
      match e : Txt.split t slash, h4 with
      | [a, b, c, d], _ => exact ⟨a, b, c, d, rfl⟩
    obtain ⟨a, b, c, d, e4⟩ := e4
    rw [e4] at epp hp
    have ha := hp.1 a (by simp)
    have hb := hp.1 b (by simp)
    have hc := hp.1 c (by simp)
    have hd := hp.1 d (by simp)
    have e40 := rdP_four e4
    refine Evl.q_when (b := !isFig c || !isFig d) (Evl.et_is (Evl.et_or (a := false) (b := !isFig c || !isFig d) (Evl.et_test (Evl.ev_op (ev_lenL (Evl.ev_var (by rfl)) (.of epp)) Evl.ev_c (Evl.rv_ne rfl))) fun _ => Evl.et_or
      (Evl.et_not (Evl.et_B (ev_call (vs := [.str c]) (Evl.ea_cons (ev_ixL (Evl.ev_var (by rfl)) Evl.ev_c (.of epp) (by decide) rfl) Evl.ea_nil) fun H2 Q2 _ q2 => ⟨_, rfl, by omega, q2⟩))) fun _ =>
      (Evl.et_not (Evl.et_B (ev_call (vs := [.str d]) (Evl.ea_cons (ev_ixL (Evl.ev_var (by rfl)) Evl.ev_c (.of epp) (by decide) rfl) Evl.ea_nil) fun H2 Q2 _ q2 => ⟨_, rfl, by omega, q2⟩)))) rfl) (fun hf H2 s2 => hbad (s1.trans s2) ?_) fun hf H2 s2 => ?_
    · rw [e40]
      unfold rd4
      refine if_neg fun h => ?_
      rw [h.1, h.2.1] at hf
      exact nomatch hf
    rw [Bool.or_eq_false_iff, Bool.not_eq_false', Bool.not_eq_false'] at hf
    obtain ⟨fc, fd'⟩ := hf
    have epp2 := s2 _ _ epp
    -- words
    have hw := words_small (q := b)
    refine Evl.q_asgL (xs := (wordsOf b).map V.str) (el_if (b := decide (b = dash)) (Evl.et_is (Evl.et_test (Evl.ev_op (ev_ixL (v := .str b) (Evl.ev_var (by rfl)) Evl.ev_c (.of epp2) (by decide) rfl) Evl.ev_c (Evl.rv_eq rfl))) (decide_eq_decide.mpr ⟨fun e => by injection e, fun e => by rw [e]⟩)) (fun hb => ?_) (fun hb => ?_)) fun wp H3 nwp s3 ewp => ?_
    · unfold wordsOf
      rw [if_pos (of_decide_eq_true hb)]
      exact Evl.el_lst Evl.ea_nil (by decide : 0 ≤ 100000)
    · unfold wordsOf
      rw [if_neg (of_decide_eq_false hb)]
      exact el_split (ev_ixL (v := .str b) (Evl.ev_var (by rfl)) Evl.ev_c (.of epp2) (by decide) rfl) Evl.ev_c (by decide +kernel) (by omega) rfl
    have elist : (List.range ((wordsOf b).map V.str).length).map (fun i => match (wordsOf b)[i]? with | some z => isAT z | none => true) = (wordsOf b).map isAT := by
      refine List.ext_getElem? fun i => ?_
      rw [List.getElem?_map, List.getElem?_map, List.length_map]
      by_cases hi : i < (wordsOf b).length
      · rw [List.getElem?_range hi, List.getElem?_eq_getElem hi]
        show some (match (wordsOf b)[i]? with | some z => isAT z | none => true) = _
        rw [List.getElem?_eq_getElem hi]
        rfl
      · rw [List.getElem?_eq_none (show (wordsOf b).length ≤ i by omega), List.getElem?_eq_none (show (List.range (wordsOf b).length).length ≤ i by rw [List.length_range]; omega)]
        rfl
    refine Evl.q_when (b := !(wordsOf b).all isAT) (Evl.et_not (Evl.et_B (Evl.ev_is (ev_all (bs := (wordsOf b).map isAT) ?_) (congrArg V.bl ?_)))) (fun hf H4 s4 => hbad ((s1.trans s2).trans (s3.trans s4)) ?_) fun hf H4 s4 => ?_
    · rw [← elist, ← bls_eq]
      refine el_lcV _ (Evl.ev_var (by rfl)) (.of ewp) (by rw [List.length_map]; omega) (fun _ => rfl) (fun i v H5 e5 hv => ?_)
      rw [List.getElem?_map] at hv
      cases hx : (wordsOf b)[i]? with
      | none =>
        rw [hx] at hv
        cases hv
      | some z =>
        rw [hx] at hv
        have hv := Option.some.inj hv
        subst hv
        exact ev_call (Evl.ea_cons (Evl.ev_var (by rfl)) Evl.ea_nil) fun H6 Q6 _ q6 => ⟨z, rfl, by have := hw.1 z (List.mem_of_getElem? hx); omega, q6⟩
    · rw [List.all_map]
      rfl
    · rw [e40]
      unfold rd4
      refine if_neg fun h => ?_
      rw [h.2.2.1] at hf
      exact nomatch hf
    rw [Bool.not_eq_false'] at hf
    have hat := List.all_eq_true.mp hf
    have ewp4 := s4 _ _ ewp
    have epp4 := s4 _ _ (s3 _ _ epp2)
    -- arrows
    refine ⟨.ref wp, rfl, wp, rfl, ⟨_, .of ewp4⟩, fun D nD => ?_⟩
    refine lc_it (walk_list (xs := (wordsOf b).map V.str)) (fun i H' => Same H4 H' ∧ ∃ ps : List Addr, H' D = some (.lst (ps.map V.ref)) ∧ ArsAt H' ps (((wordsOf b).map rowOf).take i)) ⟨same_new nD, [], upd_same, .nil⟩ (fun i H' _ hP => .of (hP.1 _ _ ewp4)) (fun i v H5 H6 hi hP hy => ?_) (fun H5 hP => ?_)
    · obtain ⟨rfl, hv⟩ := hy
      obtain ⟨s5, ps, eD, hps⟩ := hP
      rw [List.length_map] at hi
      have hx : (wordsOf b)[i]? = some (wordsOf b)[i] := List.getElem?_eq_getElem hi
      rw [List.getElem?_map, hx] at hv
      have hv := Option.some.inj hv
      subst hv
      have hm := at_len (hat _ (List.getElem_mem hi))
      have htk : ((wordsOf b).map rowOf).take (i + 1) = ((wordsOf b).map rowOf).take i ++ [rowOf (wordsOf b)[i]] := take_snoc (by rw [List.getElem?_map, hx]; rfl)
      have hpl : ps.length = (((wordsOf b).map rowOf).take i).length := Paired.length hps
      rw [List.length_take, List.length_map] at hpl
      generalize (wordsOf b)[i] = z at hm htk
      obtain ⟨l3, f0, f2⟩ := hm
      obtain ⟨c0, k0, g0⟩ := chr_at (z := z) (i := 0) (by omega)
      obtain ⟨c1, k1, g1⟩ := chr_at (z := z) (i := 1) (by omega)
      obtain ⟨c2, k2, g2⟩ := chr_at (z := z) (i := 2) (by omega)
      have i0 := (intV_fig f0).1
      have i2 := (intV_fig f2).1
      have er : rowOf z = (intV (chr z 0), single c1, intV (chr z 2)) := by
        unfold rowOf
        rw [g1]
      rw [g0] at i0
      rw [g2] at i2
      rw [g0, g2] at er
      refine ⟨rfl, yes_of (iteT ?_)⟩
      refine ⟨.str z, rfl, _, 0, c0, rfl, rfl, small_le (by omega), atI_of (by decide) k0, _, intV (single c0), rfl, i0, by show 1 ≤ 640; decide, .str z, rfl, _, 1, c1, rfl, rfl, small_le (by omega), atI_of (by decide) k1, .str z, rfl, _, 2, c2, rfl, rfl, small_le (by omega), atI_of (by decide) k2, _, intV (single c2), rfl, i2, by show 1 ≤ 640; decide, by show 3 ≤ sizeLine; decide, fun p' np' => ?_⟩
      have s6 := same_new (o := .tup [V.int (intV (single c0)), .str ⟨#[c1]⟩, .int (intV (single c2))]) np'
      have nDp : D ≠ p' := ne_of_none eD np'
      refine ⟨_, s6 _ _ eD, by rw [List.length_map]; exact small_lt (by omega), same_mut (s5.trans s6) nD, ps ++ [p'], by rw [upd_same, List.map_append]; rfl, ?_⟩
      rw [htk]
      refine prd_snoc (L2.Paired.mapP (hps.same s6) fun p1 x1 hx1 => ?_) ?_
      · show upd _ D _ p1 = _
        rw [upd_ne (ne_of hx1 (s6 _ _ eD) (by intro z; cases z))]
        exact hx1
      · show upd _ D _ p' = _
        rw [upd_ne nDp.symm, upd_same, er]
        rfl
    · obtain ⟨s5, ps, eD, hps⟩ := hP
      rw [List.length_map, ← List.length_map (f := rowOf), List.take_length] at hps
      refine ⟨D, _, rfl, .inl ⟨.of eD, fun tp ntp => ?_⟩⟩
      have s6 := same_new (o := .tup (ps.map V.ref)) ntp
      have etp : (upd H5 tp (.tup (ps.map V.ref))) tp = some (.tup (ps.map V.ref)) := upd_same
      have hps6 := hps.same s6
      have epp6 := s6 _ _ (s5 _ _ epp4)
      generalize upd H5 tp (.tup (ps.map V.ref)) = H6 at s6 etp hps6 epp6
      refine g_go ?_
      dsimp only
      -- the writer
      obtain ⟨ic, c0, c9, lc⟩ := intV_fig fc
      obtain ⟨id', d0, d9, ld⟩ := intV_fig fd'
      refine ⟨.ref pp, rfl, pp, _, 0, .str a, rfl, rfl, .of epp6, rfl, .ref tp, rfl, .ref pp, rfl, pp, _, 2, .str c, rfl, rfl, .of epp6, rfl, _, intV c, rfl, ic, by omega, .ref pp, rfl, pp, _, 3, .str d, rfl, rfl, .of epp6, rfl, _, intV d, rfl, id', by omega, by show 4 ≤ sizeLine; decide, fun W nW => ?_⟩
      have s7 := same_new (o := .tup [V.str a, .ref tp, .int (intV c), .int (intV d)]) nW
      have eW : (upd H6 W (.tup [V.str a, .ref tp, .int (intV c), .int (intV d)])) W = some (.tup [V.str a, .ref tp, .int (intV c), .int (intV d)]) := upd_same
      have hps7 := hps6.same s7
      have etp7 := s7 _ _ etp
      have all : Same H H6 := (Same.trans s1 (Same.trans s2 s3)).trans (Same.trans s4 (s5.trans s6))
      have nW0 : H W = none := all.free nW
      have all7 := all.trans s7
      generalize upd H6 W (.tup [V.str a, .ref tp, .int (intV c), .int (intV d)]) = H7 at s7 eW hps7 etp7 all7
      have hsh : ShortA ((wordsOf b).map rowOf) := ⟨by rw [List.length_map]; omega, fun x hx => by
        obtain ⟨z, _, rfl⟩ := List.mem_map.mp hx
        show (chr z 1).length ≤ 1000
        unfold chr
        split
        · show 1 ≤ 1000
          decide
        · show 0 ≤ 1000
          decide⟩
      refine g_go ?_
      dsimp only
      refine Evl.q_when (b := !isWr a ((wordsOf b).map rowOf) (intV c) (intV d)) (Evl.et_not (Evl.et_B (ev_call (vs := [.ref W]) (Evl.ea_cons (Evl.ev_var (by rfl)) Evl.ea_nil) fun H8 Q8 e8 q8 => ⟨W, _, rfl, e8 _ _ eW, .inr ⟨a, tp, ps, (wordsOf b).map rowOf, intV c, intV d, rfl, e8 _ _ etp7, hps7.same e8, hsh, by omega, q8⟩⟩))) (fun hf H8 s8 => hbad (all7.trans s8) ?_) fun hf H8 s8 => ?_
      · rw [e40]
        unfold rd4
        refine if_neg fun h => ?_
        rw [h.2.2.2] at hf
        exact nomatch hf
      · rw [Bool.not_eq_false'] at hf
        exact ⟨.ref W, rfl, q a _ _ _ (by rw [e40]; unfold rd4; exact if_pos ⟨fc, fd', List.all_eq_true.mpr hat, hf⟩) W H8 nW0 (all7.trans s8) ⟨tp, ps, s8 _ _ eW, s8 _ _ etp7, hps7.same s8⟩⟩
end
end Ink
namespace L2N
open PySem PySem.Spec PyProof.Rows L2
/-! ### except (A, B, C) as n: of what the body raises each is one of them -/
theorem traced_push {h base : Heap} {e : Addr} {Z : Obj → Prop} {fl : Value} {o : Obj} (t : HandSPX.TracedZ h base e Z fl) : HandSPX.TracedZ (h.push o) base e Z fl := by
  obtain ⟨oe, vs, T, oT, ts, he, hz, hd, h1, hn, hne, hT, hdT, h3⟩ := t
  exact ⟨oe, vs, T, oT, ts, Heap.get?_push_of_some _ he, hz, hd, h1, hn, hne, Heap.get?_push_of_some _ hT, hdT, h3⟩
theorem flying_push {base h : Heap} {l : List Env} {e : Addr} {Z : Obj → Prop} {o : Obj} (x : HandSPX.FlyingZ base l e Z h) : HandSPX.FlyingZ base l e Z (h.push o) := by
  obtain ⟨f1, f2, f3, f4⟩ := x
  exact ⟨fun b u e => Heap.get?_push_of_some _ (f1 b u e), f2, f3.of_keeps fun b u e _ => ⟨u, Heap.get?_push_of_some _ e, rfl⟩, traced_push f4⟩
/-- what such a clause wishes of the body's exceptions -/
def wAs3 (K : PySem.W.Frag) (c1 c2 c3 : Value) (i : Nat) (ts : Addr → Value → Option Addr → TS) (D : Ends) : WX := fun cls d σ H =>
  PySem.W.exmAny K cls [c1, c2, c3] = some true ∧ ∀ a, H a = none → ts a cls d { nx := fun σ' H' => D.nx (σ'.set i none) H', rt := D.rt, bk := fun σ' H' => D.bk (σ'.set i none) H', ct := fun σ' H' => D.ct (σ'.set i none) H' } (σ.set i (some (.ref a))) H
section
variable {X : Cx} {x1 x2 x3 n : Str} {c1 c2 c3 : Value} {i j : Nat} {body suite : List Stmt} {b₀ : Stmt} {p1 p2 p3 tp pos pos' : Pos} {tb : WX → TS} {ts : Addr → Value → Option Addr → TS}
theorem name_at {pins : List (Addr × Obj)} {σ : L2.St} {H : Hp} {s : Shared} {x : Str} {c : Value} {p : Pos} {Q : Value → Shared → Prop} {E : Value → Shared → Prop} (I : Inv X pins σ H s) (hc : Names X x c) (q : Q c s) : wpAny (model X.prog X.w) X.A (eval (.Name x p) X.env) Q E s := by
  obtain ⟨hg, hdb, hm | ⟨hm, hv, hn⟩⟩ := hc
  · exact ld_glob I hg hm q hdb
  · exact ld_blt I hg hm hv q hn hdb
theorem ps_try_as3 (hs : X.stack = X.env :: X.outer) (hf : X.env.frame = some X.env.locals) (hN : X.N.Nodup) (hi : X.N[i]? = some n) (hln : X.env.kindOf n = some .local) (h1 : Names X x1 c1) (h2 : Names X x2 c2) (h3 : Names X x3 c3)
    (hb : ∀ (W : WX) (pn : List (Addr × Obj)) (xe : Value → Shared → Prop), Takes (X.tr pn xe) W → PassesOwn (model X.prog X.w) X.A X.env xe → PSs (X.tr pn xe) body (tb W))
    (hsu : ∀ (a : Addr) (oe : Obj) (cls : Value) (d : Option Addr) (pn : List (Addr × Obj)), Zn cls d oe → (∃ vs, oe.data = .fields vs) → PSs (X.suite a ((a, oe) :: pn)) (b₀ :: suite) (ts a cls d)) :
    PS X (.Try body [.ExceptHandler (some (.Tuple [.Name x1 p1, .Name x2 p2, .Name x3 p3] j tp)) (some n) (b₀ :: suite) pos'] [] [] pos) (fun D σ H => tb (wAs3 X.K c1 c2 c3 i ts D) D σ H) := by
  refine ⟨fun pins s σ H D I h => ?_⟩
  have ok := I.ok
  have hfr : X.A.frames = some (X.env :: X.outer) := by rw [ok.frames, hs]
  refine wpAny_Try_except ?_
  refine wpAny_mono ((hb (wAs3 X.K c1 c2 c3 i ts D) (X.pn ++ pins) (fun e s₁ => wpAny (model X.prog X.w) X.A (noteFrame e X.env) (fun _ s₂ => wpAny (model X.prog X.w) X.A (setFlight e none) (fun _ s₃ =>
    wpAny (model X.prog X.w) X.A (handleBy e X.env [.ExceptHandler (some (.Tuple [.Name x1 p1, .Name x2 p2, .Name x3 p3] j tp)) (some n) (b₀ :: suite) pos']) (SP X pins D) X.xe s₃) X.xe s₂) X.xe s₁) (fun u s' xx => ?_) PassesOwn.looking).run [] s σ H D (I.toTry _) h) (fun f s1 hsp => ?_) (fun e s1 he => he)
  · obtain ⟨a, B, sI, pins', σ', H', cls, d, rfl, J', nb, up, sky, na, os, ag, hx, yes⟩ := xx
    have J : Inv X pins σ' H' sI := J'.ofTry ok
    have sky' : Sky B (X.env :: X.outer) a (Zn cls d) X.env.locals s'.heap := by rw [← hs]; exact sky
    show wpAny (model X.prog X.w) X.A (noteFrame (.ref a) X.env) _ _ _
    refine Sky.land Zn.steady hfr hf sky' fun hA flA upA => ?_
    -- where the exception lies, in a heap where it has landed
    have at_ : ∀ {hh : Heap}, HandSPX.FlyingZ B (X.env :: X.outer) a (Zn cls d) hh → s'.heap.UpToSlots hh → ∃ oe, hh.get? a = some oe ∧ Zn cls d oe ∧ (∃ vs, oe.data = .fields vs) ∧ Inv (X.suite a ((a, oe) :: (X.pn ++ pins))) [] σ' H' { s' with heap := hh } := fun {hh} fl uu => by
      have Jh : Inv X pins σ' H' { s' with heap := hh } := J.landed nb fl.1 (up.trans uu) os ag
      obtain ⟨oe, vs, he, hz, hd⟩ := fl.there
      have nfr : a ∉ frs (X.env :: X.outer) := fun hm => by
        obtain ⟨_, o', e', hnf⟩ := fl.2.2.1.mem hm
        rw [he] at e'
        cases e'
        exact hnf _ hd
      exact ⟨oe, he, hz, ⟨vs, hd⟩, Jh.suite he hd na (fun z => nfr (List.mem_filterMap.mpr ⟨X.env, List.mem_cons_self, by rw [hf, z]⟩)) fun hm => by
        obtain ⟨e, he', q⟩ := List.mem_filterMap.mp hm
        exact nfr (List.mem_filterMap.mpr ⟨e, List.mem_cons_of_mem _ he', q⟩)⟩
    obtain ⟨oA, eA, zA, dA, SA⟩ := at_ flA upA
    have SA' : Inv (X.suite a ((a, oA) :: (X.pn ++ pins))) [] σ' H' { s' with heap := hA } := SA
    refine wpAny_handleBy_cons (codeAny_handlers_test ?_) (by intro q; cases q)
    refine wpAny_Tuple (wpAny_items_cons (name_at (X := X.suite a ((a, oA) :: (X.pn ++ pins))) SA h1 (wpAny_items_cons (name_at (X := X.suite a ((a, oA) :: (X.pn ++ pins))) SA h2 (wpAny_items_cons (name_at (X := X.suite a ((a, oA) :: (X.pn ++ pins))) SA h3 ?_))))))
    refine wpAny_pure ⟨by show 3 ≤ sizeLine; decide, ?_⟩
    have flT := flying_push (o := { cls := .type "tuple", data := .seq [c1, c2, c3].toArray }) flA
    have upT : s'.heap.UpToSlots (hA.push { cls := .type "tuple", data := .seq [c1, c2, c3].toArray }) := upA.trans (.of_keeps fun b o e => Heap.get?_push_of_some _ e)
    obtain ⟨oT, eT, zT, dT, ST⟩ := at_ flT upT
    have LT : PySem.W.Looks (model X.prog X.w) (hA.push { cls := .type "tuple", data := .seq [c1, c2, c3].toArray }) (typeOf (.ref a)) cls := fun A Q E s k q => wpAny_typeOf_ref (k _ _ eT) (by rw [zT.1]; exact q)
    have LM := PySem.W.exm_tup3 (M := model X.prog X.w) ST.kIn LT (tp := hA.objs.size) (by heap_get) hx
    refine LM.here ?_
    refine codeAny_handlers_suite_as ?_
    refine HandSPX.lands_againZ flT fun h4 fl4 up4 => ?_
    obtain ⟨o4, e4, z4, d4, S4⟩ := at_ fl4 (upT.trans up4)
    refine store_ok (X := X.suite a ((a, o4) :: (X.pn ++ pins))) (v := .ref a) S4 hN hi (.inl hln) rfl (fun s5 S5 => ?_) (.inr hln)
    refine wpAny_mono ((hsu a o4 cls d (X.pn ++ pins) z4 d4).run [] s5 _ H' _ S5 (yes a na)) (fun f s6 hsp => ?_) (fun _ _ z => False.elim z)
    have end_ : ∀ {σ6 : L2.St} {H6 : Hp} {Q : Shared → Prop}, Inv (X.suite a ((a, o4) :: (X.pn ++ pins))) [] σ6 H6 s6 → (∀ s7, Inv X pins (σ6.set i none) H6 s7 → Q s7) →
        wpAny (model X.prog X.w) X.A (do bindName X.env n .none; unbindBehindTheSuite X.env n pos') (fun _ s7 => Q s7) X.xe s6 := fun S6 hq => gone_ok (S6.unsuite ok) hN hi hln hq
    cases f with
    | ret u =>
      obtain ⟨v6, σ6, H6, S6, r6, q6⟩ := hsp
      exact end_ S6 fun s7 J7 => ⟨_, _, _, J7, r6, q6⟩
    | next =>
      obtain ⟨σ6, H6, S6, q6⟩ := hsp
      exact end_ S6 fun s7 J7 => ⟨_, _, J7, q6⟩
    | brk =>
      obtain ⟨σ6, H6, S6, q6⟩ := hsp
      exact end_ S6 fun s7 J7 => ⟨_, _, J7, q6⟩
    | cont =>
      obtain ⟨σ6, H6, S6, q6⟩ := hsp
      exact end_ S6 fun s7 J7 => ⟨_, _, J7, q6⟩
  · cases f with
    | ret u =>
      obtain ⟨v, σ', H', J', r, q⟩ := hsp
      exact ⟨v, σ', H', J'.ofTry ok, r, q⟩
    | next =>
      obtain ⟨σ', H', J', q⟩ := hsp
      exact wpAny_execs_nil ⟨σ', H', J'.ofTry ok, q⟩
    | brk =>
      obtain ⟨σ', H', J', q⟩ := hsp
      exact ⟨σ', H', J'.ofTry ok, q⟩
    | cont =>
      obtain ⟨σ', H', J', q⟩ := hsp
      exact ⟨σ', H', J'.ofTry ok, q⟩
end
end L2N
namespace HotX
open PySem PySem.Spec PyProof.Rows
section
variable {prog : Program} {w : World} {A : Around} {E : Value → Shared → Prop} {s : Shared}
/-- a tuple's iterator at its end, while an exception is handled -/
theorem next_tuple_end_hot {it t x1 : Addr} {i : Nat} {items : Array Value} {Q : Option Value → Shared → Prop} (hot : HotAt A x1 s.heap) (hne : x1 ≠ it)
    (hit : IsTupIter s.heap it t i) (ht : IsTup s.heap t items) (hx : items[i]? = none)
    (hQ : ∀ h', Heap.ExtBut it s.heap h' → Q none { s with heap := h' }) : wpAny (model prog w) A (pyNext (.ref it)) Q E s := by
  obtain ⟨o, ho, hc, hd⟩ := id hit
  obtain ⟨ol, hol, _, nl, hdl⟩ := ht
  obtain ⟨hh, o1, vs1, h1, d1, c1⟩ := hot
  unfold pyNext
  refine wpAny_bind (wpAny_attempt (wpAny_callSpecial?_slot (name := Str.ofString "__next__") hit.typeIs slot_tupleiter_next
    (wpAny_call_entry slot_tupleiter_next hit.typeIs entry_tupleiter_next ?_ (args_tupleiter_next _))))
  show wpAny _ _ (field (.ref it) 0 >>= _) _ _ s
  refine wpAny_bind (wpAny_field ho hd (x := .ref t) rfl ?_)
  show wpAny _ _ (if (Value.ref t == Value.none) = true then _ else _) _ _ s
  rw [if_neg (show ¬ ((Value.ref t == Value.none) = true) from Bool.false_ne_true)]
  show wpAny _ _ (field (.ref it) 1 >>= _) _ _ s
  refine wpAny_bind (wpAny_field ho hd (x := .int i 0) rfl ?_)
  show wpAny _ _ (seqItems? (.ref t) >>= _) _ _ s
  refine wpAny_bind (wpAny_seqItems hol hdl ?_)
  simp only [Int.toNat_natCast, hx]
  refine wpAny_bind (wpAny_rule (wpAny_bind (wpAny_setField ho hd (by simp) ?_)))
  show wpAny _ _ (newExc (.type "StopIteration") [] >>= _) _ _ _
  refine wpAny_bind ?_
  simp only [newExc, newTuple]
  refine wpAny_bind (wpAny_newObj_type ?_ (by size_fits))
  refine wpAny_bind (m := firstArgMember _ _) (wpAny_of_eq (a := Value.none) (by first | rfl | (simp only [firstArgMember]; rfl)) ?_)
  refine wpAny_newObj_type ?_ (by size_fits)
  have h1' : (s.heap.update it (Obj.mapFields (·.setIfInBounds 0 Value.none))).get? x1 = some o1 := (Heap.get?_update_other s.heap _ (Ne.symm hne)).trans h1
  refine raiseNew_hot (x1 := x1) ⟨hh, o1, vs1, Heap.get?_push_of_some _ (Heap.get?_push_of_some _ h1'), d1, c1⟩ (Nat.ne_of_lt (Heap.lt_size (Heap.get?_push_of_some _ h1'))) (Heap.get?_push_size _ rfl) rfl (by show 2 < 6; decide) ?_
  refine wpAny_bind (wpAny_isInstance (T := "StopIteration") (b := true) ⟨_, Heap.get?_update_self _ (Heap.get?_push_size _ rfl) rfl, rfl⟩ isSubtype_stop ?_)
  refine wpAny_pure (hQ _ fun b u hb e => ?_)
  have e' := (Heap.get?_update_other s.heap (a := it) (Obj.mapFields (·.setIfInBounds 0 Value.none)) (Ne.symm hb)).trans e
  have e2 := Heap.get?_push_of_some ({ cls := .type "tuple", data := .seq #[] } : Obj) e'
  rw [Heap.get?_update_other _ _ (Nat.ne_of_gt (Heap.lt_size e2))]
  exact Heap.get?_push_of_some _ e2
/-- a tuple's things, all of them, while an exception is handled -/
theorem unpackItems_hot {t x1 : Addr} {items : Array Value} {Q : List Value → Shared → Prop} (hot : HotAt A x1 s.heap) (ht : IsTup s.heap t items)
    (hQ : ∀ h', Heap.ExtBut s.heap.objs.size s.heap h' → Q items.toList { s with heap := h' }) : wpAny (model prog w) A (unpackItems (.ref t) items.size none) Q E s := by
  have hlt : t ≠ s.heap.objs.size := by
    obtain ⟨o, ho, _⟩ := ht
    exact Nat.ne_of_lt (Heap.lt_size ho)
  have h1x : x1 ≠ s.heap.objs.size := by
    obtain ⟨_, o1, _, h1, _⟩ := hot
    exact Nat.ne_of_lt (Heap.lt_size h1)
  unfold unpackItems notIterableAtAll
  refine wpAny_bind (wpAny_bind (wpAny_specialOf ht.typeIs slot_tuple_iter.lookup (wpAny_pure ?_)))
  simp only [Bool.false_eq_true, if_false]
  refine wpAny_bind (wpAny_holding (iter_tuple ht ?_))
  refine wpAny_bind (wpAny_holding (draw_tuple hlt items.size 0 _ _ ⟨_, Heap.get?_push_size _ rfl, rfl, rfl⟩ (ht.push _) (by omega) fun h₁ hit₁ hs₁ => ?_))
  rw [show List.take items.size (List.drop 0 items.toList) = items.toList by rw [List.drop_zero]; exact List.take_of_length_le (by simp), if_neg (by simp)]
  have hot₁ : HotAt A x1 h₁ := by
    obtain ⟨hh, o1, vs1, e1, d1, c1⟩ := hot
    exact ⟨hh, o1, vs1, hs₁.extBut x1 o1 h1x (Heap.get?_push_of_some _ e1), d1, c1⟩
  refine wpAny_bind (wpAny_holding (next_tuple_end_hot hot₁ h1x hit₁ ((ht.push _).extBut hs₁.extBut hlt) (by simp) fun h₂ he₂ => ?_))
  simp only [Option.isSome_none, Bool.false_eq_true, if_false]
  exact wpAny_pure (hQ h₂ fun b o hb e => he₂ b o hb (hs₁.extBut b o hb (Heap.get?_push_of_some _ e)))
end
end HotX
namespace L2H
open PySem PySem.Spec PyProof.Rows L2 HotX
theorem vals_two {v w : V} {us : List Value} (r : Vals [v, w] us) : ∃ u1 u2, us = [u1, u2] ∧ RelV v u1 ∧ RelV w u2 := by
  cases r with
  | cons p q =>
    cases q with
    | cons p' q' =>
      cases q'
      exact ⟨_, _, rfl, p, p'⟩
section
variable {X : Cx}
/-- a, b = x, y within an except suite -/
theorem ps_parH {i j : Nat} {x y : Str} {a b : Expr} {ta : TA} {px py pt pos : Pos} {kt k2 pt2} (hc : HotC X) (hN : X.N.Nodup) (hi : X.N[i]? = some x) (hj : X.N[j]? = some y) (hij : i ≠ j)
    (hx : X.env.scope.names.lookup x = some .local) (hy : X.env.scope.names.lookup y = some .local) (ha : PA X [a, b] ta)
    (hw : swappedStores [.Tuple [.Name x px, .Name y py] kt pt] (.Tuple [a, b] k2 pt2) X.env = pure (some [x, y]))
    (hs : swapsWithSole [.Tuple [.Name x px, .Name y py] kt pt] (.Tuple [a, b] k2 pt2) pos.line X.env = pure false := by rfl) :
    PS X (.Assign [.Tuple [.Name x px, .Name y py] kt pt] (.Tuple [a, b] k2 pt2) pos) (tPar i j ta) := by
  refine ⟨fun pins s σ H D I h => ?_⟩
  rw [exec_Assign_arm]
  refine wpAny_bind (wpAny_standAt ?_)
  rw [hs]
  refine wpAny_bind (wpAny_pure ?_)
  rw [if_neg (by decide)]
  refine wpAny_bind (Tuple_ (thn (ha.run _ pins s σ H _ I h) fun us s1 ⟨vs, H1, I1, r1, q1⟩ => ?_))
  obtain ⟨v, w, e1, q1⟩ := q1
  subst e1
  obtain ⟨u1, u2, rfl, rv, rw'⟩ := vals_two r1
  refine wpAny_newObj_type ?_ (by show 2 ≤ sizeLine; decide)
  have I2 : Inv X pins σ H1 { s1 with heap := s1.heap.push { cls := .type "tuple", data := .seq [u1, u2].toArray } } := I1.kept (t' := s1.toks) fun b o e => Heap.get?_push_of_some _ e
  obtain ⟨x1, hot⟩ := hc.at I2
  rw [hw]
  refine wpAny_bind (wpAny_pure ?_)
  show wpAny (model X.prog X.w) X.A (do rule "assign.swapped-stores"; let items ← unpackItems (.ref s1.heap.objs.size) 2 none; assignInOrder [fun v => bindName X.env y v, fun v => bindName X.env x v] items.reverse; pure Flow.next) _ _ _
  refine wpAny_bind (wpAny_rule (wpAny_bind (unpackItems_hot (items := #[u1, u2]) hot (IsTup.new s1.heap _) fun h' hx' => ?_)))
  have I3 := I2.kept (h' := h') (t' := s1.toks) fun b o e => hx' b o (Nat.ne_of_lt (Heap.lt_size e)) e
  show wpAny _ _ (assignInOrder [fun v => bindName X.env y v, fun v => bindName X.env x v] [u2, u1] >>= fun _ => pure Flow.next) _ _ _
  refine wpAny_bind (assignInOrder_cons (wpAny_bindName (store_ok I3 hN hj (.inl hy) rw' (fun s2 I4 => ?_) (.inr hy))))
  refine assignInOrder_cons (wpAny_bindName (store_ok I4 hN hi (.inl hx) rv (fun s3 I5 => assignInOrder_nil (wpAny_pure ?_)) (.inr hx)))
  rw [List.set_comm _ _ (Ne.symm hij)] at I5
  exact ⟨_, H1, I5, q1⟩
end
end L2H
namespace L2H
open PySem PySem.Spec PyProof.Rows L2 HotX
/-- a def that is handed the very exception that is handled: sp is told of it, as it stands -/
structure FnHE (P : Program) (w : World) (K : PySem.W.Frag) (mg : Str → Option Value) (base : Heap) (CX : CXT) (k : Nat) (f : Addr) (fd : FuncData) (ps : List Str) (sp : Addr × Obj → Sp) : Prop where
  len : ∀ p vs H Q E, sp p vs H Q E → vs.length = ps.length
  run : ∀ (A : Around) (outer : List Env) (s : Shared) (H : Hp) (args : Args) (us : List Value) (vs : List V) (Q : VK) (E : XK) (p : Addr × Obj), RoomH k A → Hot1 A p → PinOk outer H s p → Env0 P w K mg base A outer s H → BindsTo s fd args (ps.zip us) → Vals vs us → sp p vs H Q E →
    codeAny (model P w) A (.call (.ref f) args) (CR CX outer P w H s Q E) s
theorem fn_ofHE {CX : CXT} {P : Program} {w : World} {K : PySem.W.Frag} {mg : Str → Option Value} {base : Heap} {k : Nat} {f : Addr} {name qual : Str} {params : Arguments} {body : List Stmt} {scope : Scope} {dV kV doc pm cdv ct oc : Value} {an od : Option Addr}
    {osl : Array (Option Value)} {N ps : List Str} {sp : Addr × Obj → Sp} (lk : K.lookup f = some ⟨oc, od, .func (PySem.W.fnOf name qual params body scope dV kV doc pm an cdv ct), osl⟩) (hcd : PySem.W.codeIn K cdv qual = true) (S : FnScope N ps scope)
    (len : ∀ p vs H Q E, sp p vs H Q E → vs.length = ps.length)
    (hbody : ∀ (A : Around) (outer : List Env) (s : Shared) (H : Hp) (vs : List V) (Q : VK) (E : XK) (p : Addr × Obj), Hot1 A p → RoomH k (A.deeper (envOfC qual scope s.heap.objs.size f cdv)) → sp p vs H Q E →
      ∃ t, PSs (cxH CX P w K mg base N qual scope f cdv A outer s H E p) body t ∧ t { nx := fun _ H' => Q .non H', rt := Q } (L2.start N vs) H) :
    FnHE P w K mg base CX (k + 1) f (PySem.W.fnOf name qual params body scope dV kV doc pm an cdv ct) ps sp := by
  refine ⟨len, fun A outer s H args us vs Q E p hr hot hpin e0 hb r hsp => ?_⟩
  have KX : K.In s.heap := e0.mod.kin.keeps fun b o e => (e0.bs b o e).1
  have lim : s.heap.NoLimit := e0.mod.nolimit.keeps fun b o e => (e0.bs b o e).1
  refine codeAny_call_function hr.depth (KX _ _ lk) rfl S.co S.gen rfl (PySem.W.codeRec_of KX hcd) (hb _ _ _ _ ?_)
  refine wpAny_newFunctionEnv_cells S.kind (fun ⟨n, v⟩ hy => by
    rcases S.par n (List.of_mem_zip hy).1 with q | q
    · exact .inl q
    · exact .inr ⟨q, PySem.W.cellsFrom_some _ _ _ (.inl q)⟩) fun env he s1 x => ?_
  subst he
  refine ⟨lim.keeps x.toInCall.keep, codeAny_func ?_⟩
  obtain ⟨t, ht, hq⟩ := hbody A outer s H vs Q E p hot (hr.deeper _) hsp
  refine wpAny_mono (ht.run [] s1 (L2.start N vs) H _ (inv_startH S hpin e0 (len _ _ _ _ _ hsp) r x) hq) (fun fl s' hs => ?_) fun e s' hs => hs
  cases fl with
  | ret u =>
    obtain ⟨v, σ', H', J, rv, q⟩ := hs
    exact ⟨v, H', J.os, J.bare, J.base, J.hok, rv, q⟩
  | next =>
    obtain ⟨σ', H', J, q⟩ := hs
    exact ⟨V.non, H', J.os, J.bare, J.base, J.hok, rfl, q⟩
  | brk =>
    obtain ⟨_, _, _, q⟩ := hs
    exact False.elim q
  | cont =>
    obtain ⟨_, _, _, q⟩ := hs
    exact False.elim q
section
variable {X : Cx} {CX : CXT} {k : Nat} {f : Addr} {fd : FuncData} {ps : List Str} {sp : Addr × Obj → Sp} {E : XK} {x : Str} {q pos : Pos} {e : Expr} {es : List Expr} {t : TA} {p : Addr × Obj}
/-- f(e, ..) in the suite that handles p's exception -/
theorem pe_callHE (F : FnHE X.prog X.w X.K X.mg X.base CX k f fd ps sp) (hr : RoomH k X.A) (hot : Hot1 X.A p) (hp : p ∈ X.pn) (hg : Gl X x) (hm : X.mg x = some (.ref f)) (hk : PySem.W.keepIn X.K (.ref f) = true) (hb : Binds X.K fd ps []) (hx : Passes CX X E)
    (ha : PA X (e :: es) t) (hdb : (x == ("__debug__" : Str)) = false := by decide) (he : starEach (e :: es) X.env = (false, eval e X.env) :: starEach es X.env := by rfl) (hpl : (backTo pos (starEach es X.env)).any (·.1) = false := by rfl) :
    PE X (.Call (.Name x q) (e :: es) [] pos) (tCall (sp p) [] E t) := by
  refine ⟨fun pins s σ H Q I h => ?_⟩
  refine wpAny_Call_Name_kw (ld_glob I hg hm ?_ hdb)
  refine PySem.W.callWith_K (h₀ := X.base) I.ok.mod.kin hk (thn (ha.run pos pins s σ H _ I h) fun us s1 ⟨vs, H1, I1, r, q⟩ => ⟨I1.kIn, ?_⟩) he hpl
  have q : sp p vs H1 Q E := by
    have q' : sp p (vs ++ []) H1 Q E := q
    rw [List.append_nil] at q'
    exact q'
  have hl : us.length = ps.length := by
    rw [← Vals.length r]
    exact F.len _ _ _ _ _ q
  have b := hb s1 us I1.kIn (by rw [List.append_nil]; exact hl)
  rw [List.append_nil] at b
  have P1 := I1.pin p (List.mem_append_left _ hp)
  refine wpAny_call (codeAny_mono (F.run X.A X.stack s1 H1 ⟨us, []⟩ us vs Q E p hr hot ⟨P1.1, P1.2.1, fun hm => (List.mem_cons.mp (I1.stkSub p.1 hm)).elim P1.2.2.1 P1.2.2.2.1, P1.2.2.2.2⟩ I1.env0 b r q) fun r s' hq => ?_)
  cases r with
  | error e => exact hx pins σ H1 s1 e s' I1 hq
  | ok fl =>
    cases fl with
    | ret u => exact I1.after hq
    | next => exact False.elim hq
    | brk => exact False.elim hq
    | cont => exact False.elim hq
end
end L2H
namespace L2H
open PySem PySem.Spec PyProof.Rows L2
/-- e.f, e the exception that p says, where p stands in the context -/
def tXp (p : Addr × Obj) (f : Str) (te : TE) : TE := fun σ H Q => te σ H fun x H1 => x = .ref p.1 ∧ ∃ (dd : Addr) (fs : List (Str × V)) (v : V), p.2.dict = some dd ∧ H1 dd = some (.xd fs) ∧ fs.lookup f = some v ∧ Q v H1
theorem pe_xp {X : Cx} {C : Addr} {p : Addr × Obj} {e : Expr} {te : TE} {pos : Pos} {n : Str} (T : XfC X.K C) (hno : PySem.W.findIn X.K (.ref C) n = some none) (hp : p ∈ X.pn) (hc : p.2.cls = .ref C) (hf : ∃ vs, p.2.data = .fields vs)
    (he : PE X e te) (hb : attributeBase e n X.env (eval e X.env) = eval e X.env := by rfl) : PE X (.Attribute e n pos) (tXp p n te) := by
  refine ⟨fun pins s σ H Q I h => ?_⟩
  refine attr_of hb (thn (he.run pins s σ H _ I h) fun u s1 ⟨x, H1, I1, rx, ex, dd, fs, v, ed, ea, l, q⟩ => ?_)
  subst ex
  obtain rfl : u = Value.ref p.1 := rx
  obtain ⟨vs, hd⟩ := hf
  obtain ⟨mA, hns, hr⟩ : ObjOk X.prog X.w H1 s1.heap dd (.xd fs) := I1.hok dd _ ea
  obtain ⟨od, ho, hl⟩ := lookIn_ns hns
  obtain ⟨u, hu, ru⟩ := RelO.some_of (v := v) (o := mA n) (by rw [← l]; exact hr n)
  exact HandSPX.exc_get I1.kIn ⟨(I1.pin p (List.mem_append_left _ hp)).1, hc, by unfold PySem.W.notCls; rw [hd] <;> rfl, by rw [ed]; exact ho⟩ T.ga T.gg T.exC (PySem.W.findObj_own T.hdC hno rfl (by rw [hl, hu])) (handed_of ru) ⟨v, H1, I1.tok _, ru, q⟩
end L2H
namespace L2N
open PySem PySem.Spec PyProof.Rows L2
/-! ### x(lambda: body), x an own def that asks it, or hands it on: what leaves the lambda has no context -/
/-- the lambda's own context; its exceptions are those of this namespace -/
abbrev askC (X : Cx) (A : Around) (outer : List Env) (s : Shared) (H : Hp) (E : XK) (sc : Scope) (f cd : Addr) : Cx :=
  (LamX.lamCx X A outer s H E sc f cd).wish fun e t => wpAny (model X.prog X.w) (A.deeper (LamX.lamEnv X sc s.heap.objs.size f cd)) (leaving (LamX.lamEnv X sc s.heap.objs.size f cd) e) (fun _ u => CX X.prog X.w outer H s E e u) (fun e' u => CX X.prog X.w outer H s E e' u) t
/-- the name that lambdas of this context bear -/
abbrev lamQ (X : Cx) : Str := X.env.qual ++ "<lambda>"
abbrev lamObj (X : Cx) (pr : Arguments) (body : Expr) (sc : Scope) (pm : Value) (cd : Addr) (ct : Value) : Obj := PySem.W.kla_obj "<lambda>" (lamQ X) pr body sc (cloFrom X.env.cells sc.names []) pm cd ct
section
variable {X : Cx} {pins : List (Addr × Obj)} {σ : L2.St} {H HZ : Hp} {s s1 : Shared} {sc : Scope} {f cd : Addr} {pm ct : Value} {pr : Arguments} {body : Expr} {tb : TE} {E : XK}
/-- the lambda at f is called from the frames outer, in a state that grew out of the one in which it was made -/
theorem ask_run {A : Around} {outer : List Env} {Q : VK} (I : Inv X pins σ H s) (L : LamX.LamS X.env.scope sc) (ob : s1.heap.get? f = some (lamObj X pr body sc pm cd ct))
    (no : bindArgs (PySem.W.kla_fn "<lambda>" (lamQ X) pr body sc (cloFrom X.env.cells sc.names []) pm (.ref cd) ct) ⟨[], []⟩ = pure []) (e0 : Env0 X.prog X.w X.K X.mg X.base A outer s1 HZ) (hh : A.handled = none) (hdp : A.depth < recursionLimit) (lim : s1.heap.NoLimit)
    (un : Un (frs X.stack) [] H HZ s.heap s1.heap) (hcd : ∃ (oc : Obj) (vs : Array Value) (t : Tok), s1.heap.get? cd = some oc ∧ oc.data = .fields vs ∧ vs[1]? = some (.str (lamQ X) t))
    (hb : PE (askC X A outer s1 HZ E sc f cd) body tb) (ht : tb σ HZ Q) : codeAny (model X.prog X.w) A (.call (.ref f) ⟨[], []⟩) (CR (CX X.prog X.w) outer X.prog X.w HZ s1 Q E) s1 := by
  obtain ⟨oc, vs, t, h1, h2, h3⟩ := hcd
  refine PySem.W.kla_callFunE hdp ob rfl L.co L.gen rfl ⟨cd, oc, vs, t, rfl, h1, h2, h3⟩ ?_
  rw [no]
  refine wpAny_pure (wpAny_newFunctionEnv (fun y hy => (L.own y hy).2) (fun y hy => absurd hy List.not_mem_nil) (fun h' ns sb => ⟨lim.fresh _ sb, ?_⟩) L.kind)
  have kp : ∀ b o, s1.heap.get? b = some o → h'.get? b = some o := fun b o e => sb.extBut b o (Nat.ne_of_lt (Heap.lt_size e)) (Heap.get?_push_of_some _ e)
  have J := (LamX.lam_start2 (E := E) (f := f) (c' := cd) (tk := s1.toks + ([] : List (Str × Value)).length) I L e0 hh un ns kp).wish fun e t => wpAny (model X.prog X.w) (A.deeper (LamX.lamEnv X sc s1.heap.objs.size f cd)) (leaving (LamX.lamEnv X sc s1.heap.objs.size f cd) e) (fun _ u => CX X.prog X.w outer HZ s1 E e u) (fun e' u => CX X.prog X.w outer HZ s1 E e' u) t
  exact PySem.W.kla_codeExpr (wpAny_mono (hb.run [] _ σ HZ Q J ht) (fun v s' ⟨w', H', J', rv, q⟩ => ⟨w', H', J'.os, J'.bare, J'.base, J'.hok, rv, q⟩) fun e s' hq => hq)
/-- growth under more frames, these being new -/
theorem un_in {fs fs' : List Addr} {H H1 H2 : Hp} {h h1 h2 : Heap} (a : Un fs [] H H1 h h1) (b : Un fs' [] H1 H2 h1 h2) (hs : ∀ x ∈ fs, x ∈ fs') (hn : ∀ x ∈ fs', x ∈ fs ∨ h.get? x = none) : Un fs [] H H2 h h2 where
  keep x o e n k z := b.keep x o (a.keep x o e n k z) (a.free x o e n z) (fun m => (hn x m).elim k fun q => by rw [e] at q; cases q) z
  slot x o e n k z := by
    obtain ⟨sl, q⟩ := a.slot x o e n k z
    obtain ⟨sl2, q2⟩ := b.slot x _ q (a.free x o e n z) (hs x k) z
    exact ⟨sl2, q2⟩
  free x o e n z := by
    obtain ⟨sl, q⟩ := a.any e n z
    exact b.free x _ q (a.free x o e n z) z
  there x o e z := by
    obtain ⟨o1, q⟩ := a.there x o e z
    exact b.there x o1 q z
  tups x xs e := b.tups x xs (a.tups x xs e)
  frzs x o u e := b.frzs x o u (a.frzs x o u e)
  tbls x ps e := by
    obtain ⟨m1, e1⟩ := a.tbls x ps e
    obtain ⟨m2, e2⟩ := b.tbls x _ e1
    exact ⟨m1 ++ m2, by rw [e2, Array.append_assoc]⟩
end
/-- what stands at f can be called in each state that grows out of (s, H) under the frames outer; tl is its reading -/
structure Ask (P : Program) (w : World) (K : PySem.W.Frag) (mg : Str → Option Value) (base : Heap) (j : Nat) (outer : List Env) (s : Shared) (H : Hp) (f cd : Addr) (q : Str) (tl : XK → Hp → VK → Prop) : Prop where
  ob : ∃ o, s.heap.get? f = some o ∧ ∀ h : Heap, h.get? f = some o → PySem.W.FnAt f h
  free : H f = none
  nofr : f ∉ frs outer
  run : ∀ (A' : Around) (outer' : List Env) (s' : Shared) (H' : Hp) (Q : VK) (E : XK), Room j A' → Env0 P w K mg base A' outer' s' H' → Un (frs outer) [] H H' s.heap s'.heap → H' cd = some (LamX.CodeO cd q) → tl E H' Q →
    codeAny (model P w) A' (.call (.ref f) ⟨[], []⟩) (CR (CX P w) outer' P w H' s' Q E) s'
/-- the def x (its name, scope, body) that is handed a thing by the name a and asks it: tt is its reading, told by the asked thing's -/
def AskedBy (P : Program) (w : World) (K : PySem.W.Frag) (mg : Str → Option Value) (base : Heap) (j k : Nat) (N : List Str) (x : Str) (sc : Scope) (bd : List Stmt) (q : Str) (tt : (XK → Hp → VK → Prop) → Hp → VK → Prop) : Prop :=
  ∀ (A : Around) (outer : List Env) (g : Addr) (cdv : Value) (f cd : Addr) (s : Shared) (H : Hp) (Q : VK) (tl : XK → Hp → VK → Prop), Room k (A.deeper (envOfC x sc s.heap.objs.size g cdv)) → H cd = some (LamX.CodeO cd q) → Ask P w K mg base j outer s H f cd q tl → tt tl H Q →
    ∃ t, PSs (cxOf CX0 P w K mg base N x sc g cdv A outer s H E0).nox bd t ∧ t { nx := fun _ H' => Q .non H', rt := Q } (L2.start N [.ref f]) H
section
variable {P : Program} {w : World} {K : PySem.W.Frag} {mg : Str → Option Value} {base : Heap} {j k : Nat} {N : List Str} {x a q : Str} {sc : Scope} {g : Addr} {cdv : Value} {A : Around} {outer : List Env} {f cd : Addr} {s : Shared} {H : Hp} {tl : XK → Hp → VK → Prop} {pn : List (Addr × Obj)} {xe : Value → Shared → Prop} {W : WX} {p1 p2 : Pos}
/-- a(), a the first parameter -/
theorem pe_ask (M : Ask P w K mg base j outer s H f cd q tl) (hr : Room j (A.deeper (envOfC x sc s.heap.objs.size g cdv))) (tk : Takes ((cxOf CX0 P w K mg base N x sc g cdv A outer s H E0).tr pn xe) W) (hN : N[0]? = some a) (va : Vis sc a) (hd2 : (a == ("__debug__" : Str)) = false := by decide) (hd3 : (a == ("__classdict__" : Str)) = false := by decide) :
    PE ((cxOf CX0 P w K mg base N x sc g cdv A outer s H E0).tr pn xe) (.Call (.Name a p1) [] [] p2) fun σ' H' Q' => σ'[0]? = some (some (.ref f)) ∧ H' cd = some (LamX.CodeO cd q) ∧ ∃ E : XK, (∀ cls d H2, E cls d H2 → W cls d σ' H2) ∧ tl E H' Q' := ⟨fun pz sz σz Hz Qz Iz hz => by
  obtain ⟨hs, hc, E, hW, hz⟩ := hz
  refine wpAny_Call_Name_kw (thn ((pe_var (pos := p1) (i := 0) hN va hd2 hd3).run pz sz σz Hz (fun v H2 => v = .ref f ∧ H2 = Hz) Iz ⟨.ref f, hs, rfl, rfl⟩) fun u s2 ⟨v, H2, I2, r2, ev, eH⟩ => ?_)
  subst ev
  rw [eH] at I2
  obtain rfl : u = Value.ref f := r2
  obtain ⟨o, ho, hfn⟩ := M.ob
  have e2 : Env0 P w K mg base (A.deeper (envOfC x sc s.heap.objs.size g cdv)) (envOfC x sc s.heap.objs.size g cdv :: outer) s2 Hz := I2.env0
  have un : Un (frs outer) [] H Hz s.heap s2.heap := I2.base
  have rc := M.run (A.deeper (envOfC x sc s.heap.objs.size g cdv)) (envOfC x sc s.heap.objs.size g cdv :: outer) s2 Hz Qz E hr e2 un hc hz
  have px : ∀ e s3, CX P w (envOfC x sc s.heap.objs.size g cdv :: outer) Hz s2 E e s3 → xe e s3 := fun e s3 z => tk e s3 (XE.of_call I2 hW z)
  refine PySem.W.callWith_F0 (hfn _ (un.keep f o ho M.free M.nofr List.not_mem_nil)) (wpAny_call (codeAny_mono rc fun r s3 hq => ?_))
  cases r with
  | error e => exact px e s3 hq
  | ok fl =>
    cases fl with
    | ret u => exact I2.after hq
    | next => exact False.elim hq
    | brk => exact False.elim hq
    | cont => exact False.elim hq⟩
/-- the thing is handed on: it can be asked there as well -/
theorem Ask.on {pins : List (Addr × Obj)} {σ : L2.St} {H2 : Hp} {s2 : Shared} (M : Ask P w K mg base j outer s H f cd q tl) (I : Inv (cxOf CX0 P w K mg base N x sc g cdv A outer s H E0) pins σ H2 s2) : Ask P w K mg base j (envOfC x sc s.heap.objs.size g cdv :: outer) s2 H2 f cd q tl := by
  have un : Un (frs outer) [] H H2 s.heap s2.heap := I.base
  obtain ⟨o, ho, hfn⟩ := M.ob
  have sub : ∀ y ∈ frs outer, y ∈ frs (envOfC x sc s.heap.objs.size g cdv :: outer) := fun y hy => List.mem_cons_of_mem _ hy
  have new : ∀ y ∈ frs (envOfC x sc s.heap.objs.size g cdv :: outer), y ∈ frs outer ∨ s.heap.get? y = none := fun y hy => by
    rcases List.mem_cons.mp hy with e | e
    · refine .inr ?_
      cases q : s.heap.get? y with
      | none => rfl
      | some o =>
        have h1 := Heap.lt_size q
        rw [e] at h1
        exact absurd h1 (Nat.lt_irrefl _)
    · exact .inl e
  refine ⟨⟨o, un.keep f o ho M.free M.nofr List.not_mem_nil, hfn⟩, un.free f o ho M.free List.not_mem_nil, fun hm => ?_, fun A' outer' s' H' Q E hr e0 un2 hc ht => M.run A' outer' s' H' Q E hr e0 (un_in un un2 sub new) hc ht⟩
  rcases new f hm with z | z
  · exact M.nofr z
  · rw [ho] at z
    cases z
end
section
variable {X : Cx} {T : List (Addr × Str)} {tt : (XK → Hp → VK → Prop) → Hp → VK → Prop} {t : XK → TE} {x a : Str} {g c P : Addr} {k j : Nat} {st : Stmt} {fd : FuncData} {N : List Str} {pr : Arguments} {body : Expr} {sc : Scope} {p pl pos : Pos}
/-- x(lambda: body) -/
theorem pe_asks (F : Fun X.K x x st g fd) (S : FnScope N [a] (defScope st)) (hg : Gl X x) (mx : X.mg x = some (.ref g)) (kp : PySem.W.keepIn X.K (.ref g) = true) (bd : Binds X.K fd [a] [])
    (hG : AskedBy X.prog X.w X.K X.mg X.base (j + 1) k N x (defScope st) (defBody st) (lamQ X) tt) (TB : LamX.TabB X.base X.mg c P) (hcode : X.env.code = .ref c) (hmT : (P, lamQ X) ∈ T) (hu : ∀ p ∈ T, p.1 = P → p.2 = lamQ X) (hr : Room (k + 1) X.A) (L : LamX.LamS X.env.scope sc) (hdf : defaultsOf pr X.env = ([], []))
    (no : ∀ (q : Str) (cl : List (Str × Addr)) (pm cv ct : Value), bindArgs (PySem.W.kla_fn "<lambda>" q pr body sc cl pm cv ct) ⟨[], []⟩ = pure [])
    (hb : ∀ (A : Around) (outer : List Env) (s : Shared) (H : Hp) (E : XK) (f cd : Addr), Room j (A.deeper (LamX.lamEnv X sc s.heap.objs.size f cd)) → PE (askC X A outer s H E sc f cd) body (t E))
    (hd1 : (x == ("__debug__" : Str)) = false := by decide) :
    PE X (.Call (.Name x p) [.Lambda pr body sc pl] [] pos) (LamX.tLam T tt t) := by
  obtain ⟨oc, od, kV, doc, pm, an, cdv, ct, osl, rfl, lk, hcd⟩ := F.ex
  refine ⟨fun pins s σ H Q I hw => ?_⟩
  obtain ⟨hT, hw⟩ := hw
  refine wpAny_Call_Name_kw (ld_glob I hg mx ?_ hd1)
  refine PySem.W.callWith_K (h₀ := X.base) I.ok.mod.kin kp ?_ (by rfl) (by rfl)
  show wpAny _ _ (spliced ((false, eval (.Lambda pr body sc pl) X.env) :: backTo pos (starEach [] X.env))) _ _ s
  refine Calls.spliced_cons (LamX.lam_make2 I TB hcode hmT hu hT hdf (L.has I.ok) fun f cd pm2 ct2 H1 s1 I1 en T1 ob fn fr hco => ?_)
  refine Calls.spliced_nil ⟨I1.kIn, ?_⟩
  have M : Ask X.prog X.w X.K X.mg X.base (j + 1) X.stack s1 H1 f cd (lamQ X) (fun E H' Q' => t E σ H' Q') := ⟨⟨_, ob, fun h e => ⟨_, _, _, _, e⟩⟩, fn, fr, fun A' outer' s' H' Q' E' hr' e0 un hc hz => by
    have lim : s'.heap.NoLimit := e0.mod.nolimit.keeps fun b o e => (e0.bs b o e).1
    exact ask_run (X := X) (E := E') (Q := Q') (cd := cd) I1 L (un.keep f _ ob fn fr List.not_mem_nil) (no _ _ _ _ _) e0 hr'.hd hr'.depth lim un (e0.hok cd _ hc).1 (hb _ _ s' H' E' f cd (hr'.deeper _)) hz⟩
  refine wpAny_call (codeAny_mono (LamX.run_ofS (CX := CX0) (E := E0) (Q := Q) (N := N) (ps := [a]) (us := [.ref f]) (vs := [.ref f]) lk hcd S hr I1.env0 (bd s1 [.ref f] I1.kIn rfl) (.cons rfl .nil) rfl fun hr1 => ?_) fun r s2 hq => ?_)
  · obtain ⟨t', h1, h2⟩ := hG X.A X.stack g cdv f cd s1 H1 Q _ hr1 hco M (hw H1 en T1)
    exact ⟨t', h1.nox, h2⟩
  · cases r with
    | error e => exact (show False from hq).elim
    | ok fl =>
      cases fl with
      | ret u => exact I1.after hq
      | next => exact False.elim hq
      | brk => exact False.elim hq
      | cont => exact False.elim hq
end
section
variable {P : Program} {w : World} {K : PySem.W.Frag} {mg : Str → Option Value} {base : Heap} {j k : Nat} {N Ng : List Str} {x y a b q : Str} {sc : Scope} {st : Stmt} {g h : Addr} {fd : FuncData} {cdv : Value} {A : Around} {outer : List Env} {f cd : Addr} {s : Shared} {H : Hp} {tl : XK → Hp → VK → Prop} {tt : (XK → Hp → VK → Prop) → Hp → VK → Prop} {p1 p2 pos : Pos}
/-- y(a), a the first parameter, in the def x that was handed it -/
theorem pe_handon (M : Ask P w K mg base j outer s H f cd q tl) (F : Fun K y y st h fd) (S : FnScope Ng [b] (defScope st)) (hg : Gl (cxOf CX0 P w K mg base N x sc g cdv A outer s H E0).nox y) (my : mg y = some (.ref h)) (kp : PySem.W.keepIn K (.ref h) = true) (bd : Binds K fd [b] [])
    (hG : AskedBy P w K mg base j k Ng y (defScope st) (defBody st) q tt) (hr : Room (k + 1) (A.deeper (envOfC x sc s.heap.objs.size g cdv))) (hN : N[0]? = some a) (va : Vis sc a) (hd1 : (y == ("__debug__" : Str)) = false := by decide) (hd2 : (a == ("__debug__" : Str)) = false := by decide) (hd3 : (a == ("__classdict__" : Str)) = false := by decide) :
    PE (cxOf CX0 P w K mg base N x sc g cdv A outer s H E0).nox (.Call (.Name y p1) [.Name a p2] [] pos) fun σ' H' Q' => σ'[0]? = some (some (.ref f)) ∧ H' cd = some (LamX.CodeO cd q) ∧ tt tl H' Q' := by
  obtain ⟨oc, od, kV, doc, pm, an, cdw, ct, osl, rfl, lk, hcd⟩ := F.ex
  refine ⟨fun pins s1 σ H1 Q I hw => ?_⟩
  obtain ⟨hs, hc, hw⟩ := hw
  refine wpAny_Call_Name_kw (ld_glob I hg my ?_ hd1)
  have ha : PA (cxOf CX0 P w K mg base N x sc g cdv A outer s H E0).nox [.Name a p2] (tCons (tVar 0) tNil) := pa_cons (pe_var (i := 0) hN va hd2 hd3) pa_nil
  refine PySem.W.callWith_K (h₀ := base) I.ok.mod.kin kp (thn (ha.run pos pins s1 σ H1 (fun vs H2 => vs = [.ref f] ∧ H2 = H1) I ⟨.ref f, hs, rfl, rfl⟩) fun us s2 ⟨vs, H2, I2, r2, ev, eH⟩ => ⟨I2.kIn, ?_⟩) (by rfl) (by rfl)
  subst ev
  rw [eH] at I2
  have M2 := M.on I2.unwish
  refine wpAny_call (codeAny_mono (LamX.run_ofS (CX := CX0) (E := E0) (Q := Q) (N := Ng) (ps := [b]) (us := us) (vs := [.ref f]) lk hcd S hr I2.env0 (by have z := bd s2 us I2.kIn (by rw [List.append_nil, ← Vals.length r2]; rfl); rw [List.append_nil] at z; exact z) r2 rfl fun hr1 => ?_) fun r s3 hq => ?_)
  · obtain ⟨t', h1, h2⟩ := hG _ _ h cdw f cd s2 H1 Q _ hr1 hc M2 hw
    exact ⟨t', h1.nox, h2⟩
  · cases r with
    | error e => exact (show False from hq).elim
    | ok fl =>
      cases fl with
      | ret u => exact I2.after hq
      | next => exact False.elim hq
      | brk => exact False.elim hq
      | cont => exact False.elim hq
end
end L2N
namespace Ink
open PySem PySem.Spec PyProof.Rows L2
/-! ### _law_field and _law_tried: the word and the field of a refusal -/
def plainT : Str := "BadSign BadName BadNumber BadDeed Full Clash NothingLeft"
/-- the name of the field that is told of a refusal of that word -/
def fieldN (w : Str) : Option Str :=
  if inV (.str w) [.str "Taken", .str "NoName"] = true then some "name"
  else if decide (V.str w = V.str "TooMany") = true then some "most"
  else if decide (V.str w = V.str "Still") = true then some "strip"
  else if decide (V.str w = V.str "NoSaid") = true then some "number"
  else if inV (.str w) ((Txt.split plainT " ").map V.str) = true then none else some "at"
def FieldIs (w : Str) (fs : List (Str × V)) (v : V) : Prop := match fieldN w with
  | none => v = .non
  | some n => fs.lookup n = some v
/-- what a refusal's class says of the names of fields -/
structure FldC (K : PySem.W.Frag) (C : Addr) : Prop where
  xf : XfC K C
  word : PySem.W.findIn K (.ref C) "word" = some none
  name : PySem.W.findIn K (.ref C) "name" = some none
  most : PySem.W.findIn K (.ref C) "most" = some none
  strip : PySem.W.findIn K (.ref C) "strip" = some none
  number : PySem.W.findIn K (.ref C) "number" = some none
  «at» : PySem.W.findIn K (.ref C) "at" = some none
/-- at dd: the fields of a refusal of the class at C; the word, and what is told beside it -/
def RefF (K : PySem.W.Frag) (H : Hp) (C dd : Addr) (w : Str) (v : V) : Prop := FldC K C ∧ ∃ fs : List (Str × V), H dd = some (.xd fs) ∧ fs.lookup (α := Str) "word" = some (V.str w) ∧ FieldIs w fs v
def spField (K : PySem.W.Frag) : Addr × Obj → L2.Sp := fun p vs H Q _ => ∃ (C dd : Addr) (w : Str) (v : V), vs = [.ref p.1] ∧ p.2.cls = .ref C ∧ (∃ ws, p.2.data = .fields ws) ∧ p.2.dict = some dd ∧ RefF K H C dd w v ∧ ∀ H', Same H H' → Q v H'
section
variable {P : Program} {w : World} {K : PySem.W.Frag} {mg : Str → Option Value} {base : Heap}
theorem ok_field {f : Addr} {fd : FuncData} {k : Nat} (F : Fun K "_law_field" "_law_field" sLField f fd) : L2H.FnHE P w K mg base CX0 (k + 1) f fd ["_law_e"] (spField K) := by
  obtain ⟨oc, od, kV, doc, pm, an, cdv, ct, osl, rfl, lk, hcd⟩ := F.ex
  refine L2H.fn_ofHE lk hcd sc__law_field (fun p vs H Q E h => ?_) (fun A outer s H vs Q E p hot hr h => ?_)
  · obtain ⟨C, dd, w, v, rfl, _⟩ := h
    rfl
  · obtain ⟨C, dd, w, v, rfl, ec, ed, edd, ⟨T, fs, efs, hw, hf⟩, q⟩ := h
    have hp : p ∈ [p] := List.mem_singleton.mpr rfl
    refine ⟨_, (pss_cons (ps_if (pt_cmpR (show OpR _ _ (rIn K false) from op_in_seq) (L2H.pe_xp T.xf T.word hp ec ed (pv 0)) (pe_tup (pa_cons pe_str (pa_cons pe_str pa_nil))) (by rfl)) (pss_one (ps_ret (L2H.pe_xp T.xf T.name hp ec ed (pv 0)))) pss_nil)
      (pss_cons (ps_if (pt_cmpR op_eq (L2H.pe_xp T.xf T.word hp ec ed (pv 0)) pe_str (nomark _)) (pss_one (ps_ret (L2H.pe_xp T.xf T.most hp ec ed (pv 0)))) pss_nil)
      (pss_cons (ps_if (pt_cmpR op_eq (L2H.pe_xp T.xf T.word hp ec ed (pv 0)) pe_str (nomark _)) (pss_one (ps_ret (L2H.pe_xp T.xf T.strip hp ec ed (pv 0)))) pss_nil)
      (pss_cons (ps_if (pt_cmpR op_eq (L2H.pe_xp T.xf T.word hp ec ed (pv 0)) pe_str (nomark _)) (pss_one (ps_ret (L2H.pe_xp T.xf T.number hp ec ed (pv 0)))) pss_nil)
      (pss_cons (ps_set (i := 1) sc__law_field.nd rfl (.inl rfl) pe_str)
      (pss_one (ps_ret (pe_ifExp (pt_cmpR (show OpR _ _ (rIn K false) from op_in_seq) (L2H.pe_xp T.xf T.word hp ec ed (pv 0)) (pe_split (pv 1) pe_str) (by rfl)) pe_non (L2H.pe_xp T.xf T.at hp ec ed (pv 0)))))))))), ?_⟩
    unfold FieldIs fieldN at hf
    refine ⟨.ref p.1, rfl, rfl, dd, fs, .str w, edd, efs, hw, by show 2 ≤ sizeLine; decide, fun t nt => ⟨t, _, rfl, .inr (.of upd_same), rfl, rfl, ?_⟩⟩
    have s1 := same_new (o := .tup [V.str "Taken", V.str "NoName"]) nt
    have e1 := s1 _ _ efs
    refine ⟨_, rfl, ite2 (fun h => ?_) (fun h => ?_)⟩
    · rw [if_pos (show inV (.str w) [.str "Taken", .str "NoName"] = true from h)] at hf
      exact ⟨.ref p.1, rfl, rfl, dd, fs, v, edd, e1, hf, q _ s1⟩
    rw [if_neg (show ¬ inV (.str w) [.str "Taken", .str "NoName"] = true from h)] at hf
    refine ⟨.ref p.1, rfl, rfl, dd, fs, .str w, edd, e1, hw, rfl, _, rfl, ite2 (fun h => ?_) (fun h => ?_)⟩
    · rw [if_pos h] at hf
      exact ⟨.ref p.1, rfl, rfl, dd, fs, v, edd, e1, hf, q _ s1⟩
    rw [if_neg h] at hf
    refine ⟨.ref p.1, rfl, rfl, dd, fs, .str w, edd, e1, hw, rfl, _, rfl, ite2 (fun h => ?_) (fun h => ?_)⟩
    · rw [if_pos h] at hf
      exact ⟨.ref p.1, rfl, rfl, dd, fs, v, edd, e1, hf, q _ s1⟩
    rw [if_neg h] at hf
    refine ⟨.ref p.1, rfl, rfl, dd, fs, .str w, edd, e1, hw, rfl, _, rfl, ite2 (fun h => ?_) (fun h => ?_)⟩
    · rw [if_pos h] at hf
      exact ⟨.ref p.1, rfl, rfl, dd, fs, v, edd, e1, hf, q _ s1⟩
    rw [if_neg h] at hf
    refine ⟨.ref p.1, rfl, rfl, dd, fs, .str w, edd, e1, hw, .str plainT, rfl, ⟨_, rfl⟩, plainT, _, rfl, rfl, rfl, by decide +kernel, fun t2 nt2 => ⟨t2, _, rfl, .inl (.of upd_same), rfl, ?_, ?_⟩⟩
    · rw [List.all_map]
      exact List.all_eq_true.mpr fun _ _ => rfl
    have s2 := Same.trans s1 (same_new (o := .lst ((Txt.split plainT " ").map V.str)) nt2)
    refine ⟨_, rfl, ite2 (fun h => ?_) (fun h => ?_)⟩
    · rw [if_pos (show inV (.str w) ((Txt.split plainT " ").map V.str) = true from h)] at hf
      have hf : v = .non := hf
      rw [hf] at q
      exact q _ s2
    · rw [if_neg (show ¬ inV (.str w) ((Txt.split plainT " ").map V.str) = true from h)] at hf
      exact ⟨.ref p.1, rfl, rfl, dd, fs, v, edd, s2 _ _ efs, hf, q _ s2⟩
end
/-- a refusal is raised, and the word and the field of it are wanted -/
def RefE (K : PySem.W.Frag) (cI cM cL : Addr) (Q : VK) : XK := fun cls d H' => ∃ (C dd : Addr) (w : Str) (v : V), cls = .ref C ∧ d = some dd ∧ PySem.W.exmAny K cls [.ref cI, .ref cM, .ref cL] = some true ∧ RefF K H' C dd w v ∧ ∀ p H2, Same H' H2 → H2 p = none → Q (.ref p) (upd H2 p (.tup [.non, .str w, v]))
/-- _law_tried: the answer, or the word and the field of what is raised -/
def ttTried (K : PySem.W.Frag) (cI cM cL : Addr) : (XK → Hp → VK → Prop) → Hp → VK → Prop := fun tl H Q => ∀ (H1 : Hp) (E2 : XK) (Q2 : VK), Same H H1 → (∀ cls d H', RefE K cI cM cL Q cls d H' → E2 cls d H') → (∀ v H', (∀ p, H' p = none → Q (.ref p) (upd H' p (.tup [v, .str "", .non]))) → Q2 v H') → tl E2 H1 Q2
theorem RefF.same {K : PySem.W.Frag} {H H' : Hp} {C dd : Addr} {w : Str} {v : V} (h : RefF K H C dd w v) (s : Same H H') : RefF K H' C dd w v := by
  obtain ⟨T, fs, e, r⟩ := h
  exact ⟨T, fs, s _ _ e, r⟩
/-- the suite's reading -/
def tHand (K : PySem.W.Frag) : Addr → Value → Option Addr → TS := fun a cls d D σ H => ∃ (C dd : Addr) (w : Str) (v : V), cls = .ref C ∧ d = some dd ∧ σ[4]? = some (some (.ref a)) ∧ RefF K H C dd w v ∧ ∀ H2, Same H H2 → D.nx ((σ.set 2 (some (.str w))).set 3 (some v)) H2
section
variable {P : Program} {w : World} {K : PySem.W.Frag} {mg : Str → Option Value} {base : Heap} {cI cM cL g1 : Addr} {fd1 : FuncData} {i j k : Nat}
theorem tried_asked (gI : mg "InkError" = some (.ref cI)) (gM : mg "Missing" = some (.ref cM)) (gL : mg "NothingLeft" = some (.ref cL)) (F : L2H.FnHE P w K mg base CX0 j g1 fd1 ["_law_e"] (spField K)) (hjk : j ≤ k) (hik : i ≤ k) (gF : mg "_law_field" = some (.ref g1))
    (kF : PySem.W.keepIn K (.ref g1) = true) (bF : Binds K fd1 ["_law_e"] []) {q : Str} : L2N.AskedBy P w K mg base i k ["_law_ask", "_law_told", "_law_word", "_law_field_here", "_law_e"] "_law_tried" (defScope sLTried) (defBody sLTried) q (ttTried K cI cM cL) := by
  intro A outer g cdv f cd s H Q tl hr hcd M h
  have SC := sc__law_tried
  let Z := (cxOf CX0 P w K mg base ["_law_ask", "_law_told", "_law_word", "_law_field_here", "_law_e"] "_law_tried" (defScope sLTried) g cdv A outer s H E0).nox
  refine ⟨_, pss_cons (ps_asg (pe_tup (pa_cons pe_non (pa_cons pe_str (pa_cons pe_non pa_nil)))) (pg_tup rfl (pgs_cons (pg_name (i := 1) SC.nd rfl (.inl rfl)) (pgs_cons (pg_name (i := 2) SC.nd rfl (.inl rfl)) (pgs_cons (pg_name (i := 3) SC.nd rfl (.inl rfl)) pgs_nil)))))
    (pss_cons (L2N.ps_try_as3 (X := Z) (c1 := .ref cI) (c2 := .ref cM) (c3 := .ref cL) (i := 4) (ts := tHand K) rfl rfl SC.nd rfl rfl ⟨rfl, rfl, .inl gI⟩ ⟨rfl, rfl, .inl gM⟩ ⟨rfl, rfl, .inl gL⟩ (fun W pn xe tk _ => pss_one (ps_set (i := 1) SC.nd rfl (.inl rfl) (L2N.pe_ask M (hr.mono hik) tk rfl (.inl rfl))))
      (fun a oe cls d pn hz hf => ⟨fun pins s1 σ H1 D I h => ?_⟩))
    (pss_one (ps_ret (pe_tup (pa_cons (pv 1) (pa_cons (pv 2) (pa_cons (pv 3) pa_nil))))))), ?_⟩
  · obtain ⟨C, dd, w, v, ec, ed, e4, ⟨T, fs, efs, hw, hfi⟩, hD⟩ := h
    have hp : (a, oe) ∈ (Z.suite a ((a, oe) :: pn)).pn := List.mem_cons_self
    have hot : L2H.Hot1 (Z.suite a ((a, oe) :: pn)).A (a, oe) := by
      obtain ⟨ws, e⟩ := hf
      exact ⟨rfl, ws, e, hz.2.2 ws e⟩
    have hrH : L2H.RoomH j (Z.suite a ((a, oe) :: pn)).A := ⟨((L2H.roomH_of hr).mono hjk).dp, ((L2H.roomH_of hr).mono hjk).un⟩
    refine (pss_one (L2H.ps_parH (X := Z.suite a ((a, oe) :: pn)) (i := 2) (j := 3) ⟨_, hot, hp⟩ SC.nd rfl rfl (by decide) rfl rfl (pa_cons (L2H.pe_xp T.xf T.word hp (hz.1.trans ec) hf (pv 4)) (pa_cons (L2H.pe_callHE F hrH hot hp (by rfl) gF kF bF pass0 (pa_cons (pv 4) pa_nil)) pa_nil)) (by rfl))).run pins s1 σ H1 D I ?_
    refine ⟨.ref a, e4, rfl, dd, fs, .str w, hz.2.1.trans ed, efs, hw, .ref a, e4, ?_⟩
    exact ⟨C, dd, w, v, rfl, hz.1.trans ec, hf, hz.2.1.trans ed, ⟨T, fs, efs, hw, hfi⟩, fun H2 s2 => ⟨_, _, rfl, hD H2 s2⟩⟩
  · refine ⟨by show 3 ≤ sizeLine; decide, fun t nt => ?_⟩
    refine ⟨t, _, rfl, .of upd_same, rfl, _, _, rfl, _, _, rfl, _, _, rfl, rfl, ?_⟩
    refine ⟨rfl, same_new nt _ _ hcd, _, fun cls d H2 hE => ?_, h _ (RefE K cI cM cL Q) _ (same_new nt) (fun _ _ _ z => z) fun v H' hq => ?_⟩
    · obtain ⟨C, dd, w, v, ec, ed, hx, R, hq⟩ := hE
      exact ⟨hx, fun a na => ⟨C, dd, w, v, ec, ed, rfl, R, fun H3 s3 => ⟨_, rfl, _, rfl, _, rfl, by show 3 ≤ sizeLine; decide, fun p np => hq p H3 s3 np⟩⟩⟩
    · exact g_go ⟨_, rfl, _, rfl, _, rfl, by show 3 ≤ sizeLine; decide, fun p np => hq p np⟩
/-- _law_refused: the word and the field alone -/
def ttRefused (K : PySem.W.Frag) (cI cM cL : Addr) : (XK → Hp → VK → Prop) → Hp → VK → Prop := fun tl H Q => ttTried K cI cM cL tl H fun v H' => ∃ (p : Addr) (x y z : V), v = .ref p ∧ H' p = some (.tup [x, y, z]) ∧ ∀ p', H' p' = none → Q (.ref p') (upd H' p' (.tup [y, z]))
theorem refused_asked {f1 : Addr} {fd2 : FuncData} (F : Fun K "_law_tried" "_law_tried" sLTried f1 fd2) (m1 : mg "_law_tried" = some (.ref f1)) (k1 : PySem.W.keepIn K (.ref f1) = true) (b1 : Binds K fd2 ["_law_ask"] [])
    (hG : ∀ q, L2N.AskedBy P w K mg base i k ["_law_ask", "_law_told", "_law_word", "_law_field_here", "_law_e"] "_law_tried" (defScope sLTried) (defBody sLTried) q (ttTried K cI cM cL)) {q : Str} :
    L2N.AskedBy P w K mg base i (k + 1) ["_law_ask"] "_law_refused" (defScope sLRefused) (defBody sLRefused) q (ttRefused K cI cM cL) := by
  intro A outer g cdv f cd s H Q tl hr hcd M h
  refine ⟨_, pss_one (ps_ret (pe_slice sl_tupA (L2N.pe_handon M F sc__law_tried rfl m1 k1 b1 (hG _) hr rfl (.inl rfl)) (po_some pe_int) po_none)), ?_⟩
  refine ⟨rfl, hcd, fun H1 E2 Q2 s1 he hq => h H1 E2 Q2 s1 (fun cls d H' hx => he cls d H' ?_) fun v H' hv => hq v H' fun p np => ?_⟩
  · obtain ⟨C, dd, w, v, e1, e2, e3, R, hv⟩ := hx
    refine ⟨C, dd, w, v, e1, e2, e3, R, fun p H2 s2 np => ?_⟩
    obtain ⟨p', x, y, z, ep, e4, hn⟩ := hv p H2 s2 np
    cases ep
    exact ⟨1, rfl, p, _, rfl, .of e4, fun h => absurd h.1 (show ¬ HT.sIx 3 0 (some 1) = 0 by decide), fun _ p2 np2 => by
      rw [upd_same] at e4
      cases e4
      exact hn p2 np2⟩
  · obtain ⟨p', x, y, z, ep, e4, hn⟩ := hv p np
    cases ep
    exact ⟨1, rfl, p, _, rfl, .of e4, fun h => absurd h.1 (show ¬ HT.sIx 3 0 (some 1) = 0 by decide), fun _ p2 np2 => by
      rw [upd_same] at e4
      cases e4
      exact hn p2 np2⟩
end
end Ink
namespace Ink
open PySem PySem.Spec PyProof.Rows L2
def lawA (x : Arw) : Bool := (within x.1 2 && (within x.2.2 2 && decide (V.int (x.2.1.length : Nat) = V.int 1))) && lawName x.2.1
def lawWr (z : Str) (ar : List Arw) (p c : Int) : Bool := lawName z && (!decide ((9 : Int) < (ar.length : Nat)) && ((ar.map lawA).all id && (riseB ar && (within p 3 && within c 3))))
theorem lawA_eq (x : Arw) : okA x = lawA x := by
  unfold okA lawA
  rw [sign_eq]
  cases within x.1 2 <;> cases within x.2.2 2 <;> cases lawName x.2.1 <;> cases decide (V.int (x.2.1.length : Nat) = V.int 1) <;> rfl
theorem wr_eq (z : Str) (ar : List Arw) (p c : Int) : isWr z ar p c = lawWr z ar p c := by
  unfold isWr lawWr areArr
  rw [name_eq, show okA = lawA from funext lawA_eq]
  by_cases h : (9 : Int) < (ar.length : Nat)
  · rw [if_pos h, decide_eq_true h]
    cases lawName z <;> rfl
  · rw [if_neg h, decide_eq_false h]
    cases lawName z <;> cases (ar.map lawA).all id <;> rfl
theorem all_false {l : List Bool} {i : Nat} (h : l[i]? = some false) : l.all id = false := by
  cases e : l.all id with
  | false => rfl
  | true =>
    have := List.all_eq_true.mp e false (List.mem_of_getElem? h)
    cases this
theorem all_take {l : List Bool} {i : Nat} (h : (l.take i).all id = true) (hb : l[i]? = some true) : (l.take (i + 1)).all id = true := by
  rw [take_snoc hb, List.all_append, h]
  rfl
section
open Evl
theorem el_lcR {σ : L2.St} {H : Hp} {n : Int} {ta : TA} {te : TE} {j : Nat} {vs : List Nat} (f : Nat → V) (h : EvA ta σ H [.int n]) (hn : -40000 ≤ n ∧ n ≤ 40000) (hw : ∀ x, wipe ((wipe σ vs).set j (some x)) vs = wipe σ vs)
    (he : ∀ (i : Nat) H1, Ex H H1 → i < n.toNat → Ev te ((wipe σ vs).set j (some (.int (i : Int)))) H1 (f i)) : EvL (tLc (iRng1 ta) (gName j) tYes te vs) σ H ((List.range n.toNat).map f) := fun H0 e Q q => h H0 e _ fun H1 e1 => ⟨n, rfl, by omega, by omega, fun D nD =>
  lc_it walk_range0 (fun i H' => Ex H1 H' ∧ H' D = some (.lst ((List.range i).map f))) ⟨Ex.new nD, upd_same⟩ (fun _ _ _ _ => True.intro) (fun i v H2 H3 hi hP hy => by
    obtain ⟨rfl, rfl⟩ := hy
    obtain ⟨s2, e2⟩ := hP
    refine ⟨hw _, yes_of (iteT ?_)⟩
    refine he i H3 ((e.trans e1).trans s2) hi H3 (Ex.refl H3) _ fun H4 e4 => ⟨_, e4 _ _ e2, ?_, Ex.mut (s2.trans e4) nD, ?_⟩
    · rw [List.length_map, List.length_range]
      exact small_lt (by omega)
    · rw [upd_same, List.range_succ, List.map_append]
      rfl) (fun H' hP => q D H' (fresh_back e1 nD) (e1.trans hP.1) hP.2)⟩
end
section
variable {P : Program} {w : World} {K : PySem.W.Frag} {mg : Str → Option Value} {base : Heap}
theorem ok_law_writer {f : Addr} {fd : FuncData} {k : Nat} (F : Fun K "_law_is_writer" "_law_is_writer" sLIsWriter f fd) (T : Txt mg) (C__law_is_name : Cal P w K mg base k "_law_is_name" ["_law_text"] spLawName) :
    FnOk P w K mg base CX0 (k + 1) f fd ["_law_thing"] (spIsWriter lawWr) := by
  refine F.ok sc__law_is_writer (fun vs H Q E h => ?_) (fun cdv A outer s H vs Q E hr h => ?_)
  · obtain ⟨t, xs, rfl, _⟩ := h
    rfl
  · obtain ⟨t, xs, rfl, ht, h⟩ := h
    refine ⟨_, (pss_cons (ps_if (PW.pt (pw_or (pt_cmpR op_ne (pe_callB call_len (by rfl) T.m_len PySem.boot_len (pa_cons (pv 0) pa_nil)) pe_int (nomark _)) (pw_or (pt_not (pt_val (pe_callC C__law_is_name hr (by rfl) (pa_cons (pe_ix ix_tup (pv 0) pe_int (fun _ _ => rfl)) pa_nil)))) (pw_or1 (pt_cmpR op_gt (pe_callB call_len (by rfl) T.m_len PySem.boot_len (pa_cons (pe_ix ix_tup (pv 0) pe_int (fun _ _ => rfl)) pa_nil)) pe_int (nomark _))))))
    (pss_one (ps_ret pe_bl)) pss_nil)
    (pss_cons (ps_for PassesOwn.never rfl (pi_tup (pe_ix ix_tup (pv 0) pe_int (fun _ _ => rfl))) (pg_tup rfl (pgs_cons (pg_name (i := 1) sc__law_is_writer.nd rfl (.inl rfl)) (pgs_cons (pg_name (i := 2) sc__law_is_writer.nd rfl (.inl rfl)) (pgs_cons (pg_name (i := 3) sc__law_is_writer.nd rfl (.inl rfl)) pgs_nil))))
    (pss_cons (ps_set (i := 4) sc__law_is_writer.nd rfl (.inl rfl) (pe_and (pe_chain op_le op_le pe_int (pv 1) pe_int) (pe_and (pe_chain op_le op_le pe_int (pv 3) pe_int) (pe_one (pe_cmpR op_eq (pe_callB call_len_str (by rfl) T.m_len PySem.boot_len (pa_cons (pv 2) pa_nil)) pe_int (nomark _))))))
    (pss_one (ps_if (PW.pt (pw_or (pt_not (pt_val (pv 4))) (pw_or1 (pt_not (pt_val (pe_callC C__law_is_name hr (by rfl) (pa_cons (pv 2) pa_nil)))))))
    (pss_one (ps_ret pe_bl)) pss_nil))))
    (pss_cons (ps_set (i := 5) sc__law_is_writer.nd rfl (.inr rfl) (pe_lc (own := [("_law_arrow", 7)]) (g := (gName 7)) (by rfl) sc__law_is_writer.nd (pi_tup (pe_ix ix_tup (pv 0) pe_int (fun _ _ => rfl))) (blkOk_by (own := [("_law_arrow", 7)]) (N := ["_law_thing", "_law_place", "_law_sign", "_law_to", "_law_good", "_law_keys", "_law_rising", "_law_arrow", "_law_k"]) (sc := defScope sLIsWriter) (by decide +kernel)) (fun _ _ _ _ _ => (pg_name (i := 7) sc__law_is_writer.nd rfl (Or.inl rfl))) (fun _ _ _ _ _ => pts_nil) (fun _ _ _ _ _ => (pe_slice (show SlR _ (rSlA K) from sl_tupA) (pv 7) po_none (po_some pe_int)))))
    (pss_cons (ps_set (i := 6) sc__law_is_writer.nd rfl (.inl rfl) (pe_callB (cr_all rfl) (by rfl) T.m_all (by decide +kernel) (pa_cons (pe_lc (own := [("_law_k", 8)]) (g := (gName 8)) (by rfl) sc__law_is_writer.nd (pi_range1 (by rfl) T.m_range (pa_cons (pe_op op_sub (pe_callB call_len (by rfl) T.m_len PySem.boot_len (pa_cons (pv 5) pa_nil)) pe_int) pa_nil)) (blkOk_by (own := [("_law_k", 8)]) (N := ["_law_thing", "_law_place", "_law_sign", "_law_to", "_law_good", "_law_keys", "_law_rising", "_law_arrow", "_law_k"]) (sc := defScope sLIsWriter) (by decide +kernel)) (fun _ _ _ _ _ => (pg_name (i := 8) sc__law_is_writer.nd rfl (Or.inl rfl))) (fun _ _ _ _ _ => pts_nil) (fun _ _ _ _ _ => (pe_cmpR (show OpR _ _ (rLtIS K) from op_ltIS hr.units0) (pe_ix (show IxR _ (rIxL K) from ix_list) (pv 5) (pv 8) (fun _ _ => rfl)) (pe_ix (show IxR _ (rIxL K) from ix_list) (pv 5) (pe_op op_add (pv 8) pe_int) (fun _ _ => rfl)) (nomark _)))) pa_nil)))
    (pss_one (ps_ret (pe_and (pv 6) (pe_and (pe_chain op_le op_le pe_int (pe_ix ix_tup (pv 0) pe_int (fun _ _ => rfl)) pe_int) (pe_one (pe_chain op_le op_le pe_int (pe_ix ix_tup (pv 0) pe_int (fun _ _ => rfl)) pe_int)))))))))), ?_⟩
    refine ⟨.ref t, rfl, .ref t, _, rfl, .inr ⟨_, .of ht, rfl⟩, rfl, _, rfl, ?_⟩
    rcases h with ⟨hne, q⟩ | ⟨z, tp, ps, ar, p, c, rfl, htp, hps, hsh, hz, q⟩
    · rw [decide_eq_false (show ¬ V.int ((xs.length : Nat) : Int) = V.int 4 from fun e => hne (by injection e with e; omega))]
      exact iteT (iteT (q H (Same.refl H)))
    · have elen : ps.length = ar.length := Paired.length hps
      refine iteNS rfl ?_
      -- not is_name(thing[0])
      refine ⟨.ref t, rfl, t, _, 0, _, rfl, rfl, .of ht, rfl, z, rfl, hz, fun H1 s1 => ⟨lawName z, rfl, ?_⟩⟩
      have fall : ∀ H', Same H H' → lawWr z ar p c = false → Q (.bl false) H' := fun H' s' e => by
        have h := q H' s'
        rw [e] at h
        exact h
      cases hn : lawName z with
      | false => exact iteT (iteT (fall H1 s1 (by unfold lawWr; rw [hn]; rfl)))
      | true =>
      refine iteF ?_
      have ht1 := s1 _ _ ht
      have htp1 := s1 _ _ htp
      have hps1 := hps.same s1
      refine ⟨.ref t, rfl, t, _, 1, _, rfl, rfl, .of ht1, rfl, .ref tp, _, rfl, .inr ⟨_, .of htp1, rfl⟩, _, _, rfl, rfl, _, rfl, ite2 (fun e => ?_) (fun e => ?_)⟩
      · have e : (9 : Int) < (((ps.map V.ref).length : Nat) : Int) := of_decide_eq_true e
        rw [List.length_map, elen] at e
        exact fall H1 s1 (by unfold lawWr; rw [hn, decide_eq_true e]; rfl)
      · have e : ¬ (9 : Int) < (((ps.map V.ref).length : Nat) : Int) := fun h => e (decide_eq_true h)
        rw [List.length_map, elen] at e
        refine go_next ?_
        dsimp only
        have fall2 : ∀ H' i, Same H1 H' → (ar.map lawA)[i]? = some false → Q (.bl false) H' := fun H' i s' h => fall H' (s1.trans s') (by
          unfold lawWr
          rw [all_false h, hn, decide_eq_false e]
          rfl)
        -- the loop over the arrows
        refine ⟨.ref t, rfl, t, _, 1, _, rfl, rfl, .of ht1, rfl, tp, rfl, ⟨_, .of htp1⟩, for_it (walk_tup (xs := ps.map V.ref)) (fun i σ H' => (∃ y1 y2 y3 y4, σ = [some (.ref t), y1, y2, y3, y4, none, none, none, none]) ∧ Same H1 H' ∧ ((ar.map lawA).take i).all id = true) ⟨⟨none, none, none, none, rfl⟩, Same.refl H1, rfl⟩ (fun i σ H' _ hP => .of (hP.2.1 _ _ htp1)) (fun i v σ H2 H3 hi hP hy => ?_) (fun σ H2 hP => ?_)⟩
        · obtain ⟨⟨y1, y2, y3, y4, rfl⟩, s2, hall⟩ := hP
          obtain ⟨rfl, hv⟩ := hy
          obtain ⟨p', hp, rfl⟩ := refs_at hv
          obtain ⟨x, hx, hpx⟩ := hps1.get hp
          have hsx := hsh.2 x (List.mem_of_getElem? hx)
          have hla : (ar.map lawA)[i]? = some (lawA x) := by
            rw [List.getElem?_map, hx]
            rfl
          refine ⟨p', _, rfl, .of (s2 _ _ hpx), rfl, _, _, rfl, _, _, rfl, _, _, rfl, rfl, ?_⟩
          refine Evl.q_asg (v := .bl (within x.1 2 && (within x.2.2 2 && decide (V.int (x.2.1.length : Nat) = V.int 1)))) (Evl.ev_andV (ev_chainI (f := fun i j => decide (i ≤ j)) (g := fun i j => decide (i ≤ j)) Evl.ev_c (Evl.ev_var (by rfl)) Evl.ev_c) fun _ => Evl.ev_andV (ev_chainI (f := fun i j => decide (i ≤ j)) (g := fun i j => decide (i ≤ j)) Evl.ev_c (Evl.ev_var (by rfl)) Evl.ev_c) fun _ =>
            Evl.ev_op (ev_lenS (Evl.ev_var (by rfl)) (by omega)) Evl.ev_c (Evl.rv_eq rfl)) fun H4 s4 => ?_
          refine ⟨_, rfl, _, rfl, ?_⟩
          have s24 : Same H1 H4 := Same.trans s2 s4
          cases hg : (within x.1 2 && (within x.2.2 2 && decide (V.int (x.2.1.length : Nat) = V.int 1))) with
          | false => exact iteT (iteT (fall2 H4 i s24 (by rw [hla]; unfold lawA; rw [hg]; rfl)))
          | true =>
          refine iteF ⟨_, rfl, x.2.1, rfl, hsx, fun H5 s5 => ⟨_, rfl, ?_⟩⟩
          cases hg2 : lawName x.2.1 with
          | false => exact iteT (fall2 H5 i (s24.trans s5) (by rw [hla]; unfold lawA; rw [hg, hg2]; rfl))
          | true => exact iteF ⟨⟨_, _, _, _, rfl⟩, s24.trans s5, all_take hall (by rw [hla]; unfold lawA; rw [hg, hg2]; rfl)⟩
        · obtain ⟨⟨y1, y2, y3, y4, rfl⟩, s2, hall⟩ := hP
          rw [List.take_of_length_le (by rw [List.length_map, List.length_map, elen]; exact Nat.le_refl _)] at hall
          have ht2 := s2 _ _ ht1
          have htp2 := s2 _ _ htp1
          have hps2 := hps1.same s2
          -- keys
          refine ⟨.ref t, rfl, t, _, 1, _, rfl, rfl, .of ht2, rfl, tp, rfl, ⟨_, .of htp2⟩, fun D nD => ?_⟩
          refine lc_it (walk_tup (xs := ps.map V.ref)) (fun i H' => Same H2 H' ∧ ∃ qs : List Addr, H' D = some (.lst (qs.map V.ref)) ∧ qs.length = i ∧ ∀ j p, qs[j]? = some p → ∃ x : Arw, ar[j]? = some x ∧ H' p = some (.tup [.int x.1, .str x.2.1])) ⟨same_new nD, [], upd_same, rfl, fun j p h => by rw [List.getElem?_nil] at h; cases h⟩ (fun i H' _ hP => .of (hP.1 _ _ htp2)) (fun i v H3 H4 hi hP hy => ?_) (fun H3 hP => ?_)
          · obtain ⟨rfl, hv⟩ := hy
            obtain ⟨s3, qs, eD, rfl, hq2⟩ := hP
            obtain ⟨p, hp, rfl⟩ := refs_at hv
            obtain ⟨x, hx, hpx⟩ := hps2.get hp
            refine ⟨rfl, yes_of (iteT ?_)⟩
            refine ⟨.ref p, rfl, 2, rfl, p, _, rfl, .of (s3 _ _ hpx), fun h => absurd h.2 (by show ¬ (2 : Nat) = 3; decide), fun _ p' np' => ⟨_, same_new np' _ _ eD, ?_, same_mut (s3.trans (same_new np')) nD, qs ++ [p'], ?_, ?_, fun j p2 hj => ?_⟩⟩
            · rw [List.length_map]
              rw [List.length_map, elen] at hi
              have := hsh.1
              exact small_lt (by omega)
            · rw [upd_same, List.map_append]
              rfl
            · rw [List.length_append]
              rfl
            · have nDp : ∀ p3 xs', H4 p3 = some (.tup xs') → p3 ≠ D := fun p3 xs' h3 => ne_of h3 eD (by intro z; cases z)
              by_cases hjl : j < qs.length
              · rw [List.getElem?_append_left hjl] at hj
                obtain ⟨y, hy1, hy2⟩ := hq2 j p2 hj
                exact ⟨y, hy1, by rw [upd_ne (nDp _ _ hy2)]; exact same_new np' _ _ hy2⟩
              · have hlt := (List.getElem?_eq_some_iff.mp hj).1
                rw [List.length_append, List.length_singleton] at hlt
                have ej : j = qs.length := by omega
                subst ej
                rw [List.getElem?_append_right (Nat.le_refl _), Nat.sub_self] at hj
                have hj := Option.some.inj hj
                subst hj
                exact ⟨x, hx, by rw [upd_ne (ne_of_none eD np').symm, upd_same]; rfl⟩
          · obtain ⟨s3, qs, eD, eq, hq2⟩ := hP
            rw [List.length_map, elen] at eq
            have nn : (((qs.map V.ref).length : Nat) : Int) - 1 ≤ 40000 := by
              rw [List.length_map]
              have := hsh.1
              omega
            refine g_go ?_
            dsimp only
            refine Evl.q_asg (v := .bl (riseB ar)) (ev_all (bs := (List.range (ar.length - 1)).map (ltAt ar)) ?_) fun H4 s4 => ?_
            · rw [← bls_eq, show ar.length - 1 = ((((qs.map V.ref).length : Nat) : Int) - 1).toNat by rw [List.length_map]; omega]
              refine el_lcR _ (Evl.ea_cons (Evl.ev_op (ev_lenL (Evl.ev_var (by rfl)) (.of eD)) Evl.ev_c Evl.rv_I0) Evl.ea_nil) ⟨by omega, nn⟩ (fun _ => rfl) (fun i H5 s5 hi => ?_)
              rw [List.length_map] at hi
              obtain ⟨p1, hp1⟩ : ∃ p1, qs[i]? = some p1 := ⟨qs[i]'(by omega), List.getElem?_eq_getElem (by omega)⟩
              obtain ⟨p2, hp2⟩ : ∃ p2, qs[i + 1]? = some p2 := ⟨qs[i + 1]'(by omega), List.getElem?_eq_getElem (by omega)⟩
              obtain ⟨x1, hx1, hx2⟩ := hq2 _ _ hp1
              obtain ⟨y1, hy1, hy2⟩ := hq2 _ _ hp2
              have e5 : ltIS x1.1 x1.2.1 y1.1 y1.2.1 = ltAt ar i := by
                unfold ltAt
                rw [hx1, hy1]
              rw [← e5]
              refine Evl.ev_op (ev_ixL (v := .ref p1) (Evl.ev_var (by rfl)) (Evl.ev_var (by rfl)) (.of (s5 _ _ eD)) (by omega) (by rw [Int.toNat_natCast, List.getElem?_map, hp1]; rfl)) (ev_ixL (v := .ref p2) (Evl.ev_var (by rfl)) (Evl.ev_op (Evl.ev_var (by rfl)) Evl.ev_c Evl.rv_I0) (.of (s5 _ _ eD)) (by omega) (by
                rw [show ((i : Int) + 1).toNat = i + 1 by omega, List.getElem?_map, hp2]; rfl)) (fun H6 s6 Q6 q6 => ⟨p1, p2, _, _, _, _, rfl, rfl, .of (s6 _ _ (s5 _ _ hx2)), .of (s6 _ _ (s5 _ _ hy2)), q6 H6 (Evl.Ex.refl H6)⟩)
            · have s14 : Same H1 H4 := Same.trans s2 (Same.trans s3 s4)
              have ht4 := s14 _ _ ht1
              refine Evl.s_ret (v := .bl (riseB ar && (within p 3 && within c 3))) (Evl.ev_andV (Evl.ev_var (by rfl)) fun _ => Evl.ev_andV (ev_chainI (f := fun i j => decide (i ≤ j)) (g := fun i j => decide (i ≤ j)) Evl.ev_c (ev_ixT (Evl.ev_var (by rfl)) Evl.ev_c (.of ht4) (by decide) rfl) Evl.ev_c) fun _ =>
                ev_chainI (f := fun i j => decide (i ≤ j)) (g := fun i j => decide (i ≤ j)) Evl.ev_c (ev_ixT (Evl.ev_var (by rfl)) Evl.ev_c (.of ht4) (by decide) rfl) Evl.ev_c) fun H5 s5 => ?_
              have h := q H5 (Same.trans s1 (Same.trans s14 s5))
              unfold lawWr at h
              rw [hn, hall, decide_eq_false e] at h
              exact h
end
end Ink
namespace Ink
open PySem PySem.Spec PyProof.Rows L2
/-! ### data as a reading gives it: None, bools, numbers, texts, tuples and lists of such -/
mutual
theorem dp_up {K : PySem.W.Frag} {H H' : Hp} (hl : ∀ b xs, SqL K H b xs → SqL K H' b xs) (ht : ∀ b xs, SqT K H b xs → SqT K H' b xs) : ∀ (d : PyData) (v : V), Dp K H v d → Dp K H' v d
  | .none, _, h => by cases h; exact .non
  | .bool b, _, h => by cases h; exact .bl b
  | .int i, _, h => by cases h; exact .int i
  | .str x, _, h => by cases h; exact .str x
  | .list ds, _, h => by
    cases h with
    | lst hs ha => exact .lst (hl _ _ hs) (dps_up hl ht ds _ ha)
  | .tuple ds, _, h => by
    cases h with
    | tup hs ha => exact .tup (ht _ _ hs) (dps_up hl ht ds _ ha)
  | .dict _, _, h => by cases h
theorem dps_up {K : PySem.W.Frag} {H H' : Hp} (hl : ∀ b xs, SqL K H b xs → SqL K H' b xs) (ht : ∀ b xs, SqT K H b xs → SqT K H' b xs) : ∀ (ds : List PyData) (vs : List V), DpAll K H vs ds → DpAll K H' vs ds
  | [], _, h => by cases h; exact .nil
  | d :: ds, _, h => by
    cases h with
    | cons h1 h2 => exact .cons (dp_up hl ht d _ h1) (dps_up hl ht ds _ h2)
end
mutual
/-- no list in it: it never changes -/
def fz : PyData → Bool
  | .list _ => false
  | .tuple ds => fzAll ds
  | .dict _ => false
  | .none => true
  | .bool _ => true
  | .int _ => true
  | .str _ => true
def fzAll : List PyData → Bool
  | [] => true
  | d :: ds => fz d && fzAll ds
end
mutual
theorem dp_fz {K : PySem.W.Frag} {H H' : Hp} (ht : ∀ b xs, SqT K H b xs → SqT K H' b xs) : ∀ (d : PyData) (v : V), fz d = true → Dp K H v d → Dp K H' v d
  | .none, _, _, h => by cases h; exact .non
  | .bool b, _, _, h => by cases h; exact .bl b
  | .int i, _, _, h => by cases h; exact .int i
  | .str x, _, _, h => by cases h; exact .str x
  | .list _, _, f, _ => by
    unfold fz at f
    cases f
  | .tuple ds, _, f, h => by
    cases h with
    | tup hs ha => exact .tup (ht _ _ hs) (dps_fz ht ds _ (by unfold fz at f; exact f) ha)
  | .dict _, _, _, h => by cases h
theorem dps_fz {K : PySem.W.Frag} {H H' : Hp} (ht : ∀ b xs, SqT K H b xs → SqT K H' b xs) : ∀ (ds : List PyData) (vs : List V), fzAll ds = true → DpAll K H vs ds → DpAll K H' vs ds
  | [], _, _, h => by cases h; exact .nil
  | d :: ds, _, f, h => by
    unfold fzAll at f
    rw [Bool.and_eq_true] at f
    cases h with
    | cons h1 h2 => exact .cons (dp_fz ht d _ f.1 h1) (dps_fz ht ds _ f.2 h2)
end
theorem fzAll_iff : ∀ {ds : List PyData}, fzAll ds = true ↔ ∀ d ∈ ds, fz d = true
  | [] => by unfold fzAll; exact ⟨fun _ _ h => (by cases h), fun _ => rfl⟩
  | d :: ds => by
    unfold fzAll
    rw [Bool.and_eq_true, fzAll_iff]
    exact ⟨fun h e he => (List.mem_cons.mp he).elim (fun z => z ▸ h.1) (h.2 e), fun h => ⟨h d (List.mem_cons_self ..), fun e he => h e (List.mem_cons_of_mem _ he)⟩⟩
theorem fz_map {α : Type} {e : α → PyData} {xs : List α} (h : ∀ x ∈ xs, fz (e x) = true) : fzAll (xs.map e) = true := fzAll_iff.mpr fun d hd => by
  obtain ⟨x, hx, rfl⟩ := List.mem_map.mp hd
  exact h x hx
section
variable {K : PySem.W.Frag} {H H' : Hp} {v : V} {d : PyData} {vs : List V} {ds : List PyData}
theorem dp_same (e : Evl.Ex H H') (h : Dp K H v d) : Dp K H' v d := dp_up (fun _ _ => Evl.ex_l e) (fun _ _ => Evl.ex_t e) d v h
theorem dps_same (e : Evl.Ex H H') (h : DpAll K H vs ds) : DpAll K H' vs ds := dps_up (fun _ _ => Evl.ex_l e) (fun _ _ => Evl.ex_t e) ds vs h
/-- what is drawn from the bag leaves the tuples -/
theorem keep_t {a l : Addr} (b : BagAt H a l) (k : Keep a H H') : ∀ c xs, SqT K H c xs → SqT K H' c xs := fun c xs h => by
  obtain ⟨ns, p, q, s, h1, _⟩ := b
  rcases h with (h | ⟨o, h⟩) | h
  · exact .inl (.inl (k c _ (fun z => by rw [z, h1] at h; cases h) h))
  · exact .inl (.inr ⟨o, k c _ (fun z => by rw [z, h1] at h; cases h) h⟩)
  · exact .inr h
theorem dp_keep {a l : Addr} (b : BagAt H a l) (k : Keep a H H') (f : fz d = true) (h : Dp K H v d) : Dp K H' v d := dp_fz (keep_t b k) d v f h
theorem dps_keep {a l : Addr} (b : BagAt H a l) (k : Keep a H H') (f : fzAll ds = true) (h : DpAll K H vs ds) : DpAll K H' vs ds := dps_fz (keep_t b k) ds vs f h
end
end Ink
namespace L2
open PySem PySem.Spec PyProof.Rows
section
variable {K : PySem.W.Frag} {H H' : Hp} {v : V} {d : PyData} {vs : List V} {ds : List PyData}
theorem DpAll.length : ∀ {vs : List V} {ds : List PyData}, DpAll K H vs ds → vs.length = ds.length
  | _, _, .nil => rfl
  | _, _, .cons _ t => by rw [List.length_cons, List.length_cons, DpAll.length t]
theorem DpAll.get : ∀ {vs : List V} {ds : List PyData} {i : Nat} {d : PyData}, DpAll K H vs ds → ds[i]? = some d → ∃ v, vs[i]? = some v ∧ Dp K H v d
  | _, _, 0, d, .cons h _, e => ⟨_, rfl, by rw [← Option.some.inj e]; exact h⟩
  | _, _, i + 1, d, .cons _ t, e => DpAll.get (i := i) t e
theorem DpAll.at : ∀ {vs : List V} {ds : List PyData} {i : Nat} {v : V}, DpAll K H vs ds → vs[i]? = some v → ∃ d, ds[i]? = some d ∧ Dp K H v d
  | _, _, 0, v, .cons h _, e => ⟨_, rfl, by rw [← Option.some.inj e]; exact h⟩
  | _, _, i + 1, v, .cons _ t, e => DpAll.at (i := i) t e
theorem DpAll.app : ∀ {vs ws : List V} {ds es : List PyData}, DpAll K H vs ds → DpAll K H ws es → DpAll K H (vs ++ ws) (ds ++ es)
  | _, _, _, _, .nil, h => h
  | _, _, _, _, .cons h t, h2 => .cons h (t.app h2)
theorem DpAll.one (h : Dp K H v d) : DpAll K H [v] [d] := .cons h .nil
theorem DpAll.take : ∀ {vs : List V} {ds : List PyData} (n : Nat), DpAll K H vs ds → DpAll K H (vs.take n) (ds.take n)
  | _, _, 0, _ => .nil
  | _, _, _ + 1, .nil => .nil
  | _, _, n + 1, .cons h t => .cons h (t.take n)
theorem DpAll.drop : ∀ {vs : List V} {ds : List PyData} (n : Nat), DpAll K H vs ds → DpAll K H (vs.drop n) (ds.drop n)
  | _, _, 0, h => h
  | _, _, _ + 1, .nil => .nil
  | _, _, n + 1, .cons _ t => t.drop n
theorem DpAll.set : ∀ {vs : List V} {ds : List PyData} (n : Nat), DpAll K H vs ds → Dp K H v d → DpAll K H (vs.set n v) (ds.set n d)
  | _, _, 0, .cons _ t, h => .cons h t
  | _, _, _, .nil, _ => .nil
  | _, _, n + 1, .cons h t, h2 => .cons h (t.set n h2)
end
end L2
namespace Ink
open PySem PySem.Spec PyProof.Rows L2
section
variable {K : PySem.W.Frag} {H H' : Hp} {v : V} {d : PyData} {vs : List V} {ds : List PyData}
theorem dps_ints : ∀ (ns : List Int), DpAll K H (ns.map V.int) (ns.map PyData.int)
  | [] => .nil
  | n :: ns => .cons (.int n) (dps_ints ns)
theorem dp_int {i : Int} (h : Dp K H v (.int i)) : v = .int i := by cases h; rfl
theorem dp_str {z : Str} (h : Dp K H v (.str z)) : v = .str z := by cases h; rfl
theorem dp_bl {b : Bool} (h : Dp K H v (.bool b)) : v = .bl b := by cases h; rfl
theorem dp_non (h : Dp K H v .none) : v = .non := by cases h; rfl
theorem dps_int : ∀ {vs : List V} {ns : List Int}, DpAll K H vs (ns.map PyData.int) → vs = ns.map V.int
  | _, [], h => by cases h; rfl
  | _, n :: ns, h => by
    cases h with
    | cons h t =>
      rw [dp_int h, dps_int t]
      rfl
theorem dp_tup (h : Dp K H v (.tuple ds)) : ∃ p xs, v = .ref p ∧ SqT K H p xs ∧ DpAll K H xs ds := by
  cases h with
  | tup hs ha => exact ⟨_, _, rfl, hs, ha⟩
theorem dp_lst (h : Dp K H v (.list ds)) : ∃ p xs, v = .ref p ∧ SqL K H p xs ∧ DpAll K H xs ds := by
  cases h with
  | lst hs ha => exact ⟨_, _, rfl, hs, ha⟩
theorem dps1 {d1 : PyData} (h : DpAll K H vs [d1]) : ∃ v1, vs = [v1] ∧ Dp K H v1 d1 := by
  cases h with
  | cons h1 t => cases t; exact ⟨_, rfl, h1⟩
theorem dps2 {d1 d2 : PyData} (h : DpAll K H vs [d1, d2]) : ∃ v1 v2, vs = [v1, v2] ∧ Dp K H v1 d1 ∧ Dp K H v2 d2 := by
  cases h with
  | cons h1 t =>
    obtain ⟨v2, rfl, h2⟩ := dps1 t
    exact ⟨_, _, rfl, h1, h2⟩
theorem dps3 {d1 d2 d3 : PyData} (h : DpAll K H vs [d1, d2, d3]) : ∃ v1 v2 v3, vs = [v1, v2, v3] ∧ Dp K H v1 d1 ∧ Dp K H v2 d2 ∧ Dp K H v3 d3 := by
  cases h with
  | cons h1 t =>
    obtain ⟨v2, v3, rfl, h2, h3⟩ := dps2 t
    exact ⟨_, _, _, rfl, h1, h2, h3⟩
theorem dps4 {d1 d2 d3 d4 : PyData} (h : DpAll K H vs [d1, d2, d3, d4]) : ∃ v1 v2 v3 v4, vs = [v1, v2, v3, v4] ∧ Dp K H v1 d1 ∧ Dp K H v2 d2 ∧ Dp K H v3 d3 ∧ Dp K H v4 d4 := by
  cases h with
  | cons h1 t =>
    obtain ⟨v2, v3, v4, rfl, h2, h3, h4⟩ := dps3 t
    exact ⟨_, _, _, _, rfl, h1, h2, h3, h4⟩
end
/-! ### what evaluates to data -/
open Evl
/-- to d, whatever the value -/
def EvD (K : PySem.W.Frag) (te : TE) (σ : L2.St) (H : Hp) (d : PyData) : Prop := ∀ H1, Ex H H1 → ∀ Q : VK, (∀ v H2, Ex H1 H2 → Dp K H2 v d → Q v H2) → te σ H1 Q
def EvDs (K : PySem.W.Frag) (ta : TA) (σ : L2.St) (H : Hp) (ds : List PyData) : Prop := ∀ H1, Ex H H1 → ∀ Q : List V → Hp → Prop, (∀ vs H2, Ex H1 H2 → DpAll K H2 vs ds → Q vs H2) → ta σ H1 Q
/-- to a new list of ds -/
def EvN (K : PySem.W.Frag) (te : TE) (σ : L2.St) (H : Hp) (ds : List PyData) : Prop := ∀ H1, Ex H H1 → ∀ Q : VK, (∀ p vs H2, H1 p = none → Ex H1 H2 → H2 p = some (.lst vs) → DpAll K H2 vs ds → Q (.ref p) H2) → te σ H1 Q
/-- what is walked gives ds -/
def EvI (K : PySem.W.Frag) (ti : TI) (σ : L2.St) (H : Hp) (ds : List PyData) : Prop := ∀ H1, Ex H H1 → ∀ R : It → Hp → Prop, (∀ J H2, Ex H1 H2 → Walk J ds.length (fun H' => Ex H2 H') (fun i Ha x Hb => Ex Ha Hb ∧ ∃ d, ds[i]? = some d ∧ Dp K Hb x d) → R J H2) → ti σ H1 R
section
variable {K : PySem.W.Frag} {σ : L2.St} {H H' : Hp} {ta tb te tc : TE} {t : TT} {d d1 d2 : PyData} {ds es : List PyData} {v : V} {i : Nat}
theorem EvD.mono (e : Ex H H') (h : EvD K te σ H d) : EvD K te σ H' d := fun H1 a Q q => h H1 (e.trans a) Q q
theorem EvN.mono (e : Ex H H') (h : EvN K te σ H ds) : EvN K te σ H' ds := fun H1 a Q q => h H1 (e.trans a) Q q
theorem EvN.list (h : EvN K te σ H ds) : EvD K te σ H (.list ds) := fun H1 e Q q => h H1 e _ fun p vs H2 _ e2 hp hd => q _ H2 e2 (.lst (.of hp) hd)
theorem ed_of (h : Ev te σ H v) (hd : Dp K H v d) : EvD K te σ H d := fun H1 e Q q => h H1 e _ fun H2 e2 => q v H2 e2 (dp_same (e.trans e2) hd)
theorem ev_int {n : Int} (h : EvD K te σ H (.int n)) : Ev te σ H (.int n) := fun H1 e Q q => h H1 e _ fun v H2 e2 hd => by rw [dp_int hd]; exact q H2 e2
theorem ev_str {z : Str} (h : EvD K te σ H (.str z)) : Ev te σ H (.str z) := fun H1 e Q q => h H1 e _ fun v H2 e2 hd => by rw [dp_str hd]; exact q H2 e2
theorem ev_bl {b : Bool} (h : EvD K te σ H (.bool b)) : Ev te σ H (.bl b) := fun H1 e Q q => h H1 e _ fun v H2 e2 hd => by rw [dp_bl hd]; exact q H2 e2
theorem ed_int {n : Int} (h : Ev te σ H (.int n)) : EvD K te σ H (.int n) := ed_of h (.int n)
theorem ed_str {z : Str} (h : Ev te σ H (.str z)) : EvD K te σ H (.str z) := ed_of h (.str z)
theorem ed_bl {b : Bool} (h : Ev te σ H (.bl b)) : EvD K te σ H (.bool b) := ed_of h (.bl b)
theorem ed_non (h : Ev te σ H .non) : EvD K te σ H .none := ed_of h .non
theorem ed_var (h : σ[i]? = some (some v)) (hd : Dp K H v d) : EvD K (tVar i) σ H d := ed_of (ev_var h) hd
theorem ed_is (h : EvD K te σ H d1) (e : d1 = d2) : EvD K te σ H d2 := e ▸ h
theorem eds_nil : EvDs K tNil σ H [] := fun H1 _ _ q => q [] H1 (Ex.refl H1) .nil
theorem eds_cons {tr : TA} (h : EvD K ta σ H d) (hr : EvDs K tr σ H ds) : EvDs K (tCons ta tr) σ H (d :: ds) := fun H1 e _ q =>
  h H1 e _ fun v H2 e2 hd => hr H2 (e.trans e2) _ fun vs H3 e3 hds => q _ H3 (e2.trans e3) (.cons (dp_same e3 hd) hds)
theorem ed_tup {ta : TA} (h : EvDs K ta σ H ds) (hl : ds.length ≤ 100000) : EvD K (tTup ta) σ H (.tuple ds) := fun H1 e Q q =>
  h H1 e _ fun vs H2 e2 hds => ⟨sz_of (by rw [hds.length]; exact hl), fun p hp => q _ _ (e2.trans (Ex.new hp)) (.tup (.of upd_same) (dps_same (Ex.new hp) hds))⟩
theorem en_lst {ta : TA} (h : EvDs K ta σ H ds) (hl : ds.length ≤ 100000) : EvN K (tLst ta) σ H ds := fun H1 e Q q =>
  h H1 e _ fun vs H2 e2 hds => ⟨sz_of (by rw [hds.length]; exact hl), fun p hp => q p vs _ (fresh_back e2 hp) (e2.trans (Ex.new hp)) upd_same (dps_same (Ex.new hp) hds)⟩
theorem ed_ixT {n : Int} (ha : EvD K ta σ H (.tuple ds)) (hb : Ev tb σ H (.int n)) (h0 : 0 ≤ n) (hd : ds[n.toNat]? = some d) : EvD K (tOp (rIxT K) ta tb) σ H d := fun H1 e Q q =>
  ha H1 e _ fun v H2 e2 hv => hb H2 (e.trans e2) _ fun H3 e3 => by
    obtain ⟨p, xs, rfl, hs, hxs⟩ := dp_tup (dp_same e3 hv)
    obtain ⟨x, hx, hxd⟩ := hxs.get hd
    exact ⟨p, xs, n, x, rfl, rfl, hs, atI_of h0 hx, q x H3 (e2.trans e3) hxd⟩
theorem ed_ixL {n : Int} (ha : EvD K ta σ H (.list ds)) (hb : Ev tb σ H (.int n)) (h0 : 0 ≤ n) (hd : ds[n.toNat]? = some d) : EvD K (tOp (rIxL K) ta tb) σ H d := fun H1 e Q q =>
  ha H1 e _ fun v H2 e2 hv => hb H2 (e.trans e2) _ fun H3 e3 => by
    obtain ⟨p, xs, rfl, hs, hxs⟩ := dp_lst (dp_same e3 hv)
    obtain ⟨x, hx, hxd⟩ := hxs.get hd
    exact ⟨p, xs, n, x, rfl, rfl, hs, atI_of h0 hx, q x H3 (e2.trans e3) hxd⟩
theorem ev_eqD (ha : EvD K ta σ H d1) (hb : EvD K tb σ H d2) (h1 : SeqAt.shaped d1 = true) (h2 : SeqAt.shaped d2 = true) : Ev (tOp (rEqD K) ta tb) σ H (.bl (PyData.eqv d1 d2)) := fun H1 e Q q =>
  ha H1 e _ fun v H2 e2 hv => hb H2 (e.trans e2) _ fun w H3 e3 hw => ⟨d1, d2, dp_same e3 hv, hw, h1, h2, q H3 (e2.trans e3)⟩
theorem ev_neD (ha : EvD K ta σ H d1) (hb : EvD K tb σ H d2) (h1 : SeqAt.shaped d1 = true) (h2 : SeqAt.shaped d2 = true) : Ev (tOp (rNeD K) ta tb) σ H (.bl (!PyData.eqv d1 d2)) := fun H1 e Q q =>
  ha H1 e _ fun v H2 e2 hv => hb H2 (e.trans e2) _ fun w H3 e3 hw => ⟨d1, d2, dp_same e3 hv, hw, h1, h2, q H3 (e2.trans e3)⟩
theorem ev_lenD (ha : EvD K ta σ H d) (h : d = .list ds ∨ d = .tuple ds) : Ev (tCB (fun xs H Q => ∃ x n, xs = [x] ∧ LenV K x H n ∧ Q (.int n) H) (tCons ta tNil)) σ H (.int (ds.length : Nat)) := fun H1 e Q q =>
  ha H1 e _ fun v H2 e2 hv => by
    rcases h with rfl | rfl
    · obtain ⟨p, xs, rfl, hs, hxs⟩ := dp_lst hv
      exact ⟨.ref p, _, rfl, .inl ⟨_, hs, rfl⟩, by rw [hxs.length]; exact q H2 e2⟩
    · obtain ⟨p, xs, rfl, hs, hxs⟩ := dp_tup hv
      exact ⟨.ref p, _, rfl, .inr ⟨_, hs, rfl⟩, by rw [hxs.length]; exact q H2 e2⟩
theorem ed_if {b : Bool} (h : EvT t σ H b) (h1 : b = true → EvD K ta σ H d) (h2 : b = false → EvD K tb σ H d) : EvD K (tIf t ta tb) σ H d := fun H1 e Q q => h H1 e _ fun H2 e2 => by
  cases b with
  | true => exact iteT (h1 rfl H2 (e.trans e2) Q fun v H3 e3 => q v H3 (e2.trans e3))
  | false => exact iteF (h2 rfl H2 (e.trans e2) Q fun v H3 e3 => q v H3 (e2.trans e3))
theorem et_yes : EvT tYes σ H true := fun H1 _ Q q => q H1 (Ex.refl H1)
/-- a contract of data alone: what stood stands -/
def spP (K : PySem.W.Frag) (R : List PyData → PyData → Prop) : Sp := fun vs H Q _ => ∃ ds d, DpAll K H vs ds ∧ R ds d ∧ ∀ v H', Same H H' → Dp K H' v d → Q v H'
theorem ed_call {R : List PyData → PyData → Prop} {E : XK} {ta : TA} (h : EvDs K ta σ H ds) (hR : R ds d) : EvD K (tCall (spP K R) [] E ta) σ H d := fun H1 e Q q =>
  h H1 e _ fun vs H2 e2 hds => by
    show spP K R (vs ++ []) H2 Q E
    rw [List.append_nil]
    exact ⟨ds, d, hds, hR, fun v H3 s3 hd => q v H3 (e2.trans s3) hd⟩
/-! ### statements -/
variable {D : Ends} {tu : TS}
theorem sd_asg (h : EvD K te σ H d) (k : ∀ v H1, Ex H H1 → Dp K H1 v d → D.nx (σ.set i (some v)) H1) : tAsg te (gName i) D σ H := h H (Ex.refl H) _ fun v H1 e hd => k v H1 e hd
theorem sd_asgN (h : EvN K te σ H ds) (k : ∀ p vs H1, H p = none → Ex H H1 → H1 p = some (.lst vs) → DpAll K H1 vs ds → D.nx (σ.set i (some (.ref p))) H1) : tAsg te (gName i) D σ H := h H (Ex.refl H) _ fun p vs H1 np e hp hd => k p vs H1 np e hp hd
theorem sd_ret (h : EvD K te σ H d) (k : ∀ v H1, Ex H H1 → Dp K H1 v d → D.rt v H1) : tRet te D σ H := h H (Ex.refl H) _ k
theorem sd_un2 {n1 n2 : Nat} (h : EvD K te σ H (.tuple [d1, d2])) (k : ∀ v1 v2 H1, Ex H H1 → Dp K H1 v1 d1 → Dp K H1 v2 d2 → D.nx ((σ.set n1 (some v1)).set n2 (some v2)) H1) : tAsg te (gTup K 2 (gCons (gName n1) (gCons (gName n2) gNil))) D σ H := h H (Ex.refl H) _ fun v H1 e hd => by
  obtain ⟨p, xs, rfl, hs, hxs⟩ := dp_tup hd
  obtain ⟨v1, v2, rfl, h1, h2⟩ := dps2 hxs
  exact ⟨p, _, rfl, hs, rfl, _, _, rfl, _, _, rfl, rfl, k v1 v2 H1 e h1 h2⟩
theorem sd_un3 {d3 : PyData} {n1 n2 n3 : Nat} (h : EvD K te σ H (.tuple [d1, d2, d3])) (k : ∀ v1 v2 v3 H1, Ex H H1 → Dp K H1 v1 d1 → Dp K H1 v2 d2 → Dp K H1 v3 d3 → D.nx (((σ.set n1 (some v1)).set n2 (some v2)).set n3 (some v3)) H1) : tAsg te (gTup K 3 (gCons (gName n1) (gCons (gName n2) (gCons (gName n3) gNil)))) D σ H := h H (Ex.refl H) _ fun v H1 e hd => by
  obtain ⟨p, xs, rfl, hs, hxs⟩ := dp_tup hd
  obtain ⟨v1, v2, v3, rfl, h1, h2, h3⟩ := dps3 hxs
  exact ⟨p, _, rfl, hs, rfl, _, _, rfl, _, _, rfl, _, _, rfl, rfl, k v1 v2 v3 H1 e h1 h2 h3⟩
theorem sd_un4 {d3 d4 : PyData} {n1 n2 n3 n4 : Nat} (h : EvD K te σ H (.tuple [d1, d2, d3, d4])) (k : ∀ v1 v2 v3 v4 H1, Ex H H1 → Dp K H1 v1 d1 → Dp K H1 v2 d2 → Dp K H1 v3 d3 → Dp K H1 v4 d4 → D.nx ((((σ.set n1 (some v1)).set n2 (some v2)).set n3 (some v3)).set n4 (some v4)) H1) :
    tAsg te (gTup K 4 (gCons (gName n1) (gCons (gName n2) (gCons (gName n3) (gCons (gName n4) gNil))))) D σ H := h H (Ex.refl H) _ fun v H1 e hd => by
  obtain ⟨p, xs, rfl, hs, hxs⟩ := dp_tup hd
  obtain ⟨v1, v2, v3, v4, rfl, h1, h2, h3, h4⟩ := dps4 hxs
  exact ⟨p, _, rfl, hs, rfl, _, _, rfl, _, _, rfl, _, _, rfl, _, _, rfl, rfl, k v1 v2 v3 v4 H1 e h1 h2 h3 h4⟩
/-! ### what is walked -/
theorem ei_tup (h : EvD K te σ H (.tuple ds)) : EvI K (iTup K te) σ H ds := fun H1 e R q => h H1 e _ fun v H2 e2 hd => by
  obtain ⟨p, xs, rfl, hs, hxs⟩ := dp_tup hd
  refine ⟨p, rfl, ⟨xs, hs⟩, q _ H2 e2 ?_⟩
  rw [← hxs.length]
  refine (walk_tup (xs := xs)).mono (fun H3 e3 => ex_t e3 hs) fun i Ha x Hb hi e3 hy => ?_
  obtain ⟨rfl, hx⟩ := hy
  obtain ⟨dx, h1, h2⟩ := hxs.at hx
  exact ⟨Ex.refl _, dx, h1, dp_same e3 h2⟩
theorem ei_lst (h : EvD K te σ H (.list ds)) : EvI K (iList K te) σ H ds := fun H1 e R q => h H1 e _ fun v H2 e2 hd => by
  obtain ⟨p, xs, rfl, hs, hxs⟩ := dp_lst hd
  refine ⟨p, rfl, ⟨xs, hs⟩, q _ H2 e2 ?_⟩
  rw [← hxs.length]
  refine (walk_list (xs := xs)).mono (fun H3 e3 => ex_l e3 hs) fun i Ha x Hb hi e3 hy => ?_
  obtain ⟨rfl, hx⟩ := hy
  obtain ⟨dx, h1, h2⟩ := hxs.at hx
  exact ⟨Ex.refl _, dx, h1, dp_same e3 h2⟩
theorem ei_range {ta : TA} {n : Nat} (h : EvA ta σ H [.int (n : Int)]) (hn : n ≤ 100000) : EvI K (iRng1 ta) σ H ((List.range n).map fun (i : Nat) => PyData.int (i : Int)) := fun H1 e R q => h H1 e _ fun H2 e2 => ⟨(n : Int), rfl, by omega, by omega, q _ H2 e2 (by
  rw [List.length_map, List.length_range, Int.toNat_natCast]
  refine walk_range0.mono (fun _ _ => True.intro) fun i Ha x Hb hi e3 hy => ?_
  obtain ⟨rfl, rfl⟩ := hy
  refine ⟨Ex.refl _, .int (i : Int), ?_, .int _⟩
  rw [List.getElem?_map, List.getElem?_range hi]
  rfl)⟩
theorem ei_zip {ta tb : TE} {tx : TA} (ha : EvD K ta σ H (.list ds)) (hb : EvD K tb σ H (.list es)) (hl : ds.length = es.length ∨ True) : EvI K (iZip K (tCons ta (tCons tb tNil))) σ H ((ds.zip es).map fun p => .tuple [p.1, p.2]) := fun H1 e R q => ha H1 e _ fun v H2 e2 hv => hb H2 (e.trans e2) _ fun w H3 e3 hw => by
  obtain ⟨p, xs, rfl, hs, hxs⟩ := dp_lst (dp_same e3 hv)
  obtain ⟨p', ys, rfl, hs', hys⟩ := dp_lst hw
  refine ⟨p, p', xs, ys, rfl, hs, hs', q _ H3 (e2.trans e3) ?_⟩
  rw [List.length_map, List.length_zip, ← hxs.length, ← hys.length]
  refine (walk_zip (xs := xs) (ys := ys) rfl).mono (fun H4 e4 => ⟨ex_l e4 hs, ex_l e4 hs'⟩) fun i Ha x Hb hi e4 hy => ?_
  obtain ⟨T, x1, y1, rfl, nT, rfl, hx, hy⟩ := hy
  obtain ⟨dx, h1, h2⟩ := hxs.at hx
  obtain ⟨dy, h3, h4⟩ := hys.at hy
  refine ⟨Ex.new nT, .tuple [dx, dy], ?_, .tup (.of upd_same) (.cons (dp_same (e4.trans (Ex.new nT)) h2) (.cons (dp_same (e4.trans (Ex.new nT)) h4) .nil))⟩
  rw [List.getElem?_map, show (ds.zip es)[i]? = some (dx, dy) from by rw [List.getElem?_zip_eq_some]; exact ⟨h1, h3⟩]
  rfl
/-! ### comprehensions -/
theorem filter_snoc {α : Type} {xs : List α} {i : Nat} {a : α} (b : α → Bool) (h : xs[i]? = some a) : (xs.take (i + 1)).filter b = (xs.take i).filter b ++ (if b a = true then [a] else []) := by
  rw [take_snoc h, List.filter_append]
  cases hb : b a <;> simp [hb]
theorem en_lc {α : Type} {ti : TI} {g : TG} {vs : List Nat} (xs : List α) (enc : α → PyData) (b : α → Bool) (f : α → PyData) (hi : EvI K ti σ H (xs.map enc)) (hz : xs.length ≤ 40000) (hf : ∀ a ∈ xs, fz (f a) = true)
    (ht : ∀ (i : Nat) (a : α) (H1 : Hp) (x : V), xs[i]? = some a → Ex H H1 → Dp K H1 x (enc a) → ∀ R : L2.St → Hp → Prop, (∀ σ2, wipe σ2 vs = wipe σ vs → EvT t σ2 H1 (b a) → (b a = true → EvD K te σ2 H1 (f a)) → R σ2 H1) → g x (wipe σ vs) H1 R) :
    EvN K (tLc ti g t te vs) σ H ((xs.filter b).map f) := fun H0 e Q q => hi H0 e _ fun J H1 e1 W D nD => by
  refine lc_it W (fun i H' => Ex H1 H' ∧ ∃ vs, H' D = some (.lst vs) ∧ DpAll K H' vs (((xs.take i).filter b).map f)) ⟨Ex.new nD, [], upd_same, .nil⟩ (fun _ _ _ hP => hP.1) (fun i x Ha Hb hi hP hy => ?_) (fun H' hP => ?_)
  · obtain ⟨s1, acc, eD, hacc⟩ := hP
    obtain ⟨s2, d, hd, hx⟩ := hy
    rw [List.getElem?_map] at hd
    cases ha : xs[i]? with
    | none =>
      rw [ha] at hd
      cases hd
    | some a =>
      rw [ha] at hd
      have hd := Option.some.inj hd
      subst hd
      refine ht i a Hb x ha ((e.trans e1).trans (s1.trans s2)) hx _ fun σ2 hw tt he => ⟨hw, tt Hb (Ex.refl Hb) _ fun H3 e3 => ?_⟩
      have hn := filter_snoc b ha
      cases hb : b a with
      | false =>
        rw [hb] at hn
        refine iteF ⟨s1.trans (s2.trans e3), acc, e3 _ _ (s2 _ _ eD), ?_⟩
        rw [hn]
        show DpAll K H3 acc (((xs.take i).filter b ++ []).map f)
        rw [List.append_nil]
        exact dps_same (s2.trans e3) hacc
      | true =>
        rw [hb] at hn
        refine iteT (he hb H3 e3 _ fun y H4 e4 hy => ⟨acc, e4 _ _ (e3 _ _ (s2 _ _ eD)), ?_, ?_, acc ++ [y], upd_same, ?_⟩)
        · have h1 := hacc.length
          have h2 := List.length_filter_le b (xs.take i)
          have h3 := List.length_take_le i xs
          rw [List.length_map] at hi
          rw [List.length_map] at h1
          exact sz_lt (by omega)
        · exact Ex.mut (s1.trans (s2.trans (e3.trans e4))) nD
        · rw [hn]
          show DpAll K _ (acc ++ [y]) (((xs.take i).filter b ++ [a]).map f)
          rw [List.map_append]
          have eD4 := e4 _ _ (e3 _ _ (s2 _ _ eD))
          have ht : ∀ c xs, SqT K H4 c xs → SqT K (upd H4 D (.lst (acc ++ [y]))) c xs := fun c xs h => by
            rcases h with (h | ⟨o, h⟩) | h
            · exact .inl (.inl (by rw [upd_ne (ne_of h eD4 (by intro z; cases z))]; exact h))
            · exact .inl (.inr ⟨o, by rw [upd_ne (ne_of h eD4 (by intro z; cases z))]; exact h⟩)
            · exact .inr h
          have hfa : ∀ a ∈ (xs.take i).filter b, fz (f a) = true := fun a h => hf a (List.mem_of_mem_take (List.mem_filter.mp h).1)
          exact (dps_fz ht _ _ (fz_map hfa) (dps_same (s2.trans (e3.trans e4)) hacc)).app (.one (dp_fz ht _ _ (hf a (List.mem_of_getElem? ha)) hy))
  · obtain ⟨s1, acc, eD, hacc⟩ := hP
    rw [List.length_map, List.take_length] at hacc
    exact q D acc H' (fresh_back e1 nD) (e1.trans s1) eD hacc
end
end Ink
namespace Ink
open PySem PySem.Spec PyProof.Rows L2
/-! ### sorted(xs), the items alike data of any depth -/
def rSortedD (K : PySem.W.Frag) : List V → Hp → VK → Prop := fun vs H Q => ∃ (x : V) (ds : List PyData), vs = [x] ∧ Dp K H x (.list ds) ∧ PySem.W.AllAlike ds ∧ PySem.W.Sortable ds ∧ (∀ d ∈ ds, d.depth ≤ 64) ∧
  ∀ p ws, H p = none → DpAll K H ws (ds.mergeSort (PySem.W.dataLe false id)) → Q (.ref p) (upd H p (.lst ws))
theorem each_pairs {K : PySem.W.Frag} {H : Hp} : ∀ {xs : List V} {its : List Value} {ds : List PyData}, Vals xs its → DpAll K H xs ds → PySem.W.EachIs (fun u (b : V × PyData) => RelV b.1 u ∧ Dp K H b.1 b.2) its (xs.zip ds)
  | _, _, _, .nil, .nil => .nil
  | _, _, _, .cons r rs, .cons h hs => .cons ⟨r, h⟩ (each_pairs rs hs)
theorem pairs_each {K : PySem.W.Frag} {H : Hp} : ∀ {out : List Value} {bs : List (V × PyData)}, PySem.W.EachIs (fun u (b : V × PyData) => RelV b.1 u ∧ Dp K H b.1 b.2) out bs → Vals (bs.map Prod.fst) out ∧ DpAll K H (bs.map Prod.fst) (bs.map Prod.snd)
  | _, _, .nil => ⟨.nil, .nil⟩
  | _, _, .cons ⟨r, h⟩ t => ⟨.cons r (pairs_each t).1, .cons h (pairs_each t).2⟩
theorem each_imp {α β : Type} {R S : α → β → Prop} (h : ∀ a b, R a b → S a b) : ∀ {as : List α} {bs : List β}, PySem.W.EachIs R as bs → PySem.W.EachIs S as bs
  | _, _, .nil => .nil
  | _, _, .cons r t => .cons (h _ _ r) (each_imp h t)
theorem zip_snd {α β : Type} : ∀ {as : List α} {bs : List β}, as.length = bs.length → (as.zip bs).map Prod.snd = bs
  | [], [], _ => rfl
  | _ :: _, _ :: _, h => by
    rw [List.zip_cons_cons, List.map_cons, zip_snd (by simpa using h)]
theorem cr_sortedD {X : Cx} (hu : X.A.units + 100 < cLine) : CallR X (.builtin "sorted") (rSortedD X.K) := by
  intro pins s σ H vs us Q I r h
  obtain ⟨x, ds, rfl, hx, ha, hs, hd, q⟩ := h
  obtain ⟨p, xs, rfl, hl, hds⟩ := dp_lst hx
  obtain ⟨its, rv, pl, hz⟩ := I.list hl
  rw [Vals.ref1 r]
  have hlen := hds.length
  have esnd : (xs.zip ds).map Prod.snd = ds := zip_snd hlen
  have e := each_pairs rv hds
  refine PySem.W.sorted_data (enc := Prod.snd) pl.isList e (each_imp (fun u b ⟨r, h⟩ => Dp.reads I b.2 b.1 u h r) e) (by rw [esnd]; exact ha) (by rw [esnd]; exact hs) (by rw [List.length_zip]; omega) (fun b hb => ?_) fun out ho hout => ?_
  · have : b.2 ∈ ds := by
      rw [← esnd]
      exact List.mem_map_of_mem hb
    have := hd _ this
    omega
  · obtain ⟨v1, d1⟩ := pairs_each hout
    obtain ⟨ep, he'⟩ := PyProof.Rows.sortedAll_at s.heap its out.toArray
    have em : ((xs.zip ds).mergeSort (PySem.W.dataLe false Prod.snd)).map Prod.snd = ds.mergeSort (PySem.W.dataLe false id) := by
      have z := List.map_mergeSort (r := PySem.W.dataLe false (Prod.snd : V × PyData → PyData)) (s := PySem.W.dataLe false id) (f := Prod.snd) (l := xs.zip ds) (fun a _ b _ => rfl)
      rw [z, esnd]
    rw [em] at d1
    have hwl : (((xs.zip ds).mergeSort (PySem.W.dataLe false Prod.snd)).map Prod.fst).length ≤ sizeLine := by
      rw [List.length_map, List.length_mergeSort, List.length_zip]
      omega
    exact ⟨.ref _, upd H (s.heap.objs.size + 1) (.lst _), I.laid (t' := s.toks) (fun _ _ => PyProof.Rows.sortedAll_old) (Nat.le_succ _) ⟨hwl, out, ep, v1, he'⟩, rfl, q _ _ (I.hok.fresh (Nat.le_succ _)) d1⟩
open Evl
theorem en_sorted {K : PySem.W.Frag} {σ : L2.St} {H : Hp} {te : TE} {ds : List PyData} (h : EvD K te σ H (.list ds)) (ha : PySem.W.AllAlike ds) (hs : PySem.W.Sortable ds) (hd : ∀ d ∈ ds, d.depth ≤ 64) : EvN K (tCB (rSortedD K) (tCons te tNil)) σ H (ds.mergeSort (PySem.W.dataLe false id)) := fun H1 e Q q =>
  h H1 e _ fun v H2 e2 hv => ⟨v, ds, rfl, hv, ha, hs, hd, fun p ws np hw => q p ws _ (fresh_back e2 np) (e2.trans (Ex.new np)) upd_same (dps_same (Ex.new np) hw)⟩
end Ink
namespace Ink
open PySem PySem.Spec PyProof.Rows L2
/-! ### dicts whose keys are nested tuples -/
abbrev NK := NestedKey
mutual
theorem nest_of {X : Cx} {pins : List (Addr × Obj)} {σ : L2.St} {H : Hp} {s : Shared} (I : Inv X pins σ H s) : ∀ (k : NK) (v : V) (u : Value), Dp X.K H v k.data → RelV v u → NestedIs s.heap k u
  | .none, _, _, h, r => by
    have h : Dp X.K H _ .none := h
    cases h
    cases r
    exact .none
  | .num i, _, _, h, r => by
    have h : Dp X.K H _ (.int i) := h
    cases h
    obtain ⟨t, rfl⟩ := r
    exact .int i t
  | .text x, _, _, h, r => by
    have h : Dp X.K H _ (.str x) := h
    cases h
    obtain ⟨t, rfl⟩ := r
    exact .text x t
  | .tup ks, v, u, h, r => by
    have h : Dp X.K H v (.tuple (NestedKey.datas ks)) := by
      unfold NestedKey.data at h
      exact h
    cases h with
    | tup hs ha =>
      cases r
      obtain ⟨its, rv, ⟨o, ho, hc, n, hd⟩, _⟩ := I.tuple hs
      exact .tup ho hc hd (nests_of I ks _ its ha rv)
theorem nests_of {X : Cx} {pins : List (Addr × Obj)} {σ : L2.St} {H : Hp} {s : Shared} (I : Inv X pins σ H s) : ∀ (ks : List NK) (vs : List V) (us : List Value), DpAll X.K H vs (NestedKey.datas ks) → Vals vs us → NestedAll s.heap ks us
  | [], _, _, h, r => by
    unfold NestedKey.datas at h
    cases h
    cases r
    exact .nil
  | k :: ks, _, _, h, r => by
    unfold NestedKey.datas at h
    cases h with
    | cons h1 h2 =>
      cases r with
      | cons r1 r2 => exact .cons (nest_of I k _ _ h1 r1) (nests_of I ks _ _ h2 r2)
end
mutual
theorem fz_key : ∀ k : NK, fz k.data = true
  | .none => by unfold NestedKey.data fz; rfl
  | .num _ => by unfold NestedKey.data fz; rfl
  | .text _ => by unfold NestedKey.data fz; rfl
  | .tup ks => by
    unfold NestedKey.data fz
    exact fz_keys ks
theorem fz_keys : ∀ ks : List NK, fzAll (NestedKey.datas ks) = true
  | [] => by unfold NestedKey.datas fzAll; rfl
  | k :: ks => by
    unfold NestedKey.datas fzAll
    rw [fz_key k, fz_keys ks]
    rfl
end
/-- a key as a reading gives it: a tuple, not too deep -/
def KeyAt (K : PySem.W.Frag) (H : Hp) (v : V) (k : NK) : Prop := Dp K H v k.data ∧ k.depth ≤ 8 ∧ ∃ ks, k = .tup ks
def lookN (kvs : List (NK × V)) (k : NK) : Option V := (kvs.find? fun kv => decide (kv.1 = k)).map (·.2)
def putN (kvs : List (NK × V)) (k : NK) (v : V) : List (NK × V) := if (lookN kvs k).isSome then kvs.map (fun kv => if kv.1 = k then (kv.1, v) else kv) else kvs ++ [(k, v)]
/-- what is known of a dict: its rows, and the very object -/
abbrev DX := List (NK × Addr × Value) × Obj
def DicO (P : Program) (w : World) (d : Addr) (x : DX) : HO := .ext fun h => (d == sysModules) = false ∧ ∃ es ep, h.get? d = some x.2 ∧ x.2.ExactDict ∧ x.2.data = .dict es ep ∧ es.toList = x.1.map (entryOfKey (nestedKind P w))
def PairN (p : NK × V) (x : NK × Addr × Value) : Prop := p.1 = x.1 ∧ RelV p.2 x.2.2
/-- at d stands a dict with these keys and values, in the order in which they came -/
def DicAt (P : Program) (w : World) (K : PySem.W.Frag) (H : Hp) (d : Addr) (kvs : List (NK × V)) : Prop :=
  ∃ xs : DX, H d = some (DicO P w d xs) ∧ Paired PairN kvs xs.1 ∧ (∀ x ∈ xs.1, KeyAt K H (.ref x.2.1) x.1) ∧ (xs.1.map (·.1)).Nodup ∧ kvs.length ≤ 100000
theorem dicO_ne {P : Program} {w : World} {d : Addr} {xs : DX} : (∀ ys, DicO P w d xs ≠ .lst ys) ∧ (∀ ys, DicO P w d xs ≠ .tup ys) := ⟨fun ys z => (by unfold DicO at z; cases z), fun ys z => (by unfold DicO at z; cases z)⟩
section
variable {P : Program} {w : World} {K : PySem.W.Frag} {H H' : Hp} {d : Addr} {kvs : List (NK × V)} {v : V} {k : NK}
theorem KeyAt.up (ht : ∀ b xs, SqT K H b xs → SqT K H' b xs) (h : KeyAt K H v k) : KeyAt K H' v k := ⟨dp_fz ht _ _ (fz_key k) h.1, h.2⟩
theorem DicAt.up (hd : H' d = H d) (ht : ∀ b xs, SqT K H b xs → SqT K H' b xs) (h : DicAt P w K H d kvs) : DicAt P w K H' d kvs := by
  obtain ⟨xs, e, p, hk, r⟩ := h
  exact ⟨xs, hd.trans e, p, fun x hx => (hk x hx).up ht, r⟩
theorem DicAt.same (e : Evl.Ex H H') (h : DicAt P w K H d kvs) : DicAt P w K H' d kvs := by
  obtain ⟨xs, ed, p, hk, r⟩ := h
  exact ⟨xs, e _ _ ed, p, fun x hx => (hk x hx).up fun _ _ => Evl.ex_t e, r⟩
theorem DicAt.keep {a l : Addr} (b : BagAt H a l) (k : Keep a H H') (h : DicAt P w K H d kvs) : DicAt P w K H' d kvs := by
  obtain ⟨xs, ed, p, hk, r⟩ := h
  refine ⟨xs, k d _ (fun z => ?_) ed, p, fun x hx => (hk x hx).up (keep_t b k), r⟩
  obtain ⟨ns, _, _, _, h1, _⟩ := b
  rw [z, h1] at ed
  exact dicO_ne.1 _ (Option.some.inj ed).symm
theorem DicAt.free (h : DicAt P w K H d kvs) : ∃ o, H d = some o := by
  obtain ⟨xs, e, _⟩ := h
  exact ⟨_, e⟩
theorem paired_look : ∀ {kvs : List (NK × V)} {xs : List (NK × Addr × Value)} (k : NK), Paired PairN kvs xs → RelO (lookN kvs k) ((atKey xs k).map (·.2))
  | _, _, k, .nil => by
    unfold lookN atKey
    exact True.intro
  | _, _, k, .cons (a := p) (b := x) r t => by
    have ih := paired_look k t
    unfold lookN atKey at ih ⊢
    rw [List.find?_cons, List.find?_cons, r.1]
    cases decide (x.1 = k) with
    | true => exact r.2
    | false => exact ih
theorem relO_isSome {x : Option V} {y : Option Value} (r : RelO x y) : y.isSome = x.isSome := by
  cases x <;> cases y <;> first | rfl | exact r.elim
theorem paired_put {kvs : List (NK × V)} {xs : List (NK × Addr × Value)} (k : NK) (a : Addr) {v : V} {u : Value} (r : RelV v u) (p : Paired PairN kvs xs) : Paired PairN (putN kvs k v) (storedH xs k a u) := by
  have e := relO_isSome (paired_look k p)
  rw [Option.isSome_map] at e
  unfold putN storedH
  rw [e]
  cases (lookN kvs k).isSome with
  | false => exact Paired.snoc p ⟨rfl, r⟩
  | true =>
    show Paired PairN (kvs.map fun kv => if kv.1 = k then (kv.1, v) else kv) (xs.map (putAt k u))
    clear e
    induction p with
    | nil => exact .nil
    | @cons p x kvs xs q t ih =>
      rw [List.map_cons, List.map_cons]
      refine .cons ?_ ih
      unfold putAt
      by_cases h : p.1 = k
      · rw [if_pos h, if_pos (q.1.symm.trans h)]
        exact ⟨q.1, r⟩
      · rw [if_neg h, if_neg (fun z => h (q.1.trans z))]
        exact q
theorem putN_len {kvs : List (NK × V)} {k : NK} {v : V} : (putN kvs k v).length ≤ kvs.length + 1 := by
  unfold putN
  split
  · rw [List.length_map]
    omega
  · rw [List.length_append]
    exact Nat.le_refl _
end
section
variable {X : Cx} {pins : List (Addr × Obj)} {σ : L2.St} {H : Hp} {s : Shared} {d : Addr} {kvs : List (NK × V)}
theorem DicAt.raw (I : Inv X pins σ H s) (h : DicAt X.prog X.w X.K H d kvs) : ∃ xs o, s.heap.DictOfH (nestedKind X.prog X.w) d xs ∧ (d == sysModules) = false ∧ H d = some (DicO X.prog X.w d (xs, o)) ∧ Paired PairN kvs xs ∧ (∀ x ∈ xs, KeyAt X.K H (.ref x.2.1) x.1) := by
  obtain ⟨⟨xs, o⟩, e, p, hk, nd, hz⟩ := h
  obtain ⟨⟨hs, es, ep, h1, h2, h3, h4⟩, _, _⟩ : ObjOk X.prog X.w H s.heap d (.ext fun h => (d == sysModules) = false ∧ ∃ es ep, h.get? d = some o ∧ o.ExactDict ∧ o.data = .dict es ep ∧ es.toList = xs.map (entryOfKey (nestedKind X.prog X.w))) := I.hok d _ e
  exact ⟨xs, o, ⟨o, es, ep, h1, h2, h3, h4, fun x hx => ⟨nest_of I _ _ _ (hk x hx).1 rfl, (hk x hx).2.1⟩, nd⟩, hs, e, p, hk⟩
/-- the object that stands at d -/
theorem dic_obj (I : Inv X pins σ H s) {x : DX} (e : H d = some (DicO X.prog X.w d x)) : (d == sysModules) = false ∧ ∃ es ep, s.heap.get? d = some x.2 ∧ x.2.ExactDict ∧ x.2.data = .dict es ep ∧ es.toList = x.1.map (entryOfKey (nestedKind X.prog X.w)) := by
  obtain ⟨q, _, _⟩ : ObjOk X.prog X.w H s.heap d (.ext fun h => (d == sysModules) = false ∧ ∃ es ep, h.get? d = some x.2 ∧ x.2.ExactDict ∧ x.2.data = .dict es ep ∧ es.toList = x.1.map (entryOfKey (nestedKind X.prog X.w))) := I.hok d _ e
  exact q
theorem key_is (I : Inv X pins σ H s) {v : V} {u : Value} {k : NK} (h : KeyAt X.K H v k) (r : RelV v u) : ∃ a, u = .ref a ∧ v = .ref a ∧ (nestedKind X.prog X.w).is s.heap k a := by
  obtain ⟨h1, h2, ks, rfl⟩ := h
  have n := nest_of I _ _ _ h1 r
  cases n with
  | @tup a o vs n ks e1 e2 e3 e4 =>
    refine ⟨a, rfl, ?_, .tup e1 e2 e3 e4, h2⟩
    cases v <;> first | (cases r; done) | skip
    all_goals first | (cases r; rfl) | (obtain ⟨_, z⟩ := r; cases z)
/-- x in d, x not in d -/
def rInN (P : Program) (w : World) (K : PySem.W.Frag) (neg : Bool) : R2 := fun x y H Q => ∃ (k : NK) (d : Addr) (kvs : List (NK × V)), y = .ref d ∧ KeyAt K H x k ∧ DicAt P w K H d kvs ∧ Q (.bl (if neg then !(lookN kvs k).isSome else (lookN kvs k).isSome)) H
theorem at_look {xs : List (NK × Addr × Value)} {k : NK} (p : Paired PairN kvs xs) : (valueAt (pairsH xs) k).isSome = (lookN kvs k).isSome := by
  rw [valueAt_pairsH]
  exact relO_isSome (paired_look k p)
theorem op_inN (hu : X.A.units + 100 < cLine) : OpR X (compareOp .In) (rInN X.prog X.w X.K false) := by
  intro pins s σ H x y v u Q I rx ry h
  obtain ⟨k, d, kvs, rfl, hk, hd, q⟩ := h
  cases ry
  obtain ⟨a, rfl, _, ha⟩ := key_is I hk rx
  obtain ⟨xs, ob, hm, hs, e, p, _⟩ := hd.raw I
  refine in_keyed (knd := nestedKind X.prog X.w) (show X.A.units + 1 + 8 < cLine by omega) ha hs ⟨xs, hm, rfl⟩ ?_
  rw [at_look p]
  exact ⟨.bl _, H, I.tok _, rfl, q⟩
theorem op_notinN (hu : X.A.units + 100 < cLine) : OpR X (compareOp .NotIn) (rInN X.prog X.w X.K true) := by
  intro pins s σ H x y v u Q I rx ry h
  obtain ⟨k, d, kvs, rfl, hk, hd, q⟩ := h
  cases ry
  obtain ⟨a, rfl, _, ha⟩ := key_is I hk rx
  obtain ⟨xs, ob, hm, hs, e, p, _⟩ := hd.raw I
  refine notIn_keyed (knd := nestedKind X.prog X.w) (show X.A.units + 1 + 8 < cLine by omega) ha hs ⟨xs, hm, rfl⟩ ?_
  rw [at_look p]
  exact ⟨.bl _, H, I.tok _, rfl, q⟩
/-- d[k], k there -/
def tDGetN (P : Program) (w : World) (K : PySem.W.Frag) (td ty : TE) : TE := fun σ H Q => td σ H fun x H1 => ty σ H1 fun y H2 => ∃ (d : Addr) (kvs : List (NK × V)) (k : NK) (v : V), x = .ref d ∧ DicAt P w K H2 d kvs ∧ KeyAt K H2 y k ∧ lookN kvs k = some v ∧ Q v H2
theorem pe_dgetN {o i : Expr} {td ty : TE} {pos : Pos} (hu : X.A.units + 100 < cLine) (ho : PE X o td) (hi : PE X i ty) (hs : NoSl i) : PE X (.Subscript o i pos) (tDGetN X.prog X.w X.K td ty) := by
  refine ⟨fun pins s σ H Q I h => ?_⟩
  refine subD_of PySem.F.slot_dict_getitem.lookup hs (thn (ho.run pins s σ H _ I h) fun u s1 ⟨x, H1, I1, rx, q1⟩ => thn (hi.run pins s1 σ H1 _ I1 q1) fun iv s2 ⟨y, H2, I2, ry, d, kvs, k, v, ex, hd, hk, hl, q2⟩ => ?_)
  subst ex
  obtain rfl : u = Value.ref d := rx
  obtain ⟨a, rfl, _, ha⟩ := key_is I2 hk ry
  obtain ⟨xs, ob, hm, hs', e, p, _⟩ := hd.raw I2
  have r := paired_look k p
  rw [hl] at r
  cases hv : (atKey xs k).map (·.2) with
  | none =>
    rw [hv] at r
    exact r.elim
  | some z =>
    rw [hv] at r
    exact ⟨hm.typeIs, getItem_keyed (knd := nestedKind X.prog X.w) (show X.A.units + 1 + 8 < cLine by omega) ha ⟨xs, hm, rfl⟩ (by rw [valueAt_pairsH]; exact hv) ⟨v, H2, I2.tok _, r, q2⟩⟩
/-- d[k] = v -/
def rSetN (P : Program) (w : World) (K : PySem.W.Frag) : TSet := fun o i v H Q => ∃ (d : Addr) (kvs : List (NK × V)) (k : NK), o = .ref d ∧ DicAt P w K H d kvs ∧ KeyAt K H i k ∧ kvs.length < 100000 ∧
  ∀ H', DicAt P w K H' d (putN kvs k v) → (∀ b, b ≠ d → H' b = H b) → Q H'
theorem set_dicN (hu : X.A.units + 100 < cLine) : PSet X (rSetN X.prog X.w X.K) := by
  intro pins s σ H o i v ov iv u Q I ro ri rv h
  obtain ⟨d, kvs, k, rfl, hd, hk, hz, q⟩ := h
  cases ro
  obtain ⟨a, rfl, ea, ha⟩ := key_is I hk ri
  obtain ⟨xs, ob, hm, hs, e, p, hks⟩ := hd.raw I
  have hl : xs.length = kvs.length := (Paired.length p).symm
  refine wpAny_setItem_heap (knd := nestedKind X.prog X.w) (hsz := by rw [hl]; exact Evl.sz_of (by omega)) (show X.A.units + 1 + 8 < cLine by omega) ha hm fun h' hm' sb => ?_
  obtain ⟨o', es, ep, h1, h2, h3, h4, h5, h6⟩ := hm'
  have ok : ObjOk X.prog X.w (upd H d (DicO X.prog X.w d (storedH xs k a u, o'))) h' d (DicO X.prog X.w d (storedH xs k a u, o')) := ⟨⟨hs, es, ep, h1, h2, h3, h4⟩, ⟨o', h1⟩, fun g1 g2 ⟨z, es, ep, e1, r⟩ st => ⟨z, es, ep, st _ e1, r⟩⟩
  have I' := I.write (e := d) (t' := s.toks + (nestedKind X.prog X.w).draws k) (by rw [e]; trivial) (.inl rfl) (fun b w hb hw => (sb.2 b hb).trans hw) ⟨o', h1⟩ ok
  have ht : ∀ b xs', SqT X.K H b xs' → SqT X.K (upd H d (DicO X.prog X.w d (storedH xs k a u, o'))) b xs' := fun b xs' hb => by
    rcases hb with (hb | ⟨oo, hb⟩) | hb
    · exact .inl (.inl (by rw [upd_ne (ne_of hb e (fun z => dicO_ne.2 _ z.symm))]; exact hb))
    · exact .inl (.inr ⟨oo, by rw [upd_ne (ne_of hb e (fun z => by unfold DicO at z; cases z))]; exact hb⟩)
    · exact .inr hb
  refine ⟨_, I', q _ ⟨(_, _), upd_same, paired_put k a rv p, fun x hx => ?_, h6, Nat.le_trans putN_len (by omega)⟩ fun b hb => upd_ne hb⟩
  unfold storedH at hx
  split at hx
  · obtain ⟨y, hy, rfl⟩ := List.mem_map.mp hx
    unfold putAt
    split
    · exact (hks y hy).up ht
    · exact (hks y hy).up ht
  · rcases List.mem_append.mp hx with hx | hx
    · exact (hks x hx).up ht
    · rw [List.mem_singleton] at hx
      subst hx
      rw [← ea]
      exact hk.up ht
/-- {} -/
def tDNewN (P : Program) (w : World) (K : PySem.W.Frag) : TE := fun _ H Q => ∀ p H', H p = none → (∀ b, b ≠ p → H' b = H b) → DicAt P w K H' p [] → Q (.ref p) H'
theorem pe_dnewN {pos : Pos} : PE X (.Dict [] [] pos) (tDNewN X.prog X.w X.K) := ⟨fun pins s σ H Q I h => by
  have hs : (s.heap.objs.size == sysModules) = false := beq_eq_false_iff_ne.mpr (Ne.symm (Nat.ne_of_lt I.big))
  have ok : ObjOk X.prog X.w (upd H s.heap.objs.size (DicO X.prog X.w s.heap.objs.size ([], { cls := .type "dict", data := .dict #[] }))) (s.heap.push { cls := .type "dict", data := .dict #[] }) s.heap.objs.size (DicO X.prog X.w s.heap.objs.size ([], { cls := .type "dict", data := .dict #[] })) :=
    ⟨⟨hs, #[], 0, Heap.get?_push_size _ rfl, ⟨rfl, rfl, rfl⟩, rfl, rfl⟩, ⟨_, Heap.get?_push_size _ rfl⟩, fun g1 g2 ⟨z, es, ep, e1, r⟩ st => ⟨z, es, ep, st _ e1, r⟩⟩
  exact wpAny_Dict_empty ⟨.ref s.heap.objs.size, _, I.laid (a := s.heap.objs.size) (t' := s.toks) (fun _ _ q => Heap.get?_push_of_some _ q) (Nat.le_refl _) ok, rfl,
    h _ _ (I.hok.fresh (Nat.le_refl _)) (fun b hb => upd_ne hb) ⟨([], _), upd_same, .nil, fun x hx => (by cases hx), List.nodup_nil, Nat.zero_le _⟩⟩⟩
end
end Ink
namespace Ink
open PySem PySem.Spec PyProof.Rows L2
/-! ### enumerate(t), t a tuple -/
set_option maxHeartbeats 8000000 in
theorem enum_one {v : Value} {o : Obj} {G : Heap → Prop} (B : Begins v o G) : Meets (Builtin.«enumerate.__new__» ⟨[.type "enumerate", v], []⟩) (fun _ R s => G s.heap ∧
    R (.ok (.ret (.ref (s.heap.push o).objs.size))) { s with heap := (s.heap.push o).push { cls := .type "enumerate", data := .fields #[.none, .bool false, .ref s.heap.objs.size, rawInt 0, .none, .none] } }) :=
  .of_wp fun prog w A R s hw => by
    obtain ⟨hp, gs, dr, tk, os⟩ := s
    obtain ⟨hG, hR⟩ := hw
    have hsub := sub_enumerate
    have it : ∀ {A' : Around} {E : Value → Shared → Prop} {Q : Value → Shared → Prop}, Q (.ref hp.objs.size) ⟨hp.push o, gs, dr, tk, os⟩ → wpAny (model prog w) A' (pyIter v) Q E ⟨hp, gs, dr, tk, os⟩ := fun q => B.iter prog w _ _ ⟨hp, gs, dr, tk, os⟩ _ hG q
    wp_walk using it
    refine wpAny_stack_any fun st => wpAny_pure ?_
    split
    · rename_i c _ _ _ _ _
      cases (c == Value.type "enumerate") <;> (wp_walk using it; exact ⟨_, rfl, hR⟩)
    · wp_walk using it
      exact ⟨_, rfl, hR⟩
section
variable {prog : Program} {w : World} {A : Around} {E : Value → Shared → Prop} {s : Shared}
theorem enum_call {v : Value} {o : Obj} {G : Heap → Prop} {Q : Value → Shared → Prop} (B : Begins v o G) (hG : G s.heap)
    (h : ∀ h', IsEnum h' (s.heap.objs.size + 1) s.heap.objs.size 0 .none → h'.get? s.heap.objs.size = some o → (∀ b u, s.heap.get? b = some u → h'.get? b = some u) → Q (.ref (s.heap.objs.size + 1)) { s with heap := h' }) :
    wpAny (model prog w) A (call (.type "enumerate") [v]) Q E s := by
  refine callType_new F.called_enumerate (by decide) (F.typeCall_enumerate_1 _) (F.newCall_enumerate_1 _) (fun obj => F.args_object_init_2 obj _) F.entry_enumerate_new (enum_one B) ⟨hG, ?_⟩
  have hz : (s.heap.push o).objs.size = s.heap.objs.size + 1 := Heap.size_push ..
  show _ ∧ _
  rw [hz]
  have he := Heap.get?_push_size (s.heap.push o) (o := { cls := .type "enumerate", data := .fields #[.none, .bool false, .ref s.heap.objs.size, rawInt 0, .none, .none] }) rfl
  rw [hz] at he
  exact ⟨⟨_, he, rfl⟩, h _ he (Heap.get?_push_of_some _ (Heap.get?_push_size _ B.free)) fun b u x => Heap.get?_push_of_some _ (Heap.get?_push_of_some _ x)⟩
end
/-- the tuple at a, each item in a new pair with its place -/
def IteT (K : PySem.W.Frag) (a : Addr) : It :=
  ⟨fun i H => ∃ (xs : List V) (x : V), SqT K H a xs ∧ xs[i]? = some x, fun i H v H' => ∃ T x, v = .ref T ∧ H T = none ∧ H' = upd H T (.tup [.int (i : Nat), x]) ∧ ∀ xs, SqT K H a xs → xs[i]? = some x, fun i H => ∃ xs : List V, SqT K H a xs ∧ xs.length = i⟩
theorem walk_enumT {K : PySem.W.Frag} {a : Addr} {xs : List V} : Walk (IteT K a) xs.length (fun H => SqT K H a xs) (YPair (fun i => some (.int (i : Nat))) (fun i => xs[i]?)) := by
  refine ⟨fun i _ hi q => ⟨xs, xs[i], q, List.getElem?_eq_getElem hi⟩, fun _ q => ⟨xs, q, rfl⟩, fun i H v H' _ q y => ?_⟩
  obtain ⟨T, x, h1, h2, h3, h4⟩ := y
  exact ⟨T, _, x, h1, h2, h3, rfl, h4 xs q⟩
theorem turn_enumT {P : Program} {w : World} {K : PySem.W.Frag} {elts : List Expr} {kk : Nat} {tpos : Pos} (a e it : Addr) (nit : a ≠ it) (nea : e ≠ a) (nei : e ≠ it) :
    Turn P w K (.Tuple elts kk tpos) (IteT K a) [e, it] e (fun i h => (∃ old, IsEnum h e it ((i : Nat) : Int) old) ∧ h.IsTupleIter it a i) where
  mem := List.mem_cons_self ..
  obj i h st b hb := by
    obtain ⟨⟨old, he⟩, o, ho, hc, hd⟩ := st
    rcases List.mem_cons.mp hb with z | z
    · rw [z]
      exact ⟨_, he, fun v q => nomatch q⟩
    · rw [List.mem_singleton.mp z]
      exact ⟨o, ho, fun v q => by rw [hd] at q; cases q⟩
  keep i h h' st k := by
    obtain ⟨⟨old, he⟩, hi⟩ := st
    exact ⟨⟨old, k e (List.mem_cons_self ..) _ he⟩, hi.at fun o q => k it (List.mem_cons_of_mem _ (List.mem_cons_self ..)) o q⟩
  item := by
    intro X hP hw hK hc i pins s σ H E I hf st hg
    subst hP hw hK
    obtain ⟨⟨old, he⟩, hit⟩ := st
    obtain ⟨ys, x, hq, hx⟩ := hg
    obtain ⟨its, ry, tp, hz⟩ := I.tuple hq
    obtain ⟨u, hu, ru⟩ := ry.get hx
    have hui : its.toArray[i]? = some u := by rw [List.getElem?_toArray]; exact hu
    have hlt : i < its.toArray.size := (Array.getElem?_eq_some_iff.mp hui).1
    have hel : e < s.heap.objs.size := Heap.lt_size he
    have hil : it < s.heap.objs.size := by
      obtain ⟨_, q, _⟩ := hit
      exact Heap.lt_size q
    have hD := Draws.tuple (prog := X.prog) (w := X.w) (A := X.A.in1) (I.ok.hd hc) it a nit its.toArray
    refine wpAny_pyNext_enum_itemD hD he ⟨hit, tp⟩ hlt nei (fun m => by
      rcases List.mem_cons.mp m with z | z
      · exact nei z
      · exact nea (List.mem_singleton.mp z)) fun u' h' tk hP ho hst hT hsz hk => ?_
    have hP : its.toArray[i]? = some u' := hP
    rw [hui] at hP
    cases hP
    refine ⟨_, rfl, wpAny_letOwnedTupleGo_enum (s := { s with heap := h', toks := tk + 1 }) ho fun h2 he2 sb => ?_⟩
    have hT2 : h2.get? s.heap.objs.size = some { cls := .type "tuple", data := .seq #[.int i tk, u] } := (sb.2 _ (Nat.ne_of_gt hel)).trans hT
    have new : ObjOk X.prog X.w (upd H s.heap.objs.size (.tup [.int (i : Nat), x])) h2 s.heap.objs.size (.tup [.int (i : Nat), x]) :=
      ⟨by show 2 ≤ sizeLine; decide, [.int i tk, u], .cons ⟨_, rfl⟩ (.cons ru .nil), ⟨_, hT2, rfl, _, rfl⟩⟩
    have I1 : Inv X pins σ (upd H s.heap.objs.size (.tup [.int (i : Nat), x])) { s with heap := h2, toks := tk + 1 } :=
      I.turnedNew (ch := [e, it]) (fun b ob hb q => (sb.2 b (fun z => hb (by simp [z]))).trans (hk b ob (fun z => hb (by simp [z])) (fun z => hb (by simp [z])) q)) hf (Nat.le_refl _) new
    refine ⟨.ref s.heap.objs.size, _, I1, rfl, ⟨_, x, rfl, I.hok.fresh (Nat.le_refl _), rfl, fun zs hy => by rw [I.tuple_inj hy hq]; exact hx⟩, ⟨⟨u, ?_⟩, hst.1.at fun o q => (sb.2 it (Ne.symm nei)).trans q⟩, fun b hb => ?_⟩
    · rw [show ((i + 1 : Nat) : Int) = (i : Int) + 1 by omega]
      exact he2
    · have hb' : b < s.heap.objs.size := by
        rcases List.mem_cons.mp hb with z | z
        · rw [z]
          exact hel
        · rw [List.mem_singleton.mp z]
          exact hil
      rw [upd_ne (Nat.ne_of_lt hb')]
      exact (hf b hb).1
  done := by
    intro X hP hw hK hc i pins s σ H E I hf st hg
    subst hP hw hK
    obtain ⟨⟨old, he⟩, hit⟩ := st
    obtain ⟨ys, hq, hx⟩ := hg
    obtain ⟨its, ry, tp, hz⟩ := I.tuple hq
    obtain ⟨f0, f1, f2, f3, f4, f5⟩ := hf it (List.mem_cons_of_mem _ (List.mem_cons_self ..))
    have hn : its.toArray.size = i := by
      rw [List.size_toArray, ← ry.length]
      exact hx
    have hD := Draws.tuple (prog := X.prog) (w := X.w) (A := X.A.in1) (I.ok.hd hc) it a nit its.toArray
    exact wpAny_pyNext_enum_endD hD he ⟨by rw [hn]; exact hit, tp⟩ fun h' eb => ⟨rfl, I.turned (t' := s.toks) (fun b o hb q => eb b o hb q) f0 f1 f3 f4 f5⟩
  self A i s Q E st h := by
    obtain ⟨⟨_, he⟩, _⟩ := st
    exact wpAny_pyIter_enum he h
def iEnumT (K : PySem.W.Frag) (ta : TA) : TI := fun σ H R => ta σ H fun vs H1 => ∃ a xs, vs = [.ref a] ∧ SqT K H1 a xs ∧ R (IteT K a) H1
theorem pi_enumT {X : Cx} {e : Expr} {ta : TA} {p pos tpos : Pos} {elts : List Expr} {kk : Nat} (hg : Gl X "enumerate") (hm : X.mg "enumerate" = none) (ha : PA X [e] ta) (hs : starEach [e] X.env = [(false, eval e X.env)] := by rfl) :
    PI X (.Tuple elts kk tpos) (.Call (.Name "enumerate" p) [e] [] pos) (iEnumT X.K ta) := by
  refine ⟨fun pins s σ H R I h => ?_⟩
  refine Call_ (ld_blt I hg hm boot_enumerate (PyProof.Rows.callWith_type1 (thn (ha.run pos pins s σ H _ I h) fun us s1 ⟨vs, H1, I1, r1, a, xs, ev, hq, q⟩ => ?_) hs rfl))
  subst ev
  rw [Vals.ref1 r1]
  obtain ⟨its, ry, tp, hz⟩ := I1.tuple hq
  have hal : a < s1.heap.objs.size := by
    obtain ⟨o, ho, _⟩ := tp
    exact Heap.lt_size ho
  refine enum_call (begins_tuple a its.toArray) tp fun h' he hit hk => wpAny_pyIter_enum he ?_
  have I2 : Inv X pins σ H1 { s1 with heap := h' } := I1.kept (t' := s1.toks) hk
  refine ⟨s1.heap.objs.size + 1, [s1.heap.objs.size + 1, s1.heap.objs.size], _, _, H1, rfl, I2, turn_enumT a (s1.heap.objs.size + 1) s1.heap.objs.size (Nat.ne_of_lt hal) (Nat.ne_of_gt (Nat.lt_succ_of_lt hal)) (Nat.succ_ne_self _), ⟨⟨.none, he⟩, ⟨_, hit, rfl, rfl⟩⟩, fun b hb => ?_, q⟩
  have hle : s1.heap.objs.size ≤ b := by
    rcases List.mem_cons.mp hb with z | z
    · rw [z]
      exact Nat.le_succ _
    · rw [List.mem_singleton.mp z]
      exact Nat.le_refl _
  exact I1.fpOk hle (I1.hok.fresh hle)
open Evl
/-- the pairs (place, thing) -/
def enumD (ds : List PyData) : List PyData := (List.range ds.length).map fun (i : Nat) => PyData.tuple [.int (i : Int), ds.getD i .none]
theorem enumD_get {ds : List PyData} {i : Nat} {d : PyData} (h : ds[i]? = some d) : (enumD ds)[i]? = some (.tuple [.int (i : Int), d]) := by
  unfold enumD
  rw [List.getElem?_map, List.getElem?_range (List.getElem?_eq_some_iff.mp h).1]
  show some (PyData.tuple [.int (i : Int), ds.getD i .none]) = _
  rw [List.getD_eq_getElem?_getD, h]
  rfl
theorem ei_enumT {K : PySem.W.Frag} {σ : L2.St} {H : Hp} {te : TE} {ds : List PyData} (h : EvD K te σ H (.tuple ds)) : EvI K (iEnumT K (tCons te tNil)) σ H (enumD ds) := fun H1 e R q => h H1 e _ fun v H2 e2 hd => by
  obtain ⟨p, xs, rfl, hs, hxs⟩ := dp_tup hd
  refine ⟨p, xs, rfl, hs, q _ H2 e2 ?_⟩
  have hl : (enumD ds).length = xs.length := by
    unfold enumD
    rw [List.length_map, List.length_range, hxs.length]
  rw [hl]
  refine (walk_enumT (xs := xs)).mono (fun H3 e3 => ex_t e3 hs) fun i Ha x Hb hi e3 hy => ?_
  obtain ⟨T, x1, y1, rfl, nT, rfl, hx, hy⟩ := hy
  cases hx
  obtain ⟨dy, h3, h4⟩ := hxs.at hy
  exact ⟨Ex.new nT, _, enumD_get h3, .tup (.of upd_same) (.cons (.int _) (.cons (dp_same (e3.trans (Ex.new nT)) h4) .nil))⟩
theorem ei_enum {K : PySem.W.Frag} {σ : L2.St} {H : Hp} {te : TE} {ds : List PyData} (h : EvD K te σ H (.list ds)) : EvI K (iEnum K (tCons te tNil)) σ H (enumD ds) := fun H1 e R q => h H1 e _ fun v H2 e2 hd => by
  obtain ⟨p, xs, rfl, hs, hxs⟩ := dp_lst hd
  refine ⟨p, xs, rfl, hs, q _ H2 e2 ?_⟩
  have hl : (enumD ds).length = xs.length := by
    unfold enumD
    rw [List.length_map, List.length_range, hxs.length]
  rw [hl]
  refine (walk_enum (xs := xs)).mono (fun H3 e3 => ex_l e3 hs) fun i Ha x Hb hi e3 hy => ?_
  obtain ⟨T, x1, y1, rfl, nT, rfl, hx, hy⟩ := hy
  cases hx
  obtain ⟨dy, h3, h4⟩ := hxs.at hy
  exact ⟨Ex.new nT, _, enumD_get h3, .tup (.of upd_same) (.cons (.int _) (.cons (dp_same (e3.trans (Ex.new nT)) h4) .nil))⟩
end Ink
namespace Ink
open PySem PySem.Spec PyProof.Rows L2
/-! ### t * k, k any number of times from none on -/
theorem mul_once (l : Addr) (items : Array Value) (n : Nat) (dd : Option Addr) (sl : Array (Option Value)) (u : Tok) :
    Meets (Builtin.«tuple.__mul__» ⟨[.ref l, .int 1 u], []⟩) (fun _ R s => s.heap.get? l = some { cls := .type "tuple", dict := dd, data := .seq items n, slots := sl } ∧ R (.ok (.ret (Value.ref l))) s) :=
  .of_wp fun prog w A R s h => by
    obtain ⟨hp, g, d, tk, os⟩ := s
    obtain ⟨hl, h⟩ := h
    have f1 := AutoSeq1.idx_int
    wp_walk using AutoSeq1.wpAny_loadPart' hl
    repeat (first
      | (refine wpAny_ite_false (by decide) ?_; wp_walk using AutoSeq1.wpAny_loadPart' hl)
      | (refine wpAny_ite_true (by simp) ?_; wp_walk using AutoSeq1.wpAny_loadPart' hl))
    exact ⟨_, rfl, h⟩
theorem mul_none (l : Addr) (items : Array Value) (n : Nat) (dd : Option Addr) (sl : Array (Option Value)) (u : Tok) (hi : items.isEmpty = false) :
    Meets (Builtin.«tuple.__mul__» ⟨[.ref l, .int 0 u], []⟩) (fun _ R s => s.heap.get? l = some { cls := .type "tuple", dict := dd, data := .seq items n, slots := sl } ∧
      R (.ok (.ret (Value.ref s.heap.objs.size))) { s with heap := s.heap.push { cls := .type "tuple", data := .seq #[] } }) :=
  .of_wp fun prog w A R s h => by
    obtain ⟨hp, g, d, tk, os⟩ := s
    obtain ⟨hl, h⟩ := h
    have f1 := AutoSeq1.idx_int
    wp_walk using AutoSeq1.wpAny_loadPart' hl
    repeat (first
      | (refine wpAny_ite_false (by decide) ?_; wp_walk using AutoSeq1.wpAny_loadPart' hl)
      | (refine wpAny_ite_false (by rw [hi]; decide) ?_; wp_walk using AutoSeq1.wpAny_loadPart' hl)
      | (refine wpAny_ite_true (by decide) ?_; wp_walk using AutoSeq1.wpAny_loadPart' hl))
    exact ⟨_, rfl, h⟩
/-- (x,) * n -/
def rRep (K : PySem.W.Frag) : R2 := fun x y H Q => ∃ (l : Addr) (v : V) (n : Nat), x = .ref l ∧ y = .int (n : Int) ∧ SqT K H l [v] ∧ n ≤ 1000 ∧ (n = 1 → Q (.ref l) H) ∧ (n ≠ 1 → ∀ p, H p = none → Q (.ref p) (upd H p (.tup (List.replicate n v))))
theorem op_rep {X : Cx} : OpR X (binaryOp .Mult) (rRep X.K) := by
  intro pins s σ H x y v u Q I rx ry h
  obtain ⟨l, v0, n, rfl, rfl, hT, hn, q1, q2⟩ := h
  by_cases h2 : 2 ≤ n
  · refine op_repT pins s σ H _ _ v u Q I rx ry ⟨l, (n : Int), [v0], rfl, rfl, hT, by simp, by omega, by omega, by show 1 ≤ 1000; decide, fun p np => ?_⟩
    have e : (List.replicate (n : Int).toNat [v0]).flatten = List.replicate n v0 := by
      rw [Int.toNat_natCast]
      clear q1 q2 h2 hn ry
      induction n with
      | zero => rfl
      | succ n ih => rw [List.replicate_succ, List.flatten_cons, ih]; rfl
    rw [e]
    exact q2 (by omega) p np
  · cases rx
    obtain ⟨t, rfl⟩ := ry
    obtain ⟨its, r, ⟨⟨cls, dd, data, sl⟩, ho, hc, m, hd⟩, hs⟩ := I.tuple hT
    simp only at hc hd
    subst hc hd
    have hi : its.toArray.isEmpty = false := by
      cases r with
      | cons _ _ => rfl
    by_cases h1 : n = 1
    · subst h1
      exact wpAny_binaryOp_repeat_ref (T := "tuple") (U := "int") (by decide) ⟨_, ho, rfl⟩ (fun s' => typeIs_int s' _ t) noFill_tuple_mul F.fills_int_mul F.slot_int_rmul repeat_tuple F.slot_int_index.lookup
        (call_meets F.slot_int_rmul (typeIs_int s _ t) F.entry_int_rmul (F.args_int_rmul_2 _ _) (int_rmul_tuple _ t l its.toArray m dd sl)
          ⟨ho, rfl, ⟨_, ho, rfl⟩, call_meets F.slot_tuple_mul ⟨_, ho, rfl⟩ F.entry_tuple_mul (F.args_tuple_mul_2 _ _) (mul_once l its.toArray m dd sl t) ⟨ho, .ref l, H, I, rfl, q1 rfl⟩⟩)
    · obtain rfl : n = 0 := by omega
      exact wpAny_binaryOp_repeat_ref (T := "tuple") (U := "int") (by decide) ⟨_, ho, rfl⟩ (fun s' => typeIs_int s' _ t) noFill_tuple_mul F.fills_int_mul F.slot_int_rmul repeat_tuple F.slot_int_index.lookup
        (call_meets F.slot_int_rmul (typeIs_int s _ t) F.entry_int_rmul (F.args_int_rmul_2 _ _) (int_rmul_tuple _ t l its.toArray m dd sl)
          ⟨ho, rfl, ⟨_, ho, rfl⟩, call_meets F.slot_tuple_mul ⟨_, ho, rfl⟩ F.entry_tuple_mul (F.args_tuple_mul_2 _ _) (mul_none l its.toArray m dd sl t hi)
            ⟨ho, .ref s.heap.objs.size, _, I.laid (t' := s.toks) (o := .tup []) (fun b ob q => Heap.get?_push_of_some _ q) (Nat.le_refl _) ⟨Nat.zero_le _, [], .nil, IsTup.new _ _⟩, rfl, q2 (by omega) _ (I.hok.fresh (Nat.le_refl _))⟩⟩)
open Evl
theorem dps_rep {K : PySem.W.Frag} {H : Hp} {v : V} {d : PyData} (h : Dp K H v d) : ∀ n, DpAll K H (List.replicate n v) (List.replicate n d)
  | 0 => .nil
  | n + 1 => .cons h (dps_rep h n)
theorem ed_rep {K : PySem.W.Frag} {σ : L2.St} {H : Hp} {ta tb : TE} {d : PyData} {n : Nat} (ha : EvD K ta σ H (.tuple [d])) (hb : Ev tb σ H (.int (n : Int))) (hn : n ≤ 1000) : EvD K (tOp (rRep K) ta tb) σ H (.tuple (List.replicate n d)) := fun H1 e Q q =>
  ha H1 e _ fun v H2 e2 hv => hb H2 (e.trans e2) _ fun H3 e3 => by
    obtain ⟨p, xs, rfl, hs, hxs⟩ := dp_tup (dp_same e3 hv)
    obtain ⟨v1, rfl, h1⟩ := dps1 hxs
    refine ⟨p, v1, n, rfl, rfl, hs, hn, fun hn1 => ?_, fun _ p' np => ?_⟩
    · subst hn1
      exact q _ H3 (e2.trans e3) (.tup hs hxs)
    · refine q _ _ ((e2.trans e3).trans (Ex.new np)) (.tup (.of upd_same) ?_)
      have h2 := dp_same (Ex.new (o := .tup (List.replicate n v1)) np) h1
      exact dps_rep h2 n
end Ink
namespace Ink
open PySem PySem.Spec PyProof.Rows L2 Evl
section
variable {K : PySem.W.Frag} {σ : L2.St} {H H' : Hp} {ta tb te tc : TE} {t : TT} {d d1 d2 : PyData} {ds es : List PyData} {v : V} {i : Nat}
/-! ### more of data: tuples joined, cut, starred; lists of numbers and of bools -/
theorem ed_catA (ha : EvD K ta σ H (.tuple ds)) (hb : EvD K tb σ H (.tuple es)) (hz : ds.length + es.length ≤ 100000) : EvD K (tOp (rCatA K) ta tb) σ H (.tuple (ds ++ es)) := fun H1 e Q q =>
  ha H1 e _ fun v H2 e2 hv => hb H2 (e.trans e2) _ fun w H3 e3 hw => by
    obtain ⟨p, xs, rfl, hs, hxs⟩ := dp_tup (dp_same e3 hv)
    obtain ⟨p', ys, rfl, hs', hys⟩ := dp_tup hw
    have l1 := hxs.length
    have l2 := hys.length
    refine ⟨p, p', xs, ys, rfl, rfl, hs, hs', sz_of (by omega), fun h0 => ?_, fun h0 h1 => ?_, fun h0 h1 p2 np => ?_⟩
    · subst h0
      cases hxs
      exact q _ H3 (e2.trans e3) (.tup hs' hys)
    · subst h1
      cases hys
      refine q _ H3 (e2.trans e3) (.tup hs ?_)
      rw [List.append_nil]
      exact hxs
    · exact q _ _ ((e2.trans e3).trans (Ex.new np)) (.tup (.of upd_same) (dps_same (Ex.new np) (hxs.app hys)))
/-- to a list that may change: a new one, or a known one -/
def EvM (K : PySem.W.Frag) (te : TE) (σ : L2.St) (H : Hp) (ds : List PyData) : Prop := ∀ H1, Ex H H1 → ∀ Q : VK, (∀ p vs H2, Ex H1 H2 → H2 p = some (.lst vs) → DpAll K H2 vs ds → Q (.ref p) H2) → te σ H1 Q
theorem EvN.m (h : EvN K te σ H ds) : EvM K te σ H ds := fun H1 e Q q => h H1 e Q fun p vs H2 _ e2 hp hd => q p vs H2 e2 hp hd
theorem em_var {p : Addr} {xs : List V} (hs : σ[i]? = some (some (.ref p))) (hp : H p = some (.lst xs)) (hd : DpAll K H xs ds) : EvM K (tVar i) σ H ds := fun H1 e Q q => ⟨.ref p, hs, q p xs H1 (Ex.refl H1) (e _ _ hp) (dps_same e hd)⟩
theorem en_cat (ha : EvM K ta σ H ds) (hb : EvM K tb σ H es) (hz : ds.length + es.length ≤ 100000) : EvN K (tOp rCat ta tb) σ H (ds ++ es) := fun H1 e Q q =>
  ha H1 e _ fun p xs H2 e2 hp hxs => hb H2 (e.trans e2) _ fun p' ys H3 e3 hp' hys => by
    have l1 := hxs.length
    have l2 := hys.length
    exact ⟨p, p', xs, ys, rfl, rfl, e3 _ _ hp, hp', sz_of (by omega), fun p2 np => q p2 _ _ (fresh_back (e2.trans e3) np) ((e2.trans e3).trans (Ex.new np)) upd_same (dps_same (Ex.new np) ((dps_same e3 hxs).app hys))⟩
theorem vcut_to (xs : List V) (k : Nat) : cutV xs none (some (k : Int)) = xs.take k := by
  unfold cutV
  rw [HT.sIx_none, HT.sIx_nat, List.drop_zero, Nat.sub_zero]
  by_cases h : k ≤ xs.length
  · rw [Nat.min_eq_left h]
  · rw [Nat.min_eq_right (by omega), List.take_of_length_le (Nat.le_refl _), List.take_of_length_le (by omega)]
theorem vcut_from (xs : List V) (k : Nat) : cutV xs (some (k : Int)) none = xs.drop k := by
  unfold cutV
  rw [HT.sIx_none, HT.sIx_nat]
  by_cases h : k ≤ xs.length
  · rw [Nat.min_eq_left h, List.take_of_length_le (by rw [List.length_drop]; exact Nat.le_refl _)]
  · rw [Nat.min_eq_right (by omega), List.drop_of_length_le (Nat.le_refl _), List.drop_of_length_le (by omega), List.take_nil]
theorem ed_slTo {k : Nat} (h : EvD K te σ H (.tuple ds)) (hk : Ev tb σ H (.int (k : Int))) : EvD K (tSl (rSlA K) te tNoPart (tPart tb)) σ H (.tuple (ds.take k)) := fun H1 e Q q =>
  h H1 e _ fun v H2 e2 hv => hk H2 (e.trans e2) _ fun H3 e3 => ⟨(k : Int), rfl, by
    obtain ⟨p, xs, rfl, hs, hxs⟩ := dp_tup (dp_same e3 hv)
    have l1 := hxs.length
    refine ⟨p, xs, rfl, hs, fun h0 => ?_, fun h0 p2 np => ?_⟩
    · have h1 := h0.2
      rw [HT.sIx_nat] at h1
      exact q _ H3 (e2.trans e3) (.tup hs (by rw [List.take_of_length_le (by omega)]; exact hxs))
    · rw [vcut_to]
      exact q _ _ ((e2.trans e3).trans (Ex.new np)) (.tup (.of upd_same) (dps_same (Ex.new np) (hxs.take k)))⟩
theorem ed_slFrom {k : Nat} (h : EvD K te σ H (.tuple ds)) (hk : Ev tb σ H (.int (k : Int))) : EvD K (tSl (rSlA K) te (tPart tb) tNoPart) σ H (.tuple (ds.drop k)) := fun H1 e Q q =>
  h H1 e _ fun v H2 e2 hv => hk H2 (e.trans e2) _ fun H3 e3 => ⟨(k : Int), rfl, by
    obtain ⟨p, xs, rfl, hs, hxs⟩ := dp_tup (dp_same e3 hv)
    have l1 := hxs.length
    refine ⟨p, xs, rfl, hs, fun h0 => ?_, fun h0 p2 np => ?_⟩
    · have h1 := h0.1
      rw [HT.sIx_nat] at h1
      by_cases hk0 : k = 0
      · exact q _ H3 (e2.trans e3) (.tup hs (by rw [hk0, List.drop_zero]; exact hxs))
      · have : xs.length = 0 := by omega
        have : ds = [] := List.eq_nil_of_length_eq_zero (by omega)
        subst this
        exact q _ H3 (e2.trans e3) (.tup hs (by rw [List.drop_nil]; exact hxs))
    · rw [vcut_from]
      exact q _ _ ((e2.trans e3).trans (Ex.new np)) (.tup (.of upd_same) (dps_same (Ex.new np) (hxs.drop k)))⟩
theorem eds_star {tr : TA} (h : EvD K te σ H (.tuple ds)) (hr : EvDs K tr σ H es) : EvDs K (StX.tStar K te tr) σ H (ds ++ es) := fun H1 e Q q =>
  h H1 e _ fun v H2 e2 hv => by
    obtain ⟨p, xs, rfl, hs, hxs⟩ := dp_tup hv
    exact ⟨p, xs, rfl, .inl hs, hr H2 (e.trans e2) _ fun vs H3 e3 hds => q _ H3 (e2.trans e3) ((dps_same e3 hxs).app hds)⟩
theorem ed_tuple (h : EvD K te σ H (.list ds)) : EvD K (tCB (fun xs H Q => ∃ p ys, xs = [.ref p] ∧ ((SqL K H p ys ∧ ∀ l, H l = none → Q (.ref l) (upd H l (.tup ys))) ∨ (SqT K H p ys ∧ Q (.ref p) H))) (tCons te tNil)) σ H (.tuple ds) := fun H1 e Q q =>
  h H1 e _ fun v H2 e2 hv => by
    obtain ⟨p, xs, rfl, hs, hxs⟩ := dp_lst hv
    exact ⟨p, xs, rfl, .inl ⟨hs, fun l nl => q _ _ (e2.trans (Ex.new nl)) (.tup (.of upd_same) (dps_same (Ex.new nl) hxs))⟩⟩
theorem ed_tupleT (h : EvD K te σ H (.tuple ds)) : EvD K (tCB (fun xs H Q => ∃ p ys, xs = [.ref p] ∧ ((SqL K H p ys ∧ ∀ l, H l = none → Q (.ref l) (upd H l (.tup ys))) ∨ (SqT K H p ys ∧ Q (.ref p) H))) (tCons te tNil)) σ H (.tuple ds) := fun H1 e Q q =>
  h H1 e _ fun v H2 e2 hv => by
    obtain ⟨p, xs, rfl, hs, hxs⟩ := dp_tup hv
    exact ⟨p, xs, rfl, .inr ⟨hs, q _ _ e2 (.tup hs hxs)⟩⟩
theorem en_list (h : EvD K te σ H d) (hd : d = .list ds ∨ d = .tuple ds) : EvN K (tCB (fun xs H Q => ∃ p ys, xs = [.ref p] ∧ (SqL K H p ys ∨ SqT K H p ys) ∧ ∀ l, H l = none → Q (.ref l) (upd H l (.lst ys))) (tCons te tNil)) σ H ds := fun H1 e Q q =>
  h H1 e _ fun v H2 e2 hv => by
    rcases hd with rfl | rfl
    · obtain ⟨p, xs, rfl, hs, hxs⟩ := dp_lst hv
      exact ⟨p, xs, rfl, .inl hs, fun l nl => q l xs _ (fresh_back e2 nl) (e2.trans (Ex.new nl)) upd_same (dps_same (Ex.new nl) hxs)⟩
    · obtain ⟨p, xs, rfl, hs, hxs⟩ := dp_tup hv
      exact ⟨p, xs, rfl, .inr hs, fun l nl => q l xs _ (fresh_back e2 nl) (e2.trans (Ex.new nl)) upd_same (dps_same (Ex.new nl) hxs)⟩
theorem dps_bool : ∀ {vs : List V} {bs : List Bool}, DpAll K H vs (bs.map PyData.bool) → vs = bs.map V.bl
  | _, [], h => by cases h; rfl
  | _, b :: bs, h => by
    cases h with
    | cons h t =>
      rw [dp_bl h, dps_bool t]
      rfl
theorem ev_allD {bs : List Bool} (h : EvD K te σ H (.list (bs.map PyData.bool))) : Ev (tCB (rAll K) (tCons te tNil)) σ H (.bl (bs.all id)) := fun H1 e Q q =>
  h H1 e _ fun v H2 e2 hv => by
    obtain ⟨p, xs, rfl, hs, hxs⟩ := dp_lst hv
    rw [dps_bool hxs] at hs
    exact ⟨p, bs, rfl, hs, q H2 e2⟩
theorem ev_anyD {bs : List Bool} (h : EvD K te σ H (.list (bs.map PyData.bool))) : Ev (tCB (rAny K) (tCons te tNil)) σ H (.bl (bs.any id)) := fun H1 e Q q =>
  h H1 e _ fun v H2 e2 hv => by
    obtain ⟨p, xs, rfl, hs, hxs⟩ := dp_lst hv
    rw [dps_bool hxs] at hs
    exact ⟨p, bs, rfl, hs, q H2 e2⟩
theorem inV_ints (n : Int) : ∀ ns : List Int, inV (.int n) (ns.map V.int) = decide (n ∈ ns)
  | [] => rfl
  | m :: ns => by
    have ih := inV_ints n ns
    unfold inV at ih ⊢
    rw [List.map_cons, List.any_cons, ih]
    show ((m == n) || decide (n ∈ ns)) = decide (n ∈ m :: ns)
    rw [Bool.eq_iff_iff]
    simp only [Bool.or_eq_true, beq_iff_eq, decide_eq_true_eq, List.mem_cons]
    exact or_congr ⟨Eq.symm, Eq.symm⟩ Iff.rfl
theorem ev_inI {n : Int} {ns : List Int} {neg : Bool} (ha : Ev ta σ H (.int n)) (hb : EvD K tb σ H d) (hd : d = .list (ns.map PyData.int) ∨ d = .tuple (ns.map PyData.int)) : Ev (tOp (rIn K neg) ta tb) σ H (.bl (if neg then !decide (n ∈ ns) else decide (n ∈ ns))) := fun H1 e Q q =>
  ha H1 e _ fun H2 e2 => hb H2 (e.trans e2) _ fun v H3 e3 hv => by
    have fl : (ns.map V.int).all flatV = true := List.all_eq_true.mpr fun x hx => by
      obtain ⟨m, _, rfl⟩ := List.mem_map.mp hx
      rfl
    rcases hd with rfl | rfl
    · obtain ⟨p, xs, rfl, hs, hxs⟩ := dp_lst hv
      rw [dps_int hxs] at hs
      exact ⟨p, _, rfl, .inl hs, rfl, fl, by rw [inV_ints]; exact q H3 (e2.trans e3)⟩
    · obtain ⟨p, xs, rfl, hs, hxs⟩ := dp_tup hv
      rw [dps_int hxs] at hs
      exact ⟨p, _, rfl, .inr hs, rfl, fl, by rw [inV_ints]; exact q H3 (e2.trans e3)⟩
/-- int(b) -/
theorem ev_intB {b : Bool} (h : Ev te σ H (.bl b)) : Ev (tCB (fun xs H Q => (∃ i, xs = [.int i] ∧ Q (.int i) H) ∨ ∃ k, xs = [.bl k] ∧ Q (.int (if k then 1 else 0)) H) (tCons te tNil)) σ H (.int (if b then 1 else 0)) := fun H1 e Q q =>
  h H1 e _ fun H2 e2 => .inr ⟨b, rfl, q H2 e2⟩
/-- a list that is known by its place grows -/
theorem sd_app {D : Ends} {p : Addr} {xs : List V} (hs : σ[i]? = some (some (.ref p))) (hp : H p = some (.lst xs)) (h : EvD K te σ H d) (hz : xs.length < 100000) (k : ∀ v H1, Ex H H1 → Dp K H1 v d → D.nx σ (upd H1 p (.lst (xs ++ [v])))) :
    tDrop (tBM K "list" rAppend (tVar i) (tCons te tNil)) D σ H := ⟨.ref p, hs, .inl ⟨rfl, xs, .of hp⟩, h H (Ex.refl H) _ fun v H1 e hv => ⟨p, xs, v, rfl, rfl, e _ _ hp, sz_lt hz, k v H1 e hv⟩⟩
theorem sd_ext {D : Ends} {p : Addr} {xs : List V} (hs : σ[i]? = some (some (.ref p))) (hp : H p = some (.lst xs)) (h : EvN K te σ H ds) (hz : xs.length + ds.length ≤ 100000) (k : ∀ vs H1, Ex H H1 → DpAll K H1 vs ds → D.nx σ (upd H1 p (.lst (xs ++ vs)))) :
    tDrop (tBM K "list" rExtend (tVar i) (tCons te tNil)) D σ H := ⟨.ref p, hs, .inl ⟨rfl, xs, .of hp⟩, h H (Ex.refl H) _ fun q vs H1 nq e hq hv => ⟨p, q, xs, vs, rfl, rfl, e _ _ hp, hq, sz_of (by rw [hv.length]; exact hz), k vs H1 e hv⟩⟩
theorem sd_if {D : Ends} {b : Bool} {tu tw : TS} (h : EvT t σ H b) (h1 : b = true → ∀ H1, Ex H H1 → tu D σ H1) (h2 : b = false → ∀ H1, Ex H H1 → tw D σ H1) : tIfS t tu tw D σ H := s_if h h1 h2
end
end Ink
namespace Ink
open PySem PySem.Spec PyProof.Rows L2 Evl
theorem hu9 {k : Nat} {A : Around} (hr : Room k A) : A.units + 100 < cLine := by
  have := hr.un
  omega
abbrev rLenV (K : PySem.W.Frag) : List V → Hp → VK → Prop := fun xs H Q => ∃ x n, xs = [x] ∧ LenV K x H n ∧ Q (.int n) H
/-- a method of the class at C -/
def MetC (P : Program) (w : World) (K : PySem.W.Frag) (mg : Str → Option Value) (base : Heap) (k : Nat) (C : Addr) (m : Str) (ps : List Str) (sp : Sp) : Prop :=
  ∃ f fd, FnOk P w K mg base CX0 k f fd ps sp ∧ Meth K C m f ∧ Cls K C ∧ Binds K fd ps []
/-- the class at C, called by its name with these values behind those that are written -/
def MakC (P : Program) (w : World) (K : PySem.W.Frag) (mg : Str → Option Value) (base : Heap) (k : Nat) (x : Str) (C : Addr) (ps : List Str) (dvs : List V) (sp : Sp) : Prop :=
  ∃ f fd ds, FnOk P w K mg base CX0 k f fd ps sp ∧ Mk K C f ∧ mg x = some (.ref C) ∧ Binds K fd ps ds ∧ Vals dvs ds
section
variable {X : Cx} {k : Nat} {C : Addr} {x m : Str} {ps : List Str} {dvs : List V} {sp : Sp} {p pos apos : Pos} {o e : Expr} {es : List Expr} {ta : TE} {t : TA}
theorem pe_methC {pl : Sem Bool} (he : PE X o ta) (c : MetC X.prog X.w X.K X.mg X.base k C m ps sp) (hr : Room k X.A) (ha : PA X (e :: es) t)
    (hst : starEach (e :: es) X.env = (false, eval e X.env) :: starEach es X.env := by rfl) (hpl : (backTo pos (starEach es X.env)).any (·.1) = false := by rfl)
    (ht : eval (.Call (.Attribute o m apos) (e :: es) [] pos) X.env = (do
      let ov ← eval o X.env
      standAt apos.atName
      let (f, first) ← holding [ov] (getMethod ov m pl)
      callWith pos f first (backTo pos (starEach (e :: es) X.env)) (backToKw pos (keywordEach [] X.env))) := by rfl)
    (hp : ∀ f fd, FnOk X.prog X.w X.K X.mg X.base CX0 k f fd ps sp → Passes CX0 X E0 := by exact fun _ _ _ => pass0) : PE X (.Call (.Attribute o m apos) (e :: es) [] pos) (tMeth C m sp [] E0 ta t) := by
  obtain ⟨f, fd, G, hm, hc, b⟩ := c
  exact pe_meth he hc hm G hr b .nil pass0 ha hst hpl ht
theorem pe_methC0 {pl : Sem Bool} (he : PE X o ta) (c : MetC X.prog X.w X.K X.mg X.base k C m ps sp) (hr : Room k X.A)
    (ht : eval (.Call (.Attribute o m apos) [] [] pos) X.env = (do
      let ov ← eval o X.env
      standAt apos.atName
      let (f, first) ← holding [ov] (getMethod ov m pl)
      callWith pos f first (backTo pos (starEach [] X.env)) (backToKw pos (keywordEach [] X.env))) := by rfl) : PE X (.Call (.Attribute o m apos) [] [] pos) (tMeth C m sp [] E0 ta tNil) := by
  obtain ⟨f, fd, G, hm, hc, b⟩ := c
  exact pe_meth0 he hc hm G hr b .nil pass0 ht
theorem pe_makeC (c : MakC X.prog X.w X.K X.mg X.base k x C ps dvs sp) (hr : Room (k + 1) X.A) (hg : Gl X x) (ha : PA X (e :: es) t) (hdb : (x == ("__debug__" : Str)) = false := by decide)
    (he : starEach (e :: es) X.env = (false, eval e X.env) :: starEach es X.env := by rfl) (hpl : (backTo pos (starEach es X.env)).any (·.1) = false := by rfl) : PE X (.Call (.Name x p) (e :: es) [] pos) (tMake C sp dvs E0 t) := by
  obtain ⟨f, fd, ds, G, M, g, b, hd⟩ := c
  exact pe_make M G hr hg g b hd pass0 ha hdb he hpl
theorem pe_makeC0 (c : MakC X.prog X.w X.K X.mg X.base k x C ps dvs sp) (hr : Room (k + 1) X.A) (hg : Gl X x) (hdb : (x == ("__debug__" : Str)) = false := by decide) : PE X (.Call (.Name x p) [] [] pos) (tMake C sp dvs E0 tNil) := by
  obtain ⟨f, fd, ds, G, M, g, b, hd⟩ := c
  exact pe_make0 M G hr hg g b hd pass0 hdb
end
/-- a constant of the module that is a tuple -/
def GlobT (K : PySem.W.Frag) (mg : Str → Option Value) (x : Str) (d : PyData) : Prop := ∃ a, mg x = some (.ref a) ∧ ∀ H, Dp K H (.ref a) d
def tGlobT (K : PySem.W.Frag) (d : PyData) : TE := fun _ H Q => ∀ a, (∀ H', Dp K H' (.ref a) d) → Q (.ref a) H
theorem pe_globT {X : Cx} {x : Str} {d : PyData} {pos : Pos} (hg : Gl X x) (hm : GlobT X.K X.mg x d) (hd : (x == ("__debug__" : Str)) = false := by decide) : PE X (.Name x pos) (tGlobT X.K d) := by
  obtain ⟨a, e, h⟩ := hm
  have p := pe_glob (X := X) (x := x) (pos := pos) (v := .ref a) hg e rfl hd
  exact ⟨fun pins s σ H Q I hq => p.run pins s σ H Q I (hq a h)⟩
theorem ed_globT {K : PySem.W.Frag} {σ : L2.St} {H : Hp} {d : PyData} : EvD K (tGlobT K d) σ H d := fun H1 e Q q a h => q (.ref a) H1 (Ex.refl H1) (h H1)
end Ink
namespace Ink
open PySem PySem.Spec PyProof.Rows L2 Evl
section
variable {K : PySem.W.Frag} {σ : L2.St} {H : Hp} {te : TE} {t : TT} {d1 d2 d3 : PyData} {x : V}
theorem tg2 {n1 n2 : Nat} {Q : L2.St → Hp → Prop} (hd : Dp K H x (.tuple [d1, d2])) (k : ∀ v1 v2, Dp K H v1 d1 → Dp K H v2 d2 → Q ((σ.set n1 (some v1)).set n2 (some v2)) H) : gTup K 2 (gCons (gName n1) (gCons (gName n2) gNil)) x σ H Q := by
  obtain ⟨p, xs, rfl, hs, hxs⟩ := dp_tup hd
  obtain ⟨v1, v2, rfl, h1, h2⟩ := dps2 hxs
  exact ⟨p, _, rfl, hs, rfl, _, _, rfl, _, _, rfl, rfl, k v1 v2 h1 h2⟩
theorem tg3 {n1 n2 n3 : Nat} {Q : L2.St → Hp → Prop} (hd : Dp K H x (.tuple [d1, d2, d3])) (k : ∀ v1 v2 v3, Dp K H v1 d1 → Dp K H v2 d2 → Dp K H v3 d3 → Q (((σ.set n1 (some v1)).set n2 (some v2)).set n3 (some v3)) H) : gTup K 3 (gCons (gName n1) (gCons (gName n2) (gCons (gName n3) gNil))) x σ H Q := by
  obtain ⟨p, xs, rfl, hs, hxs⟩ := dp_tup hd
  obtain ⟨v1, v2, v3, rfl, h1, h2, h3⟩ := dps3 hxs
  exact ⟨p, _, rfl, hs, rfl, _, _, rfl, _, _, rfl, _, _, rfl, rfl, k v1 v2 v3 h1 h2 h3⟩
theorem en_map {α : Type} {ti : TI} {g : TG} {vs : List Nat} (xs : List α) (enc : α → PyData) (f : α → PyData) (hi : EvI K ti σ H (xs.map enc)) (hz : xs.length ≤ 40000) (hf : ∀ a ∈ xs, fz (f a) = true)
    (ht : ∀ (i : Nat) (a : α) (H1 : Hp) (x : V), xs[i]? = some a → Ex H H1 → Dp K H1 x (enc a) → ∀ R : L2.St → Hp → Prop, (∀ σ2, wipe σ2 vs = wipe σ vs → EvD K te σ2 H1 (f a) → R σ2 H1) → g x (wipe σ vs) H1 R) :
    EvN K (tLc ti g tYes te vs) σ H (xs.map f) := by
  have h := en_lc (K := K) (t := tYes) (te := te) (σ := σ) (H := H) (ti := ti) (g := g) (vs := vs) xs enc (fun _ => true) f hi hz hf fun i a H1 x hx e hd R k => ht i a H1 x hx e hd R fun σ2 hw he => k σ2 hw et_yes fun _ => he
  rw [show xs.filter (fun _ => true) = xs from List.filter_eq_self.mpr fun _ _ => rfl] at h
  exact h
end
end Ink
namespace Ink
open PySem PySem.Spec PyProof.Rows L2 Evl
/-! ### loops over tuples that stand while lists change -/
def TupK (K : PySem.W.Frag) (H H' : Hp) : Prop := ∀ c xs, SqT K H c xs → SqT K H' c xs
theorem TupK.refl {K : PySem.W.Frag} (H : Hp) : TupK K H H := fun _ _ h => h
theorem TupK.trans {K : PySem.W.Frag} {H H1 H2 : Hp} (a : TupK K H H1) (b : TupK K H1 H2) : TupK K H H2 := fun c xs h => b c xs (a c xs h)
theorem TupK.of {K : PySem.W.Frag} {H H' : Hp} (e : Ex H H') : TupK K H H' := fun _ _ h => ex_t e h
/-- what is no tuple changes -/
theorem TupK.upd {K : PySem.W.Frag} {H : Hp} {a : Addr} {o o' : HO} (h : H a = some o) (n1 : ∀ xs, o ≠ .tup xs) (n2 : ∀ ob xs, o ≠ .frz ob (.tup xs)) : TupK K H (upd H a o') := fun c xs hc => by
  rcases hc with (hc | ⟨ob, hc⟩) | hc
  · exact .inl (.inl (by rw [upd_ne (ne_of hc h (fun z => n1 _ z.symm))]; exact hc))
  · exact .inl (.inr ⟨ob, by rw [upd_ne (ne_of hc h (fun z => n2 _ _ z.symm))]; exact hc⟩)
  · exact .inr hc
theorem TupK.lst {K : PySem.W.Frag} {H : Hp} {a : Addr} {xs : List V} {o' : HO} (h : H a = some (.lst xs)) : TupK K H (L2.upd H a o') := .upd h (fun _ z => by cases z) (fun _ _ z => by cases z)
theorem TupK.mut {K : PySem.W.Frag} {H H' : Hp} {a : Addr} {o' : HO} (k : TupK K H H') (h : H' a = none) : TupK K H (L2.upd H' a o') := k.trans (.of (Ex.new h))
theorem TupK.keep {K : PySem.W.Frag} {H H' : Hp} {a l : Addr} (b : BagAt H a l) (k : Keep a H H') : TupK K H H' := keep_t b k
section
variable {K : PySem.W.Frag} {σ : L2.St} {H H' : Hp} {te : TE} {ds : List PyData} {d : PyData} {v : V} {vs : List V} {D : Ends} {tu : TS} {ti : TI} {g : TG}
theorem dp_tk (k : TupK K H H') (f : fz d = true) (h : Dp K H v d) : Dp K H' v d := dp_fz k d v f h
theorem dps_tk (k : TupK K H H') (f : fzAll ds = true) (h : DpAll K H vs ds) : DpAll K H' vs ds := dps_fz k ds vs f h
/-- what is walked gives ds, as long as the tuples stand -/
def EvJ (K : PySem.W.Frag) (ti : TI) (σ : L2.St) (H : Hp) (ds : List PyData) : Prop := ∀ H1, Ex H H1 → ∀ R : It → Hp → Prop, (∀ J H2, Ex H1 H2 → Walk J ds.length (fun H' => TupK K H2 H') (fun i Ha x Hb => Ex Ha Hb ∧ ∃ d, ds[i]? = some d ∧ Dp K Hb x d) → R J H2) → ti σ H1 R
theorem ej_tup (h : EvD K te σ H (.tuple ds)) (f : fzAll ds = true) : EvJ K (iTup K te) σ H ds := fun H1 e R q => h H1 e _ fun v H2 e2 hd => by
  obtain ⟨p, xs, rfl, hs, hxs⟩ := dp_tup hd
  refine ⟨p, rfl, ⟨xs, hs⟩, q _ H2 e2 ?_⟩
  rw [← hxs.length]
  refine (walk_tup (xs := xs)).mono (fun H3 k3 => k3 _ _ hs) fun i Ha x Hb hi k3 hy => ?_
  obtain ⟨rfl, hx⟩ := hy
  obtain ⟨dx, h1, h2⟩ := hxs.at hx
  exact ⟨Ex.refl _, dx, h1, dp_tk k3 (fzAll_iff.mp f dx (List.mem_of_getElem? h1)) h2⟩
theorem ej_enumT (h : EvD K te σ H (.tuple ds)) (f : fzAll ds = true) : EvJ K (iEnumT K (tCons te tNil)) σ H (enumD ds) := fun H1 e R q => h H1 e _ fun v H2 e2 hd => by
  obtain ⟨p, xs, rfl, hs, hxs⟩ := dp_tup hd
  refine ⟨p, xs, rfl, hs, q _ H2 e2 ?_⟩
  have hl : (enumD ds).length = xs.length := by
    unfold enumD
    rw [List.length_map, List.length_range, hxs.length]
  rw [hl]
  refine (walk_enumT (xs := xs)).mono (fun H3 k3 => k3 _ _ hs) fun i Ha x Hb hi k3 hy => ?_
  obtain ⟨T, x1, y1, rfl, nT, rfl, hx, hy⟩ := hy
  cases hx
  obtain ⟨dy, h3, h4⟩ := hxs.at hy
  exact ⟨Ex.new nT, _, enumD_get h3, .tup (.of upd_same) (.cons (.int _) (.cons (dp_tk (k3.mut nT) (fzAll_iff.mp f dy (List.mem_of_getElem? h3)) h4) .nil))⟩
theorem ej_range {ta : TA} {n : Nat} (h : EvA ta σ H [.int (n : Int)]) (hn : n ≤ 100000) : EvJ K (iRng1 ta) σ H ((List.range n).map fun (i : Nat) => PyData.int (i : Int)) := fun H1 e R q => h H1 e _ fun H2 e2 => ⟨(n : Int), rfl, by omega, by omega, q _ H2 e2 (by
  rw [List.length_map, List.length_range, Int.toNat_natCast]
  refine walk_range0.mono (fun _ _ => True.intro) fun i Ha x Hb hi e3 hy => ?_
  obtain ⟨rfl, rfl⟩ := hy
  refine ⟨Ex.refl _, .int (i : Int), ?_, .int _⟩
  rw [List.getElem?_map, List.getElem?_range hi]
  rfl)⟩
theorem sd_for (hi : EvJ K ti σ H ds) (Pv : Hp → Nat → L2.St → Hp → Prop) (h0 : ∀ H2, Ex H H2 → Pv H2 0 σ H2) (hT : ∀ H2 i σ' H', Pv H2 i σ' H' → TupK K H2 H')
    (hs : ∀ H2 i d x σ' H' H'', Ex H H2 → ds[i]? = some d → Pv H2 i σ' H' → Ex H' H'' → Dp K H'' x d → g x σ' H'' fun σ2 H3 => tu { D with nx := Pv H2 (i + 1), ct := Pv H2 (i + 1), bk := D.nx } σ2 H3)
    (hd : ∀ H2 σ' H', Ex H H2 → Pv H2 ds.length σ' H' → D.nx σ' H') : tFor ti g tu D σ H :=
  hi H (Ex.refl H) _ fun J H2 e2 W => for_it W (Pv H2) (h0 H2 e2) (fun i σ' H' _ hP => hT H2 i σ' H' hP) (fun i x σ' Ha Hb hi hP hy => by
    obtain ⟨e3, d, h1, h2⟩ := hy
    exact hs H2 i d x σ' Ha Hb e2 h1 hP e3 h2) (fun σ' H' hP => hd H2 σ' H' e2 hP)
end
end Ink
namespace Ink
open PySem PySem.Spec PyProof.Rows L2
/-! ### companies: what the defs reckon -/
/-- a writer; a stand: places, waits, who wrote last, how many -/
abbrev Wr := Str × List Arw × Int × Int
abbrev Std := List Int × List Int × Int × Int
def dA (x : Arw) : PyData := .tuple [.int x.1, .str x.2.1, .int x.2.2]
def dW (w : Wr) : PyData := .tuple [.str w.1, .tuple (w.2.1.map dA), .int w.2.2.1, .int w.2.2.2]
def dMt (m : List Wr) : PyData := .tuple (m.map dW)
def dMl (m : List Wr) : PyData := .list (m.map dW)
def dI (ns : List Int) : PyData := .tuple (ns.map PyData.int)
def dS (s : Std) : PyData := .tuple [dI s.1, dI s.2.1, .tuple [.int s.2.2.1, .int s.2.2.2]]
def dStep (x : Str × Str × Std) : PyData := .tuple [.str x.1, .str x.2.1, dS x.2.2]
def wr (m : List Wr) (k : Nat) : Wr := m.getD k (Str.empty, [], 0, 0)
def pl (s : Std) (k : Nat) : Int := s.1.getD k 0
def wt (s : Std) (k : Nat) : Int := s.2.1.getD k 0
structure GoodM (m : List Wr) : Prop where
  len : m.length ≤ 3
  wr : ∀ w ∈ m, GoodW w.1 w.2.1 w.2.2.1 w.2.2.2
  nd : (m.map (·.1)).Nodup
/-- that writer has a patience and isn't done -/
def minds (m : List Wr) (s : Std) (k : Nat) : Bool := !decide (V.int (wr m k).2.2.1 = V.int 0) && decide (pl s k ∈ (wr m k).2.1.map (·.1))
def mayW (m : List Wr) (s : Std) (k : Nat) : Bool :=
  if (!decide (V.int (wr m k).2.2.2 = V.int 0) && (decide (V.int s.2.2.1 = V.int (k : Int)) && decide (s.2.2.2 ≥ (wr m k).2.2.2))) = true then false
  else (((List.range m.length).filter fun (j : Nat) => !decide (V.int (j : Int) = V.int (k : Int)) && minds m s j).map fun (j : Nat) => decide (wt s j < (wr m j).2.2.1)).all id
def behind (m : List Wr) (s : Std) (k : Nat) (to : Int) : Std :=
  (s.1.take k ++ to :: s.1.drop (k + 1), (List.range s.2.1.length).map (fun (j : Nat) => if (!decide (V.int (j : Int) = V.int (k : Int)) && minds m s j) = true then wt s j + 1 else 0),
    if V.int (wr m k).2.2.2 = V.int 0 then (-1, 0) else ((k : Int), if V.int s.2.2.1 = V.int (k : Int) then s.2.2.2 + 1 else 1))
/-- a sign, by whom, whereto -/
abbrev Mv := Str × Nat × Int
def dMv (x : Mv) : PyData := .tuple [.str x.1, .int (x.2.1 : Int), .int x.2.2]
def movesAt (m : List Wr) (s : Std) (k : Nat) : List Mv := if mayW m s k = true then ((wr m k).2.1.filter fun x => decide (V.int x.1 = V.int (pl s k))).map fun x => (x.2.1, k, x.2.2) else []
def moves (m : List Wr) (s : Std) : List Mv := (List.range m.length).flatMap (movesAt m s)
def leMv (a b : Mv) : Bool := PySem.W.dataLe false id (dMv a) (dMv b)
def stepsOf (m : List Wr) (s : Std) : List (Str × Str × Std) := ((moves m s).mergeSort leMv).map fun x => (x.1, (wr m x.2.1).1, behind m s x.2.1 x.2.2)
/-- as many places and waits as writers -/
structure Fits (m : List Wr) (s : Std) : Prop where
  l1 : s.1.length = m.length
  l2 : s.2.1.length = m.length
theorem GoodM.at {m : List Wr} (g : GoodM m) {k : Nat} (h : k < m.length) : GoodW (Ink.wr m k).1 (Ink.wr m k).2.1 (Ink.wr m k).2.2.1 (Ink.wr m k).2.2.2 := by
  unfold Ink.wr
  rw [List.getD_eq_getElem?_getD, List.getElem?_eq_getElem h]
  exact g.wr _ (List.getElem_mem h)
theorem wr_get {m : List Wr} {k : Nat} (h : k < m.length) : m[k]? = some (wr m k) := by
  unfold wr
  rw [List.getD_eq_getElem?_getD, List.getElem?_eq_getElem h]
  rfl
theorem getD_get {ns : List Int} {k : Nat} (h : k < ns.length) : ns[k]? = some (ns.getD k 0) := by
  rw [List.getD_eq_getElem?_getD, List.getElem?_eq_getElem h]
  rfl
theorem dW_get {m : List Wr} {k : Nat} (h : k < m.length) : (m.map dW)[(k : Int).toNat]? = some (dW (wr m k)) := by
  rw [Int.toNat_natCast, List.getElem?_map, wr_get h]
  rfl
theorem dI_get {ns : List Int} {k : Nat} (h : k < ns.length) : (ns.map PyData.int)[(k : Int).toNat]? = some (.int (ns.getD k 0)) := by
  rw [Int.toNat_natCast, List.getElem?_map, getD_get h]
  rfl
/-! frozen, of bounded depth -/
theorem fz_dI (ns : List Int) : fz (dI ns) = true := by
  unfold dI fz
  exact fz_map fun _ _ => by unfold fz; rfl
theorem fz_dA (x : Arw) : fz (dA x) = true := by
  unfold dA fz fzAll fzAll fzAll fzAll fz
  rfl
theorem fz_dS (s : Std) : fz (dS s) = true := by
  have h1 := fz_dI s.1
  have h2 := fz_dI s.2.1
  unfold dS
  simp only [fz, fzAll, h1, h2, Bool.and_true]
theorem fz_dW (w : Wr) : fz (dW w) = true := by
  have h : fzAll (w.2.1.map dA) = true := fz_map fun x _ => fz_dA x
  unfold dW
  simp only [fz, fzAll, h, Bool.and_true]
theorem fz_dStep (x : Str × Str × Std) : fz (dStep x) = true := by
  have h := fz_dS x.2.2
  unfold dStep
  simp only [fz, fzAll, h, Bool.and_true]
theorem fz_dMt (m : List Wr) : fz (dMt m) = true := by
  unfold dMt fz
  exact fz_map fun x _ => fz_dW x
theorem fz_dMv (x : Mv) : fz (dMv x) = true := by
  unfold dMv
  simp only [fz, fzAll, Bool.and_true]
theorem moves_len {m : List Wr} (g : GoodM m) (s : Std) : (moves m s).length ≤ 27 := by
  unfold moves
  have h : ∀ k ∈ List.range m.length, (movesAt m s k).length ≤ 9 := fun k hk => by
    unfold movesAt
    split
    · rw [List.length_map]
      have h1 := List.length_filter_le (fun x : Arw => decide (V.int x.1 = V.int (pl s k))) (wr m k).2.1
      have h2 := (g.at (List.mem_range.mp hk)).len
      omega
    · exact Nat.zero_le _
  have hs : ∀ l : List Nat, (∀ k ∈ l, (movesAt m s k).length ≤ 9) → (l.flatMap (movesAt m s)).length ≤ 9 * l.length := fun l => by
    induction l with
    | nil => intro _; exact Nat.le_refl _
    | cons k l ih =>
      intro hl
      rw [List.flatMap_cons, List.length_append, List.length_cons]
      have := hl k (List.mem_cons_self ..)
      have := ih fun j hj => hl j (List.mem_cons_of_mem _ hj)
      omega
  have := hs _ h
  rw [List.length_range] at this
  have := g.len
  omega
end Ink
namespace Ink
open PySem PySem.Spec PyProof.Rows L2 Evl
theorem fz_dWs (m : List Wr) : fzAll (m.map dW) = true := fz_map fun x _ => fz_dW x
theorem wr_dp {K : PySem.W.Frag} {H : Hp} {W : Addr} {z : Str} {ar : List Arw} {p c : Int} (h : WrAt H W z ar p c) : Dp K H (.ref W) (dW (z, ar, p, c)) := by
  obtain ⟨tp, ps, h1, h2, h3⟩ := h
  have : DpAll K H (ps.map V.ref) (ar.map dA) := by
    unfold ArsAt at h3
    clear h1 h2
    induction h3 with
    | nil => exact .nil
    | @cons p x ps ar r t ih =>
      unfold ArwAt at r
      exact .cons (.tup (.of r) (.cons (.int _) (.cons (.str _) (.cons (.int _) .nil)))) ih
  exact .tup (.of h1) (.cons (.str z) (.cons (.tup (.of h2) this) (.cons (.int p) (.cons (.int c) .nil))))
end Ink
namespace Ink
open PySem PySem.Spec PyProof.Rows L2 Evl
/-! ### told alike -/
def okD : Nat → PyData → Prop
  | 0, _ => False
  | n + 1, .list ds => ds.length ≤ 1000 ∧ ∀ d ∈ ds, okD n d
  | n + 1, .tuple ds => ds.length ≤ 1000 ∧ ∀ d ∈ ds, okD n d
  | _ + 1, .dict _ => False
  | _ + 1, .none => True
  | _ + 1, .bool _ => True
  | _ + 1, .int _ => True
  | _ + 1, .str _ => True
theorem lk_dp {K : PySem.W.Frag} {H : Hp} : ∀ (n : Nat) (d : PyData) (v w : V), okD n d → Dp K H v d → Dp K H w d → Lk K H n v w
  | 0, _, _, _, h, _, _ => h.elim
  | n + 1, .none, _, _, _, h1, h2 => by rw [dp_non h1, dp_non h2]; exact .inl ⟨rfl, rfl⟩
  | n + 1, .bool _, _, _, _, h1, h2 => by rw [dp_bl h1, dp_bl h2]; exact .inl ⟨rfl, rfl⟩
  | n + 1, .int _, _, _, _, h1, h2 => by rw [dp_int h1, dp_int h2]; exact .inl ⟨rfl, rfl⟩
  | n + 1, .str _, _, _, _, h1, h2 => by rw [dp_str h1, dp_str h2]; exact .inl ⟨rfl, rfl⟩
  | n + 1, .list ds, _, _, h, h1, h2 => by
    obtain ⟨p, xs, rfl, hp, hxs⟩ := dp_lst h1
    obtain ⟨q, ys, rfl, hq, hys⟩ := dp_lst h2
    have l1 := hxs.length
    have l2 := hys.length
    have h0 := h.1
    refine .inr ⟨p, q, xs, ys, rfl, rfl, .inl ⟨hp, hq⟩, by omega, by omega, fun i x y hx hy => ?_⟩
    obtain ⟨d1, e1, g1⟩ := hxs.at hx
    obtain ⟨d2, e2, g2⟩ := hys.at hy
    rw [e1] at e2
    obtain rfl := Option.some.inj e2
    exact lk_dp n d1 x y (h.2 d1 (List.mem_of_getElem? e1)) g1 g2
  | n + 1, .tuple ds, _, _, h, h1, h2 => by
    obtain ⟨p, xs, rfl, hp, hxs⟩ := dp_tup h1
    obtain ⟨q, ys, rfl, hq, hys⟩ := dp_tup h2
    have l1 := hxs.length
    have l2 := hys.length
    have h0 := h.1
    refine .inr ⟨p, q, xs, ys, rfl, rfl, .inr ⟨hp, hq⟩, by omega, by omega, fun i x y hx hy => ?_⟩
    obtain ⟨d1, e1, g1⟩ := hxs.at hx
    obtain ⟨d2, e2, g2⟩ := hys.at hy
    rw [e1] at e2
    obtain rfl := Option.some.inj e2
    exact lk_dp n d1 x y (h.2 d1 (List.mem_of_getElem? e1)) g1 g2
section
variable {K : PySem.W.Frag} {σ : L2.St} {H : Hp} {ta tb te : TE}
theorem ev_like {n : Nat} {d : PyData} (ha : EvD K ta σ H d) (hb : EvD K tb σ H d) (h : okD n d) : Ev (tCall (spLike K n) [] E0 (tCons ta (tCons tb tNil))) σ H (.bl true) := fun H1 e Q q =>
  ha H1 e _ fun v H2 e2 hv => hb H2 (e.trans e2) _ fun u H3 e3 hu => ⟨v, u, rfl, lk_dp n d v u h (dp_same e3 hv) hu, fun H4 s4 => q H4 ((e2.trans e3).trans s4)⟩
theorem et_or2 {t u : TT} {b c : Bool} (h1 : EvT t σ H b) (h2 : b = false → EvT u σ H c) : EvT (tOr t u) σ H (b || c) := fun H1 e Q q => h1 H1 e _ fun H2 e2 => by
  cases b with
  | true => exact q H2 e2
  | false => exact h2 rfl H2 (e.trans e2) Q fun H3 e3 => q H3 (e2.trans e3)
end
end Ink
namespace Ink
open PySem PySem.Spec PyProof.Rows L2
/-! ### a sign, once or more often -/
def rMulS : R2 := fun x y H Q => ∃ (z : Str) (k : Int), x = .str z ∧ y = .int k ∧ 1 ≤ k ∧ k ≤ 10 ∧ z.length ≤ 10 ∧ ∀ r : Str, r.length ≤ 100 → Q (.str r) H
theorem fold_size (a : Array Nat) : ∀ (n : Nat) (acc : Array Nat), ((List.replicate n a).foldl (· ++ ·) acc).size = acc.size + n * a.size
  | 0, acc => by simp
  | n + 1, acc => by
    rw [List.replicate_succ, List.foldl_cons, fold_size a n, Array.size_append, Nat.succ_mul]
    omega
theorem op_mulS {X : Cx} : OpR X (binaryOp .Mult) rMulS := by
  intro pins s σ H x y v u Q I rx ry h
  obtain ⟨z, k, rfl, rfl, h1, h2, hz, q⟩ := h
  obtain ⟨t, rfl⟩ := rx
  obtain ⟨t2, rfl⟩ := ry
  have hle : ∀ n : Nat, n ≤ 10 → z.length * n ≤ 100 := fun n hn => Nat.le_trans (Nat.mul_le_mul hz hn) (by decide)
  refine PySem.P.mul_str (by
      rw [decide_eq_false (by omega), decide_eq_false (by omega)]
      rfl) (fun _ _ => ?_) (fun _ _ => ?_) ?_
  · have : (1 : Int) * k ≤ 2 ^ 63 - 1 := by omega
    have h10 : (10 : Int) ≤ (2 ^ 63 - 1) / k := Int.le_ediv_of_mul_le (by omega) (by omega)
    omega
  · unfold PySem.Builtin.Str.tooLong
    have := hle k.toNat (by omega)
    exact decide_eq_false (Nat.not_lt.mpr (small_le (by omega)))
  · rw [if_neg (by omega)]
    split
    · exact ⟨.str z, H, I, ⟨t, rfl⟩, q z (by omega)⟩
    · refine ⟨?_, ⟨.str _, H, I.tok _, ⟨_, rfl⟩, q _ ?_⟩⟩
      · have := hle k.toNat (by omega)
        have e : (⟨(List.replicate k.toNat z.cps).foldl (· ++ ·) #[]⟩ : Str).length = k.toNat * z.length := by
          show ((List.replicate k.toNat z.cps).foldl (· ++ ·) #[]).size = _
          rw [fold_size]
          simp
          rfl
        rw [e, Nat.mul_comm]
        exact small_le (by omega)
      · have := hle k.toNat (by omega)
        show ((List.replicate k.toNat z.cps).foldl (· ++ ·) #[]).size ≤ _
        rw [fold_size]
        have e2 : z.cps.size = z.length := rfl
        rw [e2, Nat.mul_comm]
        simp
        omega
theorem hu65 {k : Nat} {A : Around} (hr : Room k A) : A.units + 65 < cLine := by
  have := hu9 hr
  omega
end Ink
namespace Ink
open PySem PySem.Spec PyProof.Rows L2
def spWT : Sp := fun vs H Q _ => ∃ (W : Addr) (z : Str) (ar : List Arw) (p c : Int), vs = [.ref W] ∧ WrAt H W z ar p c ∧ GoodW z ar p c ∧ ∀ H', Same H H' → Q (.str (wText z ar p c)) H'
section
variable {P : Program} {w : World} {K : PySem.W.Frag} {mg : Str → Option Value} {base : Heap}
theorem rows_list {ar : List Arw} {n : Nat} (hn : n = ar.length) : (List.range n).map (fun i => match ar[i]? with | some x => V.str (rowT x) | none => V.non) = (ar.map rowT).map V.str := by
  subst hn
  refine List.ext_getElem? fun i => ?_
  rw [List.getElem?_map, List.getElem?_map, List.getElem?_map]
  by_cases hi : i < ar.length
  · rw [List.getElem?_range hi, List.getElem?_eq_getElem hi]
    show some (match ar[i]? with | some x => V.str (rowT x) | none => V.non) = _
    rw [List.getElem?_eq_getElem hi]
    rfl
  · rw [List.getElem?_eq_none (show ar.length ≤ i by omega), List.getElem?_eq_none (show (List.range ar.length).length ≤ i by rw [List.length_range]; omega)]
    rfl
theorem lb (n : Int) (h0 : 0 ≤ n) (h9 : n ≤ 9) : n.natAbs.log2 < 1920 := by
  have : ∀ k : Nat, k < 10 → k.log2 < 1920 := by decide
  exact this _ (by omega)
theorem ok_law_text {f : Addr} {fd : FuncData} {k : Nat} (F : Fun K "_law_writer_text" "_law_writer_text" sLWriterText f fd) (T : Txt mg) : FnOk P w K mg base CX0 (k + 1) f fd ["_law_writer_here"] spWT := by
  refine F.ok sc__law_writer_text (fun vs H Q E h => ?_) (fun cdv A outer s H vs Q E hr h => ?_)
  · obtain ⟨W, z, ar, p, c, rfl, _⟩ := h
    rfl
  · obtain ⟨W, z, ar, p, c, rfl, ⟨tp, ps, hW, htp, hps⟩, g, q⟩ := h
    refine ⟨_, (pss_cons (ps_setLc (i := 1) (own := [("_law_place", 2), ("_law_sign", 3), ("_law_to", 4)]) (g := (gTup K 3 (gCons (gName 2) (gCons (gName 3) (gCons (gName 4) gNil))))) (by rfl) sc__law_writer_text.nd rfl rfl (sw_true rfl rfl rfl (by decide +kernel)) (pi_tup (pe_ix ix_tup (pv 0) pe_int (fun _ _ => rfl))) (blkOk_by (own := [("_law_place", 2), ("_law_sign", 3), ("_law_to", 4)]) (N := ["_law_writer_here", "_law_rows", "_law_place", "_law_sign", "_law_to"]) (sc := defScope sLWriterText) (by decide +kernel)) (fun _ _ _ _ _ => (pg_tup rfl (pgs_cons (pg_name (i := 2) sc__law_writer_text.nd rfl (.inl rfl)) (pgs_cons (pg_name (i := 3) sc__law_writer_text.nd rfl (.inl rfl)) (pgs_cons (pg_name (i := 4) sc__law_writer_text.nd rfl (.inl rfl)) pgs_nil))))) (fun _ _ _ _ _ => pts_nil) (fun _ _ _ _ _ => (pe_op op_add_str (pe_op op_add_str (pe_callTy call_str_int (by rfl) T.m_str (by decide +kernel) (pa_cons (pv 2) pa_nil)) (pv 3)) (pe_callTy call_str_int (by rfl) T.m_str (by decide +kernel) (pa_cons (pv 4) pa_nil)))))
    (pss_one (ps_ret (pe_op op_add_str (pe_op op_add_str (pe_op op_add_str (pe_op op_add_str (pe_op op_add_str (pe_op op_add_str (pe_ix ix_tup (pv 0) pe_int (fun _ _ => rfl)) pe_str) (pe_orT (pe_join pe_str (pv 1)) (pe_one pe_str))) pe_str) (pe_callTy call_str_int (by rfl) T.m_str (by decide +kernel) (pa_cons (pe_ix ix_tup (pv 0) pe_int (fun _ _ => rfl)) pa_nil))) pe_str) (pe_callTy call_str_int (by rfl) T.m_str (by decide +kernel) (pa_cons (pe_ix ix_tup (pv 0) pe_int (fun _ _ => rfl)) pa_nil)))))), ?_⟩
    have elen : ps.length = ar.length := Paired.length hps
    have hl9 := g.len
    have ltold := told_len g.each g.len
    have lz := g.name.2.1
    have lp : (dig p).length = 1 := by rw [dig_eq g.p0 (by have := g.p3; omega)]; rfl
    have lc : (dig c).length = 1 := by rw [dig_eq g.c0 (by have := g.c3; omega)]; rfl
    have l5 : slash.length = 1 := by decide +kernel
    refine Evl.q_asgL (xs := (ar.map rowT).map V.str) ?_ fun D H1 nD s1 eD => ?_
    · rw [← rows_list (show (ps.map V.ref).length = ar.length by rw [List.length_map, elen])]
      refine el_lcT (a := tp) (xs := ps.map V.ref) _ (fun i => match ar[i]? with | some x => [some (.ref W), none, some (.int x.1), some (.str x.2.1), some (.int x.2.2)] | none => []) (ev_ixT (Evl.ev_var (by rfl)) Evl.ev_c (.of hW) (by decide) rfl) (.of htp) (by rw [List.length_map, elen]; omega) (fun i v H1 e1 hv Q2 q2 => ?_) (fun i hi => ?_) (fun i H1 e1 hi => ?_)
      · obtain ⟨p', hp, rfl⟩ := refs_at hv
        obtain ⟨x, hx, hpx⟩ := hps.get hp
        rw [hx] at q2
        exact ⟨p', _, rfl, .of (e1 _ _ hpx), rfl, _, _, rfl, _, _, rfl, _, _, rfl, rfl, q2⟩
      · rw [List.length_map, elen] at hi
        rw [List.getElem?_eq_getElem hi]
        rfl
      · rw [List.length_map, elen] at hi
        have hm := g.each _ (List.getElem_mem hi)
        rw [List.getElem?_eq_getElem hi]
        generalize ar[i] = x at hm
        have l3 := row_len hm
        unfold rowT at l3
        rw [Str.length_append, Str.length_append] at l3
        have l3' : (Str.ofString (toString x.1)).length + x.2.1.length + (Str.ofString (toString x.2.2)).length = 3 := l3
        obtain ⟨h1, h2, _, h3, h4⟩ := hm
        exact Evl.ev_op (Evl.ev_op (ev_strI (Evl.ev_var (by rfl)) h1 (by omega)) (Evl.ev_var (by rfl)) (rv_addS (by omega))) (ev_strI (Evl.ev_var (by rfl)) h3 (by omega)) (rv_addS (by rw [Str.length_append]; omega))
    · have hW1 := s1 _ _ hW
      have e0 : wText z ar p c = z ++ slash ++ told ar ++ slash ++ dig p ++ slash ++ dig c := join4 _ _ _ _
      have lp' : (Str.ofString (toString p)).length = 1 := lp
      have lc' : (Str.ofString (toString c)).length = 1 := lc
      have l5' : (Str.ofString "/").length = 1 := l5
      refine Evl.s_ret (v := .str (wText z ar p c)) (Evl.ev_is (v := .str (z ++ slash ++ told ar ++ slash ++ dig p ++ slash ++ dig c)) (Evl.ev_op (Evl.ev_op (Evl.ev_op (Evl.ev_op (Evl.ev_op (Evl.ev_op
        (ev_ixT (Evl.ev_var (by rfl)) Evl.ev_c (.of hW1) (by decide) rfl) Evl.ev_c (rv_addS (by omega)))
        (Evl.ev_is (ev_orT (y := Txt.join semi (ar.map rowT)) (d := dash) (ev_joinV Evl.ev_c (Evl.ev_var (by rfl)) (.of eD) ?_) (by have := join_rows_len g.each; omega) Evl.ev_c) (congrArg V.str (told_or g.each).symm)) (rv_addS ?_))
        Evl.ev_c (rv_addS ?_)) (ev_strI (ev_ixT (Evl.ev_var (by rfl)) Evl.ev_c (.of hW1) (by decide) rfl) g.p0 (by have := g.p3; omega)) (rv_addS ?_))
        Evl.ev_c (rv_addS ?_)) (ev_strI (ev_ixT (Evl.ev_var (by rfl)) Evl.ev_c (.of hW1) (by decide) rfl) g.c0 (by have := g.c3; omega)) (rv_addS ?_)) (by rw [e0])) fun H2 s2 => q H2 (Same.trans s1 s2)
      · have e1 := rows_sum g.each
        rw [e1, List.length_map]
        have : semi.length = 1 := by decide +kernel
        rw [this]
        omega
      all_goals (simp only [Str.length_append]; omega)
end
end Ink
namespace Ink
open PySem PySem.Spec PyProof.Rows L2
/-- a text, a little bent: one sign fewer, another one, one or two more -/
def spBent (K : PySem.W.Frag) : Sp := fun vs H Q _ => ∃ (a l p : Addr) (t : Str) (zs : List Str), vs = [.ref a, .str t, .ref p] ∧ BagAt H a l ∧ H p = some (.lst (zs.map V.str)) ∧ p ≠ a ∧ 0 < zs.length ∧ zs.length ≤ 100 ∧ (∀ z ∈ zs, z.length ≤ 1) ∧ t.length ≤ 800 ∧
  ∀ r H', r.length ≤ 2 * t.length + 102 → BagAt H' a l → Keep a H H' → Q (.str r) H'
section
variable {P : Program} {w : World} {K : PySem.W.Frag} {mg : Str → Option Value} {base : Heap}
theorem ok_bent {f : Addr} {fd : FuncData} {k : Nat} (F : Fun K "_law_bent_text" "_law_bent_text" sLBentText f fd) (T : Txt mg) (C__law_pull : Cal P w K mg base k "_law_pull" ["_law_bag_here", "_law_many"] spPull) (C__law_of : Cal P w K mg base k "_law_of" ["_law_bag_here", "_law_things"] (spOf K)) :
    FnOk P w K mg base CX0 (k + 1) f fd ["_law_bag_here", "_law_text", "_law_signs_here"] (spBent K) := by
  refine F.ok sc__law_bent_text (fun vs H Q E h => ?_) (fun cdv A outer s H vs Q E hr h => ?_)
  · obtain ⟨a, l, p, t, zs, rfl, _⟩ := h
    rfl
  · obtain ⟨a, l, p, t, zs, rfl, hB, hp, npa, hz0, hz1, hzs, ht, q⟩ := h
    refine ⟨_, (pss_cons (ps_par (i := 3) (j := 4) (by rfl) sc__law_bent_text.nd rfl rfl (by decide) rfl rfl (pa_cons (pe_callC C__law_pull hr (by rfl) (pa_cons (pv 0) (pa_cons (pe_op op_add (pe_callB call_len_str (by rfl) T.m_len PySem.boot_len (pa_cons (pv 1) pa_nil)) pe_int) pa_nil))) (pa_cons (pe_callC C__law_pull hr (by rfl) (pa_cons (pv 0) (pa_cons pe_int pa_nil))) pa_nil)) (by rfl))
    (pss_cons (ps_set (i := 5) sc__law_bent_text.nd rfl (.inl rfl) (pe_callC C__law_of hr (by rfl) (pa_cons (pv 0) (pa_cons (pv 2) pa_nil))))
    (pss_cons (ps_if (pt_cmpR op_eq (pv 4) pe_int (nomark _))
    (pss_one (ps_ret (pe_op op_add_str (pe_slice sl_str (pv 1) po_none (po_some (pv 3))) (pe_slice sl_str (pv 1) (po_some (pe_op op_add (pv 3) pe_int)) po_none)))) pss_nil)
    (pss_cons (ps_if (pt_cmpR op_eq (pv 4) pe_int (nomark _))
    (pss_one (ps_ret (pe_op op_add_str (pe_op op_add_str (pe_slice sl_str (pv 1) po_none (po_some (pv 3))) (pv 5)) (pe_slice sl_str (pv 1) (po_some (pe_op op_add (pv 3) pe_int)) po_none)))) pss_nil)
    (pss_one (ps_ret (pe_op op_add_str (pe_op op_add_str (pe_slice sl_str (pv 1) po_none (po_some (pv 3))) (pe_op op_mulS (pv 5) (pe_op op_sub (pv 4) pe_int))) (pe_slice sl_str (pv 1) (po_some (pv 3)) po_none)))))))), ?_⟩
    refine ⟨.ref a, rfl, .str t, rfl, t, rfl, small_le (by omega), _, _, rfl, rfl, a, l, _, rfl, hB, by omega, by omega, fun at' H1 a0 a1 hB1 k1 => ?_⟩
    refine ⟨.ref a, rfl, a, l, 4, rfl, hB1, by decide, by decide, fun pk H2 p0 p1 hB2 k2 => ⟨_, _, rfl, ?_⟩⟩
    dsimp only
    have hp2 := k2 _ _ npa (k1 _ _ npa hp)
    refine ⟨.ref a, rfl, .ref p, rfl, a, l, _, _, rfl, hB2, .inl ⟨p, rfl, npa, .inl (.of hp2)⟩, by rw [List.length_map]; exact hz0, by rw [List.length_map]; omega, fun v H3 hv hB3 k3 => ?_⟩
    obtain ⟨z, hz, rfl⟩ := List.mem_map.mp hv
    have hz := hzs z hz
    refine g_go ?_
    dsimp only
    have hk3 := (k1.trans k2).trans k3
    have c1 := cutS_length t none (some at')
    have c2 := cutS_length t (some (at' + 1)) none
    have c3 := cutS_length t (some at') none
    have st : t.length ≤ sizeLine := small_le (by omega)
    have sl : ∀ r : Str, r.length ≤ 2 * t.length + 102 → Q (.str r) H3 := fun r hr => q r H3 hr hB3 hk3
    have c4 := cutS_length t (some at') none
    refine Evl.q_when (b := decide (V.int pk = V.int 0)) (Evl.et_test (Evl.ev_op (Evl.ev_var rfl) Evl.ev_c (Evl.rv_eq rfl))) (fun _ H4 e4 => ?_) fun _ H4 e4 => ?_
    · refine ⟨.str t, rfl, .int at', rfl, at', rfl, t, rfl, st, .str t, rfl, .int at', rfl, at', 1, rfl, rfl, _, rfl, t, rfl, st, _, _, rfl, rfl, small_le (by omega), q _ H4 ?_ (hB3.same e4) (hk3.trans (Keep.of_same e4))⟩
      rw [Str.length_append]
      omega
    rename_i hn0
    refine Evl.q_when (b := decide (V.int pk = V.int 1)) (Evl.et_test (Evl.ev_op (Evl.ev_var rfl) Evl.ev_c (Evl.rv_eq rfl))) (fun _ H5 e5 => ?_) fun hn H5 e5 => ?_
    · refine ⟨.str t, rfl, .int at', rfl, at', rfl, t, rfl, st, .str z, rfl, _, _, rfl, rfl, small_le (by omega), .str t, rfl, .int at', rfl, at', 1, rfl, rfl, _, rfl, t, rfl, st, _, _, rfl, rfl, small_le ?_, q _ H5 ?_ ((hB3.same e4).same e5) (hk3.trans (Keep.of_same (e4.trans e5)))⟩
      · rw [Str.length_append]
        omega
      · rw [Str.length_append, Str.length_append]
        omega
    · have h0 : pk ≠ 0 := fun e => of_decide_eq_false hn0 (by rw [e])
      have h1 : pk ≠ 1 := fun e => of_decide_eq_false hn (by rw [e])
      refine ⟨.str t, rfl, .int at', rfl, at', rfl, t, rfl, st, .str z, rfl, .int pk, rfl, pk, 1, rfl, rfl, z, pk - 1, rfl, rfl, by omega, by omega, by omega, fun r hr => ⟨_, _, rfl, rfl, small_le (by omega), .str t, rfl, .int at', rfl, at', rfl, t, rfl, st, _, _, rfl, rfl, small_le ?_, q _ H5 ?_ ((hB3.same e4).same e5) (hk3.trans (Keep.of_same (e4.trans e5)))⟩⟩
      · rw [Str.length_append]
        have := cutS_length t (some at') none
        omega
      · rw [Str.length_append, Str.length_append]
        have := cutS_length t (some at') none
        omega
end
end Ink
namespace Ink
open PySem PySem.Spec PyProof.Rows L2 Evl
/-! ### the law's own reading of a writer's text -/
section
variable {K : PySem.W.Frag} {σ : L2.St} {H H' : Hp} {ta tb te tc : TE} {t : TT} {d d1 d2 : PyData} {ds es : List PyData} {v : V} {i : Nat}
theorem en_slFrom5 {k : Nat} (h : EvD K te σ H (.list ds)) (hk : Ev tb σ H (.int (k : Int))) : EvN K (tSl (rSlL K) te (tPart tb) tNoPart) σ H (ds.drop k) := fun H1 e Q q =>
  h H1 e _ fun v H2 e2 hv => hk H2 (e.trans e2) _ fun H3 e3 => ⟨(k : Int), rfl, by
    obtain ⟨p, xs, rfl, hs, hxs⟩ := dp_lst (dp_same e3 hv)
    refine ⟨p, xs, rfl, hs, fun p2 np => ?_⟩
    rw [vcut_from]
    exact q _ _ _ (fresh_back (e2.trans e3) np) ((e2.trans e3).trans (Ex.new np)) upd_same (dps_same (Ex.new np) (hxs.drop k))⟩
end
theorem inV_strs (z : Str) : ∀ zs : List Str, inV (.str z) (zs.map V.str) = decide (z ∈ zs)
  | [] => rfl
  | y :: zs => by
    have ih := inV_strs z zs
    unfold inV at ih ⊢
    rw [List.map_cons, List.any_cons, ih]
    show ((y == z) || decide (z ∈ zs)) = decide (z ∈ y :: zs)
    rw [Bool.eq_iff_iff]
    simp only [Bool.or_eq_true, beq_iff_eq, decide_eq_true_eq, List.mem_cons]
    exact or_congr ⟨Eq.symm, Eq.symm⟩ Iff.rfl

def four : List Str := ["0", "1", "2", "3"]
def inD4 (z : Str) : Bool := decide (z ∈ four)
def isD (z : Str) : Bool := match z.cps.toList[0]? with
  | some c => decide (c ∈ (Str.ofString "012").cps.toList)
  | none => false
theorem four_is {z : Str} : inD4 z = true ↔ ∃ n : Nat, n ≤ 3 ∧ z = single (48 + n) := by
  have e0 : (["0", "1", "2", "3"] : List Str) = [single 48, single 49, single 50, single 51] := by decide +kernel
  unfold inD4 four
  rw [decide_eq_true_iff, e0]
  simp only [List.mem_cons, List.not_mem_nil, or_false]
  constructor
  · rintro (rfl | rfl | rfl | rfl)
    · exact ⟨0, by decide, rfl⟩
    · exact ⟨1, by decide, rfl⟩
    · exact ⟨2, by decide, rfl⟩
    · exact ⟨3, by decide, rfl⟩
  · rintro ⟨n, hn, rfl⟩
    match n, hn with
    | 0, _ => exact .inl rfl
    | 1, _ => exact .inr (.inl rfl)
    | 2, _ => exact .inr (.inr (.inl rfl))
    | 3, _ => exact .inr (.inr (.inr rfl))
theorem isD_sing (c : Nat) : isD (single c) = decide (48 ≤ c ∧ c ≤ 50) := by
  have e : (Str.ofString "012").cps.toList = [48, 49, 50] := by decide +kernel
  unfold isD
  show decide (c ∈ (Str.ofString "012").cps.toList) = _
  rw [e]
  simp only [List.mem_cons, List.not_mem_nil, or_false]
  exact decide_eq_decide.mpr (by omega)
theorem intV_sing {n : Nat} (h : n ≤ 9) : intV (single (48 + n)) = (n : Int) := by
  unfold intV
  rw [int_fig h]
  rfl
/-- a figure that is none of the greater ones -/
theorem four_fig {z : Str} : inD4 z = (isFig z && within (intV z) 3) := by
  rw [Bool.eq_iff_iff, four_is, Bool.and_eq_true]
  constructor
  · rintro ⟨n, hn, rfl⟩
    rw [fig_sing, intV_sing (by omega)]
    unfold within
    simp
    omega
  · rintro ⟨h1, h2⟩
    obtain ⟨n, hn, rfl⟩ := fig_is h1
    rw [intV_sing hn] at h2
    unfold within at h2
    simp at h2
    exact ⟨n, by omega, rfl⟩
theorem isD_fig {c : Nat} : isD (single c) = (isFig (single c) && within (intV (single c)) 2) := by
  rw [isD_sing, Bool.eq_iff_iff, Bool.and_eq_true, decide_eq_true_iff]
  constructor
  · rintro ⟨h1, h2⟩
    obtain ⟨n, rfl⟩ : ∃ n, c = 48 + n := ⟨c - 48, by omega⟩
    rw [fig_sing, intV_sing (by omega)]
    unfold within
    simp
    omega
  · rintro ⟨h1, h2⟩
    obtain ⟨n, hn, e⟩ := fig_is h1
    have e : c = 48 + n := by
      have := congrArg (fun s : Str => s.cps.toList) e
      have e2 : ([c] : List Nat) = [48 + n] := this
      injection e2
    subst e
    rw [intV_sing hn] at h2
    unfold within at h2
    simp at h2
    omega
def aIn (t : Str) : Option Arw := if t.length = 3 ∧ lawName (chr t 1) = true ∧ isD (chr t 0) = true ∧ isD (chr t 2) = true then some (rowOf t) else none
/-- as the program looks at it, and at the arrow -/
theorem aIn_is (t : Str) : (aIn t).isSome = (isAT t && okA (rowOf t)) := by
  by_cases h3 : t.length = 3
  · obtain ⟨c0, _, e0⟩ := chr_at (z := t) (i := 0) (by omega)
    obtain ⟨c1, _, e1⟩ := chr_at (z := t) (i := 1) (by omega)
    obtain ⟨c2, _, e2⟩ := chr_at (z := t) (i := 2) (by omega)
    have hA : isAT t = (isFig (chr t 0) && isFig (chr t 2)) := by
      unfold isAT
      rw [h3]
      rfl
    have hO : okA (rowOf t) = (within (intV (chr t 0)) 2 && (lawName (chr t 1) && within (intV (chr t 2)) 2)) := by
      unfold okA rowOf
      show (within (intV (chr t 0)) 2 && (isSign (chr t 1) && within (intV (chr t 2)) 2)) = _
      rw [sign_eq, e1]
      show (_ && ((lawName (single c1) && decide (V.int ((1 : Nat) : Int) = V.int 1)) && _)) = _
      rw [decide_eq_true (show V.int ((1 : Nat) : Int) = V.int 1 from rfl), Bool.and_true]
    rw [hA, hO]
    unfold aIn
    have d0 : isD (chr t 0) = (isFig (chr t 0) && within (intV (chr t 0)) 2) := by rw [e0]; exact isD_fig
    have d2 : isD (chr t 2) = (isFig (chr t 2) && within (intV (chr t 2)) 2) := by rw [e2]; exact isD_fig
    rw [d0, d2]
    cases isFig (chr t 0) <;> cases isFig (chr t 2) <;> cases within (intV (chr t 0)) 2 <;> cases within (intV (chr t 2)) 2 <;> cases lawName (chr t 1) <;> simp [h3]
  · unfold aIn isAT
    rw [if_neg (fun h => h3 h.1), decide_eq_false (fun e => h3 (by injection e with e; omega))]
    rfl
theorem aIn_some {t : Str} {x : Arw} (h : aIn t = some x) : x = rowOf t := by
  unfold aIn at h
  split at h
  · exact (Option.some.inj h).symm
  · cases h
def rdL4 (a b c d : Str) : Option (Str × List Arw × Int × Int) :=
  if (inD4 c && inD4 d) = true ∧ (wordsOf b).all (fun z => (aIn z).isSome) = true ∧ lawWr a ((wordsOf b).map rowOf) (intV c) (intV d) = true then some (a, (wordsOf b).map rowOf, intV c, intV d) else none
theorem rd_eq4 (a b c d : Str) : rd4 a b c d = rdL4 a b c d := by
  unfold rd4 rdL4
  have key : (isFig c = true ∧ isFig d = true ∧ (wordsOf b).all isAT = true ∧ isWr a ((wordsOf b).map rowOf) (intV c) (intV d) = true) ↔ ((inD4 c && inD4 d) = true ∧ (wordsOf b).all (fun z => (aIn z).isSome) = true ∧ lawWr a ((wordsOf b).map rowOf) (intV c) (intV d) = true) := by
    rw [← wr_eq]
    constructor
    · rintro ⟨h1, h2, h3, h4⟩
      have h4' := h4
      unfold isWr at h4
      rw [Bool.and_eq_true, Bool.and_eq_true, Bool.and_eq_true] at h4
      obtain ⟨_, hr, hc, hd⟩ := h4
      refine ⟨?_, ?_, h4'⟩
      · rw [four_fig, four_fig, h1, h2, hc, hd]
        rfl
      · refine List.all_eq_true.mpr fun z hz => ?_
        rw [aIn_is, List.all_eq_true.mp h3 z hz, Bool.true_and]
        unfold areArr at hr
        split at hr
        · cases hr
        · split at hr
          · cases hr
          · rename_i h5
            have h5 : (((wordsOf b).map rowOf).map okA).all id = true := by
              cases e : (((wordsOf b).map rowOf).map okA).all id with
              | true => rfl
              | false => exact absurd e h5
            exact List.all_eq_true.mp h5 _ (List.mem_map_of_mem (List.mem_map_of_mem hz))
    · rintro ⟨h1, h2, h3⟩
      rw [Bool.and_eq_true, four_fig, four_fig, Bool.and_eq_true, Bool.and_eq_true] at h1
      refine ⟨h1.1.1, h1.2.1, List.all_eq_true.mpr fun z hz => ?_, h3⟩
      have := List.all_eq_true.mp h2 z hz
      rw [aIn_is, Bool.and_eq_true] at this
      exact this.1
  by_cases h : (inD4 c && inD4 d) = true ∧ (wordsOf b).all (fun z => (aIn z).isSome) = true ∧ lawWr a ((wordsOf b).map rowOf) (intV c) (intV d) = true
  · rw [if_pos h, if_pos (key.mpr h)]
  · rw [if_neg h, if_neg (fun z => h (key.mp z))]
end Ink
namespace Ink
open PySem PySem.Spec PyProof.Rows L2
def spAI : Sp := fun vs H Q _ => ∃ t, vs = [.str t] ∧ t.length ≤ 1000 ∧ (aIn t = none → ∀ H', Same H H' → Q .non H') ∧ ∀ x, aIn t = some x → ∀ p H', H p = none → Same H H' → H' p = some (.tup [.int x.1, .str x.2.1, .int x.2.2]) → Q (.ref p) H'
/-- the law's own reading: the writer, or None -/
def spWI : Sp := fun vs H Q _ => ∃ t, vs = [.str t] ∧ t.length ≤ 900 ∧ (rdP t = none → ∀ H', Same H H' → Q .non H') ∧ ∀ z ar p c, rdP t = some (z, ar, p, c) → ∀ W H', H W = none → Same H H' → WrAt H' W z ar p c → Q (.ref W) H'
theorem use_tif {t : TT} {ta tb : TE} {σ : L2.St} {H : Hp} {Q : VK} {b : Bool} (h : Evl.EvT t σ H b) (h1 : b = true → ∀ H1, Evl.Ex H H1 → ta σ H1 Q) (h2 : b = false → ∀ H1, Evl.Ex H H1 → tb σ H1 Q) : tIf t ta tb σ H Q := h H (.refl H) _ fun H1 e => by
  cases b with
  | true => exact iteT (h1 rfl H1 e)
  | false => exact iteF (h2 rfl H1 e)
theorem q_asgE {te : TE} {tz : TS} {i : Nat} {D : Ends} {σ : L2.St} {H : Hp} (M : V → Hp → Prop) (h : ∀ Q : VK, (∀ v H1, M v H1 → Q v H1) → te σ H Q) (k : ∀ v H1, M v H1 → tz D (σ.set i (some v)) H1) : tSeq (tAsg te (gName i)) tz D σ H := h _ k
theorem ev_in4 {K : PySem.W.Frag} {ta : TE} {σ : L2.St} {H : Hp} {z : Str} (h : Evl.Ev ta σ H (.str z)) : Evl.Ev (tOp (rIn K false) ta (tTup (tCons (tC (.str "0")) (tCons (tC (.str "1")) (tCons (tC (.str "2")) (tCons (tC (.str "3")) tNil)))))) σ H (.bl (inD4 z)) := fun H1 e Q q =>
  h H1 e _ fun H2 e2 => ⟨by show 4 ≤ sizeLine; decide, fun t nt => ⟨t, _, rfl, .inr (.of upd_same), rfl, rfl, by
    have e3 : inV (.str z) [V.str "0", V.str "1", V.str "2", V.str "3"] = inD4 z := inV_strs z four
    show Q (.bl (inV (.str z) [V.str "0", V.str "1", V.str "2", V.str "3"])) _
    rw [e3]
    exact q _ (e2.trans (Evl.Ex.new nt))⟩⟩
/-- rows as they were read, or None -/
def RowV5 (H : Hp) (v : V) (z : Str) : Prop := match aIn z with
  | none => v = .non
  | some x => ∃ p, v = .ref p ∧ ArwAt H p x
def RowsAt (H : Hp) (vs : List V) (ws : List Str) : Prop := Paired (RowV5 H) vs ws
theorem RowV5.keep {H H' : Hp} {v : V} {z : Str} (e : ∀ b xs, H b = some (.tup xs) → H' b = some (.tup xs)) (h : RowV5 H v z) : RowV5 H' v z := by
  unfold RowV5 at h ⊢
  split at h
  · exact h
  · obtain ⟨p, hv, hp⟩ := h
    exact ⟨p, hv, e _ _ hp⟩
theorem RowsAt.keep {H H' : Hp} {vs : List V} {ws : List Str} (e : ∀ b xs, H b = some (.tup xs) → H' b = some (.tup xs)) (h : RowsAt H vs ws) : RowsAt H' vs ws := L2.Paired.mapP h fun _ _ r => r.keep e
def dIn (z : Str) : PyData := match aIn z with
  | none => .none
  | some x => dA x
theorem rows_dp {K : PySem.W.Frag} {H : Hp} : ∀ {vs : List V} {ws : List Str}, RowsAt H vs ws → DpAll K H vs (ws.map dIn)
  | _, _, .nil => .nil
  | _, _, .cons (b := z) r t => by
    rw [List.map_cons]
    refine .cons ?_ (rows_dp t)
    unfold RowV5 at r
    unfold dIn
    split at r
    · rw [r]
      exact .non
    · obtain ⟨p, rfl, hp⟩ := r
      exact .tup (.of hp) (.cons (.int _) (.cons (.str _) (.cons (.int _) .nil)))
theorem rows_ars {H : Hp} : ∀ {vs : List V} {ws : List Str}, RowsAt H vs ws → ws.all (fun z => (aIn z).isSome) = true → ∃ ps : List Addr, vs = ps.map V.ref ∧ ArsAt H ps (ws.map rowOf)
  | _, _, .nil, _ => ⟨[], rfl, .nil⟩
  | _, _, .cons (b := z) r t, h => by
    rw [List.all_cons, Bool.and_eq_true] at h
    obtain ⟨ps, e, ha⟩ := rows_ars t h.2
    unfold RowV5 at r
    cases hz : aIn z with
    | none =>
      rw [hz] at h
      exact nomatch h.1
    | some x =>
      rw [hz] at r
      obtain ⟨p, rfl, hp⟩ := r
      rw [aIn_some hz] at hp
      exact ⟨p :: ps, by rw [e]; rfl, .cons hp ha⟩
theorem none_in (ws : List Str) : ((ws.map dIn).any fun z => PyData.eqv z .none) = !ws.all (fun z => (aIn z).isSome) := by
  induction ws with
  | nil => rfl
  | cons z ws ih =>
    rw [List.map_cons, List.any_cons, List.all_cons, ih]
    have : PyData.eqv (dIn z) .none = !(aIn z).isSome := by
      unfold dIn
      split
      · rename_i e
        rw [e]
        rfl
      · rename_i x e
        rw [e]
        unfold dA
        rfl
    rw [this, Bool.not_and]
theorem lets_ok5 : ∀ c ∈ lets, PyData.strOk (single c) = true := by decide +kernel
theorem lay_all5 {α : Type} {f : α → PyData} : ∀ {l : List α}, (∀ x ∈ l, (f x).canLay0 = true) → PyData.canLayAll0 (l.map f) = true
  | [], _ => by simp only [List.map_nil, PyData.canLayAll0]
  | x :: l, h => by
    simp only [List.map_cons, PyData.canLayAll0, Bool.and_eq_true]
    exact ⟨h x (List.mem_cons_self ..), lay_all5 fun y hy => h y (List.mem_cons_of_mem _ hy)⟩
theorem depth_all5 {α : Type} {f : α → PyData} {n : Nat} : ∀ {l : List α}, (∀ x ∈ l, (f x).depth ≤ n) → PyData.depthAll (l.map f) ≤ n
  | [], _ => by
    simp only [List.map_nil, PyData.depthAll]
    exact Nat.zero_le _
  | x :: l, h => by
    have h1 := h x (List.mem_cons_self ..)
    have h2 := depth_all5 fun y hy => h y (List.mem_cons_of_mem _ hy)
    simp only [List.map_cons, PyData.depthAll]
    omega
theorem dIn_lay (z : Str) : (dIn z).canLay0 = true := by
  unfold dIn
  split
  · simp only [PyData.canLay0]
  · rename_i x e
    have hx := aIn_some e
    unfold aIn at e
    split at e
    · rename_i h
      obtain ⟨c, hc, e1⟩ := chr_at (z := z) (i := 1) (by omega)
      have hn := h.2.1
      rw [e1] at hn
      unfold lawName at hn
      rw [Bool.and_eq_true] at hn
      have hl : decide (c ∈ lets) = true := List.all_eq_true.mp hn.2 _ (List.mem_map_of_mem (f := fun c => decide (c ∈ lets)) (show c ∈ (single c).cps.toList from List.mem_singleton.mpr rfl))
      have ok := lets_ok5 c (of_decide_eq_true hl)
      rw [hx]
      unfold dA rowOf
      rw [e1]
      simp only [PyData.canLay0, PyData.canLayAll0, ok, Bool.and_self]
    · cases e
theorem dIn_depth (z : Str) : (dIn z).depth ≤ 3 := by
  unfold dIn dA
  split
  · simp only [PyData.depth]
    decide
  · simp only [PyData.depth, PyData.depthAll]
    decide
theorem rows_shaped (ws : List Str) : SeqAt.shaped (.list (ws.map dIn)) = true := by
  have h1 := lay_all5 (f := dIn) (l := ws) fun z _ => dIn_lay z
  have h2 := depth_all5 (f := dIn) (n := 3) (l := ws) fun z _ => dIn_depth z
  unfold SeqAt.shaped
  rw [Bool.and_eq_true, decide_eq_true_eq]
  refine ⟨by simp only [PyData.canLay0]; exact h1, ?_⟩
  simp only [PyData.depth]
  omega
theorem ev_inD5 {K : PySem.W.Frag} {σ : L2.St} {H : Hp} {ta tb : TE} {d : PyData} {ds : List PyData} (ha : EvD K ta σ H d) (hb : EvD K tb σ H (.list ds)) (h1 : SeqAt.shaped d = true) (h2 : SeqAt.shaped (.list ds) = true) : Evl.Ev (tOp (rInD K) ta tb) σ H (.bl (ds.any fun z => PyData.eqv z d)) := fun H1 e Q q =>
  ha H1 e _ fun v H2 e2 hv => hb H2 (e.trans e2) _ fun w H3 e3 hw => ⟨d, ds, dp_same e3 hv, hw, h1, h2, q H3 (e2.trans e3)⟩
section
variable {P : Program} {w : World} {K : PySem.W.Frag} {mg : Str → Option Value} {base : Heap}
theorem ok_arrow_in {f : Addr} {fd : FuncData} {k : Nat} (F : Fun K "_law_arrow_in" "_law_arrow_in" sLArrowIn f fd) (T : Txt mg) (C__law_is_name : Cal P w K mg base k "_law_is_name" ["_law_text"] spLawName) : FnOk P w K mg base CX0 (k + 1) f fd ["_law_text"] spAI := by
  refine F.ok sc__law_arrow_in (fun vs H Q E h => ?_) (fun cdv A outer s H vs Q E hr h => ?_)
  · obtain ⟨t, rfl, _⟩ := h
    rfl
  · obtain ⟨t, rfl, ht, qn, qs⟩ := h
    refine ⟨_, (pss_cons (ps_if (PW.pt (pw_or (pt_cmpR op_ne (pe_callB call_len_str (by rfl) T.m_len PySem.boot_len (pa_cons (pv 0) pa_nil)) pe_int (nomark _)) (pw_or1 (pt_not (pt_val (pe_callC C__law_is_name hr (by rfl) (pa_cons (pe_ix ix_str (pv 0) pe_int (fun _ _ => rfl)) pa_nil)))))))
    (pss_one (ps_ret pe_non)) pss_nil)
    (pss_cons (ps_set (i := 1) sc__law_arrow_in.nd rfl (.inl rfl) (pe_and (pe_cmpR op_in_sign (pe_ix ix_str (pv 0) pe_int (fun _ _ => rfl)) pe_str (by rfl)) (pe_one (pe_cmpR op_in_sign (pe_ix ix_str (pv 0) pe_int (fun _ _ => rfl)) pe_str (by rfl)))))
    (pss_one (ps_ret (pe_ifExp (pt_val (pv 1)) (pe_tup (pa_cons (pe_callTy call_int_str (by rfl) T.m_int (by decide +kernel) (pa_cons (pe_ix ix_str (pv 0) pe_int (fun _ _ => rfl)) pa_nil)) (pa_cons (pe_ix ix_str (pv 0) pe_int (fun _ _ => rfl)) (pa_cons (pe_callTy call_int_str (by rfl) T.m_int (by decide +kernel) (pa_cons (pe_ix ix_str (pv 0) pe_int (fun _ _ => rfl)) pa_nil)) pa_nil)))) pe_non))))), ?_⟩
    by_cases h3 : t.length = 3
    case neg =>
      have hn : aIn t = none := by
        unfold aIn
        exact if_neg fun h => h3 h.1
      exact Evl.q_when (b := true) (Evl.et_or (a := true) (b := true) (Evl.et_is (Evl.et_test (Evl.ev_op (ev_lenS (Evl.ev_var (by rfl)) (by omega)) Evl.ev_c (Evl.rv_ne rfl))) ((Bool.not_eq_true' _).mpr (decide_eq_false fun e => h3 (by injection e with e; omega)))) fun h => nomatch h) (fun _ H2 s2 => qn hn H2 s2) fun h => nomatch h
    obtain ⟨c0, k0, e0⟩ := chr_at (z := t) (i := 0) (by omega)
    obtain ⟨c1, k1, e1⟩ := chr_at (z := t) (i := 1) (by omega)
    obtain ⟨c2, k2, e2⟩ := chr_at (z := t) (i := 2) (by omega)
    refine Evl.q_when (b := !lawName (chr t 1)) (Evl.et_is (Evl.et_or (a := false) (b := !lawName (chr t 1)) (Evl.et_is (Evl.et_test (Evl.ev_op (ev_lenS (Evl.ev_var (by rfl)) (by omega)) Evl.ev_c (Evl.rv_ne rfl))) (by rw [h3]; rfl)) fun _ => Evl.et_not (Evl.et_B (ev_call (vs := [.str (single c1)]) (Evl.ea_cons (ev_ixS (Evl.ev_var (by rfl)) Evl.ev_c (by omega) (by decide) k1) Evl.ea_nil) fun H2 Q2 _ q2 => ⟨_, rfl, by show 1 ≤ 1000; decide, by rw [← e1]; exact q2⟩))) rfl) (fun hb H2 s2 => ?_) fun hb H2 s2 => ?_
    · refine qn ?_ H2 s2
      unfold aIn
      exact if_neg fun h => by
        rw [h.2.1] at hb
        exact nomatch hb
    rw [Bool.not_eq_false'] at hb
    refine Evl.q_asg (v := .bl (isD (chr t 0) && isD (chr t 2))) (Evl.ev_andV (a := isD (chr t 0)) (b := isD (chr t 2)) ?_ fun _ => ?_) fun H3 s3 => ?_
    · rw [e0]
      exact Evl.ev_op (ev_ixS (Evl.ev_var (by rfl)) Evl.ev_c (by omega) (by decide) k0) Evl.ev_c (fun H1 _ _ q => ⟨c0, _, rfl, rfl, q H1 (Evl.Ex.refl H1)⟩)
    · rw [e2]
      exact Evl.ev_op (ev_ixS (Evl.ev_var (by rfl)) Evl.ev_c (by omega) (by decide) k2) Evl.ev_c (fun H1 _ _ q => ⟨c2, _, rfl, rfl, q H1 (Evl.Ex.refl H1)⟩)
    refine ⟨_, rfl, _, rfl, ?_⟩
    by_cases hg : (isD (chr t 0) && isD (chr t 2)) = true
    case neg =>
      rw [Bool.eq_false_iff.mpr hg]
      refine iteF (qn ?_ H3 (s2.trans s3))
      unfold aIn
      exact if_neg fun h => hg (by rw [h.2.2.1, h.2.2.2]; rfl)
    rw [hg]
    rw [Bool.and_eq_true] at hg
    obtain ⟨g0, g2⟩ := hg
    have ha : aIn t = some (rowOf t) := by
      unfold aIn
      exact if_pos ⟨h3, hb, g0, g2⟩
    have f0 : isFig (chr t 0) = true := by
      rw [e0, isD_fig, Bool.and_eq_true] at g0
      rw [e0]
      exact g0.1
    have f2 : isFig (chr t 2) = true := by
      rw [e2, isD_fig, Bool.and_eq_true] at g2
      rw [e2]
      exact g2.1
    have i0 := (intV_fig f0).1
    have i2 := (intV_fig f2).1
    have er : rowOf t = (intV (chr t 0), single c1, intV (chr t 2)) := by
      unfold rowOf
      rw [e1]
    rw [e0] at i0
    rw [e2] at i2
    rw [e0, e2] at er
    rw [er] at ha
    refine iteT ⟨.str t, rfl, _, 0, c0, rfl, rfl, small_le (by omega), atI_of (by decide) k0, _, intV (single c0), rfl, i0, by show 1 ≤ 640; decide, .str t, rfl, _, 1, c1, rfl, rfl, small_le (by omega), atI_of (by decide) k1, .str t, rfl, _, 2, c2, rfl, rfl, small_le (by omega), atI_of (by decide) k2, _, intV (single c2), rfl, i2, by show 1 ≤ 640; decide, by show 3 ≤ sizeLine; decide, fun p' np' => ?_⟩
    have s23 := Same.trans s2 s3
    exact qs _ ha p' _ (s23.free np') (s23.trans (same_new np')) upd_same
theorem ok_writer_in {f : Addr} {fd : FuncData} {k : Nat} (F : Fun K "_law_writer_in" "_law_writer_in" sLWriterIn f fd) (T : Txt mg) (C__law_arrow_in : Cal P w K mg base k "_law_arrow_in" ["_law_text"] spAI) (C__law_is_writer : Cal P w K mg base k "_law_is_writer" ["_law_thing"] (spIsWriter lawWr)) : FnOk P w K mg base CX0 (k + 1) f fd ["_law_text"] spWI := by
  refine F.ok sc__law_writer_in (fun vs H Q E h => ?_) (fun cdv A outer s H vs Q E hr h => ?_)
  · obtain ⟨t, rfl, _⟩ := h
    rfl
  · obtain ⟨t, rfl, ht, qn, qs⟩ := h
    refine ⟨_, (pss_cons (ps_set (i := 1) sc__law_writer_in.nd rfl (.inl rfl) (pe_split (pv 0) pe_str))
    (pss_cons (ps_if (PW.pt (pw_or (pt_cmpR op_ne (pe_callB call_len (by rfl) T.m_len PySem.boot_len (pa_cons (pv 1) pa_nil)) pe_int (nomark _)) (pw_or1 (pt_not (pt_val (pe_callB (cr_all rfl) (by rfl) T.m_all (by decide +kernel) (pa_cons (pe_lc (own := [("_law_part", 4)]) (g := (gName 4)) (by rfl) sc__law_writer_in.nd (pi_list (pe_slice sl_list (pv 1) (po_some pe_int) po_none)) (blkOk_by (own := [("_law_part", 4)]) (N := ["_law_text", "_law_parts", "_law_rows", "_law_writer_here", "_law_part", "_law_row"]) (sc := defScope sLWriterIn) (by decide +kernel)) (fun _ _ _ _ _ => (pg_name (i := 4) sc__law_writer_in.nd rfl (Or.inl rfl))) (fun _ _ _ _ _ => pts_nil) (fun _ _ _ _ _ => (pe_cmpR (show OpR _ _ (rIn K false) from op_in_seq) (pv 4) (pe_tup (pa_cons pe_str (pa_cons pe_str (pa_cons pe_str (pa_cons pe_str pa_nil))))) (by rfl)))) pa_nil)))))))
    (pss_one (ps_ret pe_non)) pss_nil)
    (pss_cons (ps_set (i := 2) sc__law_writer_in.nd rfl (.inl rfl) (pe_ifExp (pt_cmpR op_eq (pe_ix ix_list (pv 1) pe_int (fun _ _ => rfl)) pe_str (nomark _)) (pe_lst pa_nil) (pe_lc (own := [("_law_row", 5)]) (g := (gName 5)) (by rfl) sc__law_writer_in.nd (pi_list (pe_split (pe_ix ix_list (pv 1) pe_int (fun _ _ => rfl)) pe_str)) (blkOk_by (own := [("_law_row", 5)]) (N := ["_law_text", "_law_parts", "_law_rows", "_law_writer_here", "_law_part", "_law_row"]) (sc := defScope sLWriterIn) (by decide +kernel)) (fun _ _ _ _ _ => (pg_name (i := 5) sc__law_writer_in.nd rfl (Or.inl rfl))) (fun _ _ _ _ _ => pts_nil) (fun _ _ _ _ _ => (pe_callC C__law_arrow_in hr (by rfl) (pa_cons (pv 5) pa_nil))))))
    (pss_cons (ps_if (pt_cmpR (show OpR _ _ (rInD K) from op_inD (hu65 hr)) pe_non (pv 2) (by rfl))
    (pss_one (ps_ret pe_non)) pss_nil)
    (pss_cons (ps_set (i := 3) sc__law_writer_in.nd rfl (.inl rfl) (pe_tup (pa_cons (pe_ix ix_list (pv 1) pe_int (fun _ _ => rfl)) (pa_cons (pe_callTy call_tuple_of (by rfl) T.m_tuple (by decide +kernel) (pa_cons (pv 2) pa_nil)) (pa_cons (pe_callTy call_int_str (by rfl) T.m_int (by decide +kernel) (pa_cons (pe_ix ix_list (pv 1) pe_int (fun _ _ => rfl)) pa_nil)) (pa_cons (pe_callTy call_int_str (by rfl) T.m_int (by decide +kernel) (pa_cons (pe_ix ix_list (pv 1) pe_int (fun _ _ => rfl)) pa_nil)) pa_nil))))))
    (pss_one (ps_ret (pe_ifExp (pt_val (pe_callC C__law_is_writer hr (by rfl) (pa_cons (pv 3) pa_nil))) (pv 3) pe_non)))))))), ?_⟩
    have hp := slash_small t
    refine Evl.q_asgL (xs := (Txt.split t slash).map V.str) (el_split (Evl.ev_var (by rfl)) Evl.ev_c (by decide +kernel) (by omega) rfl) fun pp H1 npp s1 epp => ?_
    by_cases h4 : (Txt.split t slash).length = 4
    case neg =>
      refine Evl.q_when (b := true) (Evl.et_or (a := true) (b := true) (Evl.et_is (Evl.et_test (Evl.ev_op (ev_lenL (Evl.ev_var (by rfl)) (.of epp)) Evl.ev_c (Evl.rv_ne rfl))) (by
        rw [List.length_map]
        refine (Bool.not_eq_true' _).mpr (decide_eq_false fun e => h4 ?_)
        injection e with e
        omega)) fun h => nomatch h) (fun _ H2 s2 => qn (rdP_other h4) H2 (s1.trans s2)) fun h => nomatch h
    have e4 : ∃ a b c d, Txt.split t slash = [a, b, c, d] := by
      match e : Txt.split t slash, h4 with
      | [a, b, c, d], _ => exact ⟨a, b, c, d, rfl⟩
    obtain ⟨a, b, c, d, e4⟩ := e4
    rw [e4] at epp hp
    have ha := hp.1 a (by simp)
    have hb := hp.1 b (by simp)
    have e40 : rdP t = rdL4 a b c d := (rdP_four e4).trans (rd_eq4 a b c d)
    have hpd : Dp K H1 (.ref pp) (.list ([a, b, c, d].map PyData.str)) := .lst (.of epp) (.cons (.str a) (.cons (.str b) (.cons (.str c) (.cons (.str d) .nil))))
    refine Evl.q_when (b := !(inD4 c && inD4 d)) (Evl.et_is (Evl.et_or (a := false) (b := !(inD4 c && inD4 d)) (Evl.et_test (Evl.ev_op (ev_lenL (Evl.ev_var (by rfl)) (.of epp)) Evl.ev_c (Evl.rv_ne rfl))) fun _ => Evl.et_not (Evl.et_B (Evl.ev_is (ev_allD (K := K) (bs := [inD4 c, inD4 d]) (EvN.list ?_)) (by simp)))) rfl) (fun hf H2 s2 => ?_) fun hf H2 s2 => ?_
    · refine en_map (K := K) [c, d] PyData.str (fun z => PyData.bool (inD4 z)) (ei_lst (EvN.list (en_slFrom5 (k := 2) (ed_var rfl hpd) Evl.ev_c))) (by show 2 ≤ 40000; decide) (fun _ _ => by unfold fz; rfl) fun i z H3 x hx e3 hd R kk => ?_
      obtain rfl := dp_str hd
      exact kk _ rfl (ed_bl (ev_in4 (Evl.ev_var rfl)))
    · refine qn ?_ H2 (s1.trans s2)
      rw [e40]
      unfold rdL4
      exact if_neg fun h => by
        rw [h.1] at hf
        exact nomatch hf
    rw [Bool.not_eq_false'] at hf
    have epp2 := s2 _ _ epp
    have hba : (inD4 c && inD4 d) = true := hf
    rw [Bool.and_eq_true] at hf
    have fc : isFig c = true := by
      have := hf.1
      rw [four_fig, Bool.and_eq_true] at this
      exact this.1
    have fd' : isFig d = true := by
      have := hf.2
      rw [four_fig, Bool.and_eq_true] at this
      exact this.1
    -- the rows
    refine q_asgE (M := fun v H' => ∃ D vs, v = .ref D ∧ Same H2 H' ∧ H' D = some (.lst vs) ∧ RowsAt H' vs (wordsOf b)) (fun Q0 k0 => ?_) fun v H3 hM => ?_
    · refine use_tif (b := decide (b = dash)) (Evl.et_is (Evl.et_test (Evl.ev_op (ev_ixL (v := .str b) (Evl.ev_var (by rfl)) Evl.ev_c (.of epp2) (by decide) rfl) Evl.ev_c (Evl.rv_eq rfl))) (decide_eq_decide.mpr ⟨fun e => by injection e, fun e => by rw [e]⟩)) (fun hb3 H4 s4 => ?_) fun hb3 H4 s4 => ?_
      · have ew : wordsOf b = [] := by
          unfold wordsOf
          exact if_pos (of_decide_eq_true hb3)
        exact ⟨by show 0 ≤ sizeLine; decide, fun D nD => k0 _ _ ⟨D, [], rfl, Same.trans s4 (same_new nD), upd_same, by rw [ew]; exact .nil⟩⟩
      · have ew : wordsOf b = Txt.split b semi := by
          unfold wordsOf
          exact if_neg (of_decide_eq_false hb3)
        have hsm := semi_small b
        refine (el_split (ev_ixL (v := .str b) (Evl.ev_var (by rfl)) Evl.ev_c (.of (s4 _ _ epp2)) (by decide) rfl) Evl.ev_c (by decide +kernel) (by omega) rfl) H4 (.refl _) _ fun wp H5 nwp s5 ewp => ⟨wp, rfl, ⟨_, .of ewp⟩, fun D nD => ?_⟩
        refine lc_it (walk_list (xs := (Txt.split b semi).map V.str)) (fun i H' => Same H5 H' ∧ ∃ vs, H' D = some (.lst vs) ∧ RowsAt H' vs ((Txt.split b semi).take i)) ⟨same_new nD, [], upd_same, .nil⟩ (fun i H' _ hP => .of (hP.1 _ _ ewp)) (fun i v H6 H7 hi hP hy => ?_) (fun H6 hP => ?_)
        · obtain ⟨rfl, hv⟩ := hy
          obtain ⟨s6, vs, eD, hvs⟩ := hP
          rw [List.length_map] at hi
          have hx : (Txt.split b semi)[i]? = some (Txt.split b semi)[i] := List.getElem?_eq_getElem hi
          rw [List.getElem?_map, hx] at hv
          have hv := Option.some.inj hv
          subst hv
          have htk := take_snoc hx
          have hzl := hsm.1 _ (List.getElem_mem hi)
          have hvl : vs.length = ((Txt.split b semi).take i).length := Paired.length hvs
          rw [List.length_take] at hvl
          generalize (Txt.split b semi)[i] = z at htk hzl
          refine ⟨rfl, yes_of (iteT ?_)⟩
          have fin : ∀ (v : V) (H8 : Hp), Same H7 H8 → RowV5 H8 v z → Same H5 (upd H8 D (.lst (vs ++ [v]))) ∧ ∃ vs', (upd H8 D (.lst (vs ++ [v]))) D = some (.lst vs') ∧ RowsAt (upd H8 D (.lst (vs ++ [v]))) vs' ((Txt.split b semi).take (i + 1)) := fun v H8 s8 hr => by
            have keep : ∀ b xs, H8 b = some (.tup xs) → (upd H8 D (.lst (vs ++ [v]))) b = some (.tup xs) := fun b xs h => by
              rw [upd_ne (ne_of h (s8 _ _ eD) (by intro z; cases z))]
              exact h
            refine ⟨same_mut (Same.trans s6 s8) nD, vs ++ [v], upd_same, ?_⟩
            rw [htk]
            exact prd_snoc (RowsAt.keep (fun b xs h => keep b xs (s8 _ _ h)) hvs) (hr.keep keep)
          refine ⟨.str z, rfl, z, rfl, by omega, fun hn H8 s8 => ⟨vs, s8 _ _ eD, small_lt (by omega), fin .non H8 s8 (by unfold RowV5; rw [hn])⟩, fun x hx p H8 np s8 ep => ⟨vs, s8 _ _ eD, small_lt (by omega), fin (.ref p) H8 s8 (by unfold RowV5; rw [hx]; exact ⟨p, rfl, ep⟩)⟩⟩
        · obtain ⟨s6, vs, eD, hvs⟩ := hP
          rw [List.length_map, List.take_length] at hvs
          exact k0 _ _ ⟨D, vs, rfl, Same.trans s4 (Same.trans s5 s6), eD, by rw [ew]; exact hvs⟩
    obtain ⟨D, vs, rfl, s3, eD, hvs⟩ := hM
    have s03 := Same.trans (Same.trans s1 s2) s3
    have epp3 := s3 _ _ epp2
    have hvd := rows_dp (K := K) hvs
    have hwl := (words_small (q := b)).2
    have hvl : vs.length = (wordsOf b).length := Paired.length hvs
    refine Evl.q_when (b := !(wordsOf b).all (fun z => (aIn z).isSome)) (Evl.et_is (Evl.et_test (ev_inD5 (fun H1 e Q q => q .non H1 (.refl _) .non) (ed_var rfl (.lst (.of eD) hvd)) rfl (rows_shaped _))) (none_in _)) (fun hf H4 s4 => ?_) fun hf H4 s4 => ?_
    · refine qn ?_ H4 (s03.trans s4)
      rw [e40]
      unfold rdL4
      exact if_neg fun h => by
        rw [h.2.1] at hf
        exact nomatch hf
    rw [Bool.not_eq_false'] at hf
    obtain ⟨ps, rfl, hps⟩ := rows_ars hvs hf
    have eD4 := s4 _ _ eD
    have epp4 := s4 _ _ epp3
    have hps4 := hps.same s4
    obtain ⟨ic, c0, c9, lc⟩ := intV_fig fc
    obtain ⟨id', d0, d9, ld⟩ := intV_fig fd'
    -- the writer
    refine ⟨.ref pp, rfl, pp, _, 0, .str a, rfl, rfl, .of epp4, rfl, .ref D, rfl, D, _, rfl, .inl ⟨.of eD4, fun tp ntp => ?_⟩⟩
    have s5 := same_new (o := .tup (ps.map V.ref)) ntp
    have etp : (upd H4 tp (.tup (ps.map V.ref))) tp = some (.tup (ps.map V.ref)) := upd_same
    have hps5 := hps4.same s5
    have epp5 := s5 _ _ epp4
    generalize upd H4 tp (.tup (ps.map V.ref)) = H5 at s5 etp hps5 epp5
    refine ⟨.ref pp, rfl, pp, _, 2, .str c, rfl, rfl, .of epp5, rfl, _, intV c, rfl, ic, by omega, .ref pp, rfl, pp, _, 3, .str d, rfl, rfl, .of epp5, rfl, _, intV d, rfl, id', by omega, by show 4 ≤ sizeLine; decide, fun W nW => ?_⟩
    have s6 := same_new (o := .tup [V.str a, .ref tp, .int (intV c), .int (intV d)]) nW
    have eW : (upd H5 W (.tup [V.str a, .ref tp, .int (intV c), .int (intV d)])) W = some (.tup [V.str a, .ref tp, .int (intV c), .int (intV d)]) := upd_same
    have hps6 := hps5.same s6
    have etp6 := s6 _ _ etp
    have all5 : Same H H5 := (s03.trans s4).trans s5
    have nW0 : H W = none := all5.free nW
    have all6 := all5.trans s6
    generalize upd H5 W (.tup [V.str a, .ref tp, .int (intV c), .int (intV d)]) = H6 at s6 eW hps6 etp6 all6
    have hsh : ShortA ((wordsOf b).map rowOf) := ⟨by rw [List.length_map]; omega, fun x hx => by
      obtain ⟨z, _, rfl⟩ := List.mem_map.mp hx
      show (chr z 1).length ≤ 1000
      unfold chr
      split
      · show 1 ≤ 1000
        decide
      · show 0 ≤ 1000
        decide⟩
    refine g_go ?_
    dsimp only
    refine use_tif (b := lawWr a ((wordsOf b).map rowOf) (intV c) (intV d)) (Evl.et_B (ev_call (vs := [.ref W]) (Evl.ea_cons (Evl.ev_var (by rfl)) Evl.ea_nil) fun H8 Q8 e8 q8 => ⟨W, _, rfl, e8 _ _ eW, .inr ⟨a, tp, ps, (wordsOf b).map rowOf, intV c, intV d, rfl, e8 _ _ etp6, hps6.same e8, hsh, by omega, q8⟩⟩)) (fun hg H8 s8 => ?_) fun hg H8 s8 => ?_
    · exact ⟨.ref W, rfl, qs a _ _ _ (by rw [e40]; unfold rdL4; exact if_pos ⟨hba, hf, hg⟩) W H8 nW0 (all6.trans s8) ⟨tp, ps, s8 _ _ eW, s8 _ _ etp6, hps6.same s8⟩⟩
    · refine qn ?_ H8 (all6.trans s8)
      rw [e40]
      unfold rdL4
      exact if_neg fun h => by
        rw [h.2.2] at hg
        exact nomatch hg
end
end Ink
namespace Ink
open PySem PySem.Spec PyProof.Rows L2 Evl
/-! ### defs that may raise, asked in a lambda; what a lambda's making leaves -/
/-- a def that may raise, by its name -/
def CalN (P : Program) (w : World) (K : PySem.W.Frag) (mg : Str → Option Value) (base : Heap) (k : Nat) (x : Str) (ps : List Str) (sp : Sp) : Prop :=
  ∃ f fd, FnOk P w K mg base (L2N.CX P w) k f fd ps sp ∧ mg x = some (.ref f) ∧ PySem.W.keepIn K (.ref f) = true ∧ Binds K fd ps []
section
variable {X : Cx} {k : Nat} {C : Addr} {x m : Str} {ps : List Str} {sp : Sp} {p pos apos : Pos} {o e : Expr} {es : List Expr} {ta : TE} {t : TA} {E : XK}
theorem pe_callCN (c : CalN X.prog X.w X.K X.mg X.base k x ps sp) (hr : Room k X.A) (hx : Passes (L2N.CX X.prog X.w) X E) (hg : Gl X x) (ha : PA X (e :: es) t) (hdb : (x == ("__debug__" : Str)) = false := by decide)
    (he : starEach (e :: es) X.env = (false, eval e X.env) :: starEach es X.env := by rfl) (hpl : (backTo pos (starEach es X.env)).any (·.1) = false := by rfl) : PE X (.Call (.Name x p) (e :: es) [] pos) (tCall sp [] E t) := by
  obtain ⟨f, fd, G, g, hk, b⟩ := c
  exact pe_call G hr hg g hk b .nil hx ha hdb he hpl
theorem passN0 : Passes (L2N.CX X.prog X.w) X E0 := by
  intro pins σ H s e s' I h
  obtain ⟨a, B, H', cls, d, _, _, _, _, _, _, _, hE⟩ := h
  exact False.elim hE
theorem passN {P : Program} {w : World} {K : PySem.W.Frag} {mg : Str → Option Value} {base : Heap} {N : List Str} {qual : Str} {sc : Scope} {f : Addr} {cdv : Value} {A : Around} {outer : List Env} {s : Shared} {H : Hp} {E : XK} :
    Passes (L2N.CX P w) (cxOf (L2N.CX P w) P w K mg base N qual sc f cdv A outer s H E) E := L2N.passes_call (L2N.takes_of rfl rfl rfl rfl) fun _ _ _ _ h => h
theorem passA {Y : Cx} {A : Around} {outer : List Env} {s : Shared} {H : Hp} {E : XK} {sc : Scope} {f cd : Addr} : Passes (L2N.CX Y.prog Y.w) (L2N.askC Y A outer s H E sc f cd) E := L2N.passes_call (L2N.takes_of rfl rfl rfl rfl) fun _ _ _ _ h => h
end
theorem tabs_keep {T : List (Addr × Str)} {H H' : Hp} {a l : Addr} (b : BagAt H a l) (k : Keep a H H') (t : LamX.Tabs T H) : LamX.Tabs T H' := fun p hp => by
  obtain ⟨_, _, _, _, ea, _⟩ := b
  obtain ⟨ps, h1, h2, h3⟩ := t p hp
  refine ⟨ps, k _ _ (fun z => by rw [z, ea] at h1; cases h1) h1, h2, fun pos cv hc => ?_⟩
  obtain ⟨c, e1, e2⟩ := h3 pos cv hc
  exact ⟨c, e1, k _ _ (fun z => by rw [z, ea] at e2; unfold LamX.CodeO at e2; cases e2) e2⟩
theorem bag_ext {H H' : Hp} {a l : Addr} (e : LamX.ExtN H H') (b : BagAt H a l) : BagAt H' a l := by
  obtain ⟨ns, p, h, s, h1, h2, r⟩ := b
  exact ⟨ns, p, h, s, e _ _ h1 (fun _ z => by cases z), e _ _ h2 (fun _ z => by cases z), r⟩
theorem tk_ext {K : PySem.W.Frag} {H H' : Hp} (e : LamX.ExtN H H') : TupK K H H' := fun b ys h => by
  rcases h with (h | ⟨o, h⟩) | h
  · exact .inl (.inl (e _ _ h fun _ z => by cases z))
  · exact .inl (.inr ⟨o, e _ _ h fun _ z => by cases z⟩)
  · exact .inr h
/-- the code object's table in a comprehension -/
theorem lookup_relabel_cell {env : Env} : ∀ {names : List (Str × NameKind)} {x : Str} {k : NameKind}, names.lookup x = some k → k = .cell ∨ k = .free →
    (names.map fun (n, k) => if (k == NameKind.free && env.scope.kind == .function && env.kindOf n == some .cell) then (n, NameKind.cell) else (n, k)).lookup x = some .cell ∨
    (names.map fun (n, k) => if (k == NameKind.free && env.scope.kind == .function && env.kindOf n == some .cell) then (n, NameKind.cell) else (n, k)).lookup x = some .free
  | [], _, _, h, _ => by simp at h
  | (n, k') :: r, x, k, h, hk => by
    have ih := @lookup_relabel_cell env r x k
    rw [List.map_cons]
    cases hx : x == n with
    | true =>
      simp only [List.lookup_cons, hx] at h
      cases h
      cases hc : (k' == NameKind.free && env.scope.kind == .function && env.kindOf n == some .cell) with
      | true =>
        left
        simp only [hc, if_true, List.lookup_cons, hx]
      | false =>
        simp only [hc, Bool.false_eq_true, if_false, List.lookup_cons, hx]
        rcases hk with rfl | rfl
        · exact .inl rfl
        · exact .inr rfl
    | false =>
      simp only [List.lookup_cons, hx] at h
      cases hc : (k' == NameKind.free && env.scope.kind == .function && env.kindOf n == some .cell) with
      | true =>
        simp only [hc, if_true, List.lookup_cons, hx]
        exact ih h hk
      | false =>
        simp only [hc, Bool.false_eq_true, if_false, List.lookup_cons, hx]
        exact ih h hk
theorem lamS_blk {scope sc : Scope} {env : Env} {cl : List (Str × Addr)} {C : Addr} (h : LamX.LamS scope sc) : LamX.LamS (compEnvC scope cl C env).scope sc := ⟨h.kind, h.co, h.gen, h.own, fun y hy e => by
  rcases h.free y hy e with z | z
  · exact lookup_relabel_cell z (.inl rfl)
  · exact lookup_relabel_cell z (.inr rfl)⟩
section
variable {Y : Cx} {k : Nat} {x : Str} {ps : List Str} {sp : Sp} {p pos : Pos} {e : Expr} {es : List Expr} {t : TA} {A : Around} {outer : List Env} {s : Shared} {H : Hp} {E : XK} {sc : Scope} {f cd : Addr}
/-- x(e, ..) in a lambda -/
theorem pe_lamC (c : CalN Y.prog Y.w Y.K Y.mg Y.base k x ps sp) (hr : Room k (A.deeper (LamX.lamEnv Y sc s.heap.objs.size f cd))) (hg : Gl (L2N.askC Y A outer s H E sc f cd) x) (ha : PA (L2N.askC Y A outer s H E sc f cd) (e :: es) t) (hdb : (x == ("__debug__" : Str)) = false := by decide)
    (he : starEach (e :: es) (L2N.askC Y A outer s H E sc f cd).env = (false, eval e (L2N.askC Y A outer s H E sc f cd).env) :: starEach es (L2N.askC Y A outer s H E sc f cd).env := by rfl) (hpl : (backTo pos (starEach es (L2N.askC Y A outer s H E sc f cd).env)).any (·.1) = false := by rfl) :
    PE (L2N.askC Y A outer s H E sc f cd) (.Call (.Name x p) (e :: es) [] pos) (tCall sp [] E t) :=
  pe_callCN (X := L2N.askC Y A outer s H E sc f cd) c hr (passA (Y := Y)) hg ha hdb he hpl
end
abbrev lawQ : Str := (envOfC "law" (defScope sLaw) 0 0 .none).qual ++ "<lambda>"
def spLaw (K : PySem.W.Frag) (P0 : Addr) : Sp := fun vs H Q _ => ∃ (c : Addr) (ns : List Int), vs = [.ref c] ∧ SqL K H c (ns.map V.int) ∧ ns.length ≤ 63 ∧ LamX.Tabs [(P0, lawQ)] H ∧ ∀ H', Q (.bl true) H'
end Ink
namespace Ink
open PySem PySem.Spec PyProof.Rows L2 Evl
/-! ### a dict of the module with texts as keys -/
def FormAt (K : PySem.W.Frag) (w : World) (d : Addr) (tab : List (Str × PyData)) : Prop :=
  (∃ es n, KDict K w d es n) ∧ (∀ kv ∈ tab, ∃ u v, PySem.W.nsIn K d kv.1 = some (some u) ∧ RelV v u ∧ ∀ H, Dp K H v kv.2) ∧ ∀ z, z ∉ tab.map (·.1) → PySem.W.nsIn K d z = some none
/-- the keys are these texts -/
def keysAre (ws : List Str) (es : List DictEntry) : Bool := es.all fun e => match e.key with
  | .str s _ => decide (s ∈ ws)
  | _ => false
theorem ns_miss {K : PySem.W.Frag} {d : Addr} {c : Value} {o : Option Addr} {es : Array DictEntry} {n : Nat} {sl : Array (Option Value)} {ws : List Str} (l : K.lookup d = some ⟨c, o, .dict es n, sl⟩) (h : keysAre ws es.toList = true) {z : Str} (hz : z ∉ ws) : PySem.W.nsIn K d z = some none := by
  have key : ∀ e ∈ es.toList, ∃ s t, e.key = .str s t ∧ s ∈ ws := fun e he => by
    have q := List.all_eq_true.mp h e he
    split at q
    · rename_i s t e1
      exact ⟨s, t, e1, of_decide_eq_true q⟩
    · cases q
  have h1 : es.toList.find? (fun e => e.key.isStr z) = none := List.find?_eq_none.mpr fun e he hs => by
    obtain ⟨s, t, e1, e2⟩ := key e he
    rw [e1] at hs
    have : s = z := by simpa [Value.isStr] using hs
    exact hz (this ▸ e2)
  have h2 : es.toList.any (fun e => e.refKey) = false := List.any_eq_false.mpr fun e he hs => by
    obtain ⟨s, t, e1, e2⟩ := key e he
    unfold DictEntry.refKey at hs
    rw [e1] at hs
    cases hs
  unfold PySem.W.nsIn
  rw [l]
  dsimp only
  rw [h1, h2]
  rfl
def FormG (K : PySem.W.Frag) (w : World) (mg : Str → Option Value) (x : Str) (tab : List (Str × PyData)) : Prop := ∃ d, mg x = some (.ref d) ∧ FormAt K w d tab
def tFormG (K : PySem.W.Frag) (w : World) (tab : List (Str × PyData)) : TE := fun _ H Q => ∀ d, FormAt K w d tab → Q (.ref d) H
theorem pe_formG {X : Cx} {x : Str} {tab : List (Str × PyData)} {pos : Pos} (hg : Gl X x) (hm : FormG X.K X.w X.mg x tab) (hd : (x == ("__debug__" : Str)) = false := by decide) : PE X (.Name x pos) (tFormG X.K X.w tab) := by
  obtain ⟨a, e, h⟩ := hm
  have p := pe_glob (X := X) (x := x) (pos := pos) (v := .ref a) hg e rfl hd
  exact ⟨fun pins s σ H Q I hq => p.run pins s σ H Q I (hq a h)⟩
/-- d[key], key there -/
def rIxF (K : PySem.W.Frag) (w : World) : R2 := fun x y H Q => ∃ d tab z pd, x = .ref d ∧ y = .str z ∧ FormAt K w d tab ∧ (z, pd) ∈ tab ∧ ∀ v, (∀ H', Dp K H' v pd) → Q v H
/-- key in d -/
def rInF (K : PySem.W.Frag) (w : World) (neg : Bool) : R2 := fun x y H Q => ∃ d tab z, y = .ref d ∧ x = .str z ∧ FormAt K w d tab ∧ Q (.bl (if neg then !decide (z ∈ tab.map (·.1)) else decide (z ∈ tab.map (·.1)))) H
theorem form_look {K : PySem.W.Frag} {w : World} {d : Addr} {tab : List (Str × PyData)} (h : FormAt K w d tab) (z : Str) : ∃ r, PySem.W.nsIn K d z = some r ∧ r.isSome = decide (z ∈ tab.map (·.1)) := by
  obtain ⟨_, ht, hm⟩ := h
  by_cases hz : z ∈ tab.map (·.1)
  · obtain ⟨kv, h1, rfl⟩ := List.mem_map.mp hz
    obtain ⟨u, v, e, _⟩ := ht kv h1
    exact ⟨_, e, by rw [decide_eq_true hz]; rfl⟩
  · exact ⟨none, hm z hz, by rw [decide_eq_false hz]; rfl⟩
section
variable {X : Cx}
theorem ix_formF : IxR X (rIxF X.K X.w) := by
  intro value slice pins s σ H x y v u Q I rx ry h hs
  obtain ⟨d, tab, z, pd, rfl, rfl, ⟨⟨es, n, kd⟩, ht, _⟩, hz, q⟩ := h
  obtain ⟨u0, v0, e, r, dp⟩ := ht _ hz
  exact ix_kdict value slice pins s σ H _ _ v u Q I rx ry ⟨d, z, v0, rfl, rfl, ⟨es, n, u0, kd.at_, kd.lit, e, r⟩, q v0 dp⟩ hs
theorem op_inF : OpR X (compareOp .In) (rInF X.K X.w false) := by
  intro pins s σ H x y v u Q I rx ry h
  obtain ⟨d, tab, z, rfl, rfl, hf, q⟩ := h
  obtain ⟨⟨es, n, kd⟩, ht, hm⟩ := id hf
  obtain ⟨r, e, er⟩ := form_look hf z
  exact op_in_kd kd pins s σ H _ _ v u Q I rx ry ⟨z, r, rfl, rfl, e, by rw [er]; exact q⟩
theorem op_notinF : OpR X (compareOp .NotIn) (rInF X.K X.w true) := by
  intro pins s σ H x y v u Q I rx ry h
  obtain ⟨d, tab, z, rfl, rfl, hf, q⟩ := h
  obtain ⟨⟨es, n, kd⟩, ht, hm⟩ := id hf
  obtain ⟨r, e, er⟩ := form_look hf z
  exact op_notIn_kd kd pins s σ H _ _ v u Q I rx ry ⟨z, r, rfl, rfl, e, by rw [er]; exact q⟩
end
section
variable {K : PySem.W.Frag} {w : World} {σ : L2.St} {H : Hp} {tb : TE} {tab : List (Str × PyData)} {z : Str} {pd : PyData}
theorem ed_form (hb : Ev tb σ H (.str z)) (hz : (z, pd) ∈ tab) : EvD K (tOp (rIxF K w) (tFormG K w tab) tb) σ H pd := fun H1 e Q q d hd =>
  hb H1 e _ fun H2 e2 => ⟨d, tab, z, pd, rfl, rfl, hd, hz, fun v hv => q v H2 e2 (hv H2)⟩
theorem ev_inF {neg : Bool} (hb : Ev tb σ H (.str z)) (hz : (z, pd) ∈ tab) : Ev (tOp (rInF K w neg) tb (tFormG K w tab)) σ H (.bl (!neg)) := fun H1 e Q q =>
  hb H1 e _ fun H2 e2 d hd => ⟨d, tab, z, rfl, rfl, hd, by
    rw [decide_eq_true (List.mem_map.mpr ⟨_, hz, rfl⟩ : z ∈ tab.map (·.1))]
    cases neg <;> exact q H2 e2⟩
theorem ev_inFz {neg : Bool} (hb : Ev tb σ H (.str z)) : Ev (tOp (rInF K w neg) tb (tFormG K w tab)) σ H (.bl (if neg then !decide (z ∈ tab.map (·.1)) else decide (z ∈ tab.map (·.1)))) := fun H1 e Q q =>
  hb H1 e _ fun H2 e2 d hd => ⟨d, tab, z, rfl, rfl, hd, q H2 e2⟩
end
/-! ### word, *things = a list -/
/-- (a, *b) = a list of one thing at least -/
def gHead (K : PySem.W.Frag) (t : TGs) : TG := fun v σ H Q => ∃ a x xs, v = .ref a ∧ SqL K H a (x :: xs) ∧ xs.length ≤ 10000 ∧ ∀ p, H p = none → t [x, .ref p] σ (upd H p (.lst xs)) Q
section
variable {X : Cx} {pos : Pos}
theorem pgs_star {e : Expr} {p : Pos} {es : List Expr} {t : TG} {u : TGs} (h1 : PG X e t) (h2 : PGs X es u) : PGs X (.Starred e p :: es) (gCons t u) := by
  refine ⟨fun pins s σ H vs us Q I r h => ?_⟩
  obtain ⟨v, vr, e1, h⟩ := h
  subst e1
  cases r with
  | cons r1 rr =>
    show wpAny _ _ (assignInOrder (assign e X.env :: (assignEach es X.env).map (·.2)) _) _ _ _
    refine assignInOrder_cons (thn (h1.run pins s σ H _ _ _ I r1 h) fun _ s1 ⟨σ1, H1, I1, q1⟩ => ?_)
    exact h2.run pins s1 σ1 H1 _ _ Q I1 rr q1
theorem pg_head {es : List Expr} {k : Nat} {t : TGs} (hc : X.calm = true) (h : PGs X es t)
    (hn : (assignEach es X.env).length = 2 := by rfl) (hst : (assignEach es X.env).findIdx? (·.1) = some 1 := by rfl) : PG X (.Tuple es k pos) (gHead X.K t) := by
  refine ⟨fun pins s σ H v u Q I r hw => ?_⟩
  obtain ⟨a, x, xs, e1, hq, hz, hw⟩ := hw
  subst e1
  cases r
  obtain ⟨its, rv, pl, _⟩ := I.list hq
  cases rv with
  | @cons _ u0 _ us r0 rs =>
  have hl : s.heap.IsList a (u0 :: us).toArray := by
    obtain ⟨o, m, e, c, d, q⟩ := pl
    exact ⟨o, e, c, m, q⟩
  have hlen := rs.length
  have hlt : a ≠ s.heap.objs.size := by obtain ⟨o, ho, _⟩ := hl; exact Nat.ne_of_lt (Heap.lt_size ho)
  rw [PyProof.Rows.assign_Tuple]
  refine wpAny_bind (wpAny_standAt ?_)
  unfold unpack
  rw [hn, hst]
  refine wpAny_bind (wpAny_holding ?_)
  unfold unpackItems
  refine wpAny_bind ?_
  unfold notIterableAtAll
  refine wpAny_bind (wpAny_specialOf hl.typeIs slot_list_iter.lookup ?_)
  refine wpAny_pure ?_
  simp only [Bool.false_eq_true, if_false]
  refine wpAny_bind (wpAny_holding (wpAny_pyIter_list hl ?_))
  refine wpAny_bind (wpAny_holding (PySem.W.kun_draw hlt 1 0 _ _ ⟨_, Heap.get?_push_size _ rfl, rfl, rfl⟩ (hl.push _) (by show 0 + 1 ≤ us.length + 1; omega) fun h₁ hit₁ hs₁ => ?_))
  have hl₁ : h₁.IsList a (u0 :: us).toArray := (hl.push _).extBut hs₁.extBut hlt
  rw [Nat.zero_add] at hit₁
  have hit₁' := hit₁
  obtain ⟨oi, hoi, _⟩ := hit₁'
  have hl₁' := hl₁
  obtain ⟨ol, hol, _⟩ := hl₁'
  rw [if_neg (show ¬ ((List.take 1 (List.drop 0 (u0 :: us).toArray.toList)).length < 1) from Nat.lt_irrefl 1)]
  refine wpAny_bind (wpAny_holding (PySem.W.kun_collect (s := { s with heap := h₁ }) (T := "list_iterator") (.inr (.inr (.inl rfl))) (Walks.list (A := X.A.in1) (I.ok.hd hc) s.heap.objs.size a hlt (u0 :: us).toArray) (fun j u st => st.1.typeIs) (k := 1) (by show 1 ≤ us.length + 1; omega) ⟨hit₁, hl₁⟩ (Heap.lt_size hoi) (Heap.lt_size hol) (fun h₂ tk hk => ?_) (by show us.length + 1 ≤ sizeLine; exact Evl.sz_of (by omega))))
  rw [if_neg (show ¬ ((List.drop 1 (u0 :: us).toArray.toList).length < 2 - 1 - 1) from Nat.not_lt_zero _)]
  have kp : ∀ b o, s.heap.get? b = some o → h₂.get? b = some o := fun b o e => hk b o (Nat.ne_of_lt (Heap.lt_size e)) (hs₁.extBut b o (Nat.ne_of_lt (Heap.lt_size e)) (Heap.get?_push_of_some _ e))
  have I1 : Inv X pins σ H { s with heap := h₂, toks := tk } := I.kept (t' := tk) kp
  show wpAny _ _ (newList (us.take us.length) >>= fun d => pure ([u0] ++ [d] ++ us.drop us.length)) _ _ _
  rw [List.take_length, List.drop_length]
  refine wpAny_bind (wpAny_newList (wpAny_pure ?_) ?_)
  · have hf : H h₂.objs.size = none := I1.hok.fresh (Nat.le_refl _)
    have I2 : Inv X pins σ (upd H h₂.objs.size (.lst xs)) _ := I1.laid (t' := tk) (fun b u e => Heap.get?_push_of_some _ e) (Nat.le_refl _) (o := .lst xs) ⟨Evl.sz_of (by omega), us, 0, rs, Heap.get?_push_size _ rfl⟩
    exact h.run pins _ σ _ [x, .ref h₂.objs.size] [u0, .ref h₂.objs.size] Q I2 (.cons r0 (.cons rfl .nil)) (hw _ hf)
  · exact Evl.sz_of (by omega)
end
end Ink
namespace Ink
open PySem PySem.Spec PyProof.Rows L2 Evl
/-- str(x) of a text or a number -/
abbrev rStrA : List V → Hp → VK → Prop := fun xs H Q => (∃ a, xs = [.str a] ∧ Q (.str a) H) ∨ ∃ i : Int, xs = [.int i] ∧ i.natAbs.log2 < 1920 ∧ Q (.str (toString i)) H
theorem call_strA {X : Cx} : CallR X (.type "str") rStrA := by
  intro pins s σ H xs us Q I r h
  rcases h with h | h
  · exact SkE.call_str_str pins s σ H xs us Q I r h
  · exact call_str_int pins s σ H xs us Q I r h
/-- a if t else b, as a test -/
def tIfT (t u v : TT) : TT := fun σ H Q => t σ H fun c H1 => if c = true then u σ H1 Q else v σ H1 Q
theorem pt_ifExp {X : Cx} {c a b : Expr} {t u v : TT} {pos : Pos} (hc : PT X c t) (ha : PT X a u) (hb : PT X b v) : PT X (.IfExp c a b pos) (tIfT t u v) := by
  refine ⟨fun pins s σ H Q I h => ?_⟩
  refine isTrue_IfExp (thn (hc.run pins s σ H _ I h) fun d s1 ⟨H1, I1, q1⟩ => ?_)
  cases d with
  | true => exact ha.run pins s1 σ H1 Q I1 q1
  | false => exact hb.run pins s1 σ H1 Q I1 q1
theorem et_if {t u v : TT} {σ : L2.St} {H : Hp} {b c : Bool} (h : EvT t σ H b) (h1 : b = true → EvT u σ H c) (h2 : b = false → EvT v σ H c) : EvT (tIfT t u v) σ H c := fun H1 e Q q => h H1 e _ fun H2 e2 => by
  cases b with
  | true => exact iteT (h1 rfl H2 (e.trans e2) Q fun H3 e3 => q H3 (e2.trans e3))
  | false => exact iteF (h2 rfl H2 (e.trans e2) Q fun H3 e3 => q H3 (e2.trans e3))
end Ink
namespace Ink
open PySem PySem.Spec PyProof.Rows L2 Evl
/-! ### numbers as texts -/
def figs (m : Nat) : List Nat := (Nat.toDigits 10 m).map Char.toNat
theorem figs_pos (m : Nat) : figs m ≠ [] := fun e => by
  have h := toDigits_len_ge 10 m
  rw [List.map_eq_nil_iff.mp e] at h
  exact absurd h (by decide)
theorem figs_all (m : Nat) : PySem.NumText.AllDigits (figs m) := fun c hc => by
  obtain ⟨ch, hch, e⟩ := List.mem_map.mp hc
  rw [← e]
  exact digit_range (Nat.isDigit_of_mem_toDigits (by decide) (by decide) hch)
theorem figs_len {m : Nat} (h : m < 10 ^ 30) : (figs m).length ≤ 30 := by
  unfold figs
  rw [List.length_map]
  exact digits10_le (by decide) h
theorem figs_head (m : Nat) (h : m ≠ 0) : (figs m).head? ≠ some 48 := by
  induction m using Nat.strongRecOn with
  | _ m ih =>
    unfold figs at ih ⊢
    by_cases hm : m < 10
    · rw [Nat.toDigits_of_lt_base hm]
      have : ∀ d : Nat, d < 10 → d ≠ 0 → (Nat.digitChar d).toNat ≠ 48 := by decide
      have := this m hm h
      intro z
      exact this (Option.some.inj z)
    · have t : Nat.toDigits 10 (m / 10) ++ Nat.toDigits 10 (m % 10) = Nat.toDigits 10 (10 * (m / 10) + m % 10) := Nat.toDigits_append_toDigits (by decide) (by omega) (Nat.mod_lt m (by decide))
      rw [Nat.div_add_mod] at t
      have i := ih (m / 10) (by omega) (by omega)
      rw [← t, List.map_append]
      have p : (Nat.toDigits 10 (m / 10)).map Char.toNat ≠ [] := figs_pos (m / 10)
      cases e : (Nat.toDigits 10 (m / 10)).map Char.toNat with
      | nil => exact absurd e p
      | cons c r =>
        rw [e] at i
        exact i
theorem num_tl (n : Int) : TL.tl (dig n) = if n < 0 then 45 :: figs n.natAbs else figs n.natAbs := by
  unfold dig figs
  rw [TL.tl_ofString]
  cases n with
  | ofNat m =>
    rw [if_neg (by have : (0 : Int) ≤ Int.ofNat m := Int.natCast_nonneg m; omega)]
    show (Nat.repr m).toList.map Char.toNat = _
    rw [Nat.toList_repr]
    rfl
  | negSucc m =>
    rw [if_pos (Int.negSucc_lt_zero m)]
    show ("-" ++ Nat.repr (m + 1)).toList.map Char.toNat = _
    rw [String.toList_append, List.map_append, Nat.toList_repr]
    rfl
theorem num_text {n : Int} (h : n.natAbs < 10 ^ 30) : PySem.intText? (dig n) = some n := by
  have e := num_tl n
  have hl := figs_len h
  have l := TL.len_tl (dig n)
  by_cases h0 : n < 0
  · rw [if_pos h0] at e
    rw [e, List.length_cons] at l
    have := intText_neg (x := dig n) e (figs_all _) (figs_pos _) (by omega)
    rw [this]
    unfold figs
    rw [PySem.W.KIN.val_back]
    congr 1
    omega
  · rw [if_neg h0] at e
    rw [e] at l
    have := intText_digits (x := dig n) (by show PySem.NumText.AllDigits (TL.tl (dig n)); rw [e]; exact figs_all _) (by show TL.tl (dig n) ≠ []; rw [e]; exact figs_pos _) (by omega)
    rw [this]
    have e2 : (dig n).cps.toList = figs n.natAbs := e
    rw [e2]
    unfold figs
    rw [PySem.W.KIN.val_back]
    congr 1
    omega
theorem num_len {n : Int} (h : n.natAbs < 10 ^ 30) : (dig n).length ≤ 31 := by
  have e := num_tl n
  have hl := figs_len h
  rw [TL.len_tl, e]
  split
  · rw [List.length_cons]
    omega
  · omega
theorem num_sign (n : Int) : Txt.startswith (dig n) dash = decide (n < 0) := by
  have hd : TL.tl dash = [45] := by decide +kernel
  have h : Txt.startswith (dig n) dash = true ↔ TL.pre [45] (TL.tl (dig n)) = true := by
    have := TL.at_iff (x := dig n) (y := dash) (by rw [hd]; exact fun z => by cases z) 0
    rw [hd, List.drop_zero] at this
    rw [← this]
    unfold Txt.startswith PySem.StrLaws.At
    rw [Bool.and_eq_true, decide_eq_true_eq]
  rw [Bool.eq_iff_iff, h, num_tl, decide_eq_true_eq]
  by_cases h0 : n < 0
  · rw [if_pos h0]
    exact ⟨fun _ => h0, fun _ => rfl⟩
  · rw [if_neg h0]
    refine ⟨fun z => ?_, fun z => absurd z h0⟩
    cases e : figs n.natAbs with
    | nil => exact absurd e (figs_pos _)
    | cons c r =>
      rw [e] at z
      have := figs_all n.natAbs c (by rw [e]; exact List.mem_cons_self ..)
      unfold TL.pre at z
      have z : ([c] == [45]) = true := z
      rw [beq_iff_eq] at z
      injection z with z _
      omega
end Ink
namespace Ink
open PySem PySem.Spec PyProof.Rows L2 Evl
/-! ### any text, read as a number -/
/-- what stands of a text without its sign -/
def figOf (t : Str) : List Nat := if Txt.startswith t dash = true then (TL.tl t).drop 1 else TL.tl t
def figT (t : Str) : Str := ⟨(figOf t).toArray⟩
def isNine (c : Nat) : Bool := decide (48 ≤ c) && decide (c ≤ 57)
def numA (t : Str) : Bool := (decide (1 ≤ (figOf t).length) && decide ((figOf t).length ≤ 30)) && (figOf t).all isNine
def numB (t : Str) : Bool := decide ((figOf t).head? = some 48) && !decide (t = Str.ofString "0")
def numIn (t : Str) : Option Int := if (numA t && !numB t) = true then some (intV t) else none
theorem figT_tl (t : Str) : TL.tl (figT t) = figOf t := rfl
theorem figT_len (t : Str) : (figT t).length = (figOf t).length := TL.len_tl (figT t)
theorem dash_tl : TL.tl dash = [45] := by decide +kernel
theorem starts_dash (t : Str) : Txt.startswith t dash = true ↔ ∃ r, TL.tl t = 45 :: r := by
  have h : Txt.startswith t dash = true ↔ TL.pre [45] (TL.tl t) = true := by
    have := TL.at_iff (x := t) (y := dash) (by rw [dash_tl]; exact fun z => by cases z) 0
    rw [dash_tl, List.drop_zero] at this
    rw [← this]
    unfold Txt.startswith PySem.StrLaws.At
    rw [Bool.and_eq_true, decide_eq_true_eq]
  rw [h]
  constructor
  · intro z
    match e : TL.tl t with
    | [] => rw [e] at z; exact absurd z (by decide)
    | c :: r =>
      rw [e] at z
      unfold TL.pre at z
      have z : ([c] == [45]) = true := z
      rw [beq_iff_eq] at z
      injection z with z _
      exact ⟨r, by rw [z]⟩
  · rintro ⟨r, e⟩
    rw [e]
    unfold TL.pre
    show ([45] == [45]) = true
    rfl
theorem figT_cut {t : Str} (h : Txt.startswith t dash = true) : cutS t (some 1) none = figT t := by
  refine TL.ext_tl ?_
  show (cutS t (some 1) none).cps.toList = _
  rw [cut_from (by decide), figT_tl]
  unfold figOf
  rw [if_pos h]
  rfl
theorem figT_same {t : Str} (h : Txt.startswith t dash = false) : t = figT t := TL.ext_tl (by
  rw [figT_tl]
  unfold figOf
  rw [if_neg (by rw [h]; decide)])
theorem figOf_len (t : Str) : (figOf t).length ≤ t.length := by
  rw [TL.len_tl t]
  unfold figOf
  split
  · rw [List.length_drop]
    omega
  · exact Nat.le_refl _
theorem numA_all {t : Str} (h : numA t = true) : 1 ≤ (figOf t).length ∧ (figOf t).length ≤ 30 ∧ ∀ c ∈ figOf t, 48 ≤ c ∧ c ≤ 57 := by
  unfold numA at h
  rw [Bool.and_eq_true, Bool.and_eq_true, decide_eq_true_eq, decide_eq_true_eq] at h
  refine ⟨h.1.1, h.1.2, fun c hc => ?_⟩
  have := List.all_eq_true.mp h.2 c hc
  unfold isNine at this
  rw [Bool.and_eq_true, decide_eq_true_eq, decide_eq_true_eq] at this
  exact this
/-- such a text has a value -/
theorem numA_int {t : Str} (h : numA t = true) : PySem.intText? t = some (intV t) ∧ t.length ≤ 31 := by
  obtain ⟨h1, h2, h3⟩ := numA_all h
  have hp : figOf t ≠ [] := fun e => by rw [e] at h1; exact absurd h1 (by decide)
  have key : ∀ {n : Int}, PySem.intText? t = some n → PySem.intText? t = some (intV t) := fun {n} e => by
    unfold intV
    rw [e]
    rfl
  cases hb : Txt.startswith t dash with
  | true =>
    obtain ⟨r, e⟩ := (starts_dash t).mp hb
    have ef : figOf t = r := by
      unfold figOf
      rw [if_pos hb, e]
      rfl
    rw [ef] at h2 h3 hp
    have hl : t.length ≤ 31 := by
      rw [TL.len_tl t, e, List.length_cons]
      omega
    exact ⟨key (intText_neg (x := t) e h3 hp (by omega)), hl⟩
  | false =>
    have ef : figOf t = TL.tl t := by
      unfold figOf
      rw [if_neg (by rw [hb]; decide)]
    rw [ef] at h2 h3 hp
    have hl : t.length ≤ 31 := by
      rw [TL.len_tl t]
      omega
    exact ⟨key (intText_digits (x := t) h3 hp (by omega)), hl⟩
theorem numIn_no {t : Str} (h : numA t = false) : numIn t = none := by
  unfold numIn
  rw [if_neg (by rw [h, Bool.false_and]; decide)]
theorem numIn_odd {t : Str} (h : numB t = true) : numIn t = none := by
  unfold numIn
  rw [if_neg (by rw [h, Bool.not_true, Bool.and_false]; decide)]
theorem numIn_good {t : Str} (h : numA t = true) (h2 : numB t = false) : numIn t = some (intV t) := by
  unfold numIn
  rw [if_pos (by rw [h, h2]; rfl)]
end Ink
namespace Ink
open PySem PySem.Spec PyProof.Rows L2 Evl
/-- any text: the number, or BadText(0) -/
def spNumX (C : Addr) : Sp := fun vs H Q E => ∃ t, vs = [.str t] ∧ t.length ≤ 900 ∧ (∀ n, numIn t = some n → ∀ H', Same H H' → Q (.int n) H') ∧
  (numIn t = none → ∀ d H', H d = none → Same H H' → H' d = some (.xd [("at", .int 0), ("word", .str "BadText")]) → E (.ref C) (some d) H')
theorem nine_str (c : Nat) : (!decide ((single c).cps.toList < (Str.ofString "0").cps.toList) && !decide ((Str.ofString "9").cps.toList < (single c).cps.toList)) = isNine c := by
  have e0 : (Str.ofString "0").cps.toList = [48] := by decide +kernel
  have e9 : (Str.ofString "9").cps.toList = [57] := by decide +kernel
  rw [e0, e9]
  show (!decide (([c] : List Nat) < [48]) && !decide (([57] : List Nat) < [c])) = isNine c
  rw [show decide (([c] : List Nat) < [48]) = decide (c < 48) from decide_eq_decide.mpr (lt_one c 48), show decide (([57] : List Nat) < [c]) = decide (57 < c) from decide_eq_decide.mpr (lt_one 57 c)]
  unfold isNine
  by_cases h1 : 48 ≤ c <;> by_cases h2 : c ≤ 57 <;> simp [h1, h2] <;> omega
section
variable {K : PySem.W.Frag} {σ : L2.St} {H : Hp} {to te tb : TE}
theorem ev_starts {a b : Str} (ho : Ev to σ H (.str a)) (he : Ev te σ H (.str b)) : Ev (tM1 (fun x xs H Q => ∃ a b, x = .str a ∧ xs = [.str b] ∧ Q (.bl (Txt.startswith a b)) H) to te) σ H (.bl (Txt.startswith a b)) := fun H1 e Q q =>
  ho H1 e _ fun H2 e2 => ⟨⟨_, rfl⟩, he H2 (e.trans e2) _ fun H3 e3 => ⟨a, b, rfl, rfl, q H3 (e2.trans e3)⟩⟩
theorem ev_slFromS {z : Str} {i : Int} (h : Ev te σ H (.str z)) (hi : Ev tb σ H (.int i)) (hz : z.length ≤ 100000) : Ev (tSl rSlS te (tPart tb) tNoPart) σ H (.str (cutS z (some i) none)) := fun H1 e Q q =>
  h H1 e _ fun H2 e2 => hi H2 (e.trans e2) _ fun H3 e3 => ⟨i, rfl, z, rfl, small_le (by omega), q H3 (e2.trans e3)⟩
theorem ev_intS {z : Str} {n : Int} (h : Ev te σ H (.str z)) (hn : PySem.intText? z = some n) (hz : z.length ≤ 640) : Ev (tCB (fun xs H Q => ∃ a n, xs = [.str a] ∧ PySem.intText? a = some n ∧ a.length ≤ 640 ∧ Q (.int n) H) (tCons te tNil)) σ H (.int n) := fun H1 e Q q =>
  h H1 e _ fun H2 e2 => ⟨z, n, rfl, hn, hz, q H2 e2⟩
end
section
variable {P : Program} {w : World} {K : PySem.W.Frag} {mg : Str → Option Value} {base : Heap}
theorem ok_read_numberX {f C : Addr} {fd : FuncData} {k : Nat} (F : Fun K "read_number" "read_number" sReadNumber f fd) (T : Txt mg) (hk : 3 ≤ k) (B : BadR P w K mg base 2 C) : FnOk P w K mg base (L2N.CX P w) (k + 1) f fd ["text"] (spNumX C) := by
  refine okN F sc_read_number (fun vs H Q E h => ?_) (fun cdv A outer s H vs Q E hr h => ?_)
  · obtain ⟨t, rfl, _⟩ := h
    rfl
  · obtain ⟨t, rfl, ht, q, qb⟩ := h
    refine ⟨_, (pss_cons (ps_set (i := 1) sc_read_number.nd rfl (.inl rfl) (pe_ifExp (pt_val (pe_m1 PySem.F.slot_str_startswith PySem.F.type_str_startswith mt_startswith (pv 0) pe_str)) (pe_slice sl_str (pv 0) (po_some pe_int) po_none) (pv 0)))
    (pss_cons (ps_if (PW.pt (pw_or (pt_not (pt_chain op_le op_le pe_int (pe_callB call_len_str (by rfl) T.m_len PySem.boot_len (pa_cons (pv 1) pa_nil)) (pe_globI (by rfl) T.e__MOST_FIGURES))) (pw_or1 (pt_not (pt_val (pe_callB (cr_all rfl) (by rfl) T.m_all (by decide +kernel) (pa_cons (pe_lc (own := [("figure", 2)]) (g := (gName 2)) (by rfl) sc_read_number.nd (pi_str (pv 1)) (blkOk_by (own := [("figure", 2)]) (N := ["text", "figures", "figure"]) (sc := defScope sReadNumber) (by decide +kernel)) (fun _ _ _ _ _ => (pg_name (i := 2) sc_read_number.nd rfl (Or.inl rfl))) (fun _ _ _ _ _ => pts_nil) (fun _ _ _ _ _ => (pe_chain op_le_str op_le_str pe_str (pv 2) pe_str))) pa_nil)))))))
    (pss_one (ps_raiseBad B (hr.mono hk) (by rfl) rfl (L2N.takes_of rfl rfl rfl rfl) (pa_cons pe_int pa_nil))) pss_nil)
    (pss_cons (ps_if (PW.pt (pw_and (pt_cmpR op_eq (pe_ix ix_str (pv 1) pe_int (fun _ _ => rfl)) pe_str (nomark _)) (pw_and1 (pt_cmpR op_ne (pv 0) pe_str (nomark _)))))
    (pss_one (ps_raiseBad B (hr.mono hk) (by rfl) rfl (L2N.takes_of rfl rfl rfl rfl) (pa_cons pe_int pa_nil))) pss_nil)
    (pss_one (ps_ret (pe_callTy call_int_str (by rfl) T.m_int (by decide +kernel) (pa_cons (pv 0) pa_nil))))))), ?_⟩
    have hbad : ∀ {σ : L2.St} {H1 : Hp}, Same H H1 → numIn t = none → tMkO C (spBad K) [] (tCons (tC (.int 0)) tNil) σ H1 (fun cls d H' => E cls d H') := fun {σ H1} s1 hn =>
      bad_made B.nm B.hw B.hat (by decide) (by decide +kernel) (fun R r => r) fun d nd => qb hn d _ (by
        cases hd : H d with
        | none => rfl
        | some o => exact nomatch (s1 _ _ hd).symm.trans nd) (s1.trans (same_new nd)) upd_same
    have fl := figOf_len t
    have fe := figT_len t
    refine q_asg (v := .str (figT t)) (ev_str (ed_if (K := K) (b := Txt.startswith t dash) (et_B (ev_is (ev_starts (ev_var rfl) ev_c) rfl)) (fun hb => ed_str (ev_is (ev_slFromS (ev_var rfl) ev_c (by omega)) (by rw [figT_cut hb]))) fun hb => ed_str (ev_is (ev_var rfl) (by rw [← figT_same hb])))) fun H1 e1 => ?_
    try dsimp only
    refine q_when (b := !numA t) (et_is (et_or (a := !(decide (1 ≤ (figOf t).length) && decide ((figOf t).length ≤ 30))) (b := !(figOf t).all isNine) (et_not (et_test (ev_is (ev_chainI (f := fun i j => decide (i ≤ j)) (g := fun i j => decide (i ≤ j)) ev_c (ev_lenS (ev_var rfl) (by omega)) ev_c) ?_))) fun _ => et_not (et_B (ev_is (ev_all (bs := (figT t).cps.toList.map isNine) ?_) ?_))) ?_) (fun hf H2 e2 => hbad (e1.trans e2) (numIn_no ?_)) fun hf H2 e2 => ?_
    · rw [fe]
      congr 1
      rw [Bool.eq_iff_iff, Bool.and_eq_true, Bool.and_eq_true, decide_eq_true_eq, decide_eq_true_eq, decide_eq_true_eq, decide_eq_true_eq]
      omega
    · rw [← bls_eq]
      refine el_lcS _ (ev_var rfl) (by omega) (fun _ => rfl) fun c H3 e3 _ => ?_
      refine ev_is (ev_chainS (f := fun x y => !decide (y.cps.toList < x.cps.toList)) (g := fun x y => !decide (y.cps.toList < x.cps.toList)) (fun x y H Q h => ⟨x, y, rfl, rfl, h⟩) (fun x y H Q h => ⟨x, y, rfl, rfl, h⟩) ev_c (ev_var rfl) ev_c) ?_
      exact congrArg V.bl (nine_str c)
    · rw [List.all_map]
      rfl
    · unfold numA
      cases (decide (1 ≤ (figOf t).length) && decide ((figOf t).length ≤ 30)) <;> cases (figOf t).all isNine <;> rfl
    · rw [Bool.not_eq_true'] at hf
      exact hf
    · have hA : numA t = true := by
        rw [Bool.not_eq_false'] at hf
        exact hf
      obtain ⟨h1, h2, h3⟩ := numA_all hA
      obtain ⟨hi, hl⟩ := numA_int hA
      obtain ⟨c, r, hcr⟩ : ∃ c r, figOf t = c :: r := by
        cases e : figOf t with
        | nil => rw [e] at h1; exact absurd h1 (by decide)
        | cons c r => exact ⟨c, r, rfl⟩
      refine q_when (b := numB t) (et_is (et_and (et_test (ev_op (ev_ixS (c := c) (ev_var rfl) ev_c (by omega) (by decide) (by show (figOf t)[0]? = some c; rw [hcr]; rfl)) ev_c (rv_eq rfl))) fun _ => et_test (ev_op (ev_var rfl) ev_c (rv_ne rfl))) ?_) (fun hb H3 e3 => hbad ((e1.trans e2).trans e3) (numIn_odd hb)) fun hb H3 e3 => ?_
      · unfold numB
        rw [hcr]
        congr 1
        · refine decide_eq_decide.mpr ⟨fun e => ?_, fun e => ?_⟩
          · injection e with e
            have := congrArg TL.tl e
            have t0 : TL.tl (Str.ofString "0") = [48] := by decide +kernel
            rw [t0] at this
            have this : [c] = [48] := this
            injection this with this
            rw [this]
            rfl
          · have e : some c = some 48 := e
            injection e with e
            rw [e]
            decide +kernel
        · congr 1
          exact decide_eq_decide.mpr ⟨fun e => by injection e, fun e => by rw [e]⟩
      · exact s_ret (ev_intS (ev_var rfl) hi (by omega)) fun H4 e4 => q _ (numIn_good hA hb) H4 (((e1.trans e2).trans e3).trans e4)
end
end Ink
namespace Ink
open PySem PySem.Spec PyProof.Rows L2 Evl
/-! ### the law's own reading of a number -/
def spNumL : Sp := fun vs H Q _ => ∃ t, vs = [.str t] ∧ t.length ≤ 900 ∧ (numIn t = none → ∀ H', Same H H' → Q .non H') ∧ ∀ n, numIn t = some n → ∀ H', Same H H' → Q (.int n) H'
section
variable {K : PySem.W.Frag} {σ : L2.St} {H : Hp} {te tb : TE}
theorem ev_slToS {z : Str} {i : Int} (h : Ev te σ H (.str z)) (hi : Ev tb σ H (.int i)) (hz : z.length ≤ 100000) : Ev (tSl rSlS te tNoPart (tPart tb)) σ H (.str (cutS z none (some i))) := fun H1 e Q q =>
  h H1 e _ fun H2 e2 => hi H2 (e.trans e2) _ fun H3 e3 => ⟨i, rfl, z, rfl, small_le (by omega), q H3 (e2.trans e3)⟩
end
theorem first_dash (t : Str) : decide (V.str (cutS t none (some 1)) = V.str (Str.ofString "-")) = Txt.startswith t dash := by
  have e1 : TL.tl (cutS t none (some 1)) = (TL.tl t).take 1 := cut_to (z := t) (t := 1) (by decide)
  have e2 : TL.tl (Str.ofString "-") = [45] := by decide +kernel
  rw [Bool.eq_iff_iff, decide_eq_true_eq, starts_dash]
  constructor
  · intro e
    injection e with e
    have := congrArg TL.tl e
    rw [e1, e2] at this
    match h : TL.tl t with
    | [] => rw [h] at this; cases this
    | c :: r =>
      rw [h] at this
      have this : [c] = [45] := this
      injection this with this
      exact ⟨r, by rw [this]⟩
  · rintro ⟨r, e⟩
    refine congrArg V.str (TL.ext_tl ?_)
    rw [e1, e2, e]
    rfl
theorem nine_in (c : Nat) : decide (c ∈ (Str.ofString "0123456789").cps.toList) = isNine c := by
  have e : (Str.ofString "0123456789").cps.toList = [48, 49, 50, 51, 52, 53, 54, 55, 56, 57] := by decide +kernel
  rw [e]
  unfold isNine
  rw [Bool.eq_iff_iff, decide_eq_true_eq, Bool.and_eq_true, decide_eq_true_eq, decide_eq_true_eq]
  simp only [List.mem_cons, List.not_mem_nil, or_false]
  omega
section
variable {P : Program} {w : World} {K : PySem.W.Frag} {mg : Str → Option Value} {base : Heap}
theorem ok_number_in {f : Addr} {fd : FuncData} {k : Nat} (F : Fun K "_law_number_in" "_law_number_in" sLNumberIn f fd) (T : Txt mg) : FnOk P w K mg base CX0 (k + 1) f fd ["_law_text"] spNumL := by
  refine F.ok sc__law_number_in (fun vs H Q E h => ?_) (fun cdv A outer s H vs Q E hr h => ?_)
  · obtain ⟨t, rfl, _⟩ := h
    rfl
  · obtain ⟨t, rfl, ht, qn, qs⟩ := h
    refine ⟨_, (pss_cons (ps_set (i := 1) sc__law_number_in.nd rfl (.inl rfl) (pe_ifExp (pt_cmpR op_eq (pe_slice sl_str (pv 0) po_none (po_some pe_int)) pe_str (nomark _)) (pe_slice sl_str (pv 0) (po_some pe_int) po_none) (pv 0)))
    (pss_cons (ps_if (PW.pt (pw_or (pt_not (pt_chain op_lt op_lt pe_int (pe_callB call_len_str (by rfl) T.m_len PySem.boot_len (pa_cons (pv 1) pa_nil)) pe_int)) (pw_or1 (pt_not (pt_val (pe_callB (cr_all rfl) (by rfl) T.m_all (by decide +kernel) (pa_cons (pe_lc (own := [("_law_one", 2)]) (g := (gName 2)) (by rfl) sc__law_number_in.nd (pi_str (pv 1)) (blkOk_by (own := [("_law_one", 2)]) (N := ["_law_text", "_law_figures", "_law_one"]) (sc := defScope sLNumberIn) (by decide +kernel)) (fun _ _ _ _ _ => (pg_name (i := 2) sc__law_number_in.nd rfl (Or.inl rfl))) (fun _ _ _ _ _ => pts_nil) (fun _ _ _ _ _ => (pe_cmpR op_in_sign (pv 2) pe_str (by rfl)))) pa_nil)))))))
    (pss_one (ps_ret pe_non)) pss_nil)
    (pss_one (ps_ret (pe_ifExp (PW.pt (pw_and (pt_cmpR op_eq (pe_ix ix_str (pv 1) pe_int (fun _ _ => rfl)) pe_str (nomark _)) (pw_and1 (pt_cmpR op_ne (pv 0) pe_str (nomark _))))) pe_non (pe_callTy call_int_str (by rfl) T.m_int (by decide +kernel) (pa_cons (pv 0) pa_nil))))))), ?_⟩
    have fl := figOf_len t
    have fe := figT_len t
    refine q_asg (v := .str (figT t)) (ev_str (ed_if (K := K) (b := Txt.startswith t dash) (et_is (et_test (ev_op (ev_slToS (ev_var rfl) ev_c (by omega)) ev_c (rv_eq rfl))) (first_dash t)) (fun hb => ed_str (ev_is (ev_slFromS (ev_var rfl) ev_c (by omega)) (by rw [figT_cut hb]))) fun hb => ed_str (ev_is (ev_var rfl) (by rw [← figT_same hb])))) fun H1 e1 => ?_
    refine q_when (b := !numA t) (et_is (et_or (a := !(decide (1 ≤ (figOf t).length) && decide ((figOf t).length ≤ 30))) (b := !(figOf t).all isNine) (et_not (et_test (ev_is (ev_chainI (f := fun i j => decide (i < j)) (g := fun i j => decide (i < j)) ev_c (ev_lenS (ev_var rfl) (by omega)) ev_c) ?_))) fun _ => et_not (et_B (ev_is (ev_all (bs := (figT t).cps.toList.map isNine) ?_) ?_))) ?_) (fun hf H2 e2 => qn (numIn_no ?_) H2 (e1.trans e2)) fun hf H2 e2 => ?_
    · rw [fe]
      congr 1
      rw [Bool.eq_iff_iff, Bool.and_eq_true, Bool.and_eq_true, decide_eq_true_eq, decide_eq_true_eq, decide_eq_true_eq, decide_eq_true_eq]
      omega
    · rw [← bls_eq]
      refine el_lcS _ (ev_var rfl) (by omega) (fun _ => rfl) fun c H3 e3 _ => ?_
      refine ev_is (ev_op (ev_var rfl) ev_c (fun H1 _ _ q => ⟨c, _, rfl, rfl, q H1 (Ex.refl H1)⟩)) ?_
      exact congrArg V.bl (nine_in c)
    · rw [List.all_map]
      rfl
    · unfold numA
      cases (decide (1 ≤ (figOf t).length) && decide ((figOf t).length ≤ 30)) <;> cases (figOf t).all isNine <;> rfl
    · rw [Bool.not_eq_true'] at hf
      exact hf
    · have hA : numA t = true := by
        rw [Bool.not_eq_false'] at hf
        exact hf
      obtain ⟨h1, h2, h3⟩ := numA_all hA
      obtain ⟨hi, hl⟩ := numA_int hA
      obtain ⟨c, r, hcr⟩ : ∃ c r, figOf t = c :: r := by
        cases e : figOf t with
        | nil => rw [e] at h1; exact absurd h1 (by decide)
        | cons c r => exact ⟨c, r, rfl⟩
      refine use_tif (b := numB t) (et_is (et_and (et_test (ev_op (ev_ixS (c := c) (ev_var rfl) ev_c (by omega) (by decide) (by show (figOf t)[0]? = some c; rw [hcr]; rfl)) ev_c (rv_eq rfl))) fun _ => et_test (ev_op (ev_var rfl) ev_c (rv_ne rfl))) ?_) (fun hb H3 e3 => qn (numIn_odd hb) H3 ((e1.trans e2).trans e3)) fun hb H3 e3 => ?_
      · unfold numB
        rw [hcr]
        congr 1
        · refine decide_eq_decide.mpr ⟨fun e => ?_, fun e => ?_⟩
          · injection e with e
            have := congrArg TL.tl e
            have t0 : TL.tl (Str.ofString "0") = [48] := by decide +kernel
            rw [t0] at this
            have this : [c] = [48] := this
            injection this with this
            rw [this]
            rfl
          · have e : some c = some 48 := e
            injection e with e
            rw [e]
            decide +kernel
        · congr 1
          exact decide_eq_decide.mpr ⟨fun e => by injection e, fun e => by rw [e]⟩
      · exact ev_intS (ev_var rfl) hi (by omega) _ (Ex.refl _) _ fun H4 e4 => qs _ (numIn_good hA hb) H4 (((e1.trans e2).trans e3).trans e4)
end
end Ink
namespace Ink
open PySem PySem.Spec PyProof.Rows L2
theorem fig_one {c : Nat} (h0 : 48 ≤ c) (h1 : c ≤ 57) : isFig (single c) = true := by
  unfold isFig
  rw [show decide (V.int (((single c).length : Nat) : Int) = V.int 1) = true from decide_eq_true rfl]
  show (true && (!decide (([c] : List Nat) < [48]) && !decide (([57] : List Nat) < [c]))) = true
  rw [decide_eq_decide.mpr (lt_one c 48), decide_eq_decide.mpr (lt_one 57 c), decide_eq_false (by omega), decide_eq_false (by omega)]
  rfl
theorem fig_dig {n : Int} (h0 : 0 ≤ n) (h9 : n ≤ 9) : isFig (dig n) = true := by
  rw [dig_eq h0 h9]
  exact fig_one (by omega) (by omega)
theorem int_dig {n : Int} (h0 : 0 ≤ n) (h9 : n ≤ 9) : PySem.intText? (single (48 + n.toNat)) = some n := by
  have h : ∀ k : Nat, k < 10 → PySem.intText? (single (48 + k)) = some (k : Int) := by decide +kernel
  have := h n.toNat (by omega)
  rw [show ((n.toNat : Nat) : Int) = n by omega] at this
  exact this
/-- a writer, wherever its tuples lie -/
def ArwS (K : PySem.W.Frag) (H : Hp) (p : Addr) (x : Arw) : Prop := SqT K H p [.int x.1, .str x.2.1, .int x.2.2]
def ArsS (K : PySem.W.Frag) (H : Hp) (ps : List Addr) (ar : List Arw) : Prop := Paired (ArwS K H) ps ar
def WrS (K : PySem.W.Frag) (H : Hp) (W : Addr) (z : Str) (ar : List Arw) (p c : Int) : Prop := ∃ tp ps, SqT K H W [.str z, .ref tp, .int p, .int c] ∧ SqT K H tp (ps.map V.ref) ∧ ArsS K H ps ar
theorem ArsS.get {K : PySem.W.Frag} {H : Hp} : ∀ {ps : List Addr} {ar : List Arw} {i : Nat} {p : Addr}, ArsS K H ps ar → ps[i]? = some p → ∃ x, ar[i]? = some x ∧ ArwS K H p x
  | _, _, _, _, .nil, h => by simp at h
  | _, _, 0, _, .cons r _, h => ⟨_, rfl, (Option.some.inj h) ▸ r⟩
  | _, _, i + 1, p, .cons _ t, h => ArsS.get (i := i) t h
theorem wr_sq {K : PySem.W.Frag} {H : Hp} {v : V} {z : Str} {ar : List Arw} {p c : Int} (h : Dp K H v (dW (z, ar, p, c))) : ∃ W, v = .ref W ∧ WrS K H W z ar p c := by
  obtain ⟨W, xs, rfl, hs, hx⟩ := dp_tup h
  obtain ⟨v1, v2, v3, v4, rfl, h1, h2, h3, h4⟩ := dps4 hx
  obtain rfl := dp_str h1
  obtain rfl := dp_int h3
  obtain rfl := dp_int h4
  obtain ⟨tp, ys, rfl, ht, hy⟩ := dp_tup h2
  have : ∀ (ys : List V) (ar : List Arw), DpAll K H ys (ar.map dA) → ∃ ps : List Addr, ys = ps.map V.ref ∧ ArsS K H ps ar := fun ys ar => by
    induction ar generalizing ys with
    | nil =>
      intro q
      cases q
      exact ⟨[], rfl, .nil⟩
    | cons x r ih =>
      intro q
      cases q with
      | cons q1 q2 =>
      obtain ⟨ps, rfl, hps⟩ := ih _ q2
      obtain ⟨a, us, rfl, ha, hus⟩ := dp_tup q1
      obtain ⟨u1, u2, u3, rfl, g1, g2, g3⟩ := dps3 hus
      obtain rfl := dp_int g1
      obtain rfl := dp_str g2
      obtain rfl := dp_int g3
      exact ⟨a :: ps, rfl, .cons ha hps⟩
  obtain ⟨ps, rfl, hps⟩ := this ys ar hy
  exact ⟨W, rfl, tp, ps, hs, ht, hps⟩
def spWTd (K : PySem.W.Frag) : Sp := fun vs H Q _ => ∃ (W : Addr) (z : Str) (ar : List Arw) (p c : Int), vs = [.ref W] ∧ WrS K H W z ar p c ∧ GoodW z ar p c ∧ ∀ H', Same H H' → Q (.str (wText z ar p c)) H'
def spRW : Sp := fun vs H Q _ => ∃ (z : Str) (ar : List Arw) (p c : Int), vs = [.str (wText z ar p c)] ∧ GoodW z ar p c ∧ ∀ W H', H W = none → Same H H' → WrAt H' W z ar p c → Q (.ref W) H'
section
variable {P : Program} {w : World} {K : PySem.W.Frag} {mg : Str → Option Value} {base : Heap}
theorem ok_law_textD {f : Addr} {fd : FuncData} {k : Nat} (F : Fun K "_law_writer_text" "_law_writer_text" sLWriterText f fd) (T : Txt mg) : FnOk P w K mg base CX0 (k + 1) f fd ["_law_writer_here"] (spWTd K) := by
  refine F.ok sc__law_writer_text (fun vs H Q E h => ?_) (fun cdv A outer s H vs Q E hr h => ?_)
  · obtain ⟨W, z, ar, p, c, rfl, _⟩ := h
    rfl
  · obtain ⟨W, z, ar, p, c, rfl, ⟨tp, ps, hW, htp, hps⟩, g, q⟩ := h
    refine ⟨_, (pss_cons (ps_setLc (i := 1) (own := [("_law_place", 2), ("_law_sign", 3), ("_law_to", 4)]) (g := (gTup K 3 (gCons (gName 2) (gCons (gName 3) (gCons (gName 4) gNil))))) (by rfl) sc__law_writer_text.nd rfl rfl (sw_true rfl rfl rfl (by decide +kernel)) (pi_tup (pe_ix ix_tup (pv 0) pe_int (fun _ _ => rfl))) (blkOk_by (own := [("_law_place", 2), ("_law_sign", 3), ("_law_to", 4)]) (N := ["_law_writer_here", "_law_rows", "_law_place", "_law_sign", "_law_to"]) (sc := defScope sLWriterText) (by decide +kernel)) (fun _ _ _ _ _ => (pg_tup rfl (pgs_cons (pg_name (i := 2) sc__law_writer_text.nd rfl (.inl rfl)) (pgs_cons (pg_name (i := 3) sc__law_writer_text.nd rfl (.inl rfl)) (pgs_cons (pg_name (i := 4) sc__law_writer_text.nd rfl (.inl rfl)) pgs_nil))))) (fun _ _ _ _ _ => pts_nil) (fun _ _ _ _ _ => (pe_op op_add_str (pe_op op_add_str (pe_callTy call_str_int (by rfl) T.m_str (by decide +kernel) (pa_cons (pv 2) pa_nil)) (pv 3)) (pe_callTy call_str_int (by rfl) T.m_str (by decide +kernel) (pa_cons (pv 4) pa_nil)))))
    (pss_one (ps_ret (pe_op op_add_str (pe_op op_add_str (pe_op op_add_str (pe_op op_add_str (pe_op op_add_str (pe_op op_add_str (pe_ix ix_tup (pv 0) pe_int (fun _ _ => rfl)) pe_str) (pe_orT (pe_join pe_str (pv 1)) (pe_one pe_str))) pe_str) (pe_callTy call_str_int (by rfl) T.m_str (by decide +kernel) (pa_cons (pe_ix ix_tup (pv 0) pe_int (fun _ _ => rfl)) pa_nil))) pe_str) (pe_callTy call_str_int (by rfl) T.m_str (by decide +kernel) (pa_cons (pe_ix ix_tup (pv 0) pe_int (fun _ _ => rfl)) pa_nil)))))), ?_⟩
    have elen : ps.length = ar.length := Paired.length hps
    have hl9 := g.len
    have ltold := told_len g.each g.len
    have lz := g.name.2.1
    have lp : (dig p).length = 1 := by rw [dig_eq g.p0 (by have := g.p3; omega)]; rfl
    have lc : (dig c).length = 1 := by rw [dig_eq g.c0 (by have := g.c3; omega)]; rfl
    have l5 : slash.length = 1 := by decide +kernel
    refine Evl.q_asgL (xs := (ar.map rowT).map V.str) ?_ fun D H1 nD s1 eD => ?_
    · rw [← rows_list (show (ps.map V.ref).length = ar.length by rw [List.length_map, elen])]
      refine el_lcT (a := tp) (xs := ps.map V.ref) _ (fun i => match ar[i]? with | some x => [some (.ref W), none, some (.int x.1), some (.str x.2.1), some (.int x.2.2)] | none => []) (ev_ixT (Evl.ev_var (by rfl)) Evl.ev_c (hW) (by decide) rfl) (htp) (by rw [List.length_map, elen]; omega) (fun i v H1 e1 hv Q2 q2 => ?_) (fun i hi => ?_) (fun i H1 e1 hi => ?_)
      · obtain ⟨p', hp, rfl⟩ := refs_at hv
        obtain ⟨x, hx, hpx⟩ := hps.get hp
        rw [hx] at q2
        exact ⟨p', _, rfl, Evl.ex_t e1 hpx, rfl, _, _, rfl, _, _, rfl, _, _, rfl, rfl, q2⟩
      · rw [List.length_map, elen] at hi
        rw [List.getElem?_eq_getElem hi]
        rfl
      · rw [List.length_map, elen] at hi
        have hm := g.each _ (List.getElem_mem hi)
        rw [List.getElem?_eq_getElem hi]
        generalize ar[i] = x at hm
        have l3 := row_len hm
        unfold rowT at l3
        rw [Str.length_append, Str.length_append] at l3
        have l3' : (Str.ofString (toString x.1)).length + x.2.1.length + (Str.ofString (toString x.2.2)).length = 3 := l3
        obtain ⟨h1, h2, _, h3, h4⟩ := hm
        exact Evl.ev_op (Evl.ev_op (ev_strI (Evl.ev_var (by rfl)) h1 (by omega)) (Evl.ev_var (by rfl)) (rv_addS (by omega))) (ev_strI (Evl.ev_var (by rfl)) h3 (by omega)) (rv_addS (by rw [Str.length_append]; omega))
    · have hW1 := Evl.ex_t s1 hW
      have e0 : wText z ar p c = z ++ slash ++ told ar ++ slash ++ dig p ++ slash ++ dig c := join4 _ _ _ _
      have lp' : (Str.ofString (toString p)).length = 1 := lp
      have lc' : (Str.ofString (toString c)).length = 1 := lc
      have l5' : (Str.ofString "/").length = 1 := l5
      refine Evl.s_ret (v := .str (wText z ar p c)) (Evl.ev_is (v := .str (z ++ slash ++ told ar ++ slash ++ dig p ++ slash ++ dig c)) (Evl.ev_op (Evl.ev_op (Evl.ev_op (Evl.ev_op (Evl.ev_op (Evl.ev_op
        (ev_ixT (Evl.ev_var (by rfl)) Evl.ev_c (hW1) (by decide) rfl) Evl.ev_c (rv_addS (by omega)))
        (Evl.ev_is (ev_orT (y := Txt.join semi (ar.map rowT)) (d := dash) (ev_joinV Evl.ev_c (Evl.ev_var (by rfl)) (.of eD) ?_) (by have := join_rows_len g.each; omega) Evl.ev_c) (congrArg V.str (told_or g.each).symm)) (rv_addS ?_))
        Evl.ev_c (rv_addS ?_)) (ev_strI (ev_ixT (Evl.ev_var (by rfl)) Evl.ev_c (hW1) (by decide) rfl) g.p0 (by have := g.p3; omega)) (rv_addS ?_))
        Evl.ev_c (rv_addS ?_)) (ev_strI (ev_ixT (Evl.ev_var (by rfl)) Evl.ev_c (hW1) (by decide) rfl) g.c0 (by have := g.c3; omega)) (rv_addS ?_)) (by rw [e0])) fun H2 s2 => q H2 (Same.trans s1 s2)
      · have e1 := rows_sum g.each
        rw [e1, List.length_map]
        have : semi.length = 1 := by decide +kernel
        rw [this]
        omega
      all_goals (simp only [Str.length_append]; omega)
end
end Ink
namespace Ink
open PySem PySem.Spec PyProof.Rows L2 Evl
def wrT (x : Wr) : Str := wText x.1 x.2.1 x.2.2.1 x.2.2.2
abbrev GW (x : Wr) : Prop := GoodW x.1 x.2.1 x.2.2.1 x.2.2.2
def RWT : List PyData → PyData → Prop := fun ds d => ∃ x : Wr, ds = [dW x] ∧ GW x ∧ d = .str (wrT x)
section
variable {P : Program} {w : World} {K : PySem.W.Frag} {mg : Str → Option Value} {base : Heap}
theorem wt_imp {vs : List V} {H : Hp} {Q : VK} {E : XK} (h : spP K RWT vs H Q E) : spWTd K vs H Q E := by
  obtain ⟨ds, d, hd, ⟨⟨z, ar, p, c⟩, rfl, g, rfl⟩, q⟩ := h
  obtain ⟨v0, rfl, h0⟩ := dps1 hd
  obtain ⟨W, rfl, hW⟩ := wr_sq h0
  exact ⟨W, z, ar, p, c, rfl, hW, g, fun H' s => q _ H' s (.str _)⟩
end
end Ink
namespace Ink
open PySem PySem.Spec PyProof.Rows L2 Evl
/-! ### deeds as data -/
inductive Th where
  | w (x : Wr)
  | t (s : Str)
  | n (i : Int)
def dTh : Th → PyData
  | .w x => dW x
  | .t s => .str s
  | .n i => .int i
def txTh : Th → Str
  | .w x => wrT x
  | .t s => s
  | .n i => dig i
abbrev blank : Str := Str.ofString " "
abbrev sWriter : Str := Str.ofString "writer"
abbrev sName : Str := Str.ofString "name"
abbrev sSign : Str := Str.ofString "sign"
abbrev sNumber : Str := Str.ofString "number"
def isOne (s : Str) : Prop := ∃ c ∈ lets, s = single c
/-- a thing of that kind -/
def ThOk (k : Str) : Th → Prop
  | .w x => k = sWriter ∧ GW x
  | .t s => (k = sName ∧ NameZ s) ∨ (k = sSign ∧ isOne s)
  | .n i => k = sNumber ∧ i.natAbs < 10 ^ 30
abbrev Deed := Str × List Th
def dDeed (d : Deed) : PyData := .tuple (.str d.1 :: d.2.map dTh)
def txDeed (d : Deed) : Str := Txt.join blank (d.1 :: d.2.map txTh)
def formsT : List (Str × List Str) := [(Str.ofString "come", [sWriter]), (Str.ofString "leave", [sName]), (Str.ofString "change", [sWriter]), (Str.ofString "sign", [sSign]), (Str.ofString "said", [sNumber, sName]), (Str.ofString "denied", [sNumber, sName]), (Str.ofString "unsay", [sNumber]), (Str.ofString "watch", [sNumber]), (Str.ofString "unwatch", [sNumber])]
def dKs (ks : List Str) : PyData := .tuple (ks.map .str)
def formsD : List (Str × PyData) := formsT.map fun x => (x.1, dKs x.2)
/-- a deed of a form -/
def DeedOk (d : Deed) : Prop := ∃ ks, (d.1, ks) ∈ formsT ∧ Paired ThOk ks d.2
theorem forms_in {d : Str} {ks : List Str} (h : (d, ks) ∈ formsT) : (d, dKs ks) ∈ formsD := List.mem_map.mpr ⟨_, h, rfl⟩
theorem forms_len : ∀ x ∈ formsT, x.1.length ≤ 10 ∧ x.2.length ≤ 2 ∧ (∀ k ∈ x.2, k.length ≤ 10) ∧ 32 ∉ TL.tl x.1 := by decide +kernel
/-- of a writer it is just those two -/
theorem forms_wr : ∀ x ∈ formsT, (x.2 = [sWriter] ∧ x.1 ∈ [Str.ofString "come", Str.ofString "change"]) ∨ ((∀ k ∈ x.2, k ≠ sWriter) ∧ x.1 ∉ [Str.ofString "come", Str.ofString "change"]) := by decide +kernel
theorem fz_dTh (x : Th) : fz (dTh x) = true := by
  cases x with
  | w x => exact fz_dW x
  | t s => unfold dTh fz; rfl
  | n i => unfold dTh fz; rfl
theorem fz_dDeed (d : Deed) : fz (dDeed d) = true := by
  unfold dDeed fz fzAll
  rw [Bool.and_eq_true]
  exact ⟨by unfold fz; rfl, fz_map fun x _ => fz_dTh x⟩
theorem ok_dW {n : Nat} {x : Wr} (h : x.2.1.length ≤ 9) : okD (n + 4) (dW x) := ⟨by show 4 ≤ 1000; decide, fun d hd => by
  simp only [List.mem_cons, List.not_mem_nil, or_false] at hd
  rcases hd with rfl | rfl | rfl | rfl
  · exact True.intro
  · refine ⟨by rw [List.length_map]; omega, fun d hd => ?_⟩
    obtain ⟨a, _, rfl⟩ := List.mem_map.mp hd
    refine ⟨by show 3 ≤ 1000; decide, fun d hd => ?_⟩
    simp only [List.mem_cons, List.not_mem_nil, or_false] at hd
    rcases hd with rfl | rfl | rfl <;> exact True.intro
  · exact True.intro
  · exact True.intro⟩
theorem okTh {k : Str} {x : Th} (h : ThOk k x) : okD 4 (dTh x) := by
  cases x with
  | w x => exact ok_dW h.2.len
  | t s => exact True.intro
  | n i => exact True.intro
theorem DeedOk.len {d : Deed} (h : DeedOk d) : d.2.length ≤ 2 := by
  obtain ⟨ks, h1, h2⟩ := h
  have := (forms_len _ h1).2.1
  rw [← h2.length]
  exact this
theorem paired_mem {α β : Type} {R : α → β → Prop} : ∀ {xs : List α} {ys : List β}, Paired R xs ys → ∀ y ∈ ys, ∃ x ∈ xs, R x y
  | _, _, .nil, _, h => nomatch h
  | _, _, .cons r t, y, h => by
    rcases List.mem_cons.mp h with rfl | h
    · exact ⟨_, List.mem_cons_self .., r⟩
    · obtain ⟨x, hx, q⟩ := paired_mem t y h
      exact ⟨x, List.mem_cons_of_mem _ hx, q⟩
theorem ok_deed {d : Deed} (h : DeedOk d) : okD 5 (dDeed d) := by
  have hl := h.len
  obtain ⟨ks, h1, h2⟩ := h
  refine ⟨by rw [List.length_cons, List.length_map]; omega, fun x hx => ?_⟩
  rcases List.mem_cons.mp hx with rfl | hx
  · exact True.intro
  · obtain ⟨t, ht, rfl⟩ := List.mem_map.mp hx
    obtain ⟨k, _, q⟩ := paired_mem h2 t ht
    exact okTh q
theorem th_len {k : Str} {x : Th} (h : ThOk k x) : (txTh x).length ≤ 60 := by
  cases x with
  | w x => exact wText_len h.2
  | t s =>
    rcases h with h | ⟨_, c, _, rfl⟩
    · have := h.2.2.1
      show s.length ≤ 60
      omega
    · show 1 ≤ 60
      decide
  | n i =>
    have := num_len h.2
    show (dig i).length ≤ 60
    omega
theorem told_no32 {ar : List Arw} (h : ∀ x ∈ ar, goodA x) : 32 ∉ TL.tl (told ar) := by
  unfold told
  split
  · decide +kernel
  · intro hm
    rw [TL.join_eq, TL.tl_join] at hm
    rcases joinL_mem hm with hm | ⟨y, hy, hm⟩
    · have : 32 ∉ TL.tl semi := by decide +kernel
      exact this hm
    · obtain ⟨z, hz, rfl⟩ := List.mem_map.mp hy
      obtain ⟨x, hx, rfl⟩ := List.mem_map.mp hz
      exact row_no (h x hx) 32 (.inl (by decide)) hm
theorem name_no32 {z : Str} (h : ∀ c ∈ z.cps.toList, c ∈ lets) : 32 ∉ TL.tl z := fun hm => by
  have := (lets_iff 32).mp (h 32 hm)
  omega
theorem wr_no32 {x : Wr} (g : GW x) : 32 ∉ TL.tl (wrT x) := by
  unfold wrT wText
  intro hm
  rw [TL.join_eq, TL.tl_join] at hm
  rcases joinL_mem hm with hm | ⟨y, hy, hm⟩
  · have : 32 ∉ TL.tl slash := by decide +kernel
    exact this hm
  · simp only [List.map_cons, List.map_nil, List.mem_cons, List.not_mem_nil, or_false] at hy
    rcases hy with rfl | rfl | rfl | rfl
    · exact name_no32 g.name.2.2 hm
    · exact told_no32 g.each hm
    · exact dig_no g.p0 (by have := g.p3; omega) 32 (.inl (by decide)) hm
    · exact dig_no g.c0 (by have := g.c3; omega) 32 (.inl (by decide)) hm
theorem num_no32 (n : Int) : 32 ∉ TL.tl (dig n) := by
  rw [num_tl]
  have h : 32 ∉ figs n.natAbs := fun z => by
    have := figs_all n.natAbs 32 z
    omega
  split
  · intro z
    rcases List.mem_cons.mp z with z | z
    · omega
    · exact h z
  · exact h
theorem th_no32 {k : Str} {x : Th} (h : ThOk k x) : 32 ∉ TL.tl (txTh x) := by
  cases x with
  | w x => exact wr_no32 h.2
  | t s =>
    rcases h with h | ⟨_, c, hc, rfl⟩
    · exact name_no32 h.2.2.2
    · intro hm
      have : 32 = c := List.mem_singleton.mp hm
      have := (lets_iff c).mp hc
      omega
  | n i => exact num_no32 i
theorem tl_blank : TL.tl blank = [32] := by decide +kernel
theorem deed_split {d : Deed} (h : DeedOk d) : Txt.split (txDeed d) blank = d.1 :: d.2.map txTh := by
  obtain ⟨ks, h1, h2⟩ := h
  unfold txDeed
  refine TL.split_join (s := 32) (S := []) tl_blank (by decide +kernel) (fun e => nomatch e) fun q hq => ?_
  rcases List.mem_cons.mp hq with rfl | hq
  · exact (forms_len _ h1).2.2.2
  · obtain ⟨x, hx, rfl⟩ := List.mem_map.mp hq
    obtain ⟨k, _, r⟩ := paired_mem h2 x hx
    exact th_no32 r
theorem deed_sum {d : Deed} (h : DeedOk d) : ((d.1 :: d.2.map txTh).map (·.length)).sum ≤ 200 := by
  have hl := h.len
  obtain ⟨ks, h1, h2⟩ := h
  have h3 := (forms_len _ h1).1
  have h4 : ∀ x ∈ d.2, (txTh x).length ≤ 60 := fun x hx => by
    obtain ⟨k, _, r⟩ := paired_mem h2 x hx
    exact th_len r
  rw [List.map_cons, List.sum_cons]
  have : ∀ l : List Th, l.length ≤ 2 → (∀ x ∈ l, (txTh x).length ≤ 60) → ((l.map txTh).map (·.length)).sum ≤ 120 := fun l hl hx => by
    match l, hl, hx with
    | [], _, _ => exact Nat.zero_le _
    | [a], _, hx =>
      have := hx a (List.mem_cons_self ..)
      show (txTh a).length + 0 ≤ 120
      omega
    | [a, b], _, hx =>
      have := hx a (List.mem_cons_self ..)
      have := hx b (List.mem_cons_of_mem _ (List.mem_cons_self ..))
      show (txTh a).length + ((txTh b).length + 0) ≤ 120
      omega
  have := this d.2 hl h4
  have h3 : d.1.length ≤ 10 := h3
  omega
theorem deed_len {d : Deed} (h : DeedOk d) : (txDeed d).length ≤ 1000 := by
  have h1 := deed_sum h
  have hl := h.len
  unfold txDeed
  rw [TL.join_eq, TL.len_tl, TL.tl_join]
  refine Nat.le_trans (joinL_le _ _) ?_
  have e : ∀ l : List Str, ((l.map TL.tl).map fun p => p.length + (TL.tl blank).length).sum = (l.map (·.length)).sum + l.length := fun l => by
    rw [tl_blank]
    induction l with
    | nil => rfl
    | cons x r ih =>
      simp only [List.map_cons, List.sum_cons, List.length_cons] at ih ⊢
      rw [ih, TL.len_tl x]
      simp only [List.length_nil]
      omega
  rw [e, List.length_cons, List.length_map]
  omega
end Ink
namespace Ink
open PySem PySem.Spec PyProof.Rows L2 Evl
/-! ### a deed's thing, read of any text -/
def thIn (k z : Str) : Option Th :=
  if k = sWriter then (rdP z).map fun x => Th.w x
  else if k = sNumber then (numIn z).map Th.n
  else if (if k = sName then isName z else isSign z) = true then some (.t z) else none
/-- any text: the thing, or BadText(0) -/
def spThX (K : PySem.W.Frag) (C : Addr) : Sp := fun vs H Q E => ∃ k z, vs = [.str k, .str z] ∧ z.length ≤ 900 ∧ (∀ x, thIn k z = some x → ∀ v H', Same H H' → Dp K H' v (dTh x) → Q v H') ∧
  (thIn k z = none → ∀ d H', H d = none → Same H H' → H' d = some (.xd [("at", .int 0), ("word", .str "BadText")]) → E (.ref C) (some d) H')
section
variable {P : Program} {w : World} {K : PySem.W.Frag} {mg : Str → Option Value} {base : Heap}
theorem ok_read_thingX {f C : Addr} {fd : FuncData} {k : Nat} (F : Fun K "_read_thing" "_read_thing" sReadThing f fd) (T : Txt mg) (hk : 3 ≤ k) (B : BadR P w K mg base 2 C) (C_read_writer : CalN P w K mg base k "read_writer" ["text"] (spRd C)) (C_read_number : CalN P w K mg base k "read_number" ["text"] (spNumX C))
    (C_is_name : Cal P w K mg base k "is_name" ["text"] spName) (C_is_sign : Cal P w K mg base k "is_sign" ["text"] spSign) : FnOk P w K mg base (L2N.CX P w) (k + 1) f fd ["kind", "text"] (spThX K C) := by
  refine okN F sc__read_thing (fun vs H Q E h => ?_) (fun cdv A outer s H vs Q E hr h => ?_)
  · obtain ⟨ka, z, rfl, _⟩ := h
    rfl
  · obtain ⟨ka, z, rfl, hz, q, qb⟩ := h
    refine ⟨_, (pss_cons (ps_if (pt_cmpR op_eq (pv 0) pe_str (nomark _))
    (pss_one (ps_ret (pe_callCN C_read_writer hr passN (by rfl) (pa_cons (pv 1) pa_nil)))) pss_nil)
    (pss_cons (ps_if (pt_cmpR op_eq (pv 0) pe_str (nomark _))
    (pss_one (ps_ret (pe_callCN C_read_number hr passN (by rfl) (pa_cons (pv 1) pa_nil)))) pss_nil)
    (pss_cons (ps_if (pt_not (pt_ifExp (pt_cmpR op_eq (pv 0) pe_str (nomark _)) (pt_val (pe_callC C_is_name hr (by rfl) (pa_cons (pv 1) pa_nil))) (pt_val (pe_callC C_is_sign hr (by rfl) (pa_cons (pv 1) pa_nil)))))
    (pss_one (ps_raiseBad B (hr.mono hk) (by rfl) rfl (L2N.takes_of rfl rfl rfl rfl) (pa_cons pe_int pa_nil))) pss_nil)
    (pss_one (ps_ret (pv 1)))))), ?_⟩
    have hback : ∀ {H1 : Hp} {d : Addr}, Same H H1 → H1 d = none → H d = none := fun {H1 d} s1 nd => by
      cases hd : H d with
      | none => rfl
      | some o => exact nomatch (s1 _ _ hd).symm.trans nd
    have hbad : ∀ {σ : L2.St} {H1 : Hp}, Same H H1 → thIn ka z = none → tMkO C (spBad K) [] (tCons (tC (.int 0)) tNil) σ H1 (fun cls d H' => E cls d H') := fun {σ H1} s1 hn =>
      bad_made B.nm B.hw B.hat (by decide) (by decide +kernel) (fun R r => r) fun d nd => qb hn d _ (hback s1 nd) (s1.trans (same_new nd)) upd_same
    have eqs : ∀ a b : Str, decide (V.str a = V.str b) = decide (a = b) := fun a b => decide_eq_decide.mpr ⟨fun e => by injection e, fun e => by rw [e]⟩
    refine q_when (b := decide (ka = sWriter)) (et_is (et_test (ev_op (ev_var rfl) ev_c (rv_eq rfl))) (eqs _ _)) (fun h1 H1 e1 => ?_) fun h1 H1 e1 => ?_
    · have h1 := of_decide_eq_true h1
      have et : thIn ka z = (rdP z).map fun x => Th.w x := by
        unfold thIn
        rw [if_pos h1]
      exact ⟨_, rfl, z, rfl, hz, fun z1 ar p c h W H' _ s2 hW => q (.w (z1, ar, p, c)) (by rw [et, h]; rfl) _ H' (e1.trans s2) (wr_dp hW), fun hn d H' nd s2 hd => qb (by rw [et, hn]; rfl) d H' (hback e1 nd) (e1.trans s2) hd⟩
    have h1 := of_decide_eq_false h1
    refine q_when (b := decide (ka = sNumber)) (et_is (et_test (ev_op (ev_var rfl) ev_c (rv_eq rfl))) (eqs _ _)) (fun h2 H2 e2 => ?_) fun h2 H2 e2 => ?_
    · have h2 := of_decide_eq_true h2
      have et : thIn ka z = (numIn z).map Th.n := by
        unfold thIn
        rw [if_neg h1, if_pos h2]
      exact ⟨_, rfl, z, rfl, hz, fun n h H' s2 => q (.n n) (by rw [et, h]; rfl) _ H' ((e1.trans e2).trans s2) (.int n), fun hn d H' nd s2 hd => qb (by rw [et, hn]; rfl) d H' (hback (e1.trans e2) nd) ((e1.trans e2).trans s2) hd⟩
    have h2 := of_decide_eq_false h2
    have et : thIn ka z = if (if ka = sName then isName z else isSign z) = true then some (.t z) else none := by
      unfold thIn
      rw [if_neg h1, if_neg h2]
    refine q_when (b := !(if ka = sName then isName z else isSign z)) (et_not (et_if (b := decide (ka = sName)) (et_is (et_test (ev_op (ev_var rfl) ev_c (rv_eq rfl))) (eqs _ _)) (fun hb => ?_) fun hb => ?_)) (fun h3 H3 e3 => hbad ((e1.trans e2).trans e3) ?_) fun h3 H3 e3 => ?_
    · rw [if_pos (of_decide_eq_true hb)]
      exact et_B (ev_call (ea_cons (ev_var rfl) ea_nil) fun H4 Q4 _ q4 => ⟨z, rfl, by omega, q4⟩)
    · rw [if_neg (of_decide_eq_false hb)]
      exact et_B (ev_call (ea_cons (ev_var rfl) ea_nil) fun H4 Q4 _ q4 => ⟨z, rfl, by omega, q4⟩)
    · rw [Bool.not_eq_true'] at h3
      rw [et, h3]
      rfl
    · rw [Bool.not_eq_false'] at h3
      exact s_ret (ev_var rfl) fun H4 e4 => q (.t z) (by rw [et, h3]; rfl) _ H4 (((e1.trans e2).trans e3).trans e4) (.str z)
end
end Ink
namespace Ink
open PySem PySem.Spec PyProof.Rows L2 Evl
/-! ### any text, read as a deed: the program's way and the law's -/
def thsIn : List Str → List Str → Option (List Th)
  | [], [] => some []
  | k :: ks, z :: zs => match thIn k z, thsIn ks zs with
    | some x, some r => some (x :: r)
    | _, _ => none
  | _, _ => none
def deedIn (t : Str) : Option Deed := match Txt.split t blank with
  | wd :: zs => match formsT.lookup wd with
    | some ks => (thsIn ks zs).map fun r => (wd, r)
    | none => none
  | [] => none
theorem thsIn_len : ∀ {ks zs : List Str} {r : List Th}, thsIn ks zs = some r → ks.length = zs.length ∧ r.length = zs.length
  | [], [], r, h => by
    unfold thsIn at h
    cases h
    exact ⟨rfl, rfl⟩
  | k :: ks, z :: zs, r, h => by
    unfold thsIn at h
    split at h
    · rename_i x r' e1 e2
      cases h
      obtain ⟨h1, h2⟩ := thsIn_len e2
      exact ⟨by rw [List.length_cons, List.length_cons, h1], by rw [List.length_cons, List.length_cons, h2]⟩
    · cases h
  | [], _ :: _, _, h => by
    unfold thsIn at h
    cases h
  | _ :: _, [], _, h => by
    unfold thsIn at h
    cases h
/-- the law's letters -/
def kLet (k : Str) : Nat := if k = sWriter then 119 else if k = sNumber then 98 else if k = sName then 110 else 115
def lawForms : List (Str × Str) := [("come", "w"), ("leave", "n"), ("change", "w"), ("sign", "s"), ("said", "bn"), ("denied", "bn"), ("unsay", "b"), ("watch", "b"), ("unwatch", "b")]
theorem lawForms_is : lawForms.map (fun x => (x.1, TL.tl x.2)) = formsT.map fun x => (x.1, x.2.map kLet) := by decide +kernel
/-- a thing as the law finds it -/
def thL (c : Nat) (z : Str) : PyData :=
  if c = 119 then (match rdP z with | some x => dW x | none => .none)
  else if c = 98 then (match numIn z with | some n => .int n | none => .none)
  else if (lawName z && (decide (c = 110) || decide (z.length = 1))) = true then .str z else .none
def dThO : Option Th → PyData
  | some x => dTh x
  | none => .none
theorem thL_is {k z : Str} (h : k ∈ [sWriter, sNumber, sName, sSign]) : thL (kLet k) z = dThO (thIn k z) := by
  have d : sWriter ≠ sNumber ∧ sWriter ≠ sName ∧ sWriter ≠ sSign ∧ sNumber ≠ sName ∧ sNumber ≠ sSign ∧ sName ≠ sSign := by decide +kernel
  obtain ⟨d1, d2, d3, d4, d5, d6⟩ := d
  simp only [List.mem_cons, List.not_mem_nil, or_false] at h
  rcases h with rfl | rfl | rfl | rfl
  · have e : kLet sWriter = 119 := by unfold kLet; rw [if_pos rfl]
    unfold thL thIn
    rw [e, if_pos rfl, if_pos rfl]
    cases rdP z <;> rfl
  · have e : kLet sNumber = 98 := by unfold kLet; rw [if_neg (Ne.symm d1), if_pos rfl]
    unfold thL thIn
    rw [e, if_neg (by decide), if_pos rfl, if_neg (Ne.symm d1), if_pos rfl]
    cases numIn z <;> rfl
  · have e : kLet sName = 110 := by unfold kLet; rw [if_neg (Ne.symm d2), if_neg (Ne.symm d4), if_pos rfl]
    unfold thL thIn
    rw [e, if_neg (by decide), if_neg (by decide), if_neg (Ne.symm d2), if_neg (Ne.symm d4), if_pos rfl, name_eq, decide_eq_true (rfl : (110 : Nat) = 110), Bool.true_or, Bool.and_true]
    cases lawName z <;> rfl
  · have e : kLet sSign = 115 := by unfold kLet; rw [if_neg (Ne.symm d3), if_neg (Ne.symm d5), if_neg (Ne.symm d6)]
    unfold thL thIn
    have s1 : isSign z = (lawName z && decide (z.length = 1)) := by
      rw [sign_eq]
      congr 1
      exact decide_eq_decide.mpr ⟨fun e => by injection e with e; omega, fun e => by rw [e]; rfl⟩
    rw [e, if_neg (by decide), if_neg (by decide), if_neg (Ne.symm d3), if_neg (Ne.symm d5), if_neg (Ne.symm d6), s1, decide_eq_false (by decide : ¬ (115 : Nat) = 110), Bool.false_or]
    cases (lawName z && decide (z.length = 1)) <;> rfl
end Ink
namespace Ink
open PySem PySem.Spec PyProof.Rows L2 Evl
section
variable {P : Program} {w : World} {K : PySem.W.Frag} {σ : L2.St} {H : Hp} {ta tb te : TE} {v : V} {ds : List PyData}
theorem dps_str : ∀ {vs : List V} {zs : List Str}, DpAll K H vs (zs.map PyData.str) → vs = zs.map V.str
  | _, [], h => by cases h; rfl
  | _, z :: zs, h => by
    cases h with
    | cons h t =>
      rw [dp_str h, dps_str t]
      rfl
theorem ev_inS {z : Str} {zs : List Str} {neg : Bool} {d : PyData} (ha : Ev ta σ H (.str z)) (hb : EvD K tb σ H d) (hd : d = .list (zs.map PyData.str) ∨ d = .tuple (zs.map PyData.str)) : Ev (tOp (rIn K neg) ta tb) σ H (.bl (if neg then !decide (z ∈ zs) else decide (z ∈ zs))) := fun H1 e Q q =>
  ha H1 e _ fun H2 e2 => hb H2 (e.trans e2) _ fun v H3 e3 hv => by
    have fl : (zs.map V.str).all flatV = true := List.all_eq_true.mpr fun x hx => by
      obtain ⟨m, _, rfl⟩ := List.mem_map.mp hx
      rfl
    rcases hd with rfl | rfl
    · obtain ⟨p, xs, rfl, hs, hxs⟩ := dp_lst hv
      rw [dps_str hxs] at hs
      exact ⟨p, _, rfl, .inl hs, rfl, fl, by rw [inV_strs]; exact q H3 (e2.trans e3)⟩
    · obtain ⟨p, xs, rfl, hs, hxs⟩ := dp_tup hv
      rw [dps_str hxs] at hs
      exact ⟨p, _, rfl, .inr hs, rfl, fl, by rw [inV_strs]; exact q H3 (e2.trans e3)⟩
/-- a loop that leaves all as it stands -/
theorem sd_forS {D : Ends} {tu : TS} {ti : TI} {g : TG} (hi : EvI K ti σ H ds) (Pv : Hp → Nat → L2.St → Hp → Prop) (h0 : ∀ H2, Ex H H2 → Pv H2 0 σ H2) (hT : ∀ H2 i σ' H', Pv H2 i σ' H' → Ex H2 H')
    (hs : ∀ H2 i d x σ' H' H'', Ex H H2 → ds[i]? = some d → Pv H2 i σ' H' → Ex H' H'' → Dp K H'' x d → g x σ' H'' fun σ2 H3 => tu { D with nx := Pv H2 (i + 1), ct := Pv H2 (i + 1), bk := D.nx } σ2 H3)
    (hd : ∀ H2 σ' H', Ex H H2 → Pv H2 ds.length σ' H' → D.nx σ' H') : tFor ti g tu D σ H :=
  hi H (Ex.refl H) _ fun J H2 e2 W => for_it W (Pv H2) (h0 H2 e2) (fun i σ' H' _ hP => hT H2 i σ' H' hP) (fun i x σ' Ha Hb hi hP hy => by
    obtain ⟨e3, d, h1, h2⟩ := hy
    exact hs H2 i d x σ' Ha Hb e2 h1 hP e3 h2) (fun σ' H' hP => hd H2 σ' H' e2 hP)
end
end Ink
namespace Ink
open PySem PySem.Spec PyProof.Rows L2 Evl
section
variable {K : PySem.W.Frag} {σ : L2.St} {H : Hp} {ta tb te to : TE} {ds es : List PyData}
theorem eds_starL {tr : TA} (h : EvD K te σ H (.list ds)) (hr : EvDs K tr σ H es) : EvDs K (StX.tStar K te tr) σ H (ds ++ es) := fun H1 e _ q =>
  h H1 e _ fun v H2 e2 hv => by
    obtain ⟨p, xs, rfl, hs, hxs⟩ := dp_lst hv
    exact ⟨p, xs, rfl, .inr hs, hr H2 (e.trans e2) _ fun vs H3 e3 hds => q _ H3 (e2.trans e3) ((dps_same e3 hxs).app hds)⟩
theorem eds_starE (h : EvD K te σ H (.list ds)) : EvDs K (StX.tStar K te tNil) σ H ds := by
  have := eds_starL h (eds_nil (K := K) (σ := σ) (H := H))
  rw [List.append_nil] at this
  exact this
theorem el_ofN {zs : List Str} (h : EvN K te σ H (zs.map .str)) : EvL te σ H (zs.map V.str) := fun H1 e Q q => h H1 e _ fun p vs H2 np e2 hp hd => q p H2 np e2 (by rw [hp, dps_str hd])
theorem ev_fmtS {s : Str} (h : Ev te σ H (.str s)) (hz : s.length ≤ 100000) : Ev (tFmt te) σ H (.str s) := fun H1 e Q q => h H1 e _ fun H2 e2 => .inl ⟨s, rfl, small_le (by omega), q H2 e2⟩
theorem num_log {n : Int} (h : n.natAbs < 10 ^ 30) : n.natAbs.log2 < 1920 := by
  by_cases h0 : n.natAbs = 0
  · rw [h0]
    decide
  · refine (Nat.log2_lt h0).mpr (Nat.lt_trans h (by decide +kernel))
theorem ev_fmtI {n : Int} (h : Ev te σ H (.int n)) (hn : n.natAbs < 10 ^ 30) : Ev (tFmt te) σ H (.str (dig n)) := fun H1 e Q q => h H1 e _ fun H2 e2 => .inr ⟨n, rfl, num_log hn, q H2 e2⟩
theorem ev_strAS {s : Str} (h : Ev te σ H (.str s)) : Ev (tCB rStrA (tCons te tNil)) σ H (.str s) := fun H1 e Q q => h H1 e _ fun H2 e2 => .inl ⟨s, rfl, q H2 e2⟩
theorem ev_strAI {n : Int} (h : Ev te σ H (.int n)) (hn : n.natAbs < 10 ^ 30) : Ev (tCB rStrA (tCons te tNil)) σ H (.str (dig n)) := fun H1 e Q q => h H1 e _ fun H2 e2 => .inr ⟨n, rfl, num_log hn, q H2 e2⟩
theorem zip_enc (ks : List Str) (ts : List Th) : (((ks.map PyData.str).zip (ts.map dTh)).map fun p => PyData.tuple [p.1, p.2]) = (ks.zip ts).map fun p => .tuple [.str p.1, dTh p.2] := by
  rw [List.zip_map, List.map_map]
  rfl
theorem zip_encS (ks zs : List Str) : (((ks.map PyData.str).zip (zs.map PyData.str)).map fun p => PyData.tuple [p.1, p.2]) = (ks.zip zs).map fun p => .tuple [.str p.1, .str p.2] := by
  rw [List.zip_map, List.map_map]
  rfl
theorem paired_zip {α β : Type} {R : α → β → Prop} : ∀ {xs : List α} {ys : List β}, Paired R xs ys → ∀ p ∈ xs.zip ys, R p.1 p.2
  | _, _, .nil, _, h => nomatch h
  | _, _, .cons r t, p, h => by
    rw [List.zip_cons_cons] at h
    rcases List.mem_cons.mp h with rfl | h
    · exact r
    · exact paired_zip t p h
theorem zip_two {α β γ : Type} (f : β → γ) : ∀ {xs : List α} {ys : List β}, xs.length = ys.length → (xs.zip ys).map (fun p => f p.2) = ys.map f
  | [], [], _ => rfl
  | x :: xs, y :: ys, h => by
    rw [List.zip_cons_cons, List.map_cons, List.map_cons, zip_two f (Nat.succ.inj h)]
end
theorem dps_ofS {K : PySem.W.Frag} {H : Hp} : ∀ (zs : List Str), DpAll K H (zs.map V.str) (zs.map .str)
  | [] => .nil
  | z :: zs => .cons (.str z) (dps_ofS zs)
theorem kinds_ne : sName ≠ sWriter ∧ sSign ≠ sWriter ∧ sNumber ≠ sWriter ∧ sName ≠ sNumber ∧ sSign ≠ sNumber ∧ sSign ≠ sName ∧ sWriter ≠ sNumber := by decide +kernel
def RDT : List PyData → PyData → Prop := fun ds d => ∃ x : Deed, ds = [dDeed x] ∧ DeedOk x ∧ d = .str (txDeed x)
section
variable {P : Program} {w : World} {K : PySem.W.Frag} {mg : Str → Option Value} {base : Heap}
end
end Ink
namespace Ink
open PySem PySem.Spec PyProof.Rows L2 Evl
theorem join2 (a b : Str) : Txt.join blank [a, b] = a ++ blank ++ b := by
  refine TL.ext_tl ?_
  rw [TL.join_eq, TL.tl_join]
  simp only [TL.tl_append, List.append_assoc]
  rfl
end Ink
namespace Ink
open PySem PySem.Spec PyProof.Rows L2 Evl
def spFarB : Sp := fun vs H Q _ => ∃ a l : Addr, vs = [.ref a] ∧ BagAt H a l ∧ ∀ n H', n.natAbs < 10 ^ 30 → BagAt H' a l → Keep a H H' → Q (.int n) H'
def spEvery (K : PySem.W.Frag) : Sp := fun vs H Q _ => ∃ (a l pp sp : Addr) (zs : List Str) (cs : List Nat), vs = [.ref a, .ref pp, .ref sp] ∧ BagAt H a l ∧ H pp = some (.lst (zs.map V.str)) ∧ pp ≠ a ∧ 1 ≤ zs.length ∧ zs.length ≤ 20 ∧ (∀ z ∈ zs, NameZ z) ∧
  H sp = some (.lst ((cs.map single).map V.str)) ∧ sp ≠ a ∧ 1 ≤ cs.length ∧ cs.length ≤ 20 ∧ (∀ c ∈ cs, c ∈ lets) ∧ cs.Pairwise (· < ·) ∧
  ∀ p ws (ds : List Deed) H', (∀ d ∈ ds, DeedOk d) → ds.length ≤ 20 → 0 < ds.length → H' p = some (.lst ws) → DpAll K H' ws (ds.map dDeed) → p ≠ a → BagAt H' a l → Keep a H H' → Q (.ref p) H'
section
variable {P : Program} {w : World} {K : PySem.W.Frag} {mg : Str → Option Value} {base : Heap}
theorem ok_farB {f : Addr} {fd : FuncData} {k : Nat} (F : Fun K "_law_far" "_law_far" sLFar f fd) (T : Txt mg)
    (C__law_pull : Cal P w K mg base k "_law_pull" ["_law_bag_here", "_law_many"] spPull) (C__law_of : Cal P w K mg base k "_law_of" ["_law_bag_here", "_law_things"] (spOf K)) : FnOk P w K mg base CX0 (k + 1) f fd ["_law_bag_here"] spFarB := by
  refine F.ok sc__law_far (fun vs H Q E h => ?_) (fun cdv A outer s H vs Q E hr h => ?_)
  · obtain ⟨a, l, rfl, _⟩ := h
    rfl
  · obtain ⟨a, l, rfl, hB, q⟩ := h
    refine ⟨_, (pss_cons (ps_par (i := 1) (j := 2) (by rfl) sc__law_far.nd rfl rfl (by decide) rfl rfl (pa_cons (pe_op op_add (pe_callC C__law_pull hr (by rfl) (pa_cons (pv 0) (pa_cons pe_int pa_nil))) pe_int) (pa_cons (pe_op op_add (pe_callC C__law_pull hr (by rfl) (pa_cons (pv 0) (pa_cons (pe_op op_pow pe_int pe_int) pa_nil))) pe_int) pa_nil)) (by rfl))
    (pss_cons (ps_set (i := 3) sc__law_far.nd rfl (.inl rfl) (pe_callC C__law_of hr (by rfl) (pa_cons (pv 0) (pa_cons (pe_lst (pa_cons (pv 1) (pa_cons (pv 2) (pa_cons (pe_op op_add (pv 2) (pe_op op_pow pe_int pe_int)) pa_nil)))) pa_nil))))
    (pss_one (ps_ret (pe_callC C__law_of hr (by rfl) (pa_cons (pv 0) (pa_cons (pe_lst (pa_cons (pv 3) (pa_cons (pe_un un_neg pe_int) (pa_cons (pe_op op_sub pe_int (pv 3)) pa_nil)))) pa_nil))))))), ?_⟩
    refine ⟨.ref a, rfl, a, l, 9, rfl, hB, by decide, by decide, fun n H1 n0 n1 hB1 k1 => ⟨n, 4, rfl, rfl, .ref a, rfl, 10, 9, rfl, rfl, ⟨by decide, by decide, by decide⟩, a, l, _, rfl, hB1, by decide, by decide, fun m H2 m0 m1 hB2 k2 => ⟨m, 4, rfl, rfl, _, _, rfl, ?_⟩⟩⟩
    refine ⟨.ref a, rfl, .int (n + 4), rfl, .int (m + 4), rfl, .int (m + 4), rfl, 10, 20, rfl, rfl, ⟨by decide, by decide, by decide⟩, m + 4, _, rfl, rfl, by show 3 ≤ sizeLine; decide, fun p np => ?_⟩
    refine ⟨a, l, _, _, rfl, hB2.upd (hB2.ne np), .inl ⟨p, rfl, (hB2.ne np).1.symm, .inl (.of upd_same)⟩, by show 0 < 3; decide, by show 3 ≤ 1000; decide, fun v H3 hv hB3 k3 => ?_⟩
    have m1 : m < 10 ^ 9 := m1
    obtain ⟨g, rfl, hg⟩ : ∃ g : Int, v = .int g ∧ g.natAbs < 10 ^ 21 := by
      simp only [List.mem_cons, List.not_mem_nil, or_false] at hv
      rcases hv with rfl | rfl | rfl
      · exact ⟨_, rfl, by omega⟩
      · exact ⟨_, rfl, by omega⟩
      · refine ⟨_, rfl, ?_⟩
        show (m + 4 + 10 ^ 20).natAbs < _
        omega
    have k13 := (k1.trans k2).trans ((Keep.of_same (same_new np)).trans k3)
    refine ⟨.ref a, rfl, .int g, rfl, 1, rfl, .int g, rfl, 0, g, rfl, rfl, by show 3 ≤ sizeLine; decide, fun p2 np2 => ?_⟩
    refine ⟨a, l, _, _, rfl, hB3.upd (hB3.ne np2), .inl ⟨p2, rfl, (hB3.ne np2).1.symm, .inl (.of upd_same)⟩, by show 0 < 3; decide, by show 3 ≤ 1000; decide, fun v H4 hv hB4 k4 => ?_⟩
    obtain ⟨g, rfl, hg⟩ : ∃ g : Int, v = .int g ∧ g.natAbs < 10 ^ 30 := by
      simp only [List.mem_cons, List.not_mem_nil, or_false] at hv
      rcases hv with rfl | rfl | rfl
      · exact ⟨_, rfl, by omega⟩
      · exact ⟨_, rfl, by decide⟩
      · refine ⟨_, rfl, ?_⟩
        show (0 - g).natAbs < _
        omega
    exact q g H4 hg hB4 (k13.trans ((Keep.of_same (same_new np2)).trans k4))
theorem ok_ldeed_text {f : Addr} {fd : FuncData} {k : Nat} (F : Fun K "_law_deed_text" "_law_deed_text" sLDeedText f fd) (T : Txt mg) (C__law_writer_text : Cal P w K mg base k "_law_writer_text" ["_law_writer_here"] (spP K RWT)) : FnOk P w K mg base CX0 (k + 1) f fd ["_law_deed"] (spP K RDT) := by
  refine F.ok sc__law_deed_text (fun vs H Q E h => ?_) (fun cdv A outer s H vs Q E hr h => ?_)
  · obtain ⟨ds, d, hd, ⟨x, rfl, _⟩, _⟩ := h
    exact hd.length
  · obtain ⟨ds, d, hd, ⟨x, rfl, ok, rfl⟩, q⟩ := h
    obtain ⟨v0, rfl, h0⟩ := dps1 hd
    have hl2 := ok.len
    have hsum := deed_sum ok
    obtain ⟨ks, hf, hp⟩ := ok
    have hkl := hp.length
    have hw := forms_wr _ hf
    have hwl := (forms_len _ hf).1
    refine ⟨_, (pss_cons (ps_if (pt_cmpR (show OpR _ _ (rIn K false) from op_in_seq) (pe_ix ix_tup (pv 0) pe_int (fun _ _ => rfl)) (pe_tup (pa_cons pe_str (pa_cons pe_str pa_nil))) (by rfl))
    (pss_one (ps_ret (pe_op op_add_str (pe_op op_add_str (pe_ix ix_tup (pv 0) pe_int (fun _ _ => rfl)) pe_str) (pe_callC C__law_writer_text hr (by rfl) (pa_cons (pe_ix ix_tup (pv 0) pe_int (fun _ _ => rfl)) pa_nil))))) pss_nil)
    (pss_one (ps_ret (pe_join pe_str (pe_lc (own := [("_law_thing", 1)]) (g := (gName 1)) (by rfl) sc__law_deed_text.nd (pi_tup (pv 0)) (blkOk_by (own := [("_law_thing", 1)]) (N := ["_law_deed", "_law_thing"]) (sc := defScope sLDeedText) (by decide +kernel)) (fun _ _ _ _ _ => (pg_name (i := 1) sc__law_deed_text.nd rfl (Or.inl rfl))) (fun _ _ _ _ _ => pts_nil) (fun _ _ _ _ _ => (pe_callTy call_strA (by rfl) T.m_str (by decide +kernel) (pa_cons (pv 1) pa_nil)))))))), ?_⟩
    have h0 : Dp K H v0 (.tuple (.str x.1 :: x.2.map dTh)) := h0
    have bl : blank.length = 1 := by decide +kernel
    refine q_when (b := decide (x.1 ∈ [Str.ofString "come", Str.ofString "change"])) (et_test (ev_inS (K := K) (neg := false) (ev_str (ed_ixT (ed_var rfl h0) ev_c (by decide) rfl)) (ed_tup (ds := [.str (Str.ofString "come"), .str (Str.ofString "change")]) (eds_cons (ed_str ev_c) (eds_cons (ed_str ev_c) eds_nil)) (by show 2 ≤ 100000; decide)) (.inr rfl))) (fun hb H1 e1 => ?_) fun hb H1 e1 => ?_
    · have hb := of_decide_eq_true hb
      obtain ⟨hk, _⟩ : ks = [sWriter] ∧ True := by
        rcases hw with h | h
        · exact ⟨h.1, trivial⟩
        · exact absurd hb h.2
      obtain ⟨w0, things⟩ := x
      subst hk
      cases hp with
      | @cons _ t _ ts r rest =>
      cases rest
      obtain ⟨wx, rfl, g⟩ : ∃ wx, t = .w wx ∧ GW wx := by
        cases t with
        | w wx => exact ⟨wx, rfl, r.2⟩
        | t z =>
          rcases r with ⟨e, _⟩ | ⟨e, _⟩
          · exact absurd e.symm kinds_ne.1
          · exact absurd e.symm kinds_ne.2.1
        | n m => exact absurd r.1.symm kinds_ne.2.2.1
      have h0 := dp_same e1 h0
      have hl : (wrT wx).length ≤ 60 := wText_len g
      refine s_ret (v := .str (w0 ++ blank ++ wrT wx)) (ev_op (ev_op (ev_str (ed_ixT (ed_var rfl h0) ev_c (by decide) rfl)) ev_c (rv_addS ?_)) (ev_str (ed_call (eds_cons (ed_ixT (ed_var rfl h0) ev_c (by decide) rfl) eds_nil) ⟨wx, rfl, g, rfl⟩)) (rv_addS ?_)) fun H2 e2 => ?_
      · have hwl : w0.length ≤ 10 := hwl
        show w0.length + blank.length ≤ 1000000
        omega
      · have hwl : w0.length ≤ 10 := hwl
        show (w0 ++ blank).length + (wrT wx).length ≤ 1000000
        rw [Str.length_append]
        omega
      · have := q (.str (txDeed (w0, [.w wx]))) H2 (e1.trans e2) (.str _)
        have e : txDeed (w0, [.w wx]) = w0 ++ blank ++ wrT wx := join2 _ _
        rw [e] at this
        exact this
    · have hb := of_decide_eq_false hb
      have hno : ∀ k ∈ ks, k ≠ sWriter := by
        rcases hw with h | h
        · exact absurd h.2 hb
        · exact h.1
      have h0 := dp_same e1 h0
      refine s_ret (ev_join (zs := x.1 :: x.2.map txTh) ev_c (el_ofN (K := K) ?_) ?_) fun H3 e3 => q _ H3 (e1.trans e3) (.str _)
      · have e : ((x.1 :: x.2.map txTh).map PyData.str) = (Th.t x.1 :: x.2).map fun t => PyData.str (txTh t) := by
          rw [List.map_cons, List.map_map, List.map_cons]
          rfl
        rw [e]
        refine en_map (Th.t x.1 :: x.2) dTh _ (ei_tup (ed_var rfl h0)) (by rw [List.length_cons]; omega) (fun _ _ => by show fz (PyData.str _) = true; unfold fz; rfl) fun i a H4 y hx e4 hdx R kk => kk _ rfl ?_
        have ha : (∃ z, a = .t z) ∨ ∃ m : Int, a = .n m ∧ m.natAbs < 10 ^ 30 := by
          rcases List.mem_cons.mp (List.mem_of_getElem? hx) with rfl | hm
          · exact .inl ⟨_, rfl⟩
          · obtain ⟨ka, hk, r⟩ := paired_mem hp a hm
            cases a with
            | w wx => exact absurd r.1 (hno ka hk)
            | t z => exact .inl ⟨z, rfl⟩
            | n m => exact .inr ⟨m, rfl, r.2⟩
        rcases ha with ⟨z, rfl⟩ | ⟨m, rfl, hm⟩
        · obtain rfl := dp_str hdx
          exact ed_str (ev_strAS (ev_var rfl))
        · obtain rfl := dp_int hdx
          exact ed_str (ev_strAI (ev_var rfl) hm)
      · rw [bl, List.length_cons, List.length_map]
        omega
end
end Ink
namespace Ink
open PySem PySem.Spec PyProof.Rows L2 Evl
theorem thick3 {v : V} (h : v ∈ [V.int 0, V.int 3, V.int 8]) : ∃ t : Int, v = .int t := by
  simp only [List.mem_cons, List.not_mem_nil, or_false] at h
  rcases h with rfl | rfl | rfl <;> exact ⟨_, rfl⟩
theorem dOf_come : (Str.ofString "come", [sWriter]) ∈ formsT ∧ (Str.ofString "change", [sWriter]) ∈ formsT ∧ (Str.ofString "leave", [sName]) ∈ formsT ∧ (Str.ofString "sign", [sSign]) ∈ formsT ∧ (Str.ofString "said", [sNumber, sName]) ∈ formsT ∧ (Str.ofString "denied", [sNumber, sName]) ∈ formsT ∧ (Str.ofString "unsay", [sNumber]) ∈ formsT ∧ (Str.ofString "watch", [sNumber]) ∈ formsT ∧ (Str.ofString "unwatch", [sNumber]) ∈ formsT := by decide +kernel
def nine (za zb : Str) (x : Wr) (c : Nat) (n : Int) : List Deed := [(Str.ofString "come", [.w x]), (Str.ofString "leave", [.t zb]), (Str.ofString "change", [.w x]), (Str.ofString "sign", [.t (single c)])] ++ [(Str.ofString "said", [.n n, .t za]), (Str.ofString "denied", [.n n, .t zb]), (Str.ofString "unsay", [.n n])] ++ [(Str.ofString "watch", [.n n]), (Str.ofString "unwatch", [.n n])]
theorem nine_ok {za zb : Str} {x : Wr} {c : Nat} {n : Int} (ha : NameZ za) (hb : NameZ zb) (g : GW x) (hc : c ∈ lets) (hn : n.natAbs < 10 ^ 30) : ∀ d ∈ nine za zb x c n, DeedOk d := by
  obtain ⟨f1, f2, f3, f4, f5, f6, f7, f8, f9⟩ := dOf_come
  have tw : ThOk sWriter (.w x) := ⟨rfl, g⟩
  have ta : ThOk sName (.t za) := .inl ⟨rfl, ha⟩
  have tb : ThOk sName (.t zb) := .inl ⟨rfl, hb⟩
  have tc : ThOk sSign (.t (single c)) := .inr ⟨rfl, c, hc, rfl⟩
  have tn : ThOk sNumber (.n n) := ⟨rfl, hn⟩
  intro d hd
  unfold nine at hd
  simp only [List.cons_append, List.nil_append, List.mem_cons, List.not_mem_nil, or_false] at hd
  rcases hd with rfl | rfl | rfl | rfl | rfl | rfl | rfl | rfl | rfl
  · exact ⟨_, f1, .cons tw .nil⟩
  · exact ⟨_, f3, .cons tb .nil⟩
  · exact ⟨_, f2, .cons tw .nil⟩
  · exact ⟨_, f4, .cons tc .nil⟩
  · exact ⟨_, f5, .cons tn (.cons ta .nil)⟩
  · exact ⟨_, f6, .cons tn (.cons tb .nil)⟩
  · exact ⟨_, f7, .cons tn .nil⟩
  · exact ⟨_, f8, .cons tn .nil⟩
  · exact ⟨_, f9, .cons tn .nil⟩
theorem use_d {K : PySem.W.Frag} {te : TE} {σ : L2.St} {H : Hp} {d : PyData} {Q : VK} (h : EvD K te σ H d) (k : ∀ v H1, Ex H H1 → Dp K H1 v d → Q v H1) : te σ H Q := h H (.refl H) Q k
theorem use_seq {te : TE} {tz : TS} {i : Nat} {D : Ends} {σ : L2.St} {H : Hp} (h : te σ H fun v H1 => tz D (σ.set i (some v)) H1) : tSeq (tAsg te (gName i)) tz D σ H := h
theorem use_l {ta : TA} {σ : L2.St} {H : Hp} {Q : VK} (h : ta σ H fun xs H1 => xs.length ≤ sizeLine ∧ ∀ p, H1 p = none → Q (.ref p) (upd H1 p (.lst xs))) : tLst ta σ H Q := h
theorem use_c {te : TE} {tr : TA} {σ : L2.St} {H : Hp} {Q : List V → Hp → Prop} (h : te σ H fun v H1 => tr σ H1 fun vs H2 => Q (v :: vs) H2) : tCons te tr σ H Q := h
section
variable {P : Program} {w : World} {K : PySem.W.Frag} {mg : Str → Option Value} {base : Heap}
theorem ok_every {f : Addr} {fd : FuncData} {k : Nat} (F : Fun K "_law_every_deed" "_law_every_deed" sLEveryDeed f fd) (T : Txt mg)
    (C__law_pull : Cal P w K mg base k "_law_pull" ["_law_bag_here", "_law_many"] spPull) (C__law_of : Cal P w K mg base k "_law_of" ["_law_bag_here", "_law_things"] (spOf K)) (C__law_far : Cal P w K mg base k "_law_far" ["_law_bag_here"] spFarB)
    (C__law_writer : Cal P w K mg base k "_law_writer" ["_law_bag_here", "_law_name", "_law_places", "_law_signs_here", "_law_thick"] spWriter) : FnOk P w K mg base CX0 (k + 1) f fd ["_law_bag_here", "_law_pool", "_law_letters_here"] (spEvery K) := by
  refine F.ok sc__law_every_deed (fun vs H Q E h => ?_) (fun cdv A outer s H vs Q E hr h => ?_)
  · obtain ⟨a, l, pp, sp, zs, cs, rfl, _⟩ := h
    rfl
  · obtain ⟨a, l, pp, sp, zs, cs, rfl, hB, hpp, npa, hz1, hz2, hzn, hsp, nsa, hc1, hc2, hcl, hcr, q⟩ := h
    refine ⟨_, (pss_cons (ps_par (i := 3) (j := 4) (by rfl) sc__law_every_deed.nd rfl rfl (by decide) rfl rfl (pa_cons (pe_callC C__law_of hr (by rfl) (pa_cons (pv 0) (pa_cons (pv 1) pa_nil))) (pa_cons (pe_callC C__law_of hr (by rfl) (pa_cons (pv 0) (pa_cons (pv 1) pa_nil))) pa_nil)) (by rfl))
    (pss_cons (ps_set (i := 5) sc__law_every_deed.nd rfl (.inl rfl) (pe_callC C__law_of hr (by rfl) (pa_cons (pv 0) (pa_cons (pe_lst (pa_cons pe_int (pa_cons pe_int (pa_cons pe_int (pa_cons (pe_callC C__law_far hr (by rfl) (pa_cons (pv 0) pa_nil)) (pa_cons (pe_op op_sub (pe_op op_sub (pe_op op_pow pe_int pe_int) pe_int) (pe_callC C__law_pull hr (by rfl) (pa_cons (pv 0) (pa_cons (pe_op op_pow pe_int pe_int) pa_nil)))) pa_nil)))))) pa_nil))))
    (pss_cons (ps_set (i := 6) sc__law_every_deed.nd rfl (.inl rfl) (pe_callC C__law_writer hr (by rfl) (pa_cons (pv 0) (pa_cons (pv 3) (pa_cons (pe_op op_add pe_int (pe_callC C__law_pull hr (by rfl) (pa_cons (pv 0) (pa_cons pe_int pa_nil)))) (pa_cons (pv 2) (pa_cons (pe_callC C__law_of hr (by rfl) (pa_cons (pv 0) (pa_cons (pe_lst (pa_cons pe_int (pa_cons pe_int (pa_cons pe_int pa_nil)))) pa_nil))) pa_nil)))))))
    (pss_cons (ps_set (i := 7) sc__law_every_deed.nd rfl (.inl rfl) (pe_lst (pa_cons (pe_tup (pa_cons pe_str (pa_cons (pv 6) pa_nil))) (pa_cons (pe_tup (pa_cons pe_str (pa_cons (pv 4) pa_nil))) (pa_cons (pe_tup (pa_cons pe_str (pa_cons (pv 6) pa_nil))) (pa_cons (pe_tup (pa_cons pe_str (pa_cons (pe_callC C__law_of hr (by rfl) (pa_cons (pv 0) (pa_cons (pv 2) pa_nil))) pa_nil))) pa_nil))))))
    (pss_cons (ps_set (i := 7) sc__law_every_deed.nd rfl (.inl rfl) (pe_op op_cat (pv 7) (pe_lst (pa_cons (pe_tup (pa_cons pe_str (pa_cons (pv 5) (pa_cons (pv 3) pa_nil)))) (pa_cons (pe_tup (pa_cons pe_str (pa_cons (pv 5) (pa_cons (pv 4) pa_nil)))) (pa_cons (pe_tup (pa_cons pe_str (pa_cons (pv 5) pa_nil))) pa_nil))))))
    (pss_one (ps_ret (pe_op op_cat (pv 7) (pe_lst (pa_cons (pe_tup (pa_cons pe_str (pa_cons (pv 5) pa_nil))) (pa_cons (pe_tup (pa_cons pe_str (pa_cons (pv 5) pa_nil))) pa_nil))))))))))), ?_⟩
    refine ⟨.ref a, rfl, .ref pp, rfl, a, l, _, _, rfl, hB, .inl ⟨pp, rfl, npa, .inl (.of hpp)⟩, by rw [List.length_map]; omega, by rw [List.length_map]; omega, fun va H1 hva hB1 k1 => ?_⟩
    have hpp1 := k1 _ _ npa hpp
    refine ⟨.ref a, rfl, .ref pp, rfl, a, l, _, _, rfl, hB1, .inl ⟨pp, rfl, npa, .inl (.of hpp1)⟩, by rw [List.length_map]; omega, by rw [List.length_map]; omega, fun vb H2 hvb hB2 k2 => ⟨_, _, rfl, ?_⟩⟩
    obtain ⟨za, hza, rfl⟩ := List.mem_map.mp hva
    obtain ⟨zb, hzb, rfl⟩ := List.mem_map.mp hvb
    have hza := hzn za hza
    have hzb := hzn zb hzb
    have k02 := k1.trans k2
    have hsp2 := k02 _ _ nsa hsp
    -- the number
    refine ⟨.ref a, rfl, .ref a, rfl, a, l, rfl, hB2, fun g H3 hg hB3 k3 => ⟨10, 30, rfl, rfl, ⟨by decide, by decide, by decide⟩, _, _, rfl, rfl, .ref a, rfl, 10, 9, rfl, rfl, ⟨by decide, by decide, by decide⟩, a, l, _, rfl, hB3, by decide, by decide, fun r H4 r0 r1 hB4 k4 => ⟨_, _, rfl, rfl, by show 5 ≤ sizeLine; decide, fun p np => ?_⟩⟩⟩
    refine ⟨a, l, _, _, rfl, hB4.upd (hB4.ne np), .inl ⟨p, rfl, (hB4.ne np).1.symm, .inl (.of upd_same)⟩, by show 0 < 5; decide, by show 5 ≤ 1000; decide, fun v H5 hv hB5 k5 => ?_⟩
    obtain ⟨n, rfl, hn⟩ : ∃ n : Int, v = .int n ∧ n.natAbs < 10 ^ 30 := by
      have r1 : r < 10 ^ 9 := r1
      simp only [List.mem_cons, List.not_mem_nil, or_false] at hv
      rcases hv with rfl | rfl | rfl | rfl | rfl
      · exact ⟨_, rfl, by decide⟩
      · exact ⟨_, rfl, by decide⟩
      · exact ⟨_, rfl, by decide⟩
      · exact ⟨_, rfl, hg⟩
      · refine ⟨_, rfl, ?_⟩
        show ((10 : Int) ^ 30 - 1 - r).natAbs < _
        omega
    have k25 := (k3.trans k4).trans ((Keep.of_same (same_new np)).trans k5)
    have hsp5 := k25 _ _ nsa hsp2
    -- the writer
    refine ⟨.ref a, rfl, .str za, rfl, .ref a, rfl, a, l, 3, rfl, hB5, by decide, by decide, fun r6 H6 r60 r61 hB6 k6 => ⟨1, r6, rfl, rfl, .ref sp, rfl, .ref a, rfl, by show 3 ≤ sizeLine; decide, fun p2 np2 => ⟨a, l, _, _, rfl, hB6.upd (hB6.ne np2), .inl ⟨p2, rfl, (hB6.ne np2).1.symm, .inl (.of upd_same)⟩, by decide, by decide, fun v H7 hv hB7 k7 => ?_⟩⟩⟩
    obtain ⟨t, rfl⟩ := thick3 hv
    have k57 := k6.trans ((Keep.of_same (same_new np2)).trans k7)
    have hsp7 := k57 _ _ nsa hsp5
    refine ⟨a, l, za, 1 + r6, sp, cs, t, rfl, hB7, hza, by omega, by omega, hsp7, nsa, hcl, hcr, fun W ar p cc H8 _ hW hG hB8 k8 => ?_⟩
    have hx : Dp K H8 (.ref W) (dTh (.w (za, ar, p, cc))) := wr_dp hW
    have g : GW (za, ar, p, cc) := hG
    have k08 := (k02.trans (k25.trans k57)).trans k8
    have hsp8 := k08 _ _ nsa hsp
    generalize (za, ar, p, cc) = x at hx g
    refine g_go ?_
    dsimp only
    -- come, leave, change
    refine use_seq (use_l (use_c ?_))
    refine use_d (K := K) (d := .tuple [.str (Str.ofString "come"), dTh (.w x)]) (ed_tup (ds := [.str (Str.ofString "come"), dTh (.w x)]) (eds_cons (ed_str ev_c) (eds_cons (ed_var rfl hx) eds_nil)) (by show 2 ≤ 100000; decide)) fun t1 H9 e9 ht1 => ?_
    have hx9 := dp_same e9 hx
    refine use_c ?_
    refine use_d (K := K) (d := .tuple [.str (Str.ofString "leave"), .str zb]) (ed_tup (ds := [.str (Str.ofString "leave"), .str zb]) (eds_cons (ed_str ev_c) (eds_cons (ed_str (ev_var rfl)) eds_nil)) (by show 2 ≤ 100000; decide)) fun t2 H10 e10 ht2 => ?_
    refine use_c ?_
    refine use_d (K := K) (d := .tuple [.str (Str.ofString "change"), dTh (.w x)]) (ed_tup (ds := [.str (Str.ofString "change"), dTh (.w x)]) (eds_cons (ed_str ev_c) (eds_cons (ed_var rfl (dp_same e10 hx9)) eds_nil)) (by show 2 ≤ 100000; decide)) fun t3 H11 e11 ht3 => ?_
    have e811 := (e9.trans e10).trans e11
    have hB11 := hB8.same e811
    have hsp11 := e811 _ _ hsp8
    refine use_c ?_
    -- a sign
    refine ⟨.ref a, rfl, .ref sp, rfl, a, l, _, _, rfl, hB11, .inl ⟨sp, rfl, nsa, .inl (.of hsp11)⟩, by rw [List.length_map, List.length_map]; omega, by rw [List.length_map, List.length_map]; omega, fun vc H12 hvc hB12 k12 => ?_⟩
    obtain ⟨zc, hzc, rfl⟩ := List.mem_map.mp hvc
    obtain ⟨c, hc, rfl⟩ := List.mem_map.mp hzc
    have hcL := hcl c hc
    refine ⟨by show 2 ≤ sizeLine; decide, fun p4 np4 => ⟨by show 4 ≤ sizeLine; decide, fun pl npl => ?_⟩⟩
    have s13 : Same H12 (upd H12 p4 (.tup [.str (Str.ofString "sign"), .str (single c)])) := same_new np4
    have s14 := same_new (o := .lst [t1, t2, t3, .ref p4]) npl
    have h1 : DpAll K (upd (upd H12 p4 (.tup [.str (Str.ofString "sign"), .str (single c)])) pl (.lst [t1, t2, t3, .ref p4])) [t1, t2, t3, .ref p4] ((nine za zb x c n).take 4 |>.map dDeed) := by
      have f : ∀ d : Deed, fz (dDeed d) = true := fz_dDeed
      refine .cons (dp_same (s13.trans s14) (dp_keep hB11 k12 (f (Str.ofString "come", [.w x])) (dp_same (e10.trans e11) ht1))) (.cons (dp_same (s13.trans s14) (dp_keep hB11 k12 (f (Str.ofString "leave", [.t zb])) (dp_same e11 ht2))) (.cons (dp_same (s13.trans s14) (dp_keep hB11 k12 (f (Str.ofString "change", [.w x])) ht3)) (.cons ?_ .nil)))
      exact dp_same s14 (.tup (.of upd_same) (.cons (.str _) (.cons (.str _) .nil)))
    have hB14 := (hB12.same s13).same s14
    have k014 := k08.trans ((Keep.of_same e811).trans (k12.trans (Keep.of_same (s13.trans s14))))
    have hpl : (upd (upd H12 p4 (.tup [.str (Str.ofString "sign"), .str (single c)])) pl (.lst [t1, t2, t3, .ref p4])) pl = some (.lst [t1, t2, t3, .ref p4]) := upd_same
    generalize upd (upd H12 p4 (.tup [.str (Str.ofString "sign"), .str (single c)])) pl (.lst [t1, t2, t3, .ref p4]) = H14 at h1 hB14 k014 hpl
    refine g_go ?_
    dsimp only
    have num : ∀ {σ : L2.St} {H : Hp}, σ[5]? = some (some (.int n)) → EvD K (tVar 5) σ H (dTh (.n n)) := fun h => ed_int (ev_var h)
    have nam : ∀ {i : Nat} {z : Str} {σ : L2.St} {H : Hp}, σ[i]? = some (some (.str z)) → EvD K (tVar i) σ H (dTh (.t z)) := fun h => ed_str (ev_var h)
    refine sd_asgN (K := K) (en_cat (em_var rfl hpl h1) (EvN.m (en_lst (ds := [dDeed (Str.ofString "said", [.n n, .t za]), dDeed (Str.ofString "denied", [.n n, .t zb]), dDeed (Str.ofString "unsay", [.n n])]) (eds_cons (ed_tup (eds_cons (ed_str ev_c) (eds_cons (num rfl) (eds_cons (nam rfl) eds_nil))) (by show 3 ≤ 100000; decide)) (eds_cons (ed_tup (eds_cons (ed_str ev_c) (eds_cons (num rfl) (eds_cons (nam rfl) eds_nil))) (by show 3 ≤ 100000; decide)) (eds_cons (ed_tup (eds_cons (ed_str ev_c) (eds_cons (num rfl) eds_nil)) (by show 2 ≤ 100000; decide)) eds_nil))) (by show 3 ≤ 100000; decide))) (by show 4 + 3 ≤ 100000; decide)) fun p5 us5 H15 np5 e15 hp5 hu5 => ?_
    dsimp only
    have hB15 := hB14.same e15
    refine (en_cat (em_var rfl hp5 hu5) (EvN.m (en_lst (ds := [dDeed (Str.ofString "watch", [.n n]), dDeed (Str.ofString "unwatch", [.n n])]) (eds_cons (ed_tup (eds_cons (ed_str ev_c) (eds_cons (num rfl) eds_nil)) (by show 2 ≤ 100000; decide)) (eds_cons (ed_tup (eds_cons (ed_str ev_c) (eds_cons (num rfl) eds_nil)) (by show 2 ≤ 100000; decide)) eds_nil)) (by show 2 ≤ 100000; decide))) (by show 4 + 3 + 2 ≤ 100000; decide)) _ (.refl _) _ fun p6 ws6 H16 np6 e16 hp6 hd6 => ?_
    exact q p6 ws6 (nine za zb x c n) H16 (nine_ok hza hzb g hcL hn) (by show 9 ≤ 20; decide) (by show 0 < 9; decide) hp6 hd6 (hB15.ne np6).1.symm (hB15.same e16) (k014.trans (Keep.of_same (e15.trans e16)))
end
end Ink
namespace Ink
open PySem PySem.Spec PyProof.Rows L2 Evl
/-! ### the odd texts, and thirty figures -/
def sevens (n : Nat) : Str := ⟨(List.replicate n 55).toArray⟩
def odd52 : List Str := ["", " ", "come", "come x", "leave", "leave A", "leave abcdefg", "sign ab", "sign ", "sign A", "said a 0", "said 0", "said 0 a ", " said 0 a", "said 00 a", "said -0 a", "said +1 a", "unsay", "unsay a", "undo", "watch 1 2", "watch 01", "unwatch -", "Come x/-/0/0", Str.ofString "watch " ++ sevens 31, "come x/-/0/0 0", "many"]
theorem odd52_none : ∀ t ∈ odd52, (deedIn t).isNone = true := by decide +kernel
theorem odd52_small : ∀ t ∈ odd52, t.length ≤ 900 := by decide +kernel
theorem far52_thirty : (match deedIn (Str.ofString "watch " ++ sevens 30) with
  | some (wd, [.n n]) => decide (wd = Str.ofString "watch" ∧ PySem.intText? (sevens 30) = some n)
  | _ => false) = true := by decide +kernel
end Ink
namespace Ink
open PySem PySem.Spec PyProof.Rows L2 Evl
/-! ### the law finds the same deed -/
theorem lookup_snd {α β γ : Type} [BEq α] (f : β → γ) (a : α) : ∀ l : List (α × β), (l.map fun x => (x.1, f x.2)).lookup a = (l.lookup a).map f
  | [] => rfl
  | (x, y) :: l => by
    rw [List.map_cons, List.lookup_cons, List.lookup_cons, lookup_snd f a l]
    cases a == x <;> rfl
theorem look52 (wd : Str) : (lawForms.lookup wd).map TL.tl = (formsT.lookup wd).map fun ks => ks.map kLet := by
  rw [← lookup_snd, ← lookup_snd, lawForms_is]
theorem formsT_kinds : ∀ x ∈ formsT, ∀ k ∈ x.2, k ∈ [sWriter, sNumber, sName, sSign] := by decide +kernel
theorem lookup_mem52 {wd : Str} {ks : List Str} : ∀ {l : List (Str × List Str)}, l.lookup wd = some ks → (wd, ks) ∈ l
  | [], h => by cases h
  | (x, y) :: l, h => by
    rw [List.lookup_cons] at h
    cases e : wd == x with
    | true =>
      rw [e] at h
      injection h with h
      rw [h, eq_of_beq e]
      exact List.mem_cons_self ..
    | false =>
      rw [e] at h
      exact List.mem_cons_of_mem _ (lookup_mem52 h)
theorem eqv_th (x : Th) : PyData.eqv (dTh x) .none = false := by cases x <;> rfl
def thsL (cs : List Nat) (zs : List Str) : List PyData := (cs.zip zs).map fun p => thL p.1 p.2
theorem thsL_is : ∀ {ks zs : List Str}, (∀ k ∈ ks, k ∈ [sWriter, sNumber, sName, sSign]) → ks.length = zs.length →
    match thsIn ks zs with
    | some r => thsL (ks.map kLet) zs = r.map dTh
    | none => (thsL (ks.map kLet) zs).any (fun z => PyData.eqv z .none) = true
  | [], [], _, _ => by
    unfold thsIn
    rfl
  | k :: ks, z :: zs, h, hl => by
    have ih := thsL_is (ks := ks) (zs := zs) (fun k' h' => h k' (List.mem_cons_of_mem _ h')) (by simpa using hl)
    have hk := thL_is (z := z) (h k (List.mem_cons_self ..))
    have e : thsL ((k :: ks).map kLet) (z :: zs) = dThO (thIn k z) :: thsL (ks.map kLet) zs := by
      rw [← hk]
      rfl
    rw [e]
    unfold thsIn
    cases h1 : thIn k z with
    | none =>
      show ((dThO none :: thsL (ks.map kLet) zs).any fun z => PyData.eqv z .none) = true
      rw [List.any_cons]
      rfl
    | some x =>
      cases h2 : thsIn ks zs with
      | none =>
        rw [h2] at ih
        show ((dThO (some x) :: thsL (ks.map kLet) zs).any fun z => PyData.eqv z .none) = true
        rw [List.any_cons, ih, Bool.or_true]
      | some r =>
        rw [h2] at ih
        show dThO (some x) :: thsL (ks.map kLet) zs = (x :: r).map dTh
        rw [ih]
        rfl
  | [], _ :: _, _, h => nomatch h
  | _ :: _, [], _, h => nomatch h
/-- what the law finds -/
def lawDeed (t : Str) : PyData := match Txt.split t blank with
  | wd :: zs => match lawForms.lookup wd with
    | some kz => if (TL.tl kz).length = zs.length then (if ((PyData.str wd :: thsL (TL.tl kz) zs).any fun z => PyData.eqv z .none) = true then .none else .tuple (.str wd :: thsL (TL.tl kz) zs)) else .none
    | none => .none
  | [] => .none
theorem thsIn_bad {ks zs : List Str} (h : ks.length ≠ zs.length) : thsIn ks zs = none := by
  cases e : thsIn ks zs with
  | none => rfl
  | some r => exact absurd (thsIn_len e).1 h
theorem lawDeed_is (t : Str) : lawDeed t = match deedIn t with
    | some d => dDeed d
    | none => .none := by
  unfold lawDeed deedIn
  cases hs : Txt.split t blank with
  | nil => rfl
  | cons wd zs =>
    have lk := look52 wd
    dsimp only
    cases h1 : lawForms.lookup wd with
    | none =>
      rw [h1] at lk
      cases h2 : formsT.lookup wd with
      | none => rfl
      | some ks =>
        rw [h2] at lk
        cases lk
    | some kz =>
      rw [h1] at lk
      cases h2 : formsT.lookup wd with
      | none =>
        rw [h2] at lk
        cases lk
      | some ks =>
        rw [h2] at lk
        have lk : TL.tl kz = ks.map kLet := by injection lk
        dsimp only
        rw [lk, List.length_map]
        by_cases hl : ks.length = zs.length
        · rw [if_pos hl, List.any_cons, show PyData.eqv (.str wd) .none = false from rfl, Bool.false_or]
          have key := thsL_is (formsT_kinds _ (lookup_mem52 h2)) hl
          cases h3 : thsIn ks zs with
          | none =>
            rw [h3] at key
            have key : (thsL (ks.map kLet) zs).any (fun z => PyData.eqv z .none) = true := key
            rw [if_pos key]
            rfl
          | some r =>
            rw [h3] at key
            have key : thsL (ks.map kLet) zs = r.map dTh := key
            have no : ((r.map dTh).any fun z => PyData.eqv z .none) = false := by
              rw [List.any_map, List.any_eq_false]
              intro x _
              show ¬ PyData.eqv (dTh x) .none = true
              rw [eqv_th]
              decide
            rw [key, no]
            rfl
        · rw [if_neg hl, thsIn_bad hl]
          rfl
end Ink
namespace Ink
open PySem PySem.Spec PyProof.Rows L2
/-! ### zip(t, l), t a tuple, l a list -/
/-- the tuple at a, the list at b as they stand at each turn; the items in new pairs -/
def ItzM (K : PySem.W.Frag) (a b : Addr) : It :=
  ⟨fun i H => ∃ (xs ys : List V) (x y : V), SqT K H a xs ∧ SqL K H b ys ∧ xs[i]? = some x ∧ ys[i]? = some y,
    fun i H v H' => ∃ T x y, v = .ref T ∧ H T = none ∧ H' = upd H T (.tup [x, y]) ∧ (∀ xs, SqT K H a xs → xs[i]? = some x) ∧ ∀ ys, SqL K H b ys → ys[i]? = some y,
    fun i H => ∃ xs ys : List V, SqT K H a xs ∧ SqL K H b ys ∧ i ≤ xs.length ∧ i ≤ ys.length ∧ (xs.length = i ∨ ys.length = i)⟩
theorem walk_zipM {K : PySem.W.Frag} {a b : Addr} {xs ys : List V} : Walk (ItzM K a b) (min xs.length ys.length) (fun H => SqT K H a xs ∧ SqL K H b ys) (YPair (fun i => xs[i]?) (fun i => ys[i]?)) := by
  refine ⟨fun i _ hi q => ⟨xs, ys, xs[i]'(by omega), ys[i]'(by omega), q.1, q.2, List.getElem?_eq_getElem _, List.getElem?_eq_getElem _⟩, fun _ q => ⟨xs, ys, q.1, q.2, by omega, by omega, by omega⟩, fun i H v H' _ q y => ?_⟩
  obtain ⟨T, x, u, h1, h2, h3, h4, h5⟩ := y
  exact ⟨T, x, u, h1, h2, h3, h4 xs q.1, h5 ys q.2⟩
theorem sep_mix {z TI TO i1 i2 a b : Addr} (h1 : a < i1) (h2 : b < i1) (h3 : i1 < i2) (h4 : i2 < TI) (h5 : TI < TO) (h6 : TO < z) : ZipSep2 z TI TO i1 i2 [i1, a] [i2, b] := by
  have ne : ∀ {x y : Addr}, x < y → x ≠ y := fun h => Nat.ne_of_lt h
  have ni : ∀ {x y w : Addr}, x ≠ y → x ≠ w → x ∉ [y, w] := fun q r m => (List.mem_cons.mp m).elim q fun s => r (List.mem_singleton.mp s)
  have l1 : a < i2 := Nat.lt_trans h1 h3
  have l2 : b < i2 := Nat.lt_trans h2 h3
  have l3 : i1 < TI := Nat.lt_trans h3 h4
  have l4 : i2 < TO := Nat.lt_trans h4 h5
  have l5 : i1 < TO := Nat.lt_trans l3 h5
  have l6 : i2 < z := Nat.lt_trans l4 h6
  have l7 : i1 < z := Nat.lt_trans l5 h6
  exact ⟨ne (Nat.lt_trans h5 h6), ne h6, ne h5, (ne l3).symm, List.mem_cons_self .., ni (ne l7).symm (ne (Nat.lt_trans h1 l7)).symm, ni (ne l5).symm (ne (Nat.lt_trans h1 l5)).symm,
    (ne h4).symm, List.mem_cons_self .., ni (ne l6).symm (ne (Nat.lt_trans l2 l6)).symm, ni (ne l4).symm (ne (Nat.lt_trans l2 l4)).symm, ni (ne h3) (ne h2).symm, ni (ne h3).symm (ne l1).symm⟩
theorem turn_zipM {P : Program} {w : World} {K : PySem.W.Frag} {elts : List Expr} {kk : Nat} {tpos : Pos} {a b z TI TO i1 i2 : Addr} (h1 : a < i1) (h2 : b < i1) (h3 : i1 < i2) (h4 : i2 < TI) (h5 : TI < TO) (h6 : TO < z) :
    Turn P w K (.Tuple elts kk tpos) (ItzM K a b) [z, TI, TO, i1, i2] z (fun i h => IsZip h z TI TO .none ∧ IsTupOf2 h TI (.ref i1) (.ref i2) ∧ (∃ x y, IsTupOf2 h TO x y) ∧ h.IsTupleIter i1 a i ∧ h.IsListIter i2 b i) := by
  have D := sep_mix (a := a) (b := b) h1 h2 h3 h4 h5 h6
  have na : a ≠ i1 := Nat.ne_of_lt h1
  have nb : b ≠ i2 := Nat.ne_of_lt (Nat.lt_trans h2 h3)
  have five : ∀ {c : Addr}, c ∈ [z, TI, TO, i1, i2] → c = z ∨ c = TI ∨ c = TO ∨ c = i1 ∨ c = i2 := fun m => by simpa using m
  refine { mem := List.mem_cons_self .., obj := fun i h st c hc => ?_, keep := fun i h h' st k => ?_, item := ?_, done := ?_, self := fun A i s Q E st q => wpAny_pyIter_zip st.1 q }
  · obtain ⟨az, aT, ⟨x, y, aO⟩, ⟨o1, e1, _, d1⟩, ⟨o2, e2, _, d2⟩⟩ := st
    rcases five hc with rfl | rfl | rfl | rfl | rfl
    · exact ⟨_, az, fun v q => nomatch q⟩
    · exact ⟨_, aT, fun v q => nomatch q⟩
    · exact ⟨_, aO, fun v q => nomatch q⟩
    · exact ⟨o1, e1, fun v q => by rw [d1] at q; cases q⟩
    · exact ⟨o2, e2, fun v q => by rw [d2] at q; cases q⟩
  · obtain ⟨az, aT, ⟨x, y, aO⟩, q1, q2⟩ := st
    have m : ∀ {c : Addr}, c = z ∨ c = TI ∨ c = TO ∨ c = i1 ∨ c = i2 → c ∈ [z, TI, TO, i1, i2] := fun q => by simpa using q
    exact ⟨k z (m (.inl rfl)) _ az, k TI (m (.inr (.inl rfl))) _ aT, ⟨x, y, k TO (m (.inr (.inr (.inl rfl)))) _ aO⟩, q1.at fun o e => k i1 (m (.inr (.inr (.inr (.inl rfl))))) o e, q2.at fun o e => k i2 (m (.inr (.inr (.inr (.inr rfl))))) o e⟩
  · intro X hP hw hK hc i pins s σ H E I hf st hg
    subst hP hw hK
    obtain ⟨az, aT, ⟨x0, y0, aO⟩, q1, q2⟩ := st
    obtain ⟨xs, ys, x, y, hqx, hqy, hx, hy⟩ := hg
    obtain ⟨its, rv, tp, _⟩ := I.tuple hqx
    obtain ⟨its2, rv2, lp, _⟩ := I.list hqy
    obtain ⟨u, hu, ru⟩ := rv.get hx
    obtain ⟨u2, hu2, ru2⟩ := rv2.get hy
    have hu' : its.toArray[i]? = some u := by rw [List.getElem?_toArray]; exact hu
    have hu2' : its2.toArray[i]? = some u2 := by rw [List.getElem?_toArray]; exact hu2
    have zl : z < s.heap.objs.size := Heap.lt_size az
    have D1 := Draws.tuple (prog := X.prog) (w := X.w) (A := X.A.in1) (I.ok.hd hc) i1 a na its.toArray
    have D2 := Draws.list (prog := X.prog) (w := X.w) (A := X.A.in1) (I.ok.hd hc) i2 b nb its2.toArray
    refine wpAny_pyNext_zipD2_item D D1 D2 az aT aO ⟨q1, tp⟩ ⟨q2, lp.isList⟩ (Array.getElem?_eq_some_iff.mp hu').1 (Array.getElem?_eq_some_iff.mp hu2').1 fun v1 v2 h' tk p1 p2 z' TO' s1' s2' hT hsz hk => ?_
    have p1 : its.toArray[i]? = some v1 := p1
    have p2 : its2.toArray[i]? = some v2 := p2
    rw [hu'] at p1
    rw [hu2'] at p2
    cases p1
    cases p2
    refine ⟨_, rfl, wpAny_letOwnedTupleGo_zip (s := { s with heap := h', toks := tk }) z' fun hh zz sb => ?_⟩
    have hT2 : hh.get? s.heap.objs.size = some { cls := .type "tuple", data := .seq #[u, u2] } := (sb.2 _ (Nat.ne_of_gt zl)).trans hT
    have new : ObjOk X.prog X.w (upd H s.heap.objs.size (.tup [x, y])) hh s.heap.objs.size (.tup [x, y]) := ⟨by show 2 ≤ sizeLine; decide, [u, u2], .cons ru (.cons ru2 .nil), ⟨_, hT2, rfl, _, rfl⟩⟩
    have nin : ∀ {c e : Addr}, c ∉ [z, TI, TO, i1, i2] → (e = z ∨ e = TI ∨ e = TO ∨ e = i1 ∨ e = i2) → c ≠ e := fun n m q => n (by subst q; simpa using m)
    have I1 : Inv X pins σ (upd H s.heap.objs.size (.tup [x, y])) { s with heap := hh, toks := tk } :=
      I.turnedNew (t' := tk) (ch := [z, TI, TO, i1, i2]) (fun c o hb q => (sb.2 c (nin hb (.inl rfl))).trans (hk c o (nin hb (.inl rfl)) (nin hb (.inr (.inr (.inl rfl)))) (nin hb (.inr (.inr (.inr (.inl rfl))))) (nin hb (.inr (.inr (.inr (.inr rfl))))) q)) hf (Nat.le_refl _) new
    refine ⟨.ref s.heap.objs.size, _, I1, rfl, ⟨_, x, y, rfl, I.hok.fresh (Nat.le_refl _), rfl, fun l hl => by rw [I.tuple_inj hl hqx]; exact hx, fun l hl => by rw [I.list_inj hl hqy]; exact hy⟩, ⟨zz, ?_, ⟨u, u2, ?_⟩, ?_, ?_⟩, fun c hcm => ?_⟩
    · exact (sb.2 _ D.TIz).trans (hk _ _ D.TIz D.TITO D.TIi1 D.TIi2 aT)
    · exact (sb.2 _ D.TOz).trans TO'
    · exact s1'.1.at fun o q => (sb.2 _ D.zi1.symm).trans q
    · exact s2'.1.at fun o q => (sb.2 _ D.zi2.symm).trans q
    · have hlt : c < s.heap.objs.size := by
        rcases five hcm with rfl | rfl | rfl | rfl | rfl
        · exact zl
        · exact Heap.lt_size aT
        · exact Heap.lt_size aO
        · obtain ⟨_, e1, _⟩ := q1
          exact Heap.lt_size e1
        · obtain ⟨_, e2, _⟩ := q2
          exact Heap.lt_size e2
      rw [upd_ne (Nat.ne_of_lt hlt)]
      exact (hf c hcm).1
  · intro X hP hw hK hc i pins s σ H E I hf st hg
    subst hP hw hK
    obtain ⟨az, aT, ⟨x0, y0, aO⟩, q1, q2⟩ := st
    obtain ⟨xs, ys, hqx, hqy, b1, b2, hend⟩ := hg
    obtain ⟨its, rv, tp, _⟩ := I.tuple hqx
    obtain ⟨its2, rv2, lp, _⟩ := I.list hqy
    have l1 := rv.length
    have l2 := rv2.length
    have D1 := Draws.tuple (prog := X.prog) (w := X.w) (A := X.A.in1) (I.ok.hd hc) i1 a na its.toArray
    have D2 := Draws.list (prog := X.prog) (w := X.w) (A := X.A.in1) (I.ok.hd hc) i2 b nb its2.toArray
    have nin : ∀ {c e : Addr}, c ∉ [z, TI, TO, i1, i2] → (e = z ∨ e = TI ∨ e = TO ∨ e = i1 ∨ e = i2) → c ≠ e := fun n m q => n (by subst q; simpa using m)
    exact wpAny_pyNext_zipD2_end D D1 D2 az aT aO ⟨q1, tp⟩ ⟨q2, lp.isList⟩ (by rw [List.size_toArray]; omega) (by rw [List.size_toArray]; omega) (by rw [List.size_toArray, List.size_toArray]; omega) fun h' tk hk => ⟨rfl, I.turnedL (t' := tk) (ch := [z, TI, TO, i1, i2]) (fun c o hb q =>
      hk c o (nin hb (.inl rfl)) (nin hb (.inr (.inr (.inl rfl)))) (nin hb (.inr (.inr (.inr (.inl rfl))))) (nin hb (.inr (.inr (.inr (.inr rfl))))) q) hf⟩
def iZipM (K : PySem.W.Frag) (ta : TA) : TI := fun σ H R => ta σ H fun vs H1 => ∃ a b xs ys, vs = [.ref a, .ref b] ∧ SqT K H1 a xs ∧ SqL K H1 b ys ∧ R (ItzM K a b) H1
theorem pi_zipM {X : Cx} {e e2 : Expr} {ta : TA} {p pos tpos : Pos} {elts : List Expr} {kk : Nat} (hg : Gl X "zip") (hm : X.mg "zip" = none) (ha : PA X [e, e2] ta)
    (hs : starEach [e, e2] X.env = (false, eval e X.env) :: starEach [e2] X.env := by rfl) (hpl : (backTo pos (starEach [e2] X.env)).any (·.1) = false := by rfl) : PI X (.Tuple elts kk tpos) (.Call (.Name "zip" p) [e, e2] [] pos) (iZipM X.K ta) := by
  refine ⟨fun pins s σ H R I h => ?_⟩
  refine Call_ (ld_blt I hg hm PyProof.Rows.boot_zip (PyProof.Rows.callWith_type1 (thn (ha.run pos pins s σ H _ I h) fun us s1 ⟨vs, H1, I1, r1, a, b, xs, ys, ex, hqx, hqy, q⟩ => ?_) hs hpl))
  subst ex
  cases r1 with
  | cons r rr =>
  cases rr with
  | cons r' rr =>
  cases rr
  cases r
  cases r'
  obtain ⟨its, rv, tp, _⟩ := I1.tuple hqx
  obtain ⟨its2, rv2, lp, _⟩ := I1.list hqy
  have la : a < s1.heap.objs.size := by
    obtain ⟨o, ho, _⟩ := tp
    exact Heap.lt_size ho
  have lb : b < s1.heap.objs.size := lp.lt
  refine zip_begins2 (begins_tuple a its.toArray) (begins_list b its2.toArray) tp lp.isList fun h' hz aT aO e1 e2 hsz hk => wpAny_pyIter_zip hz ?_
  have I2 : Inv X pins σ H1 { s1 with heap := h' } := I1.kept (t' := s1.toks) hk
  refine ⟨s1.heap.objs.size + 4, [s1.heap.objs.size + 4, s1.heap.objs.size + 2, s1.heap.objs.size + 3, s1.heap.objs.size, s1.heap.objs.size + 1], _, _, H1, rfl, I2, turn_zipM la lb (Nat.lt_succ_self _) (Nat.lt_succ_self _) (Nat.lt_succ_self _) (Nat.lt_succ_self _), ⟨hz, aT, ⟨_, _, aO⟩, ⟨_, e1, rfl, rfl⟩, ⟨_, e2, rfl, rfl⟩⟩, fun c hcm => ?_, q⟩
  have hle : s1.heap.objs.size ≤ c := by
    have hcm : c = s1.heap.objs.size + 4 ∨ c = s1.heap.objs.size + 2 ∨ c = s1.heap.objs.size + 3 ∨ c = s1.heap.objs.size ∨ c = s1.heap.objs.size + 1 := by simpa using hcm
    rcases hcm with rfl | rfl | rfl | rfl | rfl
    · exact Nat.le_add_right _ _
    · exact Nat.le_add_right _ _
    · exact Nat.le_add_right _ _
    · exact Nat.le_refl _
    · exact Nat.le_add_right _ _
  exact I1.fpOk hle (I1.hok.fresh hle)
section
open Evl
variable {K : PySem.W.Frag} {σ : L2.St} {H : Hp} {ta tb : TE} {ds es : List PyData}
theorem ei_zipM (ha : EvD K ta σ H (.tuple ds)) (hb : EvD K tb σ H (.list es)) : EvI K (iZipM K (tCons ta (tCons tb tNil))) σ H ((ds.zip es).map fun p => .tuple [p.1, p.2]) := fun H1 e R q => ha H1 e _ fun v H2 e2 hv => hb H2 (e.trans e2) _ fun w H3 e3 hw => by
  obtain ⟨p, xs, rfl, hs, hxs⟩ := dp_tup (dp_same e3 hv)
  obtain ⟨p', ys, rfl, hs', hys⟩ := dp_lst hw
  refine ⟨p, p', xs, ys, rfl, hs, hs', q _ H3 (e2.trans e3) ?_⟩
  rw [List.length_map, List.length_zip, ← hxs.length, ← hys.length]
  refine (walk_zipM (xs := xs) (ys := ys)).mono (fun H4 e4 => ⟨ex_t e4 hs, ex_l e4 hs'⟩) fun i Ha x Hb hi e4 hy => ?_
  obtain ⟨T, x1, y1, rfl, nT, rfl, hx, hy⟩ := hy
  obtain ⟨dx, g1, g2⟩ := hxs.at hx
  obtain ⟨dy, g3, g4⟩ := hys.at hy
  refine ⟨Ex.new nT, .tuple [dx, dy], ?_, .tup (.of upd_same) (.cons (dp_same (e4.trans (Ex.new nT)) g2) (.cons (dp_same (e4.trans (Ex.new nT)) g4) .nil))⟩
  rw [List.getElem?_map, show (ds.zip es)[i]? = some (dx, dy) from by rw [List.getElem?_zip_eq_some]; exact ⟨g1, g3⟩]
  rfl
theorem ei_zipT (ha : EvD K ta σ H (.tuple ds)) (hb : EvD K tb σ H (.tuple es)) (hl : ds.length = es.length) : EvI K (RZ.iZipA K (tCons ta (tCons tb tNil))) σ H ((ds.zip es).map fun p => .tuple [p.1, p.2]) := fun H1 e R q => ha H1 e _ fun v H2 e2 hv => hb H2 (e.trans e2) _ fun w H3 e3 hw => by
  obtain ⟨p, xs, rfl, hs, hxs⟩ := dp_tup (dp_same e3 hv)
  obtain ⟨p', ys, rfl, hs', hys⟩ := dp_tup hw
  refine ⟨p, p', xs, ys, rfl, .inr ⟨hs, hs', q _ H3 (e2.trans e3) ?_⟩⟩
  have l1 := hxs.length
  have l2 := hys.length
  rw [List.length_map, List.length_zip, ← l1, ← l2]
  refine ⟨fun i H4 hi e4 => ⟨xs, ys, xs[i]'(by omega), ys[i]'(by omega), ex_t e4 hs, ex_t e4 hs', List.getElem?_eq_getElem _, List.getElem?_eq_getElem _⟩, fun H4 e4 => ⟨xs, ys, ex_t e4 hs, ex_t e4 hs', by omega⟩, fun i Ha x Hb hi e4 hy => ?_⟩
  obtain ⟨T, x1, y1, rfl, nT, rfl, hx, hy⟩ := hy
  have hx := hx xs (ex_t e4 hs)
  have hy := hy ys (ex_t e4 hs')
  obtain ⟨dx, g1, g2⟩ := hxs.at hx
  obtain ⟨dy, g3, g4⟩ := hys.at hy
  refine ⟨Ex.new nT, .tuple [dx, dy], ?_, .tup (.of upd_same) (.cons (dp_same (e4.trans (Ex.new nT)) g2) (.cons (dp_same (e4.trans (Ex.new nT)) g4) .nil))⟩
  rw [List.getElem?_map, show (ds.zip es)[i]? = some (dx, dy) from by rw [List.getElem?_zip_eq_some]; exact ⟨g1, g3⟩]
  rfl
end
end Ink
namespace Ink
open PySem PySem.Spec PyProof.Rows L2
/-! ### zip(z, l), z a text, l a list -/
def ItzS (K : PySem.W.Frag) (x : Str) (b : Addr) : It :=
  ⟨fun i H => ∃ (ys : List V) (y : V), i < x.cps.size ∧ SqL K H b ys ∧ ys[i]? = some y,
    fun i H v H' => ∃ T c y, v = .ref T ∧ H T = none ∧ H' = upd H T (.tup [.str ⟨#[c]⟩, y]) ∧ x.cps[i]? = some c ∧ ∀ ys, SqL K H b ys → ys[i]? = some y,
    fun i H => ∃ ys : List V, SqL K H b ys ∧ i ≤ x.cps.size ∧ i ≤ ys.length ∧ (x.cps.size = i ∨ ys.length = i)⟩
theorem walk_zipS {K : PySem.W.Frag} {x : Str} {b : Addr} {ys : List V} : Walk (ItzS K x b) (min x.cps.size ys.length) (fun H => SqL K H b ys) (fun i H v H' => ∃ T c y, v = .ref T ∧ H T = none ∧ H' = upd H T (.tup [.str ⟨#[c]⟩, y]) ∧ x.cps[i]? = some c ∧ ys[i]? = some y) := by
  refine ⟨fun i _ hi q => ⟨ys, ys[i]'(by omega), by omega, q, List.getElem?_eq_getElem _⟩, fun _ q => ⟨ys, q, by omega, by omega, by omega⟩, fun i H v H' _ q y => ?_⟩
  obtain ⟨T, c, u, h1, h2, h3, h4, h5⟩ := y
  exact ⟨T, c, u, h1, h2, h3, h4, h5 ys q⟩
theorem sep_text {z TI TO i1 i2 b : Addr} (h2 : b < i1) (h3 : i1 < i2) (h4 : i2 < TI) (h5 : TI < TO) (h6 : TO < z) : ZipSep2 z TI TO i1 i2 [i1] [i2, b] := by
  have ne : ∀ {x y : Addr}, x < y → x ≠ y := fun h => Nat.ne_of_lt h
  have ni : ∀ {x y w : Addr}, x ≠ y → x ≠ w → x ∉ [y, w] := fun q r m => (List.mem_cons.mp m).elim q fun s => r (List.mem_singleton.mp s)
  have n1 : ∀ {x y : Addr}, x ≠ y → x ∉ [y] := fun q m => q (List.mem_singleton.mp m)
  have l2 : b < i2 := Nat.lt_trans h2 h3
  have l3 : i1 < TI := Nat.lt_trans h3 h4
  have l4 : i2 < TO := Nat.lt_trans h4 h5
  have l5 : i1 < TO := Nat.lt_trans l3 h5
  have l6 : i2 < z := Nat.lt_trans l4 h6
  have l7 : i1 < z := Nat.lt_trans l5 h6
  exact ⟨ne (Nat.lt_trans h5 h6), ne h6, ne h5, (ne l3).symm, List.mem_cons_self .., n1 (ne l7).symm, n1 (ne l5).symm,
    (ne h4).symm, List.mem_cons_self .., ni (ne l6).symm (ne (Nat.lt_trans l2 l6)).symm, ni (ne l4).symm (ne (Nat.lt_trans l2 l4)).symm, ni (ne h3) (ne h2).symm, n1 (ne h3).symm⟩
theorem turn_zipS {P : Program} {w : World} {K : PySem.W.Frag} {elts : List Expr} {kk : Nat} {tpos : Pos} {b z TI TO i1 i2 : Addr} {x : Str} {tx : Tok} (h2 : b < i1) (h3 : i1 < i2) (h4 : i2 < TI) (h5 : TI < TO) (h6 : TO < z) :
    Turn P w K (.Tuple elts kk tpos) (ItzS K x b) [z, TI, TO, i1, i2] z (fun i h => IsZip h z TI TO .none ∧ IsTupOf2 h TI (.ref i1) (.ref i2) ∧ (∃ x y, IsTupOf2 h TO x y) ∧ h.IsStrIter i1 (strIterType x) x tx i ∧ h.IsListIter i2 b i) := by
  have D := sep_text (b := b) h2 h3 h4 h5 h6
  have nb : b ≠ i2 := Nat.ne_of_lt (Nat.lt_trans h2 h3)
  have five : ∀ {c : Addr}, c ∈ [z, TI, TO, i1, i2] → c = z ∨ c = TI ∨ c = TO ∨ c = i1 ∨ c = i2 := fun m => by simpa using m
  have m : ∀ {c : Addr}, c = z ∨ c = TI ∨ c = TO ∨ c = i1 ∨ c = i2 → c ∈ [z, TI, TO, i1, i2] := fun q => by simpa using q
  have nin : ∀ {c e : Addr}, c ∉ [z, TI, TO, i1, i2] → (e = z ∨ e = TI ∨ e = TO ∨ e = i1 ∨ e = i2) → c ≠ e := fun n m q => n (by subst q; simpa using m)
  refine { mem := List.mem_cons_self .., obj := fun i h st c hc => ?_, keep := fun i h h' st k => ?_, item := ?_, done := ?_, self := fun A i s Q E st q => wpAny_pyIter_zip st.1 q }
  · obtain ⟨az, aT, ⟨x, y, aO⟩, ⟨o1, e1, _, d1⟩, ⟨o2, e2, _, d2⟩⟩ := st
    rcases five hc with rfl | rfl | rfl | rfl | rfl
    · exact ⟨_, az, fun v q => nomatch q⟩
    · exact ⟨_, aT, fun v q => nomatch q⟩
    · exact ⟨_, aO, fun v q => nomatch q⟩
    · exact ⟨o1, e1, fun v q => by rw [d1] at q; cases q⟩
    · exact ⟨o2, e2, fun v q => by rw [d2] at q; cases q⟩
  · obtain ⟨az, aT, ⟨x, y, aO⟩, q1, q2⟩ := st
    exact ⟨k z (m (.inl rfl)) _ az, k TI (m (.inr (.inl rfl))) _ aT, ⟨x, y, k TO (m (.inr (.inr (.inl rfl)))) _ aO⟩, ⟨q1.choose, k i1 (m (.inr (.inr (.inr (.inl rfl))))) _ q1.choose_spec.1, q1.choose_spec.2⟩, q2.at fun o e => k i2 (m (.inr (.inr (.inr (.inr rfl))))) o e⟩
  · intro X hP hw hK hc i pins s σ H E I hf st hg
    subst hP hw hK
    obtain ⟨az, aT, ⟨x0, y0, aO⟩, q1, q2⟩ := st
    obtain ⟨ys, y, hx, hqy, hy⟩ := hg
    obtain ⟨its2, rv2, lp, _⟩ := I.list hqy
    obtain ⟨u2, hu2, ru2⟩ := rv2.get hy
    have hu2' : its2.toArray[i]? = some u2 := by rw [List.getElem?_toArray]; exact hu2
    have zl : z < s.heap.objs.size := Heap.lt_size az
    have D1 := Draws.text (prog := X.prog) (w := X.w) (A := X.A.in1) (I.ok.hd hc) i1 x tx
    have D2 := Draws.list (prog := X.prog) (w := X.w) (A := X.A.in1) (I.ok.hd hc) i2 b nb its2.toArray
    refine wpAny_pyNext_zipD2_item D D1 D2 az aT aO q1 ⟨q2, lp.isList⟩ hx (Array.getElem?_eq_some_iff.mp hu2').1 fun v1 v2 h' tk p1 p2 z' TO' s1' s2' hT hsz hk => ?_
    obtain ⟨c, ut, p1, rfl⟩ := p1
    have p2 : its2.toArray[i]? = some v2 := p2
    rw [hu2'] at p2
    cases p2
    refine ⟨_, rfl, wpAny_letOwnedTupleGo_zip (s := { s with heap := h', toks := tk }) z' fun hh zz sb => ?_⟩
    have hT2 : hh.get? s.heap.objs.size = some { cls := .type "tuple", data := .seq #[.str ⟨#[c]⟩ ut, u2] } := (sb.2 _ (Nat.ne_of_gt zl)).trans hT
    have new : ObjOk X.prog X.w (upd H s.heap.objs.size (.tup [.str ⟨#[c]⟩, y])) hh s.heap.objs.size (.tup [.str ⟨#[c]⟩, y]) := ⟨by show 2 ≤ sizeLine; decide, [.str ⟨#[c]⟩ ut, u2], .cons ⟨ut, rfl⟩ (.cons ru2 .nil), ⟨_, hT2, rfl, _, rfl⟩⟩
    have I1 : Inv X pins σ (upd H s.heap.objs.size (.tup [.str ⟨#[c]⟩, y])) { s with heap := hh, toks := tk } :=
      I.turnedNew (t' := tk) (ch := [z, TI, TO, i1, i2]) (fun c o hb q => (sb.2 c (nin hb (.inl rfl))).trans (hk c o (nin hb (.inl rfl)) (nin hb (.inr (.inr (.inl rfl)))) (nin hb (.inr (.inr (.inr (.inl rfl))))) (nin hb (.inr (.inr (.inr (.inr rfl))))) q)) hf (Nat.le_refl _) new
    refine ⟨.ref s.heap.objs.size, _, I1, rfl, ⟨_, c, y, rfl, I.hok.fresh (Nat.le_refl _), rfl, p1, fun l hl => by rw [I.list_inj hl hqy]; exact hy⟩, ⟨zz, ?_, ⟨.str ⟨#[c]⟩ ut, u2, ?_⟩, ?_, ?_⟩, fun c hcm => ?_⟩
    · exact (sb.2 _ D.TIz).trans (hk _ _ D.TIz D.TITO D.TIi1 D.TIi2 aT)
    · exact (sb.2 _ D.TOz).trans TO'
    · obtain ⟨o, q, r⟩ := s1'
      exact ⟨o, (sb.2 _ D.zi1.symm).trans q, r⟩
    · exact s2'.1.at fun o q => (sb.2 _ D.zi2.symm).trans q
    · have hlt : c < s.heap.objs.size := by
        rcases five hcm with rfl | rfl | rfl | rfl | rfl
        · exact zl
        · exact Heap.lt_size aT
        · exact Heap.lt_size aO
        · obtain ⟨_, e1, _⟩ := q1
          exact Heap.lt_size e1
        · obtain ⟨_, e2, _⟩ := q2
          exact Heap.lt_size e2
      rw [upd_ne (Nat.ne_of_lt hlt)]
      exact (hf c hcm).1
  · intro X hP hw hK hc i pins s σ H E I hf st hg
    subst hP hw hK
    obtain ⟨az, aT, ⟨x0, y0, aO⟩, q1, q2⟩ := st
    obtain ⟨ys, hqy, b1, b2, hend⟩ := hg
    obtain ⟨its2, rv2, lp, _⟩ := I.list hqy
    have l2 := rv2.length
    have D1 := Draws.text (prog := X.prog) (w := X.w) (A := X.A.in1) (I.ok.hd hc) i1 x tx
    have D2 := Draws.list (prog := X.prog) (w := X.w) (A := X.A.in1) (I.ok.hd hc) i2 b nb its2.toArray
    exact wpAny_pyNext_zipD2_end D D1 D2 az aT aO q1 ⟨q2, lp.isList⟩ b1 (by rw [List.size_toArray]; omega) (hend.elim (fun h => .inl h.symm) fun h => .inr (by rw [List.size_toArray]; omega)) fun h' tk hk => ⟨rfl, I.turnedL (t' := tk) (ch := [z, TI, TO, i1, i2]) (fun c o hb q =>
      hk c o (nin hb (.inl rfl)) (nin hb (.inr (.inr (.inl rfl)))) (nin hb (.inr (.inr (.inr (.inl rfl))))) (nin hb (.inr (.inr (.inr (.inr rfl))))) q) hf⟩
def iZipS (K : PySem.W.Frag) (ta : TA) : TI := fun σ H R => ta σ H fun vs H1 => ∃ x b ys, vs = [.str x, .ref b] ∧ SqL K H1 b ys ∧ R (ItzS K x b) H1
theorem pi_zipS {X : Cx} {e e2 : Expr} {ta : TA} {p pos tpos : Pos} {elts : List Expr} {kk : Nat} (hg : Gl X "zip") (hm : X.mg "zip" = none) (ha : PA X [e, e2] ta)
    (hs : starEach [e, e2] X.env = (false, eval e X.env) :: starEach [e2] X.env := by rfl) (hpl : (backTo pos (starEach [e2] X.env)).any (·.1) = false := by rfl) : PI X (.Tuple elts kk tpos) (.Call (.Name "zip" p) [e, e2] [] pos) (iZipS X.K ta) := by
  refine ⟨fun pins s σ H R I h => ?_⟩
  refine Call_ (ld_blt I hg hm PyProof.Rows.boot_zip (PyProof.Rows.callWith_type1 (thn (ha.run pos pins s σ H _ I h) fun us s1 ⟨vs, H1, I1, r1, x, b, ys, ex, hqy, q⟩ => ?_) hs hpl))
  subst ex
  cases r1 with
  | cons r rr =>
  cases rr with
  | cons r' rr =>
  cases rr
  obtain ⟨tx, rfl⟩ := r
  cases r'
  obtain ⟨its2, rv2, lp, _⟩ := I1.list hqy
  have lb : b < s1.heap.objs.size := lp.lt
  refine zip_begins2 (begins_text x tx) (begins_list b its2.toArray) trivial lp.isList fun h' hz aT aO e1 e2 hsz hk => wpAny_pyIter_zip hz ?_
  have I2 : Inv X pins σ H1 { s1 with heap := h' } := I1.kept (t' := s1.toks) hk
  refine ⟨s1.heap.objs.size + 4, [s1.heap.objs.size + 4, s1.heap.objs.size + 2, s1.heap.objs.size + 3, s1.heap.objs.size, s1.heap.objs.size + 1], _, _, H1, rfl, I2, turn_zipS lb (Nat.lt_succ_self _) (Nat.lt_succ_self _) (Nat.lt_succ_self _) (Nat.lt_succ_self _), ⟨hz, aT, ⟨_, _, aO⟩, ⟨_, e1, rfl, rfl⟩, ⟨_, e2, rfl, rfl⟩⟩, fun c hcm => ?_, q⟩
  have hle : s1.heap.objs.size ≤ c := by
    have hcm : c = s1.heap.objs.size + 4 ∨ c = s1.heap.objs.size + 2 ∨ c = s1.heap.objs.size + 3 ∨ c = s1.heap.objs.size ∨ c = s1.heap.objs.size + 1 := by simpa using hcm
    rcases hcm with rfl | rfl | rfl | rfl | rfl
    · exact Nat.le_add_right _ _
    · exact Nat.le_add_right _ _
    · exact Nat.le_add_right _ _
    · exact Nat.le_refl _
    · exact Nat.le_add_right _ _
  exact I1.fpOk hle (I1.hok.fresh hle)
end Ink
namespace L2N
open PySem PySem.Spec PyProof.Rows L2
/-! ### a comprehension whose element may let an exception out -/
theorem note_by_frame {e : Value} {env env' : Env} (h : env.frame = env'.frame) : noteFrame e env = noteFrame e env' := by
  unfold noteFrame PySem.frameOf
  rw [h]
theorem passOn_by_frame {α : Type} {w : String} {e : Value} {env env' : Env} (h : env.frame = env'.frame) : (PySem.passOn w e env : Sem α) = PySem.passOn w e env' := by
  unfold PySem.passOn
  rw [h]
/-- what is to hold behind the block: the list, or what flies on from the frame fr -/
def afterX (M : Model) (A : Around) (E : Value → Shared → Prop) (Q : Value → Shared → Prop) (acc : Value) (C : Addr) (fr : Option Addr) : Result → Shared → Prop
  | .ok _, s' => ∃ m, s'.heap.Ns C m ∧ ∀ h', Heap.SameBut C s'.heap h' → Q acc { s' with heap := h' }
  | .error x, s' => ∃ m, s'.heap.Ns C m ∧ ∀ h', Heap.SameBut C s'.heap h' → ∀ ce : Env, ce.locals = C → ce.frame = fr → wpAny M A (PySem.passOn "comprehension.variables-let-go" x ce : Sem Value) (fun _ _ => False) E { s' with heap := h' }
section
variable {M : Model} {A : Around} {E : Value → Shared → Prop} {s : Shared} {env : Env}
theorem compX {e : Expr} {scope : Scope} {pos : Pos} {acc0 src : Sem Value} {g : Comprehension} {gs : List Comprehension} {cl : List (Str × Addr)} {Q : Value → Shared → Prop}
    (hcl : clausesOf e = g :: gs) (hs : ∀ x, foldedSetIterable g.iter env x = pure x) (hclos : closureFor scope env = pure cl) (hk : scope.kind = .function) (hn : ∀ x ∈ scope.names, x.2 = .local → scope.names.lookup x.1 = some .local)
    (h : wpAny M A src (fun x s1 => wpAny M A (pyIter x) (fun it s2 => wpAny M A acc0 (fun acc s3 => wpAny M A (newFunctionEnv scope env.globals cl [] env.qual none .none (some env)) (fun ce s4 =>
        codeAny M A (.compStart e 0 it acc { ce with scope := relabel scope env }) (afterX M A E Q acc ce.locals ce.frame) s4) E s3) E s2) E s1) E s) :
    wpAny M A (comprehension e scope env pos acc0 false src none) Q E s := by
  have lo : ∀ (ce : Env) {x : Str × NameKind}, x ∈ (scope.names.filter fun y => (y.2 == .local || y.2 == .cell) && y.1 != (".0" : Str)).reverse → x.2 = .local → Env.kindOf { ce with scope := relabel scope env } x.1 = some .local :=
    fun ce {x} hx hl => lookup_relabel_local (hn x (List.mem_filter.mp (List.mem_reverse.mp hx)).1 hl)
  unfold comprehension
  rw [hclos, hcl]
  refine wpAny_bind (wpAny_mono h (fun x s1 h1 => wpAny_bind (wpAny_standAt (wpAny_bind (wpAny_of_eq (hs x) (wpAny_bind (wpAny_holding (wpAny_mono h1 (fun it s2 h2 => ?_) fun _ _ z => z))))))) fun _ _ z => z)
  refine wpAny_standIf (wpAny_bind (wpAny_mono h2 (fun acc s3 h3 => wpAny_bind (wpAny_pure (wpAny_bind (wpAny_mono h3 (fun ce s4 h4 => ?_) fun _ _ z => z)))) fun _ _ z => z))
  dsimp only
  refine wpAny_holding (wpAny_bind (wpAny_attempt (wpAny_holding (wpAny_run (codeAny_mono h4 fun r s5 hr => ?_)))))
  match r, hr with
  | .ok _, hr =>
    obtain ⟨m, e1, e2⟩ := hr
    exact wpAny_bind (wpAny_holding (wpAny_comp_letGo (cenv := { ce with scope := relabel scope env }) hk _ s5 m (fun x hx hl => lo ce hx hl) e1 fun h' m' _ sb => wpAny_pure (e2 h' sb)))
  | .error x, hr =>
    obtain ⟨m, e1, e2⟩ := hr
    exact wpAny_bind (wpAny_holding (wpAny_comp_letGo (cenv := { ce with scope := relabel scope env }) hk _ s5 m (fun y hy hl => lo ce hy hl) e1 fun h' m' _ sb => wpAny_mono (e2 h' sb _ rfl rfl) (fun _ _ f => f.elim) fun _ _ z => z))
end
/-- in the air of a block Y of X: a call let it out -/
def Wind (X Y : Cx) (E : XK) (u : Value) (s' : Shared) : Prop := ∃ pins σ H sI, Inv Y pins σ H sI ∧ CX X.prog X.w X.stack H sI E u s'
theorem frames_hide {B B' h h' : Heap} {C : Addr} {oC : Obj} (eC : B.get? C = some oC) (sb : ∀ b, b ≠ C → h'.get? b = h.get? b) (nb : ∀ b, B.get? b = none → B'.get? b = none) : ∀ {l : List Env}, h.FunFrames B l → h'.FunFrames B' l
  | [], _ => trivial
  | env :: rest, x => by
    obtain ⟨k, ⟨L, o, e1, e2, e3, e4⟩, r⟩ := x
    exact ⟨k, ⟨L, o, e1, nb L e2, (sb L fun z => by rw [z, eC] at e2; cases e2).trans e3, e4⟩, frames_hide eC sb nb r⟩
/-- held, the block's dict aside -/
theorem held_hide {B h h' : Heap} {l : List Env} {e L C : Addr} {oC : Obj} {Z : Obj → Prop} (x : HandSPX.HeldZ B l e Z L h) (sb : Heap.SameBut C h h') (eC : B.get? C = some oC) : HandSPX.HeldZ (PySem.W.hideAll B [C]) l e Z L h' := by
  obtain ⟨st, nE, ff, oe, vs, T, oT, ts, he, hz, hd, h1, hT, nT, eT, hdT, h3⟩ := x
  have nC : ∀ b, B.get? b = none → b ≠ C := fun b e z => by rw [z, eC] at e; cases e
  have nb : ∀ b, B.get? b = none → (PySem.W.hideAll B [C]).get? b = none := fun b q => by
    cases z : (PySem.W.hideAll B [C]).get? b with
    | none => rfl
    | some o => rw [PySem.W.of_hideAll _ z] at q; cases q
  refine ⟨fun b o q => ?_, nb e nE, frames_hide eC sb.2 nb ff, oe, vs, T, oT, ts, (sb.2 e (nC e nE)).trans he, hz, hd, h1, nb T hT, nT, (sb.2 T (nC T hT)).trans eT, hdT, h3⟩
  have q' := PySem.W.of_hideAll _ q
  by_cases hb : b = C
  · rw [hb, PySem.W.hideAll_none _ (List.mem_singleton.mpr rfl)] at q
    cases q
  · exact (sb.2 b hb).trans (st b o q')
section
variable {X : Cx} {pins : List (Addr × Obj)} {σ : L2.St} {H : Hp} {s s1 : Shared} {W : WX} {E : XK} {C : Addr}
/-- a call in a block of X let it out: the block is left, then it is in X's air -/
theorem blown {ce : Env} {m : Str → Option Value} {u : Value} (hs : X.stack = X.env :: X.outer) (hf : X.env.frame = some X.env.locals) (tk : Takes X W) (hW : ∀ cls d H', E cls d H' → W cls d σ H') (I : Inv X pins σ H s) (f : FpOk X pins H C) (hC : s.heap.Ns C m) (hcf : ce.frame = X.env.frame)
    (c : CX X.prog X.w X.stack H s E u s1) {acc : Value} {Q : Value → Shared → Prop} : notedBy (model X.prog X.w) X.A ce (fun e s' => afterX (model X.prog X.w) X.A X.xe Q acc C X.env.frame (.error e) s') u s1 := by
  obtain ⟨a, B, H', cls, d, rfl, fl, hok, ub, na, os, ag, hE⟩ := c
  have hfr : X.A.frames = some (X.env :: X.outer) := by rw [I.ok.frames, hs]
  have nF : C ∉ frs X.stack := fun hb => by
    rcases List.mem_cons.mp (I.stkSub C hb) with z | z
    · exact f.2.1 z
    · exact f.2.2.1 z
  obtain ⟨oC, es, ep, hoC, hrest⟩ := hC
  have bC : B.get? C = some oC := ub.keep C oC hoC f.1 nF
  have nC : H' C = none := ub.free C oC hoC f.1
  show wpAny (model X.prog X.w) X.A (noteFrame (.ref a) ce) _ _ s1
  rw [note_by_frame hcf]
  rw [hs] at fl
  refine PXN.looks_onZ Zn.steady hfr hf fl fun h2 held up2 => ?_
  refine ⟨m, ⟨oC, es, ep, held.1 C oC bC, hrest⟩, fun h3 sb ce' _ hcf' => ?_⟩
  rw [passOn_by_frame (env' := X.env) hcf']
  have held3 := held_hide held sb bC
  obtain ⟨k1, k2, k3, oe, vs, T, oT, ts', he, hz, hd, h1, hr⟩ := id held3
  unfold PySem.passOn
  refine wpAny_bind (wpAny_field he hd h1 ?_)
  rw [if_neg (show ¬ ((Value.ref T == Value.none) = true) from by simp)]
  have fin : wpAny (model X.prog X.w) X.A (setFlight (.ref a) X.env.frame) (fun _ s4 => wpAny (model X.prog X.w) X.A (throw (.ref a) : Sem Value) (fun _ _ => False) X.xe s4) X.xe { s1 with heap := h3 } := by
    rw [hf]
    refine HandSPX.setFlight_onZ held3 fun h4 held4 up4 => wpAny_throw (tk _ _ ?_)
    have st4 : (PySem.W.hideAll B [C]).StaysIn h4 := held4.1
    have gB : ∀ b o, B.get? b = some o → b ≠ C → (PySem.W.hideAll B [C]).get? b = some o := fun b o e hb => PySem.W.hideAll_get _ e (by simpa using hb)
    obtain ⟨G, g1, g2⟩ := restrict h4 fun b => ((PySem.W.hideAll B [C]).get? b).isSome || decide (b ∈ frs X.stack)
    have gG : ∀ b o, B.get? b = some o → b ≠ C → G.get? b = some o := fun b o e hb => by
      rw [g1 b (by rw [gB b o e hb]; rfl)]
      exact st4 b o (gB b o e hb)
    have og : ∀ b o, G.get? b = some o → h4.get? b = some o ∧ (((PySem.W.hideAll B [C]).get? b).isSome = true ∨ b ∈ frs X.stack) := fun b o e => by
      cases q : (((PySem.W.hideAll B [C]).get? b).isSome || decide (b ∈ frs X.stack)) with
      | false => rw [g2 b q] at e; cases e
      | true =>
        rw [g1 b q] at e
        exact ⟨e, by simpa [Bool.or_eq_true] using q⟩
    have fr4 : ∀ b o, s.heap.get? b = some o → b ∈ frs X.stack → ∃ sl, G.get? b = some { o with slots := sl } := fun b o e hb => by
      obtain ⟨sl, q⟩ := ub.slot b o e hb
      have ff := fl.2.2.1
      rw [← hs] at ff
      obtain ⟨_, o1, q1, hnf⟩ := ff.mem hb
      obtain ⟨sl2, q2⟩ := up2 b o1 q1 hnf
      rw [q] at q1
      obtain rfl := Option.some.inj q1
      obtain ⟨sl4, q4⟩ := up4 b _ ((sb.2 b fun z => nF (z ▸ hb)).trans q2) hnf
      exact ⟨sl4, (g1 b (by rw [decide_eq_true hb, Bool.or_true])).trans q4⟩
    refine ⟨a, PySem.W.hideAll B [C], { s with heap := G, gens := s1.gens, drawn := s1.drawn, toks := s1.toks }, pins, σ, H', cls, d, rfl, ?_, fun b o e hb => ?_, Heap.UpToSlots.of_keeps fun b o e => (og b o e).1, .inr (.inr (by rw [hs]; exact held4)), na, os, ag, hW _ _ _ hE⟩
    · refine I.call (ch := [C]) ⟨fun b o e n hb hc => gG b o (ub.keep b o e n hb) (by simpa using hc), fun b o e n hb _ => fr4 b o e hb, fun b o e n _ => ub.free b o e n, fun b o e hc => ?_, ub.tups, ub.frzs, ub.tbls⟩ (fun b o e => ?_) ag (fun b hb => ?_)
      · by_cases hb : b ∈ frs X.stack
        · obtain ⟨sl, q⟩ := fr4 b o e hb
          exact ⟨_, q⟩
        · obtain ⟨o', q⟩ := ub.there b o e hb
          exact ⟨o', gG b o' q (by simpa using hc)⟩
      · refine (hok b o e).stay (fun b' u hb' q => gG b' u q fun z => ?_) (fun _ q => q) fun _ _ q => q
        rcases hb' with rfl | hb'
        · rw [z, nC] at e
          cases e
        · rw [z, nC] at hb'
          cases hb'
      · rw [List.mem_singleton.mp hb]
        exact ⟨f.2.2.2.1, f.2.1, f.2.2.2.2.1, f.2.2.2.2.2⟩
    · obtain ⟨e', z⟩ := og b o e
      rcases z with z | z
      · obtain ⟨o', q⟩ := Option.isSome_iff_exists.mp z
        have z := st4 b o' q
        rw [e'] at z
        cases z
        exact q
      · exact absurd z hb
  first
    | exact wpAny_bind (wpAny_pure (wpAny_bind fin))
    | exact wpAny_bind fin
end
/-- the block of a comprehension without a test, whose element may raise -/
theorem lcX_core {X : Cx} {W : WX} {E : XK} {pins : List (Addr × Obj)} {s : Shared} {σ : L2.St} {H : Hp} {Q : VK} {elt tg iter : Expr} {scope : Scope} {own : List (Str × Nat)} {pos pos' : Pos} {wi : TI} {g : TG} {te : TE} {Qf : Value → Shared → Prop}
    (hst : X.stack = X.env :: X.outer) (hf : X.env.frame = some X.env.locals) (tk : Takes X W) (hW : ∀ cls d σ H, E cls d H → W cls d σ H)
    (hc : X.calm = true) (hN : X.N.Nodup) (I : Inv X pins σ H s) (hi : PI X tg iter wi) (ok : BlkOk X.N X.env.scope scope own)
    (hg : ∀ (s : Shared) (H : Hp) (C : Addr) (cl : List (Str × Addr)) (fp : List Addr), PG (X.blk s H scope (compEnvC scope cl C X.env) fp) tg g)
    (he : ∀ (s : Shared) (H : Hp) (C : Addr) (cl : List (Str × Addr)) (fp : List Addr), PE ((X.blk s H scope (compEnvC scope cl C X.env) fp).wish (Wind X (X.blk s H scope (compEnvC scope cl C X.env) fp) E)) elt te)
    (hs : ∀ x, foldedSetIterable iter X.env x = pure x) (h : tLc wi g tYes te (own.map (·.2)) σ H Q)
    (hRR : ∀ D C s' m H', Inv X pins σ H' s' → Q (.ref D) H' → s'.heap.Ns C m → FpOk X pins H' C → ∀ h', Heap.SameBut C s'.heap h' → Qf (.ref D) { s' with heap := h' }) :
    wpAny (model X.prog X.w) X.A (comprehension (.ListComp elt [⟨tg, iter, [], 0⟩] scope pos) scope X.env pos' (newList []) false (eval iter X.env) none) Qf X.xe s := by
  refine compX rfl hs (closure_ok fun y hy e => ?_) ok.kind (fun y hy e => by rw [ok.uniq y hy, e]) (thn (hi.run pins s σ H _ I h) fun xv s1 hx => thn hx fun itv s2 ⟨it, fp, tn, J, H2, ev, I2, Tn, st2, f2, q⟩ => ?_)
  · exact (ok.free y hy e).elim (fun k => I.ok.has _ (.inl k)) fun k => I.ok.has _ (.inr k)
  subst ev
  refine wpAny_newObj_type (newEnv_comp ?_) (by show 0 ≤ sizeLine; decide)
  generalize hD : s2.heap.objs.size = D
  have nD : H2 D = none := I2.hok.fresh (Nat.le_of_eq hD)
  obtain ⟨W1, ⟨m0, w0⟩, turn⟩ := q D nD
  generalize hs3 : ({ s2 with heap := s2.heap.push { cls := .type "list", data := .seq ([] : List Value).toArray } } : Shared) = s3
  have e3 : s3.heap = s2.heap.push { cls := .type "list", data := .seq ([] : List Value).toArray } := by rw [← hs3]
  have I3 : Inv X pins σ (upd H2 D (.lst [])) s3 := by
    rw [← hs3]
    exact I2.laid (t' := s2.toks) (fun b o e => Heap.get?_push_of_some _ e) (Nat.le_of_eq hD) ⟨Nat.zero_le _, [], 0, .nil, by rw [← hD]; exact Heap.get?_push_size _ rfl⟩
  generalize hH3 : upd H2 D (.lst []) = H3 at I3 w0
  have up3 : ∀ b o, s2.heap.get? b = some o → s3.heap.get? b = some o := fun b o e => by rw [e3]; exact Heap.get?_push_of_some _ e
  have f3 : ∀ b ∈ fp, FpOk X pins H3 b ∧ b < s3.heap.objs.size := fun b hb => by
    obtain ⟨o, e, _⟩ := Tn.obj _ _ st2 b hb
    refine ⟨⟨?_, (f2 b hb).2⟩, Heap.lt_size (up3 b o e)⟩
    rw [← hH3, upd_ne (by rw [← hD]; exact Nat.ne_of_lt (Heap.lt_size e))]
    exact (f2 b hb).1
  have I4 := block_start I3 ok hN f3
  have pg := hg s3 H3 s3.heap.objs.size (cellsFrom (s3.heap.objs.size + 1) scope.names (cloFrom X.env.cells scope.names [])) fp
  have pe := he s3 H3 s3.heap.objs.size (cellsFrom (s3.heap.objs.size + 1) scope.names (cloFrom X.env.cells scope.names [])) fp
  show codeAny _ _ (.compStart (.ListComp elt [⟨tg, iter, [], 0⟩] scope pos) 0 (.ref it) (.ref D) (compEnvC scope (cellsFrom (s3.heap.objs.size + 1) scope.names (cloFrom X.env.cells scope.names [])) s3.heap.objs.size X.env)) (afterX (model X.prog X.w) X.A X.xe Qf (.ref D) s3.heap.objs.size X.env.frame) { s3 with heap := pushCells (s3.heap.push { cls := .type "dict", data := .dict #[] }) scope.names }
  generalize hce : compEnvC scope (cellsFrom (s3.heap.objs.size + 1) scope.names (cloFrom X.env.cells scope.names [])) s3.heap.objs.size X.env = ce at I4 pg pe ⊢
  have cL : ce.locals = s3.heap.objs.size := by rw [← hce]; rfl
  have cF : ce.frame = X.env.frame := by rw [← hce]; rfl
  generalize hs4 : ({ s3 with heap := pushCells (s3.heap.push { cls := .type "dict", data := .dict #[] }) scope.names } : Shared) = s4 at I4 ⊢
  have st4 : tn 0 s4.heap := Tn.keep _ _ _ st2 fun b _ o e => by rw [← hs4]; exact pushCells_keeps _ _ _ _ (Heap.get?_push_of_some _ (up3 b o e))
  have still : ∀ {σ' : L2.St} {H' : Hp} {s' : Shared}, Inv (X.blk s3 H3 scope ce fp) [] σ' H' s' → (∀ b ∈ fp, H' b = none) → ∀ b ∈ fp, FpOk (X.blk s3 H3 scope ce fp) [] H' b := fun {σ' H' s'} I' hn b hb =>
    ⟨hn b hb, (I'.ok.exf b hb).1, I'.ok.exfs b hb, .inl hb, (I'.ok.exf b hb).2, fun p hp => nomatch (show p ∈ ([] : List (Addr × Obj)) ++ [] from hp)⟩
  -- back in the def's context
  have back : ∀ {pins' : List (Addr × Obj)} {σ' : L2.St} {H' : Hp} {s' : Shared}, Inv (X.blk s3 H3 scope ce fp) pins' σ' H' s' → Inv X pins σ H' s' ∧ H' s3.heap.objs.size = none ∧ ∃ m, s'.heap.Ns s3.heap.objs.size m := fun {pins' σ' H' s'} I' => by
    obtain ⟨m, hn, _⟩ := I'.loc
    exact ⟨I3.call' (ch := fp) I'.os I'.base I'.hok I'.bare fun b hb => ⟨(f3 b hb).1.2.2.2.1, (f3 b hb).1.2.1, (f3 b hb).1.2.2.2.2.1, (f3 b hb).1.2.2.2.2.2⟩, cL ▸ (show H' ce.locals = none from I'.free), m, cL ▸ (show s'.heap.Ns ce.locals m from hn)⟩
  have loop : codeAny (model X.prog X.w) X.A (.compLoop (.ListComp elt [⟨tg, iter, [], 0⟩] scope pos) 0 (.ref it) (.ref D) ce) (afterX (model X.prog X.w) X.A X.xe Qf (.ref D) s3.heap.objs.size X.env.frame) s4 := by
    refine compLoop_any (fun n s' => ∃ i H', Inv (X.blk s3 H3 scope ce fp) [] (wipe σ (own.map (·.2))) H' s' ∧ tn i s'.heap ∧ (∀ b ∈ fp, H' b = none) ∧ W1 i n H') ?_ m0 ⟨0, H3, I4, st4, fun b hb => (f3 b hb).1.1, w0⟩
    rintro n s5 ⟨i, H5, I5, st5, n5, w5⟩
    rcases turn i n H5 w5 with ⟨stop, qq⟩ | ⟨go, Nx, hNx, step⟩
    · refine thnF (Tn.done (X.blk s3 H3 scope ce fp) rfl rfl rfl hc i [] s5 _ H5 (fun _ _ => False) I5 (still I5 n5) st5 stop) fun r s6 ⟨hr, I6⟩ => ?_
      subst hr
      obtain ⟨I7, nC, m, hn⟩ := back I6
      exact ⟨m, hn, hRR D s3.heap.objs.size s6 m H5 I7 qq hn (I3.fpOk (Nat.le_refl _) nC)⟩
    · refine thnF (Tn.item (X.blk s3 H3 scope ce fp) rfl rfl rfl hc i [] s5 _ H5 (fun _ _ => False) I5 (still I5 n5) st5 go) fun r s6 ⟨u, hr, h6⟩ => ?_
      subst hr
      refine thnF h6 fun _ s7 ⟨x, H7, I7, r7, y7, st7, n7⟩ => ?_
      refine thnF (pg.run _ s7 _ H7 x u _ (I7.pinned (still I7 n7) (Tn.obj _ _ st7)) r7 (step x H7 y7)) fun _ s8 ⟨σ8, H8, I8, hw8, q8⟩ => ?_
      refine thnF ((pts_nil (X := X.blk s3 H3 scope ce fp)).run _ s8 σ8 H8 _ I8 q8) fun b s9 ⟨H9, I9, q9⟩ => ?_
      have fin : ∀ {s' : Shared} {H' : Hp}, Inv (X.blk s3 H3 scope ce fp) ([] ++ pinsAt fp s7.heap) σ8 H' s' → Nx H' → ∃ m, m < n ∧ ∃ i H', Inv (X.blk s3 H3 scope ce fp) [] (wipe σ (own.map (·.2))) H' s' ∧ tn i s'.heap ∧ (∀ b ∈ fp, H' b = none) ∧ W1 i m H' := fun {s' H'} I' nx => by
        obtain ⟨m', hm, w'⟩ := hNx H' nx
        have pinned : ∀ b ∈ fp, ∀ o, s7.heap.get? b = some o → s'.heap.get? b = some o ∧ H' b = none := fun b hb o e => by
          obtain ⟨z1, z2, _⟩ := I'.pin (b, o) (List.mem_append_right _ (List.mem_append_right _ (mem_pinsAt hb e)))
          exact ⟨z1, z2⟩
        refine ⟨m', hm, i + 1, H', (I'.unpinned (pins := [])).weak (by rw [← hw8, wipe_length]) (fun j v e => ?_), Tn.keep _ _ _ st7 fun b hb o e => (pinned b hb o e).1, fun b hb => ?_, w'⟩
        · rw [← hw8] at e
          exact (wipe_some e).1
        · obtain ⟨o, e, _⟩ := Tn.obj _ _ st7 b hb
          exact (pinned b hb o e).2
      cases b with
      | false =>
        simp only [Bool.false_eq_true, if_false] at q9 ⊢
        exact fin I9 q9
      | true =>
        simp only [if_true] at q9 ⊢
        refine wpAny_mono (pe.run _ s9 σ8 H9 _ (I9.wish _) q9) (fun z s10 ⟨yv, H10, I10, r10, acc, hD10, hz10, nx⟩ => ?_) fun u s' ⟨pins', σ', H', sI, I', c⟩ => ?_
        · exact app_ok (X := X.blk s3 H3 scope ce fp) I10.unwish hD10 hz10 r10 fun s11 I11 => fin I11 nx
        · obtain ⟨I7, nC, m, hn⟩ := back I'
          exact blown hst hf tk (fun cls d H' h => hW cls d σ H' h) I7 (I3.fpOk (Nat.le_refl _) nC) hn cF c
  exact codeAny_compStart_list loop (Tn.self X.A 0 _ _ _ st4 loop)
/-- such a comprehension as a value; what its element lets out, the def lets out -/
theorem pe_lcX {X : Cx} {W : WX} {E : XK} {elt tg iter : Expr} {scope : Scope} {own : List (Str × Nat)} {pos : Pos} {wi : TI} {g : TG} {te : TE} (hst : X.stack = X.env :: X.outer) (hf : X.env.frame = some X.env.locals) (tk : Takes X W) (hW : ∀ cls d σ H, E cls d H → W cls d σ H)
    (hc : X.calm = true) (hN : X.N.Nodup) (hi : PI X tg iter wi) (ok : BlkOk X.N X.env.scope scope own)
    (hg : ∀ (s : Shared) (H : Hp) (C : Addr) (cl : List (Str × Addr)) (fp : List Addr), PG (X.blk s H scope (compEnvC scope cl C X.env) fp) tg g)
    (he : ∀ (s : Shared) (H : Hp) (C : Addr) (cl : List (Str × Addr)) (fp : List Addr), PE ((X.blk s H scope (compEnvC scope cl C X.env) fp).wish (Wind X (X.blk s H scope (compEnvC scope cl C X.env) fp) E)) elt te)
    (hs : ∀ x, foldedSetIterable iter X.env x = pure x := by intro _; rfl) :
    PE X (.ListComp elt [⟨tg, iter, [], 0⟩] scope pos) (tLc wi g tYes te (own.map (·.2))) := by
  refine ⟨fun pins s σ H Q I h => ?_⟩
  rw [eval_ListComp]
  refine lcX_core hst hf tk hW hc hN I hi ok hg he hs h fun D C s' m H' I' q hn f h' sb => ?_
  obtain ⟨f0, f1, f2, f3, f4, f5⟩ := f
  exact ⟨.ref D, H', I'.turned (t' := s'.toks) (fun b o hb e => (sb.2 b hb).trans e) f0 f1 f3 f4 f5, rfl, q⟩
/-- a call in such a block -/
theorem passW {X Y : Cx} {E : XK} (hp : Y.prog = X.prog) (hw : Y.w = X.w) (hst : Y.stack = X.stack) : Passes (CX X.prog X.w) (Y.wish (Wind X Y E)) E := fun pins σ H s e s' I c => ⟨pins, σ, H, s, I.unwish, by rw [← hst]; exact c⟩
end L2N
namespace Ink
open PySem PySem.Spec PyProof.Rows L2 Evl
section
variable {K : PySem.W.Frag} {σ : L2.St} {H : Hp} {te : TE}
/-- a comprehension over data whose element gives data, or lets an exception out -/
theorem en_lcX {α : Type} {ti : TI} {g : TG} {vs : List Nat} (xs : List α) (enc : α → PyData) (f : α → Option PyData) (hi : EvI K ti σ H (xs.map enc)) (hz : xs.length ≤ 40000) (hf : ∀ a d, f a = some d → fz d = true)
    (ht : ∀ (i : Nat) (a : α) (H1 : Hp) (x : V), xs[i]? = some a → Ex H H1 → Dp K H1 x (enc a) → ∀ R : L2.St → Hp → Prop, (∀ σ2, wipe σ2 vs = wipe σ vs → (∀ Q : VK, (∀ d, f a = some d → ∀ v H2, Ex H1 H2 → Dp K H2 v d → Q v H2) → te σ2 H1 Q) → R σ2 H1) → g x (wipe σ vs) H1 R)
    {H0 : Hp} (e : Ex H H0) {Q : VK} (q : ∀ p ws ds H2, H0 p = none → Ex H0 H2 → H2 p = some (.lst ws) → DpAll K H2 ws ds → xs.map f = ds.map some → Q (.ref p) H2) : tLc ti g tYes te vs σ H0 Q := by
  refine hi H0 e _ fun J H1 e1 W D nD => ?_
  refine lc_it W (fun i H' => Ex H1 H' ∧ ∃ ws ds, H' D = some (.lst ws) ∧ DpAll K H' ws ds ∧ (xs.take i).map f = ds.map some) ⟨Ex.new nD, [], [], upd_same, .nil, rfl⟩ (fun _ _ _ hP => hP.1) (fun i x Ha Hb hi hP hy => ?_) (fun H' hP => ?_)
  · obtain ⟨s1, acc, ds, eD, hacc, hds⟩ := hP
    obtain ⟨s2, d, hd, hx⟩ := hy
    rw [List.getElem?_map] at hd
    cases ha : xs[i]? with
    | none =>
      rw [ha] at hd
      cases hd
    | some a =>
      rw [ha] at hd
      have hd := Option.some.inj hd
      subst hd
      refine ht i a Hb x ha ((e.trans e1).trans (s1.trans s2)) hx _ fun σ2 hw he => ⟨hw, yes_of (iteT (he _ fun d' hfa y H4 e4 hy => ?_))⟩
      have eD4 := e4 _ _ (s2 _ _ eD)
      have hlen : ds.length = i := by
        have := congrArg List.length hds
        rw [List.length_map, List.length_map, List.length_take] at this
        rw [List.length_map] at hi
        omega
      refine ⟨acc, eD4, ?_, ?_, acc ++ [y], ds ++ [d'], upd_same, ?_, ?_⟩
      · have h1 := hacc.length
        rw [List.length_map] at hi
        exact sz_lt (by omega)
      · exact Ex.mut (s1.trans (s2.trans e4)) nD
      · have ht' : ∀ c xs, SqT K H4 c xs → SqT K (upd H4 D (.lst (acc ++ [y]))) c xs := fun c xs h => by
          rcases h with (h | ⟨o, h⟩) | h
          · exact .inl (.inl (by rw [upd_ne (ne_of h eD4 (by intro z; cases z))]; exact h))
          · exact .inl (.inr ⟨o, by rw [upd_ne (ne_of h eD4 (by intro z; cases z))]; exact h⟩)
          · exact .inr h
        have hfz : fzAll ds = true := fzAll_iff.mpr fun d hd => by
          have := List.mem_map_of_mem (f := some) hd
          rw [← hds] at this
          obtain ⟨b, _, hb⟩ := List.mem_map.mp this
          exact hf b d hb
        exact (dps_fz ht' _ _ hfz (dps_same (s2.trans e4) hacc)).app (.one (dp_fz ht' _ _ (hf a d' hfa) hy))
      · rw [List.take_add_one, ha, List.map_append, List.map_append, hds]
        show ds.map some ++ [f a] = ds.map some ++ [some d']
        rw [hfa]
  · obtain ⟨s1, acc, ds, eD, hacc, hds⟩ := hP
    rw [List.length_map, List.take_length] at hds
    exact q D acc ds H' (fresh_back e1 nD) (e1.trans s1) eD hacc hds
end
end Ink
namespace L2
open PySem PySem.Spec PyProof.Rows
/-! ### d.update(e) of two dicts with texts and ints as keys -/
def tDUpd (td te : TE) : TE := fun σ H Q => td σ H fun x H1 => ∃ a, x = .ref a ∧ IsD H1 a ∧ te σ H1 fun y H2 => ∃ b kvs more, y = .ref b ∧ H2 a = some (.dK kvs) ∧ H2 b = some (.dK more) ∧ a ≠ b ∧ kvs.length + more.length ≤ 1000 ∧ Q .non (upd H2 a (.dK (mergeK kvs more)))
theorem pe_dupd {X : Cx} {o e : Expr} {apos cpos : Pos} {td te : TE} (ho : PE X o td) (he : PE X e te) (m : M1 X o "update" apos e cpos) : PE X (.Call (.Attribute o "update" apos) [e] [] cpos) (tDUpd td te) := by
  refine ⟨fun pins s σ H Q I h => ?_⟩
  refine wpAny_Call_method m.base m.few m.line PySem.F.plainAttrs_dict PySem.F.slot_dict_update PySem.F.type_dict_update (thn (ho.run pins s σ H _ I h) fun u s1 ⟨x, H1, I1, rx, a, ex, d, q1⟩ => ?_)
  subst ex
  obtain rfl : u = Value.ref a := rx
  obtain ⟨t1, t2, _⟩ := isD_at I1 d
  refine ⟨t1, t2, ?_⟩
  rw [m.trees]
  refine Calls.callWith_builtin rfl (Calls.evalArgs_plain (Calls.spliced_cons (thn (he.run pins s1 σ H1 _ I1 q1) fun iv s2 ⟨y, H2, I2, ry, b, kvs, more, ey, ha, hb, ne, hz, q2⟩ => Calls.spliced_nil ?_)))
  subst ey
  obtain rfl : iv = Value.ref b := ry
  obtain ⟨z, hd, vs, rel, dd⟩ := dk_of I2.hok ha
  obtain ⟨z', hd', vs', rel', dd'⟩ := dk_of I2.hok hb
  have l1 := rel.length
  have l2 := rel'.length
  have h1 : 1000 ≤ sizeLine := by decide
  refine call_meetsIn PySem.F.slot_dict_update dd.typeIs PySem.F.entry_dict_update (PySem.F.args_dict_update_2 _ _) (meets_dict_update (mixKind X.prog X.w) a b ne hd') ⟨vs, vs', dd, dd', by rw [← l1, ← l2]; exact Nat.le_trans hz h1, fun h' d1 _ hs => ?_⟩
  have he : ∃ q, h'.get? a = some q := let ⟨q, _, _, hq, _⟩ := d1; ⟨q, hq⟩
  exact ⟨.non, _, d_write (t' := s2.toks) I2 (by rw [ha]; exact True.intro) hs he (dk_new (Nat.le_trans (Nat.le_trans (length_mergeK more kvs) hz) h1) hd (rel'.merge rel) d1), rfl, q2⟩
end L2
namespace Ink
open PySem PySem.Spec PyProof.Rows L2 Evl
/-! ### read_deed of any text -/
theorem blank_small (x : Str) : (∀ p ∈ Txt.split x blank, p.length ≤ x.length) ∧ (Txt.split x blank).length ≤ x.length + 1 := split_small (by rw [tl_blank]; exact fun e => nomatch e) (by decide +kernel)
theorem spl_ne52 (S : List Nat) : ∀ (t : List Nat) (k : Nat) (acc : List Nat), TL.spl S k acc t ≠ []
  | [], _, acc => fun h => by unfold TL.spl at h; cases h
  | c :: r, 0, acc => fun h => by
    unfold TL.spl at h
    split at h
    · cases h
    · exact spl_ne52 S r 0 _ h
  | c :: r, k + 1, acc => fun h => spl_ne52 S r k acc h
theorem split_cons (x : Str) : ∃ wd zs, Txt.split x blank = wd :: zs := by
  cases e : Txt.split x blank with
  | nil =>
    have h := TL.split_spl x blank (by rw [tl_blank]; exact fun e => nomatch e) (TL.kind_ok (by decide +kernel))
    rw [e] at h
    exact absurd h.symm (spl_ne52 _ _ _ _)
  | cons wd zs => exact ⟨wd, zs, rfl⟩
theorem lookup_none52 {β : Type} {wd : Str} : ∀ {l : List (Str × β)}, l.lookup wd = none → wd ∉ l.map (·.1)
  | [], _, h => by cases h
  | (x, y) :: l, h, hm => by
    rw [List.lookup_cons] at h
    cases e : wd == x with
    | true =>
      rw [e] at h
      cases h
    | false =>
      rw [e] at h
      rcases List.mem_cons.mp hm with z | z
      · rw [z] at e
        simp at e
      · exact lookup_none52 h z
theorem formsD_keys : formsD.map (·.1) = formsT.map (·.1) := by
  unfold formsD
  rw [List.map_map]
  rfl
/-- any text: the deed, or BadText(0) -/
def spDeedX (K : PySem.W.Frag) (C : Addr) : Sp := fun vs H Q E => ∃ t, vs = [.str t] ∧ t.length ≤ 900 ∧ (∀ x, deedIn t = some x → ∀ v H', Same H H' → Dp K H' v (dDeed x) → Q v H') ∧
  (deedIn t = none → ∀ d H', H d = none → Same H H' → H' d = some (.xd [("at", .int 0), ("word", .str "BadText")]) → E (.ref C) (some d) H')
theorem thsIn_none : ∀ {ks zs : List Str} {i : Nat} {k z : Str}, ks[i]? = some k → zs[i]? = some z → thIn k z = none → thsIn ks zs = none
  | k :: ks, z :: zs, 0, _, _, h1, h2, h3 => by
    cases h1
    cases h2
    unfold thsIn
    rw [h3]
  | k :: ks, z :: zs, i + 1, _, _, h1, h2, h3 => by
    unfold thsIn
    rw [thsIn_none (ks := ks) (zs := zs) (i := i) h1 h2 h3]
    cases thIn k z <;> rfl
theorem thsIn_ds : ∀ {ks zs : List Str} {ds : List PyData}, ks.length = zs.length → ((ks.zip zs).map fun p => (thIn p.1 p.2).map dTh) = ds.map some → ∃ r, thsIn ks zs = some r ∧ ds = r.map dTh
  | [], [], ds, _, h => by
    cases ds with
    | nil => exact ⟨[], rfl, rfl⟩
    | cons d ds => cases h
  | k :: ks, z :: zs, ds, hl, h => by
    cases ds with
    | nil => cases h
    | cons d ds =>
      rw [List.zip_cons_cons, List.map_cons, List.map_cons] at h
      injection h with h1 h2
      obtain ⟨r, hr, hd⟩ := thsIn_ds (ks := ks) (zs := zs) (by simpa using hl) h2
      cases hth : thIn k z with
      | none =>
        rw [hth] at h1
        cases h1
      | some x =>
        rw [hth] at h1
        injection h1 with h1
        refine ⟨x :: r, ?_, by rw [List.map_cons, h1, hd]⟩
        unfold thsIn
        rw [hth, hr]
section
variable {P : Program} {w : World} {K : PySem.W.Frag} {mg : Str → Option Value} {base : Heap}
theorem ok_read_deedX {f C : Addr} {fd : FuncData} {k : Nat} (F : Fun K "read_deed" "read_deed" sReadDeed f fd) (T : Txt mg) (hk : 3 ≤ k) (B : BadR P w K mg base 2 C) (G__FORMS : FormG K w mg "_FORMS" formsD) (C__read_thing : CalN P w K mg base k "_read_thing" ["kind", "text"] (spThX K C)) : FnOk P w K mg base (L2N.CX P w) (k + 1) f fd ["text"] (spDeedX K C) := by
  refine okN F sc_read_deed (fun vs H Q E h => ?_) (fun cdv A outer s H vs Q E hr h => ?_)
  · obtain ⟨t, rfl, _⟩ := h
    rfl
  · obtain ⟨t, rfl, ht, q, qb⟩ := h
    obtain ⟨wd, zs, hsp⟩ := split_cons t
    have sm := blank_small t
    rw [hsp] at sm
    have hzl : zs.length ≤ 900 := by
      have := sm.2
      rw [List.length_cons] at this
      omega
    have hzs : ∀ z ∈ zs, z.length ≤ 900 := fun z hz => Nat.le_trans (sm.1 z (List.mem_cons_of_mem _ hz)) ht
    refine ⟨_, (pss_cons (ps_asg (pe_split (pv 0) pe_str) (pg_head rfl (pgs_cons (pg_name (i := 1) sc_read_deed.nd rfl (.inl rfl)) (pgs_star (pg_name (i := 2) sc_read_deed.nd rfl (.inl rfl)) pgs_nil))))
    (pss_cons (ps_if (PW.pt (pw_or (pt_cmpR (show OpR _ _ (rInF K w true) from op_notinF) (pv 1) (pe_formG (by rfl) G__FORMS) (by rfl)) (pw_or1 (pt_cmpR op_ne (pe_callB call_len (by rfl) T.m_len PySem.boot_len (pa_cons (pv 2) pa_nil)) (pe_callB call_len (by rfl) T.m_len PySem.boot_len (pa_cons (pe_ix (show IxR _ (rIxF K w) from ix_formF) (pe_formG (by rfl) G__FORMS) (pv 1) (fun _ _ => rfl)) pa_nil)) (nomark _)))))
    (pss_one (ps_raiseBad B (hr.mono hk) (by rfl) rfl (L2N.takes_of rfl rfl rfl rfl) (pa_cons pe_int pa_nil))) pss_nil)
    (pss_one (ps_ret (pe_tup (pa_cons (pv 1) (StX.pa_star (L2N.pe_lcX (own := [("kind", 3), ("thing", 4)]) (g := (gTup K 2 (gCons (gName 3) (gCons (gName 4) gNil)))) (E := E) (W := fun cls d _ H => E cls d H) rfl rfl (L2N.takes_of rfl rfl rfl rfl) (fun _ _ _ _ h => h) (by rfl) sc_read_deed.nd (pi_zipM (by rfl) T.m_zip (pa_cons (pe_ix (show IxR _ (rIxF K w) from ix_formF) (pe_formG (by rfl) G__FORMS) (pv 1) (fun _ _ => rfl)) (pa_cons (pv 2) pa_nil))) (blkOk_by (own := [("kind", 3), ("thing", 4)]) (N := ["text", "word", "things", "kind", "thing"]) (sc := defScope sReadDeed) (by decide +kernel)) (fun _ _ _ _ _ => (pg_tup rfl (pgs_cons (pg_name (i := 3) sc_read_deed.nd rfl (.inl rfl)) (pgs_cons (pg_name (i := 4) sc_read_deed.nd rfl (.inl rfl)) pgs_nil)))) (fun _ _ _ _ _ => (pe_callCN C__read_thing hr (L2N.passW rfl rfl rfl) (by rfl) (pa_cons (pv 3) (pa_cons (pv 4) pa_nil))))) pa_nil))))))), ?_⟩
    have hback : ∀ {H1 : Hp} {d : Addr}, Same H H1 → H1 d = none → H d = none := fun {H1 d} s1 nd => by
      cases hd : H d with
      | none => rfl
      | some o => exact nomatch (s1 _ _ hd).symm.trans nd
    have hbad : ∀ {σ : L2.St} {H1 : Hp}, Same H H1 → deedIn t = none → tMkO C (spBad K) [] (tCons (tC (.int 0)) tNil) σ H1 (fun cls d H' => E cls d H') := fun {σ H1} s1 hn =>
      bad_made B.nm B.hw B.hat (by decide) (by decide +kernel) (fun R r => r) fun d nd => qb hn d _ (hback s1 nd) (s1.trans (same_new nd)) upd_same
    refine (el_split (ev_var rfl) ev_c (by decide +kernel) (by omega) hsp) H (.refl H) _ fun p H1 np e1 hp1 => ?_
    refine ⟨p, .str wd, zs.map V.str, rfl, .of hp1, by rw [List.length_map]; omega, fun r nr => ⟨_, _, rfl, ⟨_, _, rfl, rfl, ?_⟩⟩⟩
    have e2 : Ex H1 (upd H1 r (.lst (zs.map V.str))) := Ex.new nr
    have g2 : Dp K (upd H1 r (.lst (zs.map V.str))) (.ref r) (.list (zs.map .str)) := .lst (.of upd_same) (dps_ofS _)
    have l2 : (upd H1 r (.lst (zs.map V.str))) r = some (.lst (zs.map V.str)) := upd_same
    generalize upd H1 r (.lst (zs.map V.str)) = H2 at e2 g2 l2
    refine g_go ?_
    try dsimp only [List.set]
    cases hf : formsT.lookup wd with
    | none =>
      refine q_when (b := true) (et_or (a := true) (b := false) (et_is (et_test (ev_inFz (ev_var rfl))) ?_) fun z => nomatch z) (fun _ H3 e3 => hbad ((e1.trans e2).trans e3) ?_) fun z => nomatch z
      · rw [formsD_keys]
        have := lookup_none52 hf
        simp [this]
      · unfold deedIn
        rw [hsp]
        dsimp only
        rw [hf]
    | some ks =>
      have hf' := lookup_mem52 hf
      have hdd : deedIn t = (thsIn ks zs).map fun r => (wd, r) := by
        unfold deedIn
        rw [hsp]
        dsimp only
        rw [hf]
      refine q_when (b := !decide (zs.length = ks.length)) (et_or (a := false) (b := !decide (zs.length = ks.length)) (et_is (et_test (ev_inF (ev_var rfl) (forms_in hf'))) rfl) fun _ => et_is (et_test (ev_op (ev_lenD (ed_var rfl g2) (.inl rfl)) (ev_lenD (ed_form (ev_var rfl) (forms_in hf')) (.inr rfl)) (rv_ne rfl))) ?_) (fun hb H3 e3 => hbad ((e1.trans e2).trans e3) ?_) fun hb H3 e3 => ?_
      · rw [List.length_map, List.length_map]
        congr 1
        exact decide_eq_decide.mpr ⟨fun h => by injection h with h; omega, fun h => by rw [h]⟩
      · rw [hdd, thsIn_bad fun h => ?_]
        · rfl
        · rw [h] at hb
          simp at hb
      · have hl : zs.length = ks.length := by simpa using hb
        have g2 := dp_same e3 g2
        have l3 := e3 _ _ l2
        have hkl := (forms_len _ hf').2.1
        have e03 := (e1.trans e2).trans e3
        -- the things, one by one
        have key : (((ks.map PyData.str).zip (zs.map PyData.str)).map fun p => PyData.tuple [p.1, p.2]) = (ks.zip zs).map fun p => .tuple [.str p.1, .str p.2] := by
          rw [List.zip_map, List.map_map]
          rfl
        refine ⟨_, rfl, en_lcX (K := K) (σ := [some (.str t), some (.str wd), some (.ref r), none, none]) (ks.zip zs) (fun p => PyData.tuple [.str p.1, .str p.2]) (fun p => (thIn p.1 p.2).map dTh) (key ▸ ei_zipM (ed_form (ev_var rfl) (forms_in hf')) (ed_var rfl g2)) (by rw [List.length_zip]; omega) (fun a d h => ?_) (fun i a H5 y hx e5 hdx R kk => tg2 hdx fun u1 u2 b1 b2 => ?_) (.refl H3) fun p ws ds H4 np e4 hp hws hds => ?_⟩
        · cases hth : thIn a.1 a.2 with
          | none => rw [hth] at h; cases h
          | some x =>
            rw [hth] at h
            cases h
            exact fz_dTh x
        · obtain rfl := dp_str b1
          obtain rfl := dp_str b2
          have hx := List.getElem?_zip_eq_some.mp hx
          refine kk _ rfl fun Q1 q1 => ⟨_, rfl, _, rfl, a.1, a.2, rfl, hzs a.2 (List.mem_of_getElem? hx.2), fun x hth v H6 s6 hv => q1 (dTh x) (by rw [hth]; rfl) v H6 s6 hv, fun hn d H6 nd s6 hd => qb (by rw [hdd, thsIn_none hx.1 hx.2 hn]; rfl) d H6 (hback (e03.trans e5) nd) ((e03.trans e5).trans s6) hd⟩
        · obtain ⟨r', hr', hrd⟩ : ∃ r', thsIn ks zs = some r' ∧ ds = r'.map dTh := thsIn_ds hl.symm hds
          refine ⟨p, ws, rfl, .inr (.of hp), ?_⟩
          have l1 := hws.length
          have l2 := congrArg List.length hds
          rw [List.length_map, List.length_map, List.length_zip] at l2
          refine ⟨small_le (by show (V.str wd :: (ws ++ [])).length ≤ _; rw [List.length_cons, List.append_nil]; omega), fun pt npt => ?_⟩
          refine q (wd, r') (by rw [hdd, hr']; rfl) _ _ ((e03.trans e4).trans (Ex.new npt)) ?_
          refine .tup (.of upd_same) ?_
          rw [hrd] at hws
          show DpAll K _ (.str wd :: (ws ++ [])) (.str wd :: r'.map dTh)
          rw [List.append_nil]
          exact .cons (.str wd) (dps_same (Ex.new npt) hws)
end
end Ink
namespace Ink
open PySem PySem.Spec PyProof.Rows L2 Evl
/-! ### the law's own reading of a deed -/
def kvs6 : List (Key × V) := [(.inr "come", .str "w"), (.inr "leave", .str "n"), (.inr "change", .str "w"), (.inr "sign", .str "s"), (.inr "said", .str "bn"), (.inr "denied", .str "bn")]
def kvs3 : List (Key × V) := [(.inr "unsay", .str "b"), (.inr "watch", .str "b"), (.inr "unwatch", .str "b")]
def kvs9 : List (Key × V) := mergeK (mergeK [] kvs6) (mergeK [] kvs3)
theorem kvs9_is : kvs9 = lawForms.map fun x => (.inr x.1, .str x.2) := by decide +kernel
theorem val_forms (wd : Str) : ∀ l : List (Str × Str), valV (l.map fun x => ((.inr x.1 : Key), V.str x.2)) (.inr wd) = (l.lookup wd).map V.str
  | [] => rfl
  | (x, y) :: l => by
    rw [List.map_cons, List.lookup_cons]
    by_cases h : x = wd
    · rw [valV_pos (by show (Sum.inr x : Key) = Sum.inr wd; rw [h]), show (wd == x) = true from by rw [h]; simp]
      rfl
    · rw [valV_neg (by show ¬ (Sum.inr x : Key) = Sum.inr wd; exact fun e => h (Sum.inr.inj e)), show (wd == x) = false from by simpa using fun e => h e.symm]
      exact val_forms wd l
theorem val9 (wd : Str) : (valV kvs9 (.inr wd)).getD (.str "") = .str ((lawForms.lookup wd).getD "") := by
  rw [kvs9_is, val_forms]
  cases lawForms.lookup wd <;> rfl
theorem forms_some : ∀ x ∈ lawForms, x.2.length ≠ 0 ∧ x.2.length ≤ 2 ∧ PyData.strOk x.1 = true := by decide +kernel
theorem lookup_memL {wd kz : Str} : ∀ {l : List (Str × Str)}, l.lookup wd = some kz → (wd, kz) ∈ l
  | [], h => by cases h
  | (x, y) :: l, h => by
    rw [List.lookup_cons] at h
    cases e : wd == x with
    | true =>
      rw [e] at h
      injection h with h
      rw [h, eq_of_beq e]
      exact List.mem_cons_self ..
    | false =>
      rw [e] at h
      exact List.mem_cons_of_mem _ (lookup_memL h)
theorem str_ok52 {z : Str} (h : lawName z = true) : PyData.strOk z = true := by
  unfold lawName at h
  rw [Bool.and_eq_true] at h
  have key : ∀ c ∈ z.cps.toList, c ∈ lets := fun c hc => by
    have := List.all_eq_true.mp h.2 _ (List.mem_map_of_mem (f := fun c => decide (c ∈ lets)) hc)
    exact of_decide_eq_true this
  unfold PyData.strOk
  rw [← Array.all_toList, List.all_eq_true]
  intro c hc
  have := (lets_iff c).mp (key c hc)
  exact decide_eq_true (by omega)
theorem dA_flat52 {x : Arw} (h : lawA x = true) : (dA x).canLay0 = true ∧ (dA x).depth ≤ 3 := by
  unfold lawA at h
  have hn : lawName x.2.1 = true := by
    revert h
    cases lawName x.2.1
    · simp
    · intro _
      rfl
  have ok := str_ok52 hn
  refine ⟨?_, ?_⟩
  · unfold dA
    simp only [PyData.canLay0, PyData.canLayAll0, ok, Bool.and_self]
  · unfold dA
    simp only [PyData.depth, PyData.depthAll]
    decide
theorem dW_flat52 {z : Str} {x : Str × List Arw × Int × Int} (h : rdP z = some x) : (dW x).canLay0 = true ∧ (dW x).depth ≤ 8 := by
  obtain ⟨n, ar, p, c⟩ := x
  have hw : lawWr n ar p c = true := by
    unfold rdP at h
    split at h
    · unfold rd4 at h
      split at h
      · rename_i hh
        injection h with h
        injection h with e1 h
        injection h with e2 h
        injection h with e3 e4
        subst e1 e2 e3 e4
        rw [← wr_eq]
        exact hh.2.2.2
      · cases h
    · cases h
  unfold lawWr at hw
  rw [Bool.and_eq_true, Bool.and_eq_true, Bool.and_eq_true] at hw
  obtain ⟨h1, _, h2, _⟩ := hw
  have hA : ∀ a ∈ ar, lawA a = true := fun a ha => List.all_eq_true.mp h2 _ (List.mem_map_of_mem ha)
  have l1 := lay_all5 (f := dA) (l := ar) fun a ha => (dA_flat52 (hA a ha)).1
  have l2 := depth_all5 (f := dA) (n := 3) (l := ar) fun a ha => (dA_flat52 (hA a ha)).2
  have l3 := str_ok52 h1
  refine ⟨?_, ?_⟩
  · unfold dW
    simp only [PyData.canLay0, PyData.canLayAll0, l1, l3, Bool.and_true]
  · unfold dW
    simp only [PyData.depth, PyData.depthAll]
    omega
theorem thL_flat (c : Nat) (z : Str) : (thL c z).canLay0 = true ∧ (thL c z).depth ≤ 8 := by
  have hn : (PyData.none).canLay0 = true ∧ (PyData.none).depth ≤ 8 := ⟨by simp only [PyData.canLay0], by simp only [PyData.depth]; decide⟩
  unfold thL
  split
  · split
    · rename_i x e
      exact dW_flat52 e
    · exact hn
  · split
    · split
      · exact ⟨by simp only [PyData.canLay0], by simp only [PyData.depth]; decide⟩
      · exact hn
    · split
      · rename_i h
        rw [Bool.and_eq_true] at h
        exact ⟨by simp only [PyData.canLay0, str_ok52 h.1], by simp only [PyData.depth]; decide⟩
      · exact hn
theorem thL_fz (c : Nat) (z : Str) : fz (thL c z) = true := by
  unfold thL
  split
  · split
    · exact fz_dW _
    · unfold fz; rfl
  · split
    · split <;> (unfold fz; rfl)
    · split <;> (unfold fz; rfl)
theorem found_shaped {wd : Str} (h : PyData.strOk wd = true) (cs : List Nat) (zs : List Str) : SeqAt.shaped (.list (.str wd :: thsL cs zs)) = true := by
  have h1 := lay_all5 (f := fun p : Nat × Str => thL p.1 p.2) (l := cs.zip zs) fun p _ => (thL_flat p.1 p.2).1
  have h2 := depth_all5 (f := fun p : Nat × Str => thL p.1 p.2) (n := 8) (l := cs.zip zs) fun p _ => (thL_flat p.1 p.2).2
  unfold SeqAt.shaped thsL
  rw [Bool.and_eq_true, decide_eq_true_eq]
  refine ⟨by simp only [PyData.canLay0, PyData.canLayAll0, h1, h, Bool.and_true], ?_⟩
  simp only [PyData.depth, PyData.depthAll]
  omega
theorem atI_head {α : Type} (x : α) (xs : List α) : atI (x :: xs) 0 = some x := by
  have h := ixN_nat (n := (x :: xs).length) (j := 0) (by rw [List.length_cons]; omega)
  unfold atI
  rw [show ((0 : Int)) = ((0 : Nat) : Int) from rfl, h]
  rfl
def spDeedL (K : PySem.W.Frag) : Sp := fun vs H Q _ => ∃ t, vs = [.str t] ∧ t.length ≤ 900 ∧ ∀ v H', Same H H' → Dp K H' v (lawDeed t) → Q v H'
theorem thsL_at {cs : List Nat} {zs : List Str} {i c : Nat} {z : Str} (h1 : cs[i]? = some c) (h2 : zs[i]? = some z) : (thsL cs zs)[i]? = some (thL c z) := by
  unfold thsL
  rw [List.getElem?_map, show (cs.zip zs)[i]? = some (c, z) from List.getElem?_zip_eq_some.mpr ⟨h1, h2⟩]
  rfl
section
variable {P : Program} {w : World} {K : PySem.W.Frag} {mg : Str → Option Value} {base : Heap}
theorem ok_deed_in {f : Addr} {fd : FuncData} {k : Nat} (F : Fun K "_law_deed_in" "_law_deed_in" sLDeedIn f fd) (T : Txt mg) (C__law_writer_in : Cal P w K mg base k "_law_writer_in" ["_law_text"] spWI) (C__law_number_in : Cal P w K mg base k "_law_number_in" ["_law_text"] spNumL)
    (C__law_is_name : Cal P w K mg base k "_law_is_name" ["_law_text"] spLawName) : FnOk P w K mg base CX0 (k + 1) f fd ["_law_text"] (spDeedL K) := by
  refine F.ok sc__law_deed_in (fun vs H Q E h => ?_) (fun cdv A outer s H vs Q E hr h => ?_)
  · obtain ⟨t, rfl, _⟩ := h
    rfl
  · obtain ⟨t, rfl, ht, q⟩ := h
    refine ⟨_, (pss_cons (ps_set (i := 1) sc__law_deed_in.nd rfl (.inl rfl) (pe_split (pv 0) pe_str))
    (pss_cons (ps_set (i := 2) sc__law_deed_in.nd rfl (.inl rfl) (pe_disp (pps_cons pe_str pe_str (pps_cons pe_str pe_str (pps_cons pe_str pe_str (pps_cons pe_str pe_str (pps_cons pe_str pe_str (pps_cons pe_str pe_str pps_nil)))))) (by rfl) (by rfl) (fun z => by cases z) (by decide)))
    (pss_cons (ps_expr (pe_dupd (pv 2) (pe_disp (pps_cons pe_str pe_str (pps_cons pe_str pe_str (pps_cons pe_str pe_str pps_nil))) (by rfl) (by rfl) (fun z => by cases z) (by decide)) ⟨by rfl, by rfl, by rfl, by rfl⟩))
    (pss_cons (ps_par (i := 3) (j := 4) (by rfl) sc__law_deed_in.nd rfl rfl (by decide) rfl rfl (pa_cons (pe_dget2 (hu_of hr) (pv 2) (pe_ix ix_list (pv 1) pe_int (fun _ _ => rfl)) pe_str ⟨by rfl, by rfl, by rfl, by rfl⟩) (pa_cons (pe_lst (pa_cons (pe_ix ix_list (pv 1) pe_int (fun _ _ => rfl)) pa_nil)) pa_nil)) (by rfl))
    (pss_cons (ps_if (PW.pt (pw_or (pt_cmpR op_eq (pv 3) pe_str (nomark _)) (pw_or1 (pt_cmpR op_ne (pe_callB call_len_str (by rfl) T.m_len PySem.boot_len (pa_cons (pv 3) pa_nil)) (pe_op op_sub (pe_callB call_len (by rfl) T.m_len PySem.boot_len (pa_cons (pv 1) pa_nil)) pe_int) (nomark _)))))
    (pss_one (ps_ret pe_non)) pss_nil)
    (pss_cons (ps_for PassesOwn.never rfl (pi_zipS (by rfl) T.m_zip (pa_cons (pv 3) (pa_cons (pe_slice sl_list (pv 1) (po_some pe_int) po_none) pa_nil))) (pg_tup rfl (pgs_cons (pg_name (i := 5) sc__law_deed_in.nd rfl (.inl rfl)) (pgs_cons (pg_name (i := 6) sc__law_deed_in.nd rfl (.inl rfl)) pgs_nil)))
    (pss_one (ps_if (pt_cmpR op_eq (pv 5) pe_str (nomark _))
    (pss_one (ps_expr (pe_bm PySem.F.plainAttrs_list PySem.F.slot_list_append PySem.F.type_list_append mt_append (pv 4) (pa_cons (pe_callC C__law_writer_in hr (by rfl) (pa_cons (pv 6) pa_nil)) pa_nil)))) (pss_one (ps_if (pt_cmpR op_eq (pv 5) pe_str (nomark _))
    (pss_one (ps_expr (pe_bm PySem.F.plainAttrs_list PySem.F.slot_list_append PySem.F.type_list_append mt_append (pv 4) (pa_cons (pe_callC C__law_number_in hr (by rfl) (pa_cons (pv 6) pa_nil)) pa_nil)))) (pss_cons (ps_set (i := 7) sc__law_deed_in.nd rfl (.inl rfl) (pe_and (pe_callC C__law_is_name hr (by rfl) (pa_cons (pv 6) pa_nil)) (pe_one (pe_or (pe_cmpR op_eq (pv 5) pe_str (nomark _)) (pe_one (pe_cmpR op_eq (pe_callB call_len_str (by rfl) T.m_len PySem.boot_len (pa_cons (pv 6) pa_nil)) pe_int (nomark _)))))))
    (pss_one (ps_expr (pe_bm PySem.F.plainAttrs_list PySem.F.slot_list_append PySem.F.type_list_append mt_append (pv 4) (pa_cons (pe_ifExp (pt_val (pv 7)) (pv 6) pe_non) pa_nil))))))))))
    (pss_one (ps_ret (pe_ifExp (pt_cmpR (show OpR _ _ (rInD K) from op_inD (hu65 hr)) pe_non (pv 4) (by rfl)) pe_non (pe_callTy call_tuple_of (by rfl) T.m_tuple (by decide +kernel) (pa_cons (pv 4) pa_nil))))))))))), ?_⟩
    obtain ⟨wd, zs, hsp⟩ := split_cons t
    have sm := blank_small t
    rw [hsp] at sm
    have hzl : zs.length ≤ 900 := by
      have := sm.2
      rw [List.length_cons] at this
      omega
    have hzs : ∀ z ∈ zs, z.length ≤ 900 := fun z hz => Nat.le_trans (sm.1 z (List.mem_cons_of_mem _ hz)) ht
    refine q_asgL (σ := [some (.str t), none, none, none, none, none, none, none]) (xs := (wd :: zs).map V.str) (el_split (ev_var rfl) ev_c (by decide +kernel) (by omega) hsp) fun p H1 np e1 hp1 => ?_
    try dsimp only [List.set]
    -- the forms
    refine fun p2 np2 => ⟨upd_same, kvs6, rfl, by decide, ?_⟩
    have e2 : Ex H1 (upd (upd H1 p2 (.dK [])) p2 (.dK (mergeK [] kvs6))) := Ex.mut (Ex.new np2) np2
    have d2 : (upd (upd H1 p2 (.dK [])) p2 (.dK (mergeK [] kvs6))) p2 = some (.dK (mergeK [] kvs6)) := upd_same
    generalize upd (upd H1 p2 (.dK [])) p2 (.dK (mergeK [] kvs6)) = H2 at e2 d2
    refine g_go ?_
    dsimp only [List.set]
    refine ⟨.ref p2, rfl, p2, rfl, .inl ⟨_, .inl d2⟩, fun p3 np3 => ⟨upd_same, kvs3, rfl, by decide, p3, _, _, rfl, Ex.mut (Ex.new np3) np3 _ _ d2, upd_same, ne_of_none d2 np3, by decide +kernel, ?_⟩⟩
    have e3 : Ex H1 (upd (upd (upd H2 p3 (.dK [])) p3 (.dK (mergeK [] kvs3))) p2 (.dK kvs9)) := Ex.mut (e2.trans (Ex.mut (Ex.new np3) np3)) np2
    have d3 : (upd (upd (upd H2 p3 (.dK [])) p3 (.dK (mergeK [] kvs3))) p2 (.dK kvs9)) p2 = some (.dK kvs9) := upd_same
    show tSeq _ _ _ _ (upd (upd (upd H2 p3 (.dK [])) p3 (.dK (mergeK [] kvs3))) p2 (.dK kvs9))
    generalize upd (upd (upd H2 p3 (.dK [])) p3 (.dK (mergeK [] kvs3))) p2 (.dK kvs9) = H3 at e3 d3
    have hp3 : H3 p = some (.lst (.str wd :: zs.map V.str)) := e3 _ _ hp1
    refine ⟨.ref p2, rfl, p2, rfl, .inl ⟨_, .inl d3⟩, .ref p, rfl, p, _, 0, .str wd, rfl, rfl, .of hp3, atI_head _ _, valV kvs9 (.inr wd), DGet.k (k := .inr wd) d3, .ref p, rfl, p, _, 0, .str wd, rfl, rfl, .of hp3, atI_head _ _, by show 1 ≤ sizeLine; decide, fun F nF => ⟨_, _, rfl, ?_⟩⟩
    have e4 : Ex H1 (upd H3 F (.lst [V.str wd])) := e3.trans (Ex.new nF)
    have hF : (upd H3 F (.lst [V.str wd])) F = some (.lst [V.str wd]) := upd_same
    have nF1 : H1 F = none := fresh_back e3 nF
    rw [val9]
    dsimp only [List.set]
    generalize upd H3 F (.lst [V.str wd]) = H4 at e4 hF
    have hp4 : H4 p = some (.lst (.str wd :: zs.map V.str)) := e4 _ _ hp1
    have hpd : Dp K H4 (.ref p) (.list ((wd :: zs).map PyData.str)) := .lst (.of hp4) (dps_ofS (wd :: zs))
    have e04 : Ex H H4 := e1.trans e4
    have hld : lawDeed t = match lawForms.lookup wd with
        | some kz => if (TL.tl kz).length = zs.length then (if ((PyData.str wd :: thsL (TL.tl kz) zs).any fun z => PyData.eqv z .none) = true then .none else .tuple (.str wd :: thsL (TL.tl kz) zs)) else .none
        | none => .none := by
      unfold lawDeed
      rw [hsp]
      all_goals rfl
    cases hf : lawForms.lookup wd with
    | none =>
      rw [hf] at hld
      have hld : lawDeed t = .none := hld
      dsimp only [Option.getD]
      refine q_when (b := true) (et_or (a := true) (b := false) (et_is (et_test (ev_op (ev_var rfl) ev_c (rv_eq rfl))) (decide_eq_true rfl)) fun h => nomatch h) (fun _ H5 e5 => ?_) fun h => nomatch h
      exact s_ret ev_c fun H6 e6 => q .non H6 ((e04.trans e5).trans e6) (by rw [hld]; exact .non)
    | some kz =>
      rw [hf] at hld
      have hld : lawDeed t = if (TL.tl kz).length = zs.length then (if ((PyData.str wd :: thsL (TL.tl kz) zs).any fun z => PyData.eqv z .none) = true then .none else .tuple (.str wd :: thsL (TL.tl kz) zs)) else .none := hld
      obtain ⟨kz0, kz2, hwd⟩ := forms_some _ (lookup_memL hf)
      have kzl := TL.len_tl kz
      have kz0 : kz.length ≠ 0 := kz0
      have kz2 : kz.length ≤ 2 := kz2
      dsimp only [Option.getD]
      refine q_when (b := !decide ((TL.tl kz).length = zs.length)) (et_is (et_or (a := false) (b := !decide ((TL.tl kz).length = zs.length)) (et_is (et_test (ev_op (ev_var rfl) ev_c (rv_eq rfl))) (decide_eq_false fun h => ?_)) fun _ => et_is (et_test (ev_op (ev_lenS (ev_var rfl) (by omega)) (ev_op (ev_lenD (ed_var rfl hpd) (.inl rfl)) ev_c rv_I0) (rv_ne rfl))) ?_) rfl) (fun hb H5 e5 => ?_) fun hb H5 e5 => ?_
      · injection h with h
        rw [h] at kz0
        exact kz0 (by decide +kernel)
      · congr 1
        refine decide_eq_decide.mpr ⟨fun h => ?_, fun h => ?_⟩
        · injection h with h
          simp only [List.length_map, List.length_cons] at h
          omega
        · simp only [List.length_map, List.length_cons]
          congr 1
          omega
      · exact s_ret ev_c fun H6 e6 => q .non H6 ((e04.trans e5).trans e6) (by rw [hld, if_neg (by simpa using hb)]; exact .non)
      · have hl : (TL.tl kz).length = zs.length := by simpa using hb
        rw [if_pos hl] at hld
        have hF5 := e5 _ _ hF
        refine ⟨.str kz, rfl, en_slFrom5 (K := K) (σ := [some (.str t), some (.ref p), some (.ref p2), some (.str kz), some (.ref F), none, none, none]) (k := 1) (ed_var rfl (dp_same e5 hpd)) ev_c H5 (.refl H5) _ fun p5 vs5 H6 np5 e6 hp5 hd5 => ?_⟩
        have hd5 : DpAll K H6 vs5 (zs.map PyData.str) := hd5
        obtain rfl := dps_str hd5
        have hF6 := e6 _ _ hF5
        have nF6 : p5 ≠ F := (ne_of_none hF5 np5).symm
        have e16 : Ex H1 H6 := (e4.trans e5).trans e6
        have hwdl : wd.length ≤ 900 := Nat.le_trans (sm.1 wd (List.mem_cons_self ..)) ht
        refine ⟨kz, p5, zs.map V.str, rfl, .of hp5, for_it (walk_zipS (x := kz) (ys := zs.map V.str)) (fun j σ' H' => (∃ y5 y6 y7, σ' = [some (.str t), some (.ref p), some (.ref p2), some (.str kz), some (.ref F), y5, y6, y7]) ∧ (∀ b o, b ≠ F → H6 b = some o → H' b = some o) ∧ ∃ vs, H' F = some (.lst vs) ∧ DpAll K H' vs (PyData.str wd :: (thsL (TL.tl kz) zs).take j)) ⟨⟨_, _, _, rfl⟩, fun _ _ _ h => h, [.str wd], hF6, .cons (.str wd) .nil⟩ (fun j σ' H' _ hP => .of (hP.2.1 _ _ nF6 hp5)) (fun j y σ' Ha Hb hj hP hy => ?_) (fun σ' H' hP => ?_)⟩
        · obtain ⟨⟨y5, y6, y7, rfl⟩, kp, vs, eF, hvs⟩ := hP
          obtain ⟨T, c, y, rfl, nT, rfl, hc, hy⟩ := hy
          rw [List.getElem?_map] at hy
          cases hz : zs[j]? with
          | none =>
            rw [hz] at hy
            cases hy
          | some z =>
          rw [hz] at hy
          obtain rfl := Option.some.inj hy
          have hzl' := hzs z (List.mem_of_getElem? hz)
          have hc' : (TL.tl kz)[j]? = some c := by
            rw [← hc]
            exact (Array.getElem?_toList ..)
          have htk : (thsL (TL.tl kz) zs).take (j + 1) = (thsL (TL.tl kz) zs).take j ++ [thL c z] := take_snoc (thsL_at hc' hz)
          have sT : Ex Ha (upd Ha T (.tup [.str ⟨#[c]⟩, .str z])) := Ex.new nT
          have dT : Dp K (upd Ha T (.tup [.str ⟨#[c]⟩, .str z])) (.ref T) (.tuple [.str (single c), .str z]) := .tup (.of upd_same) (.cons (.str _) (.cons (.str z) .nil))
          generalize upd Ha T (.tup [.str ⟨#[c]⟩, .str z]) = Hb at sT dT
          have eFb := sT _ _ eF
          have hvl : vs.length ≤ 1000 := by
            have := hvs.length
            rw [List.length_cons, List.length_take] at this
            have h2 : (thsL (TL.tl kz) zs).length ≤ 900 := by
              unfold thsL
              rw [List.length_map, List.length_zip]
              omega
            omega
          have fin : ∀ (v : V) (H1 : Hp) (σ1 : L2.St), (∃ y5 y6 y7, σ1 = [some (.str t), some (.ref p), some (.ref p2), some (.str kz), some (.ref F), y5, y6, y7]) → Ex Hb H1 → Dp K H1 v (thL c z) → (∃ y5 y6 y7, σ1 = [some (.str t), some (.ref p), some (.ref p2), some (.str kz), some (.ref F), y5, y6, y7]) ∧ (∀ b o, b ≠ F → H6 b = some o → (upd H1 F (.lst (vs ++ [v]))) b = some o) ∧ ∃ vs', (upd H1 F (.lst (vs ++ [v]))) F = some (.lst vs') ∧ DpAll K (upd H1 F (.lst (vs ++ [v]))) vs' (PyData.str wd :: (thsL (TL.tl kz) zs).take (j + 1)) := fun v H1 σ1 hσ s1 hv => by
            have eF1 := s1 _ _ eFb
            have ht' : ∀ c xs, SqT K H1 c xs → SqT K (upd H1 F (.lst (vs ++ [v]))) c xs := fun c xs h => by
              rcases h with (h | ⟨o, h⟩) | h
              · exact .inl (.inl (by rw [upd_ne (ne_of h eF1 (by intro z; cases z))]; exact h))
              · exact .inl (.inr ⟨o, by rw [upd_ne (ne_of h eF1 (by intro z; cases z))]; exact h⟩)
              · exact .inr h
            have hfz : fzAll (PyData.str wd :: (thsL (TL.tl kz) zs).take j) = true := fzAll_iff.mpr fun d hd => by
              rcases List.mem_cons.mp hd with rfl | hd
              · unfold fz
                rfl
              · have hd := List.mem_of_mem_take hd
                unfold thsL at hd
                obtain ⟨x, _, rfl⟩ := List.mem_map.mp hd
                exact thL_fz _ _
            refine ⟨hσ, fun b o hb h => by rw [upd_ne hb]; exact s1 _ _ (sT _ _ (kp b o hb h)), vs ++ [v], upd_same, ?_⟩
            rw [htk]
            show DpAll K _ (vs ++ [v]) ((PyData.str wd :: (thsL (TL.tl kz) zs).take j) ++ [thL c z])
            exact (dps_fz ht' _ _ hfz (dps_same (sT.trans s1) hvs)).app (.one (dp_fz ht' _ _ (thL_fz _ _) hv))
          have eqc : ∀ n : Nat, decide (V.str (single c) = V.str (single n)) = decide (c = n) := fun n => decide_eq_decide.mpr ⟨fun e => by
            injection e with e
            have := congrArg TL.tl e
            have this : [c] = [n] := this
            injection this, fun e => by rw [e]⟩
          refine tg2 dT fun u1 u2 b1 b2 => ?_
          obtain rfl := dp_str b1
          obtain rfl := dp_str b2
          dsimp only [List.set]
          refine s_if (b := decide (c = 119)) (et_is (et_test (ev_op (ev_var rfl) ev_c (rv_eq rfl))) (eqc 119)) (fun h1 H7 e7 => ?_) fun h1 H7 e7 => ?_
          · have h1 := of_decide_eq_true h1
            have et : thL c z = (match rdP z with | some x => dW x | none => .none) := by
              unfold thL
              rw [if_pos h1]
              all_goals rfl
            refine ⟨.ref F, rfl, .inl ⟨rfl, _, .of (e7 _ _ eFb)⟩, .str z, rfl, z, rfl, hzl', fun hn H8 s8 => ⟨F, vs, _, rfl, rfl, s8 _ _ (e7 _ _ eFb), small_lt (by omega), fin .non H8 _ ⟨_, _, _, rfl⟩ (e7.trans s8) (by rw [et, hn]; exact .non)⟩, fun z1 ar pp cc h W H8 _ s8 hW => ⟨F, vs, _, rfl, rfl, s8 _ _ (e7 _ _ eFb), small_lt (by omega), fin (.ref W) H8 _ ⟨_, _, _, rfl⟩ (e7.trans s8) (by rw [et, h]; exact wr_dp hW)⟩⟩
          have h1 := of_decide_eq_false h1
          refine s_if (b := decide (c = 98)) (et_is (et_test (ev_op (ev_var rfl) ev_c (rv_eq rfl))) (eqc 98)) (fun h2 H8 e8 => ?_) fun h2 H8 e8 => ?_
          · have h2 := of_decide_eq_true h2
            have et : thL c z = (match numIn z with | some n => .int n | none => .none) := by
              unfold thL
              rw [if_neg h1, if_pos h2]
              all_goals rfl
            have eF8 := (e7.trans e8) _ _ eFb
            refine ⟨.ref F, rfl, .inl ⟨rfl, _, .of eF8⟩, .str z, rfl, z, rfl, hzl', fun hn H9 s9 => ⟨F, vs, _, rfl, rfl, s9 _ _ eF8, small_lt (by omega), fin .non H9 _ ⟨_, _, _, rfl⟩ ((e7.trans e8).trans s9) (by rw [et, hn]; exact .non)⟩, fun n h H9 s9 => ⟨F, vs, _, rfl, rfl, s9 _ _ eF8, small_lt (by omega), fin (.int n) H9 _ ⟨_, _, _, rfl⟩ ((e7.trans e8).trans s9) (by rw [et, h]; exact .int n)⟩⟩
          have h2 := of_decide_eq_false h2
          have et : thL c z = if (lawName z && (decide (c = 110) || decide (z.length = 1))) = true then .str z else .none := by
            unfold thL
            rw [if_neg h1, if_neg h2]
          refine q_asg (v := .bl (lawName z && (decide (c = 110) || decide (z.length = 1)))) (ev_andV (ev_call (ea_cons (ev_var rfl) ea_nil) fun H4 Q4 _ q4 => ⟨z, rfl, by omega, q4⟩) fun _ => ev_orV (ev_is (ev_op (ev_var rfl) ev_c (rv_eq rfl)) (congrArg V.bl (eqc 110))) fun _ => ev_is (ev_op (ev_lenS (ev_var rfl) (by omega)) ev_c (rv_eq rfl)) (congrArg V.bl (decide_eq_decide.mpr ⟨fun e => by injection e with e; omega, fun e => by rw [e]; rfl⟩))) fun H9 e9 => ?_
          dsimp only [List.set]
          have e79 := (e7.trans e8).trans e9
          have eF9 := e79 _ _ eFb
          cases hg : (lawName z && (decide (c = 110) || decide (z.length = 1))) with
          | true => exact s_app (v := .str z) eF9 (ev_var rfl) (ev_if (b := true) (et_test (ev_var rfl)) (fun _ => ev_var rfl) fun h => nomatch h) (by omega) fun H10 e10 => fin (.str z) H10 _ ⟨_, _, _, rfl⟩ (e79.trans e10) (by rw [et, hg]; exact .str z)
          | false => exact s_app (v := .non) eF9 (ev_var rfl) (ev_if (b := false) (et_test (ev_var rfl)) (fun h => nomatch h) fun _ => ev_c) (by omega) fun H10 e10 => fin .non H10 _ ⟨_, _, _, rfl⟩ (e79.trans e10) (by rw [et, hg]; exact .non)
        · obtain ⟨⟨y5, y6, y7, rfl⟩, kp, vs, eF, hvs⟩ := hP
          have hln : (thsL (TL.tl kz) zs).length = zs.length := by
            unfold thsL
            rw [List.length_map, List.length_zip]
            omega
          have htk : (thsL (TL.tl kz) zs).take (min kz.cps.size (zs.map V.str).length) = thsL (TL.tl kz) zs := List.take_of_length_le (by
            rw [hln, List.length_map]
            have : kz.cps.size = (TL.tl kz).length := kzl.symm ▸ rfl
            omega)
          rw [htk] at hvs
          have eHH : Ex H H' := fun b o hb => kp b o (fun z => by
            have := e1 _ _ hb
            rw [z, nF1] at this
            cases this) (((e04.trans e5).trans e6) b o hb)
          dsimp only
          refine sd_ret (K := K) (d := lawDeed t) (ed_if (b := (PyData.str wd :: thsL (TL.tl kz) zs).any fun z => PyData.eqv z .none) (et_test (ev_inD5 (fun H1 e Q q => q .non H1 (.refl _) .non) (ed_var rfl (.lst (.of eF) hvs)) rfl (found_shaped hwd _ _))) (fun hb => ?_) fun hb => ?_) fun v H7 e7 hv => q v H7 (eHH.trans e7) hv
          · rw [hld, if_pos hb]
            exact fun H1 e Q q => q .non H1 (.refl _) .non
          · rw [hld, if_neg (by rw [hb]; decide)]
            refine fun H1 e Q q1 => ⟨.ref F, rfl, F, _, rfl, .inl ⟨.of (e _ _ eF), fun tp ntp => q1 _ _ (Ex.new ntp) (.tup (.of upd_same) (dps_same (e.trans (Ex.new ntp)) hvs))⟩⟩
end
end Ink
namespace Ink
open PySem PySem.Spec PyProof.Rows L2 Evl
/-! ### a text, so many times: just this text -/
def timesS (z : Str) (n : Nat) : Str := ⟨(List.replicate n z.cps).foldl (· ++ ·) #[]⟩
def rMulN : R2 := fun x y H Q => ∃ (z : Str) (n : Nat), x = .str z ∧ y = .int (n : Int) ∧ 2 ≤ n ∧ n ≤ 100 ∧ 1 ≤ z.length ∧ z.length ≤ 10 ∧ Q (.str (timesS z n)) H
theorem op_mulN {X : Cx} : OpR X (binaryOp .Mult) rMulN := by
  intro pins s σ H x y v u Q I rx ry h
  obtain ⟨z, n, rfl, rfl, h1, h2, hz1, hz, q⟩ := h
  obtain ⟨t, rfl⟩ := rx
  obtain ⟨t2, rfl⟩ := ry
  have hle : z.length * n ≤ 1000 := Nat.le_trans (Nat.mul_le_mul hz h2) (by decide)
  have hz0 : z.length ≠ 0 := by omega
  refine PySem.P.mul_str (by
      rw [decide_eq_false (by omega), decide_eq_false (by omega)]
      rfl) (fun _ _ => ?_) (fun _ _ => ?_) ?_
  · have h10 : (10 : Int) ≤ (2 ^ 63 - 1) / (n : Int) := Int.le_ediv_of_mul_le (by omega) (by omega)
    omega
  · unfold PySem.Builtin.Str.tooLong
    rw [Int.toNat_natCast]
    exact decide_eq_false (Nat.not_lt.mpr (small_le (by omega)))
  · rw [if_neg (by omega), if_neg (by
      rw [Bool.or_eq_true, beq_iff_eq, beq_iff_eq]
      omega), Int.toNat_natCast]
    refine ⟨?_, ⟨.str _, H, I.tok _, ⟨_, rfl⟩, q⟩⟩
    have e : (⟨(List.replicate n z.cps).foldl (· ++ ·) #[]⟩ : Str).length = n * z.length := by
      show ((List.replicate n z.cps).foldl (· ++ ·) #[]).size = _
      rw [fold_size]
      simp
      rfl
    rw [e, Nat.mul_comm]
    exact small_le (by omega)
section
variable {K : PySem.W.Frag} {σ : L2.St} {H : Hp} {ta tb : TE}
theorem ev_mulN {z : Str} {n : Nat} (ha : Ev ta σ H (.str z)) (hb : Ev tb σ H (.int (n : Int))) (h1 : 2 ≤ n) (h2 : n ≤ 100) (h3 : 1 ≤ z.length) (h4 : z.length ≤ 10) : Ev (tOp rMulN ta tb) σ H (.str (timesS z n)) := fun H1 e Q q =>
  ha H1 e _ fun H2 e2 => hb H2 (e.trans e2) _ fun H3 e3 => ⟨z, n, rfl, rfl, h1, h2, h3, h4, q H3 (e2.trans e3)⟩
theorem ev_addS {a b : Str} (ha : Ev ta σ H (.str a)) (hb : Ev tb σ H (.str b)) (hz : a.length + b.length ≤ 100000) : Ev (tOp (fun x y H Q => ∃ i j, x = .str i ∧ y = .str j ∧ i.length + j.length ≤ sizeLine ∧ Q (.str (i ++ j)) H) ta tb) σ H (.str (a ++ b)) := fun H1 e Q q =>
  ha H1 e _ fun H2 e2 => hb H2 (e.trans e2) _ fun H3 e3 => ⟨a, b, rfl, rfl, small_le (by omega), q H3 (e2.trans e3)⟩
end
theorem sevens_is : timesS "7" 30 = sevens 30 ∧ timesS "7" 31 = sevens 31 := by decide +kernel
theorem deed_len52 {d : Deed} (h : DeedOk d) : (txDeed d).length ≤ 140 := by
  have hl := h.len
  have h1 : ((d.1 :: d.2.map txTh).map (·.length)).sum ≤ 130 := by
    obtain ⟨ks, h1, h2⟩ := h
    have h3 : d.1.length ≤ 10 := (forms_len _ h1).1
    have h4 : ∀ x ∈ d.2, (txTh x).length ≤ 60 := fun x hx => by
      obtain ⟨k, _, r⟩ := paired_mem h2 x hx
      exact th_len r
    have two : ∀ l : List Th, l.length ≤ 2 → (∀ x ∈ l, (txTh x).length ≤ 60) → ((l.map txTh).map (·.length)).sum ≤ 120 := fun l hl hx => by
      match l, hl, hx with
      | [], _, _ => exact Nat.zero_le _
      | [a], _, hx =>
        have := hx a (List.mem_cons_self ..)
        show (txTh a).length + 0 ≤ 120
        omega
      | [a, b], _, hx =>
        have := hx a (List.mem_cons_self ..)
        have := hx b (List.mem_cons_of_mem _ (List.mem_cons_self ..))
        show (txTh a).length + ((txTh b).length + 0) ≤ 120
        omega
    have := two d.2 hl h4
    rw [List.map_cons, List.sum_cons]
    omega
  unfold txDeed
  rw [TL.join_eq, TL.len_tl, TL.tl_join]
  refine Nat.le_trans (joinL_le _ _) ?_
  have e : ∀ l : List Str, ((l.map TL.tl).map fun p => p.length + (TL.tl blank).length).sum = (l.map (·.length)).sum + l.length := fun l => by
    rw [tl_blank]
    induction l with
    | nil => rfl
    | cons x r ih =>
      simp only [List.map_cons, List.sum_cons, List.length_cons] at ih ⊢
      rw [ih, TL.len_tl x]
      simp only [List.length_nil]
      omega
  rw [e, List.length_cons, List.length_map]
  omega
end Ink
namespace Ink
open PySem PySem.Spec PyProof.Rows L2 Evl
def signs52 : List Str := [" ", "0", "-", "a", "A", "/", "1", ";", "\n"]
theorem fld_bad52 : FieldIs "BadText" [("at", V.int 0), ("word", .str "BadText")] (.int 0) := by
  unfold FieldIs
  rw [show fieldN "BadText" = some "at" from by decide +kernel]
  rfl
theorem ok_flat52 {a b : PyData} {n : Nat} (h1 : okD (n + 1) a) (h2 : okD (n + 1) b) : okD (n + 2) (.tuple [a, b]) := ⟨by show 2 ≤ 1000; decide, fun d hd => by
  simp only [List.mem_cons, List.not_mem_nil, or_false] at hd
  rcases hd with rfl | rfl
  · exact h1
  · exact h2⟩
theorem ok_dW52 {z : Str} {ar : List Arw} {p c : Int} (h : ar.length ≤ 1000) : okD 4 (dW (z, ar, p, c)) := ⟨by show 4 ≤ 1000; decide, fun d hd => by
  simp only [List.mem_cons, List.not_mem_nil, or_false] at hd
  rcases hd with rfl | rfl | rfl | rfl
  · exact True.intro
  · exact ⟨by rw [List.length_map]; exact h, fun d hd => by
      obtain ⟨x, _, rfl⟩ := List.mem_map.mp hd
      exact ⟨by show 3 ≤ 1000; decide, fun d hd => by
        simp only [List.mem_cons, List.not_mem_nil, or_false] at hd
        rcases hd with rfl | rfl | rfl <;> exact True.intro⟩⟩
  · exact True.intro
  · exact True.intro⟩
theorem rd_len52 {t z : Str} {ar : List Arw} {p c : Int} (h : rdP t = some (z, ar, p, c)) : ar.length ≤ t.length + 1 := by
  unfold rdP at h
  split at h
  · rename_i a b c' d e
    unfold rd4 at h
    split at h
    · injection h with h
      injection h with _ h
      injection h with h _
      rw [← h, List.length_map]
      have h1 := (words_small (q := b)).2
      have h2 := (slash_small t).1 b (by rw [e]; simp)
      omega
    · cases h
  · cases h
theorem ok_thL (c : Nat) {z : Str} (hz : z.length ≤ 900) : okD 4 (thL c z) := by
  have hn : okD 4 .none := True.intro
  unfold thL
  split
  · split
    · rename_i x e
      obtain ⟨n, ar, p, c⟩ := x
      have := rd_len52 e
      exact ok_dW52 (by omega)
    · exact hn
  · split
    · split
      · exact True.intro
      · exact hn
    · split
      · exact True.intro
      · exact hn
/-- what the law finds can be compared -/
theorem ok_lawDeed {t : Str} (ht : t.length ≤ 900) : okD 5 (lawDeed t) := by
  have hn : okD 5 .none := True.intro
  have sm := blank_small t
  unfold lawDeed
  split
  · rename_i wd zs e
    rw [e] at sm
    split
    · split
      · split
        · exact hn
        · have hl : (thsL (TL.tl ‹Str›) zs).length ≤ 901 := by
            unfold thsL
            rw [List.length_map, List.length_zip]
            have := sm.2
            rw [List.length_cons] at this
            omega
          refine ⟨by rw [List.length_cons]; omega, fun d hd => ?_⟩
          rcases List.mem_cons.mp hd with rfl | hd
          · exact True.intro
          · unfold thsL at hd
            obtain ⟨x, hx, rfl⟩ := List.mem_map.mp hd
            have hz := (List.of_mem_zip (a := x.1) (b := x.2) hx).2
            exact ok_thL _ (Nat.le_trans (sm.1 _ (List.mem_cons_of_mem _ hz)) ht)
      · exact hn
    · exact hn
  · exact hn
theorem fz_lawDeed (t : Str) : fz (lawDeed t) = true := by
  have hn : fz PyData.none = true := by unfold fz; rfl
  unfold lawDeed
  split
  · split
    · split
      · split
        · exact hn
        · unfold fz
          refine fzAll_iff.mpr fun d hd => ?_
          rcases List.mem_cons.mp hd with rfl | hd
          · unfold fz
            rfl
          · unfold thsL at hd
            obtain ⟨x, _, rfl⟩ := List.mem_map.mp hd
            exact thL_fz _ _
      · exact hn
    · exact hn
  · exact hn
def due52 : Option Deed → PyData
  | none => .tuple [.none, .str "BadText", .int 0]
  | some x => .tuple [dDeed x, .str "", .none]
theorem el_catE {K : PySem.W.Frag} {σ : L2.St} {H : Hp} {ta tb : TE} {p : Addr} {xs ys : List V} (ha : Ev ta σ H (.ref p)) (hp : H p = some (.lst xs)) (hb : EvL tb σ H ys) (hz : xs.length + ys.length ≤ 100000) : EvL (tOp rCat ta tb) σ H (xs ++ ys) := fun H1 e Q q =>
  ha H1 e _ fun H2 e2 => hb H2 (e.trans e2) _ fun p2 H3 np e3 ep => ⟨p, p2, _, _, rfl, rfl, e3 _ _ (e2 _ _ (e _ _ hp)), ep, sz_of (by omega), fun p3 np3 => q p3 _ (fresh_back (e2.trans e3) np3) ((e2.trans e3).trans (Ex.new np3)) upd_same⟩
section
variable {P : Program} {w : World} {K : PySem.W.Frag} {mg : Str → Option Value} {base : Heap}
theorem ok_law52 {f g1 g2 CB cI cM cL c0 P0 : Addr} {fd1 fd2 : FuncData} {k : Nat} {kV doc pm ct oc : Value} {an od : Option Addr} {osl : Array (Option Value)}
    (lk : K.lookup f = some ⟨oc, od, .func (PySem.W.fnOf "law" "law" (defArgs sLaw) (defBody sLaw) (defScope sLaw) .none kV doc pm an (.ref c0) ct), osl⟩) (hcd : PySem.W.codeIn K (.ref c0) "law" = true) (TB : LamX.TabB base mg c0 P0) (T : Txt mg)
    (C_read_deed : CalN P w K mg base k "read_deed" ["text"] (spDeedX K CB)) (C_read_deed3 : CalN P w K mg base (k + 3) "read_deed" ["text"] (spDeedX K CB))
    (F_tried : Fun K "_law_tried" "_law_tried" sLTried g1 fd1) (m_tried : mg "_law_tried" = some (.ref g1)) (k_tried : PySem.W.keepIn K (.ref g1) = true) (b_tried : Binds K fd1 ["_law_ask"] [])
    (F_refused : Fun K "_law_refused" "_law_refused" sLRefused g2 fd2) (m_refused : mg "_law_refused" = some (.ref g2)) (k_refused : PySem.W.keepIn K (.ref g2) = true) (b_refused : Binds K fd2 ["_law_ask"] [])
    (h_tried : ∀ q, L2N.AskedBy P w K mg base (k + 1) (k + 1) ["_law_ask", "_law_told", "_law_word", "_law_field_here", "_law_e"] "_law_tried" (defScope sLTried) (defBody sLTried) q (ttTried K cI cM cL))
    (h_refused : ∀ q, L2N.AskedBy P w K mg base (k + 1) (k + 2) ["_law_ask"] "_law_refused" (defScope sLRefused) (defBody sLRefused) q (ttRefused K cI cM cL))
    (hX : PySem.W.exmAny K (.ref CB) [.ref cI, .ref cM, .ref cL] = some true) (hF : FldC K CB)
    (C__law_bag : Cal P w K mg base (k + 3) "_law_bag" ["_law_script"] (spBag K)) (C__law_pull : Cal P w K mg base (k + 3) "_law_pull" ["_law_bag_here", "_law_many"] spPull)
    (C__law_names : Cal P w K mg base (k + 3) "_law_names" ["_law_bag_here", "_law_many"] spNames) (C__law_signs : Cal P w K mg base (k + 3) "_law_signs" ["_law_bag_here", "_law_limit"] spSigns)
    (C__law_of : Cal P w K mg base (k + 3) "_law_of" ["_law_bag_here", "_law_things"] (spOf K)) (C__law_every_deed : Cal P w K mg base (k + 3) "_law_every_deed" ["_law_bag_here", "_law_pool", "_law_letters_here"] (spEvery K))
    (C__law_deed_text : Cal P w K mg base (k + 3) "_law_deed_text" ["_law_deed"] (spP K RDT)) (C__law_bent_text : Cal P w K mg base (k + 3) "_law_bent_text" ["_law_bag_here", "_law_text", "_law_signs_here"] (spBent K))
    (C__law_deed_in : Cal P w K mg base (k + 3) "_law_deed_in" ["_law_text"] (spDeedL K)) (C__law_like : Cal P w K mg base (k + 3) "_law_like" ["_law_found", "_law_due"] (spLike K 6)) :
    FnOk P w K mg base CX0 (k + 4) f (PySem.W.fnOf "law" "law" (defArgs sLaw) (defBody sLaw) (defScope sLaw) .none kV doc pm an (.ref c0) ct) ["_law_script"] (spLaw K P0) := by
  refine fn_of lk hcd sc_law (fun vs H Q E h => ?_) (fun A outer s H vs Q E hr h => ?_)
  · obtain ⟨c, ns, rfl, _⟩ := h
    rfl
  · obtain ⟨c, ns, rfl, hS, hlen, hT, q⟩ := h
    suffices key : ∃ t, PSs (cxOf CX0 P w K mg base ["_law_script", "_law_bag_here", "_law_turn", "_law_text", "_law_bend", "_law_due", "_law_found", "_law_odd"] "law" (defScope sLaw) f (.ref c0) A outer s H E).nox (defBody sLaw) t ∧ t { nx := fun _ H' => Q .non H', rt := Q } (start ["_law_script", "_law_bag_here", "_law_turn", "_law_text", "_law_bend", "_law_due", "_law_found", "_law_odd"] [.ref c]) H by
      obtain ⟨t, h1, h2⟩ := key
      exact ⟨t, h1.nox, h2⟩
    refine ⟨_, (pss_cons (ps_set (i := 1) sc_law.nd rfl (.inl rfl) (pe_callC C__law_bag hr (by rfl) (pa_cons (pv 0) pa_nil)))
    (pss_cons (ps_for PassesOwn.never rfl (pi_range1 (by rfl) T.m_range (pa_cons pe_int pa_nil)) (pg_name (i := 2) sc_law.nd rfl (.inl rfl))
    (pss_cons (ps_set (i := 3) sc_law.nd rfl (.inr rfl) (pe_callC C__law_deed_text hr (by rfl) (pa_cons (pe_callC C__law_of hr (by rfl) (pa_cons (pv 1) (pa_cons (pe_callC C__law_every_deed hr (by rfl) (pa_cons (pv 1) (pa_cons (pe_callC C__law_names hr (by rfl) (pa_cons (pv 1) (pa_cons pe_int pa_nil))) (pa_cons (pe_callC C__law_signs hr (by rfl) (pa_cons (pv 1) (pa_cons pe_int pa_nil))) pa_nil)))) pa_nil))) pa_nil)))
    (pss_cons (ps_for PassesOwn.never rfl (pi_range1 (by rfl) T.m_range (pa_cons (pe_op op_add pe_int (pe_callC C__law_pull hr (by rfl) (pa_cons (pv 1) (pa_cons pe_int pa_nil)))) pa_nil)) (pg_name (i := 4) sc_law.nd rfl (.inl rfl))
    (pss_one (ps_set (i := 3) sc_law.nd rfl (.inr rfl) (pe_callC C__law_bent_text hr (by rfl) (pa_cons (pv 1) (pa_cons (pv 3) (pa_cons (pe_lst (pa_cons pe_str (pa_cons pe_str (pa_cons pe_str (pa_cons pe_str (pa_cons pe_str (pa_cons pe_str (pa_cons pe_str (pa_cons pe_str (pa_cons pe_str pa_nil)))))))))) pa_nil)))))))
    (pss_cons (ps_set (i := 5) sc_law.nd rfl (.inl rfl) (pe_callC C__law_deed_in hr (by rfl) (pa_cons (pv 3) pa_nil)))
    (pss_cons (ps_set (i := 6) sc_law.nd rfl (.inl rfl) (L2N.pe_asks (T := [(P0, lawQ)]) F_tried sc__law_tried (by rfl) m_tried k_tried b_tried (h_tried _) TB rfl (List.mem_singleton.mpr rfl) (fun p hp _ => by rw [List.mem_singleton.mp hp]; rfl) (hr.mono (by omega)) (show LamX.LamS (defScope sLaw) _ from LamX.lamS_by (by decide +kernel)) rfl (fun _ _ _ _ _ => rfl) (t := fun E => tCall (spDeedX K CB) [] E (tCons (tVar 3) tNil)) (fun A2 o2 s2 H2 E2 f2 c2 hr2 => pe_lamC C_read_deed hr2 (by rfl) (pa_cons (pv 3) pa_nil))))
    (pss_one (ps_if (pt_not (pt_val (pe_callC C__law_like hr (by rfl) (pa_cons (pv 6) (pa_cons (pe_ifExp (pt_cmpR op_notN (pv 5) pe_non (nomark _)) (pe_tup (pa_cons (pv 5) (pa_cons pe_str (pa_cons pe_non pa_nil)))) (pe_tup (pa_cons pe_non (pa_cons pe_str (pa_cons pe_int pa_nil))))) pa_nil)))))
    (pss_one (ps_ret pe_bl)) pss_nil)))))))
    (pss_cons (ps_set (i := 7) sc_law.nd rfl (.inl rfl) (pe_lst (pa_cons pe_str (pa_cons pe_str (pa_cons pe_str (pa_cons pe_str (pa_cons pe_str (pa_cons pe_str (pa_cons pe_str (pa_cons pe_str (pa_cons pe_str (pa_cons pe_str (pa_cons pe_str pa_nil)))))))))))))
    (pss_cons (ps_set (i := 7) sc_law.nd rfl (.inl rfl) (pe_op op_cat (pv 7) (pe_lst (pa_cons pe_str (pa_cons pe_str (pa_cons pe_str (pa_cons pe_str (pa_cons pe_str (pa_cons pe_str (pa_cons pe_str (pa_cons pe_str (pa_cons pe_str pa_nil))))))))))))
    (pss_cons (ps_set (i := 7) sc_law.nd rfl (.inl rfl) (pe_op op_cat (pv 7) (pe_lst (pa_cons pe_str (pa_cons pe_str (pa_cons pe_str (pa_cons pe_str (pa_cons (pe_op op_add_str pe_str (pe_op op_mulN pe_str pe_int)) (pa_cons pe_str (pa_cons pe_str pa_nil))))))))))
    (pss_cons (ps_if (pt_not (pt_val (pe_callC C__law_like hr (by rfl) (pa_cons (pe_callCN C_read_deed3 hr passN0 (by rfl) (pa_cons (pe_op op_add_str pe_str (pe_op op_mulN pe_str pe_int)) pa_nil)) (pa_cons (pe_tup (pa_cons pe_str (pa_cons (pe_callTy call_int_str (by rfl) T.m_int (by decide +kernel) (pa_cons (pe_op op_mulN pe_str pe_int) pa_nil)) pa_nil))) pa_nil)))))
    (pss_one (ps_ret pe_bl)) pss_nil)
    (pss_one (ps_ret (pe_callB (cr_all rfl) (by rfl) T.m_all (by decide +kernel) (pa_cons (pe_lc (own := [("_law_text", 3)]) (g := (gName 3)) (by rfl) sc_law.nd (pi_list (pv 7)) (blkOk_by (own := [("_law_text", 3)]) (N := ["_law_script", "_law_bag_here", "_law_turn", "_law_text", "_law_bend", "_law_due", "_law_found", "_law_odd"]) (sc := defScope sLaw) (by decide +kernel)) (fun _ _ _ _ _ => (pg_name (i := 3) sc_law.nd rfl (Or.inr rfl))) (fun _ _ _ _ _ => pts_nil) (fun _ _ _ _ _ => (pe_callC C__law_like hr (by rfl) (pa_cons (L2N.pe_asks (T := [(P0, lawQ)]) F_refused sc__law_refused (by rfl) m_refused k_refused b_refused (h_refused _) TB rfl (List.mem_singleton.mpr rfl) (fun p hp _ => by rw [List.mem_singleton.mp hp]; rfl) (hr.mono (by omega)) (lamS_blk (LamX.lamS_by (by decide +kernel))) rfl (fun _ _ _ _ _ => rfl) (t := fun E => tCall (spDeedX K CB) [] E (tCons (tVar 3) tNil)) (fun A2 o2 s2 H2 E2 f2 c2 hr2 => pe_lamC C_read_deed hr2 (by rfl) (pa_cons (pv 3) pa_nil))) (pa_cons (pe_tup (pa_cons pe_str (pa_cons pe_int pa_nil))) pa_nil))))) pa_nil)))))))))), ?_⟩
    refine ⟨.ref c, rfl, c, ns, rfl, hS, hlen, fun a l H1 na hB1 s1 => ?_⟩
    have hT1 := hT.ext s1
    refine ⟨5, rfl, by decide, by decide, for_it walk_range0 (fun i σ' H' => (∃ y2 y3 y4 y5 y6 y7, σ' = [some (.ref c), some (.ref a), y2, y3, y4, y5, y6, y7]) ∧ BagAt H' a l ∧ LamX.Tabs [(P0, lawQ)] H') ⟨⟨none, none, none, none, none, none, rfl⟩, hB1, hT1⟩ (fun _ _ _ _ _ => True.intro) (fun i y σ' Ha Hb hi hP hy => ?_) (fun σ' H' hP => ?_)⟩
    · obtain ⟨⟨y2, y3, y4, y5, y6, y7, rfl⟩, hB2, hT2⟩ := hP
      obtain ⟨rfl, rfl⟩ := hy
      -- a drawn deed
      refine ⟨.ref a, rfl, .ref a, rfl, .ref a, rfl, a, l, 3, rfl, hB2, by decide, by decide, fun pp zs H3 npp hzl hzn _ epp hB3 k3 => ⟨.ref a, rfl, a, l, 2, rfl, hB3, by decide, by decide, fun sp cs H4 nsp hc1 hc2 hcs hrise esp hB4 k4 => ?_⟩⟩
      have hT3 := tabs_keep hB2 k3 hT2
      have hT4 := tabs_keep hB3 k4 hT3
      have npa := (hB2.ne npp).1.symm
      have nsa := (hB3.ne nsp).1.symm
      have epp4 := k4 _ _ npa epp
      have hzl3 : zs.length = 3 := hzl
      refine ⟨a, l, pp, sp, zs, cs, rfl, hB4, epp4, npa, by omega, by omega, hzn, esp, nsa, hc1, by omega, hcs, hrise, fun fp ws ds H5 hok hdl hd0 hfp hws nfa hB5 k5 => ?_⟩
      have hT5 := tabs_keep hB4 k5 hT4
      have hwl := hws.length
      rw [List.length_map] at hwl
      refine ⟨a, l, .ref fp, ws, rfl, hB5, .inl ⟨fp, rfl, nfa, .inl (.of hfp)⟩, by omega, by omega, fun dv H6 hdv hB6 k6 => ?_⟩
      have hT6 := tabs_keep hB5 k6 hT5
      obtain ⟨j, hj⟩ := List.getElem?_of_mem hdv
      obtain ⟨d0, hd0', hdx⟩ := hws.at hj
      rw [List.getElem?_map] at hd0'
      cases hdj : ds[j]? with
      | none =>
        rw [hdj] at hd0'
        cases hd0'
      | some x =>
      rw [hdj] at hd0'
      obtain rfl := Option.some.inj hd0'
      have okx := hok x (List.mem_of_getElem? hdj)
      have hdx6 := dp_keep hB5 k6 (fz_dDeed x) hdx
      refine ⟨[dDeed x], .str (txDeed x), .one hdx6, ⟨x, rfl, okx, rfl⟩, fun tv H7 s7 htv => ?_⟩
      obtain rfl := dp_str htv
      have hl0 := deed_len52 okx
      -- bent
      refine g_go ?_
      dsimp only [List.set]
      refine ⟨.ref a, rfl, a, l, 2, rfl, hB6.same s7, by decide, by decide, fun r2 H8 r20 r21 hB8 k8 => ⟨1, r2, rfl, rfl, ?_⟩⟩
      have hT8 := tabs_keep (hB6.same s7) k8 (hT6.ext s7)
      refine ⟨1 + r2, rfl, by omega, by omega, for_it walk_range0 (fun j σ' H' => (∃ y4 t, σ' = [some (.ref c), some (.ref a), some (.int (i : Int)), some (.str t), y4, y5, y6, y7] ∧ t.length ≤ (if j = 0 then 140 else if j = 1 then 382 else 900)) ∧ BagAt H' a l ∧ LamX.Tabs [(P0, lawQ)] H') ⟨⟨y4, _, rfl, hl0⟩, hB8, hT8⟩ (fun _ _ _ _ _ => True.intro) (fun j y σ' Hc Hd hj hP hy => ?_) (fun σ' H' hP => ?_)⟩
      · obtain ⟨⟨y4, t, rfl, ht⟩, hBc, hTc⟩ := hP
        obtain ⟨rfl, rfl⟩ := hy
        have hj2 : j < 2 := by omega
        have ht8 : t.length ≤ 382 := by
          split at ht
          · omega
          · split at ht <;> omega
        refine ⟨.ref a, rfl, .str t, rfl, by show 9 ≤ sizeLine; decide, fun pp npp => ?_⟩
        have sp1 := same_new (o := .lst (signs52.map V.str)) npp
        refine ⟨a, l, pp, t, signs52, rfl, hBc.same sp1, upd_same, (hBc.ne npp).1.symm, by decide, by decide, by decide +kernel, by omega, fun r' He hr' hBe ke => ?_⟩
        refine ⟨⟨_, r', rfl, ?_⟩, hBe, tabs_keep (hBc.same sp1) ke (hTc.ext sp1)⟩
        split at ht
        · rw [if_neg (by omega), if_pos (by omega)]
          omega
        · rw [if_neg (by omega), if_neg (by omega)]
          omega
      · obtain ⟨⟨y4, t, rfl, ht⟩, hBc, hTc⟩ := hP
        have ht9 : t.length ≤ 900 := by
          split at ht
          · omega
          · split at ht <;> omega
        clear hB8 hT8 hT6 hT5 hT4 hT3 hB6 hB5 hB4 hB3
        -- both tell alike
        refine ⟨.str t, rfl, t, rfl, ht9, fun dv1 H9 s9 hdv1 => ?_⟩
        have hokL := ok_lawDeed ht9
        have hfzL := fz_lawDeed t
        cases hd : deedIn t with
        | none =>
          have hLd : lawDeed t = .none := by
            rw [lawDeed_is, hd]
          rw [hLd] at hdv1
          obtain rfl : dv1 = .non := by cases hdv1; rfl
          refine ⟨hTc.ext s9, fun H10 e10 T10 => ?_⟩
          intro H11 E2 Q2 s11 hE hQ
          refine ⟨.str t, rfl, t, rfl, ht9, fun x' h => absurd (hd.symm.trans h) (fun z => nomatch z), fun _ d H12 nd s12 ed => hE _ _ _ ?_⟩
          refine ⟨CB, d, "BadText", .int 0, rfl, rfl, hX, ⟨hF, _, ed, rfl, fld_bad52⟩, fun p2 H13 s13 np2 => ?_⟩
          have hB13 := (((bag_ext e10 (hBc.same s9)).same s11).same s12).same s13
          have hT13 := ((T10.ext s11).ext s12).ext s13
          have s14 := same_new (o := .tup [V.non, .str "BadText", .int 0]) np2
          have d1 : Dp K (upd H13 p2 (.tup [V.non, .str "BadText", .int 0])) (.ref p2) (due52 none) := .tup (.of upd_same) (.cons .non (.cons (.str _) (.cons (.int _) .nil)))
          generalize upd H13 p2 (.tup [V.non, .str "BadText", .int 0]) = H14 at s14 d1
          refine g_go ?_
          dsimp only
          refine s_if (b := false) (et_is (et_not (et_B (ev_like (n := 6) (d := due52 none) (ed_var rfl d1) (ed_if (b := false) (et_test (fun H1 e Q q => ⟨.non, rfl, rfl, q H1 (.refl _)⟩)) (fun h => nomatch h) fun _ => ed_tup (eds_cons (ed_non ev_c) (eds_cons (ed_str ev_c) (eds_cons (ed_int ev_c) eds_nil))) (by show 3 ≤ 100000; decide)) ⟨by show 3 ≤ 1000; decide, fun d hd => ?_⟩))) rfl) (fun h => nomatch h) fun _ H15 s15 => ?_
          · simp only [List.mem_cons, List.not_mem_nil, or_false] at hd
            rcases hd with rfl | rfl | rfl <;> exact True.intro
          · exact ⟨⟨_, _, _, _, _, _, rfl⟩, (hB13.same s14).same s15, (hT13.ext s14).ext s15⟩
        | some x1 =>
          have hLd : lawDeed t = dDeed x1 := by
            rw [lawDeed_is, hd]
          rw [hLd] at hdv1 hokL hfzL
          have hne : dv1 ≠ .non := fun z => by
            rw [z] at hdv1
            unfold dDeed at hdv1
            cases hdv1
          refine ⟨hTc.ext s9, fun H10 e10 T10 => ?_⟩
          intro H11 E2 Q2 s11 hE hQ
          refine ⟨.str t, rfl, t, rfl, ht9, fun x' h' v2 H12 s12 hv2 => hQ _ _ fun p2 np2 => ?_, fun h' => absurd (hd.symm.trans h') (fun z => nomatch z)⟩
          obtain rfl : x1 = x' := by
            have := hd.symm.trans h'
            injection this
          have hB12 := ((bag_ext e10 (hBc.same s9)).same s11).same s12
          have hT12 := (T10.ext s11).ext s12
          have d12 := dp_tk ((tk_ext e10).trans (.of (s11.trans s12))) hfzL hdv1
          have s14 := same_new (o := .tup [v2, .str "", .non]) np2
          have d1 : Dp K (upd H12 p2 (.tup [v2, .str "", .non])) (.ref p2) (due52 (some x1)) := .tup (.of upd_same) (.cons (dp_same s14 hv2) (.cons (.str _) (.cons .non .nil)))
          have d2 := dp_same s14 d12
          generalize upd H12 p2 (.tup [v2, .str "", .non]) = H14 at s14 d1 d2
          refine g_go ?_
          dsimp only
          refine s_if (b := false) (et_is (et_not (et_B (ev_like (n := 6) (d := due52 (some x1)) (ed_var rfl d1) (ed_if (b := true) (et_is (et_test (fun H1 e Q q => ⟨dv1, rfl, rfl, q H1 (.refl _)⟩)) ?_) (fun _ => ed_tup (eds_cons (ed_var rfl d2) (eds_cons (ed_str ev_c) (eds_cons (ed_non ev_c) eds_nil))) (by show 3 ≤ 100000; decide)) fun h => nomatch h) ⟨by show 3 ≤ 1000; decide, fun d hd => ?_⟩))) rfl) (fun h => nomatch h) fun _ H15 s15 => ?_
          · rw [decide_eq_false hne]
            rfl
          · simp only [List.mem_cons, List.not_mem_nil, or_false] at hd
            rcases hd with rfl | rfl | rfl
            · exact hokL
            · exact True.intro
            · exact True.intro
          · exact ⟨⟨_, _, _, _, _, _, rfl⟩, (hB12.same s14).same s15, (hT12.ext s14).ext s15⟩
    · obtain ⟨⟨y2, y3, y4, y5, y6, y7, rfl⟩, hB2, hT2⟩ := hP
      refine q_asgL (el_lst (ea_cons ev_c (ea_cons ev_c (ea_cons ev_c (ea_cons ev_c (ea_cons ev_c (ea_cons ev_c (ea_cons ev_c (ea_cons ev_c (ea_cons ev_c (ea_cons ev_c (ea_cons ev_c ea_nil))))))))))) (by decide)) fun D1 H3 nD1 s3 e3 => ?_
      refine q_asgL (el_catE (K := K) (ev_var rfl) e3 (el_lst (ea_cons ev_c (ea_cons ev_c (ea_cons ev_c (ea_cons ev_c (ea_cons ev_c (ea_cons ev_c (ea_cons ev_c (ea_cons ev_c (ea_cons ev_c ea_nil))))))))) (by decide)) (by decide)) fun D2 H4 nD2 s4 e4 => ?_
      refine q_asgL (el_catE (K := K) (ev_var rfl) e4 (el_lst (ea_cons ev_c (ea_cons ev_c (ea_cons ev_c (ea_cons ev_c (ea_cons (ev_addS ev_c (ev_mulN (z := "7") (n := 31) ev_c ev_c (by decide) (by decide) (by decide +kernel) (by decide +kernel)) (by decide +kernel)) (ea_cons ev_c (ea_cons ev_c ea_nil))))))) (by decide)) (by decide)) fun D3 H5 nD3 s5 e5 => ?_
      rw [sevens_is.2] at e5
      have e5 : H5 D3 = some (.lst (odd52.map V.str)) := e5
      have hT5 := ((hT2.ext s3).ext s4).ext s5
      -- thirty figures
      obtain ⟨n7, hd7, hn7⟩ : ∃ n, deedIn (Str.ofString "watch " ++ sevens 30) = some (Str.ofString "watch", [.n n]) ∧ PySem.intText? (sevens 30) = some n := by
        have h := far52_thirty
        split at h
        · rename_i wd n e
          obtain ⟨rfl, h2⟩ := of_decide_eq_true h
          exact ⟨n, e, h2⟩
        · cases h
      have m7 : ∀ {σ : L2.St} {H : Hp}, Ev (tOp rMulN (tC (V.str (Str.ofString "7"))) (tC (V.int 30))) σ H (.str (sevens 30)) := fun {σ H} => by
        rw [← sevens_is.1]
        exact ev_mulN (z := "7") (n := 30) ev_c ev_c (by decide) (by decide) (by decide +kernel) (by decide +kernel)
      refine q_when (b := false) (et_is (et_not (et_B (ev_like (n := 6) (d := .tuple [.str (Str.ofString "watch"), .int n7]) (fun H1 e Q q => (ea_cons (ev_addS (a := Str.ofString "watch ") ev_c m7 (by decide +kernel)) ea_nil) H1 e _ fun H2 e2 => ⟨Str.ofString "watch " ++ sevens 30, rfl, by decide +kernel, fun x hx v H' s' hv => q v H' (e2.trans s') ?_, fun hn => absurd (hd7.symm.trans hn) (fun z => nomatch z)⟩) (ed_tup (eds_cons (ed_str ev_c) (eds_cons (ed_int (ev_intS m7 hn7 (by decide +kernel))) eds_nil)) (by show 2 ≤ 100000; decide)) (ok_flat52 (n := 4) True.intro True.intro)))) rfl) (fun h => nomatch h) fun _ H6' s6' => ?_
      · obtain rfl : (Str.ofString "watch", [Th.n n7]) = x := by
          have := hd7.symm.trans hx
          injection this
        exact hv
      have e5 := s6' _ _ e5
      have hT5 := hT5.ext s6'
      refine ⟨.ref D3, rfl, D3, rfl, ⟨_, .of e5⟩, fun D nD => ?_⟩
      refine lc_it (walk_list (xs := odd52.map V.str)) (fun i H' => H' D3 = some (.lst (odd52.map V.str)) ∧ LamX.Tabs [(P0, lawQ)] H' ∧ H' D = some (.lst ((List.replicate i true).map V.bl))) ⟨same_new nD _ _ e5, hT5.ext (same_new nD), upd_same⟩ (fun i H' _ hP => .of hP.1) (fun i v H6 H7 hi hP hy => ?_) (fun H6 hP => ?_)
      · obtain ⟨e6, hT6, eD6⟩ := hP
        obtain ⟨rfl, hv⟩ := hy
        rw [List.getElem?_map] at hv
        cases ho : odd52[i]? with
        | none =>
          rw [ho] at hv
          cases hv
        | some t =>
          rw [ho] at hv
          have hv := Option.some.inj hv
          subst hv
          have hd := Option.isNone_iff_eq_none.mp (odd52_none t (List.mem_of_getElem? ho))
          have htl := odd52_small t (List.mem_of_getElem? ho)
          refine ⟨rfl, yes_of (iteT ?_)⟩
          refine ⟨hT6, fun H10 e10 T10 => ?_⟩
          intro H11 E2 Q2 s11 hE hQ
          refine ⟨.str t, rfl, t, rfl, htl, fun x h => absurd (hd.symm.trans h) (fun z => nomatch z), fun _ d H12 nd s12 ed => hE _ _ _ ?_⟩
          refine ⟨CB, d, "BadText", .int 0, rfl, rfl, hX, ⟨hF, _, ed, rfl, fld_bad52⟩, fun p2 H13 s13 np2 => ⟨p2, _, _, _, rfl, upd_same, fun p3 np3 => ?_⟩⟩
          have s14 := ((s11.trans s12).trans (s13.trans (same_new np2))).trans (same_new (o := .tup [V.str "BadText", V.int 0]) np3)
          have hp3 : (upd (upd H13 p2 (.tup [V.non, V.str "BadText", V.int 0])) p3 (.tup [V.str "BadText", V.int 0])) p3 = some (.tup [V.str "BadText", V.int 0]) := upd_same
          generalize upd (upd H13 p2 (.tup [V.non, V.str "BadText", V.int 0])) p3 (.tup [V.str "BadText", V.int 0]) = H14 at s14 hp3
          refine ⟨by show 2 ≤ sizeLine; decide, fun t2 nt2 => ?_⟩
          have s15 := same_new (o := .tup [V.str "BadText", V.int 0]) nt2
          have d1 : Dp K H14 (.ref p3) (.tuple [.str "BadText", .int 0]) := .tup (.of hp3) (.cons (.str _) (.cons (.int _) .nil))
          have d2 : Dp K (upd H14 t2 (.tup [V.str "BadText", V.int 0])) (.ref t2) (.tuple [.str "BadText", .int 0]) := .tup (.of upd_same) (.cons (.str _) (.cons (.int _) .nil))
          refine ⟨.ref p3, .ref t2, rfl, lk_dp 6 (.tuple [.str "BadText", .int 0]) _ _ (ok_flat52 (n := 4) True.intro True.intro) (dp_same s15 d1) d2, fun H16 s16 => ?_⟩
          have sA := (s14.trans s15).trans s16
          have eD16 := sA _ _ (e10 _ _ eD6 (fun _ z => by cases z))
          refine ⟨_, eD16, small_lt (by rw [List.length_map, List.length_replicate]; rw [List.length_map] at hi; have : odd52.length = 27 := rfl; omega), ?_⟩
          have nDD : D3 ≠ D := ne_of_none e5 nD
          refine ⟨by rw [upd_ne nDD]; exact sA _ _ (e10 _ _ e6 (fun _ z => by cases z)), ?_, ?_⟩
          · have TT := T10.ext sA
            intro p hp
            obtain ⟨ps, h1, h2, h3⟩ := TT p hp
            have nT : ∀ {b : Addr} {o : HO}, H16 b = some o → (∀ xs, o ≠ .lst xs) → b ≠ D := fun {b o} hb hn z => by
              rw [z, eD16] at hb
              exact hn _ (Option.some.inj hb).symm
            refine ⟨ps, by rw [upd_ne (nT h1 (fun _ z => by cases z))]; exact h1, h2, fun pos cv hc => ?_⟩
            obtain ⟨cc, g1, g2⟩ := h3 pos cv hc
            exact ⟨cc, g1, by rw [upd_ne (nT g2 (fun _ z => by unfold LamX.CodeO at z; cases z))]; exact g2⟩
          · rw [upd_same, List.replicate_succ', List.map_append]
            rfl
      · obtain ⟨e6, hT6, eD6⟩ := hP
        exact ⟨D, List.replicate 27 true, rfl, .of eD6, q _⟩
end
end Ink
namespace Ink
open PySem PySem.W PySem.Calls PyProof.Rows HandSHeadRun
/-- a law's head by a run of its own, the written part and the tables of code looked at -/
theorem head_km {r : OpenRow} {q : Program} {K : Params → Frag} {as : List Addr} {ek : ∀ P, as = (K P).map (·.1)} {ts : List Addr} {M : Nat} {loose : List PySem.Str} {d : DefRec} {kwd : List (PySem.Str × PySem.Expr)}
    (e : opening r.prog = plainProg r.prog.main.scope.names) (f : ∀ s, fenceModules? r.prog s = some s)
    (run : ∀ (w : World) (os : OsState), (endF (stepQ (denQ tabQ) r.prog w) M r.prog w os).map (fun s => (looksF r.prog (boot_heap w.params) s.abs, seenQ q loose (importedModules r.prog.main.body) (fun s => xlAt q [] s && recOk r.toRowW.records s) s.abs, ((as.map (getT s), ts.map (getT s)) : List (Option Obj) × List (Option Obj)))) = some (true, openGood q loose, ((K w.params).map fun p => some p.2, ts.map fun _ => some (tabObj #[]))))
    (hdef : defOf q r.name = some (d, kwd)) (hp : r.prog.theDef r.name = some (d.params, d.body, d.scope)) (hk : kwWritten? d.params.kwonlyargs d.params.kw_defaults = some kwd)
    (hwr : (!r.writes || r.records.isEmpty) = true) (k1 : r.wellSaid = true) (ok : (chainsOk q && opensWell r.prog && (frees r.toRowW && r.within.isEmpty)) = true) (hb : r.prog.bare) (hw : r.toRowW.promised)
    (call : WalkO q loose (XL q []) (kmHook K as ek ts).says r.toRowW d kwd fun f vs => PySem.call f vs) : r.Holds :=
  head_any (H := kmHook K as ek ts) (ob := fun s => (as.map (getT s), ts.map (getT s))) (fun s => by
    show ((as.map (getT s), ts.map (getT s)) : List (Option Obj) × List (Option Obj)) = (as.map s.abs.heap.get?, ts.map s.abs.heap.get?)
    rw [List.map_congr_left (f := getT s) (g := s.abs.heap.get?) (l := as) fun a _ => getT_eq s a, List.map_congr_left (f := getT s) (g := s.abs.heap.get?) (l := ts) fun a _ => getT_eq s a]) e f (fun w os => run w os) hdef hp hk hwr k1 ok hb hw call
/-- a law's head by a run of its own, the written part looked at -/
theorem head_k {r : OpenRow} {q : Program} {K : Params → Frag} {as : List Addr} {ek : ∀ P, as = (K P).map (·.1)} {M : Nat} {loose : List PySem.Str} {d : DefRec} {kwd : List (PySem.Str × PySem.Expr)}
    (e : opening r.prog = plainProg r.prog.main.scope.names) (f : ∀ s, fenceModules? r.prog s = some s)
    (run : ∀ (w : World) (os : OsState), (endF (stepQ (denQ tabQ) r.prog w) M r.prog w os).map (fun s => (looksF r.prog (boot_heap w.params) s.abs, seenQ q loose (importedModules r.prog.main.body) (fun s => xlAt q [] s && recOk r.toRowW.records s) s.abs, as.map (getT s))) = some (true, openGood q loose, (K w.params).map fun p => some p.2))
    (hdef : defOf q r.name = some (d, kwd)) (hp : r.prog.theDef r.name = some (d.params, d.body, d.scope)) (hk : kwWritten? d.params.kwonlyargs d.params.kw_defaults = some kwd)
    (hwr : (!r.writes || r.records.isEmpty) = true) (k1 : r.wellSaid = true) (ok : (chainsOk q && opensWell r.prog && (frees r.toRowW && r.within.isEmpty)) = true) (hb : r.prog.bare) (hw : r.toRowW.promised)
    (call : WalkO q loose (XL q []) (kHook K as ek).says r.toRowW d kwd fun f vs => PySem.call f vs) : r.Holds :=
  head_any (H := kHook K as ek) (ob := fun s => as.map (getT s)) (fun s => by
    show as.map (getT s) = as.map s.abs.heap.get?
    exact List.map_congr_left fun a _ => getT_eq s a) e f (fun w os => run w os) hdef hp hk hwr k1 ok hb hw call
end Ink
namespace Ink
open PySem PySem.W PySem.Calls PyProof.Rows HandSHeadRun
/-- as head_km, where the top asks the world one row (a table of texts is written there): both its answers are run -/
theorem head_kmF (row : String) {r : OpenRow} {q : Program} {K : Params → Frag} {as : List Addr} {ek : ∀ P, as = (K P).map (·.1)} {ts : List Addr} {M : Nat} {loose : List PySem.Str} {d : DefRec} {kwd : List (PySem.Str × PySem.Expr)}
    (e : opening r.prog = plainProg r.prog.main.scope.names) (f : ∀ s, fenceModules? r.prog s = some s)
    (run0 : ∀ (w : World) (os : OsState), (endF (stepQ (denQ tabQ) r.prog (w.withFollow row false)) M r.prog (w.withFollow row false) os).map (fun s => (looksF r.prog (boot_heap (w.withFollow row false).params) s.abs, seenQ q loose (importedModules r.prog.main.body) (fun s => xlAt q [] s && recOk r.toRowW.records s) s.abs, ((as.map (getT s), ts.map (getT s)) : List (Option Obj) × List (Option Obj)))) = some (true, openGood q loose, ((K (w.withFollow row false).params).map fun p => some p.2, ts.map fun _ => some (tabObj #[]))))
    (run1 : ∀ (w : World) (os : OsState), (endF (stepQ (denQ tabQ) r.prog (w.withFollow row true)) M r.prog (w.withFollow row true) os).map (fun s => (looksF r.prog (boot_heap (w.withFollow row true).params) s.abs, seenQ q loose (importedModules r.prog.main.body) (fun s => xlAt q [] s && recOk r.toRowW.records s) s.abs, ((as.map (getT s), ts.map (getT s)) : List (Option Obj) × List (Option Obj)))) = some (true, openGood q loose, ((K (w.withFollow row true).params).map fun p => some p.2, ts.map fun _ => some (tabObj #[]))))
    (hdef : defOf q r.name = some (d, kwd)) (hp : r.prog.theDef r.name = some (d.params, d.body, d.scope)) (hk : kwWritten? d.params.kwonlyargs d.params.kw_defaults = some kwd)
    (hwr : (!r.writes || r.records.isEmpty) = true) (k1 : r.wellSaid = true) (ok : (chainsOk q && opensWell r.prog && (frees r.toRowW && r.within.isEmpty)) = true) (hb : r.prog.bare) (hw : r.toRowW.promised)
    (call : WalkO q loose (XL q []) (kmHook K as ek ts).says r.toRowW d kwd fun f vs => PySem.call f vs) : r.Holds :=
  head_km (ek := ek) e f (fun w os => by
    have z := World.withFollow_self w row
    cases hb : w.params.followText row with
    | false =>
      rw [hb] at z
      have q := run0 w os
      rw [z] at q
      exact q
    | true =>
      rw [hb] at z
      have q := run1 w os
      rw [z] at q
      exact q) hdef hp hk hwr k1 ok hb hw call
end Ink
namespace Ink
open PySem PySem.Spec PyProof.Rows L2
theorem all_mk {l : PySem.W.OpenLaw} {w : World} {K : PySem.W.Frag} {h : Heap} {mg : Str → Option Value} {fa fl : Addr} (X : K.In h) (G : h.Ns mainGlobals mg) (hfa : mg "law" = some (.ref fa))
    {c0 P0 : Addr} {oc1 kV1 dc1 pm1 cd1 ct1 : Value} {od1 an1 : Option Addr} {sl1 : Array (Option Value)} {f1 : Addr} {oc2 kV2 dc2 pm2 cd2 ct2 : Value} {od2 an2 : Option Addr} {sl2 : Array (Option Value)} {f2 : Addr} {oc3 kV3 dc3 pm3 cd3 ct3 : Value} {od3 an3 : Option Addr} {sl3 : Array (Option Value)} {f3 : Addr} {oc4 kV4 dc4 pm4 cd4 ct4 : Value} {od4 an4 : Option Addr} {sl4 : Array (Option Value)} {f4 : Addr} {oc5 kV5 dc5 pm5 cd5 ct5 : Value} {od5 an5 : Option Addr} {sl5 : Array (Option Value)} {f5 : Addr} {oc6 kV6 dc6 pm6 cd6 ct6 : Value} {od6 an6 : Option Addr} {sl6 : Array (Option Value)} {f6 : Addr} {oc7 kV7 dc7 pm7 cd7 ct7 : Value} {od7 an7 : Option Addr} {sl7 : Array (Option Value)} {f7 : Addr} {oc8 kV8 dc8 pm8 cd8 ct8 : Value} {od8 an8 : Option Addr} {sl8 : Array (Option Value)} {f8 : Addr} {oc9 kV9 dc9 pm9 cd9 ct9 : Value} {od9 an9 : Option Addr} {sl9 : Array (Option Value)} {f9 : Addr} {oc10 kV10 dc10 pm10 cd10 ct10 : Value} {od10 an10 : Option Addr} {sl10 : Array (Option Value)} {f10 : Addr} {oc11 kV11 dc11 pm11 cd11 ct11 : Value} {od11 an11 : Option Addr} {sl11 : Array (Option Value)} {f11 : Addr} {oc12 kV12 dc12 pm12 cd12 ct12 : Value} {od12 an12 : Option Addr} {sl12 : Array (Option Value)} {f12 : Addr} {oc13 kV13 dc13 pm13 cd13 ct13 : Value} {od13 an13 : Option Addr} {sl13 : Array (Option Value)} {f13 : Addr} {oc14 kV14 dc14 pm14 cd14 ct14 : Value} {od14 an14 : Option Addr} {sl14 : Array (Option Value)} {f14 : Addr} {oc15 kV15 dc15 pm15 cd15 ct15 : Value} {od15 an15 : Option Addr} {sl15 : Array (Option Value)} {f15 : Addr} {oc16 kV16 dc16 pm16 cd16 ct16 : Value} {od16 an16 : Option Addr} {sl16 : Array (Option Value)} {f16 : Addr} {oc17 kV17 dc17 pm17 cd17 ct17 : Value} {od17 an17 : Option Addr} {sl17 : Array (Option Value)} {f17 : Addr} {oc18 kV18 dc18 pm18 cd18 ct18 : Value} {od18 an18 : Option Addr} {sl18 : Array (Option Value)} {f18 : Addr} {oc19 kV19 dc19 pm19 cd19 ct19 : Value} {od19 an19 : Option Addr} {sl19 : Array (Option Value)} {f19 : Addr} {oc20 kV20 dc20 pm20 cd20 ct20 : Value} {od20 an20 : Option Addr} {sl20 : Array (Option Value)} {f20 : Addr} {oc21 kV21 dc21 pm21 cd21 ct21 : Value} {od21 an21 : Option Addr} {sl21 : Array (Option Value)} {f21 : Addr} {oc22 kV22 dc22 pm22 cd22 ct22 : Value} {od22 an22 : Option Addr} {sl22 : Array (Option Value)} {f22 : Addr} {oc23 kV23 dc23 pm23 cd23 ct23 : Value} {od23 an23 : Option Addr} {sl23 : Array (Option Value)} {f23 : Addr} {oc24 kV24 dc24 pm24 cd24 ct24 : Value} {od24 an24 : Option Addr} {sl24 : Array (Option Value)} {f24 : Addr} {oc25 kV25 dc25 pm25 cd25 ct25 : Value} {od25 an25 : Option Addr} {sl25 : Array (Option Value)} {f25 : Addr} {oc26 kV26 dc26 pm26 cd26 ct26 : Value} {od26 an26 : Option Addr} {sl26 : Array (Option Value)} {f26 : Addr} {oc27 kV27 dc27 pm27 ct27 : Value} {od27 an27 : Option Addr} {sl27 : Array (Option Value)} {oc28 kV28 dc28 pm28 cd28 ct28 : Value} {od28 an28 : Option Addr} {sl28 : Array (Option Value)} {f28 : Addr} {oc29 kV29 dc29 pm29 cd29 ct29 : Value} {od29 an29 : Option Addr} {sl29 : Array (Option Value)} {f29 : Addr} {oc30 kV30 dc30 pm30 cd30 ct30 : Value} {od30 an30 : Option Addr} {sl30 : Array (Option Value)} {f30 : Addr} {oc31 kV31 dc31 pm31 cd31 ct31 : Value} {od31 an31 : Option Addr} {sl31 : Array (Option Value)} {f31 : Addr} {oc32 kV32 dc32 pm32 cd32 ct32 : Value} {od32 an32 : Option Addr} {sl32 : Array (Option Value)} {f32 : Addr} {oc33 kV33 dc33 pm33 cd33 ct33 : Value} {od33 an33 : Option Addr} {sl33 : Array (Option Value)} {f33 : Addr} {oc34 kV34 dc34 pm34 cd34 ct34 : Value} {od34 an34 : Option Addr} {sl34 : Array (Option Value)} {f34 : Addr} {oc35 kV35 dc35 pm35 cd35 ct35 : Value} {od35 an35 : Option Addr} {sl35 : Array (Option Value)} {f35 : Addr} {t1 : Tok} {t2 : Tok} {t3 : Tok} {t4 : Tok} {t5 : Tok} {T1 cI cM cL : Addr} {cU : Value} {oU : Option Addr} {nU : Nat} {sU : Array (Option Value)} {u3 : Tok} {CB NCB : Addr} {qCB : Str} {bsCB bmCB subCB : List Value} {snCB : List Str} {abCB : Bool} {colCB : Option Bool} {ddCB : Option Addr} {kaCB kbCB kdCB kfCB : Option Value} {tkCB : Tok} {ocY kVY dcY pmY cdY ctY : Value} {odY anY : Option Addr} {slY : Array (Option Value)} {fY : Addr} {ocE kVE dcE pmE cdE ctE : Value} {odE anE : Option Addr} {slE : Array (Option Value)} {fE : Addr} {dF : Addr} {esF : Array DictEntry} {nF : Nat} {tF1 : Addr} {cF1 : Option Addr} {mF1 : Nat} {sF1 : Array (Option Value)} {uF1_0 : Tok} {tF2 : Addr} {cF2 : Option Addr} {mF2 : Nat} {sF2 : Array (Option Value)} {uF2_0 : Tok} {tF3 : Addr} {cF3 : Option Addr} {mF3 : Nat} {sF3 : Array (Option Value)} {uF3_0 : Tok} {tF4 : Addr} {cF4 : Option Addr} {mF4 : Nat} {sF4 : Array (Option Value)} {uF4_0 : Tok} {tF5 : Addr} {cF5 : Option Addr} {mF5 : Nat} {sF5 : Array (Option Value)} {uF5_0 : Tok} {uF5_1 : Tok} {tF6 : Addr} {cF6 : Option Addr} {mF6 : Nat} {sF6 : Array (Option Value)} {uF6_0 : Tok} {uF6_1 : Tok} {tF7 : Addr} {cF7 : Option Addr} {mF7 : Nat} {sF7 : Array (Option Value)} {uF7_0 : Tok} {tF8 : Addr} {cF8 : Option Addr} {mF8 : Nat} {sF8 : Array (Option Value)} {uF8_0 : Tok} {tF9 : Addr} {cF9 : Option Addr} {mF9 : Nat} {sF9 : Array (Option Value)} {uF9_0 : Tok}
    (hT8 : ∀ Q ∈ [P0], h.get? Q = some (PySem.W.tabObj #[]))
    (a1 : PySem.W.nsIn K mainGlobals "is_name" = some (some (.ref f1))) (l1 : K.lookup f1 = some ⟨oc1, od1, .func (PySem.W.fnOf "is_name" "is_name" (defArgs sIsName) (defBody sIsName) (defScope sIsName) .none kV1 dc1 pm1 an1 cd1 ct1), sl1⟩) (c1 : PySem.W.codeIn K cd1 "is_name" = true) (k1 : PySem.W.keepIn K (.ref f1) = true)
    (a2 : PySem.W.nsIn K mainGlobals "is_sign" = some (some (.ref f2))) (l2 : K.lookup f2 = some ⟨oc2, od2, .func (PySem.W.fnOf "is_sign" "is_sign" (defArgs sIsSign) (defBody sIsSign) (defScope sIsSign) .none kV2 dc2 pm2 an2 cd2 ct2), sl2⟩) (c2 : PySem.W.codeIn K cd2 "is_sign" = true) (k2 : PySem.W.keepIn K (.ref f2) = true)
    (a3 : PySem.W.nsIn K mainGlobals "is_writer" = some (some (.ref f3))) (l3 : K.lookup f3 = some ⟨oc3, od3, .func (PySem.W.fnOf "is_writer" "is_writer" (defArgs sIsWriter) (defBody sIsWriter) (defScope sIsWriter) .none kV3 dc3 pm3 an3 cd3 ct3), sl3⟩) (c3 : PySem.W.codeIn K cd3 "is_writer" = true) (k3 : PySem.W.keepIn K (.ref f3) = true)
    (a4 : PySem.W.nsIn K mainGlobals "_is_count" = some (some (.ref f4))) (l4 : K.lookup f4 = some ⟨oc4, od4, .func (PySem.W.fnOf "_is_count" "_is_count" (defArgs sIsCount) (defBody sIsCount) (defScope sIsCount) .none kV4 dc4 pm4 an4 cd4 ct4), sl4⟩) (c4 : PySem.W.codeIn K cd4 "_is_count" = true) (k4 : PySem.W.keepIn K (.ref f4) = true)
    (a5 : PySem.W.nsIn K mainGlobals "_is_place" = some (some (.ref f5))) (l5 : K.lookup f5 = some ⟨oc5, od5, .func (PySem.W.fnOf "_is_place" "_is_place" (defArgs sIsPlace) (defBody sIsPlace) (defScope sIsPlace) .none kV5 dc5 pm5 an5 cd5 ct5), sl5⟩) (c5 : PySem.W.codeIn K cd5 "_is_place" = true) (k5 : PySem.W.keepIn K (.ref f5) = true)
    (a6 : PySem.W.nsIn K mainGlobals "_are_arrows" = some (some (.ref f6))) (l6 : K.lookup f6 = some ⟨oc6, od6, .func (PySem.W.fnOf "_are_arrows" "_are_arrows" (defArgs sAreArrows) (defBody sAreArrows) (defScope sAreArrows) .none kV6 dc6 pm6 an6 cd6 ct6), sl6⟩) (c6 : PySem.W.codeIn K cd6 "_are_arrows" = true) (k6 : PySem.W.keepIn K (.ref f6) = true)
    (a7 : PySem.W.nsIn K mainGlobals "read_writer" = some (some (.ref f7))) (l7 : K.lookup f7 = some ⟨oc7, od7, .func (PySem.W.fnOf "read_writer" "read_writer" (defArgs sReadWriter) (defBody sReadWriter) (defScope sReadWriter) .none kV7 dc7 pm7 an7 cd7 ct7), sl7⟩) (c7 : PySem.W.codeIn K cd7 "read_writer" = true) (k7 : PySem.W.keepIn K (.ref f7) = true)
    (a8 : PySem.W.nsIn K mainGlobals "_is_figure" = some (some (.ref f8))) (l8 : K.lookup f8 = some ⟨oc8, od8, .func (PySem.W.fnOf "_is_figure" "_is_figure" (defArgs sIsFigure) (defBody sIsFigure) (defScope sIsFigure) .none kV8 dc8 pm8 an8 cd8 ct8), sl8⟩) (c8 : PySem.W.codeIn K cd8 "_is_figure" = true) (k8 : PySem.W.keepIn K (.ref f8) = true)
    (a9 : PySem.W.nsIn K mainGlobals "_is_arrow_text" = some (some (.ref f9))) (l9 : K.lookup f9 = some ⟨oc9, od9, .func (PySem.W.fnOf "_is_arrow_text" "_is_arrow_text" (defArgs sIsArrowText) (defBody sIsArrowText) (defScope sIsArrowText) .none kV9 dc9 pm9 an9 cd9 ct9), sl9⟩) (c9 : PySem.W.codeIn K cd9 "_is_arrow_text" = true) (k9 : PySem.W.keepIn K (.ref f9) = true)
    (a10 : PySem.W.nsIn K mainGlobals "_law_bag" = some (some (.ref f10))) (l10 : K.lookup f10 = some ⟨oc10, od10, .func (PySem.W.fnOf "_law_bag" "_law_bag" (defArgs sLBag) (defBody sLBag) (defScope sLBag) .none kV10 dc10 pm10 an10 cd10 ct10), sl10⟩) (c10 : PySem.W.codeIn K cd10 "_law_bag" = true) (k10 : PySem.W.keepIn K (.ref f10) = true)
    (a11 : PySem.W.nsIn K mainGlobals "_law_pull" = some (some (.ref f11))) (l11 : K.lookup f11 = some ⟨oc11, od11, .func (PySem.W.fnOf "_law_pull" "_law_pull" (defArgs sLPull) (defBody sLPull) (defScope sLPull) .none kV11 dc11 pm11 an11 cd11 ct11), sl11⟩) (c11 : PySem.W.codeIn K cd11 "_law_pull" = true) (k11 : PySem.W.keepIn K (.ref f11) = true)
    (a12 : PySem.W.nsIn K mainGlobals "_law_of" = some (some (.ref f12))) (l12 : K.lookup f12 = some ⟨oc12, od12, .func (PySem.W.fnOf "_law_of" "_law_of" (defArgs sLOf) (defBody sLOf) (defScope sLOf) .none kV12 dc12 pm12 an12 cd12 ct12), sl12⟩) (c12 : PySem.W.codeIn K cd12 "_law_of" = true) (k12 : PySem.W.keepIn K (.ref f12) = true)
    (a13 : PySem.W.nsIn K mainGlobals "_law_letters" = some (some (.ref f13))) (l13 : K.lookup f13 = some ⟨oc13, od13, .func (PySem.W.fnOf "_law_letters" "_law_letters" (defArgs sLLetters) (defBody sLLetters) (defScope sLLetters) .none kV13 dc13 pm13 an13 cd13 ct13), sl13⟩) (c13 : PySem.W.codeIn K cd13 "_law_letters" = true) (k13 : PySem.W.keepIn K (.ref f13) = true)
    (a14 : PySem.W.nsIn K mainGlobals "_law_like" = some (some (.ref f14))) (l14 : K.lookup f14 = some ⟨oc14, od14, .func (PySem.W.fnOf "_law_like" "_law_like" (defArgs sLLike) (defBody sLLike) (defScope sLLike) .none kV14 dc14 pm14 an14 cd14 ct14), sl14⟩) (c14 : PySem.W.codeIn K cd14 "_law_like" = true) (k14 : PySem.W.keepIn K (.ref f14) = true)
    (a15 : PySem.W.nsIn K mainGlobals "_law_names" = some (some (.ref f15))) (l15 : K.lookup f15 = some ⟨oc15, od15, .func (PySem.W.fnOf "_law_names" "_law_names" (defArgs sLNames) (defBody sLNames) (defScope sLNames) .none kV15 dc15 pm15 an15 cd15 ct15), sl15⟩) (c15 : PySem.W.codeIn K cd15 "_law_names" = true) (k15 : PySem.W.keepIn K (.ref f15) = true)
    (a16 : PySem.W.nsIn K mainGlobals "_law_signs" = some (some (.ref f16))) (l16 : K.lookup f16 = some ⟨oc16, od16, .func (PySem.W.fnOf "_law_signs" "_law_signs" (defArgs sLSigns) (defBody sLSigns) (defScope sLSigns) .none kV16 dc16 pm16 an16 cd16 ct16), sl16⟩) (c16 : PySem.W.codeIn K cd16 "_law_signs" = true) (k16 : PySem.W.keepIn K (.ref f16) = true)
    (a17 : PySem.W.nsIn K mainGlobals "_law_writer" = some (some (.ref f17))) (l17 : K.lookup f17 = some ⟨oc17, od17, .func (PySem.W.fnOf "_law_writer" "_law_writer" (defArgs sLWriter) (defBody sLWriter) (defScope sLWriter) .none kV17 dc17 pm17 an17 cd17 ct17), sl17⟩) (c17 : PySem.W.codeIn K cd17 "_law_writer" = true) (k17 : PySem.W.keepIn K (.ref f17) = true)
    (a18 : PySem.W.nsIn K mainGlobals "_law_field" = some (some (.ref f18))) (l18 : K.lookup f18 = some ⟨oc18, od18, .func (PySem.W.fnOf "_law_field" "_law_field" (defArgs sLField) (defBody sLField) (defScope sLField) .none kV18 dc18 pm18 an18 cd18 ct18), sl18⟩) (c18 : PySem.W.codeIn K cd18 "_law_field" = true) (k18 : PySem.W.keepIn K (.ref f18) = true)
    (a19 : PySem.W.nsIn K mainGlobals "_law_tried" = some (some (.ref f19))) (l19 : K.lookup f19 = some ⟨oc19, od19, .func (PySem.W.fnOf "_law_tried" "_law_tried" (defArgs sLTried) (defBody sLTried) (defScope sLTried) .none kV19 dc19 pm19 an19 cd19 ct19), sl19⟩) (c19 : PySem.W.codeIn K cd19 "_law_tried" = true) (k19 : PySem.W.keepIn K (.ref f19) = true)
    (a20 : PySem.W.nsIn K mainGlobals "_law_refused" = some (some (.ref f20))) (l20 : K.lookup f20 = some ⟨oc20, od20, .func (PySem.W.fnOf "_law_refused" "_law_refused" (defArgs sLRefused) (defBody sLRefused) (defScope sLRefused) .none kV20 dc20 pm20 an20 cd20 ct20), sl20⟩) (c20 : PySem.W.codeIn K cd20 "_law_refused" = true) (k20 : PySem.W.keepIn K (.ref f20) = true)
    (a21 : PySem.W.nsIn K mainGlobals "_law_is_name" = some (some (.ref f21))) (l21 : K.lookup f21 = some ⟨oc21, od21, .func (PySem.W.fnOf "_law_is_name" "_law_is_name" (defArgs sLIsName) (defBody sLIsName) (defScope sLIsName) .none kV21 dc21 pm21 an21 cd21 ct21), sl21⟩) (c21 : PySem.W.codeIn K cd21 "_law_is_name" = true) (k21 : PySem.W.keepIn K (.ref f21) = true)
    (a22 : PySem.W.nsIn K mainGlobals "_law_is_writer" = some (some (.ref f22))) (l22 : K.lookup f22 = some ⟨oc22, od22, .func (PySem.W.fnOf "_law_is_writer" "_law_is_writer" (defArgs sLIsWriter) (defBody sLIsWriter) (defScope sLIsWriter) .none kV22 dc22 pm22 an22 cd22 ct22), sl22⟩) (c22 : PySem.W.codeIn K cd22 "_law_is_writer" = true) (k22 : PySem.W.keepIn K (.ref f22) = true)
    (a23 : PySem.W.nsIn K mainGlobals "_law_bent_text" = some (some (.ref f23))) (l23 : K.lookup f23 = some ⟨oc23, od23, .func (PySem.W.fnOf "_law_bent_text" "_law_bent_text" (defArgs sLBentText) (defBody sLBentText) (defScope sLBentText) .none kV23 dc23 pm23 an23 cd23 ct23), sl23⟩) (c23 : PySem.W.codeIn K cd23 "_law_bent_text" = true) (k23 : PySem.W.keepIn K (.ref f23) = true)
    (a24 : PySem.W.nsIn K mainGlobals "_law_arrow_in" = some (some (.ref f24))) (l24 : K.lookup f24 = some ⟨oc24, od24, .func (PySem.W.fnOf "_law_arrow_in" "_law_arrow_in" (defArgs sLArrowIn) (defBody sLArrowIn) (defScope sLArrowIn) .none kV24 dc24 pm24 an24 cd24 ct24), sl24⟩) (c24 : PySem.W.codeIn K cd24 "_law_arrow_in" = true) (k24 : PySem.W.keepIn K (.ref f24) = true)
    (a25 : PySem.W.nsIn K mainGlobals "_law_writer_in" = some (some (.ref f25))) (l25 : K.lookup f25 = some ⟨oc25, od25, .func (PySem.W.fnOf "_law_writer_in" "_law_writer_in" (defArgs sLWriterIn) (defBody sLWriterIn) (defScope sLWriterIn) .none kV25 dc25 pm25 an25 cd25 ct25), sl25⟩) (c25 : PySem.W.codeIn K cd25 "_law_writer_in" = true) (k25 : PySem.W.keepIn K (.ref f25) = true)
    (a26 : PySem.W.nsIn K mainGlobals "_law_writer_text" = some (some (.ref f26))) (l26 : K.lookup f26 = some ⟨oc26, od26, .func (PySem.W.fnOf "_law_writer_text" "_law_writer_text" (defArgs sLWriterText) (defBody sLWriterText) (defScope sLWriterText) .none kV26 dc26 pm26 an26 cd26 ct26), sl26⟩) (c26 : PySem.W.codeIn K cd26 "_law_writer_text" = true) (k26 : PySem.W.keepIn K (.ref f26) = true)
    (a27 : PySem.W.nsIn K mainGlobals "law" = some (some (.ref fl))) (l27 : K.lookup fl = some ⟨oc27, od27, .func (PySem.W.fnOf "law" "law" (defArgs sLaw) (defBody sLaw) (defScope sLaw) .none kV27 dc27 pm27 an27 (.ref c0) ct27), sl27⟩) (c27 : PySem.W.codeIn K (.ref c0) "law" = true) (k27 : PySem.W.keepIn K (.ref fl) = true)
    (a28 : PySem.W.nsIn K mainGlobals "read_deed" = some (some (.ref f28))) (l28 : K.lookup f28 = some ⟨oc28, od28, .func (PySem.W.fnOf "read_deed" "read_deed" (defArgs sReadDeed) (defBody sReadDeed) (defScope sReadDeed) .none kV28 dc28 pm28 an28 cd28 ct28), sl28⟩) (c28 : PySem.W.codeIn K cd28 "read_deed" = true) (k28 : PySem.W.keepIn K (.ref f28) = true)
    (a29 : PySem.W.nsIn K mainGlobals "read_number" = some (some (.ref f29))) (l29 : K.lookup f29 = some ⟨oc29, od29, .func (PySem.W.fnOf "read_number" "read_number" (defArgs sReadNumber) (defBody sReadNumber) (defScope sReadNumber) .none kV29 dc29 pm29 an29 cd29 ct29), sl29⟩) (c29 : PySem.W.codeIn K cd29 "read_number" = true) (k29 : PySem.W.keepIn K (.ref f29) = true)
    (a30 : PySem.W.nsIn K mainGlobals "_read_thing" = some (some (.ref f30))) (l30 : K.lookup f30 = some ⟨oc30, od30, .func (PySem.W.fnOf "_read_thing" "_read_thing" (defArgs sReadThing) (defBody sReadThing) (defScope sReadThing) .none kV30 dc30 pm30 an30 cd30 ct30), sl30⟩) (c30 : PySem.W.codeIn K cd30 "_read_thing" = true) (k30 : PySem.W.keepIn K (.ref f30) = true)
    (a31 : PySem.W.nsIn K mainGlobals "_law_far" = some (some (.ref f31))) (l31 : K.lookup f31 = some ⟨oc31, od31, .func (PySem.W.fnOf "_law_far" "_law_far" (defArgs sLFar) (defBody sLFar) (defScope sLFar) .none kV31 dc31 pm31 an31 cd31 ct31), sl31⟩) (c31 : PySem.W.codeIn K cd31 "_law_far" = true) (k31 : PySem.W.keepIn K (.ref f31) = true)
    (a32 : PySem.W.nsIn K mainGlobals "_law_deed_text" = some (some (.ref f32))) (l32 : K.lookup f32 = some ⟨oc32, od32, .func (PySem.W.fnOf "_law_deed_text" "_law_deed_text" (defArgs sLDeedText) (defBody sLDeedText) (defScope sLDeedText) .none kV32 dc32 pm32 an32 cd32 ct32), sl32⟩) (c32 : PySem.W.codeIn K cd32 "_law_deed_text" = true) (k32 : PySem.W.keepIn K (.ref f32) = true)
    (a33 : PySem.W.nsIn K mainGlobals "_law_every_deed" = some (some (.ref f33))) (l33 : K.lookup f33 = some ⟨oc33, od33, .func (PySem.W.fnOf "_law_every_deed" "_law_every_deed" (defArgs sLEveryDeed) (defBody sLEveryDeed) (defScope sLEveryDeed) .none kV33 dc33 pm33 an33 cd33 ct33), sl33⟩) (c33 : PySem.W.codeIn K cd33 "_law_every_deed" = true) (k33 : PySem.W.keepIn K (.ref f33) = true)
    (a34 : PySem.W.nsIn K mainGlobals "_law_number_in" = some (some (.ref f34))) (l34 : K.lookup f34 = some ⟨oc34, od34, .func (PySem.W.fnOf "_law_number_in" "_law_number_in" (defArgs sLNumberIn) (defBody sLNumberIn) (defScope sLNumberIn) .none kV34 dc34 pm34 an34 cd34 ct34), sl34⟩) (c34 : PySem.W.codeIn K cd34 "_law_number_in" = true) (k34 : PySem.W.keepIn K (.ref f34) = true)
    (a35 : PySem.W.nsIn K mainGlobals "_law_deed_in" = some (some (.ref f35))) (l35 : K.lookup f35 = some ⟨oc35, od35, .func (PySem.W.fnOf "_law_deed_in" "_law_deed_in" (defArgs sLDeedIn) (defBody sLDeedIn) (defScope sLDeedIn) .none kV35 dc35 pm35 an35 cd35 ct35), sl35⟩) (c35 : PySem.W.codeIn K cd35 "_law_deed_in" = true) (k35 : PySem.W.keepIn K (.ref f35) = true)
    (z1 : PySem.W.nsIn K mainGlobals "len" = some none)
    (z2 : PySem.W.nsIn K mainGlobals "all" = some none)
    (z3 : PySem.W.nsIn K mainGlobals "list" = some none)
    (z4 : PySem.W.nsIn K mainGlobals "range" = some none)
    (z5 : PySem.W.nsIn K mainGlobals "zip" = some none)
    (z6 : PySem.W.nsIn K mainGlobals "isinstance" = some none)
    (z7 : PySem.W.nsIn K mainGlobals "tuple" = some none)
    (z8 : PySem.W.nsIn K mainGlobals "bool" = some none)
    (z9 : PySem.W.nsIn K mainGlobals "int" = some none)
    (z10 : PySem.W.nsIn K mainGlobals "str" = some none)
    (z11 : PySem.W.nsIn K mainGlobals "max" = some none)
    (z12 : PySem.W.nsIn K mainGlobals "sorted" = some none)
    (y1 : PySem.W.nsIn K mainGlobals "_MOST_FIGURES" = some (some (.int 30 t1)))
    (y2 : PySem.W.nsIn K mainGlobals "_MOST_LETTERS" = some (some (.int 6 t2)))
    (y3 : PySem.W.nsIn K mainGlobals "MOST_ARROWS" = some (some (.int 9 t3)))
    (y4 : PySem.W.nsIn K mainGlobals "MOST_COUNT" = some (some (.int 3 t4)))
    (y5 : PySem.W.nsIn K mainGlobals "_LAST_PLACE" = some (some (.int 2 t5)))
    (hC8 : PySem.W.codeHdIn K c0 P0 = true) (nT8 : K.lookup P0 = none)
    (aCB : PySem.W.nsIn K mainGlobals "BadText" = some (some (.ref CB))) (lCB : K.lookup CB = some (excClassObj "BadText" qCB CB NCB bsCB bmCB true snCB subCB abCB colCB ddCB kaCB kbCB (some (.str "BadText" tkCB)) kdCB kfCB "ValueError.__new__")) (rvCB : PySem.HandSPX.refsVE bmCB = true) (saCB : PySem.W.findIn K (.ref CB) "__setattr__" = some (some (.builtin "object.__setattr__"))) (suCB : PySem.W.subIn K (.ref CB) (.type "BaseException") = some true) (tyCB : PySem.W.typeIn K (.ref CB) = some (.type "type")) (kpCB : PySem.W.keepIn K (.ref CB) = true) (gaCB : PySem.W.findIn K (.ref CB) "__getattribute__" = some (some (.builtin "BaseException.__getattribute__"))) (ggCB : PySem.W.findIn K (.ref CB) "__getattr__" = some none) (hdCB : PySem.W.hasDictIn K CB = true) (clCB : PySem.W.findIn K (.ref CB) "__class__" = some (some (.builtin "object.__class__"))) (mrCB : PySem.W.mroIn K CB (.type "object") = some true) (rdCB : PySem.W.readsIn K CB (.type "type") = true) (nmCB : PySem.W.findCls K (.ref CB) (.type "type") "__name__" = some (.get (.builtin "getset_descriptor.__get__") (.builtin "type.__name__") (.ref CB) (.type "type"))) (fwordCB : PySem.W.findIn K (.ref CB) "word" = some none) (fnameCB : PySem.W.findIn K (.ref CB) "name" = some none) (fmostCB : PySem.W.findIn K (.ref CB) "most" = some none) (fstripCB : PySem.W.findIn K (.ref CB) "strip" = some none) (fnumberCB : PySem.W.findIn K (.ref CB) "number" = some none) (fatCB : PySem.W.findIn K (.ref CB) "at" = some none)
    (ocN : PySem.W.specialIn K (.builtin "object.__class__") "__get__" = some (some (.builtin "getset_descriptor.__get__"))) (ocT : PySem.W.takesIn K (.builtin "object.__class__") = some true)
    (aI0 : PySem.W.nsIn K mainGlobals "InkError" = some (some (.ref cI))) (aM : PySem.W.nsIn K mainGlobals "Missing" = some (some (.ref cM))) (aL : PySem.W.nsIn K mainGlobals "NothingLeft" = some (some (.ref cL)))
    (aY : PySem.W.findIn K (.ref CB) "__init__" = some (some (.ref fY))) (lY : K.lookup fY = some ⟨ocY, odY, .func (PySem.W.fnOf "__init__" "BadText.__init__" (defArgs sBad) (defBody sBad) (defScope sBad) .none kVY dcY pmY anY cdY ctY), slY⟩) (cY : PySem.W.codeIn K cdY "BadText.__init__" = true) (kY : PySem.W.keepIn K (.ref fY) = true)
    (aE : PySem.W.findCls K (.ref cI) (.type "type") "__init__" = some (.val (.ref fE))) (lE : K.lookup fE = some ⟨ocE, odE, .func (PySem.W.fnOf "__init__" "InkError.__init__" (defArgs sInk) (defBody sInk) (defScope sInk) (.ref T1) kVE dcE pmE anE cdE ctE), slE⟩) (cE : PySem.W.codeIn K cdE "InkError.__init__" = true) (kE : PySem.W.keepIn K (.ref fE) = true)
    (tY : PySem.W.typeIn K (.ref fY) = some (.type "function")) (gO : PySem.W.specialIn K (.ref cI) "__getattribute__" = some (some (.builtin "type.__getattribute__"))) (rO : PySem.W.readsIn K cI (.type "type") = true) (yO : PySem.W.typeIn K (.ref cI) = some (.type "type"))
    (lU : K.lookup T1 = some ⟨cU, oU, .seq #[.str "" u3] nU, sU⟩) (vV : PySem.W.findCls K (.type "ValueError") (.type "type") "__init__" = some (.val (.builtin "ValueError.__init__"))) (zV : PySem.W.nsIn K mainGlobals "ValueError" = some none) (hX : PySem.W.exmAny K (.ref CB) [.ref cI, .ref cM, .ref cL] = some true)
    (aF : PySem.W.nsIn K mainGlobals "_FORMS" = some (some (.ref dF))) (lF : K.lookup dF = some ⟨.type "dict", none, .dict esF nF, #[]⟩) (kF : PySem.W.KeysLit w.params esF.toList) (loF : (dF == sysModules) = false)
    (nF1 : PySem.W.nsIn K dF "come" = some (some (.ref tF1))) (tL1 : K.lookup tF1 = some ⟨.type "tuple", cF1, .seq #[.str "writer" uF1_0] mF1, sF1⟩)
    (nF2 : PySem.W.nsIn K dF "leave" = some (some (.ref tF2))) (tL2 : K.lookup tF2 = some ⟨.type "tuple", cF2, .seq #[.str "name" uF2_0] mF2, sF2⟩)
    (nF3 : PySem.W.nsIn K dF "change" = some (some (.ref tF3))) (tL3 : K.lookup tF3 = some ⟨.type "tuple", cF3, .seq #[.str "writer" uF3_0] mF3, sF3⟩)
    (nF4 : PySem.W.nsIn K dF "sign" = some (some (.ref tF4))) (tL4 : K.lookup tF4 = some ⟨.type "tuple", cF4, .seq #[.str "sign" uF4_0] mF4, sF4⟩)
    (nF5 : PySem.W.nsIn K dF "said" = some (some (.ref tF5))) (tL5 : K.lookup tF5 = some ⟨.type "tuple", cF5, .seq #[.str "number" uF5_0, .str "name" uF5_1] mF5, sF5⟩)
    (nF6 : PySem.W.nsIn K dF "denied" = some (some (.ref tF6))) (tL6 : K.lookup tF6 = some ⟨.type "tuple", cF6, .seq #[.str "number" uF6_0, .str "name" uF6_1] mF6, sF6⟩)
    (nF7 : PySem.W.nsIn K dF "unsay" = some (some (.ref tF7))) (tL7 : K.lookup tF7 = some ⟨.type "tuple", cF7, .seq #[.str "number" uF7_0] mF7, sF7⟩)
    (nF8 : PySem.W.nsIn K dF "watch" = some (some (.ref tF8))) (tL8 : K.lookup tF8 = some ⟨.type "tuple", cF8, .seq #[.str "number" uF8_0] mF8, sF8⟩)
    (nF9 : PySem.W.nsIn K dF "unwatch" = some (some (.ref tF9))) (tL9 : K.lookup tF9 = some ⟨.type "tuple", cF9, .seq #[.str "number" uF9_0] mF9, sF9⟩)
    (qF : keysAre (formsD.map (·.1)) esF.toList = true) :
    LamX.LawAtS l w K CX0 10 63 "_law_script" mg fa h := by
  have e := hfa.symm.trans (PySem.W.mg_of X G a27)
  cases e
  have F1 := fun_mk (st := sIsName) l1 c1 k1
  have F2 := fun_mk (st := sIsSign) l2 c2 k2
  have F3 := fun_mk (st := sIsWriter) l3 c3 k3
  have F4 := fun_mk (st := sIsCount) l4 c4 k4
  have F5 := fun_mk (st := sIsPlace) l5 c5 k5
  have F6 := fun_mk (st := sAreArrows) l6 c6 k6
  have F7 := fun_mk (st := sReadWriter) l7 c7 k7
  have F8 := fun_mk (st := sIsFigure) l8 c8 k8
  have F9 := fun_mk (st := sIsArrowText) l9 c9 k9
  have F10 := fun_mk (st := sLBag) l10 c10 k10
  have F11 := fun_mk (st := sLPull) l11 c11 k11
  have F12 := fun_mk (st := sLOf) l12 c12 k12
  have F13 := fun_mk (st := sLLetters) l13 c13 k13
  have F14 := fun_mk (st := sLLike) l14 c14 k14
  have F15 := fun_mk (st := sLNames) l15 c15 k15
  have F16 := fun_mk (st := sLSigns) l16 c16 k16
  have F17 := fun_mk (st := sLWriter) l17 c17 k17
  have F18 := fun_mk (st := sLField) l18 c18 k18
  have F19 := fun_mk (st := sLTried) l19 c19 k19
  have F20 := fun_mk (st := sLRefused) l20 c20 k20
  have F21 := fun_mk (st := sLIsName) l21 c21 k21
  have F22 := fun_mk (st := sLIsWriter) l22 c22 k22
  have F23 := fun_mk (st := sLBentText) l23 c23 k23
  have F24 := fun_mk (st := sLArrowIn) l24 c24 k24
  have F25 := fun_mk (st := sLWriterIn) l25 c25 k25
  have F26 := fun_mk (st := sLWriterText) l26 c26 k26
  have F27 := fun_mk (st := sLaw) l27 c27 k27
  have F28 := fun_mk (st := sReadDeed) l28 c28 k28
  have F29 := fun_mk (st := sReadNumber) l29 c29 k29
  have F30 := fun_mk (st := sReadThing) l30 c30 k30
  have F31 := fun_mk (st := sLFar) l31 c31 k31
  have F32 := fun_mk (st := sLDeedText) l32 c32 k32
  have F33 := fun_mk (st := sLEveryDeed) l33 c33 k33
  have F34 := fun_mk (st := sLNumberIn) l34 c34 k34
  have F35 := fun_mk (st := sLDeedIn) l35 c35 k35
  have b1 := F1.binds (ps := ["text"]) fun _ _ _ _ _ _ us hl => match us, hl with | [_], _ => rfl
  have b2 := F2.binds (ps := ["text"]) fun _ _ _ _ _ _ us hl => match us, hl with | [_], _ => rfl
  have b3 := F3.binds (ps := ["thing"]) fun _ _ _ _ _ _ us hl => match us, hl with | [_], _ => rfl
  have b4 := F4.binds (ps := ["number"]) fun _ _ _ _ _ _ us hl => match us, hl with | [_], _ => rfl
  have b5 := F5.binds (ps := ["number"]) fun _ _ _ _ _ _ us hl => match us, hl with | [_], _ => rfl
  have b6 := F6.binds (ps := ["arrows"]) fun _ _ _ _ _ _ us hl => match us, hl with | [_], _ => rfl
  have b7 := F7.binds (ps := ["text"]) fun _ _ _ _ _ _ us hl => match us, hl with | [_], _ => rfl
  have b8 := F8.binds (ps := ["text"]) fun _ _ _ _ _ _ us hl => match us, hl with | [_], _ => rfl
  have b9 := F9.binds (ps := ["word"]) fun _ _ _ _ _ _ us hl => match us, hl with | [_], _ => rfl
  have b10 := F10.binds (ps := ["_law_script"]) fun _ _ _ _ _ _ us hl => match us, hl with | [_], _ => rfl
  have b11 := F11.binds (ps := ["_law_bag_here", "_law_many"]) fun _ _ _ _ _ _ us hl => match us, hl with | [_, _], _ => rfl
  have b12 := F12.binds (ps := ["_law_bag_here", "_law_things"]) fun _ _ _ _ _ _ us hl => match us, hl with | [_, _], _ => rfl
  have b13 := F13.binds (ps := []) fun _ _ _ _ _ _ us hl => match us, hl with | [], _ => rfl
  have b14 := F14.binds (ps := ["_law_found", "_law_due"]) fun _ _ _ _ _ _ us hl => match us, hl with | [_, _], _ => rfl
  have b15 := F15.binds (ps := ["_law_bag_here", "_law_many"]) fun _ _ _ _ _ _ us hl => match us, hl with | [_, _], _ => rfl
  have b16 := F16.binds (ps := ["_law_bag_here", "_law_limit"]) fun _ _ _ _ _ _ us hl => match us, hl with | [_, _], _ => rfl
  have b17 := F17.binds (ps := ["_law_bag_here", "_law_name", "_law_places", "_law_signs_here", "_law_thick"]) fun _ _ _ _ _ _ us hl => match us, hl with | [_, _, _, _, _], _ => rfl
  have b18 := F18.binds (ps := ["_law_e"]) fun _ _ _ _ _ _ us hl => match us, hl with | [_], _ => rfl
  have b19 := F19.binds (ps := ["_law_ask"]) fun _ _ _ _ _ _ us hl => match us, hl with | [_], _ => rfl
  have b20 := F20.binds (ps := ["_law_ask"]) fun _ _ _ _ _ _ us hl => match us, hl with | [_], _ => rfl
  have b21 := F21.binds (ps := ["_law_text"]) fun _ _ _ _ _ _ us hl => match us, hl with | [_], _ => rfl
  have b22 := F22.binds (ps := ["_law_thing"]) fun _ _ _ _ _ _ us hl => match us, hl with | [_], _ => rfl
  have b23 := F23.binds (ps := ["_law_bag_here", "_law_text", "_law_signs_here"]) fun _ _ _ _ _ _ us hl => match us, hl with | [_, _, _], _ => rfl
  have b24 := F24.binds (ps := ["_law_text"]) fun _ _ _ _ _ _ us hl => match us, hl with | [_], _ => rfl
  have b25 := F25.binds (ps := ["_law_text"]) fun _ _ _ _ _ _ us hl => match us, hl with | [_], _ => rfl
  have b26 := F26.binds (ps := ["_law_writer_here"]) fun _ _ _ _ _ _ us hl => match us, hl with | [_], _ => rfl
  have b28 := F28.binds (ps := ["text"]) fun _ _ _ _ _ _ us hl => match us, hl with | [_], _ => rfl
  have b29 := F29.binds (ps := ["text"]) fun _ _ _ _ _ _ us hl => match us, hl with | [_], _ => rfl
  have b30 := F30.binds (ps := ["kind", "text"]) fun _ _ _ _ _ _ us hl => match us, hl with | [_, _], _ => rfl
  have b31 := F31.binds (ps := ["_law_bag_here"]) fun _ _ _ _ _ _ us hl => match us, hl with | [_], _ => rfl
  have b32 := F32.binds (ps := ["_law_deed"]) fun _ _ _ _ _ _ us hl => match us, hl with | [_], _ => rfl
  have b33 := F33.binds (ps := ["_law_bag_here", "_law_pool", "_law_letters_here"]) fun _ _ _ _ _ _ us hl => match us, hl with | [_, _, _], _ => rfl
  have b34 := F34.binds (ps := ["_law_text"]) fun _ _ _ _ _ _ us hl => match us, hl with | [_], _ => rfl
  have b35 := F35.binds (ps := ["_law_text"]) fun _ _ _ _ _ _ us hl => match us, hl with | [_], _ => rfl
  have T : Txt mg := ⟨PySem.W.mg_none_of X G z1, PySem.W.mg_none_of X G z2, PySem.W.mg_none_of X G z3, PySem.W.mg_none_of X G z4, PySem.W.mg_none_of X G z5, PySem.W.mg_none_of X G z6, PySem.W.mg_none_of X G z7, PySem.W.mg_none_of X G z8, PySem.W.mg_none_of X G z9, PySem.W.mg_none_of X G z10, PySem.W.mg_none_of X G z11, PySem.W.mg_none_of X G z12, ⟨_, PySem.W.mg_of X G y1⟩, ⟨_, PySem.W.mg_of X G y2⟩, ⟨_, PySem.W.mg_of X G y3⟩, ⟨_, PySem.W.mg_of X G y4⟩, ⟨_, PySem.W.mg_of X G y5⟩⟩
  refine ⟨PySem.W.fnOf "law" "law" (defArgs sLaw) (defBody sLaw) (defScope sLaw) .none kV27 dc27 pm27 an27 (.ref c0) ct27, [(c0, P0)], spLaw K P0, fun p hp => by rw [List.mem_singleton.mp hp]; exact hT8 _ (List.mem_singleton.mpr rfl), fun p hp => by rw [List.mem_singleton.mp hp]; exact nT8, fun p hp => by rw [List.mem_singleton.mp hp]; exact PySem.W.codeHd_of_K X hC8, fun s v => .of_eq rfl, fun H a ns hl _ hT hS => ⟨a, ns, rfl, hS, hl, fun p hp => by rw [List.mem_singleton.mp hp]; exact LamX.TabS.nil (hT _ (List.mem_singleton.mpr rfl)), fun _ => rfl⟩, fun base _ _ TB9 => ?_⟩
  have TB := TB9 _ (List.mem_singleton.mpr rfl)
  have FE : FunD K "__init__" "InkError.__init__" (defArgs sInk) (defBody sInk) (defScope sInk) [.str ""] [] fE _ := ⟨⟨_, _, _, _, _, _, _, _, _, _, rfl, lE, cE, .inr ⟨by simp, T1, _, [.str "" u3], _, rfl, lU, rfl, .cons ⟨u3, rfl⟩ .nil⟩, .inl rfl⟩, kE⟩
  have bE2 := FE.binds1 (ps := ["self", "told"]) 2 1 (by simp) rfl fun _ _ _ _ _ _ _ us its h1 h2 => match us, its, h1, h2 with | [_, _], [_], _, _ => ⟨_, rfl, rfl⟩
  have FY := fun_mk (st := sBad) lY cY kY
  have bY := FY.binds (ps := ["self", "at"]) fun _ _ _ _ _ _ us hl => match us, hl with | [_, _], _ => rfl
  have OXCB : OexC K CB := ⟨⟨_, _, _, _, _, _, _, _, _, _, _, _, _, _, _, lCB, rvCB⟩, saCB, suCB, tyCB, kpCB⟩
  have EXCB : ExcC K CB := ⟨gaCB, ggCB, suCB, hdCB, clCB, ocN, ocT, mrCB⟩
  have NMCB : Named K CB "BadText" := ⟨EXCB, OXCB, ⟨_, tkCB, lCB, rfl⟩, rdCB, nmCB⟩
  have FCCB : FldC K CB := ⟨⟨gaCB, ggCB, suCB, hdCB⟩, fwordCB, fnameCB, fmostCB, fstripCB, fnumberCB, fatCB⟩
  have OI : OwnI K cI fE := ⟨gO, rO, yO, aE, kE⟩
  have BR : BadR l.prog w K mg base 2 CB := by
    obtain ⟨ds, hv, b⟩ := bE2
    cases hv
    exact ⟨NMCB, fwordCB, fatCB, PySem.W.mg_of X G aCB, fY, _, aY, tY, ok_bad FY (PySem.W.mg_of X G aI0) OI (ok_ink (k := 0) FE (PySem.W.mg_none_of X G zV) vV) b, bY⟩
  have G__FORMS : FormG K w mg "_FORMS" formsD := by
    refine ⟨dF, PySem.W.mg_of X G aF, ⟨esF, nF, ⟨lF, kF, loF⟩⟩, fun kv h => ?_, fun z hz => ns_miss lF qF hz⟩
    simp only [formsD, formsT, List.map_cons, List.map_nil, List.mem_cons, List.not_mem_nil, or_false] at h
    rcases h with rfl | rfl | rfl | rfl | rfl | rfl | rfl | rfl | rfl
    · exact ⟨.ref tF1, .ref tF1, nF1, rfl, fun H => .tup (show SqT K H tF1 [.str (Str.ofString "writer")] from .inr ⟨_, _, _, tL1, rfl, rfl, (by show 1 ≤ sizeLine; decide), (.cons ⟨uF1_0, rfl⟩ .nil)⟩) (.cons (.str _) .nil)⟩
    · exact ⟨.ref tF2, .ref tF2, nF2, rfl, fun H => .tup (show SqT K H tF2 [.str (Str.ofString "name")] from .inr ⟨_, _, _, tL2, rfl, rfl, (by show 1 ≤ sizeLine; decide), (.cons ⟨uF2_0, rfl⟩ .nil)⟩) (.cons (.str _) .nil)⟩
    · exact ⟨.ref tF3, .ref tF3, nF3, rfl, fun H => .tup (show SqT K H tF3 [.str (Str.ofString "writer")] from .inr ⟨_, _, _, tL3, rfl, rfl, (by show 1 ≤ sizeLine; decide), (.cons ⟨uF3_0, rfl⟩ .nil)⟩) (.cons (.str _) .nil)⟩
    · exact ⟨.ref tF4, .ref tF4, nF4, rfl, fun H => .tup (show SqT K H tF4 [.str (Str.ofString "sign")] from .inr ⟨_, _, _, tL4, rfl, rfl, (by show 1 ≤ sizeLine; decide), (.cons ⟨uF4_0, rfl⟩ .nil)⟩) (.cons (.str _) .nil)⟩
    · exact ⟨.ref tF5, .ref tF5, nF5, rfl, fun H => .tup (show SqT K H tF5 [.str (Str.ofString "number"), .str (Str.ofString "name")] from .inr ⟨_, _, _, tL5, rfl, rfl, (by show 2 ≤ sizeLine; decide), (.cons ⟨uF5_0, rfl⟩ (.cons ⟨uF5_1, rfl⟩ .nil))⟩) (.cons (.str _) (.cons (.str _) .nil))⟩
    · exact ⟨.ref tF6, .ref tF6, nF6, rfl, fun H => .tup (show SqT K H tF6 [.str (Str.ofString "number"), .str (Str.ofString "name")] from .inr ⟨_, _, _, tL6, rfl, rfl, (by show 2 ≤ sizeLine; decide), (.cons ⟨uF6_0, rfl⟩ (.cons ⟨uF6_1, rfl⟩ .nil))⟩) (.cons (.str _) (.cons (.str _) .nil))⟩
    · exact ⟨.ref tF7, .ref tF7, nF7, rfl, fun H => .tup (show SqT K H tF7 [.str (Str.ofString "number")] from .inr ⟨_, _, _, tL7, rfl, rfl, (by show 1 ≤ sizeLine; decide), (.cons ⟨uF7_0, rfl⟩ .nil)⟩) (.cons (.str _) .nil)⟩
    · exact ⟨.ref tF8, .ref tF8, nF8, rfl, fun H => .tup (show SqT K H tF8 [.str (Str.ofString "number")] from .inr ⟨_, _, _, tL8, rfl, rfl, (by show 1 ≤ sizeLine; decide), (.cons ⟨uF8_0, rfl⟩ .nil)⟩) (.cons (.str _) .nil)⟩
    · exact ⟨.ref tF9, .ref tF9, nF9, rfl, fun H => .tup (show SqT K H tF9 [.str (Str.ofString "number")] from .inr ⟨_, _, _, tL9, rfl, rfl, (by show 1 ≤ sizeLine; decide), (.cons ⟨uF9_0, rfl⟩ .nil)⟩) (.cons (.str _) .nil)⟩
  have C_law_pull : Cal l.prog w K mg base 1 "_law_pull" _ _ := ⟨_, _, ok_pull F11 T, PySem.W.mg_of X G a11, F11.kp, b11⟩
  have C_law_bag : Cal l.prog w K mg base 1 "_law_bag" _ _ := ⟨_, _, ok_bag F10 T, PySem.W.mg_of X G a10, F10.kp, b10⟩
  have C_law_letters : Cal l.prog w K mg base 1 "_law_letters" _ _ := ⟨_, _, ok_letters F13, PySem.W.mg_of X G a13, F13.kp, b13⟩
  have C_is_sign : Cal l.prog w K mg base 1 "is_sign" _ _ := ⟨_, _, ok_is_sign F2 T, PySem.W.mg_of X G a2, F2.kp, b2⟩
  have C_is_count : Cal l.prog w K mg base 1 "_is_count" _ _ := ⟨_, _, ok_count F4 T, PySem.W.mg_of X G a4, F4.kp, b4⟩
  have C_is_place : Cal l.prog w K mg base 1 "_is_place" _ _ := ⟨_, _, ok_place F5 T, PySem.W.mg_of X G a5, F5.kp, b5⟩
  have C_is_figure : Cal l.prog w K mg base 1 "_is_figure" _ _ := ⟨_, _, ok_figure F8 T, PySem.W.mg_of X G a8, F8.kp, b8⟩
  have C_law_writer_text : Cal l.prog w K mg base 1 "_law_writer_text" _ _ := ⟨_, _, (ok_law_textD F26 T).imp (sp' := spP K RWT) fun _ _ _ _ h => wt_imp h, PySem.W.mg_of X G a26, F26.kp, b26⟩
  have C_law_number_in : Cal l.prog w K mg base 1 "_law_number_in" _ _ := ⟨_, _, ok_number_in F34 T, PySem.W.mg_of X G a34, F34.kp, b34⟩
  have C_law_of : Cal l.prog w K mg base 2 "_law_of" _ _ := ⟨_, _, ok_of F12 T C_law_pull, PySem.W.mg_of X G a12, F12.kp, b12⟩
  have C_is_name : Cal l.prog w K mg base 2 "is_name" _ _ := ⟨_, _, ok_is_name F1 T C_is_sign, PySem.W.mg_of X G a1, F1.kp, b1⟩
  have C_are_arrows : Cal l.prog w K mg base 2 "_are_arrows" _ _ := ⟨_, _, ok_are F6 T C_is_place C_is_sign, PySem.W.mg_of X G a6, F6.kp, b6⟩
  have C_is_arrow_text : Cal l.prog w K mg base 2 "_is_arrow_text" _ _ := ⟨_, _, ok_arrow_text F9 T C_is_figure, PySem.W.mg_of X G a9, F9.kp, b9⟩
  have C_law_is_name : Cal l.prog w K mg base 2 "_law_is_name" _ _ := ⟨_, _, ok_law_name F21 T C_law_letters, PySem.W.mg_of X G a21, F21.kp, b21⟩
  have C_law_deed_text : Cal l.prog w K mg base 2 "_law_deed_text" _ _ := ⟨_, _, ok_ldeed_text F32 T C_law_writer_text, PySem.W.mg_of X G a32, F32.kp, b32⟩
  have C_law_like := cal_like (P := l.prog) (w := w) (base := base) F14 T (PySem.W.mg_of X G a14) b14 6
  have C_is_writer : Cal l.prog w K mg base 3 "is_writer" _ _ := ⟨_, _, ok_is_writer F3 T C_is_name C_are_arrows (C_is_count.mono (by decide)), PySem.W.mg_of X G a3, F3.kp, b3⟩
  have C_law_names : Cal l.prog w K mg base 3 "_law_names" _ _ := ⟨_, _, ok_names F15 T (C_law_pull.mono (by decide)) C_law_of (C_law_letters.mono (by decide)), PySem.W.mg_of X G a15, F15.kp, b15⟩
  have C_law_signs : Cal l.prog w K mg base 3 "_law_signs" _ _ := ⟨_, _, ok_signs F16 T (C_law_pull.mono (by decide)) C_law_of (C_law_letters.mono (by decide)), PySem.W.mg_of X G a16, F16.kp, b16⟩
  have C_law_writer : Cal l.prog w K mg base 3 "_law_writer" _ _ := ⟨_, _, ok_writer F17 T (C_law_pull.mono (by decide)) C_law_of, PySem.W.mg_of X G a17, F17.kp, b17⟩
  have C_law_far : Cal l.prog w K mg base 3 "_law_far" _ _ := ⟨_, _, ok_farB F31 T (C_law_pull.mono (by decide)) C_law_of, PySem.W.mg_of X G a31, F31.kp, b31⟩
  have C_law_bent_text : Cal l.prog w K mg base 3 "_law_bent_text" _ _ := ⟨_, _, ok_bent F23 T (C_law_pull.mono (by decide)) C_law_of, PySem.W.mg_of X G a23, F23.kp, b23⟩
  have C_law_is_writer : Cal l.prog w K mg base 3 "_law_is_writer" _ _ := ⟨_, _, ok_law_writer F22 T C_law_is_name, PySem.W.mg_of X G a22, F22.kp, b22⟩
  have C_law_arrow_in : Cal l.prog w K mg base 3 "_law_arrow_in" _ _ := ⟨_, _, ok_arrow_in F24 T C_law_is_name, PySem.W.mg_of X G a24, F24.kp, b24⟩
  have C_law_writer_in : Cal l.prog w K mg base 4 "_law_writer_in" _ _ := ⟨_, _, ok_writer_in F25 T C_law_arrow_in C_law_is_writer, PySem.W.mg_of X G a25, F25.kp, b25⟩
  have C_law_every_deed : Cal l.prog w K mg base 4 "_law_every_deed" _ _ := ⟨_, _, ok_every F33 T (C_law_pull.mono (by decide)) (C_law_of.mono (by decide)) C_law_far C_law_writer, PySem.W.mg_of X G a33, F33.kp, b33⟩
  have C_law_deed_in : Cal l.prog w K mg base 5 "_law_deed_in" _ _ := ⟨_, _, ok_deed_in F35 T C_law_writer_in (C_law_number_in.mono (by decide)) (C_law_is_name.mono (by decide)), PySem.W.mg_of X G a35, F35.kp, b35⟩
  have C_read_writer : ∀ j, 3 ≤ j → CalN l.prog w K mg base (j + 1) "read_writer" ["text"] (spRd CB) := fun j h => ⟨_, _, ok_read F7 T h BR (C_is_figure.mono (by omega)) (C_is_arrow_text.mono (by omega)) (C_is_writer.mono (by omega)), PySem.W.mg_of X G a7, F7.kp, b7⟩
  have C_read_number : ∀ j, 3 ≤ j → CalN l.prog w K mg base (j + 1) "read_number" ["text"] (spNumX CB) := fun j h => ⟨_, _, ok_read_numberX F29 T h BR, PySem.W.mg_of X G a29, F29.kp, b29⟩
  have C_read_thing : ∀ j, 3 ≤ j → CalN l.prog w K mg base (j + 2) "_read_thing" ["kind", "text"] (spThX K CB) := fun j h => ⟨_, _, ok_read_thingX F30 T (by omega) BR (C_read_writer j h) (C_read_number j h) (C_is_name.mono (by omega)) (C_is_sign.mono (by omega)), PySem.W.mg_of X G a30, F30.kp, b30⟩
  have C_read_deed : ∀ j, 3 ≤ j → CalN l.prog w K mg base (j + 3) "read_deed" ["text"] (spDeedX K CB) := fun j h => ⟨_, _, ok_read_deedX F28 T (by omega) BR G__FORMS (C_read_thing j h), PySem.W.mg_of X G a28, F28.kp, b28⟩
  have hT : ∀ q, L2N.AskedBy l.prog w K mg base 7 7 ["_law_ask", "_law_told", "_law_word", "_law_field_here", "_law_e"] "_law_tried" (defScope sLTried) (defBody sLTried) q (ttTried K cI cM cL) := fun q => tried_asked (PySem.W.mg_of X G aI0) (PySem.W.mg_of X G aM) (PySem.W.mg_of X G aL) (ok_field (k := 0) F18) (by decide) (by decide) (PySem.W.mg_of X G a18) F18.kp b18
  have mv : ∀ {x ps sp j}, Cal l.prog w K mg base j x ps sp → j ≤ 9 → Cal l.prog w K mg base (6 + 3) x ps sp := fun c h => c.mono h
  exact ok_law52 l27 c27 TB T (C_read_deed 3 (by decide)) (C_read_deed 6 (by decide)) F19 (PySem.W.mg_of X G a19) F19.kp b19 F20 (PySem.W.mg_of X G a20) F20.kp b20 hT (fun q => refused_asked F19 (PySem.W.mg_of X G a19) F19.kp b19 hT) hX FCCB (mv C_law_bag (by decide)) (mv C_law_pull (by decide)) (mv C_law_names (by decide)) (mv C_law_signs (by decide)) (mv C_law_of (by decide)) (mv C_law_every_deed (by decide)) (mv C_law_deed_text (by decide)) (mv C_law_bent_text (by decide)) (mv C_law_deed_in (by decide)) (mv C_law_like (by decide))
end Ink
namespace Ink
open PySem PySem.W PySem.Calls PyProof.Rows HandSHeadRun
def loose0 : List PySem.Str := ["InkError", "BadText", "Missing", "NothingLeft", "MOST_ARROWS", "MOST_COUNT", "_MOST_LETTERS", "_LAST_PLACE", "is_name", "is_sign", "is_writer", "_is_count", "_is_place", "_are_arrows", "read_writer", "_is_figure", "_is_arrow_text", "_MOST_FIGURES", "_FORMS", "read_deed", "read_number", "_read_thing", "_law_bag", "_law_pull", "_law_of", "_law_letters", "_law_like", "_law_field", "_law_tried", "_law_refused"]
def loose1 : List PySem.Str := ["_law_names", "_law_signs", "_law_writer", "_law_is_name", "_law_is_writer", "_law_far", "_law_writer_text", "_law_bent_text", "_law_arrow_in", "_law_writer_in", "_law_deed_text", "_law_number_in", "_law_deed_in", "_law_every_deed"]
def looseAll : List PySem.Str := loose0 ++ loose1
abbrev R0 : OpenRow := OpenLaw.row PySem.Challenge.rw_whoseink_k52_deed_texts_refused
abbrev q0 : Program := view R0.prog [48]
end Ink
open PySem PySem.W PyProof.Rows
local macro_rules | `(tactic| o_head ($f $k $a $e $t)) => `(tactic| (refine Ink.head_kmF "special-get-raises" (r := Ink.R0) (q := Ink.q0) (K := $k) (as := $a) (ek := $e) (ts := $t) (M := 20000) (loose := Ink.looseAll) (d := HandSHeadRun.topDef Ink.R0.prog 48) (kwd := []) (by kernel_rfl) (fun s => by kernel_rfl) (fun w os => by kernel_rfl) (fun w os => by kernel_rfl) (by kernel_rfl) (by kernel_rfl) (by kernel_rfl) (by rfl) (by first | assumption | decide +kernel) (by decide +kernel) ⟨rfl, rfl, rfl, rfl, rfl, by decide +kernel⟩ ?_ ?_))
set_option maxHeartbeats 0 in
theorem PySem.Challenge.cw_whoseink_k52_deed_texts_refused_holds : PySem.Challenge.rw_whoseink_k52_deed_texts_refused.Holds := by
  w_on; o_law; k_head; (next => w_witness2)
  k_fill
  refine LamX.walk_ofTs (l := PySem.Challenge.rw_whoseink_k52_deed_texts_refused) (n := 63) (k := 10) (x := "_law_script") (CX := fun _ => L2.CX0) rfl (by decide) (by kernel_rfl) ⟨rfl, by decide, by decide⟩ (fun w h Y => PySem.W.km_in_of Y) ?F (fun _ _ _ _ _ h => h)
  case F =>
    intro w mg fa h Y KX G hmg0
    have hmg : mg ("law" : PySem.Str) = some (.ref fa) := by
      have e : (HandSHeadRun.topDef Ink.R0.prog 48).name = ("law" : PySem.Str) := by kernel_rfl
      rw [← e]
      exact hmg0
    km_tabs Y
    refine' Ink.all_mk KX G hmg hT8 ?a1 ?l1 ?c1 ?k1 ?a2 ?l2 ?c2 ?k2 ?a3 ?l3 ?c3 ?k3 ?a4 ?l4 ?c4 ?k4 ?a5 ?l5 ?c5 ?k5 ?a6 ?l6 ?c6 ?k6 ?a7 ?l7 ?c7 ?k7 ?a8 ?l8 ?c8 ?k8 ?a9 ?l9 ?c9 ?k9 ?a10 ?l10 ?c10 ?k10 ?a11 ?l11 ?c11 ?k11 ?a12 ?l12 ?c12 ?k12 ?a13 ?l13 ?c13 ?k13 ?a14 ?l14 ?c14 ?k14 ?a15 ?l15 ?c15 ?k15 ?a16 ?l16 ?c16 ?k16 ?a17 ?l17 ?c17 ?k17 ?a18 ?l18 ?c18 ?k18 ?a19 ?l19 ?c19 ?k19 ?a20 ?l20 ?c20 ?k20 ?a21 ?l21 ?c21 ?k21 ?a22 ?l22 ?c22 ?k22 ?a23 ?l23 ?c23 ?k23 ?a24 ?l24 ?c24 ?k24 ?a25 ?l25 ?c25 ?k25 ?a26 ?l26 ?c26 ?k26 ?a27 ?l27 ?c27 ?k27 ?a28 ?l28 ?c28 ?k28 ?a29 ?l29 ?c29 ?k29 ?a30 ?l30 ?c30 ?k30 ?a31 ?l31 ?c31 ?k31 ?a32 ?l32 ?c32 ?k32 ?a33 ?l33 ?c33 ?k33 ?a34 ?l34 ?c34 ?k34 ?a35 ?l35 ?c35 ?k35 ?z1 ?z2 ?z3 ?z4 ?z5 ?z6 ?z7 ?z8 ?z9 ?z10 ?z11 ?z12 ?y1 ?y2 ?y3 ?y4 ?y5 ?hC8 ?nT8 ?aCB ?lCB ?rvCB ?saCB ?suCB ?tyCB ?kpCB ?gaCB ?ggCB ?hdCB ?clCB ?mrCB ?rdCB ?nmCB ?fwordCB ?fnameCB ?fmostCB ?fstripCB ?fnumberCB ?fatCB ?ocN ?ocT ?aI0 ?aM ?aL ?aY ?lY ?cY ?kY ?aE ?lE ?cE ?kE ?tY ?gO ?rO ?yO ?lU ?vV ?zV ?hX ?aF ?lF ?kF ?loF ?nF1 ?tL1 ?nF2 ?tL2 ?nF3 ?tL3 ?nF4 ?tL4 ?nF5 ?tL5 ?nF6 ?tL6 ?nF7 ?tL7 ?nF8 ?tL8 ?nF9 ?tL9 ?qF
    (case a1 => k_is); (case l1 => k_is); (case c1 => k_is); (case k1 => k_is); (case a2 => k_is); (case l2 => k_is)
    (case c2 => k_is); (case k2 => k_is); (case a3 => k_is); (case l3 => k_is); (case c3 => k_is); (case k3 => k_is)
    (case a4 => k_is); (case l4 => k_is); (case c4 => k_is); (case k4 => k_is); (case a5 => k_is); (case l5 => k_is)
    (case c5 => k_is); (case k5 => k_is); (case a6 => k_is); (case l6 => k_is); (case c6 => k_is); (case k6 => k_is)
    (case a7 => k_is); (case l7 => k_is); (case c7 => k_is); (case k7 => k_is); (case a8 => k_is); (case l8 => k_is)
    (case c8 => k_is); (case k8 => k_is); (case a9 => k_is); (case l9 => k_is); (case c9 => k_is); (case k9 => k_is)
    (case a10 => k_is); (case l10 => k_is); (case c10 => k_is); (case k10 => k_is); (case a11 => k_is); (case l11 => k_is)
    (case c11 => k_is); (case k11 => k_is); (case a12 => k_is); (case l12 => k_is); (case c12 => k_is); (case k12 => k_is)
    (case a13 => k_is); (case l13 => k_is); (case c13 => k_is); (case k13 => k_is); (case a14 => k_is); (case l14 => k_is)
    (case c14 => k_is); (case k14 => k_is); (case a15 => k_is); (case l15 => k_is); (case c15 => k_is); (case k15 => k_is)
    (case a16 => k_is); (case l16 => k_is); (case c16 => k_is); (case k16 => k_is); (case a17 => k_is); (case l17 => k_is)
    (case c17 => k_is); (case k17 => k_is); (case a18 => k_is); (case l18 => k_is); (case c18 => k_is); (case k18 => k_is)
    (case a19 => k_is); (case l19 => k_is); (case c19 => k_is); (case k19 => k_is); (case a20 => k_is); (case l20 => k_is)
    (case c20 => k_is); (case k20 => k_is); (case a21 => k_is); (case l21 => k_is); (case c21 => k_is); (case k21 => k_is)
    (case a22 => k_is); (case l22 => k_is); (case c22 => k_is); (case k22 => k_is); (case a23 => k_is); (case l23 => k_is)
    (case c23 => k_is); (case k23 => k_is); (case a24 => k_is); (case l24 => k_is); (case c24 => k_is); (case k24 => k_is)
    (case a25 => k_is); (case l25 => k_is); (case c25 => k_is); (case k25 => k_is); (case a26 => k_is); (case l26 => k_is)
    (case c26 => k_is); (case k26 => k_is); (case a27 => k_is); (case l27 => k_is); (case c27 => k_is); (case k27 => k_is)
    (case a28 => k_is); (case l28 => k_is); (case c28 => k_is); (case k28 => k_is); (case a29 => k_is); (case l29 => k_is)
    (case c29 => k_is); (case k29 => k_is); (case a30 => k_is); (case l30 => k_is); (case c30 => k_is); (case k30 => k_is)
    (case a31 => k_is); (case l31 => k_is); (case c31 => k_is); (case k31 => k_is); (case a32 => k_is); (case l32 => k_is)
    (case c32 => k_is); (case k32 => k_is); (case a33 => k_is); (case l33 => k_is); (case c33 => k_is); (case k33 => k_is)
    (case a34 => k_is); (case l34 => k_is); (case c34 => k_is); (case k34 => k_is); (case a35 => k_is); (case l35 => k_is)
    (case c35 => k_is); (case k35 => k_is); (case z1 => k_is); (case z2 => k_is); (case z3 => k_is); (case z4 => k_is)
    (case z5 => k_is); (case z6 => k_is); (case z7 => k_is); (case z8 => k_is); (case z9 => k_is); (case z10 => k_is)
    (case z11 => k_is); (case z12 => k_is); (case y1 => k_is); (case y2 => k_is); (case y3 => k_is); (case y4 => k_is)
    (case y5 => k_is); (case hC8 => kernel_rfl); (case nT8 => kernel_rfl); (case aCB => k_is); (case lCB => k_is); (case rvCB => rfl)
    (case saCB => k_is); (case suCB => k_is); (case tyCB => k_is); (case kpCB => k_is); (case gaCB => k_is); (case ggCB => k_is)
    (case hdCB => k_is); (case clCB => k_is); (case mrCB => k_is); (case rdCB => k_is); (case nmCB => k_is); (case fwordCB => k_is)
    (case fnameCB => k_is); (case fmostCB => k_is); (case fstripCB => k_is); (case fnumberCB => k_is); (case fatCB => k_is); (case ocN => k_is)
    (case ocT => k_is); (case aI0 => k_is); (case aM => k_is); (case aL => k_is); (case aY => k_is); (case lY => k_is)
    (case cY => k_is); (case kY => k_is); (case aE => k_is); (case lE => k_is); (case cE => k_is); (case kE => k_is)
    (case tY => k_is); (case gO => k_is); (case rO => k_is); (case yO => k_is); (case lU => k_is); (case vV => k_is)
    (case zV => k_is); (case hX => kernel_rfl); (case aF => k_is); (case lF => k_is); (case kF => k_keys); (case loF => first | rfl | decide)
    (case nF1 => k_is); (case tL1 => k_is); (case nF2 => k_is); (case tL2 => k_is); (case nF3 => k_is); (case tL3 => k_is)
    (case nF4 => k_is); (case tL4 => k_is); (case nF5 => k_is); (case tL5 => k_is); (case nF6 => k_is); (case tL6 => k_is)
    (case nF7 => k_is); (case tL7 => k_is); (case nF8 => k_is); (case tL8 => k_is); (case nF9 => k_is); (case tL9 => k_is)
    (case qF => kernel_rfl)
