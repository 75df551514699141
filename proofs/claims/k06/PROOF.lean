import PyProof.Rows.All
import HandS.ForMost
import HandS.Walk
import HandS.IsInst
import HandS.Zip
import HandS.EndBits
import HandS.Evl
import HandS.TupAny
import HandS.Style
import HandS.TupLe
import PyProof.ExcBaseAll.LookupError
import HandS.ExcInitHot
import KE.SortData
import KE.KDictKeyed
import HandS.TupMul
import KE.GoesEnum
import HandS.Star
import HandS.Defaults
import HandS.Deep
import HandS.More
import HandS.FStr
import HandS.Flow
import HandS.ForExc
import HandS.MakeKwOnly
import OpenK.KOps
import HandS.TupSets
import KE.KeyNested
import HandS.ExcIs
import HandS.ExcCtx
import HandS.Hot
import HandS.HotCalls
import HandS.Lambda
import HandS.ExcField
import HandS.ExcInit
import KE.KExcMore
import KE.KTypeName
import KE.KCallOwn
import PyProof.InstEq
import HandS.Small
import KE.KStateDown
import KE.KNestM
import HandS.Head0
import HandS.Head1
import HandS.Head2
import HandS.EndTab
import KE.KNestM
import KE.KStateDown
import HandS.Head0
import HandS.Head1
import HandS.Head2
import PySem.Challenge.RW_whoseink_k06_companies_made
set_option Elab.async false
set_option linter.all false
set_option maxRecDepth 100000
set_option maxHeartbeats 4000000
namespace Ink
open PySem PySem.Spec PyProof.Rows L2
/-! ### a def that is called, by its module name -/
def Cal (P : Program) (w : World) (K : PySem.W.Frag) (mg : Str → Option Value) (base : Heap) (k : Nat) (x : Str) (ps : List Str) (sp : Sp) : Prop :=
  ∃ f fd, FnOk P w K mg base CX0 k f fd ps sp ∧ mg x = some (.ref f) ∧ PySem.W.keepIn K (.ref f) = true ∧ Binds K fd ps []
theorem Cal.mono {P : Program} {w : World} {K : PySem.W.Frag} {mg : Str → Option Value} {base : Heap} {j k : Nat} {x : Str} {ps : List Str} {sp : Sp} (c : Cal P w K mg base j x ps sp) (h : j ≤ k) : Cal P w K mg base k x ps sp := by
  obtain ⟨f, fd, G, g, kp, b⟩ := c
  exact ⟨f, fd, G.mono h, g, kp, b⟩
section
variable {X : Cx} {k : Nat} {x : Str} {ps : List Str} {sp : Sp} {p pos : Pos} {e : Expr} {es : List Expr} {t : TA}
theorem pe_callC (c : Cal X.prog X.w X.K X.mg X.base k x ps sp) (hr : Room k X.A) (hg : Gl X x)
    (ha : PA X (e :: es) t) (hdb : (x == ("__debug__" : Str)) = false := by decide) (he : starEach (e :: es) X.env = (false, eval e X.env) :: starEach es X.env := by rfl) (hpl : (backTo pos (starEach es X.env)).any (·.1) = false := by rfl)
    (hp : ∀ f fd, FnOk X.prog X.w X.K X.mg X.base CX0 k f fd ps sp → Passes CX0 X E0 := by exact fun _ _ _ => pass0) :
    PE X (.Call (.Name x p) (e :: es) [] pos) (tCall sp [] E0 t) := by
  obtain ⟨f, fd, G, g, kp, b⟩ := c
  exact pe_call G hr hg g kp b .nil pass0 ha hdb he hpl
theorem pe_callC0 (c : Cal X.prog X.w X.K X.mg X.base k x ps sp) (hr : Room k X.A) (hg : Gl X x) (hdb : (x == ("__debug__" : Str)) = false := by decide) :
    PE X (.Call (.Name x p) [] [] pos) (tCall sp [] E0 tNil) := by
  obtain ⟨f, fd, G, g, kp, b⟩ := c
  exact pe_call0 G hr hg g kp b .nil pass0 hdb
end
theorem pe_globI {X : Cx} {x : Str} {n : Int} {pos : Pos} (hg : Gl X x) (hm : ∃ t, X.mg x = some (.int n t)) (hd : (x == ("__debug__" : Str)) = false := by decide) : PE X (.Name x pos) (tC (.int n)) := by
  obtain ⟨t, e⟩ := hm
  exact pe_glob hg e ⟨t, rfl⟩ hd
/-! ### heaps -/
/-- all but what stands at a is as it was -/
def Keep (a : Addr) (H H' : Hp) : Prop := ∀ b o, b ≠ a → H b = some o → H' b = some o
theorem Keep.refl {a : Addr} (H : Hp) : Keep a H H := fun _ _ _ h => h
theorem Keep.trans {a : Addr} {H H1 H2 : Hp} (x : Keep a H H1) (y : Keep a H1 H2) : Keep a H H2 := fun b o n h => y b o n (x b o n h)
theorem Keep.of_same {a : Addr} {H H' : Hp} (h : Same H H') : Keep a H H' := fun b o _ e => h b o e
theorem Keep.at {a : Addr} {H : Hp} {o : HO} : Keep a H (upd H a o) := fun b _ n h => by
  rw [upd_ne n]
  exact h
theorem Keep.seq {K : PySem.W.Frag} {a b : Addr} {H H' : Hp} {xs : List V} (e : Keep a H H') (n : b ≠ a) (h : SqL K H b xs) : SqL K H' b xs := by
  rcases h with (h | ⟨o, h⟩) | h
  · exact .inl (.inl (e _ _ n h))
  · exact .inl (.inr ⟨o, e _ _ n h⟩)
  · exact .inr h
theorem same_new {H : Hp} {p : Addr} {o : HO} (h : H p = none) : Same H (upd H p o) := fun b x e => by
  rw [upd_ne (ne_of_none e h)]
  exact e
theorem same_tup {K : PySem.W.Frag} {H H' : Hp} {a : Addr} {xs : List V} (e : Same H H') (h : SqT K H a xs) : SqT K H' a xs := Evl.ex_t e h
theorem atI_of {α : Type} {xs : List α} {r : Int} {v : α} (h0 : 0 ≤ r) (h : xs[r.toNat]? = some v) : atI xs r = some v := by
  have e : ((r.toNat : Nat) : Int) = r := by omega
  rw [← e]
  exact atI_nat h
theorem walk_range0 {n : Nat} : Walk (Itr 0 n) n (fun _ => True) (YFn fun i => .int (i : Int)) :=
  walk_range.mono (fun _ h => h) fun i H x H' _ _ y => ⟨y.1, y.2.trans (by show V.int (0 + (i : Int)) = V.int (i : Int); rw [Int.zero_add])⟩
/-! ### the bag of the drawn numbers -/
def BagAt (H : Hp) (a l : Addr) : Prop := ∃ (ns : List Int) (p h s : Int), H a = some (.lst [.ref l, .int p, .int h, .int s]) ∧ H l = some (.lst (ns.map V.int)) ∧ 0 ≤ p ∧ 0 ≤ h ∧ 0 ≤ s ∧ s < 2147483563
theorem bag_ne {H : Hp} {a l : Addr} {ns : List Int} {x y z w : V} (h : H a = some (.lst [x, y, z, w])) (hx : ∀ i, x ≠ .int i) (h' : H l = some (.lst (ns.map V.int))) : l ≠ a := by
  intro e
  rw [e, h] at h'
  injection h' with h'
  injection h' with h'
  cases ns with
  | nil => cases h'
  | cons n r =>
    injection h' with h1 _
    exact hx n h1
theorem BagAt.same {H H' : Hp} {a l : Addr} (b : BagAt H a l) (e : Same H H') : BagAt H' a l := by
  obtain ⟨ns, p, h, s, h1, h2, r⟩ := b
  exact ⟨ns, p, h, s, e _ _ h1, e _ _ h2, r⟩
theorem BagAt.ne {H : Hp} {a l D : Addr} (b : BagAt H a l) (h : H D = none) : a ≠ D ∧ l ≠ D := by
  obtain ⟨ns, p, h', s, h1, h2, r⟩ := b
  exact ⟨ne_of_none h1 h, ne_of_none h2 h⟩
theorem BagAt.upd {H : Hp} {a l D : Addr} {o : HO} (b : BagAt H a l) (n : a ≠ D ∧ l ≠ D) : BagAt (upd H D o) a l := by
  obtain ⟨ns, p, h, s, h1, h2, r⟩ := b
  exact ⟨ns, p, h, s, by rw [upd_ne n.1]; exact h1, by rw [upd_ne n.2]; exact h2, r⟩
theorem Keep.mut {a D : Addr} {H H' : Hp} {o : HO} (k : Keep a H H') (h : H D = none) : Keep a H (L2.upd H' D o) := fun b u n e => by
  rw [upd_ne (ne_of_none e h)]
  exact k b u n e
theorem Keep.seqT {K : PySem.W.Frag} {a b : Addr} {H H' : Hp} {xs : List V} (e : Keep a H H') (n : b ≠ a) (h : SqT K H b xs) : SqT K H' b xs := by
  rcases h with (h | ⟨o, h⟩) | h
  · exact .inl (.inl (e _ _ n h))
  · exact .inl (.inr ⟨o, e _ _ n h⟩)
  · exact .inr h
/-- the bag's own list, written anew -/
theorem BagAt.set {H : Hp} {a l : Addr} {ns : List Int} {p h s p' h' s' : Int} (h1 : H a = some (.lst [.ref l, .int p, .int h, .int s])) (h2 : H l = some (.lst (ns.map V.int)))
    (r : 0 ≤ p' ∧ 0 ≤ h' ∧ 0 ≤ s' ∧ s' < 2147483563) : BagAt (L2.upd H a (.lst [.ref l, .int p', .int h', .int s'])) a l :=
  ⟨ns, p', h', s', upd_same, by rw [upd_ne (bag_ne h1 (fun _ => nofun) h2)]; exact h2, r⟩
def spPull : Sp := fun vs H Q _ => ∃ (a l : Addr) (m : Int), vs = [.ref a, .int m] ∧ BagAt H a l ∧ 0 < m ∧ m < 1073741824 ∧ ∀ r H', 0 ≤ r → r < m → BagAt H' a l → Keep a H H' → Q (.int r) H'
def spBag (K : PySem.W.Frag) : Sp := fun vs H Q _ => ∃ (c : Addr) (ns : List Int), vs = [.ref c] ∧ SqL K H c (ns.map V.int) ∧ ns.length ≤ 63 ∧ ∀ a l H', H a = none → BagAt H' a l → Same H H' → Q (.ref a) H'
/-- x is a list, a tuple or a text of these things, apart from the bag -/
def ItemsOf (K : PySem.W.Frag) (H : Hp) (a : Addr) (x : V) (xs : List V) : Prop := (∃ p, x = .ref p ∧ p ≠ a ∧ (SqL K H p xs ∨ SqT K H p xs)) ∨ ∃ z : Str, x = .str z ∧ xs = z.cps.toList.map fun c => .str ⟨#[c]⟩
def spOf (K : PySem.W.Frag) : Sp := fun vs H Q _ => ∃ (a l : Addr) (x : V) (xs : List V), vs = [.ref a, x] ∧ BagAt H a l ∧ ItemsOf K H a x xs ∧ 0 < xs.length ∧ xs.length ≤ 1000 ∧ ∀ v H', v ∈ xs → BagAt H' a l → Keep a H H' → Q v H'
section
variable {K : PySem.W.Frag} {σ : L2.St} {H : Hp} {Q : VK}
theorem rd_ix {i : Nat} {a : Addr} {xs : List V} {j : Nat} {v : V} (hs : σ[i]? = some (some (.ref a))) (h : SqL K H a xs) (hv : xs[j]? = some v) (q : Q v H) : tOp (rIxL K) (tVar i) (tC (.int (j : Int))) σ H Q :=
  ⟨.ref a, hs, a, xs, (j : Int), v, rfl, rfl, h, atI_nat hv, q⟩
end
end Ink
namespace Ink
open PySem PySem.Spec PyProof.Rows L2
def topS (i : Nat) : Stmt := PySem.Challenge.pw_whoseink_k06_companies_made.main.body.getD i (.Pass ⟨0, 0, 0, 0⟩)
abbrev sIsName : Stmt := topS 14
theorem sc_is_name : FnScope ["text", "letter"] ["text"] (defScope sIsName) := ⟨rfl, rfl, rfl, by decide +kernel, rfl, by decide +kernel, by decide +kernel⟩
abbrev sIsSign : Stmt := topS 15
theorem sc_is_sign : FnScope ["text"] ["text"] (defScope sIsSign) := ⟨rfl, rfl, rfl, by decide +kernel, rfl, by decide +kernel, by decide +kernel⟩
abbrev sIsWriter : Stmt := topS 16
theorem sc_is_writer : FnScope ["thing", "name", "arrows", "patience", "cap"] ["thing"] (defScope sIsWriter) := ⟨rfl, rfl, rfl, by decide +kernel, rfl, by decide +kernel, by decide +kernel⟩
abbrev sIsCount : Stmt := topS 17
theorem sc__is_count : FnScope ["number"] ["number"] (defScope sIsCount) := ⟨rfl, rfl, rfl, by decide +kernel, rfl, by decide +kernel, by decide +kernel⟩
abbrev sIsPlace : Stmt := topS 18
theorem sc__is_place : FnScope ["number"] ["number"] (defScope sIsPlace) := ⟨rfl, rfl, rfl, by decide +kernel, rfl, by decide +kernel, by decide +kernel⟩
abbrev sAreArrows : Stmt := topS 19
theorem sc__are_arrows : FnScope ["arrows", "heads", "place", "sign", "to", "_", "head", "following"] ["arrows"] (defScope sAreArrows) := ⟨rfl, rfl, rfl, by decide +kernel, rfl, by decide +kernel, by decide +kernel⟩
abbrev sLBag : Stmt := topS 33
theorem sc__law_bag : FnScope ["_law_script", "_law_salt", "_law_cell"] ["_law_script"] (defScope sLBag) := ⟨rfl, rfl, rfl, by decide +kernel, rfl, by decide +kernel, by decide +kernel⟩
abbrev sLPull : Stmt := topS 34
theorem sc__law_pull : FnScope ["_law_bag_here", "_law_many", "_law_cell", "_law_got", "_law_seed"] ["_law_bag_here", "_law_many"] (defScope sLPull) := ⟨rfl, rfl, rfl, by decide +kernel, rfl, by decide +kernel, by decide +kernel⟩
abbrev sLOf : Stmt := topS 35
theorem sc__law_of : FnScope ["_law_bag_here", "_law_things"] ["_law_bag_here", "_law_things"] (defScope sLOf) := ⟨rfl, rfl, rfl, by decide +kernel, rfl, by decide +kernel, by decide +kernel⟩
abbrev sLLetters : Stmt := topS 36
theorem sc__law_letters : FnScope [] [] (defScope sLLetters) := ⟨rfl, rfl, rfl, by decide +kernel, rfl, by decide +kernel, by decide +kernel⟩
abbrev sLLike : Stmt := topS 37
theorem sc__law_like : FnScope ["_law_found", "_law_due", "_law_one", "_law_other"] ["_law_found", "_law_due"] (defScope sLLike) := ⟨rfl, rfl, rfl, by decide +kernel, rfl, by decide +kernel, by decide +kernel⟩
abbrev sLNames : Stmt := topS 41
theorem sc__law_names : FnScope ["_law_bag_here", "_law_many", "_law_size", "_law_letters_here", "_law_at", "_law_start", "_law_step", "_law_base", "_law_found", "_law_k", "_law_sign", "_law_name"] ["_law_bag_here", "_law_many"] (defScope sLNames) := ⟨rfl, rfl, rfl, by decide +kernel, rfl, by decide +kernel, by decide +kernel⟩
abbrev sLSigns : Stmt := topS 42
theorem sc__law_signs : FnScope ["_law_bag_here", "_law_limit", "_law_start", "_law_step", "_law_many", "_law_letters_here", "_law_k"] ["_law_bag_here", "_law_limit"] (defScope sLSigns) := ⟨rfl, rfl, rfl, by decide +kernel, rfl, by decide +kernel, by decide +kernel⟩
abbrev sLWriter : Stmt := topS 43
theorem sc__law_writer : FnScope ["_law_bag_here", "_law_name", "_law_places", "_law_signs_here", "_law_thick", "_law_lines", "_law_place", "_law_sign", "_law_counts"] ["_law_bag_here", "_law_name", "_law_places", "_law_signs_here", "_law_thick"] (defScope sLWriter) := ⟨rfl, rfl, rfl, by decide +kernel, rfl, by decide +kernel, by decide +kernel⟩
abbrev sNeedCompany : Stmt := topS 26
theorem sc__need_company : FnScope ["writers", "at", "writer", "names", "name"] ["writers"] (defScope sNeedCompany) := ⟨rfl, rfl, rfl, by decide +kernel, rfl, by decide +kernel, by decide +kernel⟩
abbrev sCompanyInit : Stmt := inClass (topS 25) 0
theorem sc_Company___init__ : FnScope ["self", "writers"] ["self", "writers"] (defScope sCompanyInit) := ⟨rfl, rfl, rfl, by decide +kernel, rfl, by decide +kernel, by decide +kernel⟩
abbrev sCompanyWriters : Stmt := inClass (topS 25) 5
theorem sc_Company_writers : FnScope ["self"] ["self"] (defScope sCompanyWriters) := ⟨rfl, rfl, rfl, by decide +kernel, rfl, by decide +kernel, by decide +kernel⟩
abbrev sLCompany : Stmt := topS 44
theorem sc__law_company : FnScope ["_law_bag_here", "_law_limit", "_law_signs_here", "_law_thick", "_law_found", "_law_name"] ["_law_bag_here", "_law_limit", "_law_signs_here"] (defScope sLCompany) := ⟨rfl, rfl, rfl, by decide +kernel, rfl, by decide +kernel, by decide +kernel⟩
abbrev sLFresh : Stmt := topS 48
theorem sc__law_fresh : FnScope ["_law_names_here", "_law_name"] ["_law_names_here"] (defScope sLFresh) := ⟨rfl, rfl, rfl, by decide +kernel, rfl, by decide +kernel, by decide +kernel⟩
abbrev sLIsName : Stmt := topS 45
theorem sc__law_is_name : FnScope ["_law_text", "_law_sign"] ["_law_text"] (defScope sLIsName) := ⟨rfl, rfl, rfl, by decide +kernel, rfl, by decide +kernel, by decide +kernel⟩
abbrev sLIsWriter : Stmt := topS 46
theorem sc__law_is_writer : FnScope ["_law_thing", "_law_place", "_law_sign", "_law_to", "_law_good", "_law_keys", "_law_rising", "_law_arrow", "_law_k"] ["_law_thing"] (defScope sLIsWriter) := ⟨rfl, rfl, rfl, by decide +kernel, rfl, by decide +kernel, by decide +kernel⟩
abbrev sWriterText : Stmt := topS 20
theorem sc_writer_text : FnScope ["writer", "name", "arrows", "patience", "cap", "told", "place", "sign", "to"] ["writer"] (defScope sWriterText) := ⟨rfl, rfl, rfl, by decide +kernel, rfl, by decide +kernel, by decide +kernel⟩
abbrev sLWriterText : Stmt := topS 47
theorem sc__law_writer_text : FnScope ["_law_writer_here", "_law_rows", "_law_place", "_law_sign", "_law_to"] ["_law_writer_here"] (defScope sLWriterText) := ⟨rfl, rfl, rfl, by decide +kernel, rfl, by decide +kernel, by decide +kernel⟩
abbrev sInkerrorInit : Stmt := inClass (topS 2) 0
theorem sc_InkError___init__ : FnScope ["self", "told"] ["self", "told"] (defScope sInkerrorInit) := ⟨rfl, rfl, rfl, by decide +kernel, rfl, by decide +kernel, by decide +kernel⟩
abbrev sBadwriterInit : Stmt := inClass (topS 3) 0
theorem sc_BadWriter___init__ : FnScope ["self", "at"] ["self", "at"] (defScope sBadwriterInit) := ⟨rfl, rfl, rfl, by decide +kernel, rfl, by decide +kernel, by decide +kernel⟩
abbrev sTakenInit : Stmt := inClass (topS 4) 0
theorem sc_Taken___init__ : FnScope ["self", "name"] ["self", "name"] (defScope sTakenInit) := ⟨rfl, rfl, rfl, by decide +kernel, rfl, by decide +kernel, by decide +kernel⟩
abbrev sLField : Stmt := topS 38
theorem sc__law_field : FnScope ["_law_e", "_law_plain"] ["_law_e"] (defScope sLField) := ⟨rfl, rfl, rfl, by decide +kernel, rfl, by decide +kernel, by decide +kernel⟩
abbrev sLTried : Stmt := topS 39
theorem sc__law_tried : FnScope ["_law_ask", "_law_told", "_law_word", "_law_field_here", "_law_e"] ["_law_ask"] (defScope sLTried) := ⟨rfl, rfl, rfl, by decide +kernel, rfl, by decide +kernel, by decide +kernel⟩
abbrev sLRefused : Stmt := topS 40
theorem sc__law_refused : FnScope ["_law_ask"] ["_law_ask"] (defScope sLRefused) := ⟨rfl, rfl, rfl, by decide +kernel, rfl, by decide +kernel, by decide +kernel⟩
abbrev sCompanyEq : Stmt := inClass (topS 25) 1
theorem sc_Company___eq__ : FnScope ["self", "other"] ["self", "other"] (defScope sCompanyEq) := ⟨rfl, rfl, rfl, by decide +kernel, rfl, by decide +kernel, by decide +kernel⟩
abbrev sCompanyLen : Stmt := inClass (topS 25) 2
theorem sc_Company___len__ : FnScope ["self"] ["self"] (defScope sCompanyLen) := ⟨rfl, rfl, rfl, by decide +kernel, rfl, by decide +kernel, by decide +kernel⟩
abbrev sCompanyRepr : Stmt := inClass (topS 25) 3
theorem sc_Company___repr__ : FnScope ["self"] ["self"] (defScope sCompanyRepr) := ⟨rfl, rfl, rfl, by decide +kernel, rfl, by decide +kernel, by decide +kernel⟩
abbrev sCompanyStr : Stmt := inClass (topS 25) 4
theorem sc_Company___str__ : FnScope ["self", "writer"] ["self"] (defScope sCompanyStr) := ⟨rfl, rfl, rfl, by decide +kernel, rfl, by decide +kernel, by decide +kernel⟩
abbrev sCompanyNames : Stmt := inClass (topS 25) 6
theorem sc_Company_names : FnScope ["self", "writer"] ["self"] (defScope sCompanyNames) := ⟨rfl, rfl, rfl, by decide +kernel, rfl, by decide +kernel, by decide +kernel⟩
abbrev sLCrewWord : Stmt := topS 49
theorem sc__law_crew_word : FnScope ["_law_crew", "_law_bad", "_law_names_here", "_law_twice_named", "_law_at", "_law_writer_here", "_law_name"] ["_law_crew"] (defScope sLCrewWord) := ⟨rfl, rfl, rfl, by decide +kernel, rfl, by decide +kernel, by decide +kernel⟩
abbrev sLBentCrew : Stmt := topS 50
theorem sc__law_bent_crew : FnScope ["_law_bag_here", "_law_crew", "_law_at", "_law_pick", "_law_some"] ["_law_bag_here", "_law_crew"] (defScope sLBentCrew) := ⟨rfl, rfl, rfl, by decide +kernel, rfl, by decide +kernel, by decide +kernel⟩
abbrev sLaw : Stmt := topS 51
theorem sc_law : FnScope ["_law_script", "_law_bag_here", "_law_turn", "_law_crew", "_law_bend", "_law_handed", "_law_due", "_law_names_here", "_law_made", "_law_other", "_law_again", "_law_told", "_law_text", "_law_shown", "_law_writer_here", "_law_odd"] ["_law_script"] (defScope sLaw) := ⟨rfl, rfl, rfl, by decide +kernel, rfl, by decide +kernel, by decide +kernel⟩
structure Txt (mg : Str → Option Value) : Prop where
  m_max : mg "max" = none
  m_len : mg "len" = none
  m_all : mg "all" = none
  m_any : mg "any" = none
  m_list : mg "list" = none
  m_range : mg "range" = none
  m_zip : mg "zip" = none
  m_isinstance : mg "isinstance" = none
  m_tuple : mg "tuple" = none
  m_bool : mg "bool" = none
  m_int : mg "int" = none
  m_str : mg "str" = none
  m_repr : mg "repr" = none
  m_sorted : mg "sorted" = none
  m_enumerate : mg "enumerate" = none
  e__MOST_LETTERS : ∃ t, mg "_MOST_LETTERS" = some (.int 6 t)
  e_MOST_ARROWS : ∃ t, mg "MOST_ARROWS" = some (.int 9 t)
  e_MOST_COUNT : ∃ t, mg "MOST_COUNT" = some (.int 3 t)
  e__LAST_PLACE : ∃ t, mg "_LAST_PLACE" = some (.int 2 t)
  e_MOST_WRITERS : ∃ t, mg "MOST_WRITERS" = some (.int 3 t)
  e_MOST_STANDS : ∃ t, mg "MOST_STANDS" = some (.int 60 t)
end Ink
namespace PySem.W
open PySem PySem.Spec PySem.Calls PyProof.Rows Builtin Builtin.ObjectAttr Builtin.Getset_descriptor
section
variable {prog : Program} {w : World} {A : Around} {E : Value → Shared → Prop} {s : Shared} {K : Frag} {R : Result → Shared → Prop} {C : Addr}
/-- the kept name of an own class -/
theorem own_name_get {v : Value} {o : Obj} (X : K.In s.heap) (hC : K.lookup C = some o) (ho : (o.slots[2]?).join = some v) (ht : typeIn K (.ref C) = some (.type "type")) (h : R (.ok (.ret v)) s) :
    codeAny (model prog w) A (.call (.builtin "getset_descriptor.__get__") ⟨[.builtin "type.__name__", .ref C, .type "type"], []⟩) R s := by
  obtain ⟨hh, g, dr, t, os⟩ := s
  have L0 : Looks (model prog w) hh (typeOf (.ref C)) (.type "type") := looks_typeIn X ht
  have L1 : Looks (model prog w) hh (isSubtype (.type "type") (.type "type")) true := Looks.of_pure (by rw [isSubtype_type]; kernel_rfl)
  have hx : hh.get? C = some o := X _ _ hC
  refine codeAny_call_builtin KF.slot_gs.plain KF.entry_gs (KF.slot_gs.check _ _ _ _ _ _ _ _ ktyn_type (KF.args_gs _ _ _) ?_)
  unfold Builtin.«getset_descriptor.__get__» descrGet
  have hd : descrGetArgs ⟨[.builtin "type.__name__", .ref C, .type "type"], []⟩ = pure (.builtin "type.__name__", some (.ref C), given (.type "type")) := by kernel_rfl
  rw [hd]
  refine wpAny_bind (wpAny_pure ?_)
  unfold descrGetter descrCheckInstance descrNameAndClass isInstance
  simp only [ktyn_owner]
  repeat lk
  refine ⟨Code.quiet_builtin _ (by decide +kernel), codeAny_builtin ktyn_entry ?_⟩
  unfold Builtin.«type.__name__»
  dsimp only
  unfold keptObject PySem.slotAt
  dsimp only
  refine wpAny_bind (wpAny_bind (wpAny_loadPart hx ?_))
  refine wpAny_pure ?_
  rw [ho]
  dsimp only
  first
    | exact wpAny_pure h
    | exact wpAny_bind (wpAny_pure (wpAny_pure h))
    | exact wpAny_bind (wpAny_pure h)
/-- `C.__name__`, C an own class -/
theorem own_name_attr {expr : Bool} {Q : Value → Shared → Prop} {v : Value} {o : Obj} (X : K.In s.heap) (hC : K.lookup C = some o) (ho : (o.slots[2]?).join = some v) (hv : handedIn v = true) (ht : typeIn K (.ref C) = some (.type "type")) (hr : readsIn K C (.type "type") = true)
    (e : findCls K (.ref C) (.type "type") "__name__" = some (.get (.builtin "getset_descriptor.__get__") (.builtin "type.__name__") (.ref C) (.type "type")))
    (h : Q v { s with toks := s.toks + 1 }) : wpAny (model prog w) A (getAttr (.ref C) "__name__" expr) Q E s := by
  refine cls_bind X hr e (wpAny_call (own_name_get (s := { s with toks := s.toks + 1 }) X hC ho ht ?_))
  exact handed_on hv h
/-- `e.__class__`, e an exception of an own class, its dict none as yet -/
theorem exc_class_attr {D x : Addr} {ox : Obj} {expr : Bool} {Q : Value → Shared → Prop} (hga : findIn K (.ref D) "__getattribute__" = some (some (.builtin "BaseException.__getattribute__"))) (hgt : findIn K (.ref D) "__getattr__" = some none) (hsub : subIn K (.ref D) (.type "BaseException") = some true)
    (hdct : hasDictIn K D = true) (ha : findIn K (.ref D) "__class__" = some (some (.builtin "object.__class__")))
    (hn : specialIn K (.builtin "object.__class__") "__get__" = some (some (.builtin "getset_descriptor.__get__"))) (htk : takesIn K (.builtin "object.__class__") = some true) (hm : mroIn K D (.type "object") = some true)
    (X : K.In s.heap) (I : InstAt s.heap x ox D none) (h : Q (.ref D) { s with toks := s.toks + 1 }) : wpAny (model prog w) A (getAttr (.ref x) "__class__" expr) Q E s := by
  have hf : findObj K D none "__class__" = some (.bind (.builtin "getset_descriptor.__get__") (.builtin "object.__class__")) := findObj_dataN (by obtain ⟨cd, hc, _⟩ := any_some hdct; rw [hc]; rfl) ha hn htk
  obtain ⟨hp, g, d, t, os⟩ := s
  have L0 := I.type (M := model prog w)
  have L1 := looks_findIn (M := model prog w) X hga
  have L2 := looks_findIn (M := model prog w) X hgt
  have L3 := looks_find (M := model prog w) X I hf
  have sub : Looks (model prog w) hp (isInstance (.ref x) (.type "BaseException")) true := L0.andThen (looks_subIn X hsub)
  have hx0 : (expr && onTheHeap (Value.builtin "BaseException.__getattribute__")) = false := by cases expr <;> rfl
  have hx2 : (Value.builtin "BaseException.__getattribute__" == Value.builtin "object.__getattribute__") = false := by decide +kernel
  have hx1 : (onTheHeap (Value.ref D) && Value.builtin "BaseException.__getattribute__" == Value.builtin "object.__getattribute__") = false := by rw [hx2]; rfl
  unfold getAttr getAttrBy
  refine wpAny_bind (wpAny_mkText (wpAny_holding (wpAny_bind (L0.at (wpAny_bind (L1.at ?_))))))
  show wpAny _ _ (if (onTheHeap (Value.ref D) && Value.builtin "BaseException.__getattribute__" == Value.builtin "object.__getattribute__") = true then _ else _) _ _ _
  rw [hx1, if_neg Bool.false_ne_true]
  unfold getAttrByItsOwn hookBefore
  refine wpAny_bind ?_
  rw [if_pos (show onTheHeap (Value.ref D) = true from rfl)]
  refine L2.at ?_
  refine wpAny_bind (wpAny_attempt (wpAny_holding ?_))
  unfold callGetattribute
  rw [hx0, if_neg Bool.false_ne_true]
  unfold boundAndCalled
  rw [PySem.F.excAttr_ValueError.ga.bind (.ref x)]
  refine wpAny_bind (wpAny_pure ?_)
  show wpAny _ _ (call (.builtin "BaseException.__getattribute__") [.ref x, .str "__class__" t]) _ _ _
  refine wpAny_call (codeAny_call_builtin PySem.F.excAttr_ValueError.ga.plain PySem.F.entry_bexc_ga ?_)
  refine @check_slot (model prog w) _ _ ⟨hp, g, d, t + 1, os⟩ "BaseException.__getattribute__" "BaseException" "__getattribute__" (.ref x) [.str "__class__" t] [] _ (by decide +kernel) (by decide +kernel) sub (PySem.F.args_bexc_ga (.ref x) (.str "__class__" t)) ?_
  unfold Builtin.«object.__getattribute__»
  refine wpAny_bind (wpAny_of_eq (a := ((Value.ref x : Value), [Value.str "__class__" t])) (by first | rfl | (simp only [slotArgs]; rfl)) ?_)
  refine wpAny_bind (wpAny_pure (wpAny_bind (L0.at (wpAny_bind (L3.at ?_)))))
  show wpAny _ _ (holding [Value.builtin "object.__class__"] (call (.builtin "getset_descriptor.__get__") [.builtin "object.__class__", .ref x, .ref D]) >>= ret) _ _ _
  refine wpAny_bind (wpAny_holding (wpAny_call (class_get (s := ⟨hp, g, d, t + 1, os⟩) (ox := ox) (od := none) X I hm ?_)))
  refine wpAny_pure ?_
  show wpAny _ _ (handedOut (.ref D)) _ _ _
  rw [handedOut_of (v := .ref D) rfl]
  first
    | exact wpAny_pure h
    | exact wpAny_pure (wpAny_pure h)
    | exact wpAny_bind (wpAny_pure h)
end
end PySem.W
namespace L2
open PySem PySem.Spec PyProof.Rows
/-- what an own refusal's class says of `__class__` and `__name__` -/
structure Named (K : PySem.W.Frag) (C : Addr) (nm : Str) : Prop where
  ex : ExcC K C
  ox : OexC K C
  nm : ∃ o tk, K.lookup C = some o ∧ (o.slots[2]?).join = some (.str nm tk)
  rd : PySem.W.readsIn K C (.type "type") = true
  fd : PySem.W.findCls K (.ref C) (.type "type") "__name__" = some (.get (.builtin "getset_descriptor.__get__") (.builtin "type.__name__") (.ref C) (.type "type"))
/-- o.__class__.__name__, o a refusal that has no field yet -/
def tCN (K : PySem.W.Frag) (to : TE) : TE := fun σ H Q => to σ H fun x H1 => ∃ (a C : Addr) (nm : Str), x = .ref a ∧ Named K C nm ∧ H1 a = some (exo a C none) ∧ Q (.str nm) H1
section
variable {X : Cx} {o e : Expr} {es : List Expr} {to te : TE} {ta : TA} {p p' p1 p2 pos : Pos}
theorem pe_cname (ho : PE X o to) (h1 : attributeBase o "__class__" X.env (eval o X.env) = eval o X.env := by rfl) (h2 : attributeBase (.Attribute o "__class__" p) "__name__" X.env (eval (.Attribute o "__class__" p) X.env) = eval (.Attribute o "__class__" p) X.env := by rfl) :
    PE X (.Attribute (.Attribute o "__class__" p) "__name__" p') (tCN X.K to) := by
  refine ⟨fun pins s σ H Q I h => ?_⟩
  refine attr_of h2 (attr_of h1 (thn (ho.run pins s σ H _ I h) fun u s1 ⟨x, H1, I1, rx, a, C, nm, ex, N, ea, q⟩ => ?_))
  subst ex
  obtain rfl : u = Value.ref a := rx
  obtain ⟨t1, hoe⟩ := exo_at I1.hok ea
  obtain ⟨oc, tk, hoc, hsl⟩ := N.nm
  have T := N.ex
  refine PySem.W.exc_class_attr (ox := ({ cls := .ref C, dict := none, data := .fields #[.ref t1, .none, .none, .none, .bool false, .none] } : Obj)) T.hg T.hk T.hs T.hd T.ha T.hn T.ht T.hm I1.kIn ⟨hoe, rfl, rfl, trivial⟩ ?_
  refine PySem.W.own_name_attr (s := { s1 with toks := s1.toks + 1 }) I1.kIn hoc hsl rfl N.ox.tyC N.rd N.fd ?_
  exact ⟨.str nm, H1, (I1.tok _).tok _, ⟨tk, rfl⟩, q⟩
/-- B.__init__(e, ..), B an own class: its own def runs -/
structure OwnI (K : PySem.W.Frag) (B f : Addr) : Prop where
  ga : PySem.W.specialIn K (.ref B) "__getattribute__" = some (some (.builtin "type.__getattribute__"))
  rd : PySem.W.readsIn K B (.type "type") = true
  ty : PySem.W.typeIn K (.ref B) = some (.type "type")
  fd : PySem.W.findCls K (.ref B) (.type "type") "__init__" = some (.val (.ref f))
  kp : PySem.W.keepIn K (.ref f) = true
theorem pe_owninit {pl : Sem Bool} {x : Str} {B f : Addr} {CX : CXT} {k : Nat} {fd : FuncData} {ps : List Str} {sp : Sp} {ds : List Value} {dvs : List V} {Ex : XK} (O : OwnI X.K B f) (F : FnOk X.prog X.w X.K X.mg X.base CX k f fd ps sp) (hr : Room k X.A) (hg : Gl X x) (hm : X.mg x = some (.ref B))
    (hb : Binds X.K fd ps ds) (hd : Vals dvs ds) (hx : Passes CX X Ex) (ha : PA X (e :: es) ta) (hdb : (x == ("__debug__" : Str)) = false := by decide)
    (hc : eval (.Call (.Attribute (.Name x p1) "__init__" p2) (e :: es) [] pos) X.env = (do
      let ov ← eval (.Name x p1) X.env
      standAt p2.atName
      let (f, first) ← holding [ov] (getMethod ov "__init__" pl)
      callWith pos f first (backTo pos (starEach (e :: es) X.env)) (backToKw pos (keywordEach [] X.env))) := by rfl)
    (he : starEach (e :: es) X.env = (false, eval e X.env) :: starEach es X.env := by rfl) (hpl : (backTo pos (starEach es X.env)).any (·.1) = false := by rfl) :
    PE X (.Call (.Attribute (.Name x p1) "__init__" p2) (e :: es) [] pos) (tCall sp dvs Ex ta) := by
  refine ⟨fun pins s σ H Q I h => ?_⟩
  refine PySem.W.methodCall_KW (ld_glob I hg hm ?_ hdb) hc
  refine PySem.W.method_cls I.kIn O.ga (PySem.W.cls_value I.kIn O.rd O.fd rfl ?_)
  refine PySem.W.callWith_K (first := []) (h₀ := X.base) I.ok.mod.kin O.kp (thn (ha.run pos pins _ σ H _ (I.tok _) h) fun us s2 ⟨vs, H2, I2, r, q2⟩ => ⟨I2.kIn, ?_⟩) he hpl
  exact run_fn F hr hb hd hx I2 r q2
end
end L2
namespace Ink
open PySem PySem.Spec PyProof.Rows L2
/-- InkError.__init__ of a refusal without a field: the word is written -/
def spInk (K : PySem.W.Frag) : Sp := fun vs H Q _ => ∃ (a C : Addr) (nm t : Str), vs = [.ref a, .str t] ∧ Named K C nm ∧ PySem.W.findIn K (.ref C) "word" = some none ∧ H a = some (exo a C none) ∧
  ∀ dx, H dx = none → dx ≠ a → Q .non (upd (upd H dx (exd dx [("word", .str nm)])) a (exo a C (some dx)))
section
variable {P : Program} {w : World} {K : PySem.W.Frag} {mg : Str → Option Value} {base : Heap}
theorem ok_ink {f : Addr} {fd : FuncData} {k : Nat} (F : FunD K "__init__" "InkError.__init__" (defArgs sInkerrorInit) (defBody sInkerrorInit) (defScope sInkerrorInit) [.str ""] [] f fd) (mV : mg "ValueError" = none)
    (vV : PySem.W.findCls K (.type "ValueError") (.type "type") "__init__" = some (.val (.builtin "ValueError.__init__"))) : FnOk P w K mg base CX0 (k + 1) f fd ["self", "told"] (spInk K) := by
  refine F.ok sc_InkError___init__ (fun vs H Q E h => ?_) (fun cdv A outer s H vs Q E hr h => ?_)
  · obtain ⟨a, C, nm, t, rfl, _⟩ := h
    rfl
  · obtain ⟨a, C, nm, t, rfl, N, hw, ea, q⟩ := h
    refine ⟨_, (pss_cons (ps_expr (pe_veinit (by rfl) mV vV (pa_cons (pv 0) (pa_cons (pv 1) pa_nil)))) (pss_one (ps_ost (pv 0) (pe_cname (pv 0))))), ?_⟩
    refine ⟨_, rfl, _, rfl, a, C, _, rfl, by simp, N.ox, ea, ?_⟩
    refine ⟨_, rfl, a, C, nm, rfl, N, ea, ?_⟩
    refine ⟨_, rfl, a, C, rfl, N.ox, hw, .inl ⟨ea, fun dx n ne => ?_⟩⟩
    exact q dx n ne
end
end Ink
namespace Ink
open PySem PySem.Spec PyProof.Rows L2
theorem g_go {i : Nat} {v : V} {σ : L2.St} {H : Hp} {Q : L2.St → Hp → Prop} (h : Q (σ.set i (some v)) H) : gName i v σ H Q := h
/-- what a refusal of InkError's own __init__ leaves: its dict alone is new -/
theorem ink_made {K : PySem.W.Frag} {C : Addr} {nm z : Str} {ta : TA} {σ : L2.St} {H : Hp} {Q : XK} (N : Named K C nm) (hw : PySem.W.findIn K (.ref C) "word" = some none)
    (ht : ∀ R : List V → Hp → Prop, R [.str z] H → ta σ H R) (h : ∀ d, H d = none → Q (.ref C) (some d) (upd H d (.xd [("word", .str nm)]))) : tMkO C (spInk K) [] ta σ H Q := by
  refine ht _ ⟨by simp, fun a na => ⟨a, C, nm, z, rfl, N, hw, upd_same, fun dx ndx ne => ⟨rfl, dx, [("word", .str nm)], upd_same, ?_, ?_, ?_⟩⟩⟩
  · rw [upd_ne ne, upd_same]
  · rw [upd_ne ne] at ndx
    exact ndx
  · rw [upd_ne ne] at ndx
    have e : upd (del (upd (upd (upd H a (exo a C none)) dx (exd dx [("word", .str nm)])) a (exo a C (some dx))) a) dx (.xd [("word", .str nm)]) = upd H dx (.xd [("word", .str nm)]) := by
      funext b
      by_cases hb : b = dx
      · rw [hb, upd_same, upd_same]
      · rw [upd_ne hb, upd_ne hb]
        by_cases hba : b = a
        · rw [hba, del_same]
          exact na.symm
        · rw [del_ne hba, upd_ne hba, upd_ne hb, upd_ne hba]
    rw [e]
    exact h dx ndx
end Ink
namespace L2N
open PySem PySem.Spec PyProof.Rows L2
section
variable {X : Cx} {e : Expr} {es : List Expr} {ta : TA} {p pos : Pos}
/-- C(e, ..) as pmk_oex makes it; its context is None -/
theorem pmk_oexN {CX : CXT} {x : Str} {C fI : Addr} {k : Nat} {fd : FuncData} {ps : List Str} {sp : Sp} (T : OexC X.K C) (iC : PySem.W.findIn X.K (.ref C) "__init__" = some (some (.ref fI))) (tI : PySem.W.typeIn X.K (.ref fI) = some (.type "function"))
    (F1 : FnOk X.prog X.w X.K X.mg X.base CX k fI fd ps sp) (hr : Room (k + 1) X.A) (hb : Binds X.K fd ps []) (hx : Passes CX X (fun _ _ _ => False)) (hg : Gl X x) (hm : X.mg x = some (.ref C)) (ha : PA X (e :: es) ta)
    (hdb : (x == ("__debug__" : Str)) = false := by decide) (he : starEach (e :: es) X.env = (false, eval e X.env) :: starEach es X.env := by rfl) (hpl : (backTo pos (starEach es X.env)).any (·.1) = false := by rfl) :
    PMk X (.Call (.Name x p) (e :: es) [] pos) (tMkO C sp [] ta) := by
  intro pins s σ H Q I h
  obtain ⟨nm, q, N, bs, bm, sn, sub, ab, col, dd, k0, k1, k2, k3, k5, hC, hbm⟩ := T.cls
  refine wpAny_Call_Name_kw (ld_glob I hg hm ?_ hdb)
  refine PySem.W.callWith_K (h₀ := X.base) I.ok.mod.kin T.kC (thn (ha.run pos pins s σ H _ I h) fun us s1 ⟨vs, H1, I1, r1, hz, q1⟩ => ⟨I1.kIn, ?_⟩) he hpl
  show wpAny _ _ (call (.ref C) us) _ _ _
  obtain ⟨hp, g, dr, tk, os⟩ := s1
  -- the new object stands behind the tuple of its arguments
  let a : Addr := hp.objs.size + 1
  let hN : Heap := (hp.push (PySem.W.kdv_tup us)).push (PySem.HandSPX.excO C hp.objs.size)
  have hsz : hp.objs.size ≤ a := Nat.le_succ _
  have na : H1 a = none := I1.hok.fresh hsz
  have hq := q1 a na
  rw [List.append_nil] at hq
  have kk : ∀ b o, hp.get? b = some o → hN.get? b = some o := fun b o e => Heap.get?_push_of_some _ (Heap.get?_push_of_some _ e)
  have ga : hN.get? a = some (PySem.HandSPX.excO C hp.objs.size) := by
    show ((hp.push (PySem.W.kdv_tup us)).push (PySem.HandSPX.excO C hp.objs.size)).get? (hp.objs.size + 1) = _
    heap_get
  have I2 : Inv X pins σ (upd H1 a (exo a C none)) ⟨hN, g, dr, tk, os⟩ := I1.laid (t' := tk) kk hsz (exo_ok ga)
  have r2 : Vals (V.ref a :: vs) (Value.ref a :: us) := .cons rfl r1
  have hl : (Value.ref a :: us ++ []).length = ps.length := by
    have e := r2.length
    rw [F1.len _ _ _ _ hq] at e
    rw [List.append_nil]
    exact e.symm
  have b2 := hb ⟨hN, g, dr, tk, os⟩ (Value.ref a :: us) I2.kIn hl
  rw [List.append_nil] at b2
  have hus : us.length ≤ sizeLine := by
    rw [← Paired.length r1, sizeLine_eq]
    omega
  refine wpAny_call (PySem.HandSPX.call_own F.excBase_ValueError (fun Y => PySem.HandSPX.refsVE_contains Y bm hbm) (I1.kIn _ _ hC) (PySem.W.looks_findIn I1.kIn iC) (fun self => PySem.W.bind_fn I1.kIn self tI) hus
    (codeAny_mono (F1.run _ X.stack ⟨hN, g, dr, tk, os⟩ _ ⟨Value.ref a :: us, []⟩ (Value.ref a :: us) _ _ (fun _ _ _ => False) (hr.make C us []) (I2.env0.make C us []) b2 r2 hq) fun r s' hq' => ?_))
  match r, hq' with
  | .error er, hq' => exact hx pins σ _ _ er s' I2 hq'
  | .ok (.ret u), hq' =>
    obtain ⟨v, H2, os2, bare2, un2, hok2, rv, ev, d, fs, ea, ed, hd1, q2⟩ := hq'
    subst ev
    obtain ⟨h2, g2, d2, t2, os'⟩ := s'
    obtain ⟨t0, G, J, kG, ge, hoe, nd⟩ := mk_end0 (d2 := d2) (t2 := t2) I1 hsz kk un2 hok2 os2 bare2 ea ed hd1
    exact ⟨rv, a, _, _, ⟨G, g2, d2, t2, os'⟩, _, .ref C, some d, rfl, J, kG, ge, hoe, ⟨rfl, rfl, fun ws e => by cases e; rfl⟩, rfl, rfl, nd, rfl, bare2, raises_own T.exC T.tyC, q2⟩
  | .ok .next, hq' => exact False.elim hq'
  | .ok .brk, hq' => exact False.elim hq'
  | .ok .cont, hq' => exact False.elim hq'
end
end L2N
namespace Ink
open PySem PySem.Spec PyProof.Rows L2
/-- the class at C, called x, is raised; its __init__ keeps sp -/
structure RaiR (P : Program) (w : World) (K : PySem.W.Frag) (mg : Str → Option Value) (base : Heap) (k : Nat) (x : Str) (C : Addr) (ps : List Str) (sp : Sp) : Prop where
  nm : Named K C x
  hw : PySem.W.findIn K (.ref C) "word" = some none
  gB : mg x = some (.ref C)
  init : ∃ f fd, PySem.W.findIn K (.ref C) "__init__" = some (some (.ref f)) ∧ PySem.W.typeIn K (.ref f) = some (.type "function") ∧ FnOk P w K mg base CX0 k f fd ps sp ∧ Binds K fd ps []
section
variable {X : Cx} {W : WX} {k : Nat} {x : Str} {C : Addr} {ps : List Str} {sp : Sp} {e : Expr} {es : List Expr} {ta : TA} {p pos pos' : Pos}
theorem ps_raiseR (B : RaiR X.prog X.w X.K X.mg X.base k x C ps sp) (hr : Room (k + 1) X.A) (hg : Gl X x) (hc : X.calm = true) (tk : L2N.Takes X W) (ha : PA X (e :: es) ta) (hdb : (x == ("__debug__" : Str)) = false := by decide)
    (he : starEach (e :: es) X.env = (false, eval e X.env) :: starEach es X.env := by rfl) (hpl : (backTo pos (starEach es X.env)).any (·.1) = false := by rfl) :
    PS X (.Raise (some (.Call (.Name x p) (e :: es) [] pos)) none pos') (fun _ σ H => tMkO C sp [] ta σ H fun cls d H' => W cls d σ H') := by
  obtain ⟨f, fd, iC, tI, G, b⟩ := B.init
  exact L2N.ps_raise hc tk (L2N.pmk_oexN B.nm.ox iC tI G hr b pass0 hg B.gB ha hdb he hpl)
end
section
variable {P : Program} {w : World} {K : PySem.W.Frag} {mg : Str → Option Value} {base : Heap}
/-- a def that may raise, what it raises having no context -/
theorem okN {CX : CXT} {x qual : Str} {st : Stmt} {f : Addr} {fd : FuncData} {N ps : List Str} {k : Nat} {sp : Sp} (F : Fun K x qual st f fd) (S : FnScope N ps (defScope st)) (len : ∀ vs H Q E, sp vs H Q E → vs.length = ps.length)
    (hbody : ∀ (cdv : Value) (A : Around) (outer : List Env) (s : Shared) (H : Hp) (vs : List V) (Q : VK) (E : XK), Room k (A.deeper (envOfC qual (defScope st) s.heap.objs.size f cdv)) → sp vs H Q E →
      ∃ t, PSs (cxOf CX P w K mg base N qual (defScope st) f cdv A outer s H E) (defBody st) t ∧ t { nx := fun _ H' => Q .non H', rt := Q } (start N vs) H) : FnOk P w K mg base CX (k + 1) f fd ps sp := by
  obtain ⟨oc, od, kV, doc, pm, an, cdv, ct, osl, rfl, lk, hcd⟩ := F.ex
  exact fn_of lk hcd S len fun A outer s H vs Q E hr hsp => hbody cdv A outer s H vs Q E hr hsp
end
end Ink
namespace Ink
open PySem PySem.Spec PyProof.Rows L2
section
variable {P : Program} {w : World} {K : PySem.W.Frag} {mg : Str → Option Value} {base : Heap}
theorem emod_in (x : Int) : 0 ≤ x % 2147483563 ∧ x % 2147483563 < 2147483563 := ⟨Int.emod_nonneg _ (by decide), Int.emod_lt_of_pos _ (by decide)⟩
theorem pos1 : (0 : Int) < 2147483563 := by decide
theorem pos2 : (0 : Int) < 8191 := by decide
theorem ok_pull {f : Addr} {fd : FuncData} {k : Nat} (F : Fun K "_law_pull" "_law_pull" sLPull f fd) (T : Txt mg) : FnOk P w K mg base CX0 (k + 1) f fd ["_law_bag_here", "_law_many"] spPull := by
  refine F.ok sc__law_pull (fun vs H Q E h => ?_) (fun cdv A outer s H vs Q E hr h => ?_)
  · obtain ⟨a, l, m, rfl, _⟩ := h
    rfl
  · obtain ⟨a, l, m, rfl, hB, hm0, hm1, q⟩ := h
    refine ⟨_, (Evl.pss_cut (ps_if (PW.pt (pw_and (pt_cmpR op_eq (pe_ix ix_list (pv 0) pe_int (fun _ _ => rfl)) pe_int (nomark _)) (pw_and1 (pt_cmpR op_lt (pe_ix ix_list (pv 0) pe_int (fun _ _ => rfl)) (pe_callB call_len (by rfl) T.m_len PySem.boot_len (pa_cons (pe_ix ix_list (pv 0) pe_int (fun _ _ => rfl)) pa_nil)) (nomark _)))))
    (pss_cons (ps_set (i := 2) sc__law_pull.nd rfl (.inl rfl) (pe_ix ix_list (pe_ix ix_list (pv 0) pe_int (fun _ _ => rfl)) (pe_ix ix_list (pv 0) pe_int (fun _ _ => rfl)) (fun _ _ => rfl)))
    (pss_cons (ps_asg (pe_op op_add (pe_ix ix_list (pv 0) pe_int (fun _ _ => rfl)) pe_int) (pg_sub (pv 0) pe_int set_list))
    (pss_one (ps_if (pt_cmpR op_ge (pv 2) (pe_op op_pow pe_int pe_int) (nomark _))
    (pss_one (ps_asg (pe_op op_sub (pv 2) (pe_op op_pow pe_int pe_int)) (pg_sub (pv 0) pe_int set_list))) (pss_one (ps_asg (pe_op op_mod (pe_op op_add (pe_op op_add (pe_op op_mul (pe_ix ix_list (pv 0) pe_int (fun _ _ => rfl)) pe_int) (pe_op op_mul (pe_op op_mod (pv 2) pe_int) pe_int)) pe_int) pe_int) (pg_sub (pv 0) pe_int set_list))))))) pss_nil)
    (pss_cons (ps_if (pt_cmpR op_gt (pe_ix ix_list (pv 0) pe_int (fun _ _ => rfl)) pe_int (nomark _))
    (pss_cons (ps_set (i := 3) sc__law_pull.nd rfl (.inl rfl) (pe_op op_mod (pe_ix ix_list (pv 0) pe_int (fun _ _ => rfl)) (pv 1)))
    (pss_cons (ps_asg (pe_op op_fdiv (pe_ix ix_list (pv 0) pe_int (fun _ _ => rfl)) (pv 1)) (pg_sub (pv 0) pe_int set_list))
    (pss_one (ps_ret (pv 3))))) pss_nil)
    (pss_cons (ps_set (i := 4) sc__law_pull.nd rfl (.inl rfl) (pe_ix ix_list (pv 0) pe_int (fun _ _ => rfl)))
    (pss_cons (ps_asg (pe_op op_mod (pe_op op_add (pe_op op_add (pe_op op_mul (pe_op op_mul (pv 4) (pv 4)) pe_int) (pe_op op_mul (pv 4) pe_int)) pe_int) pe_int) (pg_sub (pv 0) pe_int set_list))
    (pss_one (ps_ret (pe_op op_mod (pe_op op_add (pe_op op_fdiv (pe_ix ix_list (pv 0) pe_int (fun _ _ => rfl)) pe_int) (pe_op op_mul (pe_op op_mod (pe_ix ix_list (pv 0) pe_int (fun _ _ => rfl)) pe_int) pe_int)) (pv 1)))))))), ?_⟩
    refine ⟨fun σ H1 => ∃ c, σ = [some (.ref a), some (.int m), c, none, none] ∧ BagAt H1 a l ∧ Keep a H H1, ?_, fun σ H1 hσ => ?_⟩
    · obtain ⟨ns, p, h, s, h1, h2, h3, h4, h5, h6⟩ := hB
      have L : SqL K H a _ := .of h1
      -- bag[2] == 0
      refine ⟨.ref a, rfl, a, _, 2, .int h, rfl, rfl, L, rfl, rfl, _, rfl, ?_⟩
      by_cases e0 : V.int h = V.int 0
      · rw [decide_eq_true e0]
        refine iteT ?_
        refine ⟨.ref a, rfl, a, _, 1, .int p, rfl, rfl, L, rfl, .ref a, rfl, a, _, 0, .ref l, rfl, rfl, L, rfl, .ref l, _, rfl, .inl ⟨_, .of h2, rfl⟩, _, _, rfl, rfl, _, rfl, ?_⟩
        refine ite2 (fun e1 => ?_) (fun e1 => ?_)
        · have e2 : p < ((ns.map V.int).length : Int) := of_decide_eq_true e1
          rw [List.length_map] at e2
          have hc : (ns.map V.int)[p.toNat]? = some (.int (ns[p.toNat]'(by omega))) := by
            rw [List.getElem?_map, List.getElem?_eq_getElem (by omega)]
            rfl
          have ep : ((p.toNat : Nat) : Int) = p := by omega
          generalize ns[p.toNat]'(by omega) = c at hc
          refine ⟨.ref a, rfl, a, _, 0, .ref l, rfl, rfl, L, rfl, .ref a, rfl, a, _, 1, .int p, rfl, rfl, L, rfl, l, _, p, .int c, rfl, rfl, .of h2, ?_, ?_⟩
          · rw [← ep]
            exact atI_nat hc
          · -- bag[1] = bag[1] + 1
            refine ⟨.ref a, rfl, a, _, 1, .int p, rfl, rfl, L, rfl, p, 1, rfl, rfl, .ref a, rfl, a, _, 1, 1, rfl, rfl, h1, rfl, ?_⟩
            -- cell >= 10 ** 18
            have n1 : (upd H a (.lst [.ref l, .int (p + 1), .int h, .int s])) a = some (.lst [.ref l, .int (p + 1), .int h, .int s]) := upd_same
            have n2 : (upd H a (.lst [.ref l, .int (p + 1), .int h, .int s])) l = some (.lst (ns.map V.int)) := by
              rw [upd_ne (bag_ne h1 (fun _ => nofun) h2)]
              exact h2
            refine ⟨.int c, rfl, 10, 18, rfl, rfl, ⟨by decide, by decide, by decide⟩, c, _, rfl, rfl, _, rfl, ?_⟩
            refine ite2 (fun e3 => ?_) (fun e3 => ?_)
            · refine ⟨.int c, rfl, 10, 18, rfl, rfl, ⟨by decide, by decide, by decide⟩, c, _, rfl, rfl, .ref a, rfl, a, _, 2, 2, rfl, rfl, n1, rfl, some (.int c), rfl, ?_, ?_⟩
              · have e4 : (10 : Int) ^ ((18 : Int).toNat) ≤ c := of_decide_eq_true e3
                exact BagAt.set (p' := p + 1) (h' := c - 10 ^ ((18 : Int).toNat)) (s' := s) n1 n2 ⟨by omega, by omega, h5, h6⟩
              · exact Keep.at.trans Keep.at
            · refine ⟨.ref a, rfl, a, _, 3, .int s, rfl, rfl, .of n1, rfl, s, 48271, rfl, rfl, .inl ⟨by omega, by omega⟩, .int c, rfl, c, 2147483563, rfl, rfl, pos1, _, 69621, rfl, rfl, .inr ⟨by decide, by decide⟩, _, _, rfl, rfl, _, 7, rfl, rfl, _, 2147483563, rfl, rfl, pos1, .ref a, rfl, a, _, 3, 3, rfl, rfl, n1, rfl, some (.int c), rfl, ?_, ?_⟩
              · exact BagAt.set (p' := p + 1) (h' := h) n1 n2 ⟨by omega, h4, (emod_in _).1, (emod_in _).2⟩
              · exact Keep.at.trans Keep.at
        · exact ⟨none, rfl, ⟨ns, p, h, s, h1, h2, h3, h4, h5, h6⟩, Keep.refl H⟩
      · rw [decide_eq_false e0]
        exact iteF (iteF ⟨none, rfl, ⟨ns, p, h, s, h1, h2, h3, h4, h5, h6⟩, Keep.refl H⟩)
    · obtain ⟨c, rfl, hB1, k1⟩ := hσ
      obtain ⟨ns, p, h, s, h1, h2, h3, h4, h5, h6⟩ := hB1
      have L : SqL K H1 a _ := .of h1
      refine ⟨.ref a, rfl, a, _, 2, .int h, rfl, rfl, L, rfl, _, _, rfl, rfl, _, rfl, ite2 (fun e1 => ?_) (fun e1 => ?_)⟩
      · have e2 : (0 : Int) < h := of_decide_eq_true e1
        refine ⟨.ref a, rfl, a, _, 2, .int h, rfl, rfl, L, rfl, .int m, rfl, h, m, rfl, rfl, hm0, ?_⟩
        refine ⟨.ref a, rfl, a, _, 2, .int h, rfl, rfl, L, rfl, .int m, rfl, h, m, rfl, rfl, ⟨hm0, hm1⟩, .ref a, rfl, a, _, 2, 2, rfl, rfl, h1, rfl, .int (h % m), rfl, ?_⟩
        exact q _ _ (Int.emod_nonneg _ (by omega)) (Int.emod_lt_of_pos _ hm0) (BagAt.set (p' := p) (h' := h / m) (s' := s) h1 h2 ⟨h3, Int.ediv_nonneg h4 (by omega), h5, h6⟩) (k1.trans Keep.at)
      · refine ⟨.ref a, rfl, a, _, 3, .int s, rfl, rfl, L, rfl, ?_⟩
        refine ⟨.int s, rfl, .int s, rfl, s, s, rfl, rfl, .inl ⟨by omega, by omega⟩, s * s, 3, rfl, rfl, .inr ⟨by decide, by decide⟩, .int s, rfl, s, 16807, rfl, rfl, .inl ⟨by omega, by omega⟩, _, _, rfl, rfl, _, 1013904223, rfl, rfl, _, 2147483563, rfl, rfl, pos1, .ref a, rfl, a, _, 3, 3, rfl, rfl, h1, rfl, ?_⟩
        have b := emod_in (s * s * 3 + s * 16807 + 1013904223)
        have hB2 : BagAt (upd H1 a (.lst [.ref l, .int p, .int h, .int ((s * s * 3 + s * 16807 + 1013904223) % 2147483563)])) a l := BagAt.set h1 h2 ⟨h3, h4, b.1, b.2⟩
        have n1 : (upd H1 a (.lst [.ref l, .int p, .int h, .int ((s * s * 3 + s * 16807 + 1013904223) % 2147483563)])) a = _ := upd_same
        refine ⟨.ref a, rfl, a, _, 3, .int ((s * s * 3 + s * 16807 + 1013904223) % 2147483563), rfl, rfl, .of n1, rfl, _, 61, rfl, rfl, ⟨by decide, by decide⟩, .ref a, rfl, a, _, 3, .int ((s * s * 3 + s * 16807 + 1013904223) % 2147483563), rfl, rfl, .of n1, rfl, _, 8191, rfl, rfl, pos2, _, 17, rfl, rfl, .inr ⟨by decide, by decide⟩, _, _, rfl, rfl, .int m, rfl, _, m, rfl, rfl, hm0, ?_⟩
        exact q _ _ (Int.emod_nonneg _ (by omega)) (Int.emod_lt_of_pos _ hm0) hB2 (k1.trans Keep.at)
theorem cut_ints (ns : List Int) (lo hi : Option Int) : ∃ ms : List Int, cutV (ns.map V.int) lo hi = ms.map V.int ∧ ms.length ≤ ns.length := by
  refine ⟨(ns.drop (HT.sIx (ns.map V.int).length 0 lo)).take (HT.sIx (ns.map V.int).length (ns.map V.int).length hi - HT.sIx (ns.map V.int).length 0 lo), ?_, ?_⟩
  · unfold cutV
    rw [List.map_take, List.map_drop]
  · rw [List.length_take, List.length_drop]
    omega
theorem ok_bag {f : Addr} {fd : FuncData} {k : Nat} (F : Fun K "_law_bag" "_law_bag" sLBag f fd) (T : Txt mg) : FnOk P w K mg base CX0 (k + 1) f fd ["_law_script"] (spBag K) := by
  refine F.ok sc__law_bag (fun vs H Q E h => ?_) (fun cdv A outer s H vs Q E hr h => ?_)
  · obtain ⟨c, ns, rfl, _⟩ := h
    rfl
  · obtain ⟨c, ns, rfl, hS, hlen, q⟩ := h
    refine ⟨_, (pss_cons (ps_set (i := 1) sc__law_bag.nd rfl (.inl rfl) pe_int)
    (pss_cons (ps_for PassesOwn.never rfl (pi_list (pe_slice sl_list (pv 0) po_none (po_some pe_int))) (pg_name (i := 2) sc__law_bag.nd rfl (.inl rfl))
    (pss_one (ps_set (i := 1) sc__law_bag.nd rfl (.inl rfl) (pe_op op_mod (pe_op op_add (pe_op op_add (pe_op op_mul (pv 1) pe_int) (pe_op op_mod (pv 2) pe_int)) pe_int) pe_int))))
    (pss_one (ps_ret (pe_lst (pa_cons (pe_callTy call_list_of (by rfl) T.m_list (by decide +kernel) (pa_cons (pe_slice sl_list (pv 0) po_none (po_some pe_int)) pa_nil)) (pa_cons pe_int (pa_cons pe_int (pa_cons (pv 1) pa_nil))))))))), ?_⟩
    obtain ⟨ms, ems, hms⟩ := cut_ints ns none (some 63)
    refine ⟨.ref c, rfl, 63, rfl, c, _, rfl, hS, fun p np => ?_⟩
    have s1 : Same H (upd H p (.lst (cutV (ns.map V.int) none (some 63)))) := same_new np
    rw [ems] at s1
    show ∃ a, V.ref p = .ref a ∧ (∃ xs, SqL K (upd H p (.lst (cutV (ns.map V.int) none (some 63)))) a xs) ∧ _
    rw [ems]
    have hp : SqL K (upd H p (.lst (ms.map V.int))) p (ms.map V.int) := .of upd_same
    refine ⟨p, rfl, ⟨_, hp⟩, for_it (walk_list (xs := ms.map V.int)) (fun i σ H' => ∃ (s : Int) (y : Option V), σ = [some (.ref c), some (.int s), y] ∧ 0 ≤ s ∧ s < 2147483563 ∧ H' = upd H p (.lst (ms.map V.int))) ⟨9450, none, rfl, by decide, by decide, rfl⟩ (fun i σ H' _ hP => ?_) (fun i x σ H' H2 hi hP hy => ?_) (fun σ H' hP => ?_)⟩
    · obtain ⟨s, y, _, _, _, rfl⟩ := hP
      exact hp
    · obtain ⟨s, y, rfl, hs0, hs1, rfl⟩ := hP
      obtain ⟨rfl, hx⟩ := hy
      have hi2 : i < ms.length := by
        rw [List.length_map] at hi
        exact hi
      rw [List.getElem?_map, List.getElem?_eq_getElem hi2] at hx
      have hx := Option.some.inj hx
      subst hx
      refine ⟨.int s, rfl, s, 40014, rfl, rfl, .inl ⟨by omega, by omega⟩, .int ms[i], rfl, ms[i], 2147483563, rfl, rfl, pos1, _, _, rfl, rfl, _, 13, rfl, rfl, _, 2147483563, rfl, rfl, pos1, ?_⟩
      exact ⟨_, _, rfl, (emod_in _).1, (emod_in _).2, rfl⟩
    · obtain ⟨s, y, rfl, hs0, hs1, rfl⟩ := hP
      refine ⟨.ref c, rfl, 63, rfl, c, _, rfl, s1.seq hS, fun p2 np2 => ?_⟩
      have s2 : Same (upd H p (.lst (ms.map V.int))) (upd (upd H p (.lst (ms.map V.int))) p2 (.lst (cutV (ns.map V.int) none (some 63)))) := same_new np2
      refine ⟨p2, _, rfl, .inl (.of upd_same), fun l nl => ?_⟩
      refine ⟨.int s, rfl, by show 4 ≤ sizeLine; decide, fun a na => ?_⟩
      have s3 := same_new (o := .lst (cutV (ns.map V.int) none (some 63))) nl
      have s4 := same_new (o := .lst [V.ref l, .int 0, .int 0, .int s]) na
      refine q a l _ ((s1.trans (s2.trans s3)).free na) ⟨ms, 0, 0, s, upd_same, ?_, by decide, by decide, hs0, hs1⟩ ((s1.trans (s2.trans s3)).trans s4)
      rw [s4 l _ upd_same, ems]
theorem ok_of {f : Addr} {fd : FuncData} {k : Nat} (F : Fun K "_law_of" "_law_of" sLOf f fd) (T : Txt mg) (C__law_pull : Cal P w K mg base k "_law_pull" ["_law_bag_here", "_law_many"] spPull) : FnOk P w K mg base CX0 (k + 1) f fd ["_law_bag_here", "_law_things"] (spOf K) := by
  refine F.ok sc__law_of (fun vs H Q E h => ?_) (fun cdv A outer s H vs Q E hr h => ?_)
  · obtain ⟨a, l, x, xs, rfl, _⟩ := h
    rfl
  · obtain ⟨a, l, x, xs, rfl, hB, hI, h0, h1, q⟩ := h
    refine ⟨_, (pss_one (ps_ret (pe_ix ix_seq (pv 1) (pe_callC C__law_pull hr (by rfl) (pa_cons (pv 0) (pa_cons (pe_callB call_len (by rfl) T.m_len PySem.boot_len (pa_cons (pv 1) pa_nil)) pa_nil))) (fun _ _ => rfl)))), ?_⟩
    have hL : LenV K x H xs.length := by
      rcases hI with ⟨p, rfl, n, h | h⟩ | ⟨z, rfl, rfl⟩
      · exact .inl ⟨_, h, rfl⟩
      · exact .inr ⟨_, h, rfl⟩
      · rw [List.length_map] at h1 ⊢
        exact ⟨Nat.le_trans h1 (by decide), rfl⟩
    refine ⟨x, rfl, .ref a, rfl, x, rfl, x, _, rfl, hL, a, l, _, rfl, hB, by omega, by omega, fun r H' r0 r1 hB' k' => ?_⟩
    have hr2 : r.toNat < xs.length := by omega
    have er : ((r.toNat : Nat) : Int) = r := by omega
    have hx : xs[r.toNat]? = some (xs[r.toNat]) := List.getElem?_eq_getElem hr2
    have hq := q _ H' (List.mem_of_getElem? hx) hB' k'
    rcases hI with ⟨p, rfl, n, h | h⟩ | ⟨z, rfl, rfl⟩
    · exact .inl ⟨p, xs, r, _, rfl, rfl, k'.seq n h, atI_of r0 hx, hq⟩
    · exact .inr (.inl ⟨p, xs, r, _, rfl, rfl, k'.seqT n h, atI_of r0 hx, hq⟩)
    · rw [List.length_map] at h1 hr2
      have hc : z.cps.toList[r.toNat]? = some (z.cps.toList[r.toNat]) := List.getElem?_eq_getElem hr2
      rw [List.getElem?_map, hc] at hx
      have hx := Option.some.inj hx
      rw [← hx] at hq
      exact .inr (.inr ⟨z, r, _, rfl, rfl, Nat.le_trans h1 (by decide), atI_of r0 hc, hq⟩)
end
end Ink
namespace Ink
open PySem PySem.Spec PyProof.Rows L2
/-- None, a bool, a whole number, a text -/
def flatD : V → Bool
  | .non => true
  | .bl _ => true
  | .int _ => true
  | .str _ => true
  | _ => false
/-- v and w hold the same, at most n deep -/
def Lk (K : PySem.W.Frag) (H : Hp) : Nat → V → V → Prop
  | 0, _, _ => False
  | n + 1, v, w => (v = w ∧ flatD w = true) ∨ ∃ (p q : Addr) (xs ys : List V), v = .ref p ∧ w = .ref q ∧ ((SqL K H p xs ∧ SqL K H q ys) ∨ (SqT K H p xs ∧ SqT K H q ys)) ∧ xs.length = ys.length ∧ xs.length ≤ 100000 ∧
      ∀ (i : Nat) (x y : V), xs[i]? = some x → ys[i]? = some y → Lk K H n x y
theorem Lk.same {K : PySem.W.Frag} {H H' : Hp} (e : Same H H') : ∀ {n : Nat} {v w : V}, Lk K H n v w → Lk K H' n v w
  | 0, _, _, h => h.elim
  | n + 1, v, w, h => by
    rcases h with h | ⟨p, q, xs, ys, h1, h2, h3, h4, h5, h6⟩
    · exact .inl h
    · refine .inr ⟨p, q, xs, ys, h1, h2, ?_, h4, h5, fun i x y a b => Lk.same e (h6 i x y a b)⟩
      rcases h3 with ⟨a, b⟩ | ⟨a, b⟩
      · exact .inl ⟨e.seq a, e.seq b⟩
      · exact .inr ⟨same_tup e a, same_tup e b⟩
def spLike (K : PySem.W.Frag) (n : Nat) : Sp := fun vs H Q _ => ∃ v w, vs = [v, w] ∧ Lk K H n v w ∧ ∀ H', Same H H' → Q (.bl true) H'
theorem tyx_l {K : PySem.W.Frag} {H : Hp} {a : Addr} {xs : List V} (h : SqL K H a xs) : TyX K H (.ref a) (.type "list") := by
  rcases h with (h | ⟨o, h⟩) | ⟨o, its, n, h1, h2, _⟩
  · exact .base (.lst h)
  · exact .base (.frz h)
  · exact .kList h1 h2
theorem tyx_t {K : PySem.W.Frag} {H : Hp} {a : Addr} {xs : List V} (h : SqT K H a xs) : TyX K H (.ref a) (.type "tuple") := by
  rcases h with (h | ⟨o, h⟩) | ⟨o, its, n, h1, h2, _⟩
  · exact .base (.tup h)
  · exact .fTuple h
  · exact .kTuple h1 h2
def tyD : V → String
  | .non => "NoneType"
  | .bl _ => "bool"
  | .int _ => "int"
  | _ => "str"
theorem tyx_f {K : PySem.W.Frag} {H : Hp} : ∀ {v : V}, flatD v = true → TyX K H v (.type (tyD v))
  | .non, _ => .base .non
  | .bl b, _ => .base (.bl b)
  | .int i, _ => .base (.int i)
  | .str z, _ => .base (.str z)
theorem kit_f {K : PySem.W.Frag} {T : String} : ∀ {v : V}, flatD v = true → kitB (tyD v) T = kitB (tyD v) T := fun _ => rfl
theorem kt {K : PySem.W.Frag} {a b : String} {r : Bool} (h : kitB a b = some r) : PySem.W.kitOne K (.type a) (.type b) = some r := kit_ty h
theorem kit2 {K : PySem.W.Frag} {t a b : String} {x y r : Bool} (h1 : kitB t a = some x) (h2 : kitB t b = some y) (hr : r = (x || y)) : PySem.W.kitAny K (.type t) [.type a, .type b] = some r := by
  subst hr
  refine kitAny_cons (kt h1) (fun e => ?_) (fun e => by rw [e]; rfl)
  subst e
  exact kitAny_cons (kt h2) (fun e => by rw [e]; exact kitAny_nil) (fun e => by rw [e]; rfl)
theorem kit_lt {K : PySem.W.Frag} : ∀ {v : V}, flatD v = true → PySem.W.kitAny K (.type (tyD v)) [.type "list", .type "tuple"] = some false
  | .non, _ => kit2 (t := "NoneType") (x := false) (y := false) (by decide +kernel) (by decide +kernel) rfl
  | .bl b, _ => kit2 (t := "bool") (x := false) (y := false) (by decide +kernel) (by decide +kernel) rfl
  | .int i, _ => kit2 (t := "int") (x := false) (y := false) (by decide +kernel) (by decide +kernel) rfl
  | .str z, _ => kit2 (t := "str") (x := false) (y := false) (by decide +kernel) (by decide +kernel) rfl
theorem same_mut {H H' : Hp} {p : Addr} {o : HO} (e : Same H H') (h : H p = none) : Same H (upd H' p o) := Evl.Ex.mut e h
theorem small_lt {n : Nat} (h : n < 1000000) : n < sizeLine := Nat.lt_of_lt_of_le h (by decide)
theorem small_le {n : Nat} (h : n ≤ 1000000) : n ≤ sizeLine := Nat.le_trans h (by decide)
theorem yes_of {σ : L2.St} {H : Hp} {Q : Bool → Hp → Prop} (h : Q true H) : tYes σ H Q := h
theorem pair_lt : Paired ClsV [V.ty "list", V.ty "tuple"] [Value.type "list", Value.type "tuple"] := .cons (.ty _) (.cons (.ty _) .nil)
theorem walk_zipT {K : PySem.W.Frag} {a b : Addr} {xs ys : List V} {n : Nat} (hn : n = min xs.length ys.length) : Walk (RZ.ItzT K a b) n (fun H => SqT K H a xs ∧ SqT K H b ys) (YPair (fun i => xs[i]?) (fun i => ys[i]?)) := by
  subst hn
  refine ⟨fun i _ hi q => ?_, fun _ q => ⟨xs, ys, q.1, q.2, by omega⟩, fun i H v H' _ q y => ?_⟩
  · have h1 : i < xs.length := by omega
    have h2 : i < ys.length := by omega
    exact ⟨xs, ys, xs[i], ys[i], q.1, q.2, by simp [h1], by simp [h2]⟩
  · obtain ⟨T, x, z, h1, h2, h3, h4, h5⟩ := y
    exact ⟨T, x, z, h1, h2, h3, h4 xs q.1, h5 ys q.2⟩
theorem rep_all (n : Nat) : (List.replicate n true).all id = true := by
  induction n with
  | zero => rfl
  | succ n ih =>
    rw [List.replicate_succ, List.all_cons, ih]
    rfl
theorem rep_snoc {α : Type} (n : Nat) (x : α) : List.replicate n x ++ [x] = List.replicate (n + 1) x := by
  induction n with
  | zero => rfl
  | succ n ih =>
    rw [List.replicate_succ, List.cons_append, ih]
    rfl
section
variable {P : Program} {w : World} {K : PySem.W.Frag} {mg : Str → Option Value} {base : Heap}
theorem ok_like_step {f : Addr} {fd : FuncData} {k n : Nat} (F : Fun K "_law_like" "_law_like" sLLike f fd) (T : Txt mg)
    (C__law_like : Cal P w K mg base k "_law_like" ["_law_found", "_law_due"] (spLike K n)) :
    FnOk P w K mg base CX0 (k + 1) f fd ["_law_found", "_law_due"] (spLike K (n + 1)) := by
  refine F.ok sc__law_like (fun vs H Q E h => ?_) (fun cdv A outer s H vs Q E hr h => ?_)
  · obtain ⟨a, m, rfl, _⟩ := h
    rfl
  · obtain ⟨v, w', rfl, hL, q⟩ := h
    refine ⟨_, (pss_cons (ps_if (pt_val (pe_callB call_isiT (by rfl) T.m_isinstance (by decide +kernel) (pa_cons (pv 1) (pa_cons (pe_tup (pa_cons (pe_bltn (v := .ty "list") (by rfl) T.m_list (by decide +kernel) rfl) (pa_cons (pe_bltn (v := .ty "tuple") (by rfl) T.m_tuple (by decide +kernel) rfl) pa_nil))) pa_nil))))
    (pss_cons (ps_if (PW.pt (pw_or (pt_cmpR op_ne (pe_callB call_isi (by rfl) T.m_isinstance (by decide +kernel) (pa_cons (pv 0) (pa_cons (pe_bltn (v := .ty "list") (by rfl) T.m_list (by decide +kernel) rfl) pa_nil))) (pe_callB call_isi (by rfl) T.m_isinstance (by decide +kernel) (pa_cons (pv 1) (pa_cons (pe_bltn (v := .ty "list") (by rfl) T.m_list (by decide +kernel) rfl) pa_nil))) (nomark _)) (pw_or1 (pt_cmpR op_ne (pe_callB call_isi (by rfl) T.m_isinstance (by decide +kernel) (pa_cons (pv 0) (pa_cons (pe_bltn (v := .ty "tuple") (by rfl) T.m_tuple (by decide +kernel) rfl) pa_nil))) (pe_callB call_isi (by rfl) T.m_isinstance (by decide +kernel) (pa_cons (pv 1) (pa_cons (pe_bltn (v := .ty "tuple") (by rfl) T.m_tuple (by decide +kernel) rfl) pa_nil))) (nomark _)))))
    (pss_one (ps_ret pe_bl)) pss_nil)
    (pss_one (ps_ret (pe_and (pe_cmpR op_eq (pe_callB call_len (by rfl) T.m_len PySem.boot_len (pa_cons (pv 0) pa_nil)) (pe_callB call_len (by rfl) T.m_len PySem.boot_len (pa_cons (pv 1) pa_nil)) (nomark _)) (pe_one (pe_callB (cr_all rfl) (by rfl) T.m_all (by decide +kernel) (pa_cons (pe_lc (own := [("_law_one", 2), ("_law_other", 3)]) (g := (gTup K 2 (gCons (gName 2) (gCons (gName 3) gNil)))) (by rfl) sc__law_like.nd (RZ.pi_zipA (by rfl) T.m_zip (pa_cons (pv 0) (pa_cons (pv 1) pa_nil))) (blkOk_by (own := [("_law_one", 2), ("_law_other", 3)]) (N := ["_law_found", "_law_due", "_law_one", "_law_other"]) (sc := defScope sLLike) (by decide +kernel)) (fun _ _ _ _ _ => (pg_tup rfl (pgs_cons (pg_name (i := 2) sc__law_like.nd rfl (.inl rfl)) (pgs_cons (pg_name (i := 3) sc__law_like.nd rfl (.inl rfl)) pgs_nil)))) (fun _ _ _ _ _ => pts_nil) (fun _ _ _ _ _ => (pe_callC C__law_like hr (by rfl) (pa_cons (pv 2) (pa_cons (pv 3) pa_nil))))) pa_nil))))))) pss_nil)
    (pss_cons (ps_if (PW.pt (pw_or (pt_cmpR op_isN (pv 0) pe_non (nomark _)) (pw_or1 (pt_cmpR op_isN (pv 1) pe_non (nomark _)))))
    (pss_one (ps_ret (pe_and (pe_cmpR op_isN (pv 0) pe_non (nomark _)) (pe_one (pe_cmpR op_isN (pv 1) pe_non (nomark _)))))) pss_nil)
    (pss_cons (ps_if (PW.pt (pw_or (pt_cmpR op_ne (pe_callB call_isi (by rfl) T.m_isinstance (by decide +kernel) (pa_cons (pv 0) (pa_cons (pe_bltn (v := .ty "bool") (by rfl) T.m_bool (by decide +kernel) rfl) pa_nil))) (pe_callB call_isi (by rfl) T.m_isinstance (by decide +kernel) (pa_cons (pv 1) (pa_cons (pe_bltn (v := .ty "bool") (by rfl) T.m_bool (by decide +kernel) rfl) pa_nil))) (nomark _)) (pw_or1 (pt_cmpR op_ne (pe_callB call_isi (by rfl) T.m_isinstance (by decide +kernel) (pa_cons (pv 0) (pa_cons (pe_bltn (v := .ty "int") (by rfl) T.m_int (by decide +kernel) rfl) pa_nil))) (pe_callB call_isi (by rfl) T.m_isinstance (by decide +kernel) (pa_cons (pv 1) (pa_cons (pe_bltn (v := .ty "int") (by rfl) T.m_int (by decide +kernel) rfl) pa_nil))) (nomark _)))))
    (pss_one (ps_ret pe_bl)) pss_nil)
    (pss_one (ps_ret (pe_and (pe_cmpR op_eq (pe_callB call_isi (by rfl) T.m_isinstance (by decide +kernel) (pa_cons (pv 0) (pa_cons (pe_bltn (v := .ty "str") (by rfl) T.m_str (by decide +kernel) rfl) pa_nil))) (pe_callB call_isi (by rfl) T.m_isinstance (by decide +kernel) (pa_cons (pv 1) (pa_cons (pe_bltn (v := .ty "str") (by rfl) T.m_str (by decide +kernel) rfl) pa_nil))) (nomark _)) (pe_one (pe_cmpR op_eq (pv 0) (pv 1) (nomark _))))))))), ?_⟩
    rcases hL with ⟨rfl, hf⟩ | ⟨p, q', xs, ys, rfl, rfl, hS, hlen, hmax, hit⟩
    · -- a flat thing
      have ty : ∀ H', TyX K H' v (.type (tyD v)) := fun _ => tyx_f hf
      refine ⟨v, rfl, by show 2 ≤ sizeLine; decide, fun tp htp => ⟨v, tp, _, .type (tyD v), _, false, rfl, upd_same, pair_lt, ty _, ?_, false, rfl, iteF ?_⟩⟩
      · exact kit_lt hf
      have sm : Same H (upd H tp (.tup [V.ty "list", V.ty "tuple"])) := same_new htp
      generalize upd H tp (.tup [V.ty "list", V.ty "tuple"]) = H1 at sm
      by_cases hn : v = .non
      · subst hn
        refine ⟨.non, rfl, rfl, true, rfl, iteT (iteT ?_)⟩
        exact ⟨.non, rfl, rfl, true, rfl, iteT ⟨.non, rfl, rfl, q _ sm⟩⟩
      · have dn : decide (v = .non) = false := decide_eq_false hn
        refine ⟨v, rfl, rfl, _, rfl, ?_⟩
        rw [dn]
        refine iteF ⟨v, rfl, rfl, _, rfl, ?_⟩
        rw [dn]
        refine iteF ?_
        obtain ⟨rb, ri, rs, eb, ei, es, sc⟩ : ∃ rb ri rs, kitB (tyD v) "bool" = some rb ∧ kitB (tyD v) "int" = some ri ∧ kitB (tyD v) "str" = some rs ∧ scal v v = true := by
          cases v with
          | non => exact absurd rfl hn
          | bl b => exact ⟨_, _, _, (by decide +kernel : kitB "bool" "bool" = some true), (by decide +kernel : kitB "bool" "int" = some true), (by decide +kernel : kitB "bool" "str" = some false), rfl⟩
          | int b => exact ⟨_, _, _, (by decide +kernel : kitB "int" "bool" = some false), (by decide +kernel : kitB "int" "int" = some true), (by decide +kernel : kitB "int" "str" = some false), rfl⟩
          | str b => exact ⟨_, _, _, (by decide +kernel : kitB "str" "bool" = some false), (by decide +kernel : kitB "str" "int" = some false), (by decide +kernel : kitB "str" "str" = some true), rfl⟩
          | byt b => cases hf
          | flt b => cases hf
          | ref b => cases hf
          | ty b => cases hf
        refine ⟨v, rfl, v, .ty "bool", .type (tyD v), .type "bool", rb, rfl, .ty _, ty _, kt eb, v, rfl, v, .ty "bool", .type (tyD v), .type "bool", rb, rfl, .ty _, ty _, kt eb, rfl, _, rfl, iteNS rfl ?_⟩
        refine ⟨v, rfl, v, .ty "int", .type (tyD v), .type "int", ri, rfl, .ty _, ty _, kt ei, v, rfl, v, .ty "int", .type (tyD v), .type "int", ri, rfl, .ty _, ty _, kt ei, rfl, _, rfl, iteNS rfl ?_⟩
        refine ⟨v, rfl, v, .ty "str", .type (tyD v), .type "str", rs, rfl, .ty _, ty _, kt es, v, rfl, v, .ty "str", .type (tyD v), .type "str", rs, rfl, .ty _, ty _, kt es, rfl, _, rfl, ?_⟩
        rw [decide_eq_true rfl]
        refine iteT ⟨v, rfl, v, rfl, sc, ?_⟩
        rw [decide_eq_true rfl]
        exact q _ sm
    · obtain ⟨Tn, rl, rt, el, et, eo, tp, tq⟩ : ∃ (Tn : String) (rl rt : Bool), kitB Tn "list" = some rl ∧ kitB Tn "tuple" = some rt ∧ (rl || rt) = true ∧ (∀ H', Same H H' → TyX K H' (.ref p) (.type Tn)) ∧ (∀ H', Same H H' → TyX K H' (.ref q') (.type Tn)) := by
        rcases hS with ⟨hp, hq⟩ | ⟨hp, hq⟩
        · exact ⟨"list", true, false, by decide +kernel, by decide +kernel, rfl, fun H' s' => tyx_l (s'.seq hp), fun H' s' => tyx_l (s'.seq hq)⟩
        · exact ⟨"tuple", false, true, by decide +kernel, by decide +kernel, rfl, fun H' s' => tyx_t (same_tup s' hp), fun H' s' => tyx_t (same_tup s' hq)⟩
      refine ⟨.ref q', rfl, by show 2 ≤ sizeLine; decide, fun t htp => ⟨.ref q', t, _, .type Tn, _, true, rfl, upd_same, pair_lt, tq _ (same_new htp), kit2 el et eo.symm, true, rfl, iteT ?_⟩⟩
      have sm : Same H (upd H t (.tup [V.ty "list", V.ty "tuple"])) := same_new htp
      generalize upd H t (.tup [V.ty "list", V.ty "tuple"]) = H1 at sm
      refine ⟨.ref p, rfl, .ref p, .ty "list", .type Tn, .type "list", rl, rfl, .ty _, tp _ sm, kt el, .ref q', rfl, .ref q', .ty "list", .type Tn, .type "list", rl, rfl, .ty _, tq _ sm, kt el, rfl, _, rfl, iteNS rfl ?_⟩
      refine ⟨.ref p, rfl, .ref p, .ty "tuple", .type Tn, .type "tuple", rt, rfl, .ty _, tp _ sm, kt et, .ref q', rfl, .ref q', .ty "tuple", .type Tn, .type "tuple", rt, rfl, .ty _, tq _ sm, kt et, rfl, _, rfl, iteNS rfl ?_⟩
      have lp : LenV K (.ref p) H1 xs.length := by
        rcases hS with ⟨a, b⟩ | ⟨a, b⟩
        · exact .inl ⟨_, sm.seq a, rfl⟩
        · exact .inr ⟨_, same_tup sm a, rfl⟩
      have lq : LenV K (.ref q') H1 ys.length := by
        rcases hS with ⟨a, b⟩ | ⟨a, b⟩
        · exact .inl ⟨_, sm.seq b, rfl⟩
        · exact .inr ⟨_, same_tup sm b, rfl⟩
      refine ⟨.ref p, rfl, .ref p, _, rfl, lp, .ref q', rfl, .ref q', _, rfl, lq, rfl, _, rfl, ?_⟩
      rw [hlen, decide_eq_true rfl]
      refine iteT ⟨.ref p, rfl, .ref q', rfl, p, q', xs, ys, rfl, ?_⟩
      have fin : ∀ (D : Addr) (H' : Hp), H1 D = none → Same H1 H' → H' D = some (.lst (List.replicate xs.length (.bl true))) → rAll K [.ref D] H' Q := fun D H' nD sD eD =>
        ⟨D, List.replicate xs.length true, rfl, .of (by rw [List.map_replicate]; exact eD), by rw [rep_all]; exact q _ (sm.trans sD)⟩
      rcases hS with ⟨hp, hq⟩ | ⟨hp, hq⟩
      · refine .inl ⟨sm.seq hp, sm.seq hq, fun D nD => ?_⟩
        refine lc_it (walk_zip (n := xs.length) (by rw [← hlen, Nat.min_self])) (fun i H' => Same H1 H' ∧ H' D = some (.lst (List.replicate i (.bl true)))) ⟨same_new nD, upd_same⟩ (fun i H' _ hP => ⟨hP.1.seq (sm.seq hp), hP.1.seq (sm.seq hq)⟩) (fun i v H2 H3 hi hP hy => ?_) (fun H' hP => fin D H' nD hP.1 hP.2)
        obtain ⟨s2, e2⟩ := hP
        obtain ⟨T', x, y, rfl, nT, rfl, hx, hy⟩ := hy
        refine ⟨T', [x, y], rfl, .of upd_same, rfl, x, [y], rfl, y, [], rfl, rfl, rfl, yes_of (iteT ?_)⟩
        refine ⟨x, rfl, y, rfl, x, y, rfl, (hit i x y hx hy).same ((sm.trans s2).trans (same_new nT)), fun H5 s5 => ⟨List.replicate i (.bl true), s5 _ _ (same_new nT _ _ e2), small_lt (by rw [List.length_replicate]; omega), ?_, ?_⟩⟩
        · exact same_mut ((s2.trans (same_new nT)).trans s5) nD
        · rw [upd_same, rep_snoc]
      · refine .inr ⟨same_tup sm hp, same_tup sm hq, fun D nD => ?_⟩
        refine lc_it (walk_zipT (n := xs.length) (by rw [← hlen, Nat.min_self])) (fun i H' => Same H1 H' ∧ H' D = some (.lst (List.replicate i (.bl true)))) ⟨same_new nD, upd_same⟩ (fun i H' _ hP => ⟨same_tup hP.1 (same_tup sm hp), same_tup hP.1 (same_tup sm hq)⟩) (fun i v H2 H3 hi hP hy => ?_) (fun H' hP => fin D H' nD hP.1 hP.2)
        obtain ⟨s2, e2⟩ := hP
        obtain ⟨T', x, y, rfl, nT, rfl, hx, hy⟩ := hy
        refine ⟨T', [x, y], rfl, .of upd_same, rfl, x, [y], rfl, y, [], rfl, rfl, rfl, yes_of (iteT ?_)⟩
        refine ⟨x, rfl, y, rfl, x, y, rfl, (hit i x y hx hy).same ((sm.trans s2).trans (same_new nT)), fun H5 s5 => ⟨List.replicate i (.bl true), s5 _ _ (same_new nT _ _ e2), small_lt (by rw [List.length_replicate]; omega), ?_, ?_⟩⟩
        · exact same_mut ((s2.trans (same_new nT)).trans s5) nD
        · rw [upd_same, rep_snoc]
theorem cal_never {f : Addr} {fd : FuncData} {x : Str} {st : Stmt} {ps : List Str} (F : Fun K x x st f fd) (g : mg x = some (.ref f)) (b : Binds K fd ps []) : Cal P w K mg base 0 x ps (fun _ _ _ _ => False) :=
  ⟨f, fd, ⟨fun _ _ _ _ h => h.elim, fun _ _ _ _ _ _ _ _ _ _ _ _ _ h => h.elim⟩, g, F.kp, b⟩
theorem cal_like {f : Addr} {fd : FuncData} (F : Fun K "_law_like" "_law_like" sLLike f fd) (T : Txt mg) (g : mg "_law_like" = some (.ref f)) (b : Binds K fd ["_law_found", "_law_due"] []) :
    ∀ n, Cal P w K mg base n "_law_like" ["_law_found", "_law_due"] (spLike K n)
  | 0 => ⟨f, fd, ⟨fun _ _ _ _ h => by obtain ⟨_, _, _, h, _⟩ := h; exact h.elim, fun _ _ _ _ _ _ _ _ _ _ _ _ _ h => by obtain ⟨_, _, _, h, _⟩ := h; exact h.elim⟩, g, F.kp, b⟩
  | n + 1 => ⟨f, fd, ok_like_step F T (cal_like F T g b n), g, F.kp, b⟩
end
end Ink
namespace Ink
open PySem PySem.Spec PyProof.Rows L2
/-! ### what the defs reckon -/
def isSign (z : Str) : Bool := decide (V.int (z.length : Nat) = V.int 1) && (!decide (z.cps.toList < [97]) && !decide (([122] : List Nat) < z.cps.toList))
def lets : List Nat := [97, 98, 99, 100, 101, 102, 103, 104, 105, 106, 107, 108, 109, 110, 111, 112, 113, 114, 115, 116, 117, 118, 119, 120, 121, 122]
def lawName (z : Str) : Bool := decide ((0 : Int) < (z.length : Nat)) && decide (((z.length : Nat) : Int) < 7) && (z.cps.toList.map fun c => decide (c ∈ lets)).all id
def isName (z : Str) : Bool := decide ((1 : Int) ≤ (z.length : Nat)) && decide (((z.length : Nat) : Int) ≤ 6) && (z.cps.toList.map fun c => isSign ⟨#[c]⟩).all id
theorem lets_iff (c : Nat) : c ∈ lets ↔ 97 ≤ c ∧ c ≤ 122 := by
  unfold lets
  simp only [List.mem_cons, List.not_mem_nil, or_false]
  omega
theorem lt_one (a b : Nat) : (([a] : List Nat) < [b]) ↔ a < b := by
  constructor
  · intro h
    cases h with
    | rel h => exact h
    | cons h => cases h
  · intro h
    exact .rel h
theorem sign_one (c : Nat) : isSign ⟨#[c]⟩ = decide (c ∈ lets) := by
  unfold isSign
  rw [show decide (V.int (((⟨#[c]⟩ : Str).length : Nat) : Int) = V.int 1) = true from decide_eq_true rfl, Bool.true_and]
  show (!decide (([c] : List Nat) < [97]) && !decide (([122] : List Nat) < [c])) = _
  rw [decide_eq_decide.mpr (lt_one c 97), decide_eq_decide.mpr (lt_one 122 c), decide_eq_decide.mpr (lets_iff c)]
  by_cases h1 : c < 97
  · rw [decide_eq_true h1, decide_eq_false (by omega : ¬ (97 ≤ c ∧ c ≤ 122))]
    rfl
  · rw [decide_eq_false h1]
    by_cases h2 : 122 < c
    · rw [decide_eq_true h2, decide_eq_false (by omega : ¬ (97 ≤ c ∧ c ≤ 122))]
      rfl
    · rw [decide_eq_false h2, decide_eq_true (by omega : (97 ≤ c ∧ c ≤ 122))]
      rfl
theorem name_eq (z : Str) : isName z = lawName z := by
  unfold isName lawName
  rw [show (fun c => isSign ⟨#[c]⟩) = fun c => decide (c ∈ lets) from funext sign_one]
  rw [decide_eq_decide.mpr (show ((1 : Int) ≤ (z.length : Nat)) ↔ ((0 : Int) < (z.length : Nat)) by omega), decide_eq_decide.mpr (show (((z.length : Nat) : Int) ≤ 6) ↔ (((z.length : Nat) : Int) < 7) by omega)]
theorem sign_eq (z : Str) : isSign z = (lawName z && decide (V.int (z.length : Nat) = V.int 1)) := by
  by_cases h : z.length = 1
  · obtain ⟨c, rfl⟩ : ∃ c, z = ⟨#[c]⟩ := by
      obtain ⟨⟨l⟩⟩ := z
      have h : l.length = 1 := h
      cases l with
      | nil => cases h
      | cons c r =>
        cases r with
        | nil => exact ⟨c, rfl⟩
        | cons d r =>
          rw [List.length_cons, List.length_cons] at h
          omega
    rw [sign_one]
    unfold lawName
    show decide (c ∈ lets) = ((decide ((0 : Int) < 1) && decide ((1 : Int) < 7) && ([decide (c ∈ lets)]).all id) && decide (V.int 1 = V.int 1))
    rw [decide_eq_true (rfl : V.int 1 = V.int 1)]
    cases decide (c ∈ lets) <;> rfl
  · have e : decide (V.int (z.length : Nat) = V.int 1) = false := decide_eq_false fun q => h (by
      injection q with q
      omega)
    unfold isSign
    rw [e, Bool.and_false, Bool.false_and]
/-! ### a comprehension over a text, its items reckoned from the signs -/
theorem take_snoc {α : Type} {l : List α} {i : Nat} {x : α} (h : l[i]? = some x) : l.take (i + 1) = l.take i ++ [x] := by
  rw [List.take_add_one, h]
  rfl
theorem el_lcS {σ : L2.St} {H : Hp} {z : Str} {tl te : TE} {j : Nat} {vs : List Nat} (f : Nat → V) (h : Evl.Ev tl σ H (.str z)) (hz : z.length ≤ 40000) (hw : ∀ x, wipe ((wipe σ vs).set j (some x)) vs = wipe σ vs)
    (he : ∀ (c : Nat) H1, Evl.Ex H H1 → c ∈ z.cps.toList → Evl.Ev te ((wipe σ vs).set j (some (.str ⟨#[c]⟩))) H1 (f c)) : Evl.EvL (tLc (iStr tl) (gName j) tYes te vs) σ H (z.cps.toList.map f) := fun H0 e Q q => h H0 e _ fun H1 e1 => ⟨z, rfl, fun D nD =>
  lc_it walk_str (fun i H' => Evl.Ex H1 H' ∧ H' D = some (.lst ((z.cps.toList.map f).take i))) ⟨Evl.Ex.new nD, upd_same⟩ (fun _ _ _ _ => True.intro) (fun i v H2 H3 hi hP hy => by
    obtain ⟨rfl, c, hc, rfl⟩ := hy
    obtain ⟨s2, e2⟩ := hP
    have hc2 : z.cps.toList[i]? = some c := by rw [Array.getElem?_toList]; exact hc
    refine ⟨hw _, yes_of (iteT ?_)⟩
    refine he c H3 ((e.trans e1).trans s2) (List.mem_of_getElem? hc2) H3 (Evl.Ex.refl H3) _ fun H4 e4 => ⟨_, e4 _ _ e2, ?_, Evl.Ex.mut (s2.trans e4) nD, ?_⟩
    · rw [List.length_take, List.length_map]
      have hz2 : z.cps.size ≤ 40000 := hz
      exact small_lt (by omega)
    · rw [upd_same, take_snoc (x := f c) (by rw [List.getElem?_map, hc2]; rfl)]) (fun H' hP => by
    have ez : ((z.cps.toList.map f).take z.cps.size) = z.cps.toList.map f := List.take_of_length_le (by rw [List.length_map]; exact Nat.le_refl _)
    have h2 := hP.2
    rw [ez] at h2
    exact q D H' (Evl.fresh_back e1 nD) (e1.trans hP.1) h2)⟩
section
open Evl
variable {K : PySem.W.Frag} {σ : L2.St} {H : Hp} {ta tb tc te : TE}
theorem ev_all {bs : List Bool} (h : EvL te σ H (bs.map V.bl)) : Ev (tCB (rAll K) (tCons te tNil)) σ H (.bl (bs.all id)) := fun H1 e Q q => h H1 e _ fun p H2 np e2 hp => ⟨p, bs, rfl, .of hp, q H2 e2⟩
theorem ev_lenS {z : Str} (h : Ev te σ H (.str z)) (hz : z.length ≤ 1000000) : Ev (tCB (fun xs H Q => ∃ z : Str, xs = [.str z] ∧ z.length ≤ sizeLine ∧ Q (.int z.length) H) (tCons te tNil)) σ H (.int (z.length : Nat)) := fun H1 e Q q =>
  h H1 e _ fun H2 e2 => ⟨z, rfl, small_le hz, q H2 e2⟩
theorem ev_chainI {f g : Int → Int → Bool} {i j k : Int} (ha : Ev ta σ H (.int i)) (hb : Ev tb σ H (.int j)) (hc : Ev tc σ H (.int k)) : Ev (tChain (rI0 fun i j => .bl (f i j)) (rI0 fun i j => .bl (g i j)) ta tb tc) σ H (.bl (f i j && g j k)) := fun H1 e Q q =>
  ha H1 e _ fun H2 e2 => hb H2 (e.trans e2) _ fun H3 e3 => ⟨i, j, rfl, rfl, f i j, rfl, by
    cases h : f i j with
    | true =>
      rw [h] at q
      exact iteT (hc H3 ((e.trans e2).trans e3) _ fun H4 e4 => ⟨j, k, rfl, rfl, q H4 ((e2.trans e3).trans e4)⟩)
    | false =>
      rw [h] at q
      exact iteF (q H3 (e2.trans e3))⟩
theorem ev_chainS {R R' : R2} {f g : Str → Str → Bool} {x y z : Str} (hR : ∀ x y H (Q : VK), Q (.bl (f x y)) H → R (.str x) (.str y) H Q) (hR' : ∀ x y H (Q : VK), Q (.bl (g x y)) H → R' (.str x) (.str y) H Q)
    (ha : Ev ta σ H (.str x)) (hb : Ev tb σ H (.str y)) (hc : Ev tc σ H (.str z)) : Ev (tChain R R' ta tb tc) σ H (.bl (f x y && g y z)) := fun H1 e Q q =>
  ha H1 e _ fun H2 e2 => hb H2 (e.trans e2) _ fun H3 e3 => hR x y H3 _ ⟨f x y, rfl, by
    cases h : f x y with
    | true =>
      rw [h] at q
      exact iteT (hc H3 ((e.trans e2).trans e3) _ fun H4 e4 => hR' y z H4 Q (q H4 ((e2.trans e3).trans e4)))
    | false =>
      rw [h] at q
      exact iteF (q H3 (e2.trans e3))⟩
theorem ev_call {sp : Sp} {ta : TA} {vs : List V} {v : V} (h : EvA ta σ H vs) (hsp : ∀ H1 (Q : VK), Ex H H1 → (∀ H2, Ex H1 H2 → Q v H2) → sp vs H1 Q E0) : Ev (tCall sp [] E0 ta) σ H v := fun H1 e Q q =>
  h H1 e _ fun H2 e2 => by
    show sp (vs ++ []) H2 Q E0
    rw [List.append_nil]
    exact hsp H2 Q (e.trans e2) fun H3 e3 => q H3 (e2.trans e3)
end
def spSign : Sp := fun vs H Q _ => ∃ z, vs = [.str z] ∧ z.length ≤ 1000 ∧ ∀ H', Same H H' → Q (.bl (isSign z)) H'
def spLetters : Sp := fun vs H Q _ => vs = [] ∧ ∀ H', Same H H' → Q (.str ⟨lets.toArray⟩) H'
def spLawName : Sp := fun vs H Q _ => ∃ z, vs = [.str z] ∧ z.length ≤ 1000 ∧ ∀ H', Same H H' → Q (.bl (lawName z)) H'
def spName : Sp := fun vs H Q _ => ∃ z, vs = [.str z] ∧ z.length ≤ 1000 ∧ ∀ H', Same H H' → Q (.bl (isName z)) H'
section
variable {P : Program} {w : World} {K : PySem.W.Frag} {mg : Str → Option Value} {base : Heap}
theorem and_bl {b : Bool} {A : Prop} {Q : VK} {H : Hp} (h0 : b = false → Q (.bl false) H) (h1 : b = true → A) : if b = true then A else Q (.bl false) H := by
  cases b with
  | true => exact iteT (h1 rfl)
  | false => exact iteF (h0 rfl)
theorem bls_eq {α : Type} (l : List α) (g : α → Bool) : l.map (fun c => V.bl (g c)) = (l.map g).map V.bl := by
  rw [List.map_map]
  rfl
end
end Ink
namespace Ink
open PySem PySem.Spec PyProof.Rows L2
theorem joinL_len : ∀ ps : List (List Nat), (TL.joinL [] ps).length = (ps.map List.length).sum
  | [] => rfl
  | [p] => by
    show p.length = p.length + 0
    rfl
  | p :: q :: r => by
    show (p ++ ([] ++ TL.joinL [] (q :: r))).length = p.length + ((q :: r).map List.length).sum
    rw [List.length_append, List.nil_append, joinL_len (q :: r)]
theorem join_len (zs : List Str) : (Txt.join ⟨#[]⟩ zs).length = (zs.map (·.length)).sum := by
  rw [TL.join_eq]
  show (Str.join ⟨#[]⟩ zs).cps.toList.length = _
  have h := TL.tl_join ⟨#[]⟩ zs
  unfold TL.tl at h
  rw [h, joinL_len, List.map_map]
  rfl
theorem sum_ones : ∀ zs : List Str, (∀ z ∈ zs, z.length ≤ 1) → (zs.map (·.length)).sum ≤ zs.length
  | [], _ => Nat.le_refl _
  | z :: r, h => by
    have h1 := h z (List.mem_cons_self ..)
    have h2 := sum_ones r fun y hy => h y (List.mem_cons_of_mem _ hy)
    show z.length + (r.map (·.length)).sum ≤ r.length + 1
    omega

/-- texts cut at places -/
theorem cut_to {z : Str} {t : Int} (h : 0 ≤ t) : (cutS z none (some t)).cps.toList = z.cps.toList.take t.toNat := by
  have e : ((t.toNat : Nat) : Int) = t := by omega
  show (((z.cps.toList.drop (HT.sIx z.length 0 none)).take (HT.sIx z.length z.length (some t) - HT.sIx z.length 0 none)).toArray).toList = _
  rw [List.toList_toArray, HT.sIx_none, ← e, HT.sIx_nat, List.drop_zero, Nat.sub_zero, Int.toNat_natCast]
  by_cases hz : t.toNat ≤ z.length
  · rw [Nat.min_eq_left hz]
  · have hl : z.cps.toList.length = z.length := Array.length_toList
    rw [Nat.min_eq_right (by omega), List.take_of_length_le (by omega), List.take_of_length_le (by omega)]
theorem cut_from {z : Str} {t : Int} (h : 0 ≤ t) : (cutS z (some t) none).cps.toList = z.cps.toList.drop t.toNat := by
  have e : ((t.toNat : Nat) : Int) = t := by omega
  show (((z.cps.toList.drop (HT.sIx z.length 0 (some t))).take (HT.sIx z.length z.length none - HT.sIx z.length 0 (some t))).toArray).toList = _
  have hl : z.cps.toList.length = z.length := Array.length_toList
  rw [List.toList_toArray, HT.sIx_none, ← e, HT.sIx_nat, Int.toNat_natCast]
  by_cases hz : t.toNat ≤ z.length
  · rw [Nat.min_eq_left hz]
    exact List.take_of_length_le (by rw [List.length_drop]; omega)
  · rw [Nat.min_eq_right (by omega), List.drop_eq_nil_of_le (by omega), List.drop_eq_nil_of_le (by omega), List.take_nil]
theorem join_list (zs : List Str) : (Txt.join ⟨#[]⟩ zs).cps.toList = (zs.map fun z => z.cps.toList).flatten := by
  rw [TL.join_eq]
  have h := TL.tl_join ⟨#[]⟩ zs
  unfold TL.tl at h
  rw [h]
  have g : ∀ ps : List (List Nat), TL.joinL [] ps = ps.flatten := by
    intro ps
    induction ps with
    | nil => rfl
    | cons p r ih =>
      cases r with
      | nil =>
        show p = ([p] : List (List Nat)).flatten
        rw [List.flatten_cons, List.flatten_nil, List.append_nil]
      | cons q r =>
        show p ++ ([] ++ TL.joinL [] (q :: r)) = _
        rw [List.nil_append, ih]
        rfl
  exact g _
theorem join_ones (cs : List Nat) : (Txt.join ⟨#[]⟩ (cs.map fun c => ⟨#[c]⟩)).cps.toList = cs := by
  rw [join_list, List.map_map]
  induction cs with
  | nil => rfl
  | cons c r ih =>
    rw [List.map_cons, List.flatten_cons, ih]
    rfl
/-- a name: one to six small letters -/
def NameZ (z : Str) : Prop := 1 ≤ z.length ∧ z.length ≤ 6 ∧ ∀ c ∈ z.cps.toList, c ∈ lets
theorem NameZ.is {z : Str} (h : NameZ z) : lawName z = true := by
  unfold lawName
  obtain ⟨h1, h2, h3⟩ := h
  rw [decide_eq_true (by omega : (0 : Int) < (z.length : Nat)), decide_eq_true (by omega : ((z.length : Nat) : Int) < 7), Bool.true_and, Bool.true_and, List.all_map, List.all_eq_true]
  intro c hc
  exact decide_eq_true (h3 c hc)
def single (c : Nat) : Str := ⟨#[c]⟩
theorem lets_at {i : Int} (h0 : 0 ≤ i) (h1 : i < 26) : lets[i.toNat]? = some (97 + i.toNat) ∧ 97 + i.toNat ∈ lets := by
  have h : ∀ n : Nat, n < 26 → lets[n]? = some (97 + n) ∧ 97 + n ∈ lets := by decide
  exact h i.toNat (by omega)
end Ink
namespace Ink
open PySem PySem.Spec PyProof.Rows L2
section
variable {P : Program} {w : World} {K : PySem.W.Frag} {mg : Str → Option Value} {base : Heap}
theorem ok_letters {f : Addr} {fd : FuncData} {k : Nat} (F : Fun K "_law_letters" "_law_letters" sLLetters f fd) : FnOk P w K mg base CX0 (k + 1) f fd [] spLetters := by
  refine F.ok sc__law_letters (fun vs H Q E h => ?_) (fun cdv A outer s H vs Q E hr h => ?_)
  · obtain ⟨rfl, _⟩ := h
    rfl
  · obtain ⟨rfl, q⟩ := h
    refine ⟨_, (pss_one (ps_ret pe_str)), ?_⟩
    exact q H (Same.refl H)
end
end Ink
namespace Ink
open PySem PySem.Spec PyProof.Rows L2
/-- names: one to six small letters each, unlike -/
def spNames : Sp := fun vs H Q _ => ∃ (a l : Addr) (m : Int), vs = [.ref a, .int m] ∧ BagAt H a l ∧ 0 ≤ m ∧ m ≤ 20 ∧ ∀ p (zs : List Str) H', H p = none → zs.length = m.toNat → (∀ z ∈ zs, NameZ z) → zs.Nodup → H' p = some (.lst (zs.map V.str)) → BagAt H' a l → Keep a H H' → Q (.ref p) H'
theorem mod_apart {s t : Int} {i j : Nat} (ht : t = 1 ∨ t = 3 ∨ t = 5 ∨ t = 7) (hi : i < 26) (hj : j < 26) (h : (s + t * (i : Int)) % 26 = (s + t * (j : Int)) % 26) : i = j := by
  rcases ht with rfl | rfl | rfl | rfl <;> omega
theorem odd_of {v : V} (h : v ∈ [V.int 1, V.int 3, V.int 5, V.int 7]) : ∃ t : Int, v = .int t ∧ (t = 1 ∨ t = 3 ∨ t = 5 ∨ t = 7) := by
  simp only [List.mem_cons, List.not_mem_nil, or_false] at h
  rcases h with rfl | rfl | rfl | rfl
  · exact ⟨_, rfl, .inl rfl⟩
  · exact ⟨_, rfl, .inr (.inl rfl)⟩
  · exact ⟨_, rfl, .inr (.inr (.inl rfl))⟩
  · exact ⟨_, rfl, .inr (.inr (.inr rfl))⟩
/-- the sign at one place tells the names apart -/
def Apart (s t at' : Int) (zs : List Str) : Prop := ∀ (j : Nat) z, zs[j]? = some z → z.cps.toList[at'.toNat]? = some (97 + ((s + t * (j : Int)) % 26).toNat)
theorem Apart.nodup {s t at' : Int} {zs : List Str} (ht : t = 1 ∨ t = 3 ∨ t = 5 ∨ t = 7) (hl : zs.length ≤ 20) (h : Apart s t at' zs) : zs.Nodup := by
  rw [List.nodup_iff_pairwise_ne, List.pairwise_iff_getElem]
  intro i j hi hj hij e
  have h1 := h i _ (List.getElem?_eq_getElem hi)
  have h2 := h j _ (List.getElem?_eq_getElem hj)
  rw [e] at h1
  have h3 := Option.some.inj (h1.symm.trans h2)
  have m1 := Int.emod_nonneg (s + t * (i : Int)) (show (26 : Int) ≠ 0 by decide)
  have m2 := Int.emod_nonneg (s + t * (j : Int)) (show (26 : Int) ≠ 0 by decide)
  have := mod_apart (s := s) (t := t) (i := i) (j := j) ht (by omega) (by omega) (by omega)
  omega
/-- base[:at] + sign + base[at + 1:], then cut -/
theorem name_made {b z : Str} {at' u : Int} {c : Nat} (hb : NameZ b) (h0 : 0 ≤ at') (h1 : at' < (b.length : Nat)) (hc : c ∈ lets) (hz : z.cps.toList = b.cps.toList.take at'.toNat ++ [c] ++ b.cps.toList.drop (at' + 1).toNat) :
    (NameZ z ∧ z.cps.toList[at'.toNat]? = some c) ∧ (at' + 1 ≤ u → NameZ (cutS z none (some u)) ∧ (cutS z none (some u)).cps.toList[at'.toNat]? = some c) := by
  obtain ⟨b1, b2, b3⟩ := hb
  have bl : b.cps.toList.length = b.length := Array.length_toList
  have zl : z.cps.toList.length = z.length := Array.length_toList
  have zl2 : z.length = b.length := by
    rw [← zl, hz, List.length_append, List.length_append, List.length_take, List.length_drop, List.length_singleton]
    omega
  have zm : ∀ x ∈ z.cps.toList, x ∈ lets := by
    intro x hx
    rw [hz] at hx
    rcases List.mem_append.mp hx with hx | hx
    · rcases List.mem_append.mp hx with hx | hx
      · exact b3 x (List.mem_of_mem_take hx)
      · rw [List.mem_singleton.mp hx]
        exact hc
    · exact b3 x (List.mem_of_mem_drop hx)
  have zat : z.cps.toList[at'.toNat]? = some c := by
    have tl : (b.cps.toList.take at'.toNat).length = at'.toNat := by
      rw [List.length_take]
      omega
    rw [hz, List.append_assoc, List.getElem?_append_right (by omega), tl, Nat.sub_self]
    rfl
  refine ⟨⟨⟨by omega, by omega, zm⟩, zat⟩, fun hu => ?_⟩
  have e := cut_to (z := z) (t := u) (by omega)
  have cl : (cutS z none (some u)).cps.toList.length = (cutS z none (some u)).length := Array.length_toList
  refine ⟨⟨?_, ?_, fun x hx => ?_⟩, ?_⟩
  · rw [← cl, e, List.length_take]
    omega
  · have := cutS_length z none (some u)
    omega
  · rw [e] at hx
    exact zm x (List.mem_of_mem_take hx)
  · rw [e, List.getElem?_take_of_lt (by omega)]
    exact zat
theorem sum_single : ∀ cs : List Nat, ((cs.map fun c => (⟨#[c]⟩ : Str)).map (·.length)).sum = cs.length
  | [] => rfl
  | c :: r => by
    rw [List.map_cons, List.map_cons, List.sum_cons, sum_single r, List.length_cons]
    show 1 + r.length = r.length + 1
    omega
section
variable {P : Program} {w : World} {K : PySem.W.Frag} {mg : Str → Option Value} {base : Heap}
theorem ok_names {f : Addr} {fd : FuncData} {k : Nat} (F : Fun K "_law_names" "_law_names" sLNames f fd) (T : Txt mg)
    (C__law_pull : Cal P w K mg base k "_law_pull" ["_law_bag_here", "_law_many"] spPull) (C__law_of : Cal P w K mg base k "_law_of" ["_law_bag_here", "_law_things"] (spOf K)) (C__law_letters : Cal P w K mg base k "_law_letters" [] spLetters) :
    FnOk P w K mg base CX0 (k + 1) f fd ["_law_bag_here", "_law_many"] spNames := by
  refine F.ok sc__law_names (fun vs H Q E h => ?_) (fun cdv A outer s H vs Q E hr h => ?_)
  · obtain ⟨a, l, m, rfl, _⟩ := h
    rfl
  · obtain ⟨a, l, m, rfl, hB, m0, m1, q⟩ := h
    refine ⟨_, (pss_cons (ps_asg (pe_tup (pa_cons (pe_op op_add pe_int (pe_callC C__law_pull hr (by rfl) (pa_cons (pv 0) (pa_cons pe_int pa_nil)))) (pa_cons (pe_callC0 C__law_letters hr (by rfl)) pa_nil))) (pg_tup rfl (pgs_cons (pg_name (i := 2) sc__law_names.nd rfl (.inl rfl)) (pgs_cons (pg_name (i := 3) sc__law_names.nd rfl (.inr rfl)) pgs_nil))))
    (pss_cons (ps_par (i := 4) (j := 5) (by rfl) sc__law_names.nd rfl rfl (by decide) rfl rfl (pa_cons (pe_callC C__law_pull hr (by rfl) (pa_cons (pv 0) (pa_cons (pv 2) pa_nil))) (pa_cons (pe_callC C__law_pull hr (by rfl) (pa_cons (pv 0) (pa_cons pe_int pa_nil))) pa_nil)) (by rfl))
    (pss_cons (ps_set (i := 6) sc__law_names.nd rfl (.inl rfl) (pe_callC C__law_of hr (by rfl) (pa_cons (pv 0) (pa_cons (pe_lst (pa_cons pe_int (pa_cons pe_int (pa_cons pe_int (pa_cons pe_int pa_nil))))) pa_nil))))
    (pss_cons (ps_par (i := 7) (j := 8) (by rfl) sc__law_names.nd rfl rfl (by decide) rfl rfl (pa_cons (pe_join pe_str (pe_lc (own := [("_law_k", 9)]) (g := (gName 9)) (by rfl) sc__law_names.nd (pi_range1 (by rfl) T.m_range (pa_cons (pv 2) pa_nil)) (blkOk_by (own := [("_law_k", 9)]) (N := ["_law_bag_here", "_law_many", "_law_size", "_law_letters_here", "_law_at", "_law_start", "_law_step", "_law_base", "_law_found", "_law_k", "_law_sign", "_law_name"]) (sc := defScope sLNames) (by decide +kernel)) (fun _ _ _ _ _ => (pg_name (i := 9) sc__law_names.nd rfl (Or.inl rfl))) (fun _ _ _ _ _ => pts_nil) (fun _ _ _ _ _ => (pe_callC C__law_of hr (by rfl) (pa_cons (pv 0) (pa_cons (pv 3) pa_nil)))))) (pa_cons (pe_lst pa_nil) pa_nil)) (by rfl))
    (pss_cons (ps_for PassesOwn.never rfl (pi_range1 (by rfl) T.m_range (pa_cons (pv 1) pa_nil)) (pg_name (i := 9) sc__law_names.nd rfl (.inl rfl))
    (pss_cons (ps_set (i := 10) sc__law_names.nd rfl (.inl rfl) (pe_ix ix_str (pv 3) (pe_op op_mod (pe_op op_add (pv 5) (pe_op op_mul (pv 6) (pv 9))) pe_int) (fun _ _ => rfl)))
    (pss_cons (ps_set (i := 11) sc__law_names.nd rfl (.inl rfl) (pe_op op_add_str (pe_op op_add_str (pe_slice sl_str (pv 7) po_none (po_some (pv 4))) (pv 10)) (pe_slice sl_str (pv 7) (po_some (pe_op op_add (pv 4) pe_int)) po_none)))
    (pss_one (ps_expr (pe_bm PySem.F.plainAttrs_list PySem.F.slot_list_append PySem.F.type_list_append mt_append (pv 8) (pa_cons (pe_ifExp (pt_cmpR op_eq (pe_callC C__law_pull hr (by rfl) (pa_cons (pv 0) (pa_cons pe_int pa_nil))) pe_int (nomark _)) (pe_slice sl_str (pv 11) po_none (po_some (pe_callB (call_max2 rfl) (by rfl) T.m_max (by decide +kernel) (pa_cons (pe_op op_add (pv 4) pe_int) (pa_cons (pe_op op_sub (pv 2) (pv 9)) pa_nil))))) (pv 11)) pa_nil)))))))
    (pss_one (ps_ret (pv 8)))))))), ?_⟩
    -- size, letters
    refine ⟨.ref a, rfl, a, l, 6, rfl, hB, by decide, by decide, fun sz' H1 z0 z1 hB1 k1 => ⟨1, sz', rfl, rfl, rfl, fun H2 s2 => ⟨by show 2 ≤ sizeLine; decide, fun p1 np1 => ?_⟩⟩⟩
    have hB2 := hB1.same s2
    have hB3 := hB2.upd (o := .tup [V.int (1 + sz'), V.str ⟨lets.toArray⟩]) (hB2.ne np1)
    have k3 : Keep a H (upd H2 p1 (.tup [V.int (1 + sz'), V.str ⟨lets.toArray⟩])) := (k1.trans (Keep.of_same s2)).trans (Keep.of_same (same_new np1))
    refine ⟨p1, _, rfl, .of upd_same, rfl, _, _, rfl, _, _, rfl, rfl, ?_⟩
    -- at, start
    refine ⟨.ref a, rfl, .int (1 + sz'), rfl, a, l, _, rfl, hB3, by omega, by omega, fun at' H4 a0 a1 hB4 k4 => ?_⟩
    refine ⟨.ref a, rfl, a, l, 26, rfl, hB4, by decide, by decide, fun st H5 s0 s1 hB5 k5 => ⟨_, _, rfl, ?_⟩⟩
    -- step
    refine ⟨.ref a, rfl, by show 4 ≤ sizeLine; decide, fun p2 np2 => ?_⟩
    refine ⟨a, l, _, _, rfl, hB5.upd (hB5.ne np2), .inl ⟨p2, rfl, (hB5.ne np2).1.symm, .inl (.of upd_same)⟩, by decide, by decide, fun v H6 hv hB6 k6 => ?_⟩
    obtain ⟨t, rfl, ht⟩ := odd_of hv
    have k56 : Keep a H H6 := ((k3.trans k4).trans k5).trans ((Keep.of_same (same_new np2)).trans k6)
    -- base, found
    refine ⟨⟨_, rfl⟩, .int (1 + sz'), rfl, _, rfl, by omega, by omega, fun D nD => ?_⟩
    refine lc_it walk_range (fun i H' => BagAt H' a l ∧ Keep a H6 H' ∧ ∃ cs : List Nat, cs.length = i ∧ (∀ c ∈ cs, c ∈ lets) ∧ H' D = some (.lst ((cs.map fun c => (⟨#[c]⟩ : Str)).map V.str))) ⟨hB6.upd (hB6.ne nD), Keep.mut (Keep.refl H6) nD, [], rfl, fun _ h => (nomatch h), upd_same⟩ (fun _ _ _ _ => True.intro) (fun i x H7 H8 hi hP hy => ?_) (fun H7 hP => ?_)
    · obtain ⟨hB7, k7, cs, rfl, hcs, eD⟩ := hP
      obtain ⟨rfl, rfl⟩ := hy
      refine ⟨rfl, yes_of (iteT ?_)⟩
      refine ⟨.ref a, rfl, _, rfl, a, l, _, _, rfl, hB7, .inr ⟨_, rfl, rfl⟩, by decide, by decide, fun v H9 hv hB9 k9 => ?_⟩
      obtain ⟨c, hc, rfl⟩ := List.mem_map.mp hv
      have hc : c ∈ lets := by simpa using hc
      refine ⟨_, k9 D _ (hB6.ne nD).1.symm eD, ?_, hB9.upd (hB6.ne nD), Keep.mut (k7.trans k9) nD, cs ++ [c], ?_, ?_, ?_⟩
      · rw [List.length_map, List.length_map]
        exact small_lt (by omega)
      · rw [List.length_append]
        rfl
      · intro x h
        rcases List.mem_append.mp h with h | h
        · exact hcs x h
        · rw [List.mem_singleton.mp h]
          exact hc
      · rw [upd_same, List.map_append, List.map_append]
        rfl
    · obtain ⟨hB7, k7, cs, ecs, hcs, eD⟩ := hP
      refine ⟨_, D, _, rfl, rfl, .inl (.of eD), ?_, ?_⟩
      · rw [sum_single, List.length_map]
        show cs.length + cs.length * 0 ≤ 16777216
        omega
      have jb := join_ones cs
      change (Txt.join (Str.ofString "") (cs.map fun c => ⟨#[c]⟩)).cps.toList = cs at jb
      generalize Txt.join (Str.ofString "") (cs.map fun c => ⟨#[c]⟩) = b at jb
      have bl : b.length = cs.length := by
        rw [← jb]
        exact Array.length_toList.symm
      have hb : NameZ b := ⟨by omega, by omega, by rw [jb]; exact hcs⟩
      -- found
      refine ⟨by show 0 ≤ sizeLine; decide, fun fo nfo => ⟨_, _, rfl, ?_⟩⟩
      have hB8 := hB7.upd (o := .lst []) (hB7.ne nfo)
      have nfo0 : H fo = none := by
        cases h : H fo with
        | none => rfl
        | some o =>
          by_cases e : fo = a
          · exact absurd e.symm (hB7.ne nfo).1
          · rw [(k56.trans k7) fo o e h] at nfo
            cases nfo
      have k8 : Keep a H (upd H7 fo (.lst [])) := (k56.trans k7).trans (Keep.of_same (same_new nfo))
      have fa : a ≠ fo ∧ l ≠ fo := hB7.ne nfo
      have e8 : (upd H7 fo (.lst [])) fo = some (.lst []) := upd_same
      generalize upd H7 fo (.lst []) = H8 at hB8 k8 e8
      -- the loop
      refine ⟨.int m, rfl, m, rfl, by omega, by omega, for_it walk_range0 (fun i σ H' => (∃ y9 y10 y11, σ = [some (.ref a), some (.int m), some (.int (1 + sz')), some (.str ⟨lets.toArray⟩), some (.int at'), some (.int st), some (.int t), some (.str b), some (.ref fo), y9, y10, y11]) ∧ BagAt H' a l ∧ Keep a H H' ∧
        ∃ zs : List Str, zs.length = i ∧ (∀ z ∈ zs, NameZ z) ∧ Apart st t at' zs ∧ H' fo = some (.lst (zs.map V.str))) ⟨⟨none, none, none, rfl⟩, hB8, k8, [], rfl, fun _ h => (nomatch h), fun j z h => by simp at h, e8⟩ (fun _ _ _ _ _ => True.intro) (fun i x σ H9 H10 hi hP hy => ?_) (fun σ H9 hP => ?_)⟩
      · obtain ⟨⟨y9, y10, y11, rfl⟩, hB9, k9, zs, rfl, hzs, hap, efo⟩ := hP
        obtain ⟨rfl, rfl⟩ := hy
        have n0 := Int.emod_nonneg (st + t * (zs.length : Int)) (show (26 : Int) ≠ 0 by decide)
        have n1 := Int.emod_lt_of_pos (st + t * (zs.length : Int)) (show (0 : Int) < 26 by decide)
        obtain ⟨l1, l2⟩ := lets_at n0 n1
        -- sign
        refine ⟨.str ⟨lets.toArray⟩, rfl, .int st, rfl, .int t, rfl, _, rfl, t, (zs.length : Int), rfl, rfl, .inl ⟨by omega, by omega⟩, st, _, rfl, rfl, _, 26, rfl, rfl, (by show (0 : Int) < 26; decide), ⟨lets.toArray⟩, _, 97 + ((st + t * (zs.length : Int)) % 26).toNat, rfl, rfl, (by decide), atI_of n0 (by rw [List.toList_toArray]; exact l1), ?_⟩
        have hcc : some (97 + ((st + t * (zs.length : Int)) % 26).toNat) = some (97 + ((st + t * (zs.length : Int)) % 26).toNat) := rfl
        generalize hc : 97 + ((st + t * (zs.length : Int)) % 26).toNat = c at l1 l2
        have ez : ∀ z : Str, z = (cutS b none (some at') ++ ⟨#[c]⟩) ++ cutS b (some (at' + 1)) none → z.cps.toList = b.cps.toList.take at'.toNat ++ [c] ++ b.cps.toList.drop (at' + 1).toNat := fun z e => by
          rw [e, Str.cps_append, Str.cps_append, Array.toList_append, Array.toList_append, cut_to a0, cut_from (by omega)]
        have c1 := cutS_length b none (some at')
        have c2 := cutS_length b (some (at' + 1)) none
        have cb : (⟨#[c]⟩ : Str).length = 1 := rfl
        -- name
        refine ⟨.str b, rfl, .int at', rfl, at', rfl, b, rfl, small_le (by omega), .str ⟨#[c]⟩, rfl, _, _, rfl, rfl, small_le (by omega), .str b, rfl, .int at', rfl, at', 1, rfl, rfl, _, rfl, b, rfl, small_le (by omega), _, _, rfl, rfl, ?_, ?_⟩
        · rw [Str.length_append]
          exact small_le (by omega)
        obtain ⟨z, hz⟩ : ∃ z, z = (cutS b none (some at') ++ ⟨#[c]⟩) ++ cutS b (some (at' + 1)) none := ⟨_, rfl⟩
        rw [← hz]
        have ⟨⟨nz, za⟩, nu⟩ := name_made (u := if (1 + sz') - (zs.length : Int) > at' + 1 then (1 + sz') - (zs.length : Int) else at' + 1) hb a0 (by omega) l2 (ez z hz)
        have nu := nu (by split <;> omega)
        have fin : ∀ (y : Str) (H11 : Hp), BagAt H11 a l → Keep a H10 H11 → NameZ y → y.cps.toList[at'.toNat]? = some c → BagAt (upd H11 fo (.lst (zs.map V.str ++ [.str y]))) a l ∧ Keep a H (upd H11 fo (.lst (zs.map V.str ++ [.str y]))) ∧
            ∃ zs' : List Str, zs'.length = zs.length + 1 ∧ (∀ z ∈ zs', NameZ z) ∧ Apart st t at' zs' ∧ (upd H11 fo (.lst (zs.map V.str ++ [.str y]))) fo = some (.lst (zs'.map V.str)) := fun y H11 hB11 k11 ny ya => by
          refine ⟨hB11.upd fa, Keep.mut (k9.trans k11) nfo0, zs ++ [y], ?_, ?_, ?_, ?_⟩
          · rw [List.length_append]
            rfl
          · intro x hx
            rcases List.mem_append.mp hx with hx | hx
            · exact hzs x hx
            · rw [List.mem_singleton.mp hx]
              exact ny
          · intro j x hj
            by_cases hjl : j < zs.length
            · rw [List.getElem?_append_left hjl] at hj
              exact hap j x hj
            · have hlt := (List.getElem?_eq_some_iff.mp hj).1
              rw [List.length_append, List.length_singleton] at hlt
              have ej : j = zs.length := by omega
              subst ej
              rw [List.getElem?_append_right (Nat.le_refl _), Nat.sub_self] at hj
              rw [← Option.some.inj hj, hc]
              exact ya
          · rw [upd_same, List.map_append]
            rfl
        refine ⟨.ref fo, rfl, .inl ⟨rfl, _, .of efo⟩, .ref a, rfl, a, l, 3, rfl, hB9, by decide, by decide, fun r H11 r0 r1 hB11 k11 => ⟨rfl, _, rfl, ite2 (fun e => ?_) (fun e => ?_)⟩⟩
        · have efo2 := k11 fo _ fa.1.symm efo
          refine ⟨.str z, rfl, .int at', rfl, at', 1, rfl, rfl, .int (1 + sz'), rfl, .int (zs.length : Int), rfl, _, _, rfl, rfl, _, _, rfl, _, rfl, z, rfl, small_le (by have := nz.2.1; omega), fo, _, _, rfl, rfl, efo2, by rw [List.length_map]; exact small_lt (by omega), ?_⟩
          exact ⟨⟨_, _, _, rfl⟩, fin _ H11 hB11 k11 nu.1 nu.2⟩
        · have efo2 := k11 fo _ fa.1.symm efo
          exact ⟨.str z, rfl, fo, _, _, rfl, rfl, efo2, by rw [List.length_map]; exact small_lt (by omega), ⟨_, _, _, rfl⟩, fin _ H11 hB11 k11 nz za⟩
      · obtain ⟨⟨y9, y10, y11, rfl⟩, hB9, k9, zs, ezs, hzs, hap, efo⟩ := hP
        exact ⟨.ref fo, rfl, q fo zs H9 nfo0 ezs hzs (hap.nodup ht (by omega)) efo hB9 k9⟩
end
end Ink
namespace Ink
open PySem PySem.Spec PyProof.Rows L2
/-- signs: unlike small letters, rising -/
def spSigns : Sp := fun vs H Q _ => ∃ (a l : Addr) (m : Int), vs = [.ref a, .int m] ∧ BagAt H a l ∧ 1 ≤ m ∧ m ≤ 20 ∧ ∀ p (cs : List Nat) H', H p = none → 1 ≤ cs.length → (cs.length : Int) ≤ m → (∀ c ∈ cs, c ∈ lets) → cs.Pairwise (· < ·) → H' p = some (.lst ((cs.map single).map V.str)) → BagAt H' a l → Keep a H H' → Q (.ref p) H'
theorem lt_single (c d : Nat) : ltCps (single c).cps.toList (single d).cps.toList = decide (c < d) := by
  show (decide (c < d) || (c == d && ltCps [] [])) = _
  rw [show ltCps [] [] = false from rfl, Bool.and_false, Bool.or_false]
theorem rising_lt : ∀ (cs : List Nat) (c : Nat), risingS (single c) (cs.map single) = true → (c :: cs).Nodup → (c :: cs).Pairwise (· < ·)
  | [], c, _, _ => List.pairwise_singleton _ _
  | d :: r, c, h, hn => by
    have h : (!ltCps (single d).cps.toList (single c).cps.toList && risingS (single d) (r.map single)) = true := h
    rw [Bool.and_eq_true, lt_single] at h
    have hcd : ¬ d < c := fun q => by
      rw [decide_eq_true q] at h
      exact nomatch h.1
    have hn2 := List.nodup_cons.mp hn
    have ih := rising_lt r d h.2 hn2.2
    have hne : c ≠ d := fun e => hn2.1 (by rw [e]; exact List.mem_cons_self ..)
    refine List.pairwise_cons.mpr ⟨fun e he => ?_, ih⟩
    rcases List.mem_cons.mp he with he | he
    · omega
    · have := (List.pairwise_cons.mp ih).1 e he
      omega
def hdZ (z : Str) : Nat := z.cps.toList.headD 0
theorem map_hd (cs : List Nat) : (cs.map single).map hdZ = cs := by
  rw [List.map_map]
  exact List.map_id _
theorem sorted_singles {ys : List Str} {cs : List Nat} (hp : ys.Perm (cs.map single)) (hs : sortedS ys = true) (hn : cs.Nodup) :
    ∃ ds : List Nat, ys = ds.map single ∧ ds.Perm cs ∧ ds.Pairwise (· < ·) := by
  have e : ys = (ys.map hdZ).map single := by
    rw [List.map_map]
    refine (List.map_id ys).symm.trans (List.map_congr_left fun y hy => ?_)
    obtain ⟨c, _, rfl⟩ := List.mem_map.mp (hp.mem_iff.mp hy)
    rfl
  have pm : (ys.map hdZ).Perm cs := by
    have := hp.map hdZ
    rw [map_hd] at this
    exact this
  refine ⟨ys.map hdZ, e, pm, ?_⟩
  have nd : (ys.map hdZ).Nodup := pm.nodup_iff.mpr hn
  rw [e] at hs
  generalize ys.map hdZ = ds at hs nd
  cases ds with
  | nil => exact .nil
  | cons d r => exact rising_lt r d hs nd
section
variable {P : Program} {w : World} {K : PySem.W.Frag} {mg : Str → Option Value} {base : Heap}
theorem ok_signs {f : Addr} {fd : FuncData} {k : Nat} (F : Fun K "_law_signs" "_law_signs" sLSigns f fd) (T : Txt mg)
    (C__law_pull : Cal P w K mg base k "_law_pull" ["_law_bag_here", "_law_many"] spPull) (C__law_of : Cal P w K mg base k "_law_of" ["_law_bag_here", "_law_things"] (spOf K)) (C__law_letters : Cal P w K mg base k "_law_letters" [] spLetters) :
    FnOk P w K mg base CX0 (k + 1) f fd ["_law_bag_here", "_law_limit"] spSigns := by
  refine F.ok sc__law_signs (fun vs H Q E h => ?_) (fun cdv A outer s H vs Q E hr h => ?_)
  · obtain ⟨a, l, m, rfl, _⟩ := h
    rfl
  · obtain ⟨a, l, m, rfl, hB, m0, m1, q⟩ := h
    refine ⟨_, (pss_cons (ps_asg (pe_tup (pa_cons (pe_callC C__law_pull hr (by rfl) (pa_cons (pv 0) (pa_cons pe_int pa_nil))) (pa_cons (pe_callC C__law_of hr (by rfl) (pa_cons (pv 0) (pa_cons (pe_lst (pa_cons pe_int (pa_cons pe_int (pa_cons pe_int (pa_cons pe_int pa_nil))))) pa_nil))) pa_nil))) (pg_tup rfl (pgs_cons (pg_name (i := 2) sc__law_signs.nd rfl (.inr rfl)) (pgs_cons (pg_name (i := 3) sc__law_signs.nd rfl (.inr rfl)) pgs_nil))))
    (pss_cons (ps_asg (pe_tup (pa_cons (pe_op op_add pe_int (pe_callC C__law_pull hr (by rfl) (pa_cons (pv 0) (pa_cons (pv 1) pa_nil)))) (pa_cons (pe_callC0 C__law_letters hr (by rfl)) pa_nil))) (pg_tup rfl (pgs_cons (pg_name (i := 4) sc__law_signs.nd rfl (.inl rfl)) (pgs_cons (pg_name (i := 5) sc__law_signs.nd rfl (.inr rfl)) pgs_nil))))
    (pss_one (ps_ret (pe_callB cr_sortedS (by rfl) T.m_sorted (by decide +kernel) (pa_cons (pe_lc (own := [("_law_k", 6)]) (g := (gName 6)) (by rfl) sc__law_signs.nd (pi_range1 (by rfl) T.m_range (pa_cons (pv 4) pa_nil)) (blkOk_by (own := [("_law_k", 6)]) (N := ["_law_bag_here", "_law_limit", "_law_start", "_law_step", "_law_many", "_law_letters_here", "_law_k"]) (sc := defScope sLSigns) (by decide +kernel)) (fun _ _ _ _ _ => (pg_name (i := 6) sc__law_signs.nd rfl (Or.inl rfl))) (fun _ _ _ _ _ => pts_nil) (fun _ _ _ _ _ => (pe_ix ix_str (pv 5) (pe_op op_mod (pe_op op_add (pv 2) (pe_op op_mul (pv 3) (pv 6))) pe_int) (fun _ _ => rfl)))) pa_nil)))))), ?_⟩
    -- start, step
    refine ⟨.ref a, rfl, a, l, 26, rfl, hB, by decide, by decide, fun st H1 s0 s1 hB1 k1 => ?_⟩
    refine ⟨.ref a, rfl, by show 4 ≤ sizeLine; decide, fun p2 np2 => ?_⟩
    refine ⟨a, l, _, _, rfl, hB1.upd (hB1.ne np2), .inl ⟨p2, rfl, (hB1.ne np2).1.symm, .inl (.of upd_same)⟩, by decide, by decide, fun v H2 hv hB2 k2 => ?_⟩
    obtain ⟨t, rfl, ht⟩ := odd_of hv
    refine ⟨by show 2 ≤ sizeLine; decide, fun p3 np3 => ?_⟩
    have hB3 := hB2.upd (o := .tup [V.int st, V.int t]) (hB2.ne np3)
    have k3 : Keep a H (upd H2 p3 (.tup [V.int st, V.int t])) := (k1.trans ((Keep.of_same (same_new np2)).trans k2)).trans (Keep.of_same (same_new np3))
    refine ⟨p3, _, rfl, .of upd_same, rfl, _, _, rfl, _, _, rfl, rfl, ?_⟩
    -- many, letters
    refine ⟨.ref a, rfl, .int m, rfl, a, l, m, rfl, hB3, by omega, by omega, fun n H4 n0 n1 hB4 k4 => ⟨1, n, rfl, rfl, rfl, fun H5 s5 => ⟨by show 2 ≤ sizeLine; decide, fun p6 np6 => ?_⟩⟩⟩
    have hB5 := hB4.same s5
    have hB6 := hB5.upd (o := .tup [V.int (1 + n), V.str ⟨lets.toArray⟩]) (hB5.ne np6)
    have k6 : Keep a H (upd H5 p6 (.tup [V.int (1 + n), V.str ⟨lets.toArray⟩])) := ((k3.trans k4).trans (Keep.of_same s5)).trans (Keep.of_same (same_new np6))
    refine ⟨p6, _, rfl, .of upd_same, rfl, _, _, rfl, _, _, rfl, rfl, ?_⟩
    -- the signs
    refine ⟨.int (1 + n), rfl, 1 + n, rfl, by omega, by omega, fun D nD => ?_⟩
    refine lc_it walk_range0 (fun i H' => BagAt H' a l ∧ Keep a H H' ∧ H' D = some (.lst ((((List.range i).map fun j : Nat => 97 + ((st + t * (j : Int)) % 26).toNat).map single).map V.str))) ⟨hB6.upd (hB6.ne nD), k6.trans (Keep.of_same (same_new nD)), upd_same⟩ (fun _ _ _ _ => True.intro) (fun i x H7 H8 hi hP hy => ?_) (fun H7 hP => ?_)
    · obtain ⟨hB7, k7, eD⟩ := hP
      obtain ⟨rfl, rfl⟩ := hy
      have n0 := Int.emod_nonneg (st + t * (i : Int)) (show (26 : Int) ≠ 0 by decide)
      have n1 := Int.emod_lt_of_pos (st + t * (i : Int)) (show (0 : Int) < 26 by decide)
      obtain ⟨l1, l2⟩ := lets_at n0 n1
      have nD0 : H D = none := by
        cases h : H D with
        | none => rfl
        | some o =>
          by_cases e : D = a
          · exact absurd e.symm (hB6.ne nD).1
          · rw [k6 D o e h] at nD
            cases nD
      refine ⟨rfl, yes_of (iteT ?_)⟩
      refine ⟨.str ⟨lets.toArray⟩, rfl, .int st, rfl, .int t, rfl, _, rfl, t, (i : Int), rfl, rfl, .inl ⟨by omega, by omega⟩, st, _, rfl, rfl, _, 26, rfl, rfl, (by show (0 : Int) < 26; decide), ⟨lets.toArray⟩, _, 97 + ((st + t * (i : Int)) % 26).toNat, rfl, rfl, (by decide), atI_of n0 (by rw [List.toList_toArray]; exact l1), ?_⟩
      refine ⟨_, eD, ?_, hB7.upd (hB6.ne nD), Keep.mut k7 nD0, ?_⟩
      · rw [List.length_map, List.length_map, List.length_map, List.length_range]
        exact small_lt (by omega)
      · rw [upd_same, List.range_succ, List.map_append, List.map_append, List.map_append]
        rfl
    · obtain ⟨hB7, k7, eD⟩ := hP
      refine ⟨D, _, rfl, .of eD, ?_, fun ys p pm hs np => ?_⟩
      · rw [List.length_map, List.length_map, List.length_range]
        omega
      have nd : ((List.range (1 + n).toNat).map fun j : Nat => 97 + ((st + t * (j : Int)) % 26).toNat).Nodup := by
        rw [List.nodup_iff_pairwise_ne, List.pairwise_map]
        refine List.Pairwise.imp_of_mem (fun {i j} hi hj hij e => hij ?_) (List.nodup_iff_pairwise_ne.mp List.nodup_range)
        have hi := List.mem_range.mp hi
        have hj := List.mem_range.mp hj
        have m1 := Int.emod_nonneg (st + t * (i : Int)) (show (26 : Int) ≠ 0 by decide)
        have m2 := Int.emod_nonneg (st + t * (j : Int)) (show (26 : Int) ≠ 0 by decide)
        exact mod_apart (s := st) (t := t) ht (by omega) (by omega) (by omega)
      obtain ⟨ds, rfl, pd, hlt⟩ := sorted_singles pm hs nd
      have hlen : ds.length = (1 + n).toNat := by
        rw [pd.length_eq, List.length_map, List.length_range]
      have np0 : H p = none := by
        cases h : H p with
        | none => rfl
        | some o =>
          by_cases e : p = a
          · exact absurd e.symm (hB7.ne np).1
          · rw [k7 p o e h] at np
            cases np
      refine q p ds _ np0 (by omega) (by omega) (fun c hc => ?_) hlt upd_same (hB7.upd (hB7.ne np)) (k7.trans (Keep.of_same (same_new np)))
      obtain ⟨j, _, rfl⟩ := List.mem_map.mp (pd.mem_iff.mp hc)
      exact (lets_at (Int.emod_nonneg _ (by decide)) (Int.emod_lt_of_pos _ (by decide))).2
end
end Ink
namespace Ink
open PySem PySem.Spec PyProof.Rows L2
/-- an arrow: place, sign, place -/
abbrev Arw := Int × Str × Int
def ArwAt (H : Hp) (p : Addr) (x : Arw) : Prop := H p = some (.tup [.int x.1, .str x.2.1, .int x.2.2])
def ArsAt (H : Hp) (ps : List Addr) (ar : List Arw) : Prop := Paired (ArwAt H) ps ar
theorem tup_ne {H : Hp} {a l p : Addr} {xs : List V} (b : BagAt H a l) (h : H p = some (.tup xs)) : p ≠ a := by
  obtain ⟨ns, x, y, z, h1, _⟩ := b
  exact fun e => by
    rw [e, h1] at h
    cases h
theorem ArsAt.keep {H H' : Hp} {a l : Addr} {ps : List Addr} {ar : List Arw} (b : BagAt H a l) (k : Keep a H H') (h : ArsAt H ps ar) : ArsAt H' ps ar := L2.Paired.mapP h fun p x hx => k p _ (tup_ne b hx) hx
theorem ArsAt.same {H H' : Hp} {ps : List Addr} {ar : List Arw} (k : Same H H') (h : ArsAt H ps ar) : ArsAt H' ps ar := L2.Paired.mapP h fun p x hx => k p _ hx
theorem prd_snoc {α β : Type} {F : α → β → Prop} : ∀ {xs : List α} {ys : List β} {x : α} {y : β}, Paired F xs ys → F x y → Paired F (xs ++ [x]) (ys ++ [y])
  | _, _, _, _, .nil, h => .cons h .nil
  | _, _, _, _, .cons r t, h => .cons r (prd_snoc t h)
def goodA (x : Arw) : Prop := 0 ≤ x.1 ∧ x.1 ≤ 2 ∧ (∃ c ∈ lets, x.2.1 = single c) ∧ 0 ≤ x.2.2 ∧ x.2.2 ≤ 2
def lessA (x y : Arw) : Prop := x.1 < y.1 ∨ (x.1 = y.1 ∧ x.2.1.cps.toList < y.2.1.cps.toList)
/-- what a drawn writer has -/
structure GoodW (z : Str) (ar : List Arw) (p c : Int) : Prop where
  name : NameZ z
  len : ar.length ≤ 9
  each : ∀ x ∈ ar, goodA x
  rise : ar.Pairwise lessA
  p0 : 0 ≤ p
  p3 : p ≤ 3
  c0 : 0 ≤ c
  c3 : c ≤ 3
def WrAt (H : Hp) (W : Addr) (z : Str) (ar : List Arw) (p c : Int) : Prop := ∃ tp ps, H W = some (.tup [.str z, .ref tp, .int p, .int c]) ∧ H tp = some (.tup (ps.map V.ref)) ∧ ArsAt H ps ar
theorem WrAt.keep {H H' : Hp} {a l W : Addr} {z : Str} {ar : List Arw} {p c : Int} (b : BagAt H a l) (k : Keep a H H') (h : WrAt H W z ar p c) : WrAt H' W z ar p c := by
  obtain ⟨tp, ps, h1, h2, h3⟩ := h
  exact ⟨tp, ps, k _ _ (tup_ne b h1) h1, k _ _ (tup_ne b h2) h2, h3.keep b k⟩
theorem WrAt.same {H H' : Hp} {W : Addr} {z : Str} {ar : List Arw} {p c : Int} (k : Same H H') (h : WrAt H W z ar p c) : WrAt H' W z ar p c := by
  obtain ⟨tp, ps, h1, h2, h3⟩ := h
  exact ⟨tp, ps, k _ _ h1, k _ _ h2, h3.same k⟩
theorem Keep.free {a D : Addr} {H H' : Hp} (k : Keep a H H') (n : a ≠ D) (h : H' D = none) : H D = none := by
  cases e : H D with
  | none => rfl
  | some o =>
    rw [k D o n.symm e] at h
    cases h
def spWriter : Sp := fun vs H Q _ => ∃ (a l : Addr) (z : Str) (m : Int) (sp : Addr) (cs : List Nat) (th : Int), vs = [.ref a, .str z, .int m, .ref sp, .int th] ∧ BagAt H a l ∧ NameZ z ∧ 1 ≤ m ∧ m ≤ 3 ∧
  H sp = some (.lst ((cs.map single).map V.str)) ∧ sp ≠ a ∧ (∀ c ∈ cs, c ∈ lets) ∧ cs.Pairwise (· < ·) ∧ ∀ W ar p c H', H W = none → WrAt H' W z ar p c → GoodW z ar p c → BagAt H' a l → Keep a H H' → Q (.ref W) H'
section
variable {P : Program} {w : World} {K : PySem.W.Frag} {mg : Str → Option Value} {base : Heap}
theorem count_of {v : V} (h : v ∈ [V.int 0, V.int 0, V.int 0, V.int 1, V.int 2, V.int 3]) : ∃ t : Int, v = .int t ∧ 0 ≤ t ∧ t ≤ 3 := by
  simp only [List.mem_cons, List.not_mem_nil, or_false] at h
  rcases h with rfl | rfl | rfl | rfl | rfl | rfl <;> exact ⟨_, rfl, by decide, by decide⟩
theorem pair_get {cs : List Nat} (hp : cs.Pairwise (· < ·)) {i j x y : Nat} (hi : cs[i]? = some x) (hj : cs[j]? = some y) (h : i < j) : x < y := by
  obtain ⟨h1, e1⟩ := List.getElem?_eq_some_iff.mp hi
  obtain ⟨h2, e2⟩ := List.getElem?_eq_some_iff.mp hj
  have := (List.pairwise_iff_getElem.mp hp) i j h1 h2 h
  rw [e1, e2] at this
  exact this
/-- the lines so far, ahead of the j-th sign at the place i -/
def Lines (cs : List Nat) (i j : Nat) (ar : List Arw) : Prop := ar.length ≤ 9 ∧ (∀ x ∈ ar, goodA x) ∧ ar.Pairwise lessA ∧ ∀ x ∈ ar, x.1 < (i : Int) ∨ (x.1 = (i : Int) ∧ ∃ (j' c : Nat), j' < j ∧ cs[j']? = some c ∧ x.2.1 = single c)
theorem Lines.next {cs : List Nat} {i j : Nat} {ar : List Arw} (h : Lines cs i j ar) : Lines cs i (j + 1) ar := by
  obtain ⟨h1, h2, h3, h4⟩ := h
  refine ⟨h1, h2, h3, fun x hx => ?_⟩
  rcases h4 x hx with h | ⟨e, j', c, h5, h6⟩
  · exact .inl h
  · exact .inr ⟨e, j', c, by omega, h6⟩
theorem Lines.row {cs : List Nat} {i j : Nat} {ar : List Arw} (h : Lines cs i j ar) : Lines cs (i + 1) 0 ar := by
  obtain ⟨h1, h2, h3, h4⟩ := h
  refine ⟨h1, h2, h3, fun x hx => .inl ?_⟩
  rcases h4 x hx with h | ⟨e, _⟩ <;> omega
theorem Lines.more {cs : List Nat} {i j c : Nat} {t : Int} {ar : List Arw} (h : Lines cs i j ar) (hl : ar.length < 9) (hc : cs[j]? = some c) (hm : c ∈ lets) (hp : cs.Pairwise (· < ·)) (hi : i ≤ 2) (t0 : 0 ≤ t) (t1 : t ≤ 2) : Lines cs i (j + 1) (ar ++ [((i : Int), single c, t)]) := by
  obtain ⟨h1, h2, h3, h4⟩ := h
  refine ⟨by rw [List.length_append, List.length_singleton]; omega, fun x hx => ?_, ?_, fun x hx => ?_⟩
  · rcases List.mem_append.mp hx with hx | hx
    · exact h2 x hx
    · rw [List.mem_singleton.mp hx]
      exact ⟨by show (0 : Int) ≤ (i : Int); omega, by show ((i : Int)) ≤ 2; omega, ⟨c, hm, rfl⟩, t0, t1⟩
  · refine List.pairwise_append.mpr ⟨h3, List.pairwise_singleton _ _, fun x hx y hy => ?_⟩
    rw [List.mem_singleton.mp hy]
    rcases h4 x hx with h | ⟨e, j', d, h5, h6, h7⟩
    · exact .inl h
    · refine .inr ⟨e, ?_⟩
      show x.2.1.cps.toList < (single c).cps.toList
      rw [h7]
      exact (lt_one d c).mpr (pair_get hp h6 hc h5)
  · rcases List.mem_append.mp hx with hx | hx
    · rcases h4 x hx with h | ⟨e, j', d, h5, h6⟩
      · exact .inl h
      · exact .inr ⟨e, j', d, by omega, h6⟩
    · rw [List.mem_singleton.mp hx]
      exact .inr ⟨rfl, j, c, by omega, hc, rfl⟩
theorem ok_writer {f : Addr} {fd : FuncData} {k : Nat} (F : Fun K "_law_writer" "_law_writer" sLWriter f fd) (T : Txt mg)
    (C__law_pull : Cal P w K mg base k "_law_pull" ["_law_bag_here", "_law_many"] spPull) (C__law_of : Cal P w K mg base k "_law_of" ["_law_bag_here", "_law_things"] (spOf K)) :
    FnOk P w K mg base CX0 (k + 1) f fd ["_law_bag_here", "_law_name", "_law_places", "_law_signs_here", "_law_thick"] spWriter := by
  refine F.ok sc__law_writer (fun vs H Q E h => ?_) (fun cdv A outer s H vs Q E hr h => ?_)
  · obtain ⟨a, l, z, m, sp, cs, th, rfl, _⟩ := h
    rfl
  · obtain ⟨a, l, z, m, sp, cs, th, rfl, hB, hz, m0, m1, hsp, nsp, hcs, hrise, q⟩ := h
    refine ⟨_, (pss_cons (ps_set (i := 5) sc__law_writer.nd rfl (.inl rfl) (pe_lst pa_nil))
    (pss_cons (ps_for PassesOwn.never rfl (pi_range1 (by rfl) T.m_range (pa_cons (pv 2) pa_nil)) (pg_name (i := 6) sc__law_writer.nd rfl (.inl rfl))
    (pss_one (ps_for PassesOwn.never rfl (pi_list (pv 3)) (pg_name (i := 7) sc__law_writer.nd rfl (.inl rfl))
    (pss_one (ps_if (PW.pt (pw_and (pt_cmpR op_lt (pe_callB call_len (by rfl) T.m_len PySem.boot_len (pa_cons (pv 5) pa_nil)) pe_int (nomark _)) (pw_and1 (pt_cmpR op_lt (pe_callC C__law_pull hr (by rfl) (pa_cons (pv 0) (pa_cons pe_int pa_nil))) (pv 4) (nomark _)))))
    (pss_one (ps_expr (pe_bm PySem.F.plainAttrs_list PySem.F.slot_list_append PySem.F.type_list_append mt_append (pv 5) (pa_cons (pe_tup (pa_cons (pv 6) (pa_cons (pv 7) (pa_cons (pe_callC C__law_pull hr (by rfl) (pa_cons (pv 0) (pa_cons (pv 2) pa_nil))) pa_nil)))) pa_nil)))) pss_nil)))))
    (pss_cons (ps_set (i := 8) sc__law_writer.nd rfl (.inl rfl) (pe_lst (pa_cons pe_int (pa_cons pe_int (pa_cons pe_int (pa_cons pe_int (pa_cons pe_int (pa_cons pe_int pa_nil))))))))
    (pss_one (ps_ret (pe_tup (pa_cons (pv 1) (pa_cons (pe_callTy call_tuple_of (by rfl) T.m_tuple (by decide +kernel) (pa_cons (pv 5) pa_nil)) (pa_cons (pe_callC C__law_of hr (by rfl) (pa_cons (pv 0) (pa_cons (pv 8) pa_nil))) (pa_cons (pe_callC C__law_of hr (by rfl) (pa_cons (pv 0) (pa_cons (pv 8) pa_nil))) pa_nil)))))))))), ?_⟩
    refine ⟨by show 0 ≤ sizeLine; decide, fun ln nln => ?_⟩
    have nl := hB.ne nln
    have nls : sp ≠ ln := ne_of_none hsp nln
    refine ⟨.int m, rfl, m, rfl, by omega, by omega, for_it walk_range0 (fun i σ H' => (∃ y6 y7 y8, σ = [some (.ref a), some (.str z), some (.int m), some (.ref sp), some (.int th), some (.ref ln), y6, y7, y8]) ∧ BagAt H' a l ∧ Keep a H H' ∧
      ∃ ps ar, H' ln = some (.lst (ps.map V.ref)) ∧ ArsAt H' ps ar ∧ Lines cs i 0 ar) ⟨⟨none, none, none, rfl⟩, hB.upd nl, Keep.mut (Keep.refl H) nln, [], [], upd_same, .nil, by decide, (fun _ h => nomatch h), .nil, (fun _ h => nomatch h)⟩ (fun _ _ _ _ _ => True.intro) (fun i x σ H1 H2 hi hP hy => ?_) (fun σ H1 hP => ?_)⟩
    · obtain ⟨⟨y6, y7, y8, rfl⟩, hB1, k1, ps, ar, eln, hps, hL⟩ := hP
      obtain ⟨rfl, rfl⟩ := hy
      have es : ∀ H', Keep a H H' → H' sp = some (.lst ((cs.map single).map V.str)) := fun H' k => k sp _ nsp hsp
      refine ⟨.ref sp, rfl, sp, rfl, ⟨_, .of (es _ k1)⟩, for_it (walk_list (xs := (cs.map single).map V.str)) (fun j σ H' => (∃ y7 y8, σ = [some (.ref a), some (.str z), some (.int m), some (.ref sp), some (.int th), some (.ref ln), some (.int (i : Int)), y7, y8]) ∧ BagAt H' a l ∧ Keep a H H' ∧
        ∃ ps ar, H' ln = some (.lst (ps.map V.ref)) ∧ ArsAt H' ps ar ∧ Lines cs i j ar) ⟨⟨_, _, rfl⟩, hB1, k1, ps, ar, eln, hps, hL⟩ (fun _ _ H' _ hP => .of (es _ hP.2.2.1)) (fun j x σ H3 H4 hj hP hy => ?_) (fun σ H3 hP => ?_)⟩
      · obtain ⟨⟨y7, y8, rfl⟩, hB3, k3, ps, ar, eln, hps, hL⟩ := hP
        obtain ⟨rfl, hx⟩ := hy
        obtain ⟨c, hc, rfl⟩ : ∃ c, cs[j]? = some c ∧ x = .str (single c) := by
          rw [List.getElem?_map, List.getElem?_map] at hx
          cases h : cs[j]? with
          | none =>
            rw [h] at hx
            cases hx
          | some c =>
            rw [h] at hx
            exact ⟨c, rfl, (Option.some.inj hx).symm⟩
        have hm : c ∈ lets := hcs c (List.mem_of_getElem? hc)
        have elen : ps.length = ar.length := Paired.length hps
        -- len(lines) < 9
        refine ⟨.ref ln, rfl, .ref ln, _, rfl, .inl ⟨_, .of eln, rfl⟩, _, _, rfl, rfl, _, rfl, ite2 (fun e => ?_) (fun e => ?_)⟩
        · have e : (((ps.map V.ref).length : Nat) : Int) < 9 := of_decide_eq_true e
          rw [List.length_map] at e
          refine ⟨.ref a, rfl, a, l, 8, rfl, hB3, by decide, by decide, fun r H5 _ _ hB5 k5 => ⟨.int th, rfl, _, _, rfl, rfl, _, rfl, ite2 (fun e2 => ?_) (fun e2 => ?_)⟩⟩
          · refine ⟨.ref ln, rfl, .inl ⟨rfl, _, .of (k5 ln _ nl.1.symm eln)⟩, _, rfl, _, rfl, .ref a, rfl, .int m, rfl, a, l, m, rfl, hB5, by omega, by omega, fun t H6 t0 t1 hB6 k6 => ⟨by show 3 ≤ sizeLine; decide, fun p np => ?_⟩⟩
            have hps5 := hps.keep hB3 k5
            have hps6 := (hps5.keep hB5 k6).same (same_new (o := .tup [V.int (i : Int), V.str (single c), V.int t]) np)
            have eln6 := k6 ln _ nl.1.symm (k5 ln _ nl.1.symm eln)
            have npl : ln ≠ p := ne_of_none eln6 np
            refine ⟨ln, _, _, rfl, rfl, (same_new np ln _ eln6), by rw [List.length_map]; exact small_lt (by omega), ⟨_, _, rfl⟩, (hB6.upd (hB6.ne np)).upd nl, Keep.mut ((k3.trans (k5.trans k6)).trans (Keep.of_same (same_new np))) nln, ps ++ [p], ar ++ [((i : Int), single c, t)], ?_, ?_, hL.more (by omega) hc hm hrise (by omega) t0 (by omega)⟩
            · rw [upd_same, List.map_append]
              rfl
            · refine prd_snoc (L2.Paired.mapP hps6 fun p' x' hx' => ?_) ?_
              · show upd _ ln _ p' = _
                rw [upd_ne (ne_of hx' (same_new np ln _ eln6) (by intro z; cases z))]
                exact hx'
              · show upd _ ln _ p = _
                rw [upd_ne npl.symm, upd_same]
          · exact ⟨⟨_, _, rfl⟩, hB5, k3.trans k5, ps, ar, k5 ln _ nl.1.symm eln, hps.keep hB3 k5, hL.next⟩
        · exact iteF ⟨⟨_, _, rfl⟩, hB3, k3, ps, ar, eln, hps, hL.next⟩
      · obtain ⟨⟨y7, y8, rfl⟩, hB3, k3, ps, ar, eln, hps, hL⟩ := hP
        exact ⟨⟨_, _, _, rfl⟩, hB3, k3, ps, ar, eln, hps, hL.row⟩
    · obtain ⟨⟨y6, y7, y8, rfl⟩, hB1, k1, ps, ar, eln, hps, hL⟩ := hP
      -- counts
      refine ⟨by show 6 ≤ sizeLine; decide, fun cp ncp => ?_⟩
      have hB2 := hB1.upd (o := .lst [V.int 0, .int 0, .int 0, .int 1, .int 2, .int 3]) (hB1.ne ncp)
      have k2 := Keep.of_same (a := a) (same_new (o := .lst [V.int 0, .int 0, .int 0, .int 1, .int 2, .int 3]) ncp)
      have ncpa : cp ≠ a := (hB1.ne ncp).1.symm
      -- the tuple of lines
      refine ⟨.str z, rfl, .ref ln, rfl, ln, _, rfl, .inl ⟨.of (k2 ln _ nl.1.symm eln), fun tp ntp => ?_⟩⟩
      have hB3 := hB2.upd (o := .tup (ps.map V.ref)) (hB2.ne ntp)
      have k3 := Keep.of_same (a := a) (same_new (o := .tup (ps.map V.ref)) ntp)
      refine ⟨.ref a, rfl, .ref cp, rfl, a, l, _, _, rfl, hB3, .inl ⟨cp, rfl, ncpa, .inl (.of (k3 cp _ ncpa upd_same))⟩, by decide, by decide, fun v H4 hv hB4 k4 => ?_⟩
      obtain ⟨p, rfl, p0, p3⟩ := count_of hv
      refine ⟨.ref a, rfl, .ref cp, rfl, a, l, _, _, rfl, hB4, .inl ⟨cp, rfl, ncpa, .inl (.of (k4 cp _ ncpa (k3 cp _ ncpa upd_same)))⟩, by decide, by decide, fun v H5 hv hB5 k5 => ?_⟩
      obtain ⟨c, rfl, c0, c3⟩ := count_of hv
      refine ⟨by show 4 ≤ sizeLine; decide, fun W nW => ?_⟩
      have k25 := (k2.trans k3).trans (k4.trans k5)
      have k6 := Keep.of_same (a := a) (same_new (o := .tup [V.str z, .ref tp, .int p, .int c]) nW)
      have nW1 : H W = none := (k1.trans k25).free (hB5.ne nW).1 nW
      refine q W ar p c _ nW1 ⟨tp, ps, upd_same, ?_, ?_⟩ ⟨hz, hL.1, hL.2.1, hL.2.2.1, p0, p3, c0, c3⟩ (hB5.upd (hB5.ne nW)) ((k1.trans k25).trans k6)
      · exact k6 tp _ (hB2.ne ntp).1.symm ((k4.trans k5) tp _ (hB2.ne ntp).1.symm upd_same)
      · exact (hps.keep hB1 k25).keep hB5 k6
end
end Ink
namespace Ink
open PySem PySem.Spec PyProof.Rows L2
/-- (i, x) < (j, y) -/
def ltIS (i : Int) (x : Str) (j : Int) (y : Str) : Bool := if i = j then (if x = y then false else decide (x.cps.toList < y.cps.toList)) else decide (i < j)
def rLtIS (K : PySem.W.Frag) : R2 := fun u v H Q => ∃ a b i x j y, u = .ref a ∧ v = .ref b ∧ SqT K H a [.int i, .str x] ∧ SqT K H b [.int j, .str y] ∧ Q (.bl (ltIS i x j y)) H
theorem op_ltIS {X : Cx} (hu : X.A.units < cLine) : OpR X (compareOp .Lt) (rLtIS X.K) := by
  intro pins s σ H u v uu vv Q I ru rv h
  obtain ⟨a, b, i, x, j, y, rfl, rfl, ha, hb, q⟩ := h
  cases ru
  cases rv
  obtain ⟨its, r1, p1, _⟩ := I.tuple ha
  obtain ⟨its2, r2, p2, _⟩ := I.tuple hb
  cases r1 with
  | cons q1 r1 =>
  cases r1 with
  | cons q2 r1 =>
  cases r1
  cases r2 with
  | cons q3 r2 =>
  cases r2 with
  | cons q4 r2 =>
  cases r2
  obtain ⟨t1, rfl⟩ := q1
  obtain ⟨t2, rfl⟩ := q2
  obtain ⟨t3, rfl⟩ := q3
  obtain ⟨t4, rfl⟩ := q4
  have R := Ob.RcOp.tuples_lt (A := X.A) (s := s) (e := fun n => if n = 0 then i == j else x == y) (r := fun n => if n = 0 then decide (i < j) else decide (x.cps.toList < y.cps.toList)) p1 p2 hu
    (fun n h1 h2 => by
      have hn : n = 0 ∨ n = 1 := by
        have : n < 2 := h1
        omega
      rcases hn with rfl | rfl
      · exact SeqAt.EqAt.int_int i t1 j t3
      · exact SeqAt.EqAt.str_str x t2 y t4)
    (fun n h1 h2 _ => by
      have hn : n = 0 ∨ n = 1 := by
        have : n < 2 := h1
        omega
      rcases hn with rfl | rfl
      · exact Ob.RcOp.lt_int i j t1 t3
      · exact fun _ _ _ _ h => PySem.P.lt_str h)
  refine R _ _ _ _ ⟨.bl (ltIS i x j y), H, I, ?_, q⟩
  show Value.bool _ = Value.bool _
  congr 1
  show (if (i == j) = true then (if (x == y) = true then decide ((2 : Nat) < 2) else decide (x.cps.toList < y.cps.toList)) else decide (i < j)) = ltIS i x j y
  unfold ltIS
  by_cases h : i = j
  · rw [if_pos (beq_iff_eq.mpr h), if_pos h]
    by_cases h2 : x = y
    · rw [if_pos (beq_iff_eq.mpr h2), if_pos h2]
      rfl
    · rw [if_neg (fun z => h2 (beq_iff_eq.mp z)), if_neg h2]
  · rw [if_neg (fun z => h (beq_iff_eq.mp z)), if_neg h]
end Ink
namespace Ink
open PySem PySem.Spec PyProof.Rows L2
section
variable {P : Program} {w : World} {K : PySem.W.Frag} {mg : Str → Option Value} {base : Heap}
theorem ok_is_sign {f : Addr} {fd : FuncData} {k : Nat} (F : Fun K "is_sign" "is_sign" sIsSign f fd) (T : Txt mg) : FnOk P w K mg base CX0 (k + 1) f fd ["text"] spSign := by
  refine F.ok sc_is_sign (fun vs H Q E h => ?_) (fun cdv A outer s H vs Q E hr h => ?_)
  · obtain ⟨z, rfl, _⟩ := h
    rfl
  · obtain ⟨z, rfl, hz, q⟩ := h
    refine ⟨_, (pss_one (ps_ret (pe_and (pe_cmpR op_eq (pe_callB call_len_str (by rfl) T.m_len PySem.boot_len (pa_cons (pv 0) pa_nil)) pe_int (nomark _)) (pe_one (pe_chain op_le_str op_le_str pe_str (pv 0) pe_str))))), ?_⟩
    refine (Evl.ev_andV (Evl.ev_op (ev_lenS (Evl.ev_var rfl) (by omega)) Evl.ev_c (Evl.rv_eq rfl)) fun _ => ev_chainS (f := fun x y => !decide (y.cps.toList < x.cps.toList)) (g := fun x y => !decide (y.cps.toList < x.cps.toList)) (fun x y H Q h => ⟨x, y, rfl, rfl, h⟩) (fun x y H Q h => ⟨x, y, rfl, rfl, h⟩) Evl.ev_c (Evl.ev_var rfl) Evl.ev_c) H (Same.refl H) _ fun H2 e2 => q H2 e2
theorem ok_is_name {f : Addr} {fd : FuncData} {k : Nat} (F : Fun K "is_name" "is_name" sIsName f fd) (T : Txt mg) (C_is_sign : Cal P w K mg base k "is_sign" ["text"] spSign) : FnOk P w K mg base CX0 (k + 1) f fd ["text"] spName := by
  refine F.ok sc_is_name (fun vs H Q E h => ?_) (fun cdv A outer s H vs Q E hr h => ?_)
  · obtain ⟨z, rfl, _⟩ := h
    rfl
  · obtain ⟨z, rfl, hz, q⟩ := h
    refine ⟨_, (pss_one (ps_ret (pe_and (pe_chain op_le op_le pe_int (pe_callB call_len_str (by rfl) T.m_len PySem.boot_len (pa_cons (pv 0) pa_nil)) (pe_globI (by rfl) T.e__MOST_LETTERS)) (pe_one (pe_callB (cr_all rfl) (by rfl) T.m_all (by decide +kernel) (pa_cons (pe_lc (own := [("letter", 1)]) (g := (gName 1)) (by rfl) sc_is_name.nd (pi_str (pv 0)) (blkOk_by (own := [("letter", 1)]) (N := ["text", "letter"]) (sc := defScope sIsName) (by decide +kernel)) (fun _ _ _ _ _ => (pg_name (i := 1) sc_is_name.nd rfl (Or.inl rfl))) (fun _ _ _ _ _ => pts_nil) (fun _ _ _ _ _ => (pe_callC C_is_sign hr (by rfl) (pa_cons (pv 1) pa_nil)))) pa_nil)))))), ?_⟩
    refine (Evl.ev_andV (ev_chainI (f := fun i j => decide (i ≤ j)) (g := fun i j => decide (i ≤ j)) Evl.ev_c (ev_lenS (Evl.ev_var rfl) (by omega)) Evl.ev_c) fun _ => ev_all (bs := z.cps.toList.map fun c => isSign ⟨#[c]⟩) ?_) H (Same.refl H) _ fun H2 e2 => q H2 e2
    rw [← bls_eq]
    refine el_lcS _ (Evl.ev_var rfl) (by omega) (fun _ => rfl) (fun c H1 e1 _ => ?_)
    exact ev_call (Evl.ea_cons (Evl.ev_var rfl) Evl.ea_nil) fun H2 Q2 _ q2 => ⟨_, rfl, by show 1 ≤ 1000; decide, q2⟩
end
end Ink
namespace Ink
open PySem PySem.Spec PyProof.Rows L2
def within (n m : Int) : Bool := decide (0 ≤ n) && decide (n ≤ m)
def okA (x : Arw) : Bool := within x.1 2 && (isSign x.2.1 && within x.2.2 2)
def ltAt (ar : List Arw) (k : Nat) : Bool := match ar[k]?, ar[k + 1]? with
  | some x, some y => ltIS x.1 x.2.1 y.1 y.2.1
  | _, _ => true
def riseB (ar : List Arw) : Bool := ((List.range (ar.length - 1)).map (ltAt ar)).all id
def areArr (ar : List Arw) : Bool := if (9 : Int) < (ar.length : Nat) then false else if (ar.map okA).all id = false then false else riseB ar
def isWr (z : Str) (ar : List Arw) (p c : Int) : Bool := isName z && (areArr ar && (within p 3 && within c 3))
/-- texts of arrows are short -/
def ShortA (ar : List Arw) : Prop := ar.length ≤ 1000 ∧ ∀ x ∈ ar, x.2.1.length ≤ 1000
def spCount : Sp := fun vs H Q _ => ∃ n : Int, vs = [.int n] ∧ ∀ H', Same H H' → Q (.bl (within n 3)) H'
def spPlace : Sp := fun vs H Q _ => ∃ n : Int, vs = [.int n] ∧ ∀ H', Same H H' → Q (.bl (within n 2)) H'
def spAre : Sp := fun vs H Q _ => ∃ (t : Addr) (ps : List Addr) (ar : List Arw), vs = [.ref t] ∧ H t = some (.tup (ps.map V.ref)) ∧ ArsAt H ps ar ∧ ShortA ar ∧ ∀ H', Same H H' → Q (.bl (areArr ar)) H'
/-- of any tuple: of four things a text, arrows, two numbers -/
def spIsWriter (g : Str → List Arw → Int → Int → Bool) : Sp := fun vs H Q _ => ∃ (t : Addr) (xs : List V), vs = [.ref t] ∧ H t = some (.tup xs) ∧ ((xs.length ≠ 4 ∧ ∀ H', Same H H' → Q (.bl false) H') ∨
  ∃ z tp ps ar p c, xs = [.str z, .ref tp, .int p, .int c] ∧ H tp = some (.tup (ps.map V.ref)) ∧ ArsAt H ps ar ∧ ShortA ar ∧ z.length ≤ 1000 ∧ ∀ H', Same H H' → Q (.bl (g z ar p c)) H')
theorem ArsAt.get {H : Hp} : ∀ {ps : List Addr} {ar : List Arw} {i : Nat} {p : Addr}, ArsAt H ps ar → ps[i]? = some p → ∃ x, ar[i]? = some x ∧ ArwAt H p x
  | _, _, _, _, .nil, h => by simp at h
  | _, _, 0, _, .cons r _, h => by
    have e := Option.some.inj h
    subst e
    exact ⟨_, rfl, r⟩
  | _, _, i + 1, p, .cons _ t, h => ArsAt.get (i := i) t h
theorem refs_at {ps : List Addr} {i : Nat} {v : V} (h : (ps.map V.ref)[i]? = some v) : ∃ p, ps[i]? = some p ∧ v = .ref p := by
  rw [List.getElem?_map] at h
  cases e : ps[i]? with
  | none =>
    rw [e] at h
    cases h
  | some p =>
    rw [e] at h
    exact ⟨p, rfl, (Option.some.inj h).symm⟩
theorem go_next {D : Ends} {σ : L2.St} {H : Hp} (h : D.nx σ H) : tNext D σ H := h
section
open Evl
/-- a comprehension over a tuple that stands, its items reckoned by their places -/
theorem el_lcT {K : PySem.W.Frag} {σ : L2.St} {H : Hp} {a : Addr} {xs : List V} {tl te : TE} {g : TG} {vs : List Nat} (f : Nat → V) (σf : Nat → L2.St) (h : Ev tl σ H (.ref a)) (hx : SqT K H a xs) (hz : xs.length ≤ 40000)
    (hg : ∀ i x H1, Ex H H1 → xs[i]? = some x → ∀ Q : L2.St → Hp → Prop, Q (σf i) H1 → g x (wipe σ vs) H1 Q) (hw : ∀ i, i < xs.length → wipe (σf i) vs = wipe σ vs)
    (he : ∀ i H1, Ex H H1 → i < xs.length → Ev te (σf i) H1 (f i)) : EvL (tLc (iTup K tl) g tYes te vs) σ H ((List.range xs.length).map f) := fun H0 e Q q => h H0 e _ fun H1 e1 => ⟨a, rfl, ⟨xs, ex_t (e.trans e1) hx⟩, fun D nD =>
  lc_it (walk_tup (xs := xs)) (fun i H' => Ex H1 H' ∧ H' D = some (.lst ((List.range i).map f))) ⟨Ex.new nD, upd_same⟩ (fun i H' _ hP => ex_t ((e.trans e1).trans hP.1) hx) (fun i v H2 H3 hi hP hy => by
    obtain ⟨rfl, hv⟩ := hy
    obtain ⟨s2, e2⟩ := hP
    refine hg i v H3 ((e.trans e1).trans s2) hv _ ⟨hw i hi, yes_of (iteT ?_)⟩
    refine he i H3 ((e.trans e1).trans s2) hi H3 (Ex.refl H3) _ fun H4 e4 => ⟨_, e4 _ _ e2, ?_, Ex.mut (s2.trans e4) nD, ?_⟩
    · rw [List.length_map, List.length_range]
      exact small_lt (by omega)
    · rw [upd_same, List.range_succ, List.map_append]
      rfl) (fun H' hP => q D H' (fresh_back e1 nD) (e1.trans hP.1) hP.2)⟩
end
theorem range_map {α : Type} (ar : List α) (f : α → Bool) (g : Nat → Bool) (h : ∀ i x, ar[i]? = some x → g i = f x) : (List.range ar.length).map g = ar.map f := by
  refine List.ext_getElem? fun i => ?_
  rw [List.getElem?_map, List.getElem?_map]
  by_cases hi : i < ar.length
  · rw [List.getElem?_range hi, List.getElem?_eq_getElem hi]
    exact congrArg some (h i _ (List.getElem?_eq_getElem hi))
  · rw [List.getElem?_eq_none (by rw [List.length_range]; omega), List.getElem?_eq_none (by omega)]
    rfl
section
variable {P : Program} {w : World} {K : PySem.W.Frag} {mg : Str → Option Value} {base : Heap}
theorem ok_count {f : Addr} {fd : FuncData} {k : Nat} (F : Fun K "_is_count" "_is_count" sIsCount f fd) (T : Txt mg) : FnOk P w K mg base CX0 (k + 1) f fd ["number"] spCount := by
  refine F.ok sc__is_count (fun vs H Q E h => ?_) (fun cdv A outer s H vs Q E hr h => ?_)
  · obtain ⟨n, rfl, _⟩ := h
    rfl
  · obtain ⟨n, rfl, q⟩ := h
    exact ⟨_, (pss_one (ps_ret (pe_chain op_le op_le pe_int (pv 0) (pe_globI (by rfl) T.e_MOST_COUNT)))), Evl.s_ret (ev_chainI (f := fun i j => decide (i ≤ j)) (g := fun i j => decide (i ≤ j)) Evl.ev_c (Evl.ev_var (by rfl)) Evl.ev_c) q⟩
theorem ok_place {f : Addr} {fd : FuncData} {k : Nat} (F : Fun K "_is_place" "_is_place" sIsPlace f fd) (T : Txt mg) : FnOk P w K mg base CX0 (k + 1) f fd ["number"] spPlace := by
  refine F.ok sc__is_place (fun vs H Q E h => ?_) (fun cdv A outer s H vs Q E hr h => ?_)
  · obtain ⟨n, rfl, _⟩ := h
    rfl
  · obtain ⟨n, rfl, q⟩ := h
    exact ⟨_, (pss_one (ps_ret (pe_chain op_le op_le pe_int (pv 0) (pe_globI (by rfl) T.e__LAST_PLACE)))), Evl.s_ret (ev_chainI (f := fun i j => decide (i ≤ j)) (g := fun i j => decide (i ≤ j)) Evl.ev_c (Evl.ev_var (by rfl)) Evl.ev_c) q⟩
theorem ok_are {f : Addr} {fd : FuncData} {k : Nat} (F : Fun K "_are_arrows" "_are_arrows" sAreArrows f fd) (T : Txt mg)
    (C__is_place : Cal P w K mg base k "_is_place" ["number"] spPlace) (C_is_sign : Cal P w K mg base k "is_sign" ["text"] spSign) : FnOk P w K mg base CX0 (k + 1) f fd ["arrows"] spAre := by
  refine F.ok sc__are_arrows (fun vs H Q E h => ?_) (fun cdv A outer s H vs Q E hr h => ?_)
  · obtain ⟨t, ps, ar, rfl, _⟩ := h
    rfl
  · obtain ⟨t, ps, ar, rfl, ht, hps, hsh, q⟩ := h
    refine ⟨_, (pss_cons (ps_if (pt_cmpR op_gt (pe_callB call_len (by rfl) T.m_len PySem.boot_len (pa_cons (pv 0) pa_nil)) (pe_globI (by rfl) T.e_MOST_ARROWS) (nomark _))
    (pss_one (ps_ret pe_bl)) pss_nil)
    (pss_cons (ps_if (pt_not (pt_val (pe_callB (cr_all rfl) (by rfl) T.m_all (by decide +kernel) (pa_cons (pe_lc (own := [("place", 2), ("sign", 3), ("to", 4)]) (g := (gTup K 3 (gCons (gName 2) (gCons (gName 3) (gCons (gName 4) gNil))))) (by rfl) sc__are_arrows.nd (pi_tup (pv 0)) (blkOk_by (own := [("place", 2), ("sign", 3), ("to", 4)]) (N := ["arrows", "heads", "place", "sign", "to", "_", "head", "following"]) (sc := defScope sAreArrows) (by decide +kernel)) (fun _ _ _ _ _ => (pg_tup rfl (pgs_cons (pg_name (i := 2) sc__are_arrows.nd rfl (.inl rfl)) (pgs_cons (pg_name (i := 3) sc__are_arrows.nd rfl (.inl rfl)) (pgs_cons (pg_name (i := 4) sc__are_arrows.nd rfl (.inl rfl)) pgs_nil))))) (fun _ _ _ _ _ => pts_nil) (fun _ _ _ _ _ => (pe_and (pe_callC C__is_place hr (by rfl) (pa_cons (pv 2) pa_nil)) (pe_and (pe_callC C_is_sign hr (by rfl) (pa_cons (pv 3) pa_nil)) (pe_one (pe_callC C__is_place hr (by rfl) (pa_cons (pv 4) pa_nil))))))) pa_nil))))
    (pss_one (ps_ret pe_bl)) pss_nil)
    (pss_cons (ps_setLc (i := 1) (own := [("place", 2), ("sign", 3), ("_", 5)]) (g := (gTup K 3 (gCons (gName 2) (gCons (gName 3) (gCons (gName 5) gNil))))) (by rfl) sc__are_arrows.nd rfl rfl (sw_true rfl rfl rfl (by decide +kernel)) (pi_tup (pv 0)) (blkOk_by (own := [("place", 2), ("sign", 3), ("_", 5)]) (N := ["arrows", "heads", "place", "sign", "to", "_", "head", "following"]) (sc := defScope sAreArrows) (by decide +kernel)) (fun _ _ _ _ _ => (pg_tup rfl (pgs_cons (pg_name (i := 2) sc__are_arrows.nd rfl (.inl rfl)) (pgs_cons (pg_name (i := 3) sc__are_arrows.nd rfl (.inl rfl)) (pgs_cons (pg_name (i := 5) sc__are_arrows.nd rfl (.inl rfl)) pgs_nil))))) (fun _ _ _ _ _ => pts_nil) (fun _ _ _ _ _ => (pe_tup (pa_cons (pv 2) (pa_cons (pv 3) pa_nil)))))
    (pss_one (ps_ret (pe_callB (cr_all rfl) (by rfl) T.m_all (by decide +kernel) (pa_cons (pe_lc (own := [("head", 6), ("following", 7)]) (g := (gTup K 2 (gCons (gName 6) (gCons (gName 7) gNil)))) (by rfl) sc__are_arrows.nd (pi_zip (by rfl) T.m_zip (pa_cons (pv 1) (pa_cons (pe_slice sl_list (pv 1) (po_some pe_int) po_none) pa_nil))) (blkOk_by (own := [("head", 6), ("following", 7)]) (N := ["arrows", "heads", "place", "sign", "to", "_", "head", "following"]) (sc := defScope sAreArrows) (by decide +kernel)) (fun _ _ _ _ _ => (pg_tup rfl (pgs_cons (pg_name (i := 6) sc__are_arrows.nd rfl (.inl rfl)) (pgs_cons (pg_name (i := 7) sc__are_arrows.nd rfl (.inl rfl)) pgs_nil)))) (fun _ _ _ _ _ => pts_nil) (fun _ _ _ _ _ => (pe_cmpR (show OpR _ _ (rLtIS K) from op_ltIS hr.units0) (pv 6) (pv 7) (nomark _)))) pa_nil))))))), ?_⟩
    have elen : ps.length = ar.length := Paired.length hps
    refine ⟨.ref t, rfl, .ref t, _, rfl, .inr ⟨_, .of ht, rfl⟩, _, _, rfl, rfl, _, rfl, ite2 (fun e => ?_) (fun e => ?_)⟩
    · have e : (9 : Int) < (((ps.map V.ref).length : Nat) : Int) := of_decide_eq_true e
      rw [List.length_map, elen] at e
      have h := q H (Same.refl H)
      unfold areArr at h
      rw [if_pos e] at h
      exact h
    · have e : ¬ (9 : Int) < (((ps.map V.ref).length : Nat) : Int) := fun h => e (decide_eq_true h)
      rw [List.length_map, elen] at e
      -- all([..])
      refine go_next ?_
      dsimp only
      refine Evl.q_when (b := !(ar.map okA).all id) (Evl.et_not (Evl.et_B (ev_all (bs := ar.map okA) ?_))) (fun hb H1 e1 => ?_) (fun hb H1 e1 => ?_)
      · rw [← range_map ar okA (fun i => match ar[i]? with | some x => okA x | none => true) (fun i x h => by rw [h]), ← elen, show ps.length = (ps.map V.ref).length from (List.length_map _).symm, ← bls_eq]
        refine el_lcT (a := t) (xs := ps.map V.ref) _ (fun i => match ar[i]? with | some x => [some (.ref t), none, some (.int x.1), some (.str x.2.1), some (.int x.2.2), none, none, none] | none => []) (Evl.ev_var (by rfl)) (.of ht) (by rw [List.length_map, elen]; have := hsh.1; omega) (fun i v H1 e1 hv Q2 q2 => ?_) (fun i hi => ?_) (fun i H1 e1 hi => ?_)
        · obtain ⟨p, hp, rfl⟩ := refs_at hv
          obtain ⟨x, hx, hpx⟩ := hps.get hp
          rw [hx] at q2
          exact ⟨p, _, rfl, .of (e1 _ _ hpx), rfl, _, _, rfl, _, _, rfl, _, _, rfl, rfl, q2⟩
        · rw [List.length_map, elen] at hi
          rw [List.getElem?_eq_getElem hi]
          rfl
        · rw [List.length_map, elen] at hi
          have hm := List.getElem_mem hi
          rw [List.getElem?_eq_getElem hi]
          generalize ar[i] = x at hm
          refine Evl.ev_andV (ev_call (Evl.ea_cons (Evl.ev_var (by rfl)) Evl.ea_nil) fun H2 Q2 _ q2 => ⟨_, rfl, q2⟩) fun _ => Evl.ev_andV (ev_call (Evl.ea_cons (Evl.ev_var (by rfl)) Evl.ea_nil) fun H2 Q2 _ q2 => ⟨_, rfl, hsh.2 x hm, q2⟩) fun _ => ev_call (Evl.ea_cons (Evl.ev_var (by rfl)) Evl.ea_nil) fun H2 Q2 _ q2 => ⟨_, rfl, q2⟩
      · have h := q H1 e1
        unfold areArr at h
        have hb2 : (ar.map okA).all id = false := by
          cases h : (ar.map okA).all id with
          | false => rfl
          | true =>
            rw [h] at hb
            cases hb
        rw [if_neg e, if_pos hb2] at h
        exact h
      · have hb2 : ¬ (ar.map okA).all id = false := fun h => by
          rw [h] at hb
          cases hb
        have hq : ∀ H', Same H1 H' → Q (.bl (riseB ar)) H' := fun H' s' => by
          have h := q H' (Same.trans e1 s')
          unfold areArr at h
          rw [if_neg e, if_neg hb2] at h
          exact h
        have ht1 := e1 _ _ ht
        have hps1 := hps.same e1
        -- heads
        refine ⟨.ref t, rfl, t, rfl, ⟨_, .of ht1⟩, fun D nD => ?_⟩
        refine lc_it (walk_tup (xs := ps.map V.ref)) (fun i H' => Same H1 H' ∧ ∃ qs : List Addr, H' D = some (.lst (qs.map V.ref)) ∧ qs.length = i ∧ ∀ j p, qs[j]? = some p → ∃ x : Arw, ar[j]? = some x ∧ H' p = some (.tup [.int x.1, .str x.2.1])) ⟨same_new nD, [], upd_same, rfl, fun j p h => by rw [List.getElem?_nil] at h; cases h⟩ (fun i H' _ hP => .of (hP.1 _ _ ht1)) (fun i v H2 H3 hi hP hy => ?_) (fun H2 hP => ?_)
        · obtain ⟨rfl, hv⟩ := hy
          obtain ⟨s2, qs, eD, rfl, hq2⟩ := hP
          obtain ⟨p, hp, rfl⟩ := refs_at hv
          obtain ⟨x, hx, hpx⟩ := hps1.get hp
          refine ⟨p, _, rfl, .of (s2 _ _ hpx), rfl, _, _, rfl, _, _, rfl, _, _, rfl, rfl, rfl, yes_of (iteT ?_)⟩
          refine ⟨_, rfl, _, rfl, by show 2 ≤ sizeLine; decide, fun p' np' => ⟨_, same_new np' _ _ eD, ?_, same_mut (s2.trans (same_new np')) nD, qs ++ [p'], ?_, ?_, fun j p2 hj => ?_⟩⟩
          · rw [List.length_map]
            rw [List.length_map, elen] at hi
            have := hsh.1
            exact small_lt (by omega)
          · rw [upd_same, List.map_append]
            rfl
          · rw [List.length_append]
            rfl
          · have nDp : ∀ p3 xs', H3 p3 = some (.tup xs') → p3 ≠ D := fun p3 xs' h3 => ne_of h3 eD (by intro z; cases z)
            by_cases hjl : j < qs.length
            · rw [List.getElem?_append_left hjl] at hj
              obtain ⟨y, hy1, hy2⟩ := hq2 j p2 hj
              exact ⟨y, hy1, by rw [upd_ne (nDp _ _ hy2)]; exact same_new np' _ _ hy2⟩
            · have hlt := (List.getElem?_eq_some_iff.mp hj).1
              rw [List.length_append, List.length_singleton] at hlt
              have ej : j = qs.length := by omega
              subst ej
              rw [List.getElem?_append_right (Nat.le_refl _), Nat.sub_self] at hj
              have hj := Option.some.inj hj
              subst hj
              exact ⟨x, hx, by rw [upd_ne (ne_of_none eD np').symm, upd_same]⟩
        · obtain ⟨s2, qs, eD, eq, hq2⟩ := hP
          rw [List.length_map, elen] at eq
          -- zip(heads, heads[1:])
          have hcut : cutV (qs.map V.ref) (some 1) none = (qs.drop 1).map V.ref := by
            unfold cutV
            rw [show HT.sIx (qs.map V.ref).length 0 (some 1) = min 1 (qs.map V.ref).length from HT.sIx_nat _ 0 1, HT.sIx_none, List.length_map]
            cases qs with
            | nil => rfl
            | cons x r =>
              rw [show min 1 (x :: r).length = 1 by rw [List.length_cons]; omega]
              show List.take ((x :: r).length - 1) (r.map V.ref) = r.map V.ref
              exact List.take_of_length_le (by rw [List.length_map, List.length_cons]; omega)
          refine ⟨.ref D, rfl, .ref D, rfl, 1, rfl, D, _, rfl, .of eD, fun c nc => ?_⟩
          rw [hcut]
          have s3 := same_new (o := .lst ((qs.drop 1).map V.ref)) nc
          refine ⟨D, c, _, _, rfl, .of (s3 _ _ eD), .of upd_same, fun E' nE => ?_⟩
          have fin : ∀ H', Same H2 H' → H' E' = some (.lst ((((List.range (ar.length - 1)).map (ltAt ar))).map V.bl)) → rAll K [.ref E'] H' Q := fun H' s' h' => ⟨E', _, rfl, .of h', hq H' (s2.trans s')⟩
          have eD3 := s3 _ _ eD
          have eC3 : (upd H2 c (.lst ((qs.drop 1).map V.ref))) c = some (.lst ((qs.drop 1).map V.ref)) := upd_same
          have hn : ar.length - 1 = min (qs.map V.ref).length ((qs.drop 1).map V.ref).length := by
            rw [List.length_map, List.length_map, List.length_drop]
            omega
          refine lc_it (walk_zip (xs := qs.map V.ref) (ys := (qs.drop 1).map V.ref) hn) (fun i H' => Same (upd H2 c (.lst ((qs.drop 1).map V.ref))) H' ∧ H' E' = some (.lst (((List.range i).map (ltAt ar)).map V.bl))) ⟨same_new nE, upd_same⟩ (fun i H' _ hP => ⟨.of (hP.1 _ _ eD3), .of (hP.1 _ _ eC3)⟩) (fun i v H4 H5 hi hP hy => ?_) (fun H' hP => fin H' (s3.trans hP.1) hP.2)
          obtain ⟨T', x, y, rfl, nT, rfl, hx, hy⟩ := hy
          obtain ⟨s4, e4⟩ := hP
          obtain ⟨p, hp, rfl⟩ := refs_at hx
          obtain ⟨p', hp', rfl⟩ := refs_at hy
          rw [List.getElem?_drop, Nat.add_comm] at hp'
          obtain ⟨x1, hx1, hx2⟩ := hq2 _ _ hp
          obtain ⟨y1, hy1, hy2⟩ := hq2 _ _ hp'
          have e5 : ltIS x1.1 x1.2.1 y1.1 y1.2.1 = ltAt ar i := by
            unfold ltAt
            rw [hx1, hy1]
          refine ⟨T', _, rfl, .of upd_same, rfl, _, _, rfl, _, _, rfl, rfl, rfl, yes_of (iteT ?_)⟩
          refine ⟨.ref p, rfl, .ref p', rfl, p, p', x1.1, x1.2.1, y1.1, y1.2.1, rfl, rfl, .of (same_new nT _ _ (s4 _ _ (s3 _ _ hx2))), .of (same_new nT _ _ (s4 _ _ (s3 _ _ hy2))), _, same_new nT _ _ e4, ?_, same_mut (s4.trans (same_new nT)) nE, ?_⟩
          · rw [List.length_map, List.length_map, List.length_range]
            have := hsh.1
            exact small_lt (by omega)
          · rw [upd_same, List.range_succ, List.map_append, List.map_append, e5]
            rfl
theorem ok_is_writer {f : Addr} {fd : FuncData} {k : Nat} (F : Fun K "is_writer" "is_writer" sIsWriter f fd) (T : Txt mg) (C_is_name : Cal P w K mg base k "is_name" ["text"] spName)
    (C__are_arrows : Cal P w K mg base k "_are_arrows" ["arrows"] spAre) (C__is_count : Cal P w K mg base k "_is_count" ["number"] spCount) : FnOk P w K mg base CX0 (k + 1) f fd ["thing"] (spIsWriter isWr) := by
  refine F.ok sc_is_writer (fun vs H Q E h => ?_) (fun cdv A outer s H vs Q E hr h => ?_)
  · obtain ⟨t, xs, rfl, _⟩ := h
    rfl
  · obtain ⟨t, xs, rfl, ht, h⟩ := h
    refine ⟨_, (pss_cons (ps_if (pt_cmpR op_ne (pe_callB call_len (by rfl) T.m_len PySem.boot_len (pa_cons (pv 0) pa_nil)) pe_int (nomark _))
    (pss_one (ps_ret pe_bl)) pss_nil)
    (pss_cons (ps_asg (pv 0) (pg_tup rfl (pgs_cons (pg_name (i := 1) sc_is_writer.nd rfl (.inl rfl)) (pgs_cons (pg_name (i := 2) sc_is_writer.nd rfl (.inl rfl)) (pgs_cons (pg_name (i := 3) sc_is_writer.nd rfl (.inl rfl)) (pgs_cons (pg_name (i := 4) sc_is_writer.nd rfl (.inl rfl)) pgs_nil))))))
    (pss_one (ps_ret (pe_and (pe_callC C_is_name hr (by rfl) (pa_cons (pv 1) pa_nil)) (pe_and (pe_callC C__are_arrows hr (by rfl) (pa_cons (pv 2) pa_nil)) (pe_and (pe_callC C__is_count hr (by rfl) (pa_cons (pv 3) pa_nil)) (pe_one (pe_callC C__is_count hr (by rfl) (pa_cons (pv 4) pa_nil)))))))))), ?_⟩
    refine ⟨.ref t, rfl, .ref t, _, rfl, .inr ⟨_, .of ht, rfl⟩, rfl, _, rfl, ?_⟩
    rcases h with ⟨hne, q⟩ | ⟨z, tp, ps, ar, p, c, rfl, htp, hps, hsh, hz, q⟩
    · rw [decide_eq_false (show ¬ V.int ((xs.length : Nat) : Int) = V.int 4 from fun e => hne (by injection e with e; omega))]
      exact iteT (q H (Same.refl H))
    · refine iteNS rfl ?_
      refine ⟨.ref t, rfl, t, _, rfl, .of ht, rfl, _, _, rfl, _, _, rfl, _, _, rfl, _, _, rfl, rfl, ?_⟩
      exact Evl.s_ret (Evl.ev_andV (ev_call (Evl.ea_cons (Evl.ev_var (by rfl)) Evl.ea_nil) fun H2 Q2 _ q2 => ⟨_, rfl, hz, q2⟩) fun _ => Evl.ev_andV (ev_call (Evl.ea_cons (Evl.ev_var (by rfl)) Evl.ea_nil) fun H2 Q2 e2 q2 => ⟨_, _, _, rfl, e2 _ _ htp, hps.same e2, hsh, q2⟩) fun _ =>
        Evl.ev_andV (ev_call (Evl.ea_cons (Evl.ev_var (by rfl)) Evl.ea_nil) fun H2 Q2 _ q2 => ⟨_, rfl, q2⟩) fun _ => ev_call (Evl.ea_cons (Evl.ev_var (by rfl)) Evl.ea_nil) fun H2 Q2 _ q2 => ⟨_, rfl, q2⟩) q
end
end Ink
namespace Ink
open PySem PySem.Spec PyProof.Rows L2
def spFarB : Sp := fun vs H Q _ => ∃ a l : Addr, vs = [.ref a] ∧ BagAt H a l ∧ ∀ n H', n.natAbs < 10 ^ 25 → BagAt H' a l → Keep a H H' → Q (.int n) H'
section
variable {P : Program} {w : World} {K : PySem.W.Frag} {mg : Str → Option Value} {base : Heap}
end
end Ink
namespace Ink
open PySem PySem.Spec PyProof.Rows L2
section
open Evl
variable {K : PySem.W.Frag} {σ : L2.St} {H : Hp} {ta tb te to : TE} {t : TT}
theorem ev_lenL {p : Addr} {xs : List V} (h : Ev te σ H (.ref p)) (hx : SqL K H p xs) : Ev (tCB (fun xs H Q => ∃ x n, xs = [x] ∧ LenV K x H n ∧ Q (.int n) H) (tCons te tNil)) σ H (.int (xs.length : Nat)) := fun H1 e Q q =>
  h H1 e _ fun H2 e2 => ⟨.ref p, _, rfl, .inl ⟨_, ex_l (e.trans e2) hx, rfl⟩, q H2 e2⟩
theorem ev_ixL {p : Addr} {xs : List V} {i : Int} {v : V} (ha : Ev ta σ H (.ref p)) (hb : Ev tb σ H (.int i)) (h : SqL K H p xs) (h0 : 0 ≤ i) (hv : xs[i.toNat]? = some v) : Ev (tOp (rIxL K) ta tb) σ H v := ev_op ha hb (rv_ixL h (atI_of h0 hv))
theorem ev_ixT {p : Addr} {xs : List V} {i : Int} {v : V} (ha : Ev ta σ H (.ref p)) (hb : Ev tb σ H (.int i)) (h : SqT K H p xs) (h0 : 0 ≤ i) (hv : xs[i.toNat]? = some v) : Ev (tOp (rIxT K) ta tb) σ H v := ev_op ha hb (rv_ixT h (atI_of h0 hv))
theorem ev_ixS {w : Str} {i : Int} {c : Nat} (ha : Ev ta σ H (.str w)) (hb : Ev tb σ H (.int i)) (hw : w.length ≤ 100000) (h0 : 0 ≤ i) (hv : w.cps.toList[i.toNat]? = some c) : Ev (tOp rIxS ta tb) σ H (.str ⟨#[c]⟩) := ev_op ha hb (rv_ixS hw (atI_of h0 hv))
theorem rv_addS {i j : Str} (h : i.length + j.length ≤ 1000000) : RV (fun x y H Q => ∃ i j, x = .str i ∧ y = .str j ∧ i.length + j.length ≤ sizeLine ∧ Q (.str (i ++ j)) H) (.str i) (.str j) H (.str (i ++ j)) := fun H1 _ _ q => ⟨i, j, rfl, rfl, small_le h, q H1 (Ex.refl H1)⟩
theorem ev_join {s : Str} {zs : List Str} (ho : Ev to σ H (.str s)) (he : EvL te σ H (zs.map V.str)) (hz : (zs.map (·.length)).sum + zs.length * s.length ≤ 16777216) :
    Ev (tM1 (fun x xs H Q => ∃ a p, ∃ ys : List Str, x = .str a ∧ xs = [.ref p] ∧ (SqL K H p (ys.map V.str) ∨ SqT K H p (ys.map V.str)) ∧ (ys.map (·.length)).sum + ys.length * a.length ≤ 16777216 ∧ Q (.str (Txt.join a ys)) H) to te) σ H (.str (Txt.join s zs)) := fun H1 e Q q =>
  ho H1 e _ fun H2 e2 => ⟨⟨_, rfl⟩, he H2 (e.trans e2) _ fun p H3 np e3 hp => ⟨s, p, zs, rfl, rfl, .inl (.of hp), hz, q H3 (e2.trans e3)⟩⟩
theorem ev_joinV {s : Str} {zs : List Str} {p : Addr} (ho : Ev to σ H (.str s)) (he : Ev te σ H (.ref p)) (hp : SqL K H p (zs.map V.str)) (hz : (zs.map (·.length)).sum + zs.length * s.length ≤ 16777216) :
    Ev (tM1 (fun x xs H Q => ∃ a p, ∃ ys : List Str, x = .str a ∧ xs = [.ref p] ∧ (SqL K H p (ys.map V.str) ∨ SqT K H p (ys.map V.str)) ∧ (ys.map (·.length)).sum + ys.length * a.length ≤ 16777216 ∧ Q (.str (Txt.join a ys)) H) to te) σ H (.str (Txt.join s zs)) := fun H1 e Q q =>
  ho H1 e _ fun H2 e2 => ⟨⟨_, rfl⟩, he H2 (e.trans e2) _ fun H3 e3 => ⟨s, p, zs, rfl, rfl, .inl (ex_l ((e.trans e2).trans e3) hp), hz, q H3 (e2.trans e3)⟩⟩
theorem el_split {a b : Str} {ps : List Str} (ho : Ev to σ H (.str a)) (he : Ev te σ H (.str b)) (hb : (b.length == 0) = false) (ha : a.length ≤ 100000) (hs : Txt.split a b = ps) :
    EvL (tM1 (fun x xs H Q => ∃ a b, x = .str a ∧ xs = [.str b] ∧ (b.length == 0) = false ∧ a.length + 2 ≤ sizeLine ∧ rNewStrs (Txt.split a b) H Q) to te) σ H (ps.map V.str) := fun H1 e Q q =>
  ho H1 e _ fun H2 e2 => ⟨⟨_, rfl⟩, he H2 (e.trans e2) _ fun H3 e3 => ⟨a, b, rfl, rfl, hb, small_le (by omega), fun p np => by
    rw [hs]
    exact q p _ (fresh_back (e2.trans e3) np) ((e2.trans e3).trans (Ex.new np)) upd_same⟩⟩
theorem ev_orT {y d : Str} (h : Ev ta σ H (.str y)) (hy : y.length ≤ 1000000) (hd : Ev tb σ H (.str d)) : Ev (tOrT K ta tb) σ H (.str (if y.length = 0 then d else y)) := fun H1 e Q q => h H1 e _ fun H2 e2 => by
  refine ⟨((y.length : Int) != 0), ⟨small_le hy, rfl⟩, ?_⟩
  by_cases h0 : y.length = 0
  · rw [if_pos h0] at q
    rw [h0]
    exact iteF (hd H2 (e.trans e2) Q fun H3 e3 => q H3 (e2.trans e3))
  · rw [if_neg h0] at q
    rw [show ((y.length : Int) != 0) = true from bne_iff_ne.mpr (by omega)]
    exact iteT (q H2 e2)
theorem el_if {b : Bool} {xs : List V} (h : EvT t σ H b) (h1 : b = true → EvL ta σ H xs) (h2 : b = false → EvL tb σ H xs) : EvL (tIf t ta tb) σ H xs := fun H1 e Q q => h H1 e _ fun H2 e2 => by
  cases b with
  | true => exact iteT (h1 rfl H2 (e.trans e2) Q fun p H3 np e3 hp => q p H3 (fresh_back e2 np) (e2.trans e3) hp)
  | false => exact iteF (h2 rfl H2 (e.trans e2) Q fun p H3 np e3 hp => q p H3 (fresh_back e2 np) (e2.trans e3) hp)
theorem el_lcV {a : Addr} {xs : List V} {tl te : TE} {j : Nat} {vs : List Nat} (f : Nat → V) (h : Ev tl σ H (.ref a)) (hx : SqL K H a xs) (hz : xs.length ≤ 40000) (hw : ∀ x, wipe ((wipe σ vs).set j (some x)) vs = wipe σ vs)
    (he : ∀ i x H1, Ex H H1 → xs[i]? = some x → Ev te ((wipe σ vs).set j (some x)) H1 (f i)) : EvL (tLc (iList K tl) (gName j) tYes te vs) σ H ((List.range xs.length).map f) := fun H0 e Q q => h H0 e _ fun H1 e1 => ⟨a, rfl, ⟨xs, ex_l (e.trans e1) hx⟩, fun D nD =>
  lc_it (walk_list (xs := xs)) (fun i H' => Ex H1 H' ∧ H' D = some (.lst ((List.range i).map f))) ⟨Ex.new nD, upd_same⟩ (fun i H' _ hP => ex_l ((e.trans e1).trans hP.1) hx) (fun i v H2 H3 hi hP hy => by
    obtain ⟨rfl, hv⟩ := hy
    obtain ⟨s2, e2⟩ := hP
    refine ⟨hw _, yes_of (iteT ?_)⟩
    refine he i v H3 ((e.trans e1).trans s2) hv H3 (Ex.refl H3) _ fun H4 e4 => ⟨_, e4 _ _ e2, ?_, Ex.mut (s2.trans e4) nD, ?_⟩
    · rw [List.length_map, List.length_range]
      exact small_lt (by omega)
    · rw [upd_same, List.range_succ, List.map_append]
      rfl) (fun H' hP => q D H' (fresh_back e1 nD) (e1.trans hP.1) hP.2)⟩
theorem ev_strI {i : Int} (h : Ev te σ H (.int i)) (h0 : 0 ≤ i) (h9 : i ≤ 9) : Ev (tCB (fun xs H Q => ∃ i, xs = [.int i] ∧ i.natAbs.log2 < 1920 ∧ Q (.str (toString i)) H) (tCons te tNil)) σ H (.str (Str.ofString (toString i))) := fun H1 e Q q =>
  h H1 e _ fun H2 e2 => ⟨i, rfl, by
    have : ∀ k : Nat, k < 10 → k.log2 < 1920 := by decide
    exact this _ (by omega), q H2 e2⟩
end
end Ink
namespace Ink
open PySem PySem.Spec PyProof.Rows L2
/-! ### a writer's text -/
abbrev slash : Str := Str.ofString "/"
abbrev semi : Str := Str.ofString ";"
abbrev dash : Str := Str.ofString "-"
def dig (n : Int) : Str := Str.ofString (toString n)
theorem dig_eq {n : Int} (h0 : 0 ≤ n) (h9 : n ≤ 9) : dig n = single (48 + n.toNat) := by
  have h : ∀ k : Nat, k < 10 → Str.ofString (toString (k : Int)) = single (48 + k) := by decide +kernel
  have := h n.toNat (by omega)
  rw [show ((n.toNat : Nat) : Int) = n by omega] at this
  exact this
def rowT (x : Arw) : Str := dig x.1 ++ x.2.1 ++ dig x.2.2
def told (ar : List Arw) : Str := if ar = [] then dash else Txt.join semi (ar.map rowT)
def wText (z : Str) (ar : List Arw) (p c : Int) : Str := Txt.join slash [z, told ar, dig p, dig c]
theorem row_eq {x : Arw} (h : goodA x) : ∃ c ∈ lets, x.2.1 = single c ∧ (rowT x).cps.toList = [48 + x.1.toNat, c, 48 + x.2.2.toNat] := by
  obtain ⟨h1, h2, ⟨c, hc, e⟩, h3, h4⟩ := h
  refine ⟨c, hc, e, ?_⟩
  unfold rowT
  rw [e, dig_eq h1 (by omega), dig_eq h3 (by omega)]
  rfl
theorem row_len {x : Arw} (h : goodA x) : (rowT x).length = 3 := by
  obtain ⟨c, _, _, e⟩ := row_eq h
  rw [TL.len_tl]
  show (rowT x).cps.toList.length = 3
  rw [e]
  rfl
theorem joinL_le (S : List Nat) : ∀ ps : List (List Nat), (TL.joinL S ps).length ≤ (ps.map fun p => p.length + S.length).sum
  | [] => Nat.le_refl _
  | [p] => by
    show p.length ≤ p.length + S.length + 0
    omega
  | p :: q :: r => by
    have ih := joinL_le S (q :: r)
    show (p ++ (S ++ TL.joinL S (q :: r))).length ≤ (p.length + S.length) + ((q :: r).map fun p => p.length + S.length).sum
    rw [List.length_append, List.length_append]
    omega
theorem rows_sum : ∀ {ar : List Arw}, (∀ x ∈ ar, goodA x) → ((ar.map rowT).map (·.length)).sum = 3 * ar.length
  | [], _ => rfl
  | x :: r, h => by
    rw [List.map_cons, List.map_cons, List.sum_cons, rows_sum fun y hy => h y (List.mem_cons_of_mem _ hy), row_len (h x (List.mem_cons_self ..)), List.length_cons]
    omega
theorem join_rows_len {ar : List Arw} (h : ∀ x ∈ ar, goodA x) : (Txt.join semi (ar.map rowT)).length ≤ 4 * ar.length := by
  rw [TL.join_eq, TL.len_tl, TL.tl_join]
  refine Nat.le_trans (joinL_le _ _) ?_
  induction ar with
  | nil => exact Nat.le_refl _
  | cons x r ih =>
    have ih := ih fun y hy => h y (List.mem_cons_of_mem _ hy)
    rw [List.map_cons, List.map_cons, List.map_cons, List.sum_cons, List.length_cons]
    have e : (TL.tl (rowT x)).length = 3 := by
      rw [← TL.len_tl]
      exact row_len (h x (List.mem_cons_self ..))
    rw [e]
    have : (TL.tl semi).length = 1 := by decide +kernel
    omega
theorem join_rows_pos {x : Arw} {r : List Arw} (h : ∀ y ∈ x :: r, goodA y) : 3 ≤ (Txt.join semi ((x :: r).map rowT)).length := by
  rw [TL.join_eq, TL.len_tl, TL.tl_join]
  have e : (TL.tl (rowT x)).length = 3 := by
    rw [← TL.len_tl]
    exact row_len (h x (List.mem_cons_self ..))
  cases r with
  | nil => exact Nat.le_of_eq e.symm
  | cons y r =>
    show 3 ≤ (TL.tl (rowT x) ++ (TL.tl semi ++ TL.joinL (TL.tl semi) (((y :: r).map rowT).map TL.tl))).length
    rw [List.length_append]
    omega
theorem told_or {ar : List Arw} (h : ∀ x ∈ ar, goodA x) : told ar = if (Txt.join semi (ar.map rowT)).length = 0 then dash else Txt.join semi (ar.map rowT) := by
  unfold told
  cases ar with
  | nil =>
    rw [if_pos rfl]
    rfl
  | cons x r =>
    have := join_rows_pos h
    rw [if_neg (fun e => nomatch e), if_neg (by omega)]
theorem told_len {ar : List Arw} (h : ∀ x ∈ ar, goodA x) (hl : ar.length ≤ 9) : (told ar).length ≤ 36 := by
  unfold told
  split
  · decide +kernel
  · have := join_rows_len h
    omega
theorem join4 (a b c d : Str) : Txt.join slash [a, b, c, d] = a ++ slash ++ b ++ slash ++ c ++ slash ++ d := by
  refine TL.ext_tl ?_
  rw [TL.join_eq, TL.tl_join]
  simp only [TL.tl_append, List.append_assoc]
  rfl
theorem empty_app (a : Str) : Str.empty ++ a = a := TL.ext_tl (by rw [TL.tl_append]; rfl)
/-! ### and read -/
theorem no_slash {z : Str} (h : ∀ c ∈ z.cps.toList, c ∈ lets) : 47 ∉ TL.tl z := fun hm => by
  have := (lets_iff 47).mp (h 47 hm)
  omega
theorem dig_no {n : Int} (h0 : 0 ≤ n) (h9 : n ≤ 9) (k : Nat) (hk : k < 48 ∨ 57 < k) : k ∉ TL.tl (dig n) := by
  rw [dig_eq h0 h9]
  intro hm
  have : k = 48 + n.toNat := List.mem_singleton.mp hm
  omega
theorem row_no {x : Arw} (h : goodA x) (k : Nat) (hk : k < 48 ∨ (57 < k ∧ k < 97)) : k ∉ TL.tl (rowT x) := by
  obtain ⟨c, hc, _, e⟩ := row_eq h
  unfold goodA at h
  have hc := (lets_iff c).mp hc
  show k ∉ (rowT x).cps.toList
  rw [e]
  intro hm
  simp only [List.mem_cons, List.not_mem_nil, or_false] at hm
  omega
theorem joinL_mem {S : List Nat} {k : Nat} : ∀ {ps : List (List Nat)}, k ∈ TL.joinL S ps → k ∈ S ∨ ∃ p ∈ ps, k ∈ p
  | [], h => nomatch h
  | [p], h => .inr ⟨p, List.mem_singleton.mpr rfl, h⟩
  | p :: q :: r, h => by
    have h : k ∈ p ++ (S ++ TL.joinL S (q :: r)) := h
    rcases List.mem_append.mp h with h | h
    · exact .inr ⟨p, List.mem_cons_self .., h⟩
    · rcases List.mem_append.mp h with h | h
      · exact .inl h
      · rcases joinL_mem h with h | ⟨y, hy, h⟩
        · exact .inl h
        · exact .inr ⟨y, List.mem_cons_of_mem _ hy, h⟩
theorem told_no {ar : List Arw} (h : ∀ x ∈ ar, goodA x) : 47 ∉ TL.tl (told ar) := by
  unfold told
  split
  · decide +kernel
  · intro hm
    rw [TL.join_eq, TL.tl_join] at hm
    rcases joinL_mem hm with hm | ⟨y, hy, hm⟩
    · have : 47 ∉ TL.tl semi := by decide +kernel
      exact this hm
    · obtain ⟨z, hz, rfl⟩ := List.mem_map.mp hy
      obtain ⟨x, hx, rfl⟩ := List.mem_map.mp hz
      exact row_no (h x hx) 47 (.inl (by decide)) hm
theorem tl_slash : TL.tl slash = [47] := by decide +kernel
theorem tl_semi : TL.tl semi = [59] := by decide +kernel
theorem wText_split {z : Str} {ar : List Arw} {p c : Int} (g : GoodW z ar p c) : Txt.split (wText z ar p c) slash = [z, told ar, dig p, dig c] := by
  unfold wText
  refine TL.split_join (s := 47) (S := []) tl_slash (by decide +kernel) (fun e => nomatch e) fun q hq => ?_
  simp only [List.mem_cons, List.not_mem_nil, or_false] at hq
  rcases hq with rfl | rfl | rfl | rfl
  · exact no_slash g.name.2.2
  · exact told_no g.each
  · exact dig_no g.p0 (by have := g.p3; omega) 47 (.inl (by decide))
  · exact dig_no g.c0 (by have := g.c3; omega) 47 (.inl (by decide))
theorem told_split {ar : List Arw} (hg : ∀ x ∈ ar, goodA x) (hne : ar ≠ []) : Txt.split (told ar) semi = ar.map rowT := by
  unfold told
  rw [if_neg hne]
  refine TL.split_join (s := 59) (S := []) tl_semi (by decide +kernel) (fun e => hne (List.map_eq_nil_iff.mp e)) fun q hq => ?_
  obtain ⟨x, hx, rfl⟩ := List.mem_map.mp hq
  exact row_no (hg x hx) 59 (.inr ⟨by decide, by decide⟩)
theorem told_dash {ar : List Arw} (hg : ∀ x ∈ ar, goodA x) : decide (V.str (told ar) = V.str dash) = decide (ar = []) := by
  refine decide_eq_decide.mpr ⟨fun e => ?_, fun e => by rw [e]; rfl⟩
  injection e with e
  cases ar with
  | nil => rfl
  | cons x r =>
    have h := join_rows_pos hg
    unfold told at e
    rw [if_neg (fun e => nomatch e)] at e
    rw [e] at h
    have : dash.length = 1 := by decide +kernel
    omega
theorem wText_len {z : Str} {ar : List Arw} {p c : Int} (g : GoodW z ar p c) : (wText z ar p c).length ≤ 60 := by
  unfold wText
  rw [join4]
  have h1 := g.name.2.1
  have h2 := told_len g.each g.len
  have h3 : (dig p).length = 1 := by rw [dig_eq g.p0 (by have := g.p3; omega)]; rfl
  have h4 : (dig c).length = 1 := by rw [dig_eq g.c0 (by have := g.c3; omega)]; rfl
  have h5 : slash.length = 1 := by decide +kernel
  simp only [Str.length_append]
  omega
/-! ### a drawn writer is one -/
theorem good_okA {x : Arw} (h : goodA x) : okA x = true := by
  obtain ⟨h1, h2, ⟨c, hc, e⟩, h3, h4⟩ := h
  unfold okA within
  rw [e, show isSign (single c) = decide (c ∈ lets) from sign_one c, decide_eq_true hc, decide_eq_true h1, decide_eq_true h2, decide_eq_true h3, decide_eq_true h4]
  rfl
theorem less_lt {x y : Arw} (hx : goodA x) (hy : goodA y) (h : lessA x y) : ltIS x.1 x.2.1 y.1 y.2.1 = true := by
  unfold ltIS
  rcases h with h | ⟨e, h⟩
  · rw [if_neg (by omega)]
    exact decide_eq_true h
  · rw [if_pos e]
    by_cases e2 : x.2.1 = y.2.1
    · rw [e2] at h
      exact absurd h (List.lt_irrefl _)
    · rw [if_neg e2]
      exact decide_eq_true h
theorem good_rise {ar : List Arw} (hg : ∀ x ∈ ar, goodA x) (hr : ar.Pairwise lessA) : riseB ar = true := by
  unfold riseB
  rw [List.all_map]
  refine List.all_eq_true.mpr fun k hk => ?_
  have hk := List.mem_range.mp hk
  show ltAt ar k = true
  have h1 : k < ar.length := by omega
  have h2 : k + 1 < ar.length := by omega
  unfold ltAt
  rw [List.getElem?_eq_getElem h1, List.getElem?_eq_getElem h2]
  exact less_lt (hg _ (List.getElem_mem h1)) (hg _ (List.getElem_mem h2)) ((List.pairwise_iff_getElem.mp hr) k (k + 1) h1 h2 (by omega))
theorem GoodW.is {z : Str} {ar : List Arw} {p c : Int} (g : GoodW z ar p c) : isWr z ar p c = true := by
  unfold isWr areArr within
  have hl := g.len
  rw [name_eq, g.name.is, if_neg (by omega), if_neg (by
    rw [show (ar.map okA).all id = true from by
      rw [List.all_map]
      exact List.all_eq_true.mpr fun x hx => good_okA (g.each x hx)]
    exact fun e => nomatch e), good_rise g.each g.rise, decide_eq_true g.p0, decide_eq_true g.p3, decide_eq_true g.c0, decide_eq_true g.c3]
  rfl
theorem GoodW.short {z : Str} {ar : List Arw} {p c : Int} (g : GoodW z ar p c) : ShortA ar := ⟨by have := g.len; omega, fun x hx => by
  obtain ⟨_, _, ⟨c, _, e⟩, _⟩ := g.each x hx
  rw [e]
  show 1 ≤ 1000
  decide⟩
end Ink
namespace Ink
open PySem PySem.Spec PyProof.Rows L2
/-! ### data as a reading gives it: None, bools, numbers, texts, tuples and lists of such -/
mutual
theorem dp_up {K : PySem.W.Frag} {H H' : Hp} (hl : ∀ b xs, SqL K H b xs → SqL K H' b xs) (ht : ∀ b xs, SqT K H b xs → SqT K H' b xs) : ∀ (d : PyData) (v : V), Dp K H v d → Dp K H' v d
  | .none, _, h => by cases h; exact .non
  | .bool b, _, h => by cases h; exact .bl b
  | .int i, _, h => by cases h; exact .int i
  | .str x, _, h => by cases h; exact .str x
  | .list ds, _, h => by
    cases h with
    | lst hs ha => exact .lst (hl _ _ hs) (dps_up hl ht ds _ ha)
  | .tuple ds, _, h => by
    cases h with
    | tup hs ha => exact .tup (ht _ _ hs) (dps_up hl ht ds _ ha)
  | .dict _, _, h => by cases h
theorem dps_up {K : PySem.W.Frag} {H H' : Hp} (hl : ∀ b xs, SqL K H b xs → SqL K H' b xs) (ht : ∀ b xs, SqT K H b xs → SqT K H' b xs) : ∀ (ds : List PyData) (vs : List V), DpAll K H vs ds → DpAll K H' vs ds
  | [], _, h => by cases h; exact .nil
  | d :: ds, _, h => by
    cases h with
    | cons h1 h2 => exact .cons (dp_up hl ht d _ h1) (dps_up hl ht ds _ h2)
end
mutual
/-- no list in it: it never changes -/
def fz : PyData → Bool
  | .list _ => false
  | .tuple ds => fzAll ds
  | .dict _ => false
  | .none => true
  | .bool _ => true
  | .int _ => true
  | .str _ => true
def fzAll : List PyData → Bool
  | [] => true
  | d :: ds => fz d && fzAll ds
end
mutual
theorem dp_fz {K : PySem.W.Frag} {H H' : Hp} (ht : ∀ b xs, SqT K H b xs → SqT K H' b xs) : ∀ (d : PyData) (v : V), fz d = true → Dp K H v d → Dp K H' v d
  | .none, _, _, h => by cases h; exact .non
  | .bool b, _, _, h => by cases h; exact .bl b
  | .int i, _, _, h => by cases h; exact .int i
  | .str x, _, _, h => by cases h; exact .str x
  | .list _, _, f, _ => by
    unfold fz at f
    cases f
  | .tuple ds, _, f, h => by
    cases h with
    | tup hs ha => exact .tup (ht _ _ hs) (dps_fz ht ds _ (by unfold fz at f; exact f) ha)
  | .dict _, _, _, h => by cases h
theorem dps_fz {K : PySem.W.Frag} {H H' : Hp} (ht : ∀ b xs, SqT K H b xs → SqT K H' b xs) : ∀ (ds : List PyData) (vs : List V), fzAll ds = true → DpAll K H vs ds → DpAll K H' vs ds
  | [], _, _, h => by cases h; exact .nil
  | d :: ds, _, f, h => by
    unfold fzAll at f
    rw [Bool.and_eq_true] at f
    cases h with
    | cons h1 h2 => exact .cons (dp_fz ht d _ f.1 h1) (dps_fz ht ds _ f.2 h2)
end
theorem fzAll_iff : ∀ {ds : List PyData}, fzAll ds = true ↔ ∀ d ∈ ds, fz d = true
  | [] => by unfold fzAll; exact ⟨fun _ _ h => (by cases h), fun _ => rfl⟩
  | d :: ds => by
    unfold fzAll
    rw [Bool.and_eq_true, fzAll_iff]
    exact ⟨fun h e he => (List.mem_cons.mp he).elim (fun z => z ▸ h.1) (h.2 e), fun h => ⟨h d (List.mem_cons_self ..), fun e he => h e (List.mem_cons_of_mem _ he)⟩⟩
theorem fz_map {α : Type} {e : α → PyData} {xs : List α} (h : ∀ x ∈ xs, fz (e x) = true) : fzAll (xs.map e) = true := fzAll_iff.mpr fun d hd => by
  obtain ⟨x, hx, rfl⟩ := List.mem_map.mp hd
  exact h x hx
section
variable {K : PySem.W.Frag} {H H' : Hp} {v : V} {d : PyData} {vs : List V} {ds : List PyData}
theorem dp_same (e : Evl.Ex H H') (h : Dp K H v d) : Dp K H' v d := dp_up (fun _ _ => Evl.ex_l e) (fun _ _ => Evl.ex_t e) d v h
theorem dps_same (e : Evl.Ex H H') (h : DpAll K H vs ds) : DpAll K H' vs ds := dps_up (fun _ _ => Evl.ex_l e) (fun _ _ => Evl.ex_t e) ds vs h
/-- what is drawn from the bag leaves the tuples -/
theorem keep_t {a l : Addr} (b : BagAt H a l) (k : Keep a H H') : ∀ c xs, SqT K H c xs → SqT K H' c xs := fun c xs h => by
  obtain ⟨ns, p, q, s, h1, _⟩ := b
  rcases h with (h | ⟨o, h⟩) | h
  · exact .inl (.inl (k c _ (fun z => by rw [z, h1] at h; cases h) h))
  · exact .inl (.inr ⟨o, k c _ (fun z => by rw [z, h1] at h; cases h) h⟩)
  · exact .inr h
theorem dp_keep {a l : Addr} (b : BagAt H a l) (k : Keep a H H') (f : fz d = true) (h : Dp K H v d) : Dp K H' v d := dp_fz (keep_t b k) d v f h
theorem dps_keep {a l : Addr} (b : BagAt H a l) (k : Keep a H H') (f : fzAll ds = true) (h : DpAll K H vs ds) : DpAll K H' vs ds := dps_fz (keep_t b k) ds vs f h
end
end Ink
namespace L2
open PySem PySem.Spec PyProof.Rows
section
variable {K : PySem.W.Frag} {H H' : Hp} {v : V} {d : PyData} {vs : List V} {ds : List PyData}
theorem DpAll.length : ∀ {vs : List V} {ds : List PyData}, DpAll K H vs ds → vs.length = ds.length
  | _, _, .nil => rfl
  | _, _, .cons _ t => by rw [List.length_cons, List.length_cons, DpAll.length t]
theorem DpAll.get : ∀ {vs : List V} {ds : List PyData} {i : Nat} {d : PyData}, DpAll K H vs ds → ds[i]? = some d → ∃ v, vs[i]? = some v ∧ Dp K H v d
  | _, _, 0, d, .cons h _, e => ⟨_, rfl, by rw [← Option.some.inj e]; exact h⟩
  | _, _, i + 1, d, .cons _ t, e => DpAll.get (i := i) t e
theorem DpAll.at : ∀ {vs : List V} {ds : List PyData} {i : Nat} {v : V}, DpAll K H vs ds → vs[i]? = some v → ∃ d, ds[i]? = some d ∧ Dp K H v d
  | _, _, 0, v, .cons h _, e => ⟨_, rfl, by rw [← Option.some.inj e]; exact h⟩
  | _, _, i + 1, v, .cons _ t, e => DpAll.at (i := i) t e
theorem DpAll.app : ∀ {vs ws : List V} {ds es : List PyData}, DpAll K H vs ds → DpAll K H ws es → DpAll K H (vs ++ ws) (ds ++ es)
  | _, _, _, _, .nil, h => h
  | _, _, _, _, .cons h t, h2 => .cons h (t.app h2)
theorem DpAll.one (h : Dp K H v d) : DpAll K H [v] [d] := .cons h .nil
theorem DpAll.take : ∀ {vs : List V} {ds : List PyData} (n : Nat), DpAll K H vs ds → DpAll K H (vs.take n) (ds.take n)
  | _, _, 0, _ => .nil
  | _, _, _ + 1, .nil => .nil
  | _, _, n + 1, .cons h t => .cons h (t.take n)
theorem DpAll.drop : ∀ {vs : List V} {ds : List PyData} (n : Nat), DpAll K H vs ds → DpAll K H (vs.drop n) (ds.drop n)
  | _, _, 0, h => h
  | _, _, _ + 1, .nil => .nil
  | _, _, n + 1, .cons _ t => t.drop n
theorem DpAll.set : ∀ {vs : List V} {ds : List PyData} (n : Nat), DpAll K H vs ds → Dp K H v d → DpAll K H (vs.set n v) (ds.set n d)
  | _, _, 0, .cons _ t, h => .cons h t
  | _, _, _, .nil, _ => .nil
  | _, _, n + 1, .cons h t, h2 => .cons h (t.set n h2)
end
end L2
namespace Ink
open PySem PySem.Spec PyProof.Rows L2
section
variable {K : PySem.W.Frag} {H H' : Hp} {v : V} {d : PyData} {vs : List V} {ds : List PyData}
theorem dps_ints : ∀ (ns : List Int), DpAll K H (ns.map V.int) (ns.map PyData.int)
  | [] => .nil
  | n :: ns => .cons (.int n) (dps_ints ns)
theorem dp_int {i : Int} (h : Dp K H v (.int i)) : v = .int i := by cases h; rfl
theorem dp_str {z : Str} (h : Dp K H v (.str z)) : v = .str z := by cases h; rfl
theorem dp_bl {b : Bool} (h : Dp K H v (.bool b)) : v = .bl b := by cases h; rfl
theorem dp_non (h : Dp K H v .none) : v = .non := by cases h; rfl
theorem dps_int : ∀ {vs : List V} {ns : List Int}, DpAll K H vs (ns.map PyData.int) → vs = ns.map V.int
  | _, [], h => by cases h; rfl
  | _, n :: ns, h => by
    cases h with
    | cons h t =>
      rw [dp_int h, dps_int t]
      rfl
theorem dp_tup (h : Dp K H v (.tuple ds)) : ∃ p xs, v = .ref p ∧ SqT K H p xs ∧ DpAll K H xs ds := by
  cases h with
  | tup hs ha => exact ⟨_, _, rfl, hs, ha⟩
theorem dp_lst (h : Dp K H v (.list ds)) : ∃ p xs, v = .ref p ∧ SqL K H p xs ∧ DpAll K H xs ds := by
  cases h with
  | lst hs ha => exact ⟨_, _, rfl, hs, ha⟩
theorem dps1 {d1 : PyData} (h : DpAll K H vs [d1]) : ∃ v1, vs = [v1] ∧ Dp K H v1 d1 := by
  cases h with
  | cons h1 t => cases t; exact ⟨_, rfl, h1⟩
theorem dps2 {d1 d2 : PyData} (h : DpAll K H vs [d1, d2]) : ∃ v1 v2, vs = [v1, v2] ∧ Dp K H v1 d1 ∧ Dp K H v2 d2 := by
  cases h with
  | cons h1 t =>
    obtain ⟨v2, rfl, h2⟩ := dps1 t
    exact ⟨_, _, rfl, h1, h2⟩
theorem dps3 {d1 d2 d3 : PyData} (h : DpAll K H vs [d1, d2, d3]) : ∃ v1 v2 v3, vs = [v1, v2, v3] ∧ Dp K H v1 d1 ∧ Dp K H v2 d2 ∧ Dp K H v3 d3 := by
  cases h with
  | cons h1 t =>
    obtain ⟨v2, v3, rfl, h2, h3⟩ := dps2 t
    exact ⟨_, _, _, rfl, h1, h2, h3⟩
theorem dps4 {d1 d2 d3 d4 : PyData} (h : DpAll K H vs [d1, d2, d3, d4]) : ∃ v1 v2 v3 v4, vs = [v1, v2, v3, v4] ∧ Dp K H v1 d1 ∧ Dp K H v2 d2 ∧ Dp K H v3 d3 ∧ Dp K H v4 d4 := by
  cases h with
  | cons h1 t =>
    obtain ⟨v2, v3, v4, rfl, h2, h3, h4⟩ := dps3 t
    exact ⟨_, _, _, _, rfl, h1, h2, h3, h4⟩
end
/-! ### what evaluates to data -/
open Evl
/-- to d, whatever the value -/
def EvD (K : PySem.W.Frag) (te : TE) (σ : L2.St) (H : Hp) (d : PyData) : Prop := ∀ H1, Ex H H1 → ∀ Q : VK, (∀ v H2, Ex H1 H2 → Dp K H2 v d → Q v H2) → te σ H1 Q
def EvDs (K : PySem.W.Frag) (ta : TA) (σ : L2.St) (H : Hp) (ds : List PyData) : Prop := ∀ H1, Ex H H1 → ∀ Q : List V → Hp → Prop, (∀ vs H2, Ex H1 H2 → DpAll K H2 vs ds → Q vs H2) → ta σ H1 Q
/-- to a new list of ds -/
def EvN (K : PySem.W.Frag) (te : TE) (σ : L2.St) (H : Hp) (ds : List PyData) : Prop := ∀ H1, Ex H H1 → ∀ Q : VK, (∀ p vs H2, H1 p = none → Ex H1 H2 → H2 p = some (.lst vs) → DpAll K H2 vs ds → Q (.ref p) H2) → te σ H1 Q
/-- what is walked gives ds -/
def EvI (K : PySem.W.Frag) (ti : TI) (σ : L2.St) (H : Hp) (ds : List PyData) : Prop := ∀ H1, Ex H H1 → ∀ R : It → Hp → Prop, (∀ J H2, Ex H1 H2 → Walk J ds.length (fun H' => Ex H2 H') (fun i Ha x Hb => Ex Ha Hb ∧ ∃ d, ds[i]? = some d ∧ Dp K Hb x d) → R J H2) → ti σ H1 R
section
variable {K : PySem.W.Frag} {σ : L2.St} {H H' : Hp} {ta tb te tc : TE} {t : TT} {d d1 d2 : PyData} {ds es : List PyData} {v : V} {i : Nat}
theorem EvD.mono (e : Ex H H') (h : EvD K te σ H d) : EvD K te σ H' d := fun H1 a Q q => h H1 (e.trans a) Q q
theorem EvN.mono (e : Ex H H') (h : EvN K te σ H ds) : EvN K te σ H' ds := fun H1 a Q q => h H1 (e.trans a) Q q
theorem EvN.list (h : EvN K te σ H ds) : EvD K te σ H (.list ds) := fun H1 e Q q => h H1 e _ fun p vs H2 _ e2 hp hd => q _ H2 e2 (.lst (.of hp) hd)
theorem ed_of (h : Ev te σ H v) (hd : Dp K H v d) : EvD K te σ H d := fun H1 e Q q => h H1 e _ fun H2 e2 => q v H2 e2 (dp_same (e.trans e2) hd)
theorem ev_int {n : Int} (h : EvD K te σ H (.int n)) : Ev te σ H (.int n) := fun H1 e Q q => h H1 e _ fun v H2 e2 hd => by rw [dp_int hd]; exact q H2 e2
theorem ev_str {z : Str} (h : EvD K te σ H (.str z)) : Ev te σ H (.str z) := fun H1 e Q q => h H1 e _ fun v H2 e2 hd => by rw [dp_str hd]; exact q H2 e2
theorem ev_bl {b : Bool} (h : EvD K te σ H (.bool b)) : Ev te σ H (.bl b) := fun H1 e Q q => h H1 e _ fun v H2 e2 hd => by rw [dp_bl hd]; exact q H2 e2
theorem ed_int {n : Int} (h : Ev te σ H (.int n)) : EvD K te σ H (.int n) := ed_of h (.int n)
theorem ed_str {z : Str} (h : Ev te σ H (.str z)) : EvD K te σ H (.str z) := ed_of h (.str z)
theorem ed_bl {b : Bool} (h : Ev te σ H (.bl b)) : EvD K te σ H (.bool b) := ed_of h (.bl b)
theorem ed_non (h : Ev te σ H .non) : EvD K te σ H .none := ed_of h .non
theorem ed_var (h : σ[i]? = some (some v)) (hd : Dp K H v d) : EvD K (tVar i) σ H d := ed_of (ev_var h) hd
theorem ed_is (h : EvD K te σ H d1) (e : d1 = d2) : EvD K te σ H d2 := e ▸ h
theorem eds_nil : EvDs K tNil σ H [] := fun H1 _ _ q => q [] H1 (Ex.refl H1) .nil
theorem eds_cons {tr : TA} (h : EvD K ta σ H d) (hr : EvDs K tr σ H ds) : EvDs K (tCons ta tr) σ H (d :: ds) := fun H1 e _ q =>
  h H1 e _ fun v H2 e2 hd => hr H2 (e.trans e2) _ fun vs H3 e3 hds => q _ H3 (e2.trans e3) (.cons (dp_same e3 hd) hds)
theorem ed_tup {ta : TA} (h : EvDs K ta σ H ds) (hl : ds.length ≤ 100000) : EvD K (tTup ta) σ H (.tuple ds) := fun H1 e Q q =>
  h H1 e _ fun vs H2 e2 hds => ⟨sz_of (by rw [hds.length]; exact hl), fun p hp => q _ _ (e2.trans (Ex.new hp)) (.tup (.of upd_same) (dps_same (Ex.new hp) hds))⟩
theorem en_lst {ta : TA} (h : EvDs K ta σ H ds) (hl : ds.length ≤ 100000) : EvN K (tLst ta) σ H ds := fun H1 e Q q =>
  h H1 e _ fun vs H2 e2 hds => ⟨sz_of (by rw [hds.length]; exact hl), fun p hp => q p vs _ (fresh_back e2 hp) (e2.trans (Ex.new hp)) upd_same (dps_same (Ex.new hp) hds)⟩
theorem ed_ixT {n : Int} (ha : EvD K ta σ H (.tuple ds)) (hb : Ev tb σ H (.int n)) (h0 : 0 ≤ n) (hd : ds[n.toNat]? = some d) : EvD K (tOp (rIxT K) ta tb) σ H d := fun H1 e Q q =>
  ha H1 e _ fun v H2 e2 hv => hb H2 (e.trans e2) _ fun H3 e3 => by
    obtain ⟨p, xs, rfl, hs, hxs⟩ := dp_tup (dp_same e3 hv)
    obtain ⟨x, hx, hxd⟩ := hxs.get hd
    exact ⟨p, xs, n, x, rfl, rfl, hs, atI_of h0 hx, q x H3 (e2.trans e3) hxd⟩
theorem ed_ixL {n : Int} (ha : EvD K ta σ H (.list ds)) (hb : Ev tb σ H (.int n)) (h0 : 0 ≤ n) (hd : ds[n.toNat]? = some d) : EvD K (tOp (rIxL K) ta tb) σ H d := fun H1 e Q q =>
  ha H1 e _ fun v H2 e2 hv => hb H2 (e.trans e2) _ fun H3 e3 => by
    obtain ⟨p, xs, rfl, hs, hxs⟩ := dp_lst (dp_same e3 hv)
    obtain ⟨x, hx, hxd⟩ := hxs.get hd
    exact ⟨p, xs, n, x, rfl, rfl, hs, atI_of h0 hx, q x H3 (e2.trans e3) hxd⟩
theorem ev_eqD (ha : EvD K ta σ H d1) (hb : EvD K tb σ H d2) (h1 : SeqAt.shaped d1 = true) (h2 : SeqAt.shaped d2 = true) : Ev (tOp (rEqD K) ta tb) σ H (.bl (PyData.eqv d1 d2)) := fun H1 e Q q =>
  ha H1 e _ fun v H2 e2 hv => hb H2 (e.trans e2) _ fun w H3 e3 hw => ⟨d1, d2, dp_same e3 hv, hw, h1, h2, q H3 (e2.trans e3)⟩
theorem ev_neD (ha : EvD K ta σ H d1) (hb : EvD K tb σ H d2) (h1 : SeqAt.shaped d1 = true) (h2 : SeqAt.shaped d2 = true) : Ev (tOp (rNeD K) ta tb) σ H (.bl (!PyData.eqv d1 d2)) := fun H1 e Q q =>
  ha H1 e _ fun v H2 e2 hv => hb H2 (e.trans e2) _ fun w H3 e3 hw => ⟨d1, d2, dp_same e3 hv, hw, h1, h2, q H3 (e2.trans e3)⟩
theorem ev_lenD (ha : EvD K ta σ H d) (h : d = .list ds ∨ d = .tuple ds) : Ev (tCB (fun xs H Q => ∃ x n, xs = [x] ∧ LenV K x H n ∧ Q (.int n) H) (tCons ta tNil)) σ H (.int (ds.length : Nat)) := fun H1 e Q q =>
  ha H1 e _ fun v H2 e2 hv => by
    rcases h with rfl | rfl
    · obtain ⟨p, xs, rfl, hs, hxs⟩ := dp_lst hv
      exact ⟨.ref p, _, rfl, .inl ⟨_, hs, rfl⟩, by rw [hxs.length]; exact q H2 e2⟩
    · obtain ⟨p, xs, rfl, hs, hxs⟩ := dp_tup hv
      exact ⟨.ref p, _, rfl, .inr ⟨_, hs, rfl⟩, by rw [hxs.length]; exact q H2 e2⟩
theorem ed_if {b : Bool} (h : EvT t σ H b) (h1 : b = true → EvD K ta σ H d) (h2 : b = false → EvD K tb σ H d) : EvD K (tIf t ta tb) σ H d := fun H1 e Q q => h H1 e _ fun H2 e2 => by
  cases b with
  | true => exact iteT (h1 rfl H2 (e.trans e2) Q fun v H3 e3 => q v H3 (e2.trans e3))
  | false => exact iteF (h2 rfl H2 (e.trans e2) Q fun v H3 e3 => q v H3 (e2.trans e3))
theorem et_yes : EvT tYes σ H true := fun H1 _ Q q => q H1 (Ex.refl H1)
/-- a contract of data alone: what stood stands -/
def spP (K : PySem.W.Frag) (R : List PyData → PyData → Prop) : Sp := fun vs H Q _ => ∃ ds d, DpAll K H vs ds ∧ R ds d ∧ ∀ v H', Same H H' → Dp K H' v d → Q v H'
theorem ed_call {R : List PyData → PyData → Prop} {E : XK} {ta : TA} (h : EvDs K ta σ H ds) (hR : R ds d) : EvD K (tCall (spP K R) [] E ta) σ H d := fun H1 e Q q =>
  h H1 e _ fun vs H2 e2 hds => by
    show spP K R (vs ++ []) H2 Q E
    rw [List.append_nil]
    exact ⟨ds, d, hds, hR, fun v H3 s3 hd => q v H3 (e2.trans s3) hd⟩
/-! ### statements -/
variable {D : Ends} {tu : TS}
theorem sd_asg (h : EvD K te σ H d) (k : ∀ v H1, Ex H H1 → Dp K H1 v d → D.nx (σ.set i (some v)) H1) : tAsg te (gName i) D σ H := h H (Ex.refl H) _ fun v H1 e hd => k v H1 e hd
theorem sd_asgN (h : EvN K te σ H ds) (k : ∀ p vs H1, H p = none → Ex H H1 → H1 p = some (.lst vs) → DpAll K H1 vs ds → D.nx (σ.set i (some (.ref p))) H1) : tAsg te (gName i) D σ H := h H (Ex.refl H) _ fun p vs H1 np e hp hd => k p vs H1 np e hp hd
theorem sd_ret (h : EvD K te σ H d) (k : ∀ v H1, Ex H H1 → Dp K H1 v d → D.rt v H1) : tRet te D σ H := h H (Ex.refl H) _ k
theorem sd_un2 {n1 n2 : Nat} (h : EvD K te σ H (.tuple [d1, d2])) (k : ∀ v1 v2 H1, Ex H H1 → Dp K H1 v1 d1 → Dp K H1 v2 d2 → D.nx ((σ.set n1 (some v1)).set n2 (some v2)) H1) : tAsg te (gTup K 2 (gCons (gName n1) (gCons (gName n2) gNil))) D σ H := h H (Ex.refl H) _ fun v H1 e hd => by
  obtain ⟨p, xs, rfl, hs, hxs⟩ := dp_tup hd
  obtain ⟨v1, v2, rfl, h1, h2⟩ := dps2 hxs
  exact ⟨p, _, rfl, hs, rfl, _, _, rfl, _, _, rfl, rfl, k v1 v2 H1 e h1 h2⟩
theorem sd_un3 {d3 : PyData} {n1 n2 n3 : Nat} (h : EvD K te σ H (.tuple [d1, d2, d3])) (k : ∀ v1 v2 v3 H1, Ex H H1 → Dp K H1 v1 d1 → Dp K H1 v2 d2 → Dp K H1 v3 d3 → D.nx (((σ.set n1 (some v1)).set n2 (some v2)).set n3 (some v3)) H1) : tAsg te (gTup K 3 (gCons (gName n1) (gCons (gName n2) (gCons (gName n3) gNil)))) D σ H := h H (Ex.refl H) _ fun v H1 e hd => by
  obtain ⟨p, xs, rfl, hs, hxs⟩ := dp_tup hd
  obtain ⟨v1, v2, v3, rfl, h1, h2, h3⟩ := dps3 hxs
  exact ⟨p, _, rfl, hs, rfl, _, _, rfl, _, _, rfl, _, _, rfl, rfl, k v1 v2 v3 H1 e h1 h2 h3⟩
theorem sd_un4 {d3 d4 : PyData} {n1 n2 n3 n4 : Nat} (h : EvD K te σ H (.tuple [d1, d2, d3, d4])) (k : ∀ v1 v2 v3 v4 H1, Ex H H1 → Dp K H1 v1 d1 → Dp K H1 v2 d2 → Dp K H1 v3 d3 → Dp K H1 v4 d4 → D.nx ((((σ.set n1 (some v1)).set n2 (some v2)).set n3 (some v3)).set n4 (some v4)) H1) :
    tAsg te (gTup K 4 (gCons (gName n1) (gCons (gName n2) (gCons (gName n3) (gCons (gName n4) gNil))))) D σ H := h H (Ex.refl H) _ fun v H1 e hd => by
  obtain ⟨p, xs, rfl, hs, hxs⟩ := dp_tup hd
  obtain ⟨v1, v2, v3, v4, rfl, h1, h2, h3, h4⟩ := dps4 hxs
  exact ⟨p, _, rfl, hs, rfl, _, _, rfl, _, _, rfl, _, _, rfl, _, _, rfl, rfl, k v1 v2 v3 v4 H1 e h1 h2 h3 h4⟩
/-! ### what is walked -/
theorem ei_tup (h : EvD K te σ H (.tuple ds)) : EvI K (iTup K te) σ H ds := fun H1 e R q => h H1 e _ fun v H2 e2 hd => by
  obtain ⟨p, xs, rfl, hs, hxs⟩ := dp_tup hd
  refine ⟨p, rfl, ⟨xs, hs⟩, q _ H2 e2 ?_⟩
  rw [← hxs.length]
  refine (walk_tup (xs := xs)).mono (fun H3 e3 => ex_t e3 hs) fun i Ha x Hb hi e3 hy => ?_
  obtain ⟨rfl, hx⟩ := hy
  obtain ⟨dx, h1, h2⟩ := hxs.at hx
  exact ⟨Ex.refl _, dx, h1, dp_same e3 h2⟩
theorem ei_lst (h : EvD K te σ H (.list ds)) : EvI K (iList K te) σ H ds := fun H1 e R q => h H1 e _ fun v H2 e2 hd => by
  obtain ⟨p, xs, rfl, hs, hxs⟩ := dp_lst hd
  refine ⟨p, rfl, ⟨xs, hs⟩, q _ H2 e2 ?_⟩
  rw [← hxs.length]
  refine (walk_list (xs := xs)).mono (fun H3 e3 => ex_l e3 hs) fun i Ha x Hb hi e3 hy => ?_
  obtain ⟨rfl, hx⟩ := hy
  obtain ⟨dx, h1, h2⟩ := hxs.at hx
  exact ⟨Ex.refl _, dx, h1, dp_same e3 h2⟩
theorem ei_range {ta : TA} {n : Nat} (h : EvA ta σ H [.int (n : Int)]) (hn : n ≤ 100000) : EvI K (iRng1 ta) σ H ((List.range n).map fun (i : Nat) => PyData.int (i : Int)) := fun H1 e R q => h H1 e _ fun H2 e2 => ⟨(n : Int), rfl, by omega, by omega, q _ H2 e2 (by
  rw [List.length_map, List.length_range, Int.toNat_natCast]
  refine walk_range0.mono (fun _ _ => True.intro) fun i Ha x Hb hi e3 hy => ?_
  obtain ⟨rfl, rfl⟩ := hy
  refine ⟨Ex.refl _, .int (i : Int), ?_, .int _⟩
  rw [List.getElem?_map, List.getElem?_range hi]
  rfl)⟩
theorem ei_zip {ta tb : TE} {tx : TA} (ha : EvD K ta σ H (.list ds)) (hb : EvD K tb σ H (.list es)) (hl : ds.length = es.length ∨ True) : EvI K (iZip K (tCons ta (tCons tb tNil))) σ H ((ds.zip es).map fun p => .tuple [p.1, p.2]) := fun H1 e R q => ha H1 e _ fun v H2 e2 hv => hb H2 (e.trans e2) _ fun w H3 e3 hw => by
  obtain ⟨p, xs, rfl, hs, hxs⟩ := dp_lst (dp_same e3 hv)
  obtain ⟨p', ys, rfl, hs', hys⟩ := dp_lst hw
  refine ⟨p, p', xs, ys, rfl, hs, hs', q _ H3 (e2.trans e3) ?_⟩
  rw [List.length_map, List.length_zip, ← hxs.length, ← hys.length]
  refine (walk_zip (xs := xs) (ys := ys) rfl).mono (fun H4 e4 => ⟨ex_l e4 hs, ex_l e4 hs'⟩) fun i Ha x Hb hi e4 hy => ?_
  obtain ⟨T, x1, y1, rfl, nT, rfl, hx, hy⟩ := hy
  obtain ⟨dx, h1, h2⟩ := hxs.at hx
  obtain ⟨dy, h3, h4⟩ := hys.at hy
  refine ⟨Ex.new nT, .tuple [dx, dy], ?_, .tup (.of upd_same) (.cons (dp_same (e4.trans (Ex.new nT)) h2) (.cons (dp_same (e4.trans (Ex.new nT)) h4) .nil))⟩
  rw [List.getElem?_map, show (ds.zip es)[i]? = some (dx, dy) from by rw [List.getElem?_zip_eq_some]; exact ⟨h1, h3⟩]
  rfl
/-! ### comprehensions -/
theorem filter_snoc {α : Type} {xs : List α} {i : Nat} {a : α} (b : α → Bool) (h : xs[i]? = some a) : (xs.take (i + 1)).filter b = (xs.take i).filter b ++ (if b a = true then [a] else []) := by
  rw [take_snoc h, List.filter_append]
  cases hb : b a <;> simp [hb]
theorem en_lc {α : Type} {ti : TI} {g : TG} {vs : List Nat} (xs : List α) (enc : α → PyData) (b : α → Bool) (f : α → PyData) (hi : EvI K ti σ H (xs.map enc)) (hz : xs.length ≤ 40000) (hf : ∀ a ∈ xs, fz (f a) = true)
    (ht : ∀ (i : Nat) (a : α) (H1 : Hp) (x : V), xs[i]? = some a → Ex H H1 → Dp K H1 x (enc a) → ∀ R : L2.St → Hp → Prop, (∀ σ2, wipe σ2 vs = wipe σ vs → EvT t σ2 H1 (b a) → (b a = true → EvD K te σ2 H1 (f a)) → R σ2 H1) → g x (wipe σ vs) H1 R) :
    EvN K (tLc ti g t te vs) σ H ((xs.filter b).map f) := fun H0 e Q q => hi H0 e _ fun J H1 e1 W D nD => by
  refine lc_it W (fun i H' => Ex H1 H' ∧ ∃ vs, H' D = some (.lst vs) ∧ DpAll K H' vs (((xs.take i).filter b).map f)) ⟨Ex.new nD, [], upd_same, .nil⟩ (fun _ _ _ hP => hP.1) (fun i x Ha Hb hi hP hy => ?_) (fun H' hP => ?_)
  · obtain ⟨s1, acc, eD, hacc⟩ := hP
    obtain ⟨s2, d, hd, hx⟩ := hy
    rw [List.getElem?_map] at hd
    cases ha : xs[i]? with
    | none =>
      rw [ha] at hd
      cases hd
    | some a =>
      rw [ha] at hd
      have hd := Option.some.inj hd
      subst hd
      refine ht i a Hb x ha ((e.trans e1).trans (s1.trans s2)) hx _ fun σ2 hw tt he => ⟨hw, tt Hb (Ex.refl Hb) _ fun H3 e3 => ?_⟩
      have hn := filter_snoc b ha
      cases hb : b a with
      | false =>
        rw [hb] at hn
        refine iteF ⟨s1.trans (s2.trans e3), acc, e3 _ _ (s2 _ _ eD), ?_⟩
        rw [hn]
        show DpAll K H3 acc (((xs.take i).filter b ++ []).map f)
        rw [List.append_nil]
        exact dps_same (s2.trans e3) hacc
      | true =>
        rw [hb] at hn
        refine iteT (he hb H3 e3 _ fun y H4 e4 hy => ⟨acc, e4 _ _ (e3 _ _ (s2 _ _ eD)), ?_, ?_, acc ++ [y], upd_same, ?_⟩)
        · have h1 := hacc.length
          have h2 := List.length_filter_le b (xs.take i)
          have h3 := List.length_take_le i xs
          rw [List.length_map] at hi
          rw [List.length_map] at h1
          exact sz_lt (by omega)
        · exact Ex.mut (s1.trans (s2.trans (e3.trans e4))) nD
        · rw [hn]
          show DpAll K _ (acc ++ [y]) (((xs.take i).filter b ++ [a]).map f)
          rw [List.map_append]
          have eD4 := e4 _ _ (e3 _ _ (s2 _ _ eD))
          have ht : ∀ c xs, SqT K H4 c xs → SqT K (upd H4 D (.lst (acc ++ [y]))) c xs := fun c xs h => by
            rcases h with (h | ⟨o, h⟩) | h
            · exact .inl (.inl (by rw [upd_ne (ne_of h eD4 (by intro z; cases z))]; exact h))
            · exact .inl (.inr ⟨o, by rw [upd_ne (ne_of h eD4 (by intro z; cases z))]; exact h⟩)
            · exact .inr h
          have hfa : ∀ a ∈ (xs.take i).filter b, fz (f a) = true := fun a h => hf a (List.mem_of_mem_take (List.mem_filter.mp h).1)
          exact (dps_fz ht _ _ (fz_map hfa) (dps_same (s2.trans (e3.trans e4)) hacc)).app (.one (dp_fz ht _ _ (hf a (List.mem_of_getElem? ha)) hy))
  · obtain ⟨s1, acc, eD, hacc⟩ := hP
    rw [List.length_map, List.take_length] at hacc
    exact q D acc H' (fresh_back e1 nD) (e1.trans s1) eD hacc
end
end Ink
namespace Ink
open PySem PySem.Spec PyProof.Rows L2
/-! ### sorted(xs), the items alike data of any depth -/
def rSortedD (K : PySem.W.Frag) : List V → Hp → VK → Prop := fun vs H Q => ∃ (x : V) (ds : List PyData), vs = [x] ∧ Dp K H x (.list ds) ∧ PySem.W.AllAlike ds ∧ PySem.W.Sortable ds ∧ (∀ d ∈ ds, d.depth ≤ 64) ∧
  ∀ p ws, H p = none → DpAll K H ws (ds.mergeSort (PySem.W.dataLe false id)) → Q (.ref p) (upd H p (.lst ws))
theorem each_pairs {K : PySem.W.Frag} {H : Hp} : ∀ {xs : List V} {its : List Value} {ds : List PyData}, Vals xs its → DpAll K H xs ds → PySem.W.EachIs (fun u (b : V × PyData) => RelV b.1 u ∧ Dp K H b.1 b.2) its (xs.zip ds)
  | _, _, _, .nil, .nil => .nil
  | _, _, _, .cons r rs, .cons h hs => .cons ⟨r, h⟩ (each_pairs rs hs)
theorem pairs_each {K : PySem.W.Frag} {H : Hp} : ∀ {out : List Value} {bs : List (V × PyData)}, PySem.W.EachIs (fun u (b : V × PyData) => RelV b.1 u ∧ Dp K H b.1 b.2) out bs → Vals (bs.map Prod.fst) out ∧ DpAll K H (bs.map Prod.fst) (bs.map Prod.snd)
  | _, _, .nil => ⟨.nil, .nil⟩
  | _, _, .cons ⟨r, h⟩ t => ⟨.cons r (pairs_each t).1, .cons h (pairs_each t).2⟩
theorem each_imp {α β : Type} {R S : α → β → Prop} (h : ∀ a b, R a b → S a b) : ∀ {as : List α} {bs : List β}, PySem.W.EachIs R as bs → PySem.W.EachIs S as bs
  | _, _, .nil => .nil
  | _, _, .cons r t => .cons (h _ _ r) (each_imp h t)
theorem zip_snd {α β : Type} : ∀ {as : List α} {bs : List β}, as.length = bs.length → (as.zip bs).map Prod.snd = bs
  | [], [], _ => rfl
  | _ :: _, _ :: _, h => by
    rw [List.zip_cons_cons, List.map_cons, zip_snd (by simpa using h)]
theorem cr_sortedD {X : Cx} (hu : X.A.units + 100 < cLine) : CallR X (.builtin "sorted") (rSortedD X.K) := by
  intro pins s σ H vs us Q I r h
  obtain ⟨x, ds, rfl, hx, ha, hs, hd, q⟩ := h
  obtain ⟨p, xs, rfl, hl, hds⟩ := dp_lst hx
  obtain ⟨its, rv, pl, hz⟩ := I.list hl
  rw [Vals.ref1 r]
  have hlen := hds.length
  have esnd : (xs.zip ds).map Prod.snd = ds := zip_snd hlen
  have e := each_pairs rv hds
  refine PySem.W.sorted_data (enc := Prod.snd) pl.isList e (each_imp (fun u b ⟨r, h⟩ => Dp.reads I b.2 b.1 u h r) e) (by rw [esnd]; exact ha) (by rw [esnd]; exact hs) (by rw [List.length_zip]; omega) (fun b hb => ?_) fun out ho hout => ?_
  · have : b.2 ∈ ds := by
      rw [← esnd]
      exact List.mem_map_of_mem hb
    have := hd _ this
    omega
  · obtain ⟨v1, d1⟩ := pairs_each hout
    obtain ⟨ep, he'⟩ := PyProof.Rows.sortedAll_at s.heap its out.toArray
    have em : ((xs.zip ds).mergeSort (PySem.W.dataLe false Prod.snd)).map Prod.snd = ds.mergeSort (PySem.W.dataLe false id) := by
      have z := List.map_mergeSort (r := PySem.W.dataLe false (Prod.snd : V × PyData → PyData)) (s := PySem.W.dataLe false id) (f := Prod.snd) (l := xs.zip ds) (fun a _ b _ => rfl)
      rw [z, esnd]
    rw [em] at d1
    have hwl : (((xs.zip ds).mergeSort (PySem.W.dataLe false Prod.snd)).map Prod.fst).length ≤ sizeLine := by
      rw [List.length_map, List.length_mergeSort, List.length_zip]
      omega
    exact ⟨.ref _, upd H (s.heap.objs.size + 1) (.lst _), I.laid (t' := s.toks) (fun _ _ => PyProof.Rows.sortedAll_old) (Nat.le_succ _) ⟨hwl, out, ep, v1, he'⟩, rfl, q _ _ (I.hok.fresh (Nat.le_succ _)) d1⟩
open Evl
theorem en_sorted {K : PySem.W.Frag} {σ : L2.St} {H : Hp} {te : TE} {ds : List PyData} (h : EvD K te σ H (.list ds)) (ha : PySem.W.AllAlike ds) (hs : PySem.W.Sortable ds) (hd : ∀ d ∈ ds, d.depth ≤ 64) : EvN K (tCB (rSortedD K) (tCons te tNil)) σ H (ds.mergeSort (PySem.W.dataLe false id)) := fun H1 e Q q =>
  h H1 e _ fun v H2 e2 hv => ⟨v, ds, rfl, hv, ha, hs, hd, fun p ws np hw => q p ws _ (fresh_back e2 np) (e2.trans (Ex.new np)) upd_same (dps_same (Ex.new np) hw)⟩
end Ink
namespace Ink
open PySem PySem.Spec PyProof.Rows L2
/-! ### dicts whose keys are nested tuples -/
abbrev NK := NestedKey
mutual
theorem nest_of {X : Cx} {pins : List (Addr × Obj)} {σ : L2.St} {H : Hp} {s : Shared} (I : Inv X pins σ H s) : ∀ (k : NK) (v : V) (u : Value), Dp X.K H v k.data → RelV v u → NestedIs s.heap k u
  | .none, _, _, h, r => by
    have h : Dp X.K H _ .none := h
    cases h
    cases r
    exact .none
  | .num i, _, _, h, r => by
    have h : Dp X.K H _ (.int i) := h
    cases h
    obtain ⟨t, rfl⟩ := r
    exact .int i t
  | .text x, _, _, h, r => by
    have h : Dp X.K H _ (.str x) := h
    cases h
    obtain ⟨t, rfl⟩ := r
    exact .text x t
  | .tup ks, v, u, h, r => by
    have h : Dp X.K H v (.tuple (NestedKey.datas ks)) := by
      unfold NestedKey.data at h
      exact h
    cases h with
    | tup hs ha =>
      cases r
      obtain ⟨its, rv, ⟨o, ho, hc, n, hd⟩, _⟩ := I.tuple hs
      exact .tup ho hc hd (nests_of I ks _ its ha rv)
theorem nests_of {X : Cx} {pins : List (Addr × Obj)} {σ : L2.St} {H : Hp} {s : Shared} (I : Inv X pins σ H s) : ∀ (ks : List NK) (vs : List V) (us : List Value), DpAll X.K H vs (NestedKey.datas ks) → Vals vs us → NestedAll s.heap ks us
  | [], _, _, h, r => by
    unfold NestedKey.datas at h
    cases h
    cases r
    exact .nil
  | k :: ks, _, _, h, r => by
    unfold NestedKey.datas at h
    cases h with
    | cons h1 h2 =>
      cases r with
      | cons r1 r2 => exact .cons (nest_of I k _ _ h1 r1) (nests_of I ks _ _ h2 r2)
end
mutual
theorem fz_key : ∀ k : NK, fz k.data = true
  | .none => by unfold NestedKey.data fz; rfl
  | .num _ => by unfold NestedKey.data fz; rfl
  | .text _ => by unfold NestedKey.data fz; rfl
  | .tup ks => by
    unfold NestedKey.data fz
    exact fz_keys ks
theorem fz_keys : ∀ ks : List NK, fzAll (NestedKey.datas ks) = true
  | [] => by unfold NestedKey.datas fzAll; rfl
  | k :: ks => by
    unfold NestedKey.datas fzAll
    rw [fz_key k, fz_keys ks]
    rfl
end
/-- a key as a reading gives it: a tuple, not too deep -/
def KeyAt (K : PySem.W.Frag) (H : Hp) (v : V) (k : NK) : Prop := Dp K H v k.data ∧ k.depth ≤ 8 ∧ ∃ ks, k = .tup ks
def lookN (kvs : List (NK × V)) (k : NK) : Option V := (kvs.find? fun kv => decide (kv.1 = k)).map (·.2)
def putN (kvs : List (NK × V)) (k : NK) (v : V) : List (NK × V) := if (lookN kvs k).isSome then kvs.map (fun kv => if kv.1 = k then (kv.1, v) else kv) else kvs ++ [(k, v)]
/-- what is known of a dict: its rows, and the very object -/
abbrev DX := List (NK × Addr × Value) × Obj
def DicO (P : Program) (w : World) (d : Addr) (x : DX) : HO := .ext fun h => (d == sysModules) = false ∧ ∃ es ep, h.get? d = some x.2 ∧ x.2.ExactDict ∧ x.2.data = .dict es ep ∧ es.toList = x.1.map (entryOfKey (nestedKind P w))
def PairN (p : NK × V) (x : NK × Addr × Value) : Prop := p.1 = x.1 ∧ RelV p.2 x.2.2
/-- at d stands a dict with these keys and values, in the order in which they came -/
def DicAt (P : Program) (w : World) (K : PySem.W.Frag) (H : Hp) (d : Addr) (kvs : List (NK × V)) : Prop :=
  ∃ xs : DX, H d = some (DicO P w d xs) ∧ Paired PairN kvs xs.1 ∧ (∀ x ∈ xs.1, KeyAt K H (.ref x.2.1) x.1) ∧ (xs.1.map (·.1)).Nodup ∧ kvs.length ≤ 100000
theorem dicO_ne {P : Program} {w : World} {d : Addr} {xs : DX} : (∀ ys, DicO P w d xs ≠ .lst ys) ∧ (∀ ys, DicO P w d xs ≠ .tup ys) := ⟨fun ys z => (by unfold DicO at z; cases z), fun ys z => (by unfold DicO at z; cases z)⟩
section
variable {P : Program} {w : World} {K : PySem.W.Frag} {H H' : Hp} {d : Addr} {kvs : List (NK × V)} {v : V} {k : NK}
theorem KeyAt.up (ht : ∀ b xs, SqT K H b xs → SqT K H' b xs) (h : KeyAt K H v k) : KeyAt K H' v k := ⟨dp_fz ht _ _ (fz_key k) h.1, h.2⟩
theorem DicAt.up (hd : H' d = H d) (ht : ∀ b xs, SqT K H b xs → SqT K H' b xs) (h : DicAt P w K H d kvs) : DicAt P w K H' d kvs := by
  obtain ⟨xs, e, p, hk, r⟩ := h
  exact ⟨xs, hd.trans e, p, fun x hx => (hk x hx).up ht, r⟩
theorem DicAt.same (e : Evl.Ex H H') (h : DicAt P w K H d kvs) : DicAt P w K H' d kvs := by
  obtain ⟨xs, ed, p, hk, r⟩ := h
  exact ⟨xs, e _ _ ed, p, fun x hx => (hk x hx).up fun _ _ => Evl.ex_t e, r⟩
theorem DicAt.keep {a l : Addr} (b : BagAt H a l) (k : Keep a H H') (h : DicAt P w K H d kvs) : DicAt P w K H' d kvs := by
  obtain ⟨xs, ed, p, hk, r⟩ := h
  refine ⟨xs, k d _ (fun z => ?_) ed, p, fun x hx => (hk x hx).up (keep_t b k), r⟩
  obtain ⟨ns, _, _, _, h1, _⟩ := b
  rw [z, h1] at ed
  exact dicO_ne.1 _ (Option.some.inj ed).symm
theorem DicAt.free (h : DicAt P w K H d kvs) : ∃ o, H d = some o := by
  obtain ⟨xs, e, _⟩ := h
  exact ⟨_, e⟩
theorem paired_look : ∀ {kvs : List (NK × V)} {xs : List (NK × Addr × Value)} (k : NK), Paired PairN kvs xs → RelO (lookN kvs k) ((atKey xs k).map (·.2))
  | _, _, k, .nil => by
    unfold lookN atKey
    exact True.intro
  | _, _, k, .cons (a := p) (b := x) r t => by
    have ih := paired_look k t
    unfold lookN atKey at ih ⊢
    rw [List.find?_cons, List.find?_cons, r.1]
    cases decide (x.1 = k) with
    | true => exact r.2
    | false => exact ih
theorem relO_isSome {x : Option V} {y : Option Value} (r : RelO x y) : y.isSome = x.isSome := by
  cases x <;> cases y <;> first | rfl | exact r.elim
theorem paired_put {kvs : List (NK × V)} {xs : List (NK × Addr × Value)} (k : NK) (a : Addr) {v : V} {u : Value} (r : RelV v u) (p : Paired PairN kvs xs) : Paired PairN (putN kvs k v) (storedH xs k a u) := by
  have e := relO_isSome (paired_look k p)
  rw [Option.isSome_map] at e
  unfold putN storedH
  rw [e]
  cases (lookN kvs k).isSome with
  | false => exact Paired.snoc p ⟨rfl, r⟩
  | true =>
    show Paired PairN (kvs.map fun kv => if kv.1 = k then (kv.1, v) else kv) (xs.map (putAt k u))
    clear e
    induction p with
    | nil => exact .nil
    | @cons p x kvs xs q t ih =>
      rw [List.map_cons, List.map_cons]
      refine .cons ?_ ih
      unfold putAt
      by_cases h : p.1 = k
      · rw [if_pos h, if_pos (q.1.symm.trans h)]
        exact ⟨q.1, r⟩
      · rw [if_neg h, if_neg (fun z => h (q.1.trans z))]
        exact q
theorem putN_len {kvs : List (NK × V)} {k : NK} {v : V} : (putN kvs k v).length ≤ kvs.length + 1 := by
  unfold putN
  split
  · rw [List.length_map]
    omega
  · rw [List.length_append]
    exact Nat.le_refl _
end
section
variable {X : Cx} {pins : List (Addr × Obj)} {σ : L2.St} {H : Hp} {s : Shared} {d : Addr} {kvs : List (NK × V)}
theorem DicAt.raw (I : Inv X pins σ H s) (h : DicAt X.prog X.w X.K H d kvs) : ∃ xs o, s.heap.DictOfH (nestedKind X.prog X.w) d xs ∧ (d == sysModules) = false ∧ H d = some (DicO X.prog X.w d (xs, o)) ∧ Paired PairN kvs xs ∧ (∀ x ∈ xs, KeyAt X.K H (.ref x.2.1) x.1) := by
  obtain ⟨⟨xs, o⟩, e, p, hk, nd, hz⟩ := h
  obtain ⟨⟨hs, es, ep, h1, h2, h3, h4⟩, _, _⟩ : ObjOk X.prog X.w H s.heap d (.ext fun h => (d == sysModules) = false ∧ ∃ es ep, h.get? d = some o ∧ o.ExactDict ∧ o.data = .dict es ep ∧ es.toList = xs.map (entryOfKey (nestedKind X.prog X.w))) := I.hok d _ e
  exact ⟨xs, o, ⟨o, es, ep, h1, h2, h3, h4, fun x hx => ⟨nest_of I _ _ _ (hk x hx).1 rfl, (hk x hx).2.1⟩, nd⟩, hs, e, p, hk⟩
/-- the object that stands at d -/
theorem dic_obj (I : Inv X pins σ H s) {x : DX} (e : H d = some (DicO X.prog X.w d x)) : (d == sysModules) = false ∧ ∃ es ep, s.heap.get? d = some x.2 ∧ x.2.ExactDict ∧ x.2.data = .dict es ep ∧ es.toList = x.1.map (entryOfKey (nestedKind X.prog X.w)) := by
  obtain ⟨q, _, _⟩ : ObjOk X.prog X.w H s.heap d (.ext fun h => (d == sysModules) = false ∧ ∃ es ep, h.get? d = some x.2 ∧ x.2.ExactDict ∧ x.2.data = .dict es ep ∧ es.toList = x.1.map (entryOfKey (nestedKind X.prog X.w))) := I.hok d _ e
  exact q
theorem key_is (I : Inv X pins σ H s) {v : V} {u : Value} {k : NK} (h : KeyAt X.K H v k) (r : RelV v u) : ∃ a, u = .ref a ∧ v = .ref a ∧ (nestedKind X.prog X.w).is s.heap k a := by
  obtain ⟨h1, h2, ks, rfl⟩ := h
  have n := nest_of I _ _ _ h1 r
  cases n with
  | @tup a o vs n ks e1 e2 e3 e4 =>
    refine ⟨a, rfl, ?_, .tup e1 e2 e3 e4, h2⟩
    cases v <;> first | (cases r; done) | skip
    all_goals first | (cases r; rfl) | (obtain ⟨_, z⟩ := r; cases z)
/-- x in d, x not in d -/
def rInN (P : Program) (w : World) (K : PySem.W.Frag) (neg : Bool) : R2 := fun x y H Q => ∃ (k : NK) (d : Addr) (kvs : List (NK × V)), y = .ref d ∧ KeyAt K H x k ∧ DicAt P w K H d kvs ∧ Q (.bl (if neg then !(lookN kvs k).isSome else (lookN kvs k).isSome)) H
theorem at_look {xs : List (NK × Addr × Value)} {k : NK} (p : Paired PairN kvs xs) : (valueAt (pairsH xs) k).isSome = (lookN kvs k).isSome := by
  rw [valueAt_pairsH]
  exact relO_isSome (paired_look k p)
theorem op_inN (hu : X.A.units + 100 < cLine) : OpR X (compareOp .In) (rInN X.prog X.w X.K false) := by
  intro pins s σ H x y v u Q I rx ry h
  obtain ⟨k, d, kvs, rfl, hk, hd, q⟩ := h
  cases ry
  obtain ⟨a, rfl, _, ha⟩ := key_is I hk rx
  obtain ⟨xs, ob, hm, hs, e, p, _⟩ := hd.raw I
  refine in_keyed (knd := nestedKind X.prog X.w) (show X.A.units + 1 + 8 < cLine by omega) ha hs ⟨xs, hm, rfl⟩ ?_
  rw [at_look p]
  exact ⟨.bl _, H, I.tok _, rfl, q⟩
theorem op_notinN (hu : X.A.units + 100 < cLine) : OpR X (compareOp .NotIn) (rInN X.prog X.w X.K true) := by
  intro pins s σ H x y v u Q I rx ry h
  obtain ⟨k, d, kvs, rfl, hk, hd, q⟩ := h
  cases ry
  obtain ⟨a, rfl, _, ha⟩ := key_is I hk rx
  obtain ⟨xs, ob, hm, hs, e, p, _⟩ := hd.raw I
  refine notIn_keyed (knd := nestedKind X.prog X.w) (show X.A.units + 1 + 8 < cLine by omega) ha hs ⟨xs, hm, rfl⟩ ?_
  rw [at_look p]
  exact ⟨.bl _, H, I.tok _, rfl, q⟩
/-- d[k], k there -/
def tDGetN (P : Program) (w : World) (K : PySem.W.Frag) (td ty : TE) : TE := fun σ H Q => td σ H fun x H1 => ty σ H1 fun y H2 => ∃ (d : Addr) (kvs : List (NK × V)) (k : NK) (v : V), x = .ref d ∧ DicAt P w K H2 d kvs ∧ KeyAt K H2 y k ∧ lookN kvs k = some v ∧ Q v H2
theorem pe_dgetN {o i : Expr} {td ty : TE} {pos : Pos} (hu : X.A.units + 100 < cLine) (ho : PE X o td) (hi : PE X i ty) (hs : NoSl i) : PE X (.Subscript o i pos) (tDGetN X.prog X.w X.K td ty) := by
  refine ⟨fun pins s σ H Q I h => ?_⟩
  refine subD_of PySem.F.slot_dict_getitem.lookup hs (thn (ho.run pins s σ H _ I h) fun u s1 ⟨x, H1, I1, rx, q1⟩ => thn (hi.run pins s1 σ H1 _ I1 q1) fun iv s2 ⟨y, H2, I2, ry, d, kvs, k, v, ex, hd, hk, hl, q2⟩ => ?_)
  subst ex
  obtain rfl : u = Value.ref d := rx
  obtain ⟨a, rfl, _, ha⟩ := key_is I2 hk ry
  obtain ⟨xs, ob, hm, hs', e, p, _⟩ := hd.raw I2
  have r := paired_look k p
  rw [hl] at r
  cases hv : (atKey xs k).map (·.2) with
  | none =>
    rw [hv] at r
    exact r.elim
  | some z =>
    rw [hv] at r
    exact ⟨hm.typeIs, getItem_keyed (knd := nestedKind X.prog X.w) (show X.A.units + 1 + 8 < cLine by omega) ha ⟨xs, hm, rfl⟩ (by rw [valueAt_pairsH]; exact hv) ⟨v, H2, I2.tok _, r, q2⟩⟩
/-- d[k] = v -/
def rSetN (P : Program) (w : World) (K : PySem.W.Frag) : TSet := fun o i v H Q => ∃ (d : Addr) (kvs : List (NK × V)) (k : NK), o = .ref d ∧ DicAt P w K H d kvs ∧ KeyAt K H i k ∧ kvs.length < 100000 ∧
  ∀ H', DicAt P w K H' d (putN kvs k v) → (∀ b, b ≠ d → H' b = H b) → Q H'
theorem set_dicN (hu : X.A.units + 100 < cLine) : PSet X (rSetN X.prog X.w X.K) := by
  intro pins s σ H o i v ov iv u Q I ro ri rv h
  obtain ⟨d, kvs, k, rfl, hd, hk, hz, q⟩ := h
  cases ro
  obtain ⟨a, rfl, ea, ha⟩ := key_is I hk ri
  obtain ⟨xs, ob, hm, hs, e, p, hks⟩ := hd.raw I
  have hl : xs.length = kvs.length := (Paired.length p).symm
  refine wpAny_setItem_heap (knd := nestedKind X.prog X.w) (hsz := by rw [hl]; exact Evl.sz_of (by omega)) (show X.A.units + 1 + 8 < cLine by omega) ha hm fun h' hm' sb => ?_
  obtain ⟨o', es, ep, h1, h2, h3, h4, h5, h6⟩ := hm'
  have ok : ObjOk X.prog X.w (upd H d (DicO X.prog X.w d (storedH xs k a u, o'))) h' d (DicO X.prog X.w d (storedH xs k a u, o')) := ⟨⟨hs, es, ep, h1, h2, h3, h4⟩, ⟨o', h1⟩, fun g1 g2 ⟨z, es, ep, e1, r⟩ st => ⟨z, es, ep, st _ e1, r⟩⟩
  have I' := I.write (e := d) (t' := s.toks + (nestedKind X.prog X.w).draws k) (by rw [e]; trivial) (.inl rfl) (fun b w hb hw => (sb.2 b hb).trans hw) ⟨o', h1⟩ ok
  have ht : ∀ b xs', SqT X.K H b xs' → SqT X.K (upd H d (DicO X.prog X.w d (storedH xs k a u, o'))) b xs' := fun b xs' hb => by
    rcases hb with (hb | ⟨oo, hb⟩) | hb
    · exact .inl (.inl (by rw [upd_ne (ne_of hb e (fun z => dicO_ne.2 _ z.symm))]; exact hb))
    · exact .inl (.inr ⟨oo, by rw [upd_ne (ne_of hb e (fun z => by unfold DicO at z; cases z))]; exact hb⟩)
    · exact .inr hb
  refine ⟨_, I', q _ ⟨(_, _), upd_same, paired_put k a rv p, fun x hx => ?_, h6, Nat.le_trans putN_len (by omega)⟩ fun b hb => upd_ne hb⟩
  unfold storedH at hx
  split at hx
  · obtain ⟨y, hy, rfl⟩ := List.mem_map.mp hx
    unfold putAt
    split
    · exact (hks y hy).up ht
    · exact (hks y hy).up ht
  · rcases List.mem_append.mp hx with hx | hx
    · exact (hks x hx).up ht
    · rw [List.mem_singleton] at hx
      subst hx
      rw [← ea]
      exact hk.up ht
/-- {} -/
def tDNewN (P : Program) (w : World) (K : PySem.W.Frag) : TE := fun _ H Q => ∀ p H', H p = none → (∀ b, b ≠ p → H' b = H b) → DicAt P w K H' p [] → Q (.ref p) H'
theorem pe_dnewN {pos : Pos} : PE X (.Dict [] [] pos) (tDNewN X.prog X.w X.K) := ⟨fun pins s σ H Q I h => by
  have hs : (s.heap.objs.size == sysModules) = false := beq_eq_false_iff_ne.mpr (Ne.symm (Nat.ne_of_lt I.big))
  have ok : ObjOk X.prog X.w (upd H s.heap.objs.size (DicO X.prog X.w s.heap.objs.size ([], { cls := .type "dict", data := .dict #[] }))) (s.heap.push { cls := .type "dict", data := .dict #[] }) s.heap.objs.size (DicO X.prog X.w s.heap.objs.size ([], { cls := .type "dict", data := .dict #[] })) :=
    ⟨⟨hs, #[], 0, Heap.get?_push_size _ rfl, ⟨rfl, rfl, rfl⟩, rfl, rfl⟩, ⟨_, Heap.get?_push_size _ rfl⟩, fun g1 g2 ⟨z, es, ep, e1, r⟩ st => ⟨z, es, ep, st _ e1, r⟩⟩
  exact wpAny_Dict_empty ⟨.ref s.heap.objs.size, _, I.laid (a := s.heap.objs.size) (t' := s.toks) (fun _ _ q => Heap.get?_push_of_some _ q) (Nat.le_refl _) ok, rfl,
    h _ _ (I.hok.fresh (Nat.le_refl _)) (fun b hb => upd_ne hb) ⟨([], _), upd_same, .nil, fun x hx => (by cases hx), List.nodup_nil, Nat.zero_le _⟩⟩⟩
end
end Ink
namespace Ink
open PySem PySem.Spec PyProof.Rows L2
/-! ### enumerate(t), t a tuple -/
set_option maxHeartbeats 8000000 in
theorem enum_one {v : Value} {o : Obj} {G : Heap → Prop} (B : Begins v o G) : Meets (Builtin.«enumerate.__new__» ⟨[.type "enumerate", v], []⟩) (fun _ R s => G s.heap ∧
    R (.ok (.ret (.ref (s.heap.push o).objs.size))) { s with heap := (s.heap.push o).push { cls := .type "enumerate", data := .fields #[.none, .bool false, .ref s.heap.objs.size, rawInt 0, .none, .none] } }) :=
  .of_wp fun prog w A R s hw => by
    obtain ⟨hp, gs, dr, tk, os⟩ := s
    obtain ⟨hG, hR⟩ := hw
    have hsub := sub_enumerate
    have it : ∀ {A' : Around} {E : Value → Shared → Prop} {Q : Value → Shared → Prop}, Q (.ref hp.objs.size) ⟨hp.push o, gs, dr, tk, os⟩ → wpAny (model prog w) A' (pyIter v) Q E ⟨hp, gs, dr, tk, os⟩ := fun q => B.iter prog w _ _ ⟨hp, gs, dr, tk, os⟩ _ hG q
    wp_walk using it
    refine wpAny_stack_any fun st => wpAny_pure ?_
    split
    · rename_i c _ _ _ _ _
      cases (c == Value.type "enumerate") <;> (wp_walk using it; exact ⟨_, rfl, hR⟩)
    · wp_walk using it
      exact ⟨_, rfl, hR⟩
section
variable {prog : Program} {w : World} {A : Around} {E : Value → Shared → Prop} {s : Shared}
theorem enum_call {v : Value} {o : Obj} {G : Heap → Prop} {Q : Value → Shared → Prop} (B : Begins v o G) (hG : G s.heap)
    (h : ∀ h', IsEnum h' (s.heap.objs.size + 1) s.heap.objs.size 0 .none → h'.get? s.heap.objs.size = some o → (∀ b u, s.heap.get? b = some u → h'.get? b = some u) → Q (.ref (s.heap.objs.size + 1)) { s with heap := h' }) :
    wpAny (model prog w) A (call (.type "enumerate") [v]) Q E s := by
  refine callType_new F.called_enumerate (by decide) (F.typeCall_enumerate_1 _) (F.newCall_enumerate_1 _) (fun obj => F.args_object_init_2 obj _) F.entry_enumerate_new (enum_one B) ⟨hG, ?_⟩
  have hz : (s.heap.push o).objs.size = s.heap.objs.size + 1 := Heap.size_push ..
  show _ ∧ _
  rw [hz]
  have he := Heap.get?_push_size (s.heap.push o) (o := { cls := .type "enumerate", data := .fields #[.none, .bool false, .ref s.heap.objs.size, rawInt 0, .none, .none] }) rfl
  rw [hz] at he
  exact ⟨⟨_, he, rfl⟩, h _ he (Heap.get?_push_of_some _ (Heap.get?_push_size _ B.free)) fun b u x => Heap.get?_push_of_some _ (Heap.get?_push_of_some _ x)⟩
end
/-- the tuple at a, each item in a new pair with its place -/
def IteT (K : PySem.W.Frag) (a : Addr) : It :=
  ⟨fun i H => ∃ (xs : List V) (x : V), SqT K H a xs ∧ xs[i]? = some x, fun i H v H' => ∃ T x, v = .ref T ∧ H T = none ∧ H' = upd H T (.tup [.int (i : Nat), x]) ∧ ∀ xs, SqT K H a xs → xs[i]? = some x, fun i H => ∃ xs : List V, SqT K H a xs ∧ xs.length = i⟩
theorem walk_enumT {K : PySem.W.Frag} {a : Addr} {xs : List V} : Walk (IteT K a) xs.length (fun H => SqT K H a xs) (YPair (fun i => some (.int (i : Nat))) (fun i => xs[i]?)) := by
  refine ⟨fun i _ hi q => ⟨xs, xs[i], q, List.getElem?_eq_getElem hi⟩, fun _ q => ⟨xs, q, rfl⟩, fun i H v H' _ q y => ?_⟩
  obtain ⟨T, x, h1, h2, h3, h4⟩ := y
  exact ⟨T, _, x, h1, h2, h3, rfl, h4 xs q⟩
theorem turn_enumT {P : Program} {w : World} {K : PySem.W.Frag} {elts : List Expr} {kk : Nat} {tpos : Pos} (a e it : Addr) (nit : a ≠ it) (nea : e ≠ a) (nei : e ≠ it) :
    Turn P w K (.Tuple elts kk tpos) (IteT K a) [e, it] e (fun i h => (∃ old, IsEnum h e it ((i : Nat) : Int) old) ∧ h.IsTupleIter it a i) where
  mem := List.mem_cons_self ..
  obj i h st b hb := by
    obtain ⟨⟨old, he⟩, o, ho, hc, hd⟩ := st
    rcases List.mem_cons.mp hb with z | z
    · rw [z]
      exact ⟨_, he, fun v q => nomatch q⟩
    · rw [List.mem_singleton.mp z]
      exact ⟨o, ho, fun v q => by rw [hd] at q; cases q⟩
  keep i h h' st k := by
    obtain ⟨⟨old, he⟩, hi⟩ := st
    exact ⟨⟨old, k e (List.mem_cons_self ..) _ he⟩, hi.at fun o q => k it (List.mem_cons_of_mem _ (List.mem_cons_self ..)) o q⟩
  item := by
    intro X hP hw hK hc i pins s σ H E I hf st hg
    subst hP hw hK
    obtain ⟨⟨old, he⟩, hit⟩ := st
    obtain ⟨ys, x, hq, hx⟩ := hg
    obtain ⟨its, ry, tp, hz⟩ := I.tuple hq
    obtain ⟨u, hu, ru⟩ := ry.get hx
    have hui : its.toArray[i]? = some u := by rw [List.getElem?_toArray]; exact hu
    have hlt : i < its.toArray.size := (Array.getElem?_eq_some_iff.mp hui).1
    have hel : e < s.heap.objs.size := Heap.lt_size he
    have hil : it < s.heap.objs.size := by
      obtain ⟨_, q, _⟩ := hit
      exact Heap.lt_size q
    have hD := Draws.tuple (prog := X.prog) (w := X.w) (A := X.A.in1) (I.ok.hd hc) it a nit its.toArray
    refine wpAny_pyNext_enum_itemD hD he ⟨hit, tp⟩ hlt nei (fun m => by
      rcases List.mem_cons.mp m with z | z
      · exact nei z
      · exact nea (List.mem_singleton.mp z)) fun u' h' tk hP ho hst hT hsz hk => ?_
    have hP : its.toArray[i]? = some u' := hP
    rw [hui] at hP
    cases hP
    refine ⟨_, rfl, wpAny_letOwnedTupleGo_enum (s := { s with heap := h', toks := tk + 1 }) ho fun h2 he2 sb => ?_⟩
    have hT2 : h2.get? s.heap.objs.size = some { cls := .type "tuple", data := .seq #[.int i tk, u] } := (sb.2 _ (Nat.ne_of_gt hel)).trans hT
    have new : ObjOk X.prog X.w (upd H s.heap.objs.size (.tup [.int (i : Nat), x])) h2 s.heap.objs.size (.tup [.int (i : Nat), x]) :=
      ⟨by show 2 ≤ sizeLine; decide, [.int i tk, u], .cons ⟨_, rfl⟩ (.cons ru .nil), ⟨_, hT2, rfl, _, rfl⟩⟩
    have I1 : Inv X pins σ (upd H s.heap.objs.size (.tup [.int (i : Nat), x])) { s with heap := h2, toks := tk + 1 } :=
      I.turnedNew (ch := [e, it]) (fun b ob hb q => (sb.2 b (fun z => hb (by simp [z]))).trans (hk b ob (fun z => hb (by simp [z])) (fun z => hb (by simp [z])) q)) hf (Nat.le_refl _) new
    refine ⟨.ref s.heap.objs.size, _, I1, rfl, ⟨_, x, rfl, I.hok.fresh (Nat.le_refl _), rfl, fun zs hy => by rw [I.tuple_inj hy hq]; exact hx⟩, ⟨⟨u, ?_⟩, hst.1.at fun o q => (sb.2 it (Ne.symm nei)).trans q⟩, fun b hb => ?_⟩
    · rw [show ((i + 1 : Nat) : Int) = (i : Int) + 1 by omega]
      exact he2
    · have hb' : b < s.heap.objs.size := by
        rcases List.mem_cons.mp hb with z | z
        · rw [z]
          exact hel
        · rw [List.mem_singleton.mp z]
          exact hil
      rw [upd_ne (Nat.ne_of_lt hb')]
      exact (hf b hb).1
  done := by
    intro X hP hw hK hc i pins s σ H E I hf st hg
    subst hP hw hK
    obtain ⟨⟨old, he⟩, hit⟩ := st
    obtain ⟨ys, hq, hx⟩ := hg
    obtain ⟨its, ry, tp, hz⟩ := I.tuple hq
    obtain ⟨f0, f1, f2, f3, f4, f5⟩ := hf it (List.mem_cons_of_mem _ (List.mem_cons_self ..))
    have hn : its.toArray.size = i := by
      rw [List.size_toArray, ← ry.length]
      exact hx
    have hD := Draws.tuple (prog := X.prog) (w := X.w) (A := X.A.in1) (I.ok.hd hc) it a nit its.toArray
    exact wpAny_pyNext_enum_endD hD he ⟨by rw [hn]; exact hit, tp⟩ fun h' eb => ⟨rfl, I.turned (t' := s.toks) (fun b o hb q => eb b o hb q) f0 f1 f3 f4 f5⟩
  self A i s Q E st h := by
    obtain ⟨⟨_, he⟩, _⟩ := st
    exact wpAny_pyIter_enum he h
def iEnumT (K : PySem.W.Frag) (ta : TA) : TI := fun σ H R => ta σ H fun vs H1 => ∃ a xs, vs = [.ref a] ∧ SqT K H1 a xs ∧ R (IteT K a) H1
theorem pi_enumT {X : Cx} {e : Expr} {ta : TA} {p pos tpos : Pos} {elts : List Expr} {kk : Nat} (hg : Gl X "enumerate") (hm : X.mg "enumerate" = none) (ha : PA X [e] ta) (hs : starEach [e] X.env = [(false, eval e X.env)] := by rfl) :
    PI X (.Tuple elts kk tpos) (.Call (.Name "enumerate" p) [e] [] pos) (iEnumT X.K ta) := by
  refine ⟨fun pins s σ H R I h => ?_⟩
  refine Call_ (ld_blt I hg hm boot_enumerate (PyProof.Rows.callWith_type1 (thn (ha.run pos pins s σ H _ I h) fun us s1 ⟨vs, H1, I1, r1, a, xs, ev, hq, q⟩ => ?_) hs rfl))
  subst ev
  rw [Vals.ref1 r1]
  obtain ⟨its, ry, tp, hz⟩ := I1.tuple hq
  have hal : a < s1.heap.objs.size := by
    obtain ⟨o, ho, _⟩ := tp
    exact Heap.lt_size ho
  refine enum_call (begins_tuple a its.toArray) tp fun h' he hit hk => wpAny_pyIter_enum he ?_
  have I2 : Inv X pins σ H1 { s1 with heap := h' } := I1.kept (t' := s1.toks) hk
  refine ⟨s1.heap.objs.size + 1, [s1.heap.objs.size + 1, s1.heap.objs.size], _, _, H1, rfl, I2, turn_enumT a (s1.heap.objs.size + 1) s1.heap.objs.size (Nat.ne_of_lt hal) (Nat.ne_of_gt (Nat.lt_succ_of_lt hal)) (Nat.succ_ne_self _), ⟨⟨.none, he⟩, ⟨_, hit, rfl, rfl⟩⟩, fun b hb => ?_, q⟩
  have hle : s1.heap.objs.size ≤ b := by
    rcases List.mem_cons.mp hb with z | z
    · rw [z]
      exact Nat.le_succ _
    · rw [List.mem_singleton.mp z]
      exact Nat.le_refl _
  exact I1.fpOk hle (I1.hok.fresh hle)
open Evl
/-- the pairs (place, thing) -/
def enumD (ds : List PyData) : List PyData := (List.range ds.length).map fun (i : Nat) => PyData.tuple [.int (i : Int), ds.getD i .none]
theorem enumD_get {ds : List PyData} {i : Nat} {d : PyData} (h : ds[i]? = some d) : (enumD ds)[i]? = some (.tuple [.int (i : Int), d]) := by
  unfold enumD
  rw [List.getElem?_map, List.getElem?_range (List.getElem?_eq_some_iff.mp h).1]
  show some (PyData.tuple [.int (i : Int), ds.getD i .none]) = _
  rw [List.getD_eq_getElem?_getD, h]
  rfl
theorem ei_enumT {K : PySem.W.Frag} {σ : L2.St} {H : Hp} {te : TE} {ds : List PyData} (h : EvD K te σ H (.tuple ds)) : EvI K (iEnumT K (tCons te tNil)) σ H (enumD ds) := fun H1 e R q => h H1 e _ fun v H2 e2 hd => by
  obtain ⟨p, xs, rfl, hs, hxs⟩ := dp_tup hd
  refine ⟨p, xs, rfl, hs, q _ H2 e2 ?_⟩
  have hl : (enumD ds).length = xs.length := by
    unfold enumD
    rw [List.length_map, List.length_range, hxs.length]
  rw [hl]
  refine (walk_enumT (xs := xs)).mono (fun H3 e3 => ex_t e3 hs) fun i Ha x Hb hi e3 hy => ?_
  obtain ⟨T, x1, y1, rfl, nT, rfl, hx, hy⟩ := hy
  cases hx
  obtain ⟨dy, h3, h4⟩ := hxs.at hy
  exact ⟨Ex.new nT, _, enumD_get h3, .tup (.of upd_same) (.cons (.int _) (.cons (dp_same (e3.trans (Ex.new nT)) h4) .nil))⟩
theorem ei_enum {K : PySem.W.Frag} {σ : L2.St} {H : Hp} {te : TE} {ds : List PyData} (h : EvD K te σ H (.list ds)) : EvI K (iEnum K (tCons te tNil)) σ H (enumD ds) := fun H1 e R q => h H1 e _ fun v H2 e2 hd => by
  obtain ⟨p, xs, rfl, hs, hxs⟩ := dp_lst hd
  refine ⟨p, xs, rfl, hs, q _ H2 e2 ?_⟩
  have hl : (enumD ds).length = xs.length := by
    unfold enumD
    rw [List.length_map, List.length_range, hxs.length]
  rw [hl]
  refine (walk_enum (xs := xs)).mono (fun H3 e3 => ex_l e3 hs) fun i Ha x Hb hi e3 hy => ?_
  obtain ⟨T, x1, y1, rfl, nT, rfl, hx, hy⟩ := hy
  cases hx
  obtain ⟨dy, h3, h4⟩ := hxs.at hy
  exact ⟨Ex.new nT, _, enumD_get h3, .tup (.of upd_same) (.cons (.int _) (.cons (dp_same (e3.trans (Ex.new nT)) h4) .nil))⟩
end Ink
namespace Ink
open PySem PySem.Spec PyProof.Rows L2
/-! ### t * k, k any number of times from none on -/
theorem mul_once (l : Addr) (items : Array Value) (n : Nat) (dd : Option Addr) (sl : Array (Option Value)) (u : Tok) :
    Meets (Builtin.«tuple.__mul__» ⟨[.ref l, .int 1 u], []⟩) (fun _ R s => s.heap.get? l = some { cls := .type "tuple", dict := dd, data := .seq items n, slots := sl } ∧ R (.ok (.ret (Value.ref l))) s) :=
  .of_wp fun prog w A R s h => by
    obtain ⟨hp, g, d, tk, os⟩ := s
    obtain ⟨hl, h⟩ := h
    have f1 := AutoSeq1.idx_int
    wp_walk using AutoSeq1.wpAny_loadPart' hl
    repeat (first
      | (refine wpAny_ite_false (by decide) ?_; wp_walk using AutoSeq1.wpAny_loadPart' hl)
      | (refine wpAny_ite_true (by simp) ?_; wp_walk using AutoSeq1.wpAny_loadPart' hl))
    exact ⟨_, rfl, h⟩
theorem mul_none (l : Addr) (items : Array Value) (n : Nat) (dd : Option Addr) (sl : Array (Option Value)) (u : Tok) (hi : items.isEmpty = false) :
    Meets (Builtin.«tuple.__mul__» ⟨[.ref l, .int 0 u], []⟩) (fun _ R s => s.heap.get? l = some { cls := .type "tuple", dict := dd, data := .seq items n, slots := sl } ∧
      R (.ok (.ret (Value.ref s.heap.objs.size))) { s with heap := s.heap.push { cls := .type "tuple", data := .seq #[] } }) :=
  .of_wp fun prog w A R s h => by
    obtain ⟨hp, g, d, tk, os⟩ := s
    obtain ⟨hl, h⟩ := h
    have f1 := AutoSeq1.idx_int
    wp_walk using AutoSeq1.wpAny_loadPart' hl
    repeat (first
      | (refine wpAny_ite_false (by decide) ?_; wp_walk using AutoSeq1.wpAny_loadPart' hl)
      | (refine wpAny_ite_false (by rw [hi]; decide) ?_; wp_walk using AutoSeq1.wpAny_loadPart' hl)
      | (refine wpAny_ite_true (by decide) ?_; wp_walk using AutoSeq1.wpAny_loadPart' hl))
    exact ⟨_, rfl, h⟩
/-- (x,) * n -/
def rRep (K : PySem.W.Frag) : R2 := fun x y H Q => ∃ (l : Addr) (v : V) (n : Nat), x = .ref l ∧ y = .int (n : Int) ∧ SqT K H l [v] ∧ n ≤ 1000 ∧ (n = 1 → Q (.ref l) H) ∧ (n ≠ 1 → ∀ p, H p = none → Q (.ref p) (upd H p (.tup (List.replicate n v))))
theorem op_rep {X : Cx} : OpR X (binaryOp .Mult) (rRep X.K) := by
  intro pins s σ H x y v u Q I rx ry h
  obtain ⟨l, v0, n, rfl, rfl, hT, hn, q1, q2⟩ := h
  by_cases h2 : 2 ≤ n
  · refine op_repT pins s σ H _ _ v u Q I rx ry ⟨l, (n : Int), [v0], rfl, rfl, hT, by simp, by omega, by omega, by show 1 ≤ 1000; decide, fun p np => ?_⟩
    have e : (List.replicate (n : Int).toNat [v0]).flatten = List.replicate n v0 := by
      rw [Int.toNat_natCast]
      clear q1 q2 h2 hn ry
      induction n with
      | zero => rfl
      | succ n ih => rw [List.replicate_succ, List.flatten_cons, ih]; rfl
    rw [e]
    exact q2 (by omega) p np
  · cases rx
    obtain ⟨t, rfl⟩ := ry
    obtain ⟨its, r, ⟨⟨cls, dd, data, sl⟩, ho, hc, m, hd⟩, hs⟩ := I.tuple hT
    simp only at hc hd
    subst hc hd
    have hi : its.toArray.isEmpty = false := by
      cases r with
      | cons _ _ => rfl
    by_cases h1 : n = 1
    · subst h1
      exact wpAny_binaryOp_repeat_ref (T := "tuple") (U := "int") (by decide) ⟨_, ho, rfl⟩ (fun s' => typeIs_int s' _ t) noFill_tuple_mul F.fills_int_mul F.slot_int_rmul repeat_tuple F.slot_int_index.lookup
        (call_meets F.slot_int_rmul (typeIs_int s _ t) F.entry_int_rmul (F.args_int_rmul_2 _ _) (int_rmul_tuple _ t l its.toArray m dd sl)
          ⟨ho, rfl, ⟨_, ho, rfl⟩, call_meets F.slot_tuple_mul ⟨_, ho, rfl⟩ F.entry_tuple_mul (F.args_tuple_mul_2 _ _) (mul_once l its.toArray m dd sl t) ⟨ho, .ref l, H, I, rfl, q1 rfl⟩⟩)
    · obtain rfl : n = 0 := by omega
      exact wpAny_binaryOp_repeat_ref (T := "tuple") (U := "int") (by decide) ⟨_, ho, rfl⟩ (fun s' => typeIs_int s' _ t) noFill_tuple_mul F.fills_int_mul F.slot_int_rmul repeat_tuple F.slot_int_index.lookup
        (call_meets F.slot_int_rmul (typeIs_int s _ t) F.entry_int_rmul (F.args_int_rmul_2 _ _) (int_rmul_tuple _ t l its.toArray m dd sl)
          ⟨ho, rfl, ⟨_, ho, rfl⟩, call_meets F.slot_tuple_mul ⟨_, ho, rfl⟩ F.entry_tuple_mul (F.args_tuple_mul_2 _ _) (mul_none l its.toArray m dd sl t hi)
            ⟨ho, .ref s.heap.objs.size, _, I.laid (t' := s.toks) (o := .tup []) (fun b ob q => Heap.get?_push_of_some _ q) (Nat.le_refl _) ⟨Nat.zero_le _, [], .nil, IsTup.new _ _⟩, rfl, q2 (by omega) _ (I.hok.fresh (Nat.le_refl _))⟩⟩)
open Evl
theorem dps_rep {K : PySem.W.Frag} {H : Hp} {v : V} {d : PyData} (h : Dp K H v d) : ∀ n, DpAll K H (List.replicate n v) (List.replicate n d)
  | 0 => .nil
  | n + 1 => .cons h (dps_rep h n)
theorem ed_rep {K : PySem.W.Frag} {σ : L2.St} {H : Hp} {ta tb : TE} {d : PyData} {n : Nat} (ha : EvD K ta σ H (.tuple [d])) (hb : Ev tb σ H (.int (n : Int))) (hn : n ≤ 1000) : EvD K (tOp (rRep K) ta tb) σ H (.tuple (List.replicate n d)) := fun H1 e Q q =>
  ha H1 e _ fun v H2 e2 hv => hb H2 (e.trans e2) _ fun H3 e3 => by
    obtain ⟨p, xs, rfl, hs, hxs⟩ := dp_tup (dp_same e3 hv)
    obtain ⟨v1, rfl, h1⟩ := dps1 hxs
    refine ⟨p, v1, n, rfl, rfl, hs, hn, fun hn1 => ?_, fun _ p' np => ?_⟩
    · subst hn1
      exact q _ H3 (e2.trans e3) (.tup hs hxs)
    · refine q _ _ ((e2.trans e3).trans (Ex.new np)) (.tup (.of upd_same) ?_)
      have h2 := dp_same (Ex.new (o := .tup (List.replicate n v1)) np) h1
      exact dps_rep h2 n
end Ink
namespace Ink
open PySem PySem.Spec PyProof.Rows L2 Evl
section
variable {K : PySem.W.Frag} {σ : L2.St} {H H' : Hp} {ta tb te tc : TE} {t : TT} {d d1 d2 : PyData} {ds es : List PyData} {v : V} {i : Nat}
/-! ### more of data: tuples joined, cut, starred; lists of numbers and of bools -/
theorem ed_catA (ha : EvD K ta σ H (.tuple ds)) (hb : EvD K tb σ H (.tuple es)) (hz : ds.length + es.length ≤ 100000) : EvD K (tOp (rCatA K) ta tb) σ H (.tuple (ds ++ es)) := fun H1 e Q q =>
  ha H1 e _ fun v H2 e2 hv => hb H2 (e.trans e2) _ fun w H3 e3 hw => by
    obtain ⟨p, xs, rfl, hs, hxs⟩ := dp_tup (dp_same e3 hv)
    obtain ⟨p', ys, rfl, hs', hys⟩ := dp_tup hw
    have l1 := hxs.length
    have l2 := hys.length
    refine ⟨p, p', xs, ys, rfl, rfl, hs, hs', sz_of (by omega), fun h0 => ?_, fun h0 h1 => ?_, fun h0 h1 p2 np => ?_⟩
    · subst h0
      cases hxs
      exact q _ H3 (e2.trans e3) (.tup hs' hys)
    · subst h1
      cases hys
      refine q _ H3 (e2.trans e3) (.tup hs ?_)
      rw [List.append_nil]
      exact hxs
    · exact q _ _ ((e2.trans e3).trans (Ex.new np)) (.tup (.of upd_same) (dps_same (Ex.new np) (hxs.app hys)))
/-- to a list that may change: a new one, or a known one -/
def EvM (K : PySem.W.Frag) (te : TE) (σ : L2.St) (H : Hp) (ds : List PyData) : Prop := ∀ H1, Ex H H1 → ∀ Q : VK, (∀ p vs H2, Ex H1 H2 → H2 p = some (.lst vs) → DpAll K H2 vs ds → Q (.ref p) H2) → te σ H1 Q
theorem EvN.m (h : EvN K te σ H ds) : EvM K te σ H ds := fun H1 e Q q => h H1 e Q fun p vs H2 _ e2 hp hd => q p vs H2 e2 hp hd
theorem em_var {p : Addr} {xs : List V} (hs : σ[i]? = some (some (.ref p))) (hp : H p = some (.lst xs)) (hd : DpAll K H xs ds) : EvM K (tVar i) σ H ds := fun H1 e Q q => ⟨.ref p, hs, q p xs H1 (Ex.refl H1) (e _ _ hp) (dps_same e hd)⟩
theorem en_cat (ha : EvM K ta σ H ds) (hb : EvM K tb σ H es) (hz : ds.length + es.length ≤ 100000) : EvN K (tOp rCat ta tb) σ H (ds ++ es) := fun H1 e Q q =>
  ha H1 e _ fun p xs H2 e2 hp hxs => hb H2 (e.trans e2) _ fun p' ys H3 e3 hp' hys => by
    have l1 := hxs.length
    have l2 := hys.length
    exact ⟨p, p', xs, ys, rfl, rfl, e3 _ _ hp, hp', sz_of (by omega), fun p2 np => q p2 _ _ (fresh_back (e2.trans e3) np) ((e2.trans e3).trans (Ex.new np)) upd_same (dps_same (Ex.new np) ((dps_same e3 hxs).app hys))⟩
theorem vcut_to (xs : List V) (k : Nat) : cutV xs none (some (k : Int)) = xs.take k := by
  unfold cutV
  rw [HT.sIx_none, HT.sIx_nat, List.drop_zero, Nat.sub_zero]
  by_cases h : k ≤ xs.length
  · rw [Nat.min_eq_left h]
  · rw [Nat.min_eq_right (by omega), List.take_of_length_le (Nat.le_refl _), List.take_of_length_le (by omega)]
theorem vcut_from (xs : List V) (k : Nat) : cutV xs (some (k : Int)) none = xs.drop k := by
  unfold cutV
  rw [HT.sIx_none, HT.sIx_nat]
  by_cases h : k ≤ xs.length
  · rw [Nat.min_eq_left h, List.take_of_length_le (by rw [List.length_drop]; exact Nat.le_refl _)]
  · rw [Nat.min_eq_right (by omega), List.drop_of_length_le (Nat.le_refl _), List.drop_of_length_le (by omega), List.take_nil]
theorem ed_slTo {k : Nat} (h : EvD K te σ H (.tuple ds)) (hk : Ev tb σ H (.int (k : Int))) : EvD K (tSl (rSlA K) te tNoPart (tPart tb)) σ H (.tuple (ds.take k)) := fun H1 e Q q =>
  h H1 e _ fun v H2 e2 hv => hk H2 (e.trans e2) _ fun H3 e3 => ⟨(k : Int), rfl, by
    obtain ⟨p, xs, rfl, hs, hxs⟩ := dp_tup (dp_same e3 hv)
    have l1 := hxs.length
    refine ⟨p, xs, rfl, hs, fun h0 => ?_, fun h0 p2 np => ?_⟩
    · have h1 := h0.2
      rw [HT.sIx_nat] at h1
      exact q _ H3 (e2.trans e3) (.tup hs (by rw [List.take_of_length_le (by omega)]; exact hxs))
    · rw [vcut_to]
      exact q _ _ ((e2.trans e3).trans (Ex.new np)) (.tup (.of upd_same) (dps_same (Ex.new np) (hxs.take k)))⟩
theorem ed_slFrom {k : Nat} (h : EvD K te σ H (.tuple ds)) (hk : Ev tb σ H (.int (k : Int))) : EvD K (tSl (rSlA K) te (tPart tb) tNoPart) σ H (.tuple (ds.drop k)) := fun H1 e Q q =>
  h H1 e _ fun v H2 e2 hv => hk H2 (e.trans e2) _ fun H3 e3 => ⟨(k : Int), rfl, by
    obtain ⟨p, xs, rfl, hs, hxs⟩ := dp_tup (dp_same e3 hv)
    have l1 := hxs.length
    refine ⟨p, xs, rfl, hs, fun h0 => ?_, fun h0 p2 np => ?_⟩
    · have h1 := h0.1
      rw [HT.sIx_nat] at h1
      by_cases hk0 : k = 0
      · exact q _ H3 (e2.trans e3) (.tup hs (by rw [hk0, List.drop_zero]; exact hxs))
      · have : xs.length = 0 := by omega
        have : ds = [] := List.eq_nil_of_length_eq_zero (by omega)
        subst this
        exact q _ H3 (e2.trans e3) (.tup hs (by rw [List.drop_nil]; exact hxs))
    · rw [vcut_from]
      exact q _ _ ((e2.trans e3).trans (Ex.new np)) (.tup (.of upd_same) (dps_same (Ex.new np) (hxs.drop k)))⟩
theorem eds_star {tr : TA} (h : EvD K te σ H (.tuple ds)) (hr : EvDs K tr σ H es) : EvDs K (StX.tStar K te tr) σ H (ds ++ es) := fun H1 e Q q =>
  h H1 e _ fun v H2 e2 hv => by
    obtain ⟨p, xs, rfl, hs, hxs⟩ := dp_tup hv
    exact ⟨p, xs, rfl, .inl hs, hr H2 (e.trans e2) _ fun vs H3 e3 hds => q _ H3 (e2.trans e3) ((dps_same e3 hxs).app hds)⟩
theorem ed_tuple (h : EvD K te σ H (.list ds)) : EvD K (tCB (fun xs H Q => ∃ p ys, xs = [.ref p] ∧ ((SqL K H p ys ∧ ∀ l, H l = none → Q (.ref l) (upd H l (.tup ys))) ∨ (SqT K H p ys ∧ Q (.ref p) H))) (tCons te tNil)) σ H (.tuple ds) := fun H1 e Q q =>
  h H1 e _ fun v H2 e2 hv => by
    obtain ⟨p, xs, rfl, hs, hxs⟩ := dp_lst hv
    exact ⟨p, xs, rfl, .inl ⟨hs, fun l nl => q _ _ (e2.trans (Ex.new nl)) (.tup (.of upd_same) (dps_same (Ex.new nl) hxs))⟩⟩
theorem ed_tupleT (h : EvD K te σ H (.tuple ds)) : EvD K (tCB (fun xs H Q => ∃ p ys, xs = [.ref p] ∧ ((SqL K H p ys ∧ ∀ l, H l = none → Q (.ref l) (upd H l (.tup ys))) ∨ (SqT K H p ys ∧ Q (.ref p) H))) (tCons te tNil)) σ H (.tuple ds) := fun H1 e Q q =>
  h H1 e _ fun v H2 e2 hv => by
    obtain ⟨p, xs, rfl, hs, hxs⟩ := dp_tup hv
    exact ⟨p, xs, rfl, .inr ⟨hs, q _ _ e2 (.tup hs hxs)⟩⟩
theorem en_list (h : EvD K te σ H d) (hd : d = .list ds ∨ d = .tuple ds) : EvN K (tCB (fun xs H Q => ∃ p ys, xs = [.ref p] ∧ (SqL K H p ys ∨ SqT K H p ys) ∧ ∀ l, H l = none → Q (.ref l) (upd H l (.lst ys))) (tCons te tNil)) σ H ds := fun H1 e Q q =>
  h H1 e _ fun v H2 e2 hv => by
    rcases hd with rfl | rfl
    · obtain ⟨p, xs, rfl, hs, hxs⟩ := dp_lst hv
      exact ⟨p, xs, rfl, .inl hs, fun l nl => q l xs _ (fresh_back e2 nl) (e2.trans (Ex.new nl)) upd_same (dps_same (Ex.new nl) hxs)⟩
    · obtain ⟨p, xs, rfl, hs, hxs⟩ := dp_tup hv
      exact ⟨p, xs, rfl, .inr hs, fun l nl => q l xs _ (fresh_back e2 nl) (e2.trans (Ex.new nl)) upd_same (dps_same (Ex.new nl) hxs)⟩
theorem dps_bool : ∀ {vs : List V} {bs : List Bool}, DpAll K H vs (bs.map PyData.bool) → vs = bs.map V.bl
  | _, [], h => by cases h; rfl
  | _, b :: bs, h => by
    cases h with
    | cons h t =>
      rw [dp_bl h, dps_bool t]
      rfl
theorem ev_allD {bs : List Bool} (h : EvD K te σ H (.list (bs.map PyData.bool))) : Ev (tCB (rAll K) (tCons te tNil)) σ H (.bl (bs.all id)) := fun H1 e Q q =>
  h H1 e _ fun v H2 e2 hv => by
    obtain ⟨p, xs, rfl, hs, hxs⟩ := dp_lst hv
    rw [dps_bool hxs] at hs
    exact ⟨p, bs, rfl, hs, q H2 e2⟩
theorem ev_anyD {bs : List Bool} (h : EvD K te σ H (.list (bs.map PyData.bool))) : Ev (tCB (rAny K) (tCons te tNil)) σ H (.bl (bs.any id)) := fun H1 e Q q =>
  h H1 e _ fun v H2 e2 hv => by
    obtain ⟨p, xs, rfl, hs, hxs⟩ := dp_lst hv
    rw [dps_bool hxs] at hs
    exact ⟨p, bs, rfl, hs, q H2 e2⟩
theorem inV_ints (n : Int) : ∀ ns : List Int, inV (.int n) (ns.map V.int) = decide (n ∈ ns)
  | [] => rfl
  | m :: ns => by
    have ih := inV_ints n ns
    unfold inV at ih ⊢
    rw [List.map_cons, List.any_cons, ih]
    show ((m == n) || decide (n ∈ ns)) = decide (n ∈ m :: ns)
    rw [Bool.eq_iff_iff]
    simp only [Bool.or_eq_true, beq_iff_eq, decide_eq_true_eq, List.mem_cons]
    exact or_congr ⟨Eq.symm, Eq.symm⟩ Iff.rfl
theorem ev_inI {n : Int} {ns : List Int} {neg : Bool} (ha : Ev ta σ H (.int n)) (hb : EvD K tb σ H d) (hd : d = .list (ns.map PyData.int) ∨ d = .tuple (ns.map PyData.int)) : Ev (tOp (rIn K neg) ta tb) σ H (.bl (if neg then !decide (n ∈ ns) else decide (n ∈ ns))) := fun H1 e Q q =>
  ha H1 e _ fun H2 e2 => hb H2 (e.trans e2) _ fun v H3 e3 hv => by
    have fl : (ns.map V.int).all flatV = true := List.all_eq_true.mpr fun x hx => by
      obtain ⟨m, _, rfl⟩ := List.mem_map.mp hx
      rfl
    rcases hd with rfl | rfl
    · obtain ⟨p, xs, rfl, hs, hxs⟩ := dp_lst hv
      rw [dps_int hxs] at hs
      exact ⟨p, _, rfl, .inl hs, rfl, fl, by rw [inV_ints]; exact q H3 (e2.trans e3)⟩
    · obtain ⟨p, xs, rfl, hs, hxs⟩ := dp_tup hv
      rw [dps_int hxs] at hs
      exact ⟨p, _, rfl, .inr hs, rfl, fl, by rw [inV_ints]; exact q H3 (e2.trans e3)⟩
/-- int(b) -/
theorem ev_intB {b : Bool} (h : Ev te σ H (.bl b)) : Ev (tCB (fun xs H Q => (∃ i, xs = [.int i] ∧ Q (.int i) H) ∨ ∃ k, xs = [.bl k] ∧ Q (.int (if k then 1 else 0)) H) (tCons te tNil)) σ H (.int (if b then 1 else 0)) := fun H1 e Q q =>
  h H1 e _ fun H2 e2 => .inr ⟨b, rfl, q H2 e2⟩
/-- a list that is known by its place grows -/
theorem sd_app {D : Ends} {p : Addr} {xs : List V} (hs : σ[i]? = some (some (.ref p))) (hp : H p = some (.lst xs)) (h : EvD K te σ H d) (hz : xs.length < 100000) (k : ∀ v H1, Ex H H1 → Dp K H1 v d → D.nx σ (upd H1 p (.lst (xs ++ [v])))) :
    tDrop (tBM K "list" rAppend (tVar i) (tCons te tNil)) D σ H := ⟨.ref p, hs, .inl ⟨rfl, xs, .of hp⟩, h H (Ex.refl H) _ fun v H1 e hv => ⟨p, xs, v, rfl, rfl, e _ _ hp, sz_lt hz, k v H1 e hv⟩⟩
theorem sd_ext {D : Ends} {p : Addr} {xs : List V} (hs : σ[i]? = some (some (.ref p))) (hp : H p = some (.lst xs)) (h : EvN K te σ H ds) (hz : xs.length + ds.length ≤ 100000) (k : ∀ vs H1, Ex H H1 → DpAll K H1 vs ds → D.nx σ (upd H1 p (.lst (xs ++ vs)))) :
    tDrop (tBM K "list" rExtend (tVar i) (tCons te tNil)) D σ H := ⟨.ref p, hs, .inl ⟨rfl, xs, .of hp⟩, h H (Ex.refl H) _ fun q vs H1 nq e hq hv => ⟨p, q, xs, vs, rfl, rfl, e _ _ hp, hq, sz_of (by rw [hv.length]; exact hz), k vs H1 e hv⟩⟩
theorem sd_if {D : Ends} {b : Bool} {tu tw : TS} (h : EvT t σ H b) (h1 : b = true → ∀ H1, Ex H H1 → tu D σ H1) (h2 : b = false → ∀ H1, Ex H H1 → tw D σ H1) : tIfS t tu tw D σ H := s_if h h1 h2
end
end Ink
namespace L2
open PySem PySem.Spec PyProof.Rows
section
variable {X : Cx}
/-- xs + ys of lists that need not be written -/
def rCatL (K : PySem.W.Frag) : R2 := fun x y H Q => ∃ a b xs ys, x = .ref a ∧ y = .ref b ∧ SqL K H a xs ∧ SqL K H b ys ∧ xs.length + ys.length ≤ sizeLine ∧ ∀ p, H p = none → Q (.ref p) (upd H p (.lst (xs ++ ys)))
theorem op_catL : OpR X (binaryOp .Add) (rCatL X.K) := by
  intro pins s σ H x y v u Q I rx ry h
  obtain ⟨a, b, xs, ys, rfl, rfl, ha, hb, hz, q⟩ := h
  cases rx
  cases ry
  obtain ⟨its, r1, ⟨⟨cls, dd, data, sl⟩, n, ho, hc, hdd, hd⟩, z1⟩ := I.list ha
  obtain ⟨its2, r2, ⟨⟨cls2, dd2, data2, sl2⟩, n2, ho2, hc2, hdd2, hd2⟩, z2⟩ := I.list hb
  simp only at hc hd hc2 hd2
  subst hc hd hc2 hd2
  have l1 := r1.length
  have l2 := r2.length
  have e : its.toArray ++ its2.toArray = (its ++ its2).toArray := by simp
  refine concat_meets ⟨_, ho, rfl⟩ ⟨_, ho2, rfl⟩ noFill_list_add seq_list_add PySem.F.slot_list_add PySem.F.entry_list_add (PySem.F.args_list_add_2 _ _) (list_addW a b its.toArray its2.toArray n n2 dd dd2 sl sl2 (by rw [List.size_toArray, List.size_toArray]; omega)) ⟨ho, ho2, ?_⟩
  rw [e]
  exact ⟨.ref _, _, I.lnew (t' := s.toks) (r1.append r2) (by rw [List.length_append]; omega), rfl, q _ I.fresh⟩
end
end L2
namespace Ink
open PySem PySem.Spec PyProof.Rows L2 Evl
theorem en_catL {K : PySem.W.Frag} {σ : L2.St} {H : Hp} {ta tb : TE} {ds es : List PyData} (ha : EvD K ta σ H (.list ds)) (hb : EvD K tb σ H (.list es)) (hz : ds.length + es.length ≤ 100000) : EvN K (tOp (rCatL K) ta tb) σ H (ds ++ es) := fun H1 e Q q =>
  ha H1 e _ fun v H2 e2 hv => hb H2 (e.trans e2) _ fun w H3 e3 hw => by
    obtain ⟨p, xs, rfl, hp, hxs⟩ := dp_lst (dp_same e3 hv)
    obtain ⟨p', ys, rfl, hp', hys⟩ := dp_lst hw
    have l1 := hxs.length
    have l2 := hys.length
    refine ⟨p, p', xs, ys, rfl, rfl, hp, hp', by rw [sizeLine_eq]; omega, fun p2 np => ?_⟩
    exact q p2 _ _ (fresh_back (e2.trans e3) np) ((e2.trans e3).trans (Ex.new np)) upd_same (dps_same (Ex.new np) (hxs.app hys))
end Ink
namespace Ink
open PySem PySem.Spec PyProof.Rows L2 Evl
theorem hu9 {k : Nat} {A : Around} (hr : Room k A) : A.units + 100 < cLine := by
  have := hr.un
  omega
abbrev rLenV (K : PySem.W.Frag) : List V → Hp → VK → Prop := fun xs H Q => ∃ x n, xs = [x] ∧ LenV K x H n ∧ Q (.int n) H
/-- a method of the class at C -/
def MetC (P : Program) (w : World) (K : PySem.W.Frag) (mg : Str → Option Value) (base : Heap) (k : Nat) (C : Addr) (m : Str) (ps : List Str) (sp : Sp) : Prop :=
  ∃ f fd, FnOk P w K mg base CX0 k f fd ps sp ∧ Meth K C m f ∧ Cls K C ∧ Binds K fd ps []
/-- the class at C, called by its name with these values behind those that are written -/
def MakC (P : Program) (w : World) (K : PySem.W.Frag) (mg : Str → Option Value) (base : Heap) (k : Nat) (x : Str) (C : Addr) (ps : List Str) (dvs : List V) (sp : Sp) : Prop :=
  ∃ f fd ds, FnOk P w K mg base CX0 k f fd ps sp ∧ Mk K C f ∧ mg x = some (.ref C) ∧ Binds K fd ps ds ∧ Vals dvs ds
section
variable {X : Cx} {k : Nat} {C : Addr} {x m : Str} {ps : List Str} {dvs : List V} {sp : Sp} {p pos apos : Pos} {o e : Expr} {es : List Expr} {ta : TE} {t : TA}
theorem pe_methC {pl : Sem Bool} (he : PE X o ta) (c : MetC X.prog X.w X.K X.mg X.base k C m ps sp) (hr : Room k X.A) (ha : PA X (e :: es) t)
    (hst : starEach (e :: es) X.env = (false, eval e X.env) :: starEach es X.env := by rfl) (hpl : (backTo pos (starEach es X.env)).any (·.1) = false := by rfl)
    (ht : eval (.Call (.Attribute o m apos) (e :: es) [] pos) X.env = (do
      let ov ← eval o X.env
      standAt apos.atName
      let (f, first) ← holding [ov] (getMethod ov m pl)
      callWith pos f first (backTo pos (starEach (e :: es) X.env)) (backToKw pos (keywordEach [] X.env))) := by rfl)
    (hp : ∀ f fd, FnOk X.prog X.w X.K X.mg X.base CX0 k f fd ps sp → Passes CX0 X E0 := by exact fun _ _ _ => pass0) : PE X (.Call (.Attribute o m apos) (e :: es) [] pos) (tMeth C m sp [] E0 ta t) := by
  obtain ⟨f, fd, G, hm, hc, b⟩ := c
  exact pe_meth he hc hm G hr b .nil pass0 ha hst hpl ht
theorem pe_methC0 {pl : Sem Bool} (he : PE X o ta) (c : MetC X.prog X.w X.K X.mg X.base k C m ps sp) (hr : Room k X.A)
    (ht : eval (.Call (.Attribute o m apos) [] [] pos) X.env = (do
      let ov ← eval o X.env
      standAt apos.atName
      let (f, first) ← holding [ov] (getMethod ov m pl)
      callWith pos f first (backTo pos (starEach [] X.env)) (backToKw pos (keywordEach [] X.env))) := by rfl) : PE X (.Call (.Attribute o m apos) [] [] pos) (tMeth C m sp [] E0 ta tNil) := by
  obtain ⟨f, fd, G, hm, hc, b⟩ := c
  exact pe_meth0 he hc hm G hr b .nil pass0 ht
theorem pe_makeC (c : MakC X.prog X.w X.K X.mg X.base k x C ps dvs sp) (hr : Room (k + 1) X.A) (hg : Gl X x) (ha : PA X (e :: es) t) (hdb : (x == ("__debug__" : Str)) = false := by decide)
    (he : starEach (e :: es) X.env = (false, eval e X.env) :: starEach es X.env := by rfl) (hpl : (backTo pos (starEach es X.env)).any (·.1) = false := by rfl) : PE X (.Call (.Name x p) (e :: es) [] pos) (tMake C sp dvs E0 t) := by
  obtain ⟨f, fd, ds, G, M, g, b, hd⟩ := c
  exact pe_make M G hr hg g b hd pass0 ha hdb he hpl
theorem pe_makeC0 (c : MakC X.prog X.w X.K X.mg X.base k x C ps dvs sp) (hr : Room (k + 1) X.A) (hg : Gl X x) (hdb : (x == ("__debug__" : Str)) = false := by decide) : PE X (.Call (.Name x p) [] [] pos) (tMake C sp dvs E0 tNil) := by
  obtain ⟨f, fd, ds, G, M, g, b, hd⟩ := c
  exact pe_make0 M G hr hg g b hd pass0 hdb
end
/-- a constant of the module that is a tuple -/
def GlobT (K : PySem.W.Frag) (mg : Str → Option Value) (x : Str) (d : PyData) : Prop := ∃ a, mg x = some (.ref a) ∧ ∀ H, Dp K H (.ref a) d
def tGlobT (K : PySem.W.Frag) (d : PyData) : TE := fun _ H Q => ∀ a, (∀ H', Dp K H' (.ref a) d) → Q (.ref a) H
theorem pe_globT {X : Cx} {x : Str} {d : PyData} {pos : Pos} (hg : Gl X x) (hm : GlobT X.K X.mg x d) (hd : (x == ("__debug__" : Str)) = false := by decide) : PE X (.Name x pos) (tGlobT X.K d) := by
  obtain ⟨a, e, h⟩ := hm
  have p := pe_glob (X := X) (x := x) (pos := pos) (v := .ref a) hg e rfl hd
  exact ⟨fun pins s σ H Q I hq => p.run pins s σ H Q I (hq a h)⟩
theorem ed_globT {K : PySem.W.Frag} {σ : L2.St} {H : Hp} {d : PyData} : EvD K (tGlobT K d) σ H d := fun H1 e Q q a h => q (.ref a) H1 (Ex.refl H1) (h H1)
end Ink
namespace Ink
open PySem PySem.Spec PyProof.Rows L2 Evl
section
variable {K : PySem.W.Frag} {σ : L2.St} {H : Hp} {te : TE} {t : TT} {d1 d2 d3 : PyData} {x : V}
theorem tg2 {n1 n2 : Nat} {Q : L2.St → Hp → Prop} (hd : Dp K H x (.tuple [d1, d2])) (k : ∀ v1 v2, Dp K H v1 d1 → Dp K H v2 d2 → Q ((σ.set n1 (some v1)).set n2 (some v2)) H) : gTup K 2 (gCons (gName n1) (gCons (gName n2) gNil)) x σ H Q := by
  obtain ⟨p, xs, rfl, hs, hxs⟩ := dp_tup hd
  obtain ⟨v1, v2, rfl, h1, h2⟩ := dps2 hxs
  exact ⟨p, _, rfl, hs, rfl, _, _, rfl, _, _, rfl, rfl, k v1 v2 h1 h2⟩
theorem tg3 {n1 n2 n3 : Nat} {Q : L2.St → Hp → Prop} (hd : Dp K H x (.tuple [d1, d2, d3])) (k : ∀ v1 v2 v3, Dp K H v1 d1 → Dp K H v2 d2 → Dp K H v3 d3 → Q (((σ.set n1 (some v1)).set n2 (some v2)).set n3 (some v3)) H) : gTup K 3 (gCons (gName n1) (gCons (gName n2) (gCons (gName n3) gNil))) x σ H Q := by
  obtain ⟨p, xs, rfl, hs, hxs⟩ := dp_tup hd
  obtain ⟨v1, v2, v3, rfl, h1, h2, h3⟩ := dps3 hxs
  exact ⟨p, _, rfl, hs, rfl, _, _, rfl, _, _, rfl, _, _, rfl, rfl, k v1 v2 v3 h1 h2 h3⟩
theorem en_map {α : Type} {ti : TI} {g : TG} {vs : List Nat} (xs : List α) (enc : α → PyData) (f : α → PyData) (hi : EvI K ti σ H (xs.map enc)) (hz : xs.length ≤ 40000) (hf : ∀ a ∈ xs, fz (f a) = true)
    (ht : ∀ (i : Nat) (a : α) (H1 : Hp) (x : V), xs[i]? = some a → Ex H H1 → Dp K H1 x (enc a) → ∀ R : L2.St → Hp → Prop, (∀ σ2, wipe σ2 vs = wipe σ vs → EvD K te σ2 H1 (f a) → R σ2 H1) → g x (wipe σ vs) H1 R) :
    EvN K (tLc ti g tYes te vs) σ H (xs.map f) := by
  have h := en_lc (K := K) (t := tYes) (te := te) (σ := σ) (H := H) (ti := ti) (g := g) (vs := vs) xs enc (fun _ => true) f hi hz hf fun i a H1 x hx e hd R k => ht i a H1 x hx e hd R fun σ2 hw he => k σ2 hw et_yes fun _ => he
  rw [show xs.filter (fun _ => true) = xs from List.filter_eq_self.mpr fun _ _ => rfl] at h
  exact h
end
end Ink
namespace Ink
open PySem PySem.Spec PyProof.Rows L2 Evl
/-! ### loops over tuples that stand while lists change -/
def TupK (K : PySem.W.Frag) (H H' : Hp) : Prop := ∀ c xs, SqT K H c xs → SqT K H' c xs
theorem TupK.refl {K : PySem.W.Frag} (H : Hp) : TupK K H H := fun _ _ h => h
theorem TupK.trans {K : PySem.W.Frag} {H H1 H2 : Hp} (a : TupK K H H1) (b : TupK K H1 H2) : TupK K H H2 := fun c xs h => b c xs (a c xs h)
theorem TupK.of {K : PySem.W.Frag} {H H' : Hp} (e : Ex H H') : TupK K H H' := fun _ _ h => ex_t e h
/-- what is no tuple changes -/
theorem TupK.upd {K : PySem.W.Frag} {H : Hp} {a : Addr} {o o' : HO} (h : H a = some o) (n1 : ∀ xs, o ≠ .tup xs) (n2 : ∀ ob xs, o ≠ .frz ob (.tup xs)) : TupK K H (upd H a o') := fun c xs hc => by
  rcases hc with (hc | ⟨ob, hc⟩) | hc
  · exact .inl (.inl (by rw [upd_ne (ne_of hc h (fun z => n1 _ z.symm))]; exact hc))
  · exact .inl (.inr ⟨ob, by rw [upd_ne (ne_of hc h (fun z => n2 _ _ z.symm))]; exact hc⟩)
  · exact .inr hc
theorem TupK.lst {K : PySem.W.Frag} {H : Hp} {a : Addr} {xs : List V} {o' : HO} (h : H a = some (.lst xs)) : TupK K H (L2.upd H a o') := .upd h (fun _ z => by cases z) (fun _ _ z => by cases z)
theorem TupK.mut {K : PySem.W.Frag} {H H' : Hp} {a : Addr} {o' : HO} (k : TupK K H H') (h : H' a = none) : TupK K H (L2.upd H' a o') := k.trans (.of (Ex.new h))
theorem TupK.keep {K : PySem.W.Frag} {H H' : Hp} {a l : Addr} (b : BagAt H a l) (k : Keep a H H') : TupK K H H' := keep_t b k
section
variable {K : PySem.W.Frag} {σ : L2.St} {H H' : Hp} {te : TE} {ds : List PyData} {d : PyData} {v : V} {vs : List V} {D : Ends} {tu : TS} {ti : TI} {g : TG}
theorem dp_tk (k : TupK K H H') (f : fz d = true) (h : Dp K H v d) : Dp K H' v d := dp_fz k d v f h
theorem dps_tk (k : TupK K H H') (f : fzAll ds = true) (h : DpAll K H vs ds) : DpAll K H' vs ds := dps_fz k ds vs f h
/-- what is walked gives ds, as long as the tuples stand -/
def EvJ (K : PySem.W.Frag) (ti : TI) (σ : L2.St) (H : Hp) (ds : List PyData) : Prop := ∀ H1, Ex H H1 → ∀ R : It → Hp → Prop, (∀ J H2, Ex H1 H2 → Walk J ds.length (fun H' => TupK K H2 H') (fun i Ha x Hb => Ex Ha Hb ∧ ∃ d, ds[i]? = some d ∧ Dp K Hb x d) → R J H2) → ti σ H1 R
theorem ej_tup (h : EvD K te σ H (.tuple ds)) (f : fzAll ds = true) : EvJ K (iTup K te) σ H ds := fun H1 e R q => h H1 e _ fun v H2 e2 hd => by
  obtain ⟨p, xs, rfl, hs, hxs⟩ := dp_tup hd
  refine ⟨p, rfl, ⟨xs, hs⟩, q _ H2 e2 ?_⟩
  rw [← hxs.length]
  refine (walk_tup (xs := xs)).mono (fun H3 k3 => k3 _ _ hs) fun i Ha x Hb hi k3 hy => ?_
  obtain ⟨rfl, hx⟩ := hy
  obtain ⟨dx, h1, h2⟩ := hxs.at hx
  exact ⟨Ex.refl _, dx, h1, dp_tk k3 (fzAll_iff.mp f dx (List.mem_of_getElem? h1)) h2⟩
theorem ej_enumT (h : EvD K te σ H (.tuple ds)) (f : fzAll ds = true) : EvJ K (iEnumT K (tCons te tNil)) σ H (enumD ds) := fun H1 e R q => h H1 e _ fun v H2 e2 hd => by
  obtain ⟨p, xs, rfl, hs, hxs⟩ := dp_tup hd
  refine ⟨p, xs, rfl, hs, q _ H2 e2 ?_⟩
  have hl : (enumD ds).length = xs.length := by
    unfold enumD
    rw [List.length_map, List.length_range, hxs.length]
  rw [hl]
  refine (walk_enumT (xs := xs)).mono (fun H3 k3 => k3 _ _ hs) fun i Ha x Hb hi k3 hy => ?_
  obtain ⟨T, x1, y1, rfl, nT, rfl, hx, hy⟩ := hy
  cases hx
  obtain ⟨dy, h3, h4⟩ := hxs.at hy
  exact ⟨Ex.new nT, _, enumD_get h3, .tup (.of upd_same) (.cons (.int _) (.cons (dp_tk (k3.mut nT) (fzAll_iff.mp f dy (List.mem_of_getElem? h3)) h4) .nil))⟩
theorem ej_range {ta : TA} {n : Nat} (h : EvA ta σ H [.int (n : Int)]) (hn : n ≤ 100000) : EvJ K (iRng1 ta) σ H ((List.range n).map fun (i : Nat) => PyData.int (i : Int)) := fun H1 e R q => h H1 e _ fun H2 e2 => ⟨(n : Int), rfl, by omega, by omega, q _ H2 e2 (by
  rw [List.length_map, List.length_range, Int.toNat_natCast]
  refine walk_range0.mono (fun _ _ => True.intro) fun i Ha x Hb hi e3 hy => ?_
  obtain ⟨rfl, rfl⟩ := hy
  refine ⟨Ex.refl _, .int (i : Int), ?_, .int _⟩
  rw [List.getElem?_map, List.getElem?_range hi]
  rfl)⟩
theorem sd_for (hi : EvJ K ti σ H ds) (Pv : Hp → Nat → L2.St → Hp → Prop) (h0 : ∀ H2, Ex H H2 → Pv H2 0 σ H2) (hT : ∀ H2 i σ' H', Pv H2 i σ' H' → TupK K H2 H')
    (hs : ∀ H2 i d x σ' H' H'', Ex H H2 → ds[i]? = some d → Pv H2 i σ' H' → Ex H' H'' → Dp K H'' x d → g x σ' H'' fun σ2 H3 => tu { D with nx := Pv H2 (i + 1), ct := Pv H2 (i + 1), bk := D.nx } σ2 H3)
    (hd : ∀ H2 σ' H', Ex H H2 → Pv H2 ds.length σ' H' → D.nx σ' H') : tFor ti g tu D σ H :=
  hi H (Ex.refl H) _ fun J H2 e2 W => for_it W (Pv H2) (h0 H2 e2) (fun i σ' H' _ hP => hT H2 i σ' H' hP) (fun i x σ' Ha Hb hi hP hy => by
    obtain ⟨e3, d, h1, h2⟩ := hy
    exact hs H2 i d x σ' Ha Hb e2 h1 hP e3 h2) (fun σ' H' hP => hd H2 σ' H' e2 hP)
end
end Ink
namespace Ink
open PySem PySem.Spec PyProof.Rows L2
/-! ### companies: what the defs reckon -/
/-- a writer; a stand: places, waits, who wrote last, how many -/
abbrev Wr := Str × List Arw × Int × Int
abbrev Std := List Int × List Int × Int × Int
def dA (x : Arw) : PyData := .tuple [.int x.1, .str x.2.1, .int x.2.2]
def dW (w : Wr) : PyData := .tuple [.str w.1, .tuple (w.2.1.map dA), .int w.2.2.1, .int w.2.2.2]
def dMt (m : List Wr) : PyData := .tuple (m.map dW)
def dMl (m : List Wr) : PyData := .list (m.map dW)
def dI (ns : List Int) : PyData := .tuple (ns.map PyData.int)
def dS (s : Std) : PyData := .tuple [dI s.1, dI s.2.1, .tuple [.int s.2.2.1, .int s.2.2.2]]
def dStep (x : Str × Str × Std) : PyData := .tuple [.str x.1, .str x.2.1, dS x.2.2]
def wr (m : List Wr) (k : Nat) : Wr := m.getD k (Str.empty, [], 0, 0)
def pl (s : Std) (k : Nat) : Int := s.1.getD k 0
def wt (s : Std) (k : Nat) : Int := s.2.1.getD k 0
structure GoodM (m : List Wr) : Prop where
  len : m.length ≤ 3
  wr : ∀ w ∈ m, GoodW w.1 w.2.1 w.2.2.1 w.2.2.2
  nd : (m.map (·.1)).Nodup
/-- that writer has a patience and isn't done -/
def minds (m : List Wr) (s : Std) (k : Nat) : Bool := !decide (V.int (wr m k).2.2.1 = V.int 0) && decide (pl s k ∈ (wr m k).2.1.map (·.1))
def mayW (m : List Wr) (s : Std) (k : Nat) : Bool :=
  if (!decide (V.int (wr m k).2.2.2 = V.int 0) && (decide (V.int s.2.2.1 = V.int (k : Int)) && decide (s.2.2.2 ≥ (wr m k).2.2.2))) = true then false
  else (((List.range m.length).filter fun (j : Nat) => !decide (V.int (j : Int) = V.int (k : Int)) && minds m s j).map fun (j : Nat) => decide (wt s j < (wr m j).2.2.1)).all id
def behind (m : List Wr) (s : Std) (k : Nat) (to : Int) : Std :=
  (s.1.take k ++ to :: s.1.drop (k + 1), (List.range s.2.1.length).map (fun (j : Nat) => if (!decide (V.int (j : Int) = V.int (k : Int)) && minds m s j) = true then wt s j + 1 else 0),
    if V.int (wr m k).2.2.2 = V.int 0 then (-1, 0) else ((k : Int), if V.int s.2.2.1 = V.int (k : Int) then s.2.2.2 + 1 else 1))
/-- a sign, by whom, whereto -/
abbrev Mv := Str × Nat × Int
def dMv (x : Mv) : PyData := .tuple [.str x.1, .int (x.2.1 : Int), .int x.2.2]
def movesAt (m : List Wr) (s : Std) (k : Nat) : List Mv := if mayW m s k = true then ((wr m k).2.1.filter fun x => decide (V.int x.1 = V.int (pl s k))).map fun x => (x.2.1, k, x.2.2) else []
def moves (m : List Wr) (s : Std) : List Mv := (List.range m.length).flatMap (movesAt m s)
def leMv (a b : Mv) : Bool := PySem.W.dataLe false id (dMv a) (dMv b)
def stepsOf (m : List Wr) (s : Std) : List (Str × Str × Std) := ((moves m s).mergeSort leMv).map fun x => (x.1, (wr m x.2.1).1, behind m s x.2.1 x.2.2)
/-- as many places and waits as writers -/
structure Fits (m : List Wr) (s : Std) : Prop where
  l1 : s.1.length = m.length
  l2 : s.2.1.length = m.length
theorem GoodM.at {m : List Wr} (g : GoodM m) {k : Nat} (h : k < m.length) : GoodW (Ink.wr m k).1 (Ink.wr m k).2.1 (Ink.wr m k).2.2.1 (Ink.wr m k).2.2.2 := by
  unfold Ink.wr
  rw [List.getD_eq_getElem?_getD, List.getElem?_eq_getElem h]
  exact g.wr _ (List.getElem_mem h)
theorem wr_get {m : List Wr} {k : Nat} (h : k < m.length) : m[k]? = some (wr m k) := by
  unfold wr
  rw [List.getD_eq_getElem?_getD, List.getElem?_eq_getElem h]
  rfl
theorem getD_get {ns : List Int} {k : Nat} (h : k < ns.length) : ns[k]? = some (ns.getD k 0) := by
  rw [List.getD_eq_getElem?_getD, List.getElem?_eq_getElem h]
  rfl
theorem dW_get {m : List Wr} {k : Nat} (h : k < m.length) : (m.map dW)[(k : Int).toNat]? = some (dW (wr m k)) := by
  rw [Int.toNat_natCast, List.getElem?_map, wr_get h]
  rfl
theorem dI_get {ns : List Int} {k : Nat} (h : k < ns.length) : (ns.map PyData.int)[(k : Int).toNat]? = some (.int (ns.getD k 0)) := by
  rw [Int.toNat_natCast, List.getElem?_map, getD_get h]
  rfl
/-! frozen, of bounded depth -/
theorem fz_dI (ns : List Int) : fz (dI ns) = true := by
  unfold dI fz
  exact fz_map fun _ _ => by unfold fz; rfl
theorem fz_dA (x : Arw) : fz (dA x) = true := by
  unfold dA fz fzAll fzAll fzAll fzAll fz
  rfl
theorem fz_dS (s : Std) : fz (dS s) = true := by
  have h1 := fz_dI s.1
  have h2 := fz_dI s.2.1
  unfold dS
  simp only [fz, fzAll, h1, h2, Bool.and_true]
theorem fz_dW (w : Wr) : fz (dW w) = true := by
  have h : fzAll (w.2.1.map dA) = true := fz_map fun x _ => fz_dA x
  unfold dW
  simp only [fz, fzAll, h, Bool.and_true]
theorem fz_dStep (x : Str × Str × Std) : fz (dStep x) = true := by
  have h := fz_dS x.2.2
  unfold dStep
  simp only [fz, fzAll, h, Bool.and_true]
theorem fz_dMt (m : List Wr) : fz (dMt m) = true := by
  unfold dMt fz
  exact fz_map fun x _ => fz_dW x
theorem fz_dMv (x : Mv) : fz (dMv x) = true := by
  unfold dMv
  simp only [fz, fzAll, Bool.and_true]
theorem moves_len {m : List Wr} (g : GoodM m) (s : Std) : (moves m s).length ≤ 27 := by
  unfold moves
  have h : ∀ k ∈ List.range m.length, (movesAt m s k).length ≤ 9 := fun k hk => by
    unfold movesAt
    split
    · rw [List.length_map]
      have h1 := List.length_filter_le (fun x : Arw => decide (V.int x.1 = V.int (pl s k))) (wr m k).2.1
      have h2 := (g.at (List.mem_range.mp hk)).len
      omega
    · exact Nat.zero_le _
  have hs : ∀ l : List Nat, (∀ k ∈ l, (movesAt m s k).length ≤ 9) → (l.flatMap (movesAt m s)).length ≤ 9 * l.length := fun l => by
    induction l with
    | nil => intro _; exact Nat.le_refl _
    | cons k l ih =>
      intro hl
      rw [List.flatMap_cons, List.length_append, List.length_cons]
      have := hl k (List.mem_cons_self ..)
      have := ih fun j hj => hl j (List.mem_cons_of_mem _ hj)
      omega
  have := hs _ h
  rw [List.length_range] at this
  have := g.len
  omega
end Ink
namespace Ink
open PySem PySem.Spec PyProof.Rows L2 Evl
theorem fz_dWs (m : List Wr) : fzAll (m.map dW) = true := fz_map fun x _ => fz_dW x
theorem wr_dp {K : PySem.W.Frag} {H : Hp} {W : Addr} {z : Str} {ar : List Arw} {p c : Int} (h : WrAt H W z ar p c) : Dp K H (.ref W) (dW (z, ar, p, c)) := by
  obtain ⟨tp, ps, h1, h2, h3⟩ := h
  have : DpAll K H (ps.map V.ref) (ar.map dA) := by
    unfold ArsAt at h3
    clear h1 h2
    induction h3 with
    | nil => exact .nil
    | @cons p x ps ar r t ih =>
      unfold ArwAt at r
      exact .cons (.tup (.of r) (.cons (.int _) (.cons (.str _) (.cons (.int _) .nil)))) ih
  exact .tup (.of h1) (.cons (.str z) (.cons (.tup (.of h2) this) (.cons (.int p) (.cons (.int c) .nil))))
end Ink
namespace Ink
open PySem PySem.Spec PyProof.Rows L2
def isFig (z : Str) : Bool := decide (V.int (z.length : Nat) = V.int 1) && (!decide (z.cps.toList < [48]) && !decide (([57] : List Nat) < z.cps.toList))
theorem fig_one {c : Nat} (h0 : 48 ≤ c) (h1 : c ≤ 57) : isFig (single c) = true := by
  unfold isFig
  rw [show decide (V.int (((single c).length : Nat) : Int) = V.int 1) = true from decide_eq_true rfl]
  show (true && (!decide (([c] : List Nat) < [48]) && !decide (([57] : List Nat) < [c]))) = true
  rw [decide_eq_decide.mpr (lt_one c 48), decide_eq_decide.mpr (lt_one 57 c), decide_eq_false (by omega), decide_eq_false (by omega)]
  rfl
theorem fig_dig {n : Int} (h0 : 0 ≤ n) (h9 : n ≤ 9) : isFig (dig n) = true := by
  rw [dig_eq h0 h9]
  exact fig_one (by omega) (by omega)
theorem int_dig {n : Int} (h0 : 0 ≤ n) (h9 : n ≤ 9) : PySem.intText? (single (48 + n.toNat)) = some n := by
  have h : ∀ k : Nat, k < 10 → PySem.intText? (single (48 + k)) = some (k : Int) := by decide +kernel
  have := h n.toNat (by omega)
  rw [show ((n.toNat : Nat) : Int) = n by omega] at this
  exact this
def spFig : Sp := fun vs H Q _ => ∃ z, vs = [.str z] ∧ z.length ≤ 1000 ∧ ∀ H', Same H H' → Q (.bl (isFig z)) H'
def spAT : Sp := fun vs H Q _ => ∃ x : Arw, vs = [.str (rowT x)] ∧ goodA x ∧ ∀ H', Same H H' → Q (.bl true) H'
/-- a writer, wherever its tuples lie -/
def ArwS (K : PySem.W.Frag) (H : Hp) (p : Addr) (x : Arw) : Prop := SqT K H p [.int x.1, .str x.2.1, .int x.2.2]
def ArsS (K : PySem.W.Frag) (H : Hp) (ps : List Addr) (ar : List Arw) : Prop := Paired (ArwS K H) ps ar
def WrS (K : PySem.W.Frag) (H : Hp) (W : Addr) (z : Str) (ar : List Arw) (p c : Int) : Prop := ∃ tp ps, SqT K H W [.str z, .ref tp, .int p, .int c] ∧ SqT K H tp (ps.map V.ref) ∧ ArsS K H ps ar
theorem ArsS.get {K : PySem.W.Frag} {H : Hp} : ∀ {ps : List Addr} {ar : List Arw} {i : Nat} {p : Addr}, ArsS K H ps ar → ps[i]? = some p → ∃ x, ar[i]? = some x ∧ ArwS K H p x
  | _, _, _, _, .nil, h => by simp at h
  | _, _, 0, _, .cons r _, h => ⟨_, rfl, (Option.some.inj h) ▸ r⟩
  | _, _, i + 1, p, .cons _ t, h => ArsS.get (i := i) t h
theorem wr_sq {K : PySem.W.Frag} {H : Hp} {v : V} {z : Str} {ar : List Arw} {p c : Int} (h : Dp K H v (dW (z, ar, p, c))) : ∃ W, v = .ref W ∧ WrS K H W z ar p c := by
  obtain ⟨W, xs, rfl, hs, hx⟩ := dp_tup h
  obtain ⟨v1, v2, v3, v4, rfl, h1, h2, h3, h4⟩ := dps4 hx
  obtain rfl := dp_str h1
  obtain rfl := dp_int h3
  obtain rfl := dp_int h4
  obtain ⟨tp, ys, rfl, ht, hy⟩ := dp_tup h2
  have : ∀ (ys : List V) (ar : List Arw), DpAll K H ys (ar.map dA) → ∃ ps : List Addr, ys = ps.map V.ref ∧ ArsS K H ps ar := fun ys ar => by
    induction ar generalizing ys with
    | nil =>
      intro q
      cases q
      exact ⟨[], rfl, .nil⟩
    | cons x r ih =>
      intro q
      cases q with
      | cons q1 q2 =>
      obtain ⟨ps, rfl, hps⟩ := ih _ q2
      obtain ⟨a, us, rfl, ha, hus⟩ := dp_tup q1
      obtain ⟨u1, u2, u3, rfl, g1, g2, g3⟩ := dps3 hus
      obtain rfl := dp_int g1
      obtain rfl := dp_str g2
      obtain rfl := dp_int g3
      exact ⟨a :: ps, rfl, .cons ha hps⟩
  obtain ⟨ps, rfl, hps⟩ := this ys ar hy
  exact ⟨W, rfl, tp, ps, hs, ht, hps⟩
def spWT (K : PySem.W.Frag) : Sp := fun vs H Q _ => ∃ (W : Addr) (z : Str) (ar : List Arw) (p c : Int), vs = [.ref W] ∧ WrS K H W z ar p c ∧ GoodW z ar p c ∧ ∀ H', Same H H' → Q (.str (wText z ar p c)) H'
def spRW : Sp := fun vs H Q _ => ∃ (z : Str) (ar : List Arw) (p c : Int), vs = [.str (wText z ar p c)] ∧ GoodW z ar p c ∧ ∀ W H', H W = none → Same H H' → WrAt H' W z ar p c → Q (.ref W) H'
section
variable {P : Program} {w : World} {K : PySem.W.Frag} {mg : Str → Option Value} {base : Heap}
theorem rows_list {ar : List Arw} {n : Nat} (hn : n = ar.length) : (List.range n).map (fun i => match ar[i]? with | some x => V.str (rowT x) | none => V.non) = (ar.map rowT).map V.str := by
  subst hn
  refine List.ext_getElem? fun i => ?_
  rw [List.getElem?_map, List.getElem?_map, List.getElem?_map]
  by_cases hi : i < ar.length
  · rw [List.getElem?_range hi, List.getElem?_eq_getElem hi]
    show some (match ar[i]? with | some x => V.str (rowT x) | none => V.non) = _
    rw [List.getElem?_eq_getElem hi]
    rfl
  · rw [List.getElem?_eq_none (show ar.length ≤ i by omega), List.getElem?_eq_none (show (List.range ar.length).length ≤ i by rw [List.length_range]; omega)]
    rfl
theorem lb (n : Int) (h0 : 0 ≤ n) (h9 : n ≤ 9) : n.natAbs.log2 < 1920 := by
  have : ∀ k : Nat, k < 10 → k.log2 < 1920 := by decide
  exact this _ (by omega)
theorem ok_writer_text {f : Addr} {fd : FuncData} {k : Nat} (F : Fun K "writer_text" "writer_text" sWriterText f fd) (T : Txt mg) : FnOk P w K mg base CX0 (k + 1) f fd ["writer"] (spWT K) := by
  refine F.ok sc_writer_text (fun vs H Q E h => ?_) (fun cdv A outer s H vs Q E hr h => ?_)
  · obtain ⟨W, z, ar, p, c, rfl, _⟩ := h
    rfl
  · obtain ⟨W, z, ar, p, c, rfl, ⟨tp, ps, hW, htp, hps⟩, g, q⟩ := h
    refine ⟨_, (pss_cons (ps_asg (pv 0) (pg_tup rfl (pgs_cons (pg_name (i := 1) sc_writer_text.nd rfl (.inl rfl)) (pgs_cons (pg_name (i := 2) sc_writer_text.nd rfl (.inl rfl)) (pgs_cons (pg_name (i := 3) sc_writer_text.nd rfl (.inl rfl)) (pgs_cons (pg_name (i := 4) sc_writer_text.nd rfl (.inl rfl)) pgs_nil))))))
    (pss_cons (ps_set (i := 5) sc_writer_text.nd rfl (.inl rfl) (pe_orT (pe_join pe_str (pe_lc (own := [("place", 6), ("sign", 7), ("to", 8)]) (g := (gTup K 3 (gCons (gName 6) (gCons (gName 7) (gCons (gName 8) gNil))))) (by rfl) sc_writer_text.nd (pi_tup (pv 2)) (blkOk_by (own := [("place", 6), ("sign", 7), ("to", 8)]) (N := ["writer", "name", "arrows", "patience", "cap", "told", "place", "sign", "to"]) (sc := defScope sWriterText) (by decide +kernel)) (fun _ _ _ _ _ => (pg_tup rfl (pgs_cons (pg_name (i := 6) sc_writer_text.nd rfl (.inl rfl)) (pgs_cons (pg_name (i := 7) sc_writer_text.nd rfl (.inl rfl)) (pgs_cons (pg_name (i := 8) sc_writer_text.nd rfl (.inl rfl)) pgs_nil))))) (fun _ _ _ _ _ => pts_nil) (fun _ _ _ _ _ => (pe_joined (PJ.cons (pe_fmt (pv 6)) (PJ.cons (pe_fmt (pv 7)) (PJ.cons (pe_fmt (pv 8)) PJ.nil))))))) (pe_one pe_str)))
    (pss_one (ps_ret (pe_joined (PJ.cons (pe_fmt (pv 1)) (PJ.cons pe_str (PJ.cons (pe_fmt (pv 5)) (PJ.cons pe_str (PJ.cons (pe_fmt (pv 3)) (PJ.cons pe_str (PJ.cons (pe_fmt (pv 4)) PJ.nil)))))))))))), ?_⟩
    have elen : ps.length = ar.length := Paired.length hps
    have hl9 := g.len
    have ltold := told_len g.each g.len
    have lz := g.name.2.1
    have lp : (dig p).length = 1 := by rw [dig_eq g.p0 (by have := g.p3; omega)]; rfl
    have lc : (dig c).length = 1 := by rw [dig_eq g.c0 (by have := g.c3; omega)]; rfl
    have l5 : slash.length = 1 := by decide +kernel
    refine ⟨.ref W, rfl, W, _, rfl, hW, rfl, _, _, rfl, _, _, rfl, _, _, rfl, _, _, rfl, rfl, ?_⟩
    refine Evl.q_asg (v := .str (told ar)) (Evl.ev_is (ev_orT (y := Txt.join semi (ar.map rowT)) (d := dash) (ev_join Evl.ev_c ?_ ?_) (by have := join_rows_len g.each; omega) Evl.ev_c) (by rw [← told_or g.each])) fun H1 s1 => ?_
    · rw [← rows_list (show (ps.map V.ref).length = ar.length by rw [List.length_map, elen])]
      refine el_lcT (a := tp) (xs := ps.map V.ref) _ (fun i => match ar[i]? with | some x => [some (.ref W), some (.str z), some (.ref tp), some (.int p), some (.int c), none, some (.int x.1), some (.str x.2.1), some (.int x.2.2)] | none => []) (Evl.ev_var (by rfl)) (htp) (by rw [List.length_map, elen]; omega) (fun i v H1 e1 hv Q2 q2 => ?_) (fun i hi => ?_) (fun i H1 e1 hi => ?_)
      · obtain ⟨p', hp, rfl⟩ := refs_at hv
        obtain ⟨x, hx, hpx⟩ := hps.get hp
        rw [hx] at q2
        exact ⟨p', _, rfl, Evl.ex_t e1 hpx, rfl, _, _, rfl, _, _, rfl, _, _, rfl, rfl, q2⟩
      · rw [List.length_map, elen] at hi
        rw [List.getElem?_eq_getElem hi]
        rfl
      · rw [List.length_map, elen] at hi
        have hm := g.each _ (List.getElem_mem hi)
        rw [List.getElem?_eq_getElem hi]
        generalize ar[i] = x at hm
        have l3 := row_len hm
        unfold rowT at l3
        rw [Str.length_append, Str.length_append] at l3
        obtain ⟨h1, h2, _, h3, h4⟩ := hm
        intro H2 e2 Q2 q2
        refine ⟨.int x.1, rfl, .inr ⟨x.1, rfl, lb _ h1 (by omega), dig x.1, rfl, ?_, .str x.2.1, rfl, .inl ⟨x.2.1, rfl, small_le (by omega), x.2.1, rfl, ?_, .int x.2.2, rfl, .inr ⟨x.2.2, rfl, lb _ h3 (by omega), dig x.2.2, rfl, ?_, ?_⟩⟩⟩⟩
        · rw [empty_app]
          exact small_le (by omega)
        · rw [empty_app, Str.length_append]
          exact small_le (by omega)
        · rw [empty_app, Str.length_append, Str.length_append]
          exact small_le (by omega)
        · rw [empty_app]
          exact q2 H2 (Same.refl H2)
    · have e1 := rows_sum g.each
      rw [e1, List.length_map]
      have : semi.length = 1 := by decide +kernel
      rw [this]
      omega
    · have e0 : wText z ar p c = z ++ slash ++ told ar ++ slash ++ dig p ++ slash ++ dig c := join4 _ _ _ _
      have hq := q H1 s1
      rw [e0] at hq
      refine ⟨.str z, rfl, .inl ⟨z, rfl, small_le (by omega), z, rfl, ?_, slash, rfl, ?_, .str (told ar), rfl, .inl ⟨told ar, rfl, small_le (by omega), told ar, rfl, ?_, slash, rfl, ?_, .int p, rfl, .inr ⟨p, rfl, lb _ g.p0 (by have := g.p3; omega), dig p, rfl, ?_, slash, rfl, ?_, .int c, rfl, .inr ⟨c, rfl, lb _ g.c0 (by have := g.c3; omega), dig c, rfl, ?_, ?_⟩⟩⟩⟩⟩ <;> rw [empty_app]
      · exact small_le (by omega)
      · simp only [Str.length_append]
        exact small_le (by omega)
      · simp only [Str.length_append]
        exact small_le (by omega)
      · simp only [Str.length_append]
        exact small_le (by omega)
      · simp only [Str.length_append]
        exact small_le (by omega)
      · simp only [Str.length_append]
        exact small_le (by omega)
      · simp only [Str.length_append]
        exact small_le (by omega)
      · exact hq
theorem ok_law_text {f : Addr} {fd : FuncData} {k : Nat} (F : Fun K "_law_writer_text" "_law_writer_text" sLWriterText f fd) (T : Txt mg) : FnOk P w K mg base CX0 (k + 1) f fd ["_law_writer_here"] (spWT K) := by
  refine F.ok sc__law_writer_text (fun vs H Q E h => ?_) (fun cdv A outer s H vs Q E hr h => ?_)
  · obtain ⟨W, z, ar, p, c, rfl, _⟩ := h
    rfl
  · obtain ⟨W, z, ar, p, c, rfl, ⟨tp, ps, hW, htp, hps⟩, g, q⟩ := h
    refine ⟨_, (pss_cons (ps_setLc (i := 1) (own := [("_law_place", 2), ("_law_sign", 3), ("_law_to", 4)]) (g := (gTup K 3 (gCons (gName 2) (gCons (gName 3) (gCons (gName 4) gNil))))) (by rfl) sc__law_writer_text.nd rfl rfl (sw_true rfl rfl rfl (by decide +kernel)) (pi_tup (pe_ix ix_tup (pv 0) pe_int (fun _ _ => rfl))) (blkOk_by (own := [("_law_place", 2), ("_law_sign", 3), ("_law_to", 4)]) (N := ["_law_writer_here", "_law_rows", "_law_place", "_law_sign", "_law_to"]) (sc := defScope sLWriterText) (by decide +kernel)) (fun _ _ _ _ _ => (pg_tup rfl (pgs_cons (pg_name (i := 2) sc__law_writer_text.nd rfl (.inl rfl)) (pgs_cons (pg_name (i := 3) sc__law_writer_text.nd rfl (.inl rfl)) (pgs_cons (pg_name (i := 4) sc__law_writer_text.nd rfl (.inl rfl)) pgs_nil))))) (fun _ _ _ _ _ => pts_nil) (fun _ _ _ _ _ => (pe_op op_add_str (pe_op op_add_str (pe_callTy call_str_int (by rfl) T.m_str (by decide +kernel) (pa_cons (pv 2) pa_nil)) (pv 3)) (pe_callTy call_str_int (by rfl) T.m_str (by decide +kernel) (pa_cons (pv 4) pa_nil)))))
    (pss_one (ps_ret (pe_op op_add_str (pe_op op_add_str (pe_op op_add_str (pe_op op_add_str (pe_op op_add_str (pe_op op_add_str (pe_ix ix_tup (pv 0) pe_int (fun _ _ => rfl)) pe_str) (pe_orT (pe_join pe_str (pv 1)) (pe_one pe_str))) pe_str) (pe_callTy call_str_int (by rfl) T.m_str (by decide +kernel) (pa_cons (pe_ix ix_tup (pv 0) pe_int (fun _ _ => rfl)) pa_nil))) pe_str) (pe_callTy call_str_int (by rfl) T.m_str (by decide +kernel) (pa_cons (pe_ix ix_tup (pv 0) pe_int (fun _ _ => rfl)) pa_nil)))))), ?_⟩
    have elen : ps.length = ar.length := Paired.length hps
    have hl9 := g.len
    have ltold := told_len g.each g.len
    have lz := g.name.2.1
    have lp : (dig p).length = 1 := by rw [dig_eq g.p0 (by have := g.p3; omega)]; rfl
    have lc : (dig c).length = 1 := by rw [dig_eq g.c0 (by have := g.c3; omega)]; rfl
    have l5 : slash.length = 1 := by decide +kernel
    refine Evl.q_asgL (xs := (ar.map rowT).map V.str) ?_ fun D H1 nD s1 eD => ?_
    · rw [← rows_list (show (ps.map V.ref).length = ar.length by rw [List.length_map, elen])]
      refine el_lcT (a := tp) (xs := ps.map V.ref) _ (fun i => match ar[i]? with | some x => [some (.ref W), none, some (.int x.1), some (.str x.2.1), some (.int x.2.2)] | none => []) (ev_ixT (Evl.ev_var (by rfl)) Evl.ev_c (hW) (by decide) rfl) (htp) (by rw [List.length_map, elen]; omega) (fun i v H1 e1 hv Q2 q2 => ?_) (fun i hi => ?_) (fun i H1 e1 hi => ?_)
      · obtain ⟨p', hp, rfl⟩ := refs_at hv
        obtain ⟨x, hx, hpx⟩ := hps.get hp
        rw [hx] at q2
        exact ⟨p', _, rfl, Evl.ex_t e1 hpx, rfl, _, _, rfl, _, _, rfl, _, _, rfl, rfl, q2⟩
      · rw [List.length_map, elen] at hi
        rw [List.getElem?_eq_getElem hi]
        rfl
      · rw [List.length_map, elen] at hi
        have hm := g.each _ (List.getElem_mem hi)
        rw [List.getElem?_eq_getElem hi]
        generalize ar[i] = x at hm
        have l3 := row_len hm
        unfold rowT at l3
        rw [Str.length_append, Str.length_append] at l3
        have l3' : (Str.ofString (toString x.1)).length + x.2.1.length + (Str.ofString (toString x.2.2)).length = 3 := l3
        obtain ⟨h1, h2, _, h3, h4⟩ := hm
        exact Evl.ev_op (Evl.ev_op (ev_strI (Evl.ev_var (by rfl)) h1 (by omega)) (Evl.ev_var (by rfl)) (rv_addS (by omega))) (ev_strI (Evl.ev_var (by rfl)) h3 (by omega)) (rv_addS (by rw [Str.length_append]; omega))
    · have hW1 := Evl.ex_t s1 hW
      have e0 : wText z ar p c = z ++ slash ++ told ar ++ slash ++ dig p ++ slash ++ dig c := join4 _ _ _ _
      have lp' : (Str.ofString (toString p)).length = 1 := lp
      have lc' : (Str.ofString (toString c)).length = 1 := lc
      have l5' : (Str.ofString "/").length = 1 := l5
      refine Evl.s_ret (v := .str (wText z ar p c)) (Evl.ev_is (v := .str (z ++ slash ++ told ar ++ slash ++ dig p ++ slash ++ dig c)) (Evl.ev_op (Evl.ev_op (Evl.ev_op (Evl.ev_op (Evl.ev_op (Evl.ev_op
        (ev_ixT (Evl.ev_var (by rfl)) Evl.ev_c (hW1) (by decide) rfl) Evl.ev_c (rv_addS (by omega)))
        (Evl.ev_is (ev_orT (y := Txt.join semi (ar.map rowT)) (d := dash) (ev_joinV Evl.ev_c (Evl.ev_var (by rfl)) (.of eD) ?_) (by have := join_rows_len g.each; omega) Evl.ev_c) (congrArg V.str (told_or g.each).symm)) (rv_addS ?_))
        Evl.ev_c (rv_addS ?_)) (ev_strI (ev_ixT (Evl.ev_var (by rfl)) Evl.ev_c (hW1) (by decide) rfl) g.p0 (by have := g.p3; omega)) (rv_addS ?_))
        Evl.ev_c (rv_addS ?_)) (ev_strI (ev_ixT (Evl.ev_var (by rfl)) Evl.ev_c (hW1) (by decide) rfl) g.c0 (by have := g.c3; omega)) (rv_addS ?_)) (by rw [e0])) fun H2 s2 => q H2 (Same.trans s1 s2)
      · have e1 := rows_sum g.each
        rw [e1, List.length_map]
        have : semi.length = 1 := by decide +kernel
        rw [this]
        omega
      all_goals (simp only [Str.length_append]; omega)
end
end Ink
namespace Ink
open PySem PySem.Spec PyProof.Rows L2 Evl
def wrT (x : Wr) : Str := wText x.1 x.2.1 x.2.2.1 x.2.2.2
abbrev GW (x : Wr) : Prop := GoodW x.1 x.2.1 x.2.2.1 x.2.2.2
def RWT : List PyData → PyData → Prop := fun ds d => ∃ x : Wr, ds = [dW x] ∧ GW x ∧ d = .str (wrT x)
def RRW : List PyData → PyData → Prop := fun ds d => ∃ x : Wr, ds = [.str (wrT x)] ∧ GW x ∧ d = dW x
section
variable {P : Program} {w : World} {K : PySem.W.Frag} {mg : Str → Option Value} {base : Heap}
theorem wt_imp {vs : List V} {H : Hp} {Q : VK} {E : XK} (h : spP K RWT vs H Q E) : spWT K vs H Q E := by
  obtain ⟨ds, d, hd, ⟨⟨z, ar, p, c⟩, rfl, g, rfl⟩, q⟩ := h
  obtain ⟨v0, rfl, h0⟩ := dps1 hd
  obtain ⟨W, rfl, hW⟩ := wr_sq h0
  exact ⟨W, z, ar, p, c, rfl, hW, g, fun H' s => q _ H' s (.str _)⟩
theorem rw_imp {vs : List V} {H : Hp} {Q : VK} {E : XK} (h : spP K RRW vs H Q E) : spRW vs H Q E := by
  obtain ⟨ds, d, hd, ⟨⟨z, ar, p, c⟩, rfl, g, rfl⟩, q⟩ := h
  obtain ⟨v0, rfl, h0⟩ := dps1 hd
  obtain rfl := dp_str h0
  exact ⟨z, ar, p, c, rfl, g, fun W H' _ s hW => q _ H' s (wr_dp hW)⟩
end
end Ink
namespace Ink
open PySem PySem.Spec PyProof.Rows L2 Evl
/-! ### companies: the program's defs -/
def RMinds : List PyData → PyData → Prop := fun ds d => ∃ m s, ∃ k : Nat, GoodM m ∧ Fits m s ∧ k < m.length ∧ ds = [dMt m, dS s, .int (k : Int)] ∧ d = .bool (minds m s k)
def RMay : List PyData → PyData → Prop := fun ds d => ∃ m s, ∃ k : Nat, GoodM m ∧ Fits m s ∧ k < m.length ∧ ds = [dMt m, dS s, .int (k : Int)] ∧ d = .bool (mayW m s k)
def RBehind : List PyData → PyData → Prop := fun ds d => ∃ m s, ∃ k : Nat, ∃ to, GoodM m ∧ Fits m s ∧ k < m.length ∧ ds = [dMt m, dS s, .int (k : Int), .int to] ∧ d = dS (behind m s k to)
def RSteps : List PyData → PyData → Prop := fun ds d => ∃ m s, GoodM m ∧ Fits m s ∧ ds = [dMt m, dS s] ∧ d = .list ((stepsOf m s).map dStep)
section
variable {P : Program} {w : World} {K : PySem.W.Frag} {mg : Str → Option Value} {base : Heap}
theorem places_in (ar : List Arw) : (ar.map fun x => PyData.int x.1) = (ar.map (·.1)).map PyData.int := by
  rw [List.map_map]
  rfl
theorem m_le {m : List Wr} (g : GoodM m) {n : Nat} (h : 3 ≤ n) : m.length ≤ n := Nat.le_trans g.len h
end
end Ink
namespace Ink
open PySem PySem.Spec PyProof.Rows L2 Evl
section
variable {P : Program} {w : World} {K : PySem.W.Frag} {mg : Str → Option Value} {base : Heap}
theorem enum_range (ns : List Int) : enumD (ns.map PyData.int) = (List.range ns.length).map fun j : Nat => PyData.tuple [.int (j : Int), .int (ns.getD j 0)] := by
  unfold enumD
  rw [List.length_map]
  refine List.map_congr_left fun j hj => ?_
  have hj := List.mem_range.mp hj
  rw [List.getD_eq_getElem?_getD, List.getElem?_map, getD_get hj]
  rfl
end
end Ink
namespace Ink
open PySem PySem.Spec PyProof.Rows L2 Evl
section
variable {P : Program} {w : World} {K : PySem.W.Frag} {mg : Str → Option Value} {base : Heap}
theorem alike_mv (a b : Mv) : PySem.W.alike (dMv a) (dMv b) = true := by
  unfold dMv
  simp only [PySem.W.alike, PySem.W.alikeAll, Bool.and_true]
theorem depth_mv (a : Mv) : (dMv a).depth ≤ 64 := by
  unfold dMv
  simp only [PyData.depth, PyData.depthAll]
  decide
theorem sort_mv (l : List Mv) : (l.map dMv).mergeSort (PySem.W.dataLe false id) = (l.mergeSort leMv).map dMv := by
  have z := List.map_mergeSort (r := leMv) (s := PySem.W.dataLe false id) (f := dMv) (l := l) (fun a _ b _ => rfl)
  exact z.symm
theorem enum_w (m : List Wr) {i : Nat} {d : PyData} (h : (enumD (m.map dW))[i]? = some d) : i < m.length ∧ d = .tuple [.int (i : Int), dW (wr m i)] := by
  have hi : i < m.length := by
    have := (List.getElem?_eq_some_iff.mp h).1
    unfold enumD at this
    rw [List.length_map, List.length_range, List.length_map] at this
    exact this
  have e : (m.map dW)[i]? = some (dW (wr m i)) := by
    rw [List.getElem?_map, wr_get hi]
    rfl
  rw [enumD_get e] at h
  exact ⟨hi, (Option.some.inj h).symm⟩
theorem enum_len (ds : List PyData) : (enumD ds).length = ds.length := by
  unfold enumD
  rw [List.length_map, List.length_range]
end
end Ink
namespace Ink
open PySem PySem.Spec PyProof.Rows L2
/-! ### a drawn writer is one -/
end Ink
namespace Ink
open PySem PySem.Spec PyProof.Rows L2 Evl
/-! ### writers looked at, as data -/
def dH (x : Arw) : PyData := .tuple [.int x.1, .str x.2.1]
def RAre : List PyData → PyData → Prop := fun ds d => ∃ ar, ShortA ar ∧ ds = [.tuple (ar.map dA)] ∧ d = .bool (areArr ar)
def RIsW : List PyData → PyData → Prop := fun ds d => ∃ w : Wr, ShortA w.2.1 ∧ w.1.length ≤ 1000 ∧ ds = [dW w] ∧ d = .bool (isWr w.1 w.2.1 w.2.2.1 w.2.2.2)
theorem fz_dH (x : Arw) : fz (dH x) = true := by
  unfold dH fz fzAll fzAll fzAll fz
  rfl
def ltP (p : Arw × Arw) : Bool := ltIS p.1.1 p.1.2.1 p.2.1 p.2.2.1
theorem rise_zip (ar : List Arw) : riseB ar = ((ar.zip (ar.drop 1)).map ltP).all id := by
  unfold riseB
  congr 1
  refine List.ext_getElem? fun i => ?_
  rw [List.getElem?_map, List.getElem?_map]
  by_cases h : i < ar.length - 1
  · have h1 : i < ar.length := by omega
    have h2 : i + 1 < ar.length := by omega
    have z : (ar.zip (ar.drop 1))[i]? = some (ar[i], ar[i + 1]) := by
      rw [List.getElem?_zip_eq_some]
      refine ⟨List.getElem?_eq_getElem h1, ?_⟩
      rw [List.getElem?_drop, Nat.add_comm]
      exact List.getElem?_eq_getElem h2
    rw [z, List.getElem?_range h]
    show some (ltAt ar i) = some _
    unfold ltAt
    rw [List.getElem?_eq_getElem h1, List.getElem?_eq_getElem h2]
    rfl
  · rw [List.getElem?_eq_none (by rw [List.length_range]; omega), List.getElem?_eq_none (by rw [List.length_zip, List.length_drop]; omega)]
    rfl
theorem zip_heads (ar : List Arw) : (((ar.map dH).zip ((ar.map dH).drop 1)).map fun p => PyData.tuple [p.1, p.2]) = (ar.zip (ar.drop 1)).map fun p => .tuple [dH p.1, dH p.2] := by
  rw [← List.map_drop, List.zip_map, List.map_map]
  rfl
section
variable {K : PySem.W.Frag} {σ : L2.St} {H : Hp} {ta tb te : TE} {ds : List PyData}
theorem ev_ltISD {i j : Int} {x y : Str} (ha : EvD K ta σ H (.tuple [.int i, .str x])) (hb : EvD K tb σ H (.tuple [.int j, .str y])) : Ev (tOp (rLtIS K) ta tb) σ H (.bl (ltIS i x j y)) := fun H1 e Q q =>
  ha H1 e _ fun v H2 e2 hv => hb H2 (e.trans e2) _ fun u H3 e3 hu => by
    obtain ⟨p, xs, rfl, hs, hxs⟩ := dp_tup (dp_same e3 hv)
    obtain ⟨p', ys, rfl, hs', hys⟩ := dp_tup hu
    obtain ⟨v1, v2, rfl, h1, h2⟩ := dps2 hxs
    obtain ⟨u1, u2, rfl, g1, g2⟩ := dps2 hys
    rw [dp_int h1, dp_str h2] at hs
    rw [dp_int g1, dp_str g2] at hs'
    exact ⟨p, p', i, x, j, y, rfl, rfl, hs, hs', q H3 (e2.trans e3)⟩
theorem en_slFromL {k : Nat} (h : EvD K te σ H (.list ds)) (hk : Ev tb σ H (.int (k : Int))) : EvN K (tSl (rSlL K) te (tPart tb) tNoPart) σ H (ds.drop k) := fun H1 e Q q =>
  h H1 e _ fun v H2 e2 hv => hk H2 (e.trans e2) _ fun H3 e3 => ⟨(k : Int), rfl, by
    obtain ⟨p, xs, rfl, hs, hxs⟩ := dp_lst (dp_same e3 hv)
    refine ⟨p, xs, rfl, hs, fun p2 np => ?_⟩
    rw [vcut_from]
    exact q _ _ _ (fresh_back (e2.trans e3) np) ((e2.trans e3).trans (Ex.new np)) upd_same (dps_same (Ex.new np) (hxs.drop k))⟩
theorem en_slToL {k : Nat} (h : EvD K te σ H (.list ds)) (hk : Ev tb σ H (.int (k : Int))) : EvN K (tSl (rSlL K) te tNoPart (tPart tb)) σ H (ds.take k) := fun H1 e Q q =>
  h H1 e _ fun v H2 e2 hv => hk H2 (e.trans e2) _ fun H3 e3 => ⟨(k : Int), rfl, by
    obtain ⟨p, xs, rfl, hs, hxs⟩ := dp_lst (dp_same e3 hv)
    refine ⟨p, xs, rfl, hs, fun p2 np => ?_⟩
    rw [vcut_to]
    exact q _ _ _ (fresh_back (e2.trans e3) np) ((e2.trans e3).trans (Ex.new np)) upd_same (dps_same (Ex.new np) (hxs.take k))⟩
end
section
variable {P : Program} {w : World} {K : PySem.W.Frag} {mg : Str → Option Value} {base : Heap}
theorem ok_areD {f : Addr} {fd : FuncData} {k : Nat} (F : Fun K "_are_arrows" "_are_arrows" sAreArrows f fd) (T : Txt mg)
    (C__is_place : Cal P w K mg base k "_is_place" ["number"] spPlace) (C_is_sign : Cal P w K mg base k "is_sign" ["text"] spSign) : FnOk P w K mg base CX0 (k + 1) f fd ["arrows"] (spP K RAre) := by
  refine F.ok sc__are_arrows (fun vs H Q E h => ?_) (fun cdv A outer s H vs Q E hr h => ?_)
  · obtain ⟨ds, d, hd, ⟨ar, _, rfl, _⟩, _⟩ := h
    exact hd.length
  · obtain ⟨ds, d, hd, ⟨ar, hsh, rfl, rfl⟩, q⟩ := h
    obtain ⟨v0, rfl, h0⟩ := dps1 hd
    have hz : ar.length ≤ 40000 := by have := hsh.1; omega
    refine ⟨_, (pss_cons (ps_if (pt_cmpR op_gt (pe_callB call_len (by rfl) T.m_len PySem.boot_len (pa_cons (pv 0) pa_nil)) (pe_globI (by rfl) T.e_MOST_ARROWS) (nomark _))
    (pss_one (ps_ret pe_bl)) pss_nil)
    (pss_cons (ps_if (pt_not (pt_val (pe_callB (cr_all rfl) (by rfl) T.m_all (by decide +kernel) (pa_cons (pe_lc (own := [("place", 2), ("sign", 3), ("to", 4)]) (g := (gTup K 3 (gCons (gName 2) (gCons (gName 3) (gCons (gName 4) gNil))))) (by rfl) sc__are_arrows.nd (pi_tup (pv 0)) (blkOk_by (own := [("place", 2), ("sign", 3), ("to", 4)]) (N := ["arrows", "heads", "place", "sign", "to", "_", "head", "following"]) (sc := defScope sAreArrows) (by decide +kernel)) (fun _ _ _ _ _ => (pg_tup rfl (pgs_cons (pg_name (i := 2) sc__are_arrows.nd rfl (.inl rfl)) (pgs_cons (pg_name (i := 3) sc__are_arrows.nd rfl (.inl rfl)) (pgs_cons (pg_name (i := 4) sc__are_arrows.nd rfl (.inl rfl)) pgs_nil))))) (fun _ _ _ _ _ => pts_nil) (fun _ _ _ _ _ => (pe_and (pe_callC C__is_place hr (by rfl) (pa_cons (pv 2) pa_nil)) (pe_and (pe_callC C_is_sign hr (by rfl) (pa_cons (pv 3) pa_nil)) (pe_one (pe_callC C__is_place hr (by rfl) (pa_cons (pv 4) pa_nil))))))) pa_nil))))
    (pss_one (ps_ret pe_bl)) pss_nil)
    (pss_cons (ps_setLc (i := 1) (own := [("place", 2), ("sign", 3), ("_", 5)]) (g := (gTup K 3 (gCons (gName 2) (gCons (gName 3) (gCons (gName 5) gNil))))) (by rfl) sc__are_arrows.nd rfl rfl (sw_true rfl rfl rfl (by decide +kernel)) (pi_tup (pv 0)) (blkOk_by (own := [("place", 2), ("sign", 3), ("_", 5)]) (N := ["arrows", "heads", "place", "sign", "to", "_", "head", "following"]) (sc := defScope sAreArrows) (by decide +kernel)) (fun _ _ _ _ _ => (pg_tup rfl (pgs_cons (pg_name (i := 2) sc__are_arrows.nd rfl (.inl rfl)) (pgs_cons (pg_name (i := 3) sc__are_arrows.nd rfl (.inl rfl)) (pgs_cons (pg_name (i := 5) sc__are_arrows.nd rfl (.inl rfl)) pgs_nil))))) (fun _ _ _ _ _ => pts_nil) (fun _ _ _ _ _ => (pe_tup (pa_cons (pv 2) (pa_cons (pv 3) pa_nil)))))
    (pss_one (ps_ret (pe_callB (cr_all rfl) (by rfl) T.m_all (by decide +kernel) (pa_cons (pe_lc (own := [("head", 6), ("following", 7)]) (g := (gTup K 2 (gCons (gName 6) (gCons (gName 7) gNil)))) (by rfl) sc__are_arrows.nd (pi_zip (by rfl) T.m_zip (pa_cons (pv 1) (pa_cons (pe_slice sl_list (pv 1) (po_some pe_int) po_none) pa_nil))) (blkOk_by (own := [("head", 6), ("following", 7)]) (N := ["arrows", "heads", "place", "sign", "to", "_", "head", "following"]) (sc := defScope sAreArrows) (by decide +kernel)) (fun _ _ _ _ _ => (pg_tup rfl (pgs_cons (pg_name (i := 6) sc__are_arrows.nd rfl (.inl rfl)) (pgs_cons (pg_name (i := 7) sc__are_arrows.nd rfl (.inl rfl)) pgs_nil)))) (fun _ _ _ _ _ => pts_nil) (fun _ _ _ _ _ => (pe_cmpR (show OpR _ _ (rLtIS K) from op_ltIS hr.units0) (pv 6) (pv 7) (nomark _)))) pa_nil))))))), ?_⟩
    refine Evl.q_when (b := decide (((ar.length : Nat) : Int) > 9)) (et_test (ev_op (ev_is (ev_lenD (ed_var rfl h0) (.inr rfl)) (by rw [List.length_map])) ev_c rv_I0)) (fun hb H1 e1 => ?_) fun hb H1 e1 => ?_
    · refine q (.bl false) H1 e1 ?_
      unfold areArr
      rw [if_pos (of_decide_eq_true hb)]
      exact .bl false
    · have h0 := dp_same e1 h0
      have hb : ¬ (9 : Int) < (ar.length : Nat) := of_decide_eq_false hb
      refine Evl.q_when (b := !(ar.map okA).all id) (et_not (et_B (ev_allD (bs := ar.map okA) (EvN.list ?_)))) (fun hb2 H2 e2 => ?_) fun hb2 H2 e2 => ?_
      · rw [List.map_map]
        refine en_map ar dA _ (ei_tup (ed_var rfl h0)) hz (fun x _ => by show fz (PyData.bool _) = true; unfold fz; rfl) fun i x H5 y hx e5 hdx R kk => tg3 hdx fun u1 u2 u3 a1 a2 a3 => ?_
        obtain rfl := dp_int a1
        obtain rfl := dp_str a2
        obtain rfl := dp_int a3
        exact kk _ rfl (ed_bl (ev_andV (ev_call (ea_cons (ev_var rfl) ea_nil) fun H2 Q2 _ q2 => ⟨_, rfl, q2⟩) fun _ => ev_andV (ev_call (ea_cons (ev_var rfl) ea_nil) fun H2 Q2 _ q2 => ⟨_, rfl, hsh.2 x (List.mem_of_getElem? hx), q2⟩) fun _ => ev_call (ea_cons (ev_var rfl) ea_nil) fun H2 Q2 _ q2 => ⟨_, rfl, q2⟩))
      · have hb3 : (ar.map okA).all id = false := Bool.not_eq_true' _ ▸ hb2
        refine q (.bl false) H2 (e1.trans e2) ?_
        unfold areArr
        rw [if_neg hb, if_pos hb3]
        exact .bl false
      · have hb3 : ¬ (ar.map okA).all id = false := fun z => by
          rw [z] at hb2
          cases hb2
        have h0 := dp_same e2 h0
        refine sd_asg (K := K) (EvN.list (ds := ar.map dH) (en_map ar dA dH (ei_tup (ed_var rfl h0)) hz (fun x _ => fz_dH x) fun i x H5 y hx e5 hdx R kk => tg3 hdx fun u1 u2 u3 a1 a2 a3 => ?_)) fun w1 H3 e3 g1 => ?_
        · exact kk _ rfl (ed_tup (eds_cons (ed_var rfl a1) (eds_cons (ed_var rfl a2) eds_nil)) (by show 2 ≤ 100000; decide))
        · dsimp only
          refine sd_ret (K := K) (ed_bl (ev_allD (bs := (ar.zip (ar.drop 1)).map ltP) (EvN.list ?_))) fun v H4 e4 hv => ?_
          · rw [List.map_map]
            refine en_map (ar.zip (ar.drop 1)) (fun p => .tuple [dH p.1, dH p.2]) _ ?_ (by rw [List.length_zip]; omega) (fun x _ => by show fz (PyData.bool _) = true; unfold fz; rfl) fun i x H5 y hx e5 hdx R kk => tg2 hdx fun u1 u2 a1 a2 => ?_
            · rw [← zip_heads]
              exact ei_zip (tx := tNil) (ed_var rfl g1) (en_slFromL (k := 1) (ed_var rfl g1) ev_c).list (.inr trivial)
            · exact kk _ rfl (ed_bl (ev_ltISD (ed_var rfl a1) (ed_var rfl a2)))
          · refine q v H4 (((e1.trans e2).trans e3).trans e4) ?_
            unfold areArr
            rw [if_neg hb, if_neg hb3, rise_zip]
            exact hv
theorem ok_is_writerD {f : Addr} {fd : FuncData} {k : Nat} (F : Fun K "is_writer" "is_writer" sIsWriter f fd) (T : Txt mg) (C_is_name : Cal P w K mg base k "is_name" ["text"] spName)
    (C__are_arrows : Cal P w K mg base k "_are_arrows" ["arrows"] (spP K RAre)) (C__is_count : Cal P w K mg base k "_is_count" ["number"] spCount) : FnOk P w K mg base CX0 (k + 1) f fd ["thing"] (spP K RIsW) := by
  refine F.ok sc_is_writer (fun vs H Q E h => ?_) (fun cdv A outer s H vs Q E hr h => ?_)
  · obtain ⟨ds, d, hd, ⟨w, _, _, rfl, _⟩, _⟩ := h
    exact hd.length
  · obtain ⟨ds, d, hd, ⟨w, hsh, hz, rfl, rfl⟩, q⟩ := h
    obtain ⟨v0, rfl, h0⟩ := dps1 hd
    refine ⟨_, (pss_cons (ps_if (pt_cmpR op_ne (pe_callB call_len (by rfl) T.m_len PySem.boot_len (pa_cons (pv 0) pa_nil)) pe_int (nomark _))
    (pss_one (ps_ret pe_bl)) pss_nil)
    (pss_cons (ps_asg (pv 0) (pg_tup rfl (pgs_cons (pg_name (i := 1) sc_is_writer.nd rfl (.inl rfl)) (pgs_cons (pg_name (i := 2) sc_is_writer.nd rfl (.inl rfl)) (pgs_cons (pg_name (i := 3) sc_is_writer.nd rfl (.inl rfl)) (pgs_cons (pg_name (i := 4) sc_is_writer.nd rfl (.inl rfl)) pgs_nil))))))
    (pss_one (ps_ret (pe_and (pe_callC C_is_name hr (by rfl) (pa_cons (pv 1) pa_nil)) (pe_and (pe_callC C__are_arrows hr (by rfl) (pa_cons (pv 2) pa_nil)) (pe_and (pe_callC C__is_count hr (by rfl) (pa_cons (pv 3) pa_nil)) (pe_one (pe_callC C__is_count hr (by rfl) (pa_cons (pv 4) pa_nil)))))))))), ?_⟩
    refine Evl.q_when (b := !decide (V.int (([PyData.str w.1, .tuple (w.2.1.map dA), .int w.2.2.1, .int w.2.2.2].length : Nat) : Int) = V.int 4)) (et_test (ev_op (ev_lenD (ed_var rfl h0) (.inr rfl)) ev_c (rv_ne rfl))) (fun hb H1 e1 => ?_) fun hb H1 e1 => ?_
    · cases hb
    · have h0 := dp_same e1 h0
      refine sd_un4 (ed_var rfl h0) fun w0 w1 w2 w3 H2 e2 g0 g1 g2 g3 => ?_
      obtain rfl := dp_str g0
      obtain rfl := dp_int g2
      obtain rfl := dp_int g3
      dsimp only
      refine sd_ret (K := K) (ed_bl (ev_andV (ev_call (ea_cons (ev_var rfl) ea_nil) fun H2 Q2 _ q2 => ⟨_, rfl, hz, q2⟩) fun _ => ev_andV (ev_bl (ed_call (eds_cons (ed_var rfl g1) eds_nil) ⟨w.2.1, hsh, rfl, rfl⟩)) fun _ => ev_andV (ev_call (ea_cons (ev_var rfl) ea_nil) fun H2 Q2 _ q2 => ⟨_, rfl, q2⟩) fun _ => ev_call (ea_cons (ev_var rfl) ea_nil) fun H2 Q2 _ q2 => ⟨_, rfl, q2⟩)) fun v H3 e3 hv => q v H3 ((e1.trans e2).trans e3) hv
end
end Ink
namespace Ink
open PySem PySem.Spec PyProof.Rows L2 Evl
/-! ### companies as objects -/
/-- all but lists stay -/
def Fr (H H' : Hp) : Prop := ∀ b o, H b = some o → (∀ xs, o ≠ .lst xs) → H' b = some o
theorem Fr.refl (H : Hp) : Fr H H := fun _ _ e _ => e
theorem Fr.trans {H H1 H2 : Hp} (a : Fr H H1) (b : Fr H1 H2) : Fr H H2 := fun c o e n => b c o (a c o e n) n
theorem Fr.of {H H' : Hp} (e : Same H H') : Fr H H' := fun b o h _ => e b o h
theorem Fr.keep {a l : Addr} {H H' : Hp} (b : BagAt H a l) (k : Keep a H H') : Fr H H' := fun c o e n => k c o (fun z => by
  obtain ⟨ns, p, h, s, h1, _⟩ := b
  rw [z, h1] at e
  exact n _ (Option.some.inj e).symm) e
theorem Fr.lst {H : Hp} {p : Addr} {xs : List V} {o : HO} (h : H p = some (.lst xs)) : Fr H (upd H p o) := fun c o' e n => by
  rw [upd_ne (fun z => by rw [z, h] at e; exact n _ (Option.some.inj e).symm)]
  exact e
theorem Fr.tk {K : PySem.W.Frag} {H H' : Hp} (f : Fr H H') : TupK K H H' := fun b xs h => by
  rcases h with (h | ⟨o, h⟩) | h
  · exact .inl (.inl (f _ _ h fun _ z => by cases z))
  · exact .inl (.inr ⟨o, f _ _ h fun _ z => by cases z⟩)
  · exact .inr h
/-- all but what is kept of dicts stays -/
def KX (H H' : Hp) : Prop := ∀ b o, H b = some o → (∀ f, o ≠ .ext f) → H' b = some o
theorem KX.refl (H : Hp) : KX H H := fun _ _ e _ => e
theorem KX.trans {H H1 H2 : Hp} (a : KX H H1) (b : KX H1 H2) : KX H H2 := fun c o e n => b c o (a c o e n) n
theorem KX.of {H H' : Hp} (e : Same H H') : KX H H' := fun b o h _ => e b o h
theorem KX.l {K : PySem.W.Frag} {H H' : Hp} (f : KX H H') : ∀ b xs, SqL K H b xs → SqL K H' b xs := fun b xs h => by
  rcases h with (h | ⟨o, h⟩) | h
  · exact .inl (.inl (f _ _ h fun _ z => by cases z))
  · exact .inl (.inr ⟨o, f _ _ h fun _ z => by cases z⟩)
  · exact .inr h
theorem KX.t {K : PySem.W.Frag} {H H' : Hp} (f : KX H H') : ∀ b xs, SqT K H b xs → SqT K H' b xs := fun b xs h => by
  rcases h with (h | ⟨o, h⟩) | h
  · exact .inl (.inl (f _ _ h fun _ z => by cases z))
  · exact .inl (.inr ⟨o, f _ _ h fun _ z => by cases z⟩)
  · exact .inr h
theorem KX.dp {K : PySem.W.Frag} {H H' : Hp} {v : V} {d : PyData} (f : KX H H') (h : Dp K H v d) : Dp K H' v d := dp_up f.l f.t d v h
theorem KX.dps {K : PySem.W.Frag} {H H' : Hp} {vs : List V} {ds : List PyData} (f : KX H H') (h : DpAll K H vs ds) : DpAll K H' vs ds := dps_up f.l f.t ds vs h
theorem KX.lst {H H' : Hp} {p : Addr} {xs : List V} (f : KX H H') (h : H p = some (.lst xs)) : H' p = some (.lst xs) := f _ _ h fun _ z => by cases z
theorem KX.bag {H H' : Hp} {a l : Addr} (f : KX H H') (b : BagAt H a l) : BagAt H' a l := by
  obtain ⟨ns, p, h, s, h1, h2, r⟩ := b
  exact ⟨ns, p, h, s, f.lst h1, f.lst h2, r⟩
structure CoC (K : PySem.W.Frag) (C : Addr) : Prop where
  cl : Cls K C
  nW : NoAttr K C "_writers"
  nF : NoAttr K C "_found"
theorem kwf : ¬ (("_writers" : Str) = "_found") := by decide +kernel
def coF (tw d : Addr) : List (Str × V) := putF "_found" (.ref d) (putF "_writers" (.ref tw) [])
theorem coF_eq (tw d : Addr) : coF tw d = ([("_writers", V.ref tw), ("_found", V.ref d)] : List (Str × V)) := by
  show (if ("_writers" : Str) = "_found" then [(("_writers" : Str), V.ref d)] else (("_writers" : Str), V.ref tw) :: putF "_found" (V.ref d) []) = _
  rw [if_neg kwf]
  rfl
theorem coF_w (tw d : Addr) : (coF tw d).lookup ("_writers" : Str) = some (.ref tw) := by
  unfold coF
  rw [lookup_putF, if_neg kwf, lookup_putF, if_pos rfl]
theorem coF_f (tw d : Addr) : (coF tw d).lookup ("_found" : Str) = some (.ref d) := by
  unfold coF
  rw [lookup_putF, if_pos rfl]
theorem coF_no (tw d : Addr) {m : Str} (h1 : ¬ m = "_found") (h2 : ¬ m = "_writers") : (coF tw d).lookup m = none := by
  unfold coF
  rw [lookup_putF, if_neg h1, lookup_putF, if_neg h2]
  rfl
/-- a stand as a key -/
def kS (s : Std) : NK := .tup [.tup (s.1.map .num), .tup (s.2.1.map .num), .tup [.num s.2.2.1, .num s.2.2.2]]
theorem datas_num : ∀ ns : List Int, NestedKey.datas (ns.map .num) = ns.map PyData.int
  | [] => by
    simp only [List.map_nil]
    unfold NestedKey.datas
    rfl
  | n :: ns => by
    simp only [List.map_cons]
    unfold NestedKey.datas NestedKey.data
    rw [datas_num ns]
theorem depth_num : ∀ ns : List Int, NestedKey.depthAll (ns.map .num) ≤ 1
  | [] => by
    simp only [List.map_nil, NestedKey.depthAll]
    decide
  | n :: ns => by
    have := depth_num ns
    simp only [List.map_cons, NestedKey.depthAll, NestedKey.depth]
    omega
theorem kS_data (s : Std) : (kS s).data = dS s := by
  unfold kS dS dI
  simp only [NestedKey.data, NestedKey.datas, datas_num]
theorem kS_depth (s : Std) : (kS s).depth ≤ 8 := by
  have h1 := depth_num s.1
  have h2 := depth_num s.2.1
  unfold kS
  simp only [NestedKey.depth, NestedKey.depthAll]
  omega
theorem num_inj : ∀ {a b : List Int}, a.map NestedKey.num = b.map NestedKey.num → a = b
  | [], [], _ => rfl
  | [], _ :: _, h => by cases h
  | _ :: _, [], h => by cases h
  | x :: a, y :: b, h => by
    rw [List.map_cons, List.map_cons] at h
    injection h with h1 h2
    injection h1 with h1
    rw [h1, num_inj h2]
theorem kS_inj {s s' : Std} (h : kS s = kS s') : s = s' := by
  obtain ⟨p, q, r, t⟩ := s
  obtain ⟨p', q', r', t'⟩ := s'
  unfold kS at h
  injection h with h
  injection h with h1 h
  injection h with h2 h
  injection h with h3 _
  injection h1 with h1
  injection h2 with h2
  injection h3 with h3
  injection h3 with h3 h4
  injection h4 with h4 _
  injection h3 with h3
  injection h4 with h4
  have h1 := num_inj h1
  have h2 := num_inj h2
  subst h1 h2 h3 h4
  rfl
theorem key_at {K : PySem.W.Frag} {H : Hp} {v : V} {s : Std} (h : Dp K H v (dS s)) : KeyAt K H v (kS s) := ⟨by rw [kS_data]; exact h, kS_depth s, _, rfl⟩
/-- what it keeps are steps of stands -/
def Cached (K : PySem.W.Frag) (H : Hp) (m : List Wr) (kvs : List (NK × V)) : Prop := ∀ kv ∈ kvs, ∃ s, kv.1 = kS s ∧ Dp K H kv.2 (.tuple ((stepsOf m s).map dStep))
theorem fz_steps (m : List Wr) (s : Std) : fz (.tuple ((stepsOf m s).map dStep)) = true := by
  unfold fz
  exact fz_map fun x _ => fz_dStep x
theorem Cached.up {K : PySem.W.Frag} {H H' : Hp} {m : List Wr} {kvs : List (NK × V)} (t : TupK K H H') (h : Cached K H m kvs) : Cached K H' m kvs := fun kv hk => by
  obtain ⟨s, e, hd⟩ := h kv hk
  exact ⟨s, e, dp_tk t (fz_steps m s) hd⟩
def CoAt (P : Program) (w : World) (K : PySem.W.Frag) (C : Addr) (H : Hp) (c : Addr) (m : List Wr) (n : Nat) : Prop :=
  ∃ dx tw d kvs, H c = some (.ins C dx (coF tw d)) ∧ Dp K H (.ref tw) (dMt m) ∧ DicAt P w K H d kvs ∧ Cached K H m kvs ∧ kvs.length ≤ n
theorem CoAt.fr {P : Program} {w : World} {K : PySem.W.Frag} {C : Addr} {H H' : Hp} {c : Addr} {m : List Wr} {n : Nat} (f : Fr H H') (h : CoAt P w K C H c m n) : CoAt P w K C H' c m n := by
  obtain ⟨dx, tw, d, kvs, h1, h2, h3, h4, h5⟩ := h
  refine ⟨dx, tw, d, kvs, f _ _ h1 (fun _ z => by cases z), dp_tk f.tk (fz_dMt m) h2, h3.up ?_ f.tk, h4.up f.tk, h5⟩
  obtain ⟨xs, e, _⟩ := h3
  rw [e]
  exact f _ _ e dicO_ne.1
theorem look_new {kvs : List (NK × V)} {k : NK} {v : V} (h : lookN kvs k = none) : putN kvs k v = kvs ++ [(k, v)] ∧ lookN (putN kvs k v) k = some v := by
  have e : putN kvs k v = kvs ++ [(k, v)] := by
    unfold putN
    rw [h]
    rfl
  refine ⟨e, ?_⟩
  rw [e]
  unfold lookN at h ⊢
  rw [List.find?_append]
  cases hf : kvs.find? (fun kv => decide (kv.1 = k)) with
  | some x =>
    rw [hf] at h
    cases h
  | none => simp
theorem look_in {kvs : List (NK × V)} {k : NK} {v : V} (h : lookN kvs k = some v) : (k, v) ∈ kvs := by
  unfold lookN at h
  cases hf : kvs.find? (fun kv => decide (kv.1 = k)) with
  | none =>
    rw [hf] at h
    cases h
  | some x =>
    rw [hf] at h
    have e := Option.some.inj h
    have e1 := of_decide_eq_true (List.find?_some (p := fun kv : NK × V => decide (kv.1 = k)) hf)
    have e2 := List.mem_of_find?_eq_some hf
    have z : x = (k, v) := by
      obtain ⟨x1, x2⟩ := x
      exact Prod.ext e1 e
    rw [← z]
    exact e2
/-! ### readings with fields -/
section
variable {P : Program} {w : World} {K : PySem.W.Frag} {σ : L2.St} {H : Hp} {ta tb te : TE} {v : V} {ds : List PyData}
theorem ev_fld {c C dx : Addr} {fs : List (Str × V)} {f : Str} (ha : Ev ta σ H (.ref c)) (hc : H c = some (.ins C dx fs)) (cl : Cls K C) (no : NoAttr K C f) (l : fs.lookup f = some v) : Ev (tFld K ta f) σ H v := fun H1 e Q q =>
  ha H1 e _ fun H2 e2 => ⟨c, C, dx, fs, v, rfl, e2 _ _ (e _ _ hc), cl, no, l, q H2 e2⟩
theorem ev_notinN {d : Addr} {kvs : List (NK × V)} {k : NK} (ha : Ev ta σ H v) (hv : KeyAt K H v k) (hb : Ev tb σ H (.ref d)) (hd : DicAt P w K H d kvs) : Ev (tOp (rInN P w K true) ta tb) σ H (.bl (!(lookN kvs k).isSome)) := fun H1 e Q q =>
  ha H1 e _ fun H2 e2 => hb H2 (e.trans e2) _ fun H3 e3 => ⟨k, d, kvs, rfl, hv.up fun _ _ h => ex_t ((e.trans e2).trans e3) h, hd.same ((e.trans e2).trans e3), q H3 (e2.trans e3)⟩
theorem ev_dget {d : Addr} {kvs : List (NK × V)} {k : NK} {u : V} (hb : Ev tb σ H (.ref d)) (hd : DicAt P w K H d kvs) (ha : Ev ta σ H v) (hv : KeyAt K H v k) (l : lookN kvs k = some u) : Ev (tDGetN P w K tb ta) σ H u := fun H1 e Q q =>
  hb H1 e _ fun H2 e2 => ha H2 (e.trans e2) _ fun H3 e3 => ⟨d, kvs, k, u, rfl, hd.same ((e.trans e2).trans e3), hv.up fun _ _ h => ex_t ((e.trans e2).trans e3) h, l, q H3 (e2.trans e3)⟩
theorem inV_strs (z : Str) : ∀ zs : List Str, inV (.str z) (zs.map V.str) = decide (z ∈ zs)
  | [] => rfl
  | y :: zs => by
    have ih := inV_strs z zs
    unfold inV at ih ⊢
    rw [List.map_cons, List.any_cons, ih]
    show ((y == z) || decide (z ∈ zs)) = decide (z ∈ y :: zs)
    rw [Bool.eq_iff_iff]
    simp only [Bool.or_eq_true, beq_iff_eq, decide_eq_true_eq, List.mem_cons]
    exact or_congr ⟨Eq.symm, Eq.symm⟩ Iff.rfl
theorem dps_str : ∀ {vs : List V} {zs : List Str}, DpAll K H vs (zs.map PyData.str) → vs = zs.map V.str
  | _, [], h => by cases h; rfl
  | _, z :: zs, h => by
    cases h with
    | cons h t =>
      rw [dp_str h, dps_str t]
      rfl
theorem ev_inS {z : Str} {zs : List Str} {neg : Bool} {d : PyData} (ha : Ev ta σ H (.str z)) (hb : EvD K tb σ H d) (hd : d = .list (zs.map PyData.str) ∨ d = .tuple (zs.map PyData.str)) : Ev (tOp (rIn K neg) ta tb) σ H (.bl (if neg then !decide (z ∈ zs) else decide (z ∈ zs))) := fun H1 e Q q =>
  ha H1 e _ fun H2 e2 => hb H2 (e.trans e2) _ fun v H3 e3 hv => by
    have fl : (zs.map V.str).all flatV = true := List.all_eq_true.mpr fun x hx => by
      obtain ⟨m, _, rfl⟩ := List.mem_map.mp hx
      rfl
    rcases hd with rfl | rfl
    · obtain ⟨p, xs, rfl, hs, hxs⟩ := dp_lst hv
      rw [dps_str hxs] at hs
      exact ⟨p, _, rfl, .inl hs, rfl, fl, by rw [inV_strs]; exact q H3 (e2.trans e3)⟩
    · obtain ⟨p, xs, rfl, hs, hxs⟩ := dp_tup hv
      rw [dps_str hxs] at hs
      exact ⟨p, _, rfl, .inr hs, rfl, fl, by rw [inV_strs]; exact q H3 (e2.trans e3)⟩
/-- a loop that leaves all as it stands -/
theorem sd_forS {D : Ends} {tu : TS} {ti : TI} {g : TG} (hi : EvI K ti σ H ds) (Pv : Hp → Nat → L2.St → Hp → Prop) (h0 : ∀ H2, Ex H H2 → Pv H2 0 σ H2) (hT : ∀ H2 i σ' H', Pv H2 i σ' H' → Ex H2 H')
    (hs : ∀ H2 i d x σ' H' H'', Ex H H2 → ds[i]? = some d → Pv H2 i σ' H' → Ex H' H'' → Dp K H'' x d → g x σ' H'' fun σ2 H3 => tu { D with nx := Pv H2 (i + 1), ct := Pv H2 (i + 1), bk := D.nx } σ2 H3)
    (hd : ∀ H2 σ' H', Ex H H2 → Pv H2 ds.length σ' H' → D.nx σ' H') : tFor ti g tu D σ H :=
  hi H (Ex.refl H) _ fun J H2 e2 W => for_it W (Pv H2) (h0 H2 e2) (fun i σ' H' _ hP => hT H2 i σ' H' hP) (fun i x σ' Ha Hb hi hP hy => by
    obtain ⟨e3, d, h1, h2⟩ := hy
    exact hs H2 i d x σ' Ha Hb e2 h1 hP e3 h2) (fun σ' H' hP => hd H2 σ' H' e2 hP)
end
end Ink
namespace Ink
open PySem PySem.Spec PyProof.Rows L2 Evl
def RNeed (c : List PyData → PyData) : List PyData → PyData → Prop := fun ds d => ∃ m, GoodM m ∧ ds = [c (m.map dW)] ∧ d = .none
def beginS (m : List Wr) : Std := (List.replicate m.length 0, List.replicate m.length 0, -1, 0)
def spInit (P : Program) (w : World) (K : PySem.W.Frag) (C : Addr) (c : List PyData → PyData) : Sp := fun vs H Q _ => ∃ p dx v m, vs = [.ref p, v] ∧ H p = some (.ins C dx []) ∧ Dp K H v (c (m.map dW)) ∧ GoodM m ∧
  ∀ H', (∀ b o, H b = some o → b ≠ p → H' b = some o) → CoAt P w K C H' p m 0 → Q .non H'
def spBegin (P : Program) (w : World) (K : PySem.W.Frag) (C : Addr) : Sp := fun vs H Q _ => ∃ c m n, vs = [.ref c] ∧ CoAt P w K C H c m n ∧ m.length ≤ 3 ∧ ∀ v H', Same H H' → Dp K H' v (dS (beginS m)) → Q v H'
def spSteps (P : Program) (w : World) (K : PySem.W.Frag) (C : Addr) : Sp := fun vs H Q _ => ∃ c m n v s, vs = [.ref c, v] ∧ CoAt P w K C H c m n ∧ n < 90000 ∧ GoodM m ∧ Fits m s ∧ Dp K H v (dS s) ∧
  ∀ p vs H', H p = none → KX H H' → CoAt P w K C H' c m (n + 1) → H' p = some (.lst vs) → DpAll K H' vs ((stepsOf m s).map dStep) → Q (.ref p) H'
theorem sd_fld {K : PySem.W.Frag} {σ : L2.St} {H : Hp} {ta tv : TE} {f : Str} {d : PyData} {D : Ends} (h : EvD K tv σ H d)
    (k : ∀ y H1, Ex H H1 → Dp K H1 y d → ta σ H1 fun x H2 => ∃ a C dx fs, x = .ref a ∧ H2 a = some (.ins C dx fs) ∧ Cls K C ∧ NoAttr K C f ∧ fs.length < 1000 ∧ D.nx σ (upd H2 a (.ins C dx (putF f y fs)))) : sFld K ta tv f D σ H := h H (.refl H) _ k
theorem GoodM.isw {m : List Wr} (g : GoodM m) {x : Wr} (h : x ∈ m) : ShortA x.2.1 ∧ x.1.length ≤ 1000 ∧ isWr x.1 x.2.1 x.2.2.1 x.2.2.2 = true := by
  have w := g.wr x h
  refine ⟨w.short, ?_, w.is⟩
  have := w.name.2.1
  omega
theorem names_get {m : List Wr} {i : Nat} {d : PyData} (h : (enumD ((m.map (·.1)).map PyData.str))[i]? = some d) : i < m.length ∧ d = .tuple [.int (i : Int), .str (wr m i).1] := by
  have hi : i < m.length := by
    have := (List.getElem?_eq_some_iff.mp h).1
    rw [enum_len, List.length_map, List.length_map] at this
    exact this
  have e : ((m.map (·.1)).map PyData.str)[i]? = some (.str (wr m i).1) := by
    rw [List.getElem?_map, List.getElem?_map, wr_get hi]
    rfl
  rw [enumD_get e] at h
  exact ⟨hi, (Option.some.inj h).symm⟩
theorem name_not {m : List Wr} (g : GoodM m) {i : Nat} (hi : i < m.length) : (wr m i).1 ∉ (m.map (·.1)).take i := by
  have nd := g.nd
  have e : (m.map (·.1))[i]? = some (wr m i).1 := by
    rw [List.getElem?_map, wr_get hi]
    rfl
  obtain ⟨h1, h2⟩ := List.getElem?_eq_some_iff.mp e
  intro hm
  obtain ⟨j, hj, ej⟩ := List.mem_take_iff_getElem.mp hm
  rw [← h2] at ej
  exact (List.pairwise_iff_getElem.mp nd) j i (by omega) h1 (by omega) ej
section
variable {P : Program} {w : World} {K : PySem.W.Frag} {mg : Str → Option Value} {base : Heap}
theorem ok_needL {f : Addr} {fd : FuncData} {k : Nat} (F : Fun K "_need_company" "_need_company" sNeedCompany f fd) (T : Txt mg) (C_is_writer : Cal P w K mg base k "is_writer" ["thing"] (spP K RIsW)) : FnOk P w K mg base CX0 (k + 1) f fd ["writers"] (spP K (RNeed .list)) := by
  refine F.ok sc__need_company (fun vs H Q E h => ?_) (fun cdv A outer s H vs Q E hr h => ?_)
  · obtain ⟨ds, d, hd, ⟨m, _, rfl, _⟩, _⟩ := h
    exact hd.length
  · obtain ⟨ds, d, hd, ⟨m, g, rfl, rfl⟩, q⟩ := h
    obtain ⟨v0, rfl, h0⟩ := dps1 hd
    have l3 := g.len
    refine ⟨_, (pss_cons (ps_for PassesOwn.never rfl (pi_enum (by rfl) T.m_enumerate (pa_cons (pv 0) pa_nil)) (pg_tup rfl (pgs_cons (pg_name (i := 1) sc__need_company.nd rfl (.inl rfl)) (pgs_cons (pg_name (i := 2) sc__need_company.nd rfl (.inl rfl)) pgs_nil)))
    (pss_one (ps_if (pt_not (pt_val (pe_callC C_is_writer hr (by rfl) (pa_cons (pv 2) pa_nil))))
    (pss_one ps_never) pss_nil)))
    (pss_cons (ps_setLc (i := 3) (own := [("writer", 2)]) (g := (gName 2)) (by rfl) sc__need_company.nd rfl rfl (sw_true rfl rfl rfl (by decide +kernel)) (pi_list (pv 0)) (blkOk_by (own := [("writer", 2)]) (N := ["writers", "at", "writer", "names", "name"]) (sc := defScope sNeedCompany) (by decide +kernel)) (fun _ _ _ _ _ => (pg_name (i := 2) sc__need_company.nd rfl (Or.inl rfl))) (fun _ _ _ _ _ => pts_nil) (fun _ _ _ _ _ => (pe_ix (show IxR _ (rIxT K) from ix_tup) (pv 2) pe_int (fun _ _ => rfl))))
    (pss_cons (ps_for PassesOwn.never rfl (pi_enum (by rfl) T.m_enumerate (pa_cons (pv 3) pa_nil)) (pg_tup rfl (pgs_cons (pg_name (i := 1) sc__need_company.nd rfl (.inl rfl)) (pgs_cons (pg_name (i := 4) sc__need_company.nd rfl (.inl rfl)) pgs_nil)))
    (pss_one (ps_if (pt_cmpR (show OpR _ _ (rIn K false) from op_in_seq) (pv 4) (pe_slice sl_list (pv 3) po_none (po_some (pv 1))) (by rfl))
    (pss_one ps_never) pss_nil)))
    (pss_one (ps_if (pt_cmpR op_gt (pe_callB call_len (by rfl) T.m_len PySem.boot_len (pa_cons (pv 0) pa_nil)) (pe_globI (by rfl) T.e_MOST_WRITERS) (nomark _))
    (pss_one ps_never) pss_nil))))), ?_⟩
    refine sd_forS (K := K) (ei_enum (ed_var rfl h0)) (fun H2 i σ' H' => (∃ y1 y2, σ' = [some v0, y1, y2, none, none]) ∧ Ex H2 H') (fun H2 e2 => ⟨⟨none, none, rfl⟩, .refl _⟩) (fun H2 i σ' H' hP => hP.2) (fun H2 i d x σ' Ha Hb e2 hd hP eab hx => ?_) (fun H2 σ' H' e2 hP => ?_)
    · obtain ⟨⟨y1, y2, rfl⟩, ex⟩ := hP
      obtain ⟨hi, rfl⟩ := enum_w m hd
      obtain ⟨i1, i2, i3⟩ := g.isw (List.mem_of_getElem? (wr_get hi))
      refine tg2 hx fun u1 u2 a1 a2 => ?_
      refine Evl.s_when (b := !isWr (wr m i).1 (wr m i).2.1 (wr m i).2.2.1 (wr m i).2.2.2) (et_not (et_B (ev_bl (ed_call (eds_cons (ed_var rfl a2) eds_nil) ⟨wr m i, i1, i2, rfl, rfl⟩)))) (fun hb => ?_) fun hb H3 e3 => ⟨⟨_, _, rfl⟩, ex.trans (eab.trans e3)⟩
      rw [i3] at hb
      cases hb
    · obtain ⟨⟨y1, y2, rfl⟩, ex⟩ := hP
      have e1 := e2.trans ex
      have h0 := dp_same e1 h0
      dsimp only
      refine sd_asg (K := K) (EvN.list (ds := (m.map (·.1)).map PyData.str) ?_) fun w1 H3 e3 g1 => ?_
      · rw [List.map_map]
        refine en_map m dW _ (ei_lst (ed_var rfl h0)) (m_le g (by decide)) (fun x _ => by show fz (PyData.str _) = true; unfold fz; rfl) fun j x H5 y hx e5 hdx R kk => ?_
        exact kk _ rfl (ed_ixT (ed_var rfl hdx) ev_c (by decide) rfl)
      · dsimp only
        have e13 := e1.trans e3
        have h0 := dp_same e3 h0
        refine sd_forS (K := K) (ei_enum (ed_var rfl g1)) (fun H2 i σ' H' => (∃ y1 y2 y4, σ' = [some v0, y1, y2, some w1, y4]) ∧ Ex H2 H') (fun H2 e2 => ⟨⟨_, _, _, rfl⟩, .refl _⟩) (fun H2 i σ' H' hP => hP.2) (fun H4 i d x σ' Ha Hb e4 hd hP eab hx => ?_) (fun H4 σ' H5 e4 hP => ?_)
        · obtain ⟨⟨y1, y2, y4, rfl⟩, ex⟩ := hP
          obtain ⟨hi, rfl⟩ := names_get hd
          refine tg2 hx fun u1 u2 a1 a2 => ?_
          obtain rfl := dp_int a1
          obtain rfl := dp_str a2
          have g1 := dp_same ((e4.trans ex).trans eab) g1
          refine Evl.s_when (b := decide ((wr m i).1 ∈ (m.map (·.1)).take i)) (et_test (ev_inS (neg := false) (zs := (m.map (·.1)).take i) (ev_var rfl) (en_slToL (k := i) (ed_var rfl g1) (ev_var rfl)).list (.inl (by rw [List.map_take])))) (fun hb => ?_) fun hb H6 e6 => ⟨⟨_, _, _, rfl⟩, ex.trans (eab.trans e6)⟩
          exact absurd (of_decide_eq_true hb) (name_not g hi)
        · obtain ⟨⟨y1, y2, y4, rfl⟩, ex⟩ := hP
          have e15 := e13.trans (e4.trans ex)
          have h0 := dp_same (e4.trans ex) h0
          refine Evl.s_when (b := decide (((m.length : Nat) : Int) > 3)) (et_test (ev_op (ev_is (ev_lenD (ed_var rfl h0) (.inl rfl)) (by rw [List.length_map])) ev_c rv_I0)) (fun hb => ?_) fun hb H6 e6 => q .non H6 (e15.trans e6) .non
          have := of_decide_eq_true hb
          omega
theorem ok_needT {f : Addr} {fd : FuncData} {k : Nat} (F : Fun K "_need_company" "_need_company" sNeedCompany f fd) (T : Txt mg) (C_is_writer : Cal P w K mg base k "is_writer" ["thing"] (spP K RIsW)) : FnOk P w K mg base CX0 (k + 1) f fd ["writers"] (spP K (RNeed .tuple)) := by
  refine F.ok sc__need_company (fun vs H Q E h => ?_) (fun cdv A outer s H vs Q E hr h => ?_)
  · obtain ⟨ds, d, hd, ⟨m, _, rfl, _⟩, _⟩ := h
    exact hd.length
  · obtain ⟨ds, d, hd, ⟨m, g, rfl, rfl⟩, q⟩ := h
    obtain ⟨v0, rfl, h0⟩ := dps1 hd
    have l3 := g.len
    refine ⟨_, (pss_cons (ps_for PassesOwn.never rfl (pi_enumT (by rfl) T.m_enumerate (pa_cons (pv 0) pa_nil)) (pg_tup rfl (pgs_cons (pg_name (i := 1) sc__need_company.nd rfl (.inl rfl)) (pgs_cons (pg_name (i := 2) sc__need_company.nd rfl (.inl rfl)) pgs_nil)))
    (pss_one (ps_if (pt_not (pt_val (pe_callC C_is_writer hr (by rfl) (pa_cons (pv 2) pa_nil))))
    (pss_one ps_never) pss_nil)))
    (pss_cons (ps_setLc (i := 3) (own := [("writer", 2)]) (g := (gName 2)) (by rfl) sc__need_company.nd rfl rfl (sw_true rfl rfl rfl (by decide +kernel)) (pi_tup (pv 0)) (blkOk_by (own := [("writer", 2)]) (N := ["writers", "at", "writer", "names", "name"]) (sc := defScope sNeedCompany) (by decide +kernel)) (fun _ _ _ _ _ => (pg_name (i := 2) sc__need_company.nd rfl (Or.inl rfl))) (fun _ _ _ _ _ => pts_nil) (fun _ _ _ _ _ => (pe_ix (show IxR _ (rIxT K) from ix_tup) (pv 2) pe_int (fun _ _ => rfl))))
    (pss_cons (ps_for PassesOwn.never rfl (pi_enum (by rfl) T.m_enumerate (pa_cons (pv 3) pa_nil)) (pg_tup rfl (pgs_cons (pg_name (i := 1) sc__need_company.nd rfl (.inl rfl)) (pgs_cons (pg_name (i := 4) sc__need_company.nd rfl (.inl rfl)) pgs_nil)))
    (pss_one (ps_if (pt_cmpR (show OpR _ _ (rIn K false) from op_in_seq) (pv 4) (pe_slice sl_list (pv 3) po_none (po_some (pv 1))) (by rfl))
    (pss_one ps_never) pss_nil)))
    (pss_one (ps_if (pt_cmpR op_gt (pe_callB call_len (by rfl) T.m_len PySem.boot_len (pa_cons (pv 0) pa_nil)) (pe_globI (by rfl) T.e_MOST_WRITERS) (nomark _))
    (pss_one ps_never) pss_nil))))), ?_⟩
    refine sd_forS (K := K) (ei_enumT (ed_var rfl h0)) (fun H2 i σ' H' => (∃ y1 y2, σ' = [some v0, y1, y2, none, none]) ∧ Ex H2 H') (fun H2 e2 => ⟨⟨none, none, rfl⟩, .refl _⟩) (fun H2 i σ' H' hP => hP.2) (fun H2 i d x σ' Ha Hb e2 hd hP eab hx => ?_) (fun H2 σ' H' e2 hP => ?_)
    · obtain ⟨⟨y1, y2, rfl⟩, ex⟩ := hP
      obtain ⟨hi, rfl⟩ := enum_w m hd
      obtain ⟨i1, i2, i3⟩ := g.isw (List.mem_of_getElem? (wr_get hi))
      refine tg2 hx fun u1 u2 a1 a2 => ?_
      refine Evl.s_when (b := !isWr (wr m i).1 (wr m i).2.1 (wr m i).2.2.1 (wr m i).2.2.2) (et_not (et_B (ev_bl (ed_call (eds_cons (ed_var rfl a2) eds_nil) ⟨wr m i, i1, i2, rfl, rfl⟩)))) (fun hb => ?_) fun hb H3 e3 => ⟨⟨_, _, rfl⟩, ex.trans (eab.trans e3)⟩
      rw [i3] at hb
      cases hb
    · obtain ⟨⟨y1, y2, rfl⟩, ex⟩ := hP
      have e1 := e2.trans ex
      have h0 := dp_same e1 h0
      dsimp only
      refine sd_asg (K := K) (EvN.list (ds := (m.map (·.1)).map PyData.str) ?_) fun w1 H3 e3 g1 => ?_
      · rw [List.map_map]
        refine en_map m dW _ (ei_tup (ed_var rfl h0)) (m_le g (by decide)) (fun x _ => by show fz (PyData.str _) = true; unfold fz; rfl) fun j x H5 y hx e5 hdx R kk => ?_
        exact kk _ rfl (ed_ixT (ed_var rfl hdx) ev_c (by decide) rfl)
      · dsimp only
        have e13 := e1.trans e3
        have h0 := dp_same e3 h0
        refine sd_forS (K := K) (ei_enum (ed_var rfl g1)) (fun H2 i σ' H' => (∃ y1 y2 y4, σ' = [some v0, y1, y2, some w1, y4]) ∧ Ex H2 H') (fun H2 e2 => ⟨⟨_, _, _, rfl⟩, .refl _⟩) (fun H2 i σ' H' hP => hP.2) (fun H4 i d x σ' Ha Hb e4 hd hP eab hx => ?_) (fun H4 σ' H5 e4 hP => ?_)
        · obtain ⟨⟨y1, y2, y4, rfl⟩, ex⟩ := hP
          obtain ⟨hi, rfl⟩ := names_get hd
          refine tg2 hx fun u1 u2 a1 a2 => ?_
          obtain rfl := dp_int a1
          obtain rfl := dp_str a2
          have g1 := dp_same ((e4.trans ex).trans eab) g1
          refine Evl.s_when (b := decide ((wr m i).1 ∈ (m.map (·.1)).take i)) (et_test (ev_inS (neg := false) (zs := (m.map (·.1)).take i) (ev_var rfl) (en_slToL (k := i) (ed_var rfl g1) (ev_var rfl)).list (.inl (by rw [List.map_take])))) (fun hb => ?_) fun hb H6 e6 => ⟨⟨_, _, _, rfl⟩, ex.trans (eab.trans e6)⟩
          exact absurd (of_decide_eq_true hb) (name_not g hi)
        · obtain ⟨⟨y1, y2, y4, rfl⟩, ex⟩ := hP
          have e15 := e13.trans (e4.trans ex)
          have h0 := dp_same (e4.trans ex) h0
          refine Evl.s_when (b := decide (((m.length : Nat) : Int) > 3)) (et_test (ev_op (ev_is (ev_lenD (ed_var rfl h0) (.inr rfl)) (by rw [List.length_map])) ev_c rv_I0)) (fun hb => ?_) fun hb H6 e6 => q .non H6 (e15.trans e6) .non
          have := of_decide_eq_true hb
          omega
theorem ok_init {f C : Addr} {fd : FuncData} {k : Nat} {c : List PyData → PyData} {df : List V} (F : FunD K "__init__" "Company.__init__" (defArgs sCompanyInit) (defBody sCompanyInit) (defScope sCompanyInit) df [] f fd) (T : Txt mg) (Z : CoC K C) (hc : c = .list ∨ c = .tuple)
    (C__need_company : Cal P w K mg base k "_need_company" ["writers"] (spP K (RNeed c))) : FnOk P w K mg base CX0 (k + 1) f fd ["self", "writers"] (spInit P w K C c) := by
  refine F.ok sc_Company___init__ (fun vs H Q E h => ?_) (fun cdv A outer s H vs Q E hr h => ?_)
  · obtain ⟨p, dx, v, m, rfl, _⟩ := h
    rfl
  · obtain ⟨p, dx, v, m, rfl, hp, hv, g, q⟩ := h
    refine ⟨_, (pss_cons (ps_expr (pe_callC C__need_company hr (by rfl) (pa_cons (pv 1) pa_nil)))
    (pss_cons (ps_fld (pv 0) (pe_callTy call_tuple_of (by rfl) T.m_tuple (by decide +kernel) (pa_cons (pv 1) pa_nil)) rfl)
    (pss_one (ps_fld (pv 0) pe_dnewN rfl)))), ?_⟩
    refine (ed_call (K := K) (d := .none) (eds_cons (ed_var rfl hv) eds_nil) ⟨m, g, rfl, rfl⟩) H (.refl H) _ fun _ H1 e1 _ => ?_
    have hv := dp_same e1 hv
    have hw : EvD K (tCB (fun xs H Q => ∃ p ys, xs = [.ref p] ∧ ((SqL K H p ys ∧ ∀ l, H l = none → Q (.ref l) (upd H l (.tup ys))) ∨ (SqT K H p ys ∧ Q (.ref p) H))) (tCons (tVar 1) tNil)) [some (.ref p), some v] H1 (dMt m) := by
      rcases hc with rfl | rfl
      · exact ed_tuple (ed_var rfl hv)
      · exact ed_tupleT (ed_var rfl hv)
    refine sd_fld hw fun u H2 e2 hu => ?_
    obtain ⟨tw, xs, rfl, htw, hxs⟩ := dp_tup hu
    have hp2 := e2 _ _ (e1 _ _ hp)
    refine ⟨.ref p, rfl, p, C, dx, [], rfl, hp2, Z.cl, Z.nW, (by show 0 < 1000; decide), ?_⟩
    intro d H3 nd hb hd
    have pd : p ≠ d := ne_of_none (upd_same (H := H2) (a := p) (o := .ins C dx (putF "_writers" (.ref tw) []))) nd
    refine ⟨.ref p, rfl, p, C, dx, _, rfl, (hb p pd).trans upd_same, Z.cl, Z.nF, (by show 1 < 1000; decide), ?_⟩
    have t3 : ∀ b o, H2 b = some o → b ≠ p → upd H3 p (.ins C dx (coF tw d)) b = some o := fun b o e nb => by
      have nbd : b ≠ d := ne_of_none (by rw [upd_ne nb]; exact e) nd
      rw [upd_ne nb, hb b nbd, upd_ne nb]
      exact e
    have tk : TupK K H2 (upd H3 p (.ins C dx (coF tw d))) := fun b xs h => by
      rcases h with (h | ⟨o, h⟩) | h
      · exact .inl (.inl (t3 _ _ h (ne_of h hp2 (by intro z; cases z))))
      · exact .inl (.inr ⟨o, t3 _ _ h (ne_of h hp2 (by intro z; cases z))⟩)
      · exact .inr h
    refine q _ (fun b o e nb => t3 b o (e2 _ _ (e1 _ _ e)) nb) ⟨dx, tw, d, [], upd_same, dp_tk tk (fz_dMt m) (.tup htw hxs), hd.up (upd_ne pd.symm) ?_, fun kv hk => (by cases hk), Nat.le_refl _⟩
    exact TupK.upd ((hb p pd).trans upd_same) (fun _ z => by cases z) fun _ _ z => by cases z
end
end Ink
namespace Ink
open PySem PySem.Spec PyProof.Rows L2 Evl
/-! ### the law's own steps -/
def dP (x : Arw) : PyData := .tuple [.str x.2.1, .int x.2.2]
def arrsAt (w : Wr) (p : Int) : List Arw := w.2.1.filter fun x => decide (V.int x.1 = V.int p)
def RArrs : List PyData → PyData → Prop := fun ds d => ∃ (w : Wr) (p : Int), w.2.1.length ≤ 9 ∧ ds = [dW w, .int p] ∧ d = .list ((arrsAt w p).map dP)
def RBegin : List PyData → PyData → Prop := fun ds d => ∃ m, m.length ≤ 3 ∧ ds = [dMl m] ∧ d = dS (beginS m)
def RCounts : List PyData → PyData → Prop := fun ds d => ∃ m s, ∃ k : Nat, GoodM m ∧ s.1.length = m.length ∧ k < m.length ∧ ds = [dMl m, dI s.1, .int (k : Int)] ∧ d = .bool (minds m s k)
/-- a stand as steps lead to it: who does not wait has waited no time, who wrote last has not written more than is let -/
structure Okay (m : List Wr) (s : Std) : Prop extends Fits m s where
  w0 : ∀ j, j < m.length → minds m s j = false → wt s j = 0
  run : s.2.2 = (-1, 0) ∨ ∃ k : Nat, k < m.length ∧ s.2.2.1 = (k : Int) ∧ (wr m k).2.2.2 ≠ 0 ∧ s.2.2.2 ≤ (wr m k).2.2.2
def RCan : List PyData → PyData → Prop := fun ds d => ∃ m s, ∃ k : Nat, GoodM m ∧ Okay m s ∧ k < m.length ∧ ds = [dMl m, dS s, .int (k : Int)] ∧ d = .bool (mayW m s k)
def RAfter : List PyData → PyData → Prop := fun ds d => ∃ m s, ∃ k : Nat, ∃ to, GoodM m ∧ Okay m s ∧ k < m.length ∧ ds = [dMl m, dS s, .int (k : Int), .int to] ∧ d = dS (behind m s k to)
def RLSteps : List PyData → PyData → Prop := fun ds d => ∃ m s, GoodM m ∧ Okay m s ∧ ds = [dMl m, dS s] ∧ d = .list ((stepsOf m s).map dStep)
theorem fz_dP (x : Arw) : fz (dP x) = true := by
  unfold dP fz fzAll fzAll fzAll fz
  rfl
theorem lets_ok : ∀ c ∈ lets, PyData.strOk (single c) = true := by decide +kernel
theorem dP_lay {x : Arw} (h : goodA x) : (dP x).canLay0 = true := by
  obtain ⟨_, _, ⟨c, hc, e⟩, _⟩ := h
  unfold dP
  simp only [PyData.canLay0, PyData.canLayAll0, e, lets_ok c hc, Bool.and_true]
theorem dP_depth (x : Arw) : (dP x).depth ≤ 3 := by
  unfold dP
  simp only [PyData.depth, PyData.depthAll]
  decide
theorem lay_map {α : Type} {f : α → PyData} : ∀ {l : List α}, (∀ x ∈ l, (f x).canLay0 = true) → PyData.canLayAll0 (l.map f) = true
  | [], _ => by simp only [List.map_nil, PyData.canLayAll0]
  | x :: l, h => by
    simp only [List.map_cons, PyData.canLayAll0, h x (List.mem_cons_self ..), Bool.true_and]
    exact lay_map fun y hy => h y (List.mem_cons_of_mem _ hy)
theorem depth_map {α : Type} {f : α → PyData} {n : Nat} : ∀ {l : List α}, (∀ x ∈ l, (f x).depth ≤ n) → PyData.depthAll (l.map f) ≤ n
  | [], _ => by simp only [List.map_nil, PyData.depthAll]; omega
  | x :: l, h => by
    have h1 := h x (List.mem_cons_self ..)
    have h2 := depth_map (f := f) (l := l) fun y hy => h y (List.mem_cons_of_mem _ hy)
    simp only [List.map_cons, PyData.depthAll]
    omega
theorem arrs_shaped {w : Wr} (h : ∀ x ∈ w.2.1, goodA x) (p : Int) : SeqAt.shaped (.list ((arrsAt w p).map dP)) = true := by
  have hm : ∀ x ∈ arrsAt w p, goodA x := fun x hx => h x (List.mem_filter.mp hx).1
  have h1 := lay_map fun x hx => dP_lay (hm x hx)
  have h2 := depth_map (f := dP) (l := arrsAt w p) fun x _ => dP_depth x
  unfold SeqAt.shaped
  rw [Bool.and_eq_true, decide_eq_true_eq]
  refine ⟨by simp only [PyData.canLay0]; exact h1, ?_⟩
  simp only [PyData.depth]
  omega
theorem eqv_nil {α : Type} (l : List α) (f : α → PyData) : PyData.eqv (.list (l.map f)) (.list []) = l.isEmpty := by
  cases l with
  | nil => simp only [List.map_nil, PyData.eqv, PyData.eqvAll, List.isEmpty_nil]
  | cons x l => simp only [List.map_cons, PyData.eqv, PyData.eqvAll, List.isEmpty_cons]
/-- the law's look is the program's -/
theorem counts_eq {m : List Wr} (g : GoodM m) {s : Std} {k : Nat} (hk : k < m.length) : (decide ((wr m k).2.2.1 > 0) && !(arrsAt (wr m k) (pl s k)).isEmpty) = minds m s k := by
  unfold minds
  have h0 := (g.at hk).p0
  have e1 : decide ((wr m k).2.2.1 > 0) = !decide (V.int (wr m k).2.2.1 = V.int 0) := by
    rw [← decide_not]
    refine decide_eq_decide.mpr ⟨fun h e => ?_, fun h => ?_⟩
    · injection e with e
      omega
    · have : (wr m k).2.2.1 ≠ 0 := fun e => h (by rw [e])
      omega
  have e2 : (!(arrsAt (wr m k) (pl s k)).isEmpty) = decide (pl s k ∈ (wr m k).2.1.map (·.1)) := by
    rw [Bool.eq_iff_iff, Bool.not_eq_true', List.isEmpty_eq_false_iff_exists_mem, decide_eq_true_eq, List.mem_map]
    constructor
    · rintro ⟨x, hx⟩
      obtain ⟨h1, h2⟩ := List.mem_filter.mp hx
      have h2 := of_decide_eq_true h2
      injection h2 with h2
      exact ⟨x, h1, h2⟩
    · rintro ⟨x, h1, h2⟩
      exact ⟨x, List.mem_filter.mpr ⟨h1, by rw [h2]; exact decide_eq_true rfl⟩⟩
  rw [e1, e2]
section
variable {P : Program} {w : World} {K : PySem.W.Frag} {mg : Str → Option Value} {base : Heap}
end
end Ink
namespace Ink
open PySem PySem.Spec PyProof.Rows L2 Evl
theorem run_eq {m : List Wr} (g : GoodM m) {s : Std} (o : Okay m s) {k : Nat} (hk : k < m.length) : (decide ((wr m k).2.2.2 > 0) && PyData.eqv (.tuple [.int s.2.2.1, .int s.2.2.2]) (.tuple [.int (k : Int), .int (wr m k).2.2.2])) = (!decide (V.int (wr m k).2.2.2 = V.int 0) && (decide (V.int s.2.2.1 = V.int (k : Int)) && decide (s.2.2.2 ≥ (wr m k).2.2.2))) := by
  have h0 := (g.at hk).c0
  simp only [PyData.eqv, PyData.eqvAll, Bool.and_true]
  rw [Bool.eq_iff_iff]
  simp only [Bool.and_eq_true, Bool.not_eq_true', decide_eq_true_eq, decide_eq_false_iff_not, beq_iff_eq, V.int.injEq]
  constructor
  · rintro ⟨h1, h2, h3⟩
    exact ⟨by omega, h2, by omega⟩
  · rintro ⟨h1, h2, h3⟩
    refine ⟨by omega, h2, ?_⟩
    rcases o.run with e | ⟨j, hj, e1, e2, e3⟩
    · rw [e] at h2
      have : (-1 : Int) = k := h2
      omega
    · have : j = k := by omega
      subst this
      omega
theorem later_eq {m : List Wr} {s : Std} (o : Okay m s) {k : Nat} (hk : k < m.length) : ((List.range s.2.1.length).map fun (j : Nat) => wt s j + (if minds m s j then 1 else 0)).set k 0 = (List.range s.2.1.length).map fun (j : Nat) => if (!decide (V.int (j : Int) = V.int (k : Int)) && minds m s j) = true then wt s j + 1 else 0 := by
  refine List.ext_getElem? fun j => ?_
  have hl := o.l2
  by_cases hj : j < s.2.1.length
  · rw [List.getElem?_set, List.getElem?_map, List.getElem?_map, List.getElem?_range hj]
    have hl2 : k < ((List.range s.2.1.length).map fun (j : Nat) => wt s j + (if minds m s j then 1 else 0)).length := by
      rw [List.length_map, List.length_range]
      omega
    by_cases e : k = j
    · subst e
      rw [if_pos rfl, if_pos hl2]
      show some 0 = some (if (!decide (V.int (k : Int) = V.int (k : Int)) && minds m s k) = true then wt s k + 1 else 0)
      rw [decide_eq_true rfl]
      rfl
    · rw [if_neg e]
      show some (wt s j + (if minds m s j = true then 1 else 0)) = some (if (!decide (V.int (j : Int) = V.int (k : Int)) && minds m s j) = true then wt s j + 1 else 0)
      rw [decide_eq_false (show ¬ V.int (j : Int) = V.int (k : Int) from fun z => by injection z with z; omega)]
      show some (wt s j + (if minds m s j = true then 1 else 0)) = some (if minds m s j = true then wt s j + 1 else 0)
      cases hm : minds m s j with
      | true => rfl
      | false =>
        rw [o.w0 j (by omega) hm]
        rfl
  · rw [List.getElem?_eq_none (by rw [List.length_set, List.length_map, List.length_range]; omega), List.getElem?_eq_none (by rw [List.length_map, List.length_range]; omega)]
theorem ixN_nat {n k : Nat} (h : k < n) : ixN n (k : Int) = some k := by
  unfold ixN
  rw [if_pos (by omega), if_pos (by omega), Int.toNat_natCast]
section
variable {P : Program} {w : World} {K : PySem.W.Frag} {mg : Str → Option Value} {base : Heap}
end
end Ink
namespace Ink
open PySem PySem.Spec PyProof.Rows L2 Evl
/-! ### the law's steps are sorted like the program's -/
def dL (m : List Wr) (s : Std) (x : Mv) : PyData := .tuple [.str x.1, .int (x.2.1 : Int), dS (behind m s x.2.1 x.2.2)]
theorem fz_dL (m : List Wr) (s : Std) (x : Mv) : fz (dL m s x) = true := by
  have h := fz_dS (behind m s x.2.1 x.2.2)
  unfold dL
  simp only [fz, fzAll, h, Bool.and_true]
theorem alike_ints : ∀ a b : List Int, PySem.W.alikeAll (a.map PyData.int) (b.map PyData.int) = true
  | [], _ => by simp only [List.map_nil, PySem.W.alikeAll]
  | _ :: _, [] => by simp only [List.map_cons, List.map_nil, PySem.W.alikeAll]
  | x :: a, y :: b => by simp only [List.map_cons, PySem.W.alikeAll, PySem.W.alike, alike_ints a b, Bool.and_self]
theorem alike_dS (a b : Std) : PySem.W.alike (dS a) (dS b) = true := by
  unfold dS dI
  simp only [PySem.W.alike, PySem.W.alikeAll, alike_ints, Bool.and_self]
theorem alike_dL (m : List Wr) (s : Std) (a b : Mv) : PySem.W.alike (dL m s a) (dL m s b) = true := by
  unfold dL
  simp only [PySem.W.alike, PySem.W.alikeAll, alike_dS, Bool.and_self]
theorem depth_dI (a : List Int) : (dI a).depth ≤ 2 := by
  have := depth_map (f := PyData.int) (n := 1) (l := a) fun x _ => by simp only [PyData.depth]; omega
  unfold dI
  simp only [PyData.depth]
  omega
theorem depth_dS (a : Std) : (dS a).depth ≤ 6 := by
  have h1 := depth_dI a.1
  have h2 := depth_dI a.2.1
  unfold dS
  simp only [PyData.depth, PyData.depthAll]
  omega
theorem depth_dL (m : List Wr) (s : Std) (a : Mv) : (dL m s a).depth ≤ 64 := by
  have h1 := depth_dS (behind m s a.2.1 a.2.2)
  unfold dL
  simp only [PyData.depth, PyData.depthAll]
  omega
theorem lex_tok (x x' : List Nat) (n n' : Int) (r r' : List (Int ⊕ List Nat)) (h : x ≠ x' ∨ n ≠ n') : PyProof.Rows.lexLt PyProof.Rows.itemOrd (.inl 1 :: .inr x :: .inl 1 :: .inl n :: r) (.inl 1 :: .inr x' :: .inl 1 :: .inl n' :: r') = PyProof.Rows.lexLt PyProof.Rows.itemOrd ([.inl 1, .inr x, .inl 1, .inl n] : List (Int ⊕ List Nat)) [.inl 1, .inr x', .inl 1, .inl n'] := by
  rw [PyProof.Rows.lex_self, PyProof.Rows.lex_self]
  by_cases e : x = x'
  · subst e
    have hn : n ≠ n' := h.elim (fun z => absurd rfl z) id
    rw [PyProof.Rows.lex_self, PyProof.Rows.lex_self, PyProof.Rows.lex_self, PyProof.Rows.lex_self]
    have hne : (Sum.inl n : Int ⊕ List Nat) ≠ Sum.inl n' := fun z => hn (by injection z)
    exact PySem.W.lex_atom hne _ _
  · have hne : (Sum.inr x : Int ⊕ List Nat) ≠ Sum.inr x' := fun z => e (by injection z)
    rw [PySem.W.lex_atom hne, PySem.W.lex_atom hne [.inl 1, .inl n]]
theorem toks_mv (a : Mv) : ∃ r, PySem.W.keyToks (dMv a) = .inl 1 :: .inr a.1.cps.toList :: .inl 1 :: .inl (a.2.1 : Int) :: r := by
  unfold dMv
  simp only [PySem.W.keyToks, PySem.W.keyToksAll, List.cons_append, List.nil_append]
  exact ⟨_, rfl⟩
theorem toks_dL (m : List Wr) (s : Std) (a : Mv) : ∃ r, PySem.W.keyToks (dL m s a) = .inl 1 :: .inr a.1.cps.toList :: .inl 1 :: .inl (a.2.1 : Int) :: r := by
  unfold dL
  simp only [PySem.W.keyToks, PySem.W.keyToksAll, List.cons_append, List.nil_append]
  exact ⟨_, rfl⟩
theorem le_tok (x y : PyData) : PySem.W.dataLe false id x y = !PyProof.Rows.lexLt PyProof.Rows.itemOrd (PySem.W.keyToks y) (PySem.W.keyToks x) := rfl
theorem moves_uniq {m : List Wr} (g : GoodM m) {s : Std} {a b : Mv} (ha : a ∈ moves m s) (hb : b ∈ moves m s) (h1 : a.1 = b.1) (h2 : a.2.1 = b.2.1) : a = b := by
  unfold moves at ha hb
  obtain ⟨i, hi, hai⟩ := List.mem_flatMap.mp ha
  obtain ⟨j, hj, hbj⟩ := List.mem_flatMap.mp hb
  unfold movesAt at hai hbj
  split at hai
  · split at hbj
    · obtain ⟨x, hx, rfl⟩ := List.mem_map.mp hai
      obtain ⟨y, hy, rfl⟩ := List.mem_map.mp hbj
      have e : i = j := h2
      subst e
      obtain ⟨x1, x2⟩ := List.mem_filter.mp hx
      obtain ⟨y1, y2⟩ := List.mem_filter.mp hy
      have x2 := of_decide_eq_true x2
      have y2 := of_decide_eq_true y2
      injection x2 with x2
      injection y2 with y2
      have h1 : x.2.1 = y.2.1 := h1
      have no : ∀ u v : Arw, u.1 = v.1 → u.2.1 = v.2.1 → ¬ lessA u v := fun u v e1 e2 h => by
        rcases h with h | ⟨_, h⟩
        · omega
        · rw [e2] at h
          exact List.lt_irrefl _ h
      have rise := (g.at (List.mem_range.mp hi)).rise
      obtain ⟨p, hp, ep⟩ := List.mem_iff_getElem.mp x1
      obtain ⟨q, hq, eq⟩ := List.mem_iff_getElem.mp y1
      have exy : x = y := by
        rcases Nat.lt_trichotomy p q with h | h | h
        · have := (List.pairwise_iff_getElem.mp rise) p q hp hq h
          rw [ep, eq] at this
          exact absurd this (no x y (by omega) h1)
        · subst h
          exact ep.symm.trans eq
        · have := (List.pairwise_iff_getElem.mp rise) q p hq hp h
          rw [ep, eq] at this
          exact absurd this (no y x (by omega) h1.symm)
      rw [exy]
    · cases hbj
  · cases hai
theorem le_same {m : List Wr} (g : GoodM m) {s : Std} {a b : Mv} (ha : a ∈ moves m s) (hb : b ∈ moves m s) : leMv a b = PySem.W.dataLe false id (dL m s a) (dL m s b) := by
  unfold leMv
  rw [le_tok, le_tok]
  by_cases h : a = b
  · subst h
    rw [PyProof.Rows.lex_irrefl, PyProof.Rows.lex_irrefl]
  · obtain ⟨r1, e1⟩ := toks_mv a
    obtain ⟨r2, e2⟩ := toks_mv b
    obtain ⟨r3, e3⟩ := toks_dL m s a
    obtain ⟨r4, e4⟩ := toks_dL m s b
    have hne : b.1.cps.toList ≠ a.1.cps.toList ∨ (b.2.1 : Int) ≠ (a.2.1 : Int) := by
      by_cases h1 : b.1.cps.toList = a.1.cps.toList
      · refine .inr fun h2 => h (moves_uniq g ha hb (PySem.W.str_of_cps h1).symm ?_)
        omega
      · exact .inl h1
    rw [e1, e2, e3, e4, lex_tok _ _ _ _ _ _ hne, lex_tok _ _ _ _ r4 r3 hne]
theorem sort_dL {m : List Wr} (g : GoodM m) (s : Std) : ((moves m s).map (dL m s)).mergeSort (PySem.W.dataLe false id) = ((moves m s).mergeSort leMv).map (dL m s) :=
  (List.map_mergeSort (r := leMv) (s := PySem.W.dataLe false id) (f := dL m s) (l := moves m s) fun a ha b hb => le_same g ha hb).symm
theorem moves_at {m : List Wr} {s : Std} {a : Mv} (h : a ∈ moves m s) : a.2.1 < m.length := by
  unfold moves at h
  obtain ⟨j, hj, hmj⟩ := List.mem_flatMap.mp h
  unfold movesAt at hmj
  split at hmj
  · obtain ⟨y, _, rfl⟩ := List.mem_map.mp hmj
    exact List.mem_range.mp hj
  · cases hmj
theorem movesAt_len {m : List Wr} (g : GoodM m) (s : Std) {i : Nat} (h : i < m.length) : (movesAt m s i).length ≤ 9 := by
  unfold movesAt
  split
  · rw [List.length_map]
    have h1 := List.length_filter_le (fun x : Arw => decide (V.int x.1 = V.int (pl s i))) (wr m i).2.1
    have h2 := (g.at h).len
    omega
  · exact Nat.zero_le _
theorem moves_part {m : List Wr} (g : GoodM m) (s : Std) {i : Nat} (h : i ≤ m.length) : ((List.range i).flatMap (movesAt m s)).length ≤ 27 := by
  refine Nat.le_trans ?_ (moves_len g s)
  unfold moves
  have : (List.range m.length) = List.range i ++ (List.range (m.length - i)).map (i + ·) := by
    rw [← List.range_add]
    congr 1
    omega
  rw [this, List.flatMap_append, List.length_append]
  omega
section
variable {P : Program} {w : World} {K : PySem.W.Frag} {mg : Str → Option Value} {base : Heap}
theorem range_get {n i : Nat} {d : PyData} (h : ((List.range n).map fun (i : Nat) => PyData.int (i : Int))[i]? = some d) : i < n ∧ d = .int (i : Int) := by
  have hi : i < n := by
    have := (List.getElem?_eq_some_iff.mp h).1
    rw [List.length_map, List.length_range] at this
    exact this
  rw [List.getElem?_map, List.getElem?_range hi] at h
  exact ⟨hi, (Option.some.inj h).symm⟩
/-- a contract of data alone, told in a new list -/
def spN (K : PySem.W.Frag) (R : List PyData → List PyData → Prop) : Sp := fun vs H Q _ => ∃ ds es, DpAll K H vs ds ∧ R ds es ∧ ∀ p us H', H p = none → Same H H' → H' p = some (.lst us) → DpAll K H' us es → Q (.ref p) H'
theorem en_call {σ : L2.St} {H : Hp} {R : List PyData → List PyData → Prop} {E : XK} {ta : TA} {ds es : List PyData} (h : EvDs K ta σ H ds) (hR : R ds es) : EvN K (tCall (spN K R) [] E ta) σ H es := fun H1 e Q q =>
  h H1 e _ fun vs H2 e2 hds => by
    show spN K R (vs ++ []) H2 Q E
    rw [List.append_nil]
    exact ⟨ds, es, hds, hR, fun p us H3 np s3 hp hd => q p us H3 (fresh_back e2 np) (e2.trans s3) hp hd⟩
theorem sd_retN {σ : L2.St} {H : Hp} {te : TE} {D : Ends} {ds : List PyData} (h : EvN K te σ H ds) (k : ∀ p vs H1, H p = none → Ex H H1 → H1 p = some (.lst vs) → DpAll K H1 vs ds → D.rt (.ref p) H1) : tRet te D σ H := h H (.refl H) _ k
def RLN : List PyData → List PyData → Prop := fun ds es => ∃ m s, GoodM m ∧ Okay m s ∧ ds = [dMl m, dS s] ∧ es = (stepsOf m s).map dStep
end
end Ink
namespace Ink
open PySem PySem.Spec PyProof.Rows L2 Evl
/-! ### the law's draws of companies and stands -/
def MAt (K : PySem.W.Frag) (H : Hp) (a p : Addr) (m : List Wr) : Prop := ∃ vs, H p = some (.lst vs) ∧ DpAll K H vs (m.map dW) ∧ p ≠ a
theorem MAt.keep {K : PySem.W.Frag} {H H' : Hp} {a l p : Addr} {m : List Wr} (b : BagAt H a l) (k : Keep a H H') (h : MAt K H a p m) : MAt K H' a p m := by
  obtain ⟨vs, h1, h2, h3⟩ := h
  exact ⟨vs, k p _ h3 h1, dps_keep b k (fz_dWs m) h2, h3⟩
theorem MAt.same {K : PySem.W.Frag} {H H' : Hp} {a p : Addr} {m : List Wr} (e : Same H H') (h : MAt K H a p m) : MAt K H' a p m := by
  obtain ⟨vs, h1, h2, h3⟩ := h
  exact ⟨vs, e _ _ h1, dps_same e h2, h3⟩
theorem MAt.kx {K : PySem.W.Frag} {H H' : Hp} {a p : Addr} {m : List Wr} (e : KX H H') (h : MAt K H a p m) : MAt K H' a p m := by
  obtain ⟨vs, h1, h2, h3⟩ := h
  exact ⟨vs, e.lst h1, e.dps h2, h3⟩
theorem MAt.dp {K : PySem.W.Frag} {H : Hp} {a p : Addr} {m : List Wr} (h : MAt K H a p m) : Dp K H (.ref p) (dMl m) := by
  obtain ⟨vs, h1, h2, h3⟩ := h
  exact .lst (.of h1) h2
/-- other lists change -/
theorem MAt.upd {K : PySem.W.Frag} {H : Hp} {a p q : Addr} {m : List Wr} {xs : List V} {o : HO} (n : p ≠ q) (hq : H q = some (.lst xs)) (h : MAt K H a p m) : MAt K (upd H q o) a p m := by
  obtain ⟨vs, h1, h2, h3⟩ := h
  exact ⟨vs, by rw [upd_ne n]; exact h1, dps_tk (.lst hq) (fz_dWs m) h2, h3⟩
structure Good5 (m : List Wr) : Prop where
  len : m.length ≤ 5
  wr : ∀ w ∈ m, GoodW w.1 w.2.1 w.2.2.1 w.2.2.2
  nd : (m.map (·.1)).Nodup
def spComp (K : PySem.W.Frag) : Sp := fun vs H Q _ => ∃ (a l sp : Addr) (m : Int) (cs : List Nat), vs = [.ref a, .int m, .ref sp] ∧ BagAt H a l ∧ 1 ≤ m ∧ m ≤ 5 ∧ H sp = some (.lst ((cs.map single).map V.str)) ∧ sp ≠ a ∧ (∀ c ∈ cs, c ∈ lets) ∧ cs.Pairwise (· < ·) ∧
  ∀ p ms H', H p = none → Good5 ms → 1 ≤ ms.length → MAt K H' a p ms → BagAt H' a l → Keep a H H' → Q (.ref p) H'
section
variable {P : Program} {w : World} {K : PySem.W.Frag} {mg : Str → Option Value} {base : Heap}
theorem thick_of {v : V} (h : v ∈ [V.int 3, V.int 5, V.int 7, V.int 8]) : ∃ t : Int, v = .int t := by
  simp only [List.mem_cons, List.not_mem_nil, or_false] at h
  rcases h with rfl | rfl | rfl | rfl <;> exact ⟨_, rfl⟩
theorem ok_company {f : Addr} {fd : FuncData} {k : Nat} (F : Fun K "_law_company" "_law_company" sLCompany f fd) (T : Txt mg)
    (C__law_pull : Cal P w K mg base k "_law_pull" ["_law_bag_here", "_law_many"] spPull) (C__law_of : Cal P w K mg base k "_law_of" ["_law_bag_here", "_law_things"] (spOf K))
    (C__law_names : Cal P w K mg base k "_law_names" ["_law_bag_here", "_law_many"] spNames) (C__law_writer : Cal P w K mg base k "_law_writer" ["_law_bag_here", "_law_name", "_law_places", "_law_signs_here", "_law_thick"] spWriter) :
    FnOk P w K mg base CX0 (k + 1) f fd ["_law_bag_here", "_law_limit", "_law_signs_here"] (spComp K) := by
  refine F.ok sc__law_company (fun vs H Q E h => ?_) (fun cdv A outer s H vs Q E hr h => ?_)
  · obtain ⟨a, l, sp, m, cs, rfl, _⟩ := h
    rfl
  · obtain ⟨a, l, sp, m, cs, rfl, hB, m1, m3, hsp, nsp, hcs, hrise, q⟩ := h
    refine ⟨_, (pss_cons (ps_par (i := 3) (j := 4) (by rfl) sc__law_company.nd rfl rfl (by decide) rfl rfl (pa_cons (pe_callC C__law_of hr (by rfl) (pa_cons (pv 0) (pa_cons (pe_lst (pa_cons pe_int (pa_cons pe_int (pa_cons pe_int (pa_cons pe_int pa_nil))))) pa_nil))) (pa_cons (pe_lst pa_nil) pa_nil)) (by rfl))
    (pss_cons (ps_for PassesOwn.never rfl (pi_list (pe_callC C__law_names hr (by rfl) (pa_cons (pv 0) (pa_cons (pe_op op_add pe_int (pe_callC C__law_pull hr (by rfl) (pa_cons (pv 0) (pa_cons (pv 1) pa_nil)))) pa_nil)))) (pg_name (i := 5) sc__law_company.nd rfl (.inl rfl))
    (pss_one (ps_expr (pe_bm PySem.F.plainAttrs_list PySem.F.slot_list_append PySem.F.type_list_append mt_append (pv 4) (pa_cons (pe_callC C__law_writer hr (by rfl) (pa_cons (pv 0) (pa_cons (pv 5) (pa_cons (pe_op op_add pe_int (pe_callC C__law_pull hr (by rfl) (pa_cons (pv 0) (pa_cons pe_int pa_nil)))) (pa_cons (pv 2) (pa_cons (pv 3) pa_nil)))))) pa_nil)))))
    (pss_one (ps_ret (pv 4))))), ?_⟩
    refine ⟨.ref a, rfl, by show 4 ≤ sizeLine; decide, fun p2 np2 => ?_⟩
    refine ⟨a, l, _, _, rfl, hB.upd (hB.ne np2), .inl ⟨p2, rfl, (hB.ne np2).1.symm, .inl (.of upd_same)⟩, by decide, by decide, fun v H1 hv hB1 k1 => ?_⟩
    obtain ⟨t, rfl⟩ := thick_of hv
    have k1 : Keep a H H1 := (Keep.of_same (same_new np2)).trans k1
    refine ⟨by show 0 ≤ sizeLine; decide, fun fp nfp => ?_⟩
    have k2 := k1.trans (Keep.of_same (same_new (o := .lst ([] : List V)) nfp))
    have hB2 := hB1.upd (o := .lst ([] : List V)) (hB1.ne nfp)
    have nl := hB1.ne nfp
    have nfa : fp ≠ a := nl.1.symm
    have hfp : (upd H1 fp (.lst ([] : List V))) fp = some (.lst []) := upd_same
    have hsp2 := k2 _ _ nsp hsp
    have nfsp : sp ≠ fp := ne_of_none (k1 _ _ nsp hsp) nfp
    generalize upd H1 fp (.lst ([] : List V)) = H2 at k2 hB2 hfp hsp2
    refine ⟨_, _, rfl, ?_⟩
    refine ⟨.ref a, rfl, .ref a, rfl, .int m, rfl, a, l, m, rfl, hB2, by omega, by omega, fun r H3 r0 r1 hB3 k3 => ⟨1, r, rfl, rfl, ?_⟩⟩
    refine ⟨a, l, 1 + r, rfl, hB3, by omega, by omega, fun np zs H4 nnp hlen hz hnd hnp hB4 k4 => ?_⟩
    have hnfp : np ≠ fp := fun z => by
      have := k3 _ _ nfa hfp
      rw [z, this] at nnp
      cases nnp
    have nnpa : np ≠ a := fun z => by
      obtain ⟨_, _, _, _, e, _⟩ := hB3
      rw [z, e] at nnp
      cases nnp
    have nfpH : H fp = none := Keep.free k1 nfa.symm nfp
    have k24 := k3.trans k4
    refine ⟨np, rfl, ⟨_, .of hnp⟩, for_it (walk_list (K := K) (xs := zs.map V.str)) (fun i σ' H' => (∃ y5, σ' = [some (.ref a), some (.int m), some (.ref sp), some (.int t), some (.ref fp), y5]) ∧ BagAt H' a l ∧ Keep a H H' ∧ H' np = some (.lst (zs.map V.str)) ∧
      ∃ vs ms, H' fp = some (.lst vs) ∧ DpAll K H' vs (ms.map dW) ∧ ms.map (·.1) = zs.take i ∧ ∀ w ∈ ms, GoodW w.1 w.2.1 w.2.2.1 w.2.2.2) ⟨⟨none, rfl⟩, hB4, k2.trans k24, hnp, [], [], k24 _ _ nfa hfp, .nil, rfl, fun _ h => (by cases h)⟩ (fun i σ' H' _ hP => .of hP.2.2.2.1) (fun i x σ' Ha Hb hi hP hy => ?_) (fun σ' H' hP => ?_)⟩
    · obtain ⟨⟨y5, rfl⟩, hB5, k5, hnp5, vs, ms, hfp5, hvs, hns, hgs⟩ := hP
      obtain ⟨rfl, hx⟩ := hy
      rw [List.getElem?_map] at hx
      rw [List.length_map] at hi
      rw [List.getElem?_eq_getElem hi] at hx
      obtain rfl := (Option.some.inj hx).symm
      have hzi := hz _ (List.getElem_mem hi)
      have hvl : vs.length ≤ 20 := by
        have h1 := hvs.length
        have h2 := congrArg List.length hns
        rw [List.length_map] at h1 h2
        rw [List.length_take] at h2
        omega
      refine ⟨.ref fp, rfl, .inl ⟨rfl, _, .of hfp5⟩, ?_⟩
      refine ⟨.ref a, rfl, .str _, rfl, .ref a, rfl, a, l, 3, rfl, hB5, by decide, by decide, fun r' H6 r0' r1' hB6 k6 => ⟨1, r', rfl, rfl, ?_⟩⟩
      refine ⟨.ref sp, rfl, .int t, rfl, a, l, zs[i], 1 + r', sp, cs, t, rfl, hB6, hzi, by omega, by omega, k6 _ _ nsp (k5 _ _ nsp hsp), nsp, hcs, hrise, fun W ar p c H7 nW hW hG hB7 k7 => ?_⟩
      have k67 := k6.trans k7
      have hfp7 := k67 _ _ nfa hfp5
      have hvs7 := dps_keep hB5 k67 (fz_dWs ms) hvs
      refine ⟨fp, vs, .ref W, rfl, rfl, hfp7, small_lt (by omega), ⟨_, rfl⟩, hB7.upd nl, Keep.mut (k5.trans k67) nfpH, by rw [upd_ne hnfp]; exact k67 _ _ nnpa hnp5, _, ms ++ [(zs[i], ar, p, c)], upd_same, ?_, ?_, ?_⟩
      · rw [List.map_append]
        exact (dps_tk (.lst hfp7) (fz_dWs ms) hvs7).app (.one (dp_tk (.lst hfp7) (fz_dW _) (wr_dp hW)))
      · rw [List.map_append, hns, take_snoc (List.getElem?_eq_getElem hi)]
        rfl
      · intro w hw
        rcases List.mem_append.mp hw with hw | hw
        · exact hgs w hw
        · rw [List.mem_singleton.mp hw]
          exact hG
    · obtain ⟨⟨y5, rfl⟩, hB5, k5, hnp5, vs, ms, hfp5, hvs, hns, hgs⟩ := hP
      rw [List.length_map, List.take_length] at hns
      have hl := congrArg List.length hns
      rw [List.length_map] at hl
      exact ⟨.ref fp, rfl, q fp ms H' nfpH ⟨by omega, hgs, by rw [hns]; exact hnd⟩ (by omega) ⟨vs, hfp5, hvs, nfa⟩ hB5 k5⟩
end
end Ink
namespace Ink
open PySem PySem.Spec PyProof.Rows L2 Evl
/-! ### told alike -/
def okD : Nat → PyData → Prop
  | 0, _ => False
  | n + 1, .list ds => ds.length ≤ 100000 ∧ ∀ d ∈ ds, okD n d
  | n + 1, .tuple ds => ds.length ≤ 100000 ∧ ∀ d ∈ ds, okD n d
  | _ + 1, .dict _ => False
  | _ + 1, .none => True
  | _ + 1, .bool _ => True
  | _ + 1, .int _ => True
  | _ + 1, .str _ => True
theorem lk_dp {K : PySem.W.Frag} {H : Hp} : ∀ (n : Nat) (d : PyData) (v w : V), okD n d → Dp K H v d → Dp K H w d → Lk K H n v w
  | 0, _, _, _, h, _, _ => h.elim
  | n + 1, .none, _, _, _, h1, h2 => by rw [dp_non h1, dp_non h2]; exact .inl ⟨rfl, rfl⟩
  | n + 1, .bool _, _, _, _, h1, h2 => by rw [dp_bl h1, dp_bl h2]; exact .inl ⟨rfl, rfl⟩
  | n + 1, .int _, _, _, _, h1, h2 => by rw [dp_int h1, dp_int h2]; exact .inl ⟨rfl, rfl⟩
  | n + 1, .str _, _, _, _, h1, h2 => by rw [dp_str h1, dp_str h2]; exact .inl ⟨rfl, rfl⟩
  | n + 1, .list ds, _, _, h, h1, h2 => by
    obtain ⟨p, xs, rfl, hp, hxs⟩ := dp_lst h1
    obtain ⟨q, ys, rfl, hq, hys⟩ := dp_lst h2
    have l1 := hxs.length
    have l2 := hys.length
    have h0 := h.1
    refine .inr ⟨p, q, xs, ys, rfl, rfl, .inl ⟨hp, hq⟩, by omega, by omega, fun i x y hx hy => ?_⟩
    obtain ⟨d1, e1, g1⟩ := hxs.at hx
    obtain ⟨d2, e2, g2⟩ := hys.at hy
    rw [e1] at e2
    obtain rfl := Option.some.inj e2
    exact lk_dp n d1 x y (h.2 d1 (List.mem_of_getElem? e1)) g1 g2
  | n + 1, .tuple ds, _, _, h, h1, h2 => by
    obtain ⟨p, xs, rfl, hp, hxs⟩ := dp_tup h1
    obtain ⟨q, ys, rfl, hq, hys⟩ := dp_tup h2
    have l1 := hxs.length
    have l2 := hys.length
    have h0 := h.1
    refine .inr ⟨p, q, xs, ys, rfl, rfl, .inr ⟨hp, hq⟩, by omega, by omega, fun i x y hx hy => ?_⟩
    obtain ⟨d1, e1, g1⟩ := hxs.at hx
    obtain ⟨d2, e2, g2⟩ := hys.at hy
    rw [e1] at e2
    obtain rfl := Option.some.inj e2
    exact lk_dp n d1 x y (h.2 d1 (List.mem_of_getElem? e1)) g1 g2
theorem ok_dI {n : Nat} (ns : List Int) (h : ns.length ≤ 100000) : okD (n + 2) (dI ns) := ⟨by rw [List.length_map]; exact h, fun d hd => by
  obtain ⟨x, _, rfl⟩ := List.mem_map.mp hd
  exact True.intro⟩
theorem ok_dS {n : Nat} (s : Std) (h1 : s.1.length ≤ 100000) (h2 : s.2.1.length ≤ 100000) : okD (n + 3) (dS s) := ⟨by show 3 ≤ 100000; decide, fun d hd => by
  simp only [List.mem_cons, List.not_mem_nil, or_false] at hd
  rcases hd with rfl | rfl | rfl
  · exact ok_dI _ h1
  · exact ok_dI _ h2
  · exact ⟨by show 2 ≤ 100000; decide, fun d hd => by
      simp only [List.mem_cons, List.not_mem_nil, or_false] at hd
      rcases hd with rfl | rfl <;> exact True.intro⟩⟩
theorem ok_dStep {n : Nat} (x : Str × Str × Std) (h1 : x.2.2.1.length ≤ 100000) (h2 : x.2.2.2.1.length ≤ 100000) : okD (n + 4) (dStep x) := ⟨by show 3 ≤ 100000; decide, fun d hd => by
  simp only [List.mem_cons, List.not_mem_nil, or_false] at hd
  rcases hd with rfl | rfl | rfl
  · exact True.intro
  · exact True.intro
  · exact ok_dS _ h1 h2⟩
theorem steps_in {m : List Wr} {s : Std} {x : Str × Str × Std} (h : x ∈ stepsOf m s) : ∃ k to, k < m.length ∧ mayW m s k = true ∧ x = (x.1, (wr m k).1, behind m s k to) ∧ ∃ y ∈ (wr m k).2.1, x.1 = y.2.1 := by
  unfold stepsOf at h
  obtain ⟨y, hy, rfl⟩ := List.mem_map.mp h
  rw [List.mem_mergeSort] at hy
  have hk := moves_at hy
  unfold moves at hy
  obtain ⟨j, hj, hmj⟩ := List.mem_flatMap.mp hy
  unfold movesAt at hmj
  split at hmj
  · obtain ⟨z, hz, rfl⟩ := List.mem_map.mp hmj
    exact ⟨j, z.2.2, hk, ‹_›, rfl, z, (List.mem_filter.mp hz).1, rfl⟩
  · cases hmj
theorem behind_fits {m : List Wr} {s : Std} (f : Fits m s) {k : Nat} (hk : k < m.length) (to : Int) : Fits m (behind m s k to) := by
  have l1 := f.l1
  have l2 := f.l2
  refine ⟨?_, ?_⟩
  · unfold behind
    simp only [List.length_append, List.length_cons, List.length_take, List.length_drop]
    omega
  · unfold behind
    simp only [List.length_map, List.length_range]
    exact l2
theorem ok_steps_data {m : List Wr} (g : GoodM m) {s : Std} (f : Fits m s) : okD 5 (.list ((stepsOf m s).map dStep)) := by
  have ml := moves_len g s
  refine ⟨?_, fun d hd => ?_⟩
  · rw [List.length_map]
    unfold stepsOf
    rw [List.length_map, List.length_mergeSort]
    omega
  · obtain ⟨x, hx, rfl⟩ := List.mem_map.mp hd
    obtain ⟨k, to, hk, _, e, _⟩ := steps_in hx
    have l3 := g.len
    have f2 := behind_fits f hk to
    rw [e]
    refine ok_dStep _ ?_ ?_
    · have := f2.l1
      show (behind m s k to).1.length ≤ 100000
      omega
    · have := f2.l2
      show (behind m s k to).2.1.length ≤ 100000
      omega
theorem CoAt.more {P : Program} {w : World} {K : PySem.W.Frag} {C : Addr} {H : Hp} {c : Addr} {m : List Wr} {n n' : Nat} (h : CoAt P w K C H c m n) (hn : n ≤ n') : CoAt P w K C H c m n' := by
  obtain ⟨dx, tw, d, kvs, h1, h2, h3, h4, h5⟩ := h
  exact ⟨dx, tw, d, kvs, h1, h2, h3, h4, Nat.le_trans h5 hn⟩
section
variable {P : Program} {w : World} {K : PySem.W.Frag} {mg : Str → Option Value} {base : Heap}
theorem nsteps1 : ¬ (("steps" : Str) = "_found") := by decide +kernel
theorem nsteps2 : ¬ (("steps" : Str) = "_writers") := by decide +kernel
theorem nbegin1 : ¬ (("begin" : Str) = "_found") := by decide +kernel
theorem nbegin2 : ¬ (("begin" : Str) = "_writers") := by decide +kernel
end
end Ink
namespace Ink
open PySem PySem.Spec PyProof.Rows L2 Evl
theorem KX.mut {H H' : Hp} {p : Addr} {o : HO} (k : KX H H') (h : H p = none) : KX H (upd H' p o) := fun b u e n => by
  have nb : b ≠ p := fun z => by
    rw [z, h] at e
    cases e
  rw [upd_ne nb]
  exact k b u e n
theorem KX.mut2 {H H1 H2 : Hp} {p : Addr} {o : HO} (k1 : KX H H1) (n : H1 p = none) (k2 : KX H1 H2) : KX H (upd H2 p o) := fun b u e ne => by
  have e1 := k1 b u e ne
  have nb : b ≠ p := fun z => by
    rw [z, n] at e1
    cases e1
  rw [upd_ne nb]
  exact k2 b u e1 ne
theorem okay_begin {m : List Wr} : Okay m (beginS m) := ⟨⟨List.length_replicate, List.length_replicate⟩, fun j hj _ => by
  unfold wt beginS
  rw [List.getD_eq_getElem?_getD, List.getElem?_replicate, if_pos hj]
  rfl, .inl rfl⟩
theorem pl_behind {m : List Wr} {s : Std} (f : Fits m s) {k j : Nat} (hk : k < m.length) (hj : j < m.length) (h : j ≠ k) (to : Int) : pl (behind m s k to) j = pl s j := by
  have l1 := f.l1
  unfold pl behind
  rw [List.getD_eq_getElem?_getD, List.getD_eq_getElem?_getD]
  congr 1
  by_cases hjk : j < k
  · rw [List.getElem?_append_left (by rw [List.length_take]; omega), List.getElem?_take, if_pos hjk]
  · rw [List.getElem?_append_right (by rw [List.length_take]; omega), List.length_take, Nat.min_eq_left (by omega)]
    obtain ⟨d, hd⟩ : ∃ d, j - k = d + 1 := ⟨j - k - 1, by omega⟩
    rw [hd, List.getElem?_cons_succ, List.getElem?_drop]
    congr 1
    omega
theorem wt_behind {m : List Wr} {s : Std} {k j : Nat} (hj : j < s.2.1.length) (to : Int) : wt (behind m s k to) j = if (!decide (V.int (j : Int) = V.int (k : Int)) && minds m s j) = true then wt s j + 1 else 0 := by
  unfold behind
  show List.getD (List.map _ _) j 0 = _
  rw [List.getD_eq_getElem?_getD, List.getElem?_map, List.getElem?_range hj]
  rfl
theorem okay_behind {m : List Wr} (g : GoodM m) {s : Std} (o : Okay m s) {k : Nat} (hk : k < m.length) (hw : mayW m s k = true) (to : Int) : Okay m (behind m s k to) := by
  refine ⟨behind_fits o.toFits hk to, fun j hj hm => ?_, ?_⟩
  · have l2 := o.l2
    rw [wt_behind (by omega)]
    by_cases e : j = k
    · subst e
      rw [decide_eq_true rfl]
      rfl
    · have : minds m s j = false := by
        rw [← hm]
        unfold minds
        rw [pl_behind o.toFits hk hj e to]
      rw [this, Bool.and_false]
      rfl
  · have c0 := (g.at hk).c0
    unfold behind
    by_cases h : V.int (wr m k).2.2.2 = V.int 0
    · rw [if_pos h]
      exact .inl rfl
    · rw [if_neg h]
      have h0 : (wr m k).2.2.2 ≠ 0 := fun z => h (by rw [z])
      refine .inr ⟨k, hk, rfl, h0, ?_⟩
      show (if V.int s.2.2.1 = V.int (k : Int) then s.2.2.2 + 1 else 1) ≤ (wr m k).2.2.2
      by_cases h1 : V.int s.2.2.1 = V.int (k : Int)
      · rw [if_pos h1]
        unfold mayW at hw
        split at hw
        · cases hw
        · rename_i hn
          have : ¬ s.2.2.2 ≥ (wr m k).2.2.2 := fun hge => hn (by rw [decide_eq_false h, decide_eq_true h1, decide_eq_true hge]; rfl)
          omega
      · rw [if_neg h1]
        omega
theorem str_ok {z : Str} (h : ∀ c ∈ z.cps.toList, c ∈ lets) : PyData.strOk z = true := by
  unfold PyData.strOk
  rw [Array.all_eq_true_iff_forall_mem]
  intro c hc
  have := (lets_iff c).mp (h c (by simpa using hc))
  exact decide_eq_true (by omega)
theorem ints_lay (ns : List Int) : (dI ns).canLay0 = true := by
  unfold dI
  simp only [PyData.canLay0]
  exact lay_map fun x _ => by simp only [PyData.canLay0]
theorem dS_lay (s : Std) : (dS s).canLay0 = true := by
  unfold dS
  simp only [PyData.canLay0, PyData.canLayAll0, ints_lay, Bool.and_self]
theorem steps_shaped {m : List Wr} (g : GoodM m) (s : Std) : SeqAt.shaped (.list ((stepsOf m s).map dStep)) = true := by
  have h1 : PyData.canLayAll0 ((stepsOf m s).map dStep) = true := lay_map fun x hx => by
    obtain ⟨k, to, hk, _, e, y, hy, e2⟩ := steps_in hx
    have gk := g.at hk
    obtain ⟨_, _, ⟨c, hc, ec⟩, _⟩ := gk.each y hy
    have z1 : PyData.strOk x.1 = true := by
      rw [e2, ec]
      exact lets_ok c hc
    have z2 : PyData.strOk x.2.1 = true := by
      rw [e]
      exact str_ok gk.name.2.2
    unfold dStep
    simp only [PyData.canLay0, PyData.canLayAll0, dS_lay, z1, z2, Bool.and_self]
  have h2 := depth_map (f := dStep) (n := 10) (l := stepsOf m s) fun x _ => by
    have := depth_dS x.2.2
    unfold dStep
    simp only [PyData.depth, PyData.depthAll]
    omega
  unfold SeqAt.shaped
  rw [Bool.and_eq_true, decide_eq_true_eq]
  refine ⟨by simp only [PyData.canLay0]; exact h1, ?_⟩
  simp only [PyData.depth]
  omega
end Ink
namespace Ink
open PySem PySem.Spec PyProof.Rows L2 Evl
theorem hu65 {k : Nat} {A : Around} (hr : Room k A) : A.units + 65 < cLine := by
  have := hu9 hr
  omega
section
variable {X : Cx} {K : PySem.W.Frag} {o e : Expr} {es : List Expr} {to : TE} {t : TA} {name : Str} {apos cpos : Pos} {T id : String} {r : V → List V → Hp → VK → Prop}
theorem pe_bmK (hK : X.K = K) (pa : PlainAttrs T) (slot : Slot T name id) (hty : typeOf (.builtin id) = pure (.type "method_descriptor")) (hm : MtR X id r) (ho : PE X o to) (ha : PA X (e :: es) t)
    (hbase : attributeBase o name X.env (eval o X.env) = eval o X.env := by rfl)
    (hfew : ((backTo cpos (starEach (e :: es) X.env)).all (fun x => !x.1) && (backToKw cpos (keywordEach [] X.env)).all (fun x => x.1.isSome)
      && decide ((e :: es).length + ([] : List Keyword).length + (if ([] : List Keyword).isEmpty then 0 else 1) < 30)) = true := by rfl)
    (hline : (apos.endLine == cpos.line) = true := by rfl) (hs : starEach (e :: es) X.env = (false, eval e X.env) :: starEach es X.env := by rfl) (hplain : (backTo cpos (starEach es X.env)).any (·.1) = false := by rfl) :
    PE X (.Call (.Attribute o name apos) (e :: es) [] cpos) (tBM K T r to t) := by
  subst hK
  exact pe_bm pa slot hty hm ho ha hbase hfew hline hs hplain
end
section
variable {K : PySem.W.Frag} {σ : L2.St} {H : Hp} {ta tb te : TE} {ds : List PyData} {d : PyData}
theorem ev_inD (ha : EvD K ta σ H d) (hb : EvD K tb σ H (.list ds)) (h1 : SeqAt.shaped d = true) (h2 : SeqAt.shaped (.list ds) = true) : Ev (tOp (rInD K) ta tb) σ H (.bl (ds.any fun z => PyData.eqv z d)) := fun H1 e Q q =>
  ha H1 e _ fun v H2 e2 hv => hb H2 (e.trans e2) _ fun w H3 e3 hw => ⟨d, ds, dp_same e3 hv, hw, h1, h2, q H3 (e2.trans e3)⟩
theorem ev_indexD {j : Nat} {z : PyData} (ha : EvD K ta σ H (.list ds)) (hb : EvD K te σ H d) (h1 : SeqAt.shaped (.list ds) = true) (h2 : SeqAt.shaped d = true) (hz : ds[j]? = some z) (he : PyData.eqv z d = true)
    (hn : ∀ (m : Nat) (z' : PyData), m < j → ds[m]? = some z' → PyData.eqv z' d = false) : Ev (tBM K "list" (rIndexD K) ta (tCons te tNil)) σ H (.int (j : Nat)) := fun H1 e Q q =>
  ha H1 e _ fun v H2 e2 hv => by
    obtain ⟨p, xs, rfl, hs, hxs⟩ := dp_lst hv
    exact ⟨.inl ⟨rfl, xs, hs⟩, hb H2 (e.trans e2) _ fun u H3 e3 hu => ⟨p, u, d, ds, j, z, rfl, rfl, .lst (ex_l e3 hs) (dps_same e3 hxs), hu, h1, h2, hz, he, hn, q H3 (e2.trans e3)⟩⟩
theorem ev_index {j : Nat} {z y : V} {ys : List V} (ha : EvD K ta σ H (.list ds)) (hy : ∀ (H' : Hp) (vs : List V), DpAll K H' vs ds → vs = ys) (hb : Ev te σ H y) (f1 : flatV y = true) (f2 : ys.all flatV = true) (hz : ys[j]? = some z) (he : eqV z y = true)
    (hn : ∀ (m : Nat) (z' : V), m < j → ys[m]? = some z' → eqV z' y = false) : Ev (tBM K "list" (rIndex K) ta (tCons te tNil)) σ H (.int (j : Nat)) := fun H1 e Q q =>
  ha H1 e _ fun v H2 e2 hv => by
    obtain ⟨p, xs, rfl, hs, hxs⟩ := dp_lst hv
    obtain rfl := hy _ _ hxs
    exact ⟨.inl ⟨rfl, xs, hs⟩, hb H2 (e.trans e2) _ fun H3 e3 => ⟨p, xs, y, j, z, rfl, rfl, ex_l e3 hs, f1, f2, hz, he, hn, q H3 (e2.trans e3)⟩⟩
end
end Ink
namespace Ink
open PySem PySem.Spec PyProof.Rows L2 Evl
/-! ### stands carried over: the model -/
def ixW (m : List Wr) (x : Wr) : Option Nat := m.findIdx? fun y => decide (y = x)
def keptW (m m2 : List Wr) : List (Option Nat) := m2.map (ixW m)
def isR (r : Int) : Option Nat → Bool
  | some k => decide ((k : Int) = r)
  | none => false
def ixR (ks : List (Option Nat)) (r : Int) : Option Nat := ks.findIdx? (isR r)
def orN (f : Nat → Int) : Option Nat → Int
  | some k => f k
  | none => 0
def carS (m m2 : List Wr) (s : Std) : Std := ((keptW m m2).map (orN (pl s)), (keptW m m2).map (orN (wt s)), match ixR (keptW m m2) s.2.2.1 with
  | some j => ((j : Int), s.2.2.2)
  | none => (-1, 0))
def dK (n : PyData) : Option Nat → PyData
  | some k => .int (k : Int)
  | none => n
def vK (n : V) : Option Nat → V
  | some k => .int (k : Int)
  | none => n
/-! equality of writers -/
theorem eqv_dA (a b : Arw) : PyData.eqv (dA a) (dA b) = decide (a = b) := by
  obtain ⟨p, s, t⟩ := a
  obtain ⟨p', s', t'⟩ := b
  unfold dA
  simp only [PyData.eqv, PyData.eqvAll, Bool.and_true]
  rw [Bool.eq_iff_iff]
  simp only [Bool.and_eq_true, beq_iff_eq, decide_eq_true_eq, Prod.mk.injEq]
theorem eqv_map {α : Type} [DecidableEq α] {f : α → PyData} (h : ∀ a b, PyData.eqv (f a) (f b) = decide (a = b)) : ∀ xs ys : List α, PyData.eqvAll (xs.map f) (ys.map f) = decide (xs = ys)
  | [], [] => by simp only [List.map_nil, PyData.eqvAll]; rfl
  | [], _ :: _ => by simp only [List.map_nil, List.map_cons, PyData.eqvAll]; rfl
  | _ :: _, [] => by simp only [List.map_nil, List.map_cons, PyData.eqvAll]; rfl
  | x :: xs, y :: ys => by
    simp only [List.map_cons, PyData.eqvAll, h, eqv_map h xs ys]
    rw [Bool.eq_iff_iff]
    simp only [Bool.and_eq_true, decide_eq_true_eq, List.cons.injEq]
theorem eqv_dW (a b : Wr) : PyData.eqv (dW a) (dW b) = decide (a = b) := by
  obtain ⟨n, ar, p, c⟩ := a
  obtain ⟨n', ar', p', c'⟩ := b
  unfold dW
  simp only [PyData.eqv, PyData.eqvAll, Bool.and_true, eqv_map eqv_dA]
  rw [Bool.eq_iff_iff]
  simp only [Bool.and_eq_true, beq_iff_eq, decide_eq_true_eq, Prod.mk.injEq]
theorem any_W (m : List Wr) (x : Wr) : ((m.map dW).any fun z => PyData.eqv z (dW x)) = (ixW m x).isSome := by
  unfold ixW
  rw [List.any_map, List.findIdx?_isSome]
  congr 1
  funext y
  exact eqv_dW y x
theorem ixW_some {m : List Wr} {x : Wr} {j : Nat} (h : ixW m x = some j) : j < m.length ∧ (m.map dW)[j]? = some (dW x) ∧ ∀ (i : Nat) (z' : PyData), i < j → (m.map dW)[i]? = some z' → PyData.eqv z' (dW x) = false := by
  unfold ixW at h
  obtain ⟨h1, h2, h3⟩ := List.findIdx?_eq_some_iff_getElem.mp h
  have h2 := of_decide_eq_true h2
  refine ⟨h1, ?_, fun i z' hi hz => ?_⟩
  · rw [List.getElem?_map, List.getElem?_eq_getElem h1, h2]
    rfl
  · have hil : i < m.length := by omega
    rw [List.getElem?_map, List.getElem?_eq_getElem hil] at hz
    obtain rfl := Option.some.inj hz
    rw [eqv_dW]
    have := h3 i hi
    simpa using this
theorem dA_lay {x : Arw} (h : goodA x) : (dA x).canLay0 = true := by
  obtain ⟨_, _, ⟨c, hc, e⟩, _⟩ := h
  unfold dA
  simp only [PyData.canLay0, PyData.canLayAll0, e, lets_ok c hc, Bool.and_true]
theorem dA_depth (x : Arw) : (dA x).depth ≤ 3 := by
  unfold dA
  simp only [PyData.depth, PyData.depthAll]
  decide
theorem dW_lay {x : Wr} (g : GoodW x.1 x.2.1 x.2.2.1 x.2.2.2) : (dW x).canLay0 = true := by
  have h1 : PyData.canLayAll0 (x.2.1.map dA) = true := lay_map fun y hy => dA_lay (g.each y hy)
  have h2 := str_ok g.name.2.2
  unfold dW
  simp only [PyData.canLay0, PyData.canLayAll0, h1, h2, Bool.and_true]
theorem dW_depth (x : Wr) : (dW x).depth ≤ 8 := by
  have h1 := depth_map (f := dA) (n := 3) (l := x.2.1) fun y _ => dA_depth y
  unfold dW
  simp only [PyData.depth, PyData.depthAll]
  omega
theorem dW_shaped {x : Wr} (g : GoodW x.1 x.2.1 x.2.2.1 x.2.2.2) : SeqAt.shaped (dW x) = true := by
  have h1 := dW_lay g
  have h2 := dW_depth x
  unfold SeqAt.shaped
  rw [Bool.and_eq_true, decide_eq_true_eq]
  exact ⟨h1, by omega⟩
theorem dWs_shaped {m : List Wr} (g : GoodM m) : SeqAt.shaped (.list (m.map dW)) = true := by
  have h1 : PyData.canLayAll0 (m.map dW) = true := lay_map fun y hy => dW_lay (g.wr y hy)
  have h2 := depth_map (f := dW) (n := 8) (l := m) fun y _ => dW_depth y
  unfold SeqAt.shaped
  rw [Bool.and_eq_true, decide_eq_true_eq]
  refine ⟨by simp only [PyData.canLay0]; exact h1, ?_⟩
  simp only [PyData.depth]
  omega
/-! numbers of writers, and none -/
theorem eqV_k {n : V} {r : Int} (hn : eqV n (.int r) = false) (o : Option Nat) : eqV (vK n o) (.int r) = isR r o := by
  cases o with
  | none => exact hn
  | some k => rfl
theorem inV_k {n : V} {r : Int} (hn : eqV n (.int r) = false) (ks : List (Option Nat)) : inV (.int r) (ks.map (vK n)) = (ixR ks r).isSome := by
  unfold inV ixR
  rw [List.any_map, List.findIdx?_isSome]
  congr 1
  funext o
  exact eqV_k hn o
theorem ixR_some {n : V} {r : Int} (hn : eqV n (.int r) = false) {ks : List (Option Nat)} {j : Nat} (h : ixR ks r = some j) : j < ks.length ∧ (ks.map (vK n))[j]? = some (.int r) ∧ ∀ (i : Nat) (z' : V), i < j → (ks.map (vK n))[i]? = some z' → eqV z' (.int r) = false := by
  unfold ixR at h
  obtain ⟨h1, h2, h3⟩ := List.findIdx?_eq_some_iff_getElem.mp h
  refine ⟨h1, ?_, fun i z' hi hz => ?_⟩
  · rw [List.getElem?_map, List.getElem?_eq_getElem h1]
    cases e : ks[j] with
    | none =>
      rw [e] at h2
      cases h2
    | some k =>
      rw [e] at h2
      have h2 : (k : Int) = r := of_decide_eq_true h2
      show some (V.int (k : Int)) = _
      rw [h2]
  · have hil : i < ks.length := by omega
    rw [List.getElem?_map, List.getElem?_eq_getElem hil] at hz
    obtain rfl := Option.some.inj hz
    rw [eqV_k hn _]
    have := h3 i hi
    simpa using this
theorem ixR_neg {ks : List (Option Nat)} {r : Int} (h : r < 0) : ixR ks r = none := by
  unfold ixR
  rw [List.findIdx?_eq_none_iff]
  intro o _
  cases o with
  | none => rfl
  | some k => exact decide_eq_false (by omega)
theorem fz_dK {n : PyData} (h : fz n = true) (o : Option Nat) : fz (dK n o) = true := by
  cases o with
  | none => exact h
  | some k => unfold dK fz; rfl
theorem dps_k {K : PySem.W.Frag} {H : Hp} {n : PyData} {n' : V} (h : ∀ v, Dp K H v n → v = n') : ∀ {vs : List V} {ks : List (Option Nat)}, DpAll K H vs (ks.map (dK n)) → vs = ks.map (vK n')
  | _, [], z => by cases z; rfl
  | _, o :: ks, z => by
    cases z with
    | cons z t =>
      rw [dps_k h t]
      cases o with
      | none => rw [h _ z]; rfl
      | some k => rw [dp_int z]; rfl
theorem flat_k {n : V} (h : flatV n = true) (ks : List (Option Nat)) : (ks.map (vK n)).all flatV = true := List.all_eq_true.mpr fun x hx => by
  obtain ⟨o, _, rfl⟩ := List.mem_map.mp hx
  cases o with
  | none => exact h
  | some k => rfl
theorem kept_in {m m2 : List Wr} {j k : Nat} (h : (keptW m m2)[j]? = some (some k)) : k < m.length := by
  unfold keptW at h
  rw [List.getElem?_map] at h
  cases e : m2[j]? with
  | none =>
    rw [e] at h
    cases h
  | some x =>
    rw [e] at h
    exact (ixW_some (Option.some.inj h)).1
/-- carried to the same company a stand is as it was -/
theorem car_self {m : List Wr} (g : GoodM m) {s : Std} (o : Okay m s) : carS m m s = s := by
  have hk : keptW m m = (List.range m.length).map some := by
    refine List.ext_getElem? fun j => ?_
    unfold keptW
    rw [List.getElem?_map, List.getElem?_map]
    by_cases hj : j < m.length
    · rw [List.getElem?_eq_getElem hj, List.getElem?_range hj]
      show some (ixW m m[j]) = some (some j)
      congr 1
      unfold ixW
      rw [List.findIdx?_eq_some_iff_getElem]
      refine ⟨hj, decide_eq_true rfl, fun i hi => ?_⟩
      have hil : i < m.length := by omega
      have nd := (List.pairwise_iff_getElem.mp g.nd) i j (by rw [List.length_map]; exact hil) (by rw [List.length_map]; exact hj) hi
      rw [List.getElem_map, List.getElem_map] at nd
      rw [Bool.not_eq_true, decide_eq_false_iff_not]
      exact fun z => nd (by rw [z])
    · rw [List.getElem?_eq_none (by omega), List.getElem?_eq_none (by rw [List.length_range]; omega)]
      rfl
  have hm : ∀ (ns : List Int), ns.length = m.length → ((List.range m.length).map some).map (orN fun k => ns.getD k 0) = ns := fun ns hl => by
    rw [List.map_map]
    refine List.ext_getElem? fun j => ?_
    rw [List.getElem?_map]
    by_cases hj : j < m.length
    · rw [List.getElem?_range hj]
      show some (ns.getD j 0) = ns[j]?
      exact (getD_get (by omega)).symm
    · rw [List.getElem?_eq_none (by rw [List.length_range]; omega), List.getElem?_eq_none (by omega)]
      rfl
  obtain ⟨p, q, r, t⟩ := s
  have e1 := hm p o.l1
  have e2 := hm q o.l2
  unfold carS
  rw [hk]
  have e1 : ((List.range m.length).map some).map (orN (pl (p, q, r, t))) = p := e1
  have e2 : ((List.range m.length).map some).map (orN (wt (p, q, r, t))) = q := e2
  rw [e1, e2]
  congr 2
  rcases o.run with e | ⟨k, hk1, e3, _⟩
  · have e : (r, t) = ((-1, 0) : Int × Int) := e
    injection e with e4 e5
    subst e4 e5
    rw [ixR_neg (show (-1 : Int) < 0 by decide)]
  · have e3 : r = (k : Int) := e3
    subst e3
    have : ixR ((List.range m.length).map some) (k : Int) = some k := by
      unfold ixR
      rw [List.findIdx?_eq_some_iff_getElem]
      refine ⟨by rw [List.length_map, List.length_range]; exact hk1, ?_, fun i hi => ?_⟩
      · rw [List.getElem_map, List.getElem_range]
        exact decide_eq_true rfl
      · rw [List.getElem_map, List.getElem_range]
        show ¬ decide ((i : Int) = (k : Int)) = true
        rw [decide_eq_true_eq]
        omega
    rw [this]
theorem car_fits (m m2 : List Wr) (s : Std) : Fits m2 (carS m m2 s) := ⟨by unfold carS keptW; simp only [List.length_map], by unfold carS keptW; simp only [List.length_map]⟩
end Ink
namespace Ink
open PySem PySem.Spec PyProof.Rows L2 Evl
def spWriters (P : Program) (w : World) (K : PySem.W.Frag) (C : Addr) : Sp := fun vs H Q _ => ∃ c m n, vs = [.ref c] ∧ CoAt P w K C H c m n ∧ ∀ p us H', H p = none → Same H H' → H' p = some (.lst us) → DpAll K H' us (m.map dW) → Q (.ref p) H'
def spCar (P : Program) (w : World) (K : PySem.W.Frag) (C : Addr) : Sp := fun vs H Q _ => ∃ c c2 m m2 n n2 v s, vs = [.ref c, .ref c2, v] ∧ CoAt P w K C H c m n ∧ CoAt P w K C H c2 m2 n2 ∧ GoodM m ∧ GoodM m2 ∧ Fits m s ∧ Dp K H v (dS s) ∧ ∀ u H', Same H H' → Dp K H' u (dS (carS m m2 s)) → Q u H'
def RLCar : List PyData → PyData → Prop := fun ds d => ∃ m m2 s, GoodM m ∧ GoodM m2 ∧ Fits m s ∧ ds = [dMl m, dMl m2, dS s] ∧ d = dS (carS m m2 s)
theorem nwri1 : ¬ (("writers" : Str) = "_found") := by decide +kernel
theorem nwri2 : ¬ (("writers" : Str) = "_writers") := by decide +kernel
theorem not_some {α : Type} {o : Option α} (h : o.isSome = false) : o = none := by
  cases o with
  | none => rfl
  | some _ => cases h
section
variable {P : Program} {w : World} {K : PySem.W.Frag} {mg : Str → Option Value} {base : Heap}
theorem ok_writers {f C : Addr} {fd : FuncData} {k : Nat} (F : Fun K "writers" "Company.writers" sCompanyWriters f fd) (T : Txt mg) (Z : CoC K C) : FnOk P w K mg base CX0 (k + 1) f fd ["self"] (spWriters P w K C) := by
  refine F.ok sc_Company_writers (fun vs H Q E h => ?_) (fun cdv A outer s H vs Q E hr h => ?_)
  · obtain ⟨c, m, n, rfl, _⟩ := h
    rfl
  · obtain ⟨c, m, n, rfl, ⟨dx, tw, d, kvs, hc, hw, _⟩, q⟩ := h
    refine ⟨_, (pss_one (ps_ret (pe_callTy call_list_of (by rfl) T.m_list (by decide +kernel) (pa_cons (pe_fld (pv 0) rfl) pa_nil)))), ?_⟩
    exact sd_retN (K := K) (en_list (ed_of (ev_fld (ev_var rfl) hc Z.cl Z.nW (coF_w _ _)) hw) (.inr rfl)) q
theorem en_writers {C c : Addr} {m : List Wr} {n : Nat} {σ : L2.St} {H : Hp} {ta : TE} (ha : Ev ta σ H (.ref c)) (hc : CoAt P w K C H c m n) : EvN K (tMeth C "writers" (spWriters P w K C) [] E0 ta tNil) σ H (m.map dW) := fun H1 e Q q =>
  ha H1 e _ fun H2 e2 => by
    have hc2 := hc.fr (.of (e.trans e2))
    obtain ⟨dx, tw, d, kvs, h1, _⟩ := id hc2
    exact ⟨c, dx, _, rfl, h1, coF_no _ _ nwri1 nwri2, c, m, n, rfl, hc2, fun p us H3 np s3 hp hus => q p us H3 (fresh_back e2 np) (e2.trans s3) hp hus⟩
theorem ev_isN {σ : L2.St} {H : Hp} {ta : TE} {x : V} (ha : Ev ta σ H x) : Ev (tOp (fun x y H Q => y = .non ∧ Q (.bl (decide (x = .non))) H) ta (tC .non)) σ H (.bl (decide (x = .non))) := ev_op ha ev_c fun H1 _ _ q => ⟨rfl, q H1 (.refl H1)⟩
theorem ev_inK {σ : L2.St} {H : Hp} {ta tb : TE} {ks : List (Option Nat)} {n : PyData} {n' : V} {r : Int} (hn : ∀ (H : Hp) v, Dp K H v n → v = n') (hf : flatV n' = true) (hr : eqV n' (.int r) = false) (ha : Ev ta σ H (.int r)) (hb : EvD K tb σ H (.list (ks.map (dK n)))) : Ev (tOp (rIn K false) ta tb) σ H (.bl (ixR ks r).isSome) := fun H1 e Q q =>
  ha H1 e _ fun H2 e2 => hb H2 (e.trans e2) _ fun v H3 e3 hv => by
    obtain ⟨p, xs, rfl, hs, hxs⟩ := dp_lst hv
    rw [dps_k (hn _) hxs] at hs
    exact ⟨p, _, rfl, .inl hs, rfl, flat_k hf ks, by rw [inV_k hr]; exact q H3 (e2.trans e3)⟩
theorem ev_indexK {σ : L2.St} {H : Hp} {ta te : TE} {ks : List (Option Nat)} {n : PyData} {n' : V} {r : Int} {j : Nat} (hn : ∀ (H : Hp) v, Dp K H v n → v = n') (hf : flatV n' = true) (hr : eqV n' (.int r) = false) (ha : EvD K ta σ H (.list (ks.map (dK n)))) (hb : Ev te σ H (.int r)) (h : ixR ks r = some j) : Ev (tBM K "list" (rIndex K) ta (tCons te tNil)) σ H (.int (j : Nat)) := by
  obtain ⟨_, h2, h3⟩ := ixR_some hr h
  exact ev_index ha (fun H' vs hv => dps_k (hn _) hv) hb rfl (flat_k hf ks) h2 (by show (r == r) = true; exact beq_self_eq_true r) h3
end
end Ink
namespace Ink
open PySem PySem.Spec PyProof.Rows L2 Evl
section
variable {P : Program} {w : World} {K : PySem.W.Frag} {mg : Str → Option Value} {base : Heap}
theorem isR_neg {ks : List (Option Nat)} {r : Int} : (decide (r ≥ 0) && (ixR ks r).isSome) = (ixR ks r).isSome := by
  by_cases h : r ≥ 0
  · rw [decide_eq_true h]
    rfl
  · rw [ixR_neg (by omega)]
    exact Bool.and_false _
/-! ### a name that nobody bears -/
def six : List Str := ["q", "qq", "qqq", "qqqq", "qqqqq", "qqqqqq"]
theorem six_ok : ∀ z ∈ six, NameZ z := by
  unfold six NameZ
  decide +kernel
theorem six_nd : six.Nodup := by
  unfold six
  decide +kernel
theorem nodup_le {α : Type} [BEq α] [LawfulBEq α] : ∀ (l zs : List α), l.Nodup → (∀ x ∈ l, x ∈ zs) → l.length ≤ zs.length
  | [], _, _, _ => Nat.zero_le _
  | x :: l, zs, nd, h => by
    have hx := h x (List.mem_cons_self ..)
    have nd := List.nodup_cons.mp nd
    have ih := nodup_le l (zs.erase x) nd.2 fun y hy => (List.mem_erase_of_ne (fun z : y = x => nd.1 (z ▸ hy))).mpr (h y (List.mem_cons_of_mem _ hy))
    rw [List.length_erase_of_mem hx] at ih
    have := List.length_pos_of_mem hx
    rw [List.length_cons]
    omega
def RFresh : List PyData → PyData → Prop := fun ds d => ∃ zs : List Str, ∃ z, zs.length ≤ 3 ∧ ds = [.list (zs.map PyData.str)] ∧ (six.filter fun y => !decide (y ∈ zs))[0]? = some z ∧ d = .str z
theorem fresh_some {zs : List Str} (h : zs.length ≤ 3) : ∃ z, (six.filter fun y => !decide (y ∈ zs))[0]? = some z ∧ NameZ z ∧ z ∉ zs := by
  cases e : six.filter (fun y => !decide (y ∈ zs)) with
  | nil =>
    have := nodup_le six zs six_nd fun x hx => by
      have := List.filter_eq_nil_iff.mp e x hx
      simpa using this
    have h6 : six.length = 6 := rfl
    omega
  | cons z r =>
    have hz : z ∈ six.filter (fun y => !decide (y ∈ zs)) := by rw [e]; exact List.mem_cons_self ..
    obtain ⟨h1, h2⟩ := List.mem_filter.mp hz
    exact ⟨z, rfl, six_ok z h1, by simpa using h2⟩
theorem ok_fresh {f : Addr} {fd : FuncData} {k : Nat} (F : Fun K "_law_fresh" "_law_fresh" sLFresh f fd) : FnOk P w K mg base CX0 (k + 1) f fd ["_law_names_here"] (spP K RFresh) := by
  refine F.ok sc__law_fresh (fun vs H Q E h => ?_) (fun cdv A outer s H vs Q E hr h => ?_)
  · obtain ⟨ds, d, hd, ⟨zs, z, _, rfl, _⟩, _⟩ := h
    exact hd.length
  · obtain ⟨ds, d, hd, ⟨zs, z, h3, rfl, hz, rfl⟩, q⟩ := h
    obtain ⟨v0, rfl, h0⟩ := dps1 hd
    refine ⟨_, (pss_one (ps_ret (pe_ix ix_list (pe_lc (own := [("_law_name", 1)]) (g := (gName 1)) (by rfl) sc__law_fresh.nd (pi_list (pe_lst (pa_cons pe_str (pa_cons pe_str (pa_cons pe_str (pa_cons pe_str (pa_cons pe_str (pa_cons pe_str pa_nil)))))))) (blkOk_by (own := [("_law_name", 1)]) (N := ["_law_names_here", "_law_name"]) (sc := defScope sLFresh) (by decide +kernel)) (fun _ _ _ _ _ => (pg_name (i := 1) sc__law_fresh.nd rfl (Or.inl rfl))) (fun _ _ _ _ _ => pts_one (pt_cmpR (show OpR _ _ (rIn K true) from op_notIn_seq) (pv 1) (pv 0) (by rfl))) (fun _ _ _ _ _ => (pv 1))) pe_int (fun _ _ => rfl)))), ?_⟩
    refine sd_ret (K := K) (ed_ixL (EvN.list (en_lc (K := K) six PyData.str (fun y => !decide (y ∈ zs)) PyData.str (ei_lst (EvN.list (en_lst (eds_cons (ed_str ev_c) (eds_cons (ed_str ev_c) (eds_cons (ed_str ev_c) (eds_cons (ed_str ev_c) (eds_cons (ed_str ev_c) (eds_cons (ed_str ev_c) eds_nil)))))) (by show 6 ≤ 100000; decide)))) (by show 6 ≤ 40000; decide) (fun _ _ => by unfold fz; rfl) fun i x H5 y hx e5 hdx R kk => ?_)) ev_c (by decide) (d := .str z) ?_) q
    · obtain rfl := dp_str hdx
      exact kk _ rfl (et_test (ev_inS (neg := true) (zs := zs) (ev_var rfl) (ed_var rfl (dp_same e5 h0)) (.inl rfl))) fun _ => ed_str (ev_var rfl)
    · rw [List.getElem?_map]
      show Option.map PyData.str (six.filter fun y => !decide (y ∈ zs))[0]? = _
      rw [hz]
      rfl
end
end Ink
namespace Ink
open PySem PySem.Spec PyProof.Rows L2
/-! ### the stands that companies of at most three come to are few -/
structure Tiny (s : Std) : Prop where
  l1 : s.1.length ≤ 3
  l2 : s.2.1.length = s.1.length
  p : ∀ x ∈ s.1, 0 ≤ x ∧ x ≤ 2
  w : ∀ x ∈ s.2.1, 0 ≤ x ∧ x ≤ 3
  z : s.1.length = 3 → ∃ k, k < 3 ∧ wt s k = 0
  r : s.2.2 = (-1, 0) ∨ ∃ k, k < s.1.length ∧ s.2.2.1 = (k : Int) ∧ 1 ≤ s.2.2.2 ∧ s.2.2.2 ≤ 3 ∧ wt s k = 0
/-- all lists of n of these -/
def allOf {α : Type} (xs : List α) : Nat → List (List α)
  | 0 => [[]]
  | n + 1 => xs.flatMap fun x => (allOf xs n).map (x :: ·)
theorem mem_allOf {α : Type} {xs : List α} : ∀ {n : Nat} {l : List α}, l.length = n → (∀ x ∈ l, x ∈ xs) → l ∈ allOf xs n
  | 0, [], _, _ => List.mem_singleton.mpr rfl
  | n + 1, x :: l, h, hx => by
    unfold allOf
    refine List.mem_flatMap.mpr ⟨x, hx x List.mem_cons_self, List.mem_map.mpr ⟨l, mem_allOf (by simpa using h) fun y hy => hx y (List.mem_cons_of_mem _ hy), rfl⟩⟩
def runsT (n : Nat) (ws : List Int) : List (Int × Int) := (-1, 0) :: List.flatMap (fun k : Nat => [(Int.ofNat k, (1 : Int)), (Int.ofNat k, 2), (Int.ofNat k, 3)]) (List.filter (fun k : Nat => ws.getD k 0 == 0) (List.range n))
def waitsT (n : Nat) : List (List Int) := (allOf [(0 : Int), 1, 2, 3] n).filter fun ws => n != 3 || (List.range 3).any fun k => ws.getD k 0 == 0
def tinies (n : Nat) : List Std := (allOf [(0 : Int), 1, 2] n).flatMap fun ps => (waitsT n).flatMap fun ws => (runsT n ws).map fun r => (ps, ws, r)
theorem tinies_len : (tinies 0).length ≤ 4887 ∧ (tinies 1).length ≤ 4887 ∧ (tinies 2).length ≤ 4887 ∧ (tinies 3).length ≤ 4887 := by decide +kernel
theorem mem_tinies {s : Std} (h : Tiny s) : s ∈ tinies s.1.length := by
  obtain ⟨ps, ws, r1, r2⟩ := s
  have l2 : ws.length = ps.length := h.l2
  unfold tinies
  refine List.mem_flatMap.mpr ⟨ps, mem_allOf rfl fun x hx => ?_, List.mem_flatMap.mpr ⟨ws, List.mem_filter.mpr ⟨mem_allOf l2 fun x hx => ?_, ?_⟩, List.mem_map.mpr ⟨(r1, r2), ?_, rfl⟩⟩⟩
  · have := h.p x hx
    have : x = 0 ∨ x = 1 ∨ x = 2 := by omega
    simpa using this
  · have := h.w x hx
    have : x = 0 ∨ x = 1 ∨ x = 2 ∨ x = 3 := by omega
    simpa using this
  · by_cases c : ps.length = 3
    · obtain ⟨k, hk, e⟩ := h.z c
      rw [Bool.or_eq_true]
      exact .inr (List.any_eq_true.mpr ⟨k, List.mem_range.mpr hk, beq_iff_eq.mpr e⟩)
    · rw [Bool.or_eq_true]
      exact .inl (bne_iff_ne.mpr c)
  · show (r1, r2) ∈ runsT ps.length ws
    unfold runsT
    rcases h.r with e | ⟨k, hk, e1, e2, e3, e4⟩
    · have e : (r1, r2) = ((-1 : Int), (0 : Int)) := e
      rw [e]
      exact List.mem_cons_self
    · have e1 : r1 = (k : Int) := e1
      have e2 : 1 ≤ r2 := e2
      have e3 : r2 ≤ 3 := e3
      refine List.mem_cons_of_mem _ (List.mem_flatMap.mpr ⟨k, List.mem_filter.mpr ⟨List.mem_range.mpr hk, beq_iff_eq.mpr e4⟩, ?_⟩)
      have : r2 = 1 ∨ r2 = 2 ∨ r2 = 3 := by omega
      rw [e1]
      show (Int.ofNat k, r2) ∈ _
      rcases this with z | z | z <;> rw [z] <;> simp
theorem tny_le {α : Type} [DecidableEq α] : ∀ {l D : List α}, l.Nodup → (∀ x ∈ l, x ∈ D) → l.length ≤ D.length
  | [], _, _, _ => Nat.zero_le _
  | x :: l, D, hn, hs => by
    obtain ⟨n1, n2⟩ := List.nodup_cons.mp hn
    have hx := hs x List.mem_cons_self
    have ih := tny_le (D := D.erase x) n2 fun y hy => (List.mem_erase_of_ne (fun (e : y = x) => n1 (by rw [← e]; exact hy))).mpr (hs y (List.mem_cons_of_mem _ hy))
    rw [List.length_erase_of_mem hx] at ih
    have := List.length_pos_of_mem hx
    rw [List.length_cons]
    omega
/-- stands of one company -/
theorem tiny_few {l : List Std} {n : Nat} (hn : l.Nodup) (h : ∀ s ∈ l, Tiny s ∧ s.1.length = n) : l.length ≤ 4887 := by
  cases l with
  | nil => exact Nat.zero_le _
  | cons x l =>
    have n3 : n ≤ 3 := by
      have := h x List.mem_cons_self
      rw [← this.2]
      exact this.1.l1
    have z := tny_le (D := tinies n) hn fun s hs => by
      have := mem_tinies (h s hs).1
      rwa [(h s hs).2] at this
    obtain ⟨t0, t1, t2, t3⟩ := tinies_len
    have : n = 0 ∨ n = 1 ∨ n = 2 ∨ n = 3 := by omega
    rcases this with e | e | e | e <;> subst e <;> exact Nat.le_trans z (by assumption)
/-- of whatever companies -/
theorem tiny_many {l : List Std} (hn : l.Nodup) (h : ∀ s ∈ l, Tiny s) : l.length ≤ 19548 := by
  have z := tny_le (D := tinies 0 ++ tinies 1 ++ tinies 2 ++ tinies 3) hn fun s hs => by
    have a := mem_tinies (h s hs)
    have b := (h s hs).l1
    have : s.1.length = 0 ∨ s.1.length = 1 ∨ s.1.length = 2 ∨ s.1.length = 3 := by omega
    simp only [List.mem_append]
    rcases this with e | e | e | e <;> rw [e] at a
    · exact .inl (.inl (.inl a))
    · exact .inl (.inl (.inr a))
    · exact .inl (.inr a)
    · exact .inr a
  obtain ⟨t0, t1, t2, t3⟩ := tinies_len
  simp only [List.length_append] at z
  omega
end Ink
namespace Ink
open PySem PySem.Spec PyProof.Rows L2 Evl
/-- all but what stands at d stays -/
def KD (d : Addr) (H H' : Hp) : Prop := ∀ b o, H b = some o → b ≠ d → H' b = some o
/-- only stands of companies of at most three are kept -/
def AllTiny (kvs : List (NK × V)) : Prop := ∀ kv ∈ kvs, ∃ s, kv.1 = kS s ∧ Tiny s
/-- a company whose dict stands at d -/
def CoAtD (P : Program) (w : World) (K : PySem.W.Frag) (C : Addr) (H : Hp) (c : Addr) (m : List Wr) (n : Nat) (d : Addr) : Prop :=
  ∃ dx tw kvs, H c = some (.ins C dx (coF tw d)) ∧ Dp K H (.ref tw) (dMt m) ∧ DicAt P w K H d kvs ∧ Cached K H m kvs ∧ kvs.length ≤ n ∧ AllTiny kvs
theorem CoAt.d {P : Program} {w : World} {K : PySem.W.Frag} {C : Addr} {H : Hp} {c : Addr} {m : List Wr} (h : CoAt P w K C H c m 0) : ∃ d, CoAtD P w K C H c m 0 d := by
  obtain ⟨dx, tw, d, kvs, h1, h2, h3, h4, h5⟩ := h
  exact ⟨d, dx, tw, kvs, h1, h2, h3, h4, h5, fun kv hk => by rw [List.eq_nil_of_length_eq_zero (Nat.le_zero.mp h5)] at hk; cases hk⟩
/-- however often it was asked, it keeps no more than that -/
theorem CoAtD.cap {P : Program} {w : World} {K : PySem.W.Frag} {C : Addr} {H : Hp} {c : Addr} {m : List Wr} {n : Nat} {d : Addr} (h : CoAtD P w K C H c m n d) : CoAtD P w K C H c m 20000 d := by
  obtain ⟨dx, tw, kvs, h1, h2, h3, h4, h5, h6⟩ := h
  refine ⟨dx, tw, kvs, h1, h2, h3, h4, ?_, h6⟩
  obtain ⟨xs, _, p, _, nd, _⟩ := h3
  have key : ∀ (kvs : List (NK × V)) (ys : List (NK × Addr × Value)), Paired PairN kvs ys → AllTiny kvs → ∃ l : List Std, l.map kS = ys.map (·.1) ∧ ∀ s ∈ l, Tiny s := fun kvs ys p => by
    induction p with
    | nil => exact fun _ => ⟨[], rfl, fun s hs => (by cases hs)⟩
    | @cons a b as bs r p ih =>
      intro t
      obtain ⟨l, e, hl⟩ := ih fun kv hk => t kv (List.mem_cons_of_mem _ hk)
      obtain ⟨s, es, ts⟩ := t a List.mem_cons_self
      refine ⟨s :: l, by rw [List.map_cons, List.map_cons, e, ← es, r.1], fun x hx => ?_⟩
      rcases List.mem_cons.mp hx with z | z
      · rw [z]
        exact ts
      · exact hl x z
  obtain ⟨l, e, hl⟩ := key _ _ p h6
  rw [← e] at nd
  have lz := congrArg List.length e
  rw [List.length_map, List.length_map, ← Paired.length p] at lz
  have := tiny_many (List.Pairwise.of_map kS (fun a b hab z => hab (congrArg kS z)) nd) hl
  omega
theorem CoAtD.co {P : Program} {w : World} {K : PySem.W.Frag} {C : Addr} {H : Hp} {c : Addr} {m : List Wr} {n : Nat} {d : Addr} (h : CoAtD P w K C H c m n d) : CoAt P w K C H c m n := by
  obtain ⟨dx, tw, kvs, h1, h2, h3, h4, h5, _⟩ := h
  exact ⟨dx, tw, d, kvs, h1, h2, h3, h4, h5⟩
theorem CoAtD.ext {P : Program} {w : World} {K : PySem.W.Frag} {C : Addr} {H : Hp} {c : Addr} {m : List Wr} {n : Nat} {d : Addr} (h : CoAtD P w K C H c m n d) : ∃ xs, H d = some (DicO P w d xs) := by
  obtain ⟨dx, tw, kvs, _, _, ⟨xs, e, _⟩, _⟩ := h
  exact ⟨xs, e⟩
theorem CoAtD.keep {P : Program} {w : World} {K : PySem.W.Frag} {C : Addr} {H H' : Hp} {c : Addr} {m : List Wr} {n : Nat} {d : Addr} (h : CoAtD P w K C H c m n d) (hd : H' d = H d) (hc : ∀ o, H c = some o → H' c = some o) (ht : TupK K H H') : CoAtD P w K C H' c m n d := by
  obtain ⟨dx, tw, kvs, h1, h2, h3, h4, h5, h6⟩ := h
  exact ⟨dx, tw, kvs, hc _ h1, dp_tk ht (fz_dMt m) h2, h3.up hd ht, h4.up ht, h5, h6⟩
theorem KD.tk {P : Program} {w : World} {K : PySem.W.Frag} {d : Addr} {H H' : Hp} {xs : DX} (k : KD d H H') (e : H d = some (DicO P w d xs)) : TupK K H H' := fun b ys h => by
  rcases h with (h | ⟨o, h⟩) | h
  · exact .inl (.inl (k _ _ h fun z => by rw [z, e] at h; exact dicO_ne.2 _ (Option.some.inj h)))
  · exact .inl (.inr ⟨o, k _ _ h fun z => by rw [z, e] at h; unfold DicO at h; cases h⟩)
  · exact .inr h
def spStepsD (P : Program) (w : World) (K : PySem.W.Frag) (C : Addr) : Sp := fun vs H Q _ => ∃ c m n v s d, vs = [.ref c, v] ∧ CoAtD P w K C H c m n d ∧ n < 90000 ∧ GoodM m ∧ Fits m s ∧ Tiny s ∧ Dp K H v (dS s) ∧
  ∀ p vs H', H p = none → KD d H H' → CoAtD P w K C H' c m (n + 1) d → H' p = some (.lst vs) → DpAll K H' vs ((stepsOf m s).map dStep) → Q (.ref p) H'
section
variable {P : Program} {w : World} {K : PySem.W.Frag} {mg : Str → Option Value} {base : Heap}
end
end Ink
namespace Ink
open PySem PySem.Spec PyProof.Rows L2 Evl
/-! ### data that cannot be the bag: it outlives what is drawn -/
def bagLike : List PyData → Bool
  | _ :: .int _ :: _ => true
  | _ => false
mutual
def nb : PyData → Bool
  | .list ds => !bagLike ds && nbAll ds
  | .tuple ds => nbAll ds
  | .dict _ => false
  | .none => true
  | .bool _ => true
  | .int _ => true
  | .str _ => true
def nbAll : List PyData → Bool
  | [] => true
  | d :: ds => nb d && nbAll ds
end
theorem nbAll_iff : ∀ {ds : List PyData}, nbAll ds = true ↔ ∀ d ∈ ds, nb d = true
  | [] => by unfold nbAll; exact ⟨fun _ _ h => (by cases h), fun _ => rfl⟩
  | d :: ds => by
    unfold nbAll
    rw [Bool.and_eq_true, nbAll_iff]
    exact ⟨fun h e he => (List.mem_cons.mp he).elim (fun z => z ▸ h.1) (h.2 e), fun h => ⟨h d (List.mem_cons_self ..), fun e he => h e (List.mem_cons_of_mem _ he)⟩⟩
theorem nb_map {α : Type} {e : α → PyData} {xs : List α} (h : ∀ x ∈ xs, nb (e x) = true) : nbAll (xs.map e) = true := nbAll_iff.mpr fun d hd => by
  obtain ⟨x, hx, rfl⟩ := List.mem_map.mp hd
  exact h x hx
mutual
theorem nb_fz : ∀ d : PyData, fz d = true → nb d = true
  | .none, _ => by unfold nb; rfl
  | .bool _, _ => by unfold nb; rfl
  | .int _, _ => by unfold nb; rfl
  | .str _, _ => by unfold nb; rfl
  | .list _, h => by unfold fz at h; cases h
  | .dict _, h => by unfold fz at h; cases h
  | .tuple ds, h => by
    unfold fz at h
    unfold nb
    exact nbs_fz ds h
theorem nbs_fz : ∀ ds : List PyData, fzAll ds = true → nbAll ds = true
  | [], _ => by unfold nbAll; rfl
  | d :: ds, h => by
    unfold fzAll at h
    rw [Bool.and_eq_true] at h
    unfold nbAll
    rw [nb_fz d h.1, nbs_fz ds h.2]
    rfl
end
/-- a list of which no item is a number -/
theorem nb_list {ds : List PyData} (h1 : ∀ d ∈ ds, ∀ i, d ≠ .int i) (h2 : nbAll ds = true) : nb (.list ds) = true := by
  unfold nb
  rw [h2, Bool.and_true]
  match ds, h1 with
  | a :: .int i :: r, h1 => exact absurd rfl (h1 (.int i) (by simp) i)
  | [], _ => rfl
  | [_], _ => rfl
  | _ :: .none :: _, _ => rfl
  | _ :: .bool _ :: _, _ => rfl
  | _ :: .str _ :: _, _ => rfl
  | _ :: .list _ :: _, _ => rfl
  | _ :: .tuple _ :: _, _ => rfl
  | _ :: .dict _ :: _, _ => rfl
theorem bag_data {K : PySem.W.Frag} {H H0 : Hp} {p q s l : V} {i : Int} {ds : List PyData} (h : DpAll K H [p, .int i, q, s] ds) : bagLike ds = true := by
  cases h with
  | cons h1 t =>
    cases t with
    | cons h2 t =>
      cases t with
      | cons h3 t =>
        cases t with
        | cons h4 t =>
          cases t
          cases h2
          rfl
mutual
theorem dp_nb {K : PySem.W.Frag} {H H' : Hp} {a l : Addr} (b : BagAt H a l) (k : Keep a H H') : ∀ (d : PyData) (v : V), nb d = true → Dp K H v d → Dp K H' v d
  | .none, _, _, h => by cases h; exact .non
  | .bool b, _, _, h => by cases h; exact .bl b
  | .int i, _, _, h => by cases h; exact .int i
  | .str x, _, _, h => by cases h; exact .str x
  | .dict _, _, _, h => by cases h
  | .tuple ds, _, f, h => by
    cases h with
    | tup hs ha => exact .tup (keep_t b k _ _ hs) (dps_nb b k ds _ (by unfold nb at f; exact f) ha)
  | .list ds, _, f, h => by
    cases h with
    | @lst p xs _ hs ha =>
      unfold nb at f
      rw [Bool.and_eq_true] at f
      obtain ⟨ns, q, t, s, h1, _⟩ := id b
      refine .lst ?_ (dps_nb b k ds _ f.2 ha)
      rcases hs with (h | ⟨o, h⟩) | h
      · refine .inl (.inl (k _ _ (fun z => ?_) h))
        rw [z, h1] at h
        injection h with h
        injection h with h
        rw [← h] at ha
        have := bag_data (l := .non) (H0 := H) ha
        rw [this] at f
        exact nomatch f.1
      · exact .inl (.inr ⟨o, k _ _ (fun z => by rw [z, h1] at h; cases h) h⟩)
      · exact .inr h
theorem dps_nb {K : PySem.W.Frag} {H H' : Hp} {a l : Addr} (b : BagAt H a l) (k : Keep a H H') : ∀ (ds : List PyData) (vs : List V), nbAll ds = true → DpAll K H vs ds → DpAll K H' vs ds
  | [], _, _, h => by cases h; exact .nil
  | d :: ds, _, f, h => by
    unfold nbAll at f
    rw [Bool.and_eq_true] at f
    cases h with
    | cons h1 h2 => exact .cons (dp_nb b k d _ f.1 h1) (dps_nb b k ds _ f.2 h2)
end
/-- a list of such things is not the bag's -/
theorem lst_ne {K : PySem.W.Frag} {H : Hp} {a l p : Addr} {vs : List V} {ds : List PyData} (b : BagAt H a l) (h : H p = some (.lst vs)) (hd : DpAll K H vs ds) (n : nb (.list ds) = true) : p ≠ a := fun z => by
  obtain ⟨ns, q, t, s, h1, _⟩ := b
  rw [z, h1] at h
  injection h with h
  injection h with h
  rw [← h] at hd
  unfold nb at n
  rw [bag_data (l := .non) (H0 := H) hd] at n
  cases n
end Ink
namespace Ink
open PySem PySem.Spec PyProof.Rows L2 Evl
abbrev rTupOf (K : PySem.W.Frag) : List V → Hp → VK → Prop := fun xs H Q => ∃ p ys, xs = [.ref p] ∧ ((SqL K H p ys ∧ ∀ l, H l = none → Q (.ref l) (upd H l (.tup ys))) ∨ (SqT K H p ys ∧ Q (.ref p) H))
/-! ### a company made, its dict new -/
def spInitD (P : Program) (w : World) (K : PySem.W.Frag) (C : Addr) (c : List PyData → PyData) : Sp := fun vs H Q _ => ∃ p dx v m, vs = [.ref p, v] ∧ H p = some (.ins C dx []) ∧ Dp K H v (c (m.map dW)) ∧ GoodM m ∧
  ∀ d H', H d = none → (∀ b o, H b = some o → b ≠ p → H' b = some o) → CoAtD P w K C H' p m 0 d → Q .non H'
section
variable {P : Program} {w : World} {K : PySem.W.Frag} {mg : Str → Option Value} {base : Heap}
theorem ok_initD {f C : Addr} {fd : FuncData} {k : Nat} {c : List PyData → PyData} {df : List V} (F : FunD K "__init__" "Company.__init__" (defArgs sCompanyInit) (defBody sCompanyInit) (defScope sCompanyInit) df [] f fd) (T : Txt mg) (Z : CoC K C) (hc : c = .list ∨ c = .tuple)
    (C__need_company : Cal P w K mg base k "_need_company" ["writers"] (spP K (RNeed c))) : FnOk P w K mg base CX0 (k + 1) f fd ["self", "writers"] (spInitD P w K C c) := by
  refine F.ok sc_Company___init__ (fun vs H Q E h => ?_) (fun cdv A outer s H vs Q E hr h => ?_)
  · obtain ⟨p, dx, v, m, rfl, _⟩ := h
    rfl
  · obtain ⟨p, dx, v, m, rfl, hp, hv, g, q⟩ := h
    refine ⟨_, (pss_cons (ps_expr (pe_callC C__need_company hr (by rfl) (pa_cons (pv 1) pa_nil)))
    (pss_cons (ps_fld (pv 0) (pe_callTy call_tuple_of (by rfl) T.m_tuple (by decide +kernel) (pa_cons (pv 1) pa_nil)) rfl)
    (pss_one (ps_fld (pv 0) pe_dnewN rfl)))), ?_⟩
    refine (ed_call (K := K) (d := .none) (eds_cons (ed_var rfl hv) eds_nil) ⟨m, g, rfl, rfl⟩) H (.refl H) _ fun _ H1 e1 _ => ?_
    have hv := dp_same e1 hv
    have hw : EvD K (tCB (fun xs H Q => ∃ p ys, xs = [.ref p] ∧ ((SqL K H p ys ∧ ∀ l, H l = none → Q (.ref l) (upd H l (.tup ys))) ∨ (SqT K H p ys ∧ Q (.ref p) H))) (tCons (tVar 1) tNil)) [some (.ref p), some v] H1 (dMt m) := by
      rcases hc with rfl | rfl
      · exact ed_tuple (ed_var rfl hv)
      · exact ed_tupleT (ed_var rfl hv)
    refine sd_fld hw fun u H2 e2 hu => ?_
    obtain ⟨tw, xs, rfl, htw, hxs⟩ := dp_tup hu
    have hp2 := e2 _ _ (e1 _ _ hp)
    refine ⟨.ref p, rfl, p, C, dx, [], rfl, hp2, Z.cl, Z.nW, (by show 0 < 1000; decide), ?_⟩
    intro d H3 nd hb hd
    have pd : p ≠ d := ne_of_none (upd_same (H := H2) (a := p) (o := .ins C dx (putF "_writers" (.ref tw) []))) nd
    refine ⟨.ref p, rfl, p, C, dx, _, rfl, (hb p pd).trans upd_same, Z.cl, Z.nF, (by show 1 < 1000; decide), ?_⟩
    have t3 : ∀ b o, H2 b = some o → b ≠ p → upd H3 p (.ins C dx (coF tw d)) b = some o := fun b o e nb => by
      have nbd : b ≠ d := ne_of_none (by rw [upd_ne nb]; exact e) nd
      rw [upd_ne nb, hb b nbd, upd_ne nb]
      exact e
    have tk : TupK K H2 (upd H3 p (.ins C dx (coF tw d))) := fun b xs h => by
      rcases h with (h | ⟨o, h⟩) | h
      · exact .inl (.inl (t3 _ _ h (ne_of h hp2 (by intro z; cases z))))
      · exact .inl (.inr ⟨o, t3 _ _ h (ne_of h hp2 (by intro z; cases z))⟩)
      · exact .inr h
    have nd2 : H2 d = none := by
      rw [upd_ne pd.symm] at nd
      exact nd
    refine q d _ (Same.free (e1.trans e2) nd2) (fun b o e nb => t3 b o (e2 _ _ (e1 _ _ e)) nb) ⟨dx, tw, [], upd_same, dp_tk tk (fz_dMt m) (.tup htw hxs), hd.up (upd_ne pd.symm) ?_, fun kv hk => (by cases hk), Nat.le_refl _, fun kv hk => (by cases hk)⟩
    exact TupK.upd ((hb p pd).trans upd_same) (fun _ z => by cases z) fun _ _ z => by cases z
end
end Ink
namespace Ink
open PySem PySem.Spec PyProof.Rows L2
/-! ### how long a number's text is -/
def figs (m : Nat) : List Nat := (Nat.toDigits 10 m).map Char.toNat
theorem figs_pos (m : Nat) : figs m ≠ [] := fun e => by
  have h := toDigits_len_ge 10 m
  rw [List.map_eq_nil_iff.mp e] at h
  exact absurd h (by decide)
theorem figs_all (m : Nat) : PySem.NumText.AllDigits (figs m) := fun c hc => by
  obtain ⟨ch, hch, e⟩ := List.mem_map.mp hc
  rw [← e]
  exact digit_range (Nat.isDigit_of_mem_toDigits (by decide) (by decide) hch)
theorem figs_len {m : Nat} (h : m < 10 ^ 30) : (figs m).length ≤ 30 := by
  unfold figs
  rw [List.length_map]
  exact digits10_le (by decide) h
theorem num_tl (n : Int) : TL.tl (dig n) = if n < 0 then 45 :: figs n.natAbs else figs n.natAbs := by
  unfold dig figs
  rw [TL.tl_ofString]
  cases n with
  | ofNat m =>
    rw [if_neg (by have : (0 : Int) ≤ Int.ofNat m := Int.natCast_nonneg m; omega)]
    show (Nat.repr m).toList.map Char.toNat = _
    rw [Nat.toList_repr]
    rfl
  | negSucc m =>
    rw [if_pos (Int.negSucc_lt_zero m)]
    show ("-" ++ Nat.repr (m + 1)).toList.map Char.toNat = _
    rw [String.toList_append, List.map_append, Nat.toList_repr]
    rfl
theorem num_len {n : Int} (h : n.natAbs < 10 ^ 30) : (dig n).length ≤ 31 := by
  have e := num_tl n
  have hl := figs_len h
  rw [TL.len_tl, e]
  split
  · rw [List.length_cons]
    omega
  · omega
theorem num_log {n : Int} (h : n.natAbs < 10 ^ 30) : n.natAbs.log2 < 1920 := by
  by_cases h0 : n.natAbs = 0
  · rw [h0]
    decide
  · refine (Nat.log2_lt h0).mpr (Nat.lt_trans h (by decide +kernel))
theorem num_ok {n : Int} (h : n.natAbs < 10 ^ 30) : n.natAbs.log2 < 1920 ∧ (Str.ofString (toString n)).length ≤ 1000 := ⟨num_log h, by
  have := num_len h
  show (dig n).length ≤ 1000
  omega⟩
end Ink
namespace L2N
open PySem PySem.Spec PyProof.Rows L2
/-! ### except (A, B, C) as n: of what the body raises each is one of them -/
theorem traced_push {h base : Heap} {e : Addr} {Z : Obj → Prop} {fl : Value} {o : Obj} (t : HandSPX.TracedZ h base e Z fl) : HandSPX.TracedZ (h.push o) base e Z fl := by
  obtain ⟨oe, vs, T, oT, ts, he, hz, hd, h1, hn, hne, hT, hdT, h3⟩ := t
  exact ⟨oe, vs, T, oT, ts, Heap.get?_push_of_some _ he, hz, hd, h1, hn, hne, Heap.get?_push_of_some _ hT, hdT, h3⟩
theorem flying_push {base h : Heap} {l : List Env} {e : Addr} {Z : Obj → Prop} {o : Obj} (x : HandSPX.FlyingZ base l e Z h) : HandSPX.FlyingZ base l e Z (h.push o) := by
  obtain ⟨f1, f2, f3, f4⟩ := x
  exact ⟨fun b u e => Heap.get?_push_of_some _ (f1 b u e), f2, f3.of_keeps fun b u e _ => ⟨u, Heap.get?_push_of_some _ e, rfl⟩, traced_push f4⟩
/-- what such a clause wishes of the body's exceptions -/
def wAs3 (K : PySem.W.Frag) (c1 c2 c3 : Value) (i : Nat) (ts : Addr → Value → Option Addr → TS) (D : Ends) : WX := fun cls d σ H =>
  PySem.W.exmAny K cls [c1, c2, c3] = some true ∧ ∀ a, H a = none → ts a cls d { nx := fun σ' H' => D.nx (σ'.set i none) H', rt := D.rt, bk := fun σ' H' => D.bk (σ'.set i none) H', ct := fun σ' H' => D.ct (σ'.set i none) H' } (σ.set i (some (.ref a))) H
section
variable {X : Cx} {x1 x2 x3 n : Str} {c1 c2 c3 : Value} {i j : Nat} {body suite : List Stmt} {b₀ : Stmt} {p1 p2 p3 tp pos pos' : Pos} {tb : WX → TS} {ts : Addr → Value → Option Addr → TS}
theorem name_at {pins : List (Addr × Obj)} {σ : L2.St} {H : Hp} {s : Shared} {x : Str} {c : Value} {p : Pos} {Q : Value → Shared → Prop} {E : Value → Shared → Prop} (I : Inv X pins σ H s) (hc : Names X x c) (q : Q c s) : wpAny (model X.prog X.w) X.A (eval (.Name x p) X.env) Q E s := by
  obtain ⟨hg, hdb, hm | ⟨hm, hv, hn⟩⟩ := hc
  · exact ld_glob I hg hm q hdb
  · exact ld_blt I hg hm hv q hn hdb
theorem ps_try_as3 (hs : X.stack = X.env :: X.outer) (hf : X.env.frame = some X.env.locals) (hN : X.N.Nodup) (hi : X.N[i]? = some n) (hln : X.env.kindOf n = some .local) (h1 : Names X x1 c1) (h2 : Names X x2 c2) (h3 : Names X x3 c3)
    (hb : ∀ (W : WX) (pn : List (Addr × Obj)) (xe : Value → Shared → Prop), Takes (X.tr pn xe) W → PassesOwn (model X.prog X.w) X.A X.env xe → PSs (X.tr pn xe) body (tb W))
    (hsu : ∀ (a : Addr) (oe : Obj) (cls : Value) (d : Option Addr) (pn : List (Addr × Obj)), Zn cls d oe → (∃ vs, oe.data = .fields vs) → PSs (X.suite a ((a, oe) :: pn)) (b₀ :: suite) (ts a cls d)) :
    PS X (.Try body [.ExceptHandler (some (.Tuple [.Name x1 p1, .Name x2 p2, .Name x3 p3] j tp)) (some n) (b₀ :: suite) pos'] [] [] pos) (fun D σ H => tb (wAs3 X.K c1 c2 c3 i ts D) D σ H) := by
  refine ⟨fun pins s σ H D I h => ?_⟩
  have ok := I.ok
  have hfr : X.A.frames = some (X.env :: X.outer) := by rw [ok.frames, hs]
  refine wpAny_Try_except ?_
  refine wpAny_mono ((hb (wAs3 X.K c1 c2 c3 i ts D) (X.pn ++ pins) (fun e s₁ => wpAny (model X.prog X.w) X.A (noteFrame e X.env) (fun _ s₂ => wpAny (model X.prog X.w) X.A (setFlight e none) (fun _ s₃ =>
    wpAny (model X.prog X.w) X.A (handleBy e X.env [.ExceptHandler (some (.Tuple [.Name x1 p1, .Name x2 p2, .Name x3 p3] j tp)) (some n) (b₀ :: suite) pos']) (SP X pins D) X.xe s₃) X.xe s₂) X.xe s₁) (fun u s' xx => ?_) PassesOwn.looking).run [] s σ H D (I.toTry _) h) (fun f s1 hsp => ?_) (fun e s1 he => he)
  · obtain ⟨a, B, sI, pins', σ', H', cls, d, rfl, J', nb, up, sky, na, os, ag, hx, yes⟩ := xx
    have J : Inv X pins σ' H' sI := J'.ofTry ok
    have sky' : Sky B (X.env :: X.outer) a (Zn cls d) X.env.locals s'.heap := by rw [← hs]; exact sky
    show wpAny (model X.prog X.w) X.A (noteFrame (.ref a) X.env) _ _ _
    refine Sky.land Zn.steady hfr hf sky' fun hA flA upA => ?_
    -- where the exception lies, in a heap where it has landed
    have at_ : ∀ {hh : Heap}, HandSPX.FlyingZ B (X.env :: X.outer) a (Zn cls d) hh → s'.heap.UpToSlots hh → ∃ oe, hh.get? a = some oe ∧ Zn cls d oe ∧ (∃ vs, oe.data = .fields vs) ∧ Inv (X.suite a ((a, oe) :: (X.pn ++ pins))) [] σ' H' { s' with heap := hh } := fun {hh} fl uu => by
      have Jh : Inv X pins σ' H' { s' with heap := hh } := J.landed nb fl.1 (up.trans uu) os ag
      obtain ⟨oe, vs, he, hz, hd⟩ := fl.there
      have nfr : a ∉ frs (X.env :: X.outer) := fun hm => by
        obtain ⟨_, o', e', hnf⟩ := fl.2.2.1.mem hm
        rw [he] at e'
        cases e'
        exact hnf _ hd
      exact ⟨oe, he, hz, ⟨vs, hd⟩, Jh.suite he hd na (fun z => nfr (List.mem_filterMap.mpr ⟨X.env, List.mem_cons_self, by rw [hf, z]⟩)) fun hm => by
        obtain ⟨e, he', q⟩ := List.mem_filterMap.mp hm
        exact nfr (List.mem_filterMap.mpr ⟨e, List.mem_cons_of_mem _ he', q⟩)⟩
    obtain ⟨oA, eA, zA, dA, SA⟩ := at_ flA upA
    have SA' : Inv (X.suite a ((a, oA) :: (X.pn ++ pins))) [] σ' H' { s' with heap := hA } := SA
    refine wpAny_handleBy_cons (codeAny_handlers_test ?_) (by intro q; cases q)
    refine wpAny_Tuple (wpAny_items_cons (name_at (X := X.suite a ((a, oA) :: (X.pn ++ pins))) SA h1 (wpAny_items_cons (name_at (X := X.suite a ((a, oA) :: (X.pn ++ pins))) SA h2 (wpAny_items_cons (name_at (X := X.suite a ((a, oA) :: (X.pn ++ pins))) SA h3 ?_))))))
    refine wpAny_pure ⟨by show 3 ≤ sizeLine; decide, ?_⟩
    have flT := flying_push (o := { cls := .type "tuple", data := .seq [c1, c2, c3].toArray }) flA
    have upT : s'.heap.UpToSlots (hA.push { cls := .type "tuple", data := .seq [c1, c2, c3].toArray }) := upA.trans (.of_keeps fun b o e => Heap.get?_push_of_some _ e)
    obtain ⟨oT, eT, zT, dT, ST⟩ := at_ flT upT
    have LT : PySem.W.Looks (model X.prog X.w) (hA.push { cls := .type "tuple", data := .seq [c1, c2, c3].toArray }) (typeOf (.ref a)) cls := fun A Q E s k q => wpAny_typeOf_ref (k _ _ eT) (by rw [zT.1]; exact q)
    have LM := PySem.W.exm_tup3 (M := model X.prog X.w) ST.kIn LT (tp := hA.objs.size) (by heap_get) hx
    refine LM.here ?_
    refine codeAny_handlers_suite_as ?_
    refine HandSPX.lands_againZ flT fun h4 fl4 up4 => ?_
    obtain ⟨o4, e4, z4, d4, S4⟩ := at_ fl4 (upT.trans up4)
    refine store_ok (X := X.suite a ((a, o4) :: (X.pn ++ pins))) (v := .ref a) S4 hN hi (.inl hln) rfl (fun s5 S5 => ?_) (.inr hln)
    refine wpAny_mono ((hsu a o4 cls d (X.pn ++ pins) z4 d4).run [] s5 _ H' _ S5 (yes a na)) (fun f s6 hsp => ?_) (fun _ _ z => False.elim z)
    have end_ : ∀ {σ6 : L2.St} {H6 : Hp} {Q : Shared → Prop}, Inv (X.suite a ((a, o4) :: (X.pn ++ pins))) [] σ6 H6 s6 → (∀ s7, Inv X pins (σ6.set i none) H6 s7 → Q s7) →
        wpAny (model X.prog X.w) X.A (do bindName X.env n .none; unbindBehindTheSuite X.env n pos') (fun _ s7 => Q s7) X.xe s6 := fun S6 hq => gone_ok (S6.unsuite ok) hN hi hln hq
    cases f with
    | ret u =>
      obtain ⟨v6, σ6, H6, S6, r6, q6⟩ := hsp
      exact end_ S6 fun s7 J7 => ⟨_, _, _, J7, r6, q6⟩
    | next =>
      obtain ⟨σ6, H6, S6, q6⟩ := hsp
      exact end_ S6 fun s7 J7 => ⟨_, _, J7, q6⟩
    | brk =>
      obtain ⟨σ6, H6, S6, q6⟩ := hsp
      exact end_ S6 fun s7 J7 => ⟨_, _, J7, q6⟩
    | cont =>
      obtain ⟨σ6, H6, S6, q6⟩ := hsp
      exact end_ S6 fun s7 J7 => ⟨_, _, J7, q6⟩
  · cases f with
    | ret u =>
      obtain ⟨v, σ', H', J', r, q⟩ := hsp
      exact ⟨v, σ', H', J'.ofTry ok, r, q⟩
    | next =>
      obtain ⟨σ', H', J', q⟩ := hsp
      exact wpAny_execs_nil ⟨σ', H', J'.ofTry ok, q⟩
    | brk =>
      obtain ⟨σ', H', J', q⟩ := hsp
      exact ⟨σ', H', J'.ofTry ok, q⟩
    | cont =>
      obtain ⟨σ', H', J', q⟩ := hsp
      exact ⟨σ', H', J'.ofTry ok, q⟩
end
end L2N
namespace HotX
open PySem PySem.Spec PyProof.Rows
section
variable {prog : Program} {w : World} {A : Around} {E : Value → Shared → Prop} {s : Shared}
/-- a tuple's iterator at its end, while an exception is handled -/
theorem next_tuple_end_hot {it t x1 : Addr} {i : Nat} {items : Array Value} {Q : Option Value → Shared → Prop} (hot : HotAt A x1 s.heap) (hne : x1 ≠ it)
    (hit : IsTupIter s.heap it t i) (ht : IsTup s.heap t items) (hx : items[i]? = none)
    (hQ : ∀ h', Heap.ExtBut it s.heap h' → Q none { s with heap := h' }) : wpAny (model prog w) A (pyNext (.ref it)) Q E s := by
  obtain ⟨o, ho, hc, hd⟩ := id hit
  obtain ⟨ol, hol, _, nl, hdl⟩ := ht
  obtain ⟨hh, o1, vs1, h1, d1, c1⟩ := hot
  unfold pyNext
  refine wpAny_bind (wpAny_attempt (wpAny_callSpecial?_slot (name := Str.ofString "__next__") hit.typeIs slot_tupleiter_next
    (wpAny_call_entry slot_tupleiter_next hit.typeIs entry_tupleiter_next ?_ (args_tupleiter_next _))))
  show wpAny _ _ (field (.ref it) 0 >>= _) _ _ s
  refine wpAny_bind (wpAny_field ho hd (x := .ref t) rfl ?_)
  show wpAny _ _ (if (Value.ref t == Value.none) = true then _ else _) _ _ s
  rw [if_neg (show ¬ ((Value.ref t == Value.none) = true) from Bool.false_ne_true)]
  show wpAny _ _ (field (.ref it) 1 >>= _) _ _ s
  refine wpAny_bind (wpAny_field ho hd (x := .int i 0) rfl ?_)
  show wpAny _ _ (seqItems? (.ref t) >>= _) _ _ s
  refine wpAny_bind (wpAny_seqItems hol hdl ?_)
  simp only [Int.toNat_natCast, hx]
  refine wpAny_bind (wpAny_rule (wpAny_bind (wpAny_setField ho hd (by simp) ?_)))
  show wpAny _ _ (newExc (.type "StopIteration") [] >>= _) _ _ _
  refine wpAny_bind ?_
  simp only [newExc, newTuple]
  refine wpAny_bind (wpAny_newObj_type ?_ (by size_fits))
  refine wpAny_bind (m := firstArgMember _ _) (wpAny_of_eq (a := Value.none) (by first | rfl | (simp only [firstArgMember]; rfl)) ?_)
  refine wpAny_newObj_type ?_ (by size_fits)
  have h1' : (s.heap.update it (Obj.mapFields (·.setIfInBounds 0 Value.none))).get? x1 = some o1 := (Heap.get?_update_other s.heap _ (Ne.symm hne)).trans h1
  refine raiseNew_hot (x1 := x1) ⟨hh, o1, vs1, Heap.get?_push_of_some _ (Heap.get?_push_of_some _ h1'), d1, c1⟩ (Nat.ne_of_lt (Heap.lt_size (Heap.get?_push_of_some _ h1'))) (Heap.get?_push_size _ rfl) rfl (by show 2 < 6; decide) ?_
  refine wpAny_bind (wpAny_isInstance (T := "StopIteration") (b := true) ⟨_, Heap.get?_update_self _ (Heap.get?_push_size _ rfl) rfl, rfl⟩ isSubtype_stop ?_)
  refine wpAny_pure (hQ _ fun b u hb e => ?_)
  have e' := (Heap.get?_update_other s.heap (a := it) (Obj.mapFields (·.setIfInBounds 0 Value.none)) (Ne.symm hb)).trans e
  have e2 := Heap.get?_push_of_some ({ cls := .type "tuple", data := .seq #[] } : Obj) e'
  rw [Heap.get?_update_other _ _ (Nat.ne_of_gt (Heap.lt_size e2))]
  exact Heap.get?_push_of_some _ e2
/-- a tuple's things, all of them, while an exception is handled -/
theorem unpackItems_hot {t x1 : Addr} {items : Array Value} {Q : List Value → Shared → Prop} (hot : HotAt A x1 s.heap) (ht : IsTup s.heap t items)
    (hQ : ∀ h', Heap.ExtBut s.heap.objs.size s.heap h' → Q items.toList { s with heap := h' }) : wpAny (model prog w) A (unpackItems (.ref t) items.size none) Q E s := by
  have hlt : t ≠ s.heap.objs.size := by
    obtain ⟨o, ho, _⟩ := ht
    exact Nat.ne_of_lt (Heap.lt_size ho)
  have h1x : x1 ≠ s.heap.objs.size := by
    obtain ⟨_, o1, _, h1, _⟩ := hot
    exact Nat.ne_of_lt (Heap.lt_size h1)
  unfold unpackItems notIterableAtAll
  refine wpAny_bind (wpAny_bind (wpAny_specialOf ht.typeIs slot_tuple_iter.lookup (wpAny_pure ?_)))
  simp only [Bool.false_eq_true, if_false]
  refine wpAny_bind (wpAny_holding (iter_tuple ht ?_))
  refine wpAny_bind (wpAny_holding (draw_tuple hlt items.size 0 _ _ ⟨_, Heap.get?_push_size _ rfl, rfl, rfl⟩ (ht.push _) (by omega) fun h₁ hit₁ hs₁ => ?_))
  rw [show List.take items.size (List.drop 0 items.toList) = items.toList by rw [List.drop_zero]; exact List.take_of_length_le (by simp), if_neg (by simp)]
  have hot₁ : HotAt A x1 h₁ := by
    obtain ⟨hh, o1, vs1, e1, d1, c1⟩ := hot
    exact ⟨hh, o1, vs1, hs₁.extBut x1 o1 h1x (Heap.get?_push_of_some _ e1), d1, c1⟩
  refine wpAny_bind (wpAny_holding (next_tuple_end_hot hot₁ h1x hit₁ ((ht.push _).extBut hs₁.extBut hlt) (by simp) fun h₂ he₂ => ?_))
  simp only [Option.isSome_none, Bool.false_eq_true, if_false]
  exact wpAny_pure (hQ h₂ fun b o hb e => he₂ b o hb (hs₁.extBut b o hb (Heap.get?_push_of_some _ e)))
end
end HotX
namespace L2H
open PySem PySem.Spec PyProof.Rows L2 HotX
theorem vals_two {v w : V} {us : List Value} (r : Vals [v, w] us) : ∃ u1 u2, us = [u1, u2] ∧ RelV v u1 ∧ RelV w u2 := by
  cases r with
  | cons p q =>
    cases q with
    | cons p' q' =>
      cases q'
      exact ⟨_, _, rfl, p, p'⟩
section
variable {X : Cx}
/-- a, b = x, y within an except suite -/
theorem ps_parH {i j : Nat} {x y : Str} {a b : Expr} {ta : TA} {px py pt pos : Pos} {kt k2 pt2} (hc : HotC X) (hN : X.N.Nodup) (hi : X.N[i]? = some x) (hj : X.N[j]? = some y) (hij : i ≠ j)
    (hx : X.env.scope.names.lookup x = some .local) (hy : X.env.scope.names.lookup y = some .local) (ha : PA X [a, b] ta)
    (hw : swappedStores [.Tuple [.Name x px, .Name y py] kt pt] (.Tuple [a, b] k2 pt2) X.env = pure (some [x, y]))
    (hs : swapsWithSole [.Tuple [.Name x px, .Name y py] kt pt] (.Tuple [a, b] k2 pt2) pos.line X.env = pure false := by rfl) :
    PS X (.Assign [.Tuple [.Name x px, .Name y py] kt pt] (.Tuple [a, b] k2 pt2) pos) (tPar i j ta) := by
  refine ⟨fun pins s σ H D I h => ?_⟩
  rw [exec_Assign_arm]
  refine wpAny_bind (wpAny_standAt ?_)
  rw [hs]
  refine wpAny_bind (wpAny_pure ?_)
  rw [if_neg (by decide)]
  refine wpAny_bind (Tuple_ (thn (ha.run _ pins s σ H _ I h) fun us s1 ⟨vs, H1, I1, r1, q1⟩ => ?_))
  obtain ⟨v, w, e1, q1⟩ := q1
  subst e1
  obtain ⟨u1, u2, rfl, rv, rw'⟩ := vals_two r1
  refine wpAny_newObj_type ?_ (by show 2 ≤ sizeLine; decide)
  have I2 : Inv X pins σ H1 { s1 with heap := s1.heap.push { cls := .type "tuple", data := .seq [u1, u2].toArray } } := I1.kept (t' := s1.toks) fun b o e => Heap.get?_push_of_some _ e
  obtain ⟨x1, hot⟩ := hc.at I2
  rw [hw]
  refine wpAny_bind (wpAny_pure ?_)
  show wpAny (model X.prog X.w) X.A (do rule "assign.swapped-stores"; let items ← unpackItems (.ref s1.heap.objs.size) 2 none; assignInOrder [fun v => bindName X.env y v, fun v => bindName X.env x v] items.reverse; pure Flow.next) _ _ _
  refine wpAny_bind (wpAny_rule (wpAny_bind (unpackItems_hot (items := #[u1, u2]) hot (IsTup.new s1.heap _) fun h' hx' => ?_)))
  have I3 := I2.kept (h' := h') (t' := s1.toks) fun b o e => hx' b o (Nat.ne_of_lt (Heap.lt_size e)) e
  show wpAny _ _ (assignInOrder [fun v => bindName X.env y v, fun v => bindName X.env x v] [u2, u1] >>= fun _ => pure Flow.next) _ _ _
  refine wpAny_bind (assignInOrder_cons (wpAny_bindName (store_ok I3 hN hj (.inl hy) rw' (fun s2 I4 => ?_) (.inr hy))))
  refine assignInOrder_cons (wpAny_bindName (store_ok I4 hN hi (.inl hx) rv (fun s3 I5 => assignInOrder_nil (wpAny_pure ?_)) (.inr hx)))
  rw [List.set_comm _ _ (Ne.symm hij)] at I5
  exact ⟨_, H1, I5, q1⟩
end
end L2H
namespace L2H
open PySem PySem.Spec PyProof.Rows L2 HotX
/-- a def that is handed the very exception that is handled: sp is told of it, as it stands -/
structure FnHE (P : Program) (w : World) (K : PySem.W.Frag) (mg : Str → Option Value) (base : Heap) (CX : CXT) (k : Nat) (f : Addr) (fd : FuncData) (ps : List Str) (sp : Addr × Obj → Sp) : Prop where
  len : ∀ p vs H Q E, sp p vs H Q E → vs.length = ps.length
  run : ∀ (A : Around) (outer : List Env) (s : Shared) (H : Hp) (args : Args) (us : List Value) (vs : List V) (Q : VK) (E : XK) (p : Addr × Obj), RoomH k A → Hot1 A p → PinOk outer H s p → Env0 P w K mg base A outer s H → BindsTo s fd args (ps.zip us) → Vals vs us → sp p vs H Q E →
    codeAny (model P w) A (.call (.ref f) args) (CR CX outer P w H s Q E) s
theorem fn_ofHE {CX : CXT} {P : Program} {w : World} {K : PySem.W.Frag} {mg : Str → Option Value} {base : Heap} {k : Nat} {f : Addr} {name qual : Str} {params : Arguments} {body : List Stmt} {scope : Scope} {dV kV doc pm cdv ct oc : Value} {an od : Option Addr}
    {osl : Array (Option Value)} {N ps : List Str} {sp : Addr × Obj → Sp} (lk : K.lookup f = some ⟨oc, od, .func (PySem.W.fnOf name qual params body scope dV kV doc pm an cdv ct), osl⟩) (hcd : PySem.W.codeIn K cdv qual = true) (S : FnScope N ps scope)
    (len : ∀ p vs H Q E, sp p vs H Q E → vs.length = ps.length)
    (hbody : ∀ (A : Around) (outer : List Env) (s : Shared) (H : Hp) (vs : List V) (Q : VK) (E : XK) (p : Addr × Obj), Hot1 A p → RoomH k (A.deeper (envOfC qual scope s.heap.objs.size f cdv)) → sp p vs H Q E →
      ∃ t, PSs (cxH CX P w K mg base N qual scope f cdv A outer s H E p) body t ∧ t { nx := fun _ H' => Q .non H', rt := Q } (L2.start N vs) H) :
    FnHE P w K mg base CX (k + 1) f (PySem.W.fnOf name qual params body scope dV kV doc pm an cdv ct) ps sp := by
  refine ⟨len, fun A outer s H args us vs Q E p hr hot hpin e0 hb r hsp => ?_⟩
  have KX : K.In s.heap := e0.mod.kin.keeps fun b o e => (e0.bs b o e).1
  have lim : s.heap.NoLimit := e0.mod.nolimit.keeps fun b o e => (e0.bs b o e).1
  refine codeAny_call_function hr.depth (KX _ _ lk) rfl S.co S.gen rfl (PySem.W.codeRec_of KX hcd) (hb _ _ _ _ ?_)
  refine wpAny_newFunctionEnv_cells S.kind (fun ⟨n, v⟩ hy => by
    rcases S.par n (List.of_mem_zip hy).1 with q | q
    · exact .inl q
    · exact .inr ⟨q, PySem.W.cellsFrom_some _ _ _ (.inl q)⟩) fun env he s1 x => ?_
  subst he
  refine ⟨lim.keeps x.toInCall.keep, codeAny_func ?_⟩
  obtain ⟨t, ht, hq⟩ := hbody A outer s H vs Q E p hot (hr.deeper _) hsp
  refine wpAny_mono (ht.run [] s1 (L2.start N vs) H _ (inv_startH S hpin e0 (len _ _ _ _ _ hsp) r x) hq) (fun fl s' hs => ?_) fun e s' hs => hs
  cases fl with
  | ret u =>
    obtain ⟨v, σ', H', J, rv, q⟩ := hs
    exact ⟨v, H', J.os, J.bare, J.base, J.hok, rv, q⟩
  | next =>
    obtain ⟨σ', H', J, q⟩ := hs
    exact ⟨V.non, H', J.os, J.bare, J.base, J.hok, rfl, q⟩
  | brk =>
    obtain ⟨_, _, _, q⟩ := hs
    exact False.elim q
  | cont =>
    obtain ⟨_, _, _, q⟩ := hs
    exact False.elim q
section
variable {X : Cx} {CX : CXT} {k : Nat} {f : Addr} {fd : FuncData} {ps : List Str} {sp : Addr × Obj → Sp} {E : XK} {x : Str} {q pos : Pos} {e : Expr} {es : List Expr} {t : TA} {p : Addr × Obj}
/-- f(e, ..) in the suite that handles p's exception -/
theorem pe_callHE (F : FnHE X.prog X.w X.K X.mg X.base CX k f fd ps sp) (hr : RoomH k X.A) (hot : Hot1 X.A p) (hp : p ∈ X.pn) (hg : Gl X x) (hm : X.mg x = some (.ref f)) (hk : PySem.W.keepIn X.K (.ref f) = true) (hb : Binds X.K fd ps []) (hx : Passes CX X E)
    (ha : PA X (e :: es) t) (hdb : (x == ("__debug__" : Str)) = false := by decide) (he : starEach (e :: es) X.env = (false, eval e X.env) :: starEach es X.env := by rfl) (hpl : (backTo pos (starEach es X.env)).any (·.1) = false := by rfl) :
    PE X (.Call (.Name x q) (e :: es) [] pos) (tCall (sp p) [] E t) := by
  refine ⟨fun pins s σ H Q I h => ?_⟩
  refine wpAny_Call_Name_kw (ld_glob I hg hm ?_ hdb)
  refine PySem.W.callWith_K (h₀ := X.base) I.ok.mod.kin hk (thn (ha.run pos pins s σ H _ I h) fun us s1 ⟨vs, H1, I1, r, q⟩ => ⟨I1.kIn, ?_⟩) he hpl
  have q : sp p vs H1 Q E := by
    have q' : sp p (vs ++ []) H1 Q E := q
    rw [List.append_nil] at q'
    exact q'
  have hl : us.length = ps.length := by
    rw [← Vals.length r]
    exact F.len _ _ _ _ _ q
  have b := hb s1 us I1.kIn (by rw [List.append_nil]; exact hl)
  rw [List.append_nil] at b
  have P1 := I1.pin p (List.mem_append_left _ hp)
  refine wpAny_call (codeAny_mono (F.run X.A X.stack s1 H1 ⟨us, []⟩ us vs Q E p hr hot ⟨P1.1, P1.2.1, fun hm => (List.mem_cons.mp (I1.stkSub p.1 hm)).elim P1.2.2.1 P1.2.2.2.1, P1.2.2.2.2⟩ I1.env0 b r q) fun r s' hq => ?_)
  cases r with
  | error e => exact hx pins σ H1 s1 e s' I1 hq
  | ok fl =>
    cases fl with
    | ret u => exact I1.after hq
    | next => exact False.elim hq
    | brk => exact False.elim hq
    | cont => exact False.elim hq
end
end L2H
namespace L2H
open PySem PySem.Spec PyProof.Rows L2
/-- e.f, e the exception that p says, where p stands in the context -/
def tXp (p : Addr × Obj) (f : Str) (te : TE) : TE := fun σ H Q => te σ H fun x H1 => x = .ref p.1 ∧ ∃ (dd : Addr) (fs : List (Str × V)) (v : V), p.2.dict = some dd ∧ H1 dd = some (.xd fs) ∧ fs.lookup f = some v ∧ Q v H1
theorem pe_xp {X : Cx} {C : Addr} {p : Addr × Obj} {e : Expr} {te : TE} {pos : Pos} {n : Str} (T : XfC X.K C) (hno : PySem.W.findIn X.K (.ref C) n = some none) (hp : p ∈ X.pn) (hc : p.2.cls = .ref C) (hf : ∃ vs, p.2.data = .fields vs)
    (he : PE X e te) (hb : attributeBase e n X.env (eval e X.env) = eval e X.env := by rfl) : PE X (.Attribute e n pos) (tXp p n te) := by
  refine ⟨fun pins s σ H Q I h => ?_⟩
  refine attr_of hb (thn (he.run pins s σ H _ I h) fun u s1 ⟨x, H1, I1, rx, ex, dd, fs, v, ed, ea, l, q⟩ => ?_)
  subst ex
  obtain rfl : u = Value.ref p.1 := rx
  obtain ⟨vs, hd⟩ := hf
  obtain ⟨mA, hns, hr⟩ : ObjOk X.prog X.w H1 s1.heap dd (.xd fs) := I1.hok dd _ ea
  obtain ⟨od, ho, hl⟩ := lookIn_ns hns
  obtain ⟨u, hu, ru⟩ := RelO.some_of (v := v) (o := mA n) (by rw [← l]; exact hr n)
  exact HandSPX.exc_get I1.kIn ⟨(I1.pin p (List.mem_append_left _ hp)).1, hc, by unfold PySem.W.notCls; rw [hd] <;> rfl, by rw [ed]; exact ho⟩ T.ga T.gg T.exC (PySem.W.findObj_own T.hdC hno rfl (by rw [hl, hu])) (handed_of ru) ⟨v, H1, I1.tok _, ru, q⟩
end L2H
namespace L2N
open PySem PySem.Spec PyProof.Rows L2
/-! ### x(lambda: body), x an own def that asks it, or hands it on: what leaves the lambda has no context -/
/-- the lambda's own context; its exceptions are those of this namespace -/
abbrev askC (X : Cx) (A : Around) (outer : List Env) (s : Shared) (H : Hp) (E : XK) (sc : Scope) (f cd : Addr) : Cx :=
  (LamX.lamCx X A outer s H E sc f cd).wish fun e t => wpAny (model X.prog X.w) (A.deeper (LamX.lamEnv X sc s.heap.objs.size f cd)) (leaving (LamX.lamEnv X sc s.heap.objs.size f cd) e) (fun _ u => CX X.prog X.w outer H s E e u) (fun e' u => CX X.prog X.w outer H s E e' u) t
/-- the name that lambdas of this context bear -/
abbrev lamQ (X : Cx) : Str := X.env.qual ++ "<lambda>"
abbrev lamObj (X : Cx) (pr : Arguments) (body : Expr) (sc : Scope) (pm : Value) (cd : Addr) (ct : Value) : Obj := PySem.W.kla_obj "<lambda>" (lamQ X) pr body sc (cloFrom X.env.cells sc.names []) pm cd ct
section
variable {X : Cx} {pins : List (Addr × Obj)} {σ : L2.St} {H HZ : Hp} {s s1 : Shared} {sc : Scope} {f cd : Addr} {pm ct : Value} {pr : Arguments} {body : Expr} {tb : TE} {E : XK}
/-- the lambda at f is called from the frames outer, in a state that grew out of the one in which it was made -/
theorem ask_run {A : Around} {outer : List Env} {Q : VK} (I : Inv X pins σ H s) (L : LamX.LamS X.env.scope sc) (ob : s1.heap.get? f = some (lamObj X pr body sc pm cd ct))
    (no : bindArgs (PySem.W.kla_fn "<lambda>" (lamQ X) pr body sc (cloFrom X.env.cells sc.names []) pm (.ref cd) ct) ⟨[], []⟩ = pure []) (e0 : Env0 X.prog X.w X.K X.mg X.base A outer s1 HZ) (hh : A.handled = none) (hdp : A.depth < recursionLimit) (lim : s1.heap.NoLimit)
    (un : Un (frs X.stack) [] H HZ s.heap s1.heap) (hcd : ∃ (oc : Obj) (vs : Array Value) (t : Tok), s1.heap.get? cd = some oc ∧ oc.data = .fields vs ∧ vs[1]? = some (.str (lamQ X) t))
    (hb : PE (askC X A outer s1 HZ E sc f cd) body tb) (ht : tb σ HZ Q) : codeAny (model X.prog X.w) A (.call (.ref f) ⟨[], []⟩) (CR (CX X.prog X.w) outer X.prog X.w HZ s1 Q E) s1 := by
  obtain ⟨oc, vs, t, h1, h2, h3⟩ := hcd
  refine PySem.W.kla_callFunE hdp ob rfl L.co L.gen rfl ⟨cd, oc, vs, t, rfl, h1, h2, h3⟩ ?_
  rw [no]
  refine wpAny_pure (wpAny_newFunctionEnv (fun y hy => (L.own y hy).2) (fun y hy => absurd hy List.not_mem_nil) (fun h' ns sb => ⟨lim.fresh _ sb, ?_⟩) L.kind)
  have kp : ∀ b o, s1.heap.get? b = some o → h'.get? b = some o := fun b o e => sb.extBut b o (Nat.ne_of_lt (Heap.lt_size e)) (Heap.get?_push_of_some _ e)
  have J := (LamX.lam_start2 (E := E) (f := f) (c' := cd) (tk := s1.toks + ([] : List (Str × Value)).length) I L e0 hh un ns kp).wish fun e t => wpAny (model X.prog X.w) (A.deeper (LamX.lamEnv X sc s1.heap.objs.size f cd)) (leaving (LamX.lamEnv X sc s1.heap.objs.size f cd) e) (fun _ u => CX X.prog X.w outer HZ s1 E e u) (fun e' u => CX X.prog X.w outer HZ s1 E e' u) t
  exact PySem.W.kla_codeExpr (wpAny_mono (hb.run [] _ σ HZ Q J ht) (fun v s' ⟨w', H', J', rv, q⟩ => ⟨w', H', J'.os, J'.bare, J'.base, J'.hok, rv, q⟩) fun e s' hq => hq)
/-- growth under more frames, these being new -/
theorem un_in {fs fs' : List Addr} {H H1 H2 : Hp} {h h1 h2 : Heap} (a : Un fs [] H H1 h h1) (b : Un fs' [] H1 H2 h1 h2) (hs : ∀ x ∈ fs, x ∈ fs') (hn : ∀ x ∈ fs', x ∈ fs ∨ h.get? x = none) : Un fs [] H H2 h h2 where
  keep x o e n k z := b.keep x o (a.keep x o e n k z) (a.free x o e n z) (fun m => (hn x m).elim k fun q => by rw [e] at q; cases q) z
  slot x o e n k z := by
    obtain ⟨sl, q⟩ := a.slot x o e n k z
    obtain ⟨sl2, q2⟩ := b.slot x _ q (a.free x o e n z) (hs x k) z
    exact ⟨sl2, q2⟩
  free x o e n z := by
    obtain ⟨sl, q⟩ := a.any e n z
    exact b.free x _ q (a.free x o e n z) z
  there x o e z := by
    obtain ⟨o1, q⟩ := a.there x o e z
    exact b.there x o1 q z
  tups x xs e := b.tups x xs (a.tups x xs e)
  frzs x o u e := b.frzs x o u (a.frzs x o u e)
  tbls x ps e := by
    obtain ⟨m1, e1⟩ := a.tbls x ps e
    obtain ⟨m2, e2⟩ := b.tbls x _ e1
    exact ⟨m1 ++ m2, by rw [e2, Array.append_assoc]⟩
end
/-- what stands at f can be called in each state that grows out of (s, H) under the frames outer; tl is its reading -/
structure Ask (P : Program) (w : World) (K : PySem.W.Frag) (mg : Str → Option Value) (base : Heap) (j : Nat) (outer : List Env) (s : Shared) (H : Hp) (f cd : Addr) (q : Str) (tl : XK → Hp → VK → Prop) : Prop where
  ob : ∃ o, s.heap.get? f = some o ∧ ∀ h : Heap, h.get? f = some o → PySem.W.FnAt f h
  free : H f = none
  nofr : f ∉ frs outer
  run : ∀ (A' : Around) (outer' : List Env) (s' : Shared) (H' : Hp) (Q : VK) (E : XK), Room j A' → Env0 P w K mg base A' outer' s' H' → Un (frs outer) [] H H' s.heap s'.heap → H' cd = some (LamX.CodeO cd q) → tl E H' Q →
    codeAny (model P w) A' (.call (.ref f) ⟨[], []⟩) (CR (CX P w) outer' P w H' s' Q E) s'
/-- the def x (its name, scope, body) that is handed a thing by the name a and asks it: tt is its reading, told by the asked thing's -/
def AskedBy (P : Program) (w : World) (K : PySem.W.Frag) (mg : Str → Option Value) (base : Heap) (j k : Nat) (N : List Str) (x : Str) (sc : Scope) (bd : List Stmt) (q : Str) (tt : (XK → Hp → VK → Prop) → Hp → VK → Prop) : Prop :=
  ∀ (A : Around) (outer : List Env) (g : Addr) (cdv : Value) (f cd : Addr) (s : Shared) (H : Hp) (Q : VK) (tl : XK → Hp → VK → Prop), Room k (A.deeper (envOfC x sc s.heap.objs.size g cdv)) → H cd = some (LamX.CodeO cd q) → Ask P w K mg base j outer s H f cd q tl → tt tl H Q →
    ∃ t, PSs (cxOf CX0 P w K mg base N x sc g cdv A outer s H E0).nox bd t ∧ t { nx := fun _ H' => Q .non H', rt := Q } (L2.start N [.ref f]) H
section
variable {P : Program} {w : World} {K : PySem.W.Frag} {mg : Str → Option Value} {base : Heap} {j k : Nat} {N : List Str} {x a q : Str} {sc : Scope} {g : Addr} {cdv : Value} {A : Around} {outer : List Env} {f cd : Addr} {s : Shared} {H : Hp} {tl : XK → Hp → VK → Prop} {pn : List (Addr × Obj)} {xe : Value → Shared → Prop} {W : WX} {p1 p2 : Pos}
/-- a(), a the first parameter -/
theorem pe_ask (M : Ask P w K mg base j outer s H f cd q tl) (hr : Room j (A.deeper (envOfC x sc s.heap.objs.size g cdv))) (tk : Takes ((cxOf CX0 P w K mg base N x sc g cdv A outer s H E0).tr pn xe) W) (hN : N[0]? = some a) (va : Vis sc a) (hd2 : (a == ("__debug__" : Str)) = false := by decide) (hd3 : (a == ("__classdict__" : Str)) = false := by decide) :
    PE ((cxOf CX0 P w K mg base N x sc g cdv A outer s H E0).tr pn xe) (.Call (.Name a p1) [] [] p2) fun σ' H' Q' => σ'[0]? = some (some (.ref f)) ∧ H' cd = some (LamX.CodeO cd q) ∧ ∃ E : XK, (∀ cls d H2, E cls d H2 → W cls d σ' H2) ∧ tl E H' Q' := ⟨fun pz sz σz Hz Qz Iz hz => by
  obtain ⟨hs, hc, E, hW, hz⟩ := hz
  refine wpAny_Call_Name_kw (thn ((pe_var (pos := p1) (i := 0) hN va hd2 hd3).run pz sz σz Hz (fun v H2 => v = .ref f ∧ H2 = Hz) Iz ⟨.ref f, hs, rfl, rfl⟩) fun u s2 ⟨v, H2, I2, r2, ev, eH⟩ => ?_)
  subst ev
  rw [eH] at I2
  obtain rfl : u = Value.ref f := r2
  obtain ⟨o, ho, hfn⟩ := M.ob
  have e2 : Env0 P w K mg base (A.deeper (envOfC x sc s.heap.objs.size g cdv)) (envOfC x sc s.heap.objs.size g cdv :: outer) s2 Hz := I2.env0
  have un : Un (frs outer) [] H Hz s.heap s2.heap := I2.base
  have rc := M.run (A.deeper (envOfC x sc s.heap.objs.size g cdv)) (envOfC x sc s.heap.objs.size g cdv :: outer) s2 Hz Qz E hr e2 un hc hz
  have px : ∀ e s3, CX P w (envOfC x sc s.heap.objs.size g cdv :: outer) Hz s2 E e s3 → xe e s3 := fun e s3 z => tk e s3 (XE.of_call I2 hW z)
  refine PySem.W.callWith_F0 (hfn _ (un.keep f o ho M.free M.nofr List.not_mem_nil)) (wpAny_call (codeAny_mono rc fun r s3 hq => ?_))
  cases r with
  | error e => exact px e s3 hq
  | ok fl =>
    cases fl with
    | ret u => exact I2.after hq
    | next => exact False.elim hq
    | brk => exact False.elim hq
    | cont => exact False.elim hq⟩
/-- the thing is handed on: it can be asked there as well -/
theorem Ask.on {pins : List (Addr × Obj)} {σ : L2.St} {H2 : Hp} {s2 : Shared} (M : Ask P w K mg base j outer s H f cd q tl) (I : Inv (cxOf CX0 P w K mg base N x sc g cdv A outer s H E0) pins σ H2 s2) : Ask P w K mg base j (envOfC x sc s.heap.objs.size g cdv :: outer) s2 H2 f cd q tl := by
  have un : Un (frs outer) [] H H2 s.heap s2.heap := I.base
  obtain ⟨o, ho, hfn⟩ := M.ob
  have sub : ∀ y ∈ frs outer, y ∈ frs (envOfC x sc s.heap.objs.size g cdv :: outer) := fun y hy => List.mem_cons_of_mem _ hy
  have new : ∀ y ∈ frs (envOfC x sc s.heap.objs.size g cdv :: outer), y ∈ frs outer ∨ s.heap.get? y = none := fun y hy => by
    rcases List.mem_cons.mp hy with e | e
    · refine .inr ?_
      cases q : s.heap.get? y with
      | none => rfl
      | some o =>
        have h1 := Heap.lt_size q
        rw [e] at h1
        exact absurd h1 (Nat.lt_irrefl _)
    · exact .inl e
  refine ⟨⟨o, un.keep f o ho M.free M.nofr List.not_mem_nil, hfn⟩, un.free f o ho M.free List.not_mem_nil, fun hm => ?_, fun A' outer' s' H' Q E hr e0 un2 hc ht => M.run A' outer' s' H' Q E hr e0 (un_in un un2 sub new) hc ht⟩
  rcases new f hm with z | z
  · exact M.nofr z
  · rw [ho] at z
    cases z
end
section
variable {X : Cx} {T : List (Addr × Str)} {tt : (XK → Hp → VK → Prop) → Hp → VK → Prop} {t : XK → TE} {x a : Str} {g c P : Addr} {k j : Nat} {st : Stmt} {fd : FuncData} {N : List Str} {pr : Arguments} {body : Expr} {sc : Scope} {p pl pos : Pos}
/-- x(lambda: body) -/
theorem pe_asks (F : Fun X.K x x st g fd) (S : FnScope N [a] (defScope st)) (hg : Gl X x) (mx : X.mg x = some (.ref g)) (kp : PySem.W.keepIn X.K (.ref g) = true) (bd : Binds X.K fd [a] [])
    (hG : AskedBy X.prog X.w X.K X.mg X.base (j + 1) k N x (defScope st) (defBody st) (lamQ X) tt) (TB : LamX.TabB X.base X.mg c P) (hcode : X.env.code = .ref c) (hmT : (P, lamQ X) ∈ T) (hu : ∀ p ∈ T, p.1 = P → p.2 = lamQ X) (hr : Room (k + 1) X.A) (L : LamX.LamS X.env.scope sc) (hdf : defaultsOf pr X.env = ([], []))
    (no : ∀ (q : Str) (cl : List (Str × Addr)) (pm cv ct : Value), bindArgs (PySem.W.kla_fn "<lambda>" q pr body sc cl pm cv ct) ⟨[], []⟩ = pure [])
    (hb : ∀ (A : Around) (outer : List Env) (s : Shared) (H : Hp) (E : XK) (f cd : Addr), Room j (A.deeper (LamX.lamEnv X sc s.heap.objs.size f cd)) → PE (askC X A outer s H E sc f cd) body (t E))
    (hd1 : (x == ("__debug__" : Str)) = false := by decide) :
    PE X (.Call (.Name x p) [.Lambda pr body sc pl] [] pos) (LamX.tLam T tt t) := by
  obtain ⟨oc, od, kV, doc, pm, an, cdv, ct, osl, rfl, lk, hcd⟩ := F.ex
  refine ⟨fun pins s σ H Q I hw => ?_⟩
  obtain ⟨hT, hw⟩ := hw
  refine wpAny_Call_Name_kw (ld_glob I hg mx ?_ hd1)
  refine PySem.W.callWith_K (h₀ := X.base) I.ok.mod.kin kp ?_ (by rfl) (by rfl)
  show wpAny _ _ (spliced ((false, eval (.Lambda pr body sc pl) X.env) :: backTo pos (starEach [] X.env))) _ _ s
  refine Calls.spliced_cons (LamX.lam_make2 I TB hcode hmT hu hT hdf (L.has I.ok) fun f cd pm2 ct2 H1 s1 I1 en T1 ob fn fr hco => ?_)
  refine Calls.spliced_nil ⟨I1.kIn, ?_⟩
  have M : Ask X.prog X.w X.K X.mg X.base (j + 1) X.stack s1 H1 f cd (lamQ X) (fun E H' Q' => t E σ H' Q') := ⟨⟨_, ob, fun h e => ⟨_, _, _, _, e⟩⟩, fn, fr, fun A' outer' s' H' Q' E' hr' e0 un hc hz => by
    have lim : s'.heap.NoLimit := e0.mod.nolimit.keeps fun b o e => (e0.bs b o e).1
    exact ask_run (X := X) (E := E') (Q := Q') (cd := cd) I1 L (un.keep f _ ob fn fr List.not_mem_nil) (no _ _ _ _ _) e0 hr'.hd hr'.depth lim un (e0.hok cd _ hc).1 (hb _ _ s' H' E' f cd (hr'.deeper _)) hz⟩
  refine wpAny_call (codeAny_mono (LamX.run_ofS (CX := CX0) (E := E0) (Q := Q) (N := N) (ps := [a]) (us := [.ref f]) (vs := [.ref f]) lk hcd S hr I1.env0 (bd s1 [.ref f] I1.kIn rfl) (.cons rfl .nil) rfl fun hr1 => ?_) fun r s2 hq => ?_)
  · obtain ⟨t', h1, h2⟩ := hG X.A X.stack g cdv f cd s1 H1 Q _ hr1 hco M (hw H1 en T1)
    exact ⟨t', h1.nox, h2⟩
  · cases r with
    | error e => exact (show False from hq).elim
    | ok fl =>
      cases fl with
      | ret u => exact I1.after hq
      | next => exact False.elim hq
      | brk => exact False.elim hq
      | cont => exact False.elim hq
end
section
variable {P : Program} {w : World} {K : PySem.W.Frag} {mg : Str → Option Value} {base : Heap} {j k : Nat} {N Ng : List Str} {x y a b q : Str} {sc : Scope} {st : Stmt} {g h : Addr} {fd : FuncData} {cdv : Value} {A : Around} {outer : List Env} {f cd : Addr} {s : Shared} {H : Hp} {tl : XK → Hp → VK → Prop} {tt : (XK → Hp → VK → Prop) → Hp → VK → Prop} {p1 p2 pos : Pos}
/-- y(a), a the first parameter, in the def x that was handed it -/
theorem pe_handon (M : Ask P w K mg base j outer s H f cd q tl) (F : Fun K y y st h fd) (S : FnScope Ng [b] (defScope st)) (hg : Gl (cxOf CX0 P w K mg base N x sc g cdv A outer s H E0).nox y) (my : mg y = some (.ref h)) (kp : PySem.W.keepIn K (.ref h) = true) (bd : Binds K fd [b] [])
    (hG : AskedBy P w K mg base j k Ng y (defScope st) (defBody st) q tt) (hr : Room (k + 1) (A.deeper (envOfC x sc s.heap.objs.size g cdv))) (hN : N[0]? = some a) (va : Vis sc a) (hd1 : (y == ("__debug__" : Str)) = false := by decide) (hd2 : (a == ("__debug__" : Str)) = false := by decide) (hd3 : (a == ("__classdict__" : Str)) = false := by decide) :
    PE (cxOf CX0 P w K mg base N x sc g cdv A outer s H E0).nox (.Call (.Name y p1) [.Name a p2] [] pos) fun σ' H' Q' => σ'[0]? = some (some (.ref f)) ∧ H' cd = some (LamX.CodeO cd q) ∧ tt tl H' Q' := by
  obtain ⟨oc, od, kV, doc, pm, an, cdw, ct, osl, rfl, lk, hcd⟩ := F.ex
  refine ⟨fun pins s1 σ H1 Q I hw => ?_⟩
  obtain ⟨hs, hc, hw⟩ := hw
  refine wpAny_Call_Name_kw (ld_glob I hg my ?_ hd1)
  have ha : PA (cxOf CX0 P w K mg base N x sc g cdv A outer s H E0).nox [.Name a p2] (tCons (tVar 0) tNil) := pa_cons (pe_var (i := 0) hN va hd2 hd3) pa_nil
  refine PySem.W.callWith_K (h₀ := base) I.ok.mod.kin kp (thn (ha.run pos pins s1 σ H1 (fun vs H2 => vs = [.ref f] ∧ H2 = H1) I ⟨.ref f, hs, rfl, rfl⟩) fun us s2 ⟨vs, H2, I2, r2, ev, eH⟩ => ⟨I2.kIn, ?_⟩) (by rfl) (by rfl)
  subst ev
  rw [eH] at I2
  have M2 := M.on I2.unwish
  refine wpAny_call (codeAny_mono (LamX.run_ofS (CX := CX0) (E := E0) (Q := Q) (N := Ng) (ps := [b]) (us := us) (vs := [.ref f]) lk hcd S hr I2.env0 (by have z := bd s2 us I2.kIn (by rw [List.append_nil, ← Vals.length r2]; rfl); rw [List.append_nil] at z; exact z) r2 rfl fun hr1 => ?_) fun r s3 hq => ?_)
  · obtain ⟨t', h1, h2⟩ := hG _ _ h cdw f cd s2 H1 Q _ hr1 hc M2 hw
    exact ⟨t', h1.nox, h2⟩
  · cases r with
    | error e => exact (show False from hq).elim
    | ok fl =>
      cases fl with
      | ret u => exact I2.after hq
      | next => exact False.elim hq
      | brk => exact False.elim hq
      | cont => exact False.elim hq
end
end L2N
namespace Ink
open PySem PySem.Spec PyProof.Rows L2
/-! ### _law_field and _law_tried: the word and the field of a refusal -/
def plainT : Str := "BadSign BadName BadNumber BadDeed Full Clash NothingLeft"
/-- the name of the field that is told of a refusal of that word -/
def fieldN (w : Str) : Option Str :=
  if inV (.str w) [.str "Taken", .str "NoName"] = true then some "name"
  else if decide (V.str w = V.str "TooMany") = true then some "most"
  else if decide (V.str w = V.str "Still") = true then some "strip"
  else if decide (V.str w = V.str "NoSaid") = true then some "number"
  else if inV (.str w) ((Txt.split plainT " ").map V.str) = true then none else some "at"
def FieldIs (w : Str) (fs : List (Str × V)) (v : V) : Prop := match fieldN w with
  | none => v = .non
  | some n => fs.lookup n = some v
/-- what a refusal's class says of the names of fields -/
structure FldC (K : PySem.W.Frag) (C : Addr) : Prop where
  xf : XfC K C
  word : PySem.W.findIn K (.ref C) "word" = some none
  name : PySem.W.findIn K (.ref C) "name" = some none
  most : PySem.W.findIn K (.ref C) "most" = some none
  strip : PySem.W.findIn K (.ref C) "strip" = some none
  number : PySem.W.findIn K (.ref C) "number" = some none
  «at» : PySem.W.findIn K (.ref C) "at" = some none
/-- at dd: the fields of a refusal of the class at C; the word, and what is told beside it -/
def RefF (K : PySem.W.Frag) (H : Hp) (C dd : Addr) (w : Str) (v : V) : Prop := FldC K C ∧ ∃ fs : List (Str × V), H dd = some (.xd fs) ∧ fs.lookup (α := Str) "word" = some (V.str w) ∧ FieldIs w fs v
def spField (K : PySem.W.Frag) : Addr × Obj → L2.Sp := fun p vs H Q _ => ∃ (C dd : Addr) (w : Str) (v : V), vs = [.ref p.1] ∧ p.2.cls = .ref C ∧ (∃ ws, p.2.data = .fields ws) ∧ p.2.dict = some dd ∧ RefF K H C dd w v ∧ ∀ H', Same H H' → Q v H'
section
variable {P : Program} {w : World} {K : PySem.W.Frag} {mg : Str → Option Value} {base : Heap}
theorem ok_field {f : Addr} {fd : FuncData} {k : Nat} (F : Fun K "_law_field" "_law_field" sLField f fd) : L2H.FnHE P w K mg base CX0 (k + 1) f fd ["_law_e"] (spField K) := by
  obtain ⟨oc, od, kV, doc, pm, an, cdv, ct, osl, rfl, lk, hcd⟩ := F.ex
  refine L2H.fn_ofHE lk hcd sc__law_field (fun p vs H Q E h => ?_) (fun A outer s H vs Q E p hot hr h => ?_)
  · obtain ⟨C, dd, w, v, rfl, _⟩ := h
    rfl
  · obtain ⟨C, dd, w, v, rfl, ec, ed, edd, ⟨T, fs, efs, hw, hf⟩, q⟩ := h
    have hp : p ∈ [p] := List.mem_singleton.mpr rfl
    refine ⟨_, (pss_cons (ps_if (pt_cmpR (show OpR _ _ (rIn K false) from op_in_seq) (L2H.pe_xp T.xf T.word hp ec ed (pv 0)) (pe_tup (pa_cons pe_str (pa_cons pe_str pa_nil))) (by rfl)) (pss_one (ps_ret (L2H.pe_xp T.xf T.name hp ec ed (pv 0)))) pss_nil)
      (pss_cons (ps_if (pt_cmpR op_eq (L2H.pe_xp T.xf T.word hp ec ed (pv 0)) pe_str (nomark _)) (pss_one (ps_ret (L2H.pe_xp T.xf T.most hp ec ed (pv 0)))) pss_nil)
      (pss_cons (ps_if (pt_cmpR op_eq (L2H.pe_xp T.xf T.word hp ec ed (pv 0)) pe_str (nomark _)) (pss_one (ps_ret (L2H.pe_xp T.xf T.strip hp ec ed (pv 0)))) pss_nil)
      (pss_cons (ps_if (pt_cmpR op_eq (L2H.pe_xp T.xf T.word hp ec ed (pv 0)) pe_str (nomark _)) (pss_one (ps_ret (L2H.pe_xp T.xf T.number hp ec ed (pv 0)))) pss_nil)
      (pss_cons (ps_set (i := 1) sc__law_field.nd rfl (.inl rfl) pe_str)
      (pss_one (ps_ret (pe_ifExp (pt_cmpR (show OpR _ _ (rIn K false) from op_in_seq) (L2H.pe_xp T.xf T.word hp ec ed (pv 0)) (pe_split (pv 1) pe_str) (by rfl)) pe_non (L2H.pe_xp T.xf T.at hp ec ed (pv 0)))))))))), ?_⟩
    unfold FieldIs fieldN at hf
    refine ⟨.ref p.1, rfl, rfl, dd, fs, .str w, edd, efs, hw, by show 2 ≤ sizeLine; decide, fun t nt => ⟨t, _, rfl, .inr (.of upd_same), rfl, rfl, ?_⟩⟩
    have s1 := same_new (o := .tup [V.str "Taken", V.str "NoName"]) nt
    have e1 := s1 _ _ efs
    refine ⟨_, rfl, ite2 (fun h => ?_) (fun h => ?_)⟩
    · rw [if_pos (show inV (.str w) [.str "Taken", .str "NoName"] = true from h)] at hf
      exact ⟨.ref p.1, rfl, rfl, dd, fs, v, edd, e1, hf, q _ s1⟩
    rw [if_neg (show ¬ inV (.str w) [.str "Taken", .str "NoName"] = true from h)] at hf
    refine ⟨.ref p.1, rfl, rfl, dd, fs, .str w, edd, e1, hw, rfl, _, rfl, ite2 (fun h => ?_) (fun h => ?_)⟩
    · rw [if_pos h] at hf
      exact ⟨.ref p.1, rfl, rfl, dd, fs, v, edd, e1, hf, q _ s1⟩
    rw [if_neg h] at hf
    refine ⟨.ref p.1, rfl, rfl, dd, fs, .str w, edd, e1, hw, rfl, _, rfl, ite2 (fun h => ?_) (fun h => ?_)⟩
    · rw [if_pos h] at hf
      exact ⟨.ref p.1, rfl, rfl, dd, fs, v, edd, e1, hf, q _ s1⟩
    rw [if_neg h] at hf
    refine ⟨.ref p.1, rfl, rfl, dd, fs, .str w, edd, e1, hw, rfl, _, rfl, ite2 (fun h => ?_) (fun h => ?_)⟩
    · rw [if_pos h] at hf
      exact ⟨.ref p.1, rfl, rfl, dd, fs, v, edd, e1, hf, q _ s1⟩
    rw [if_neg h] at hf
    refine ⟨.ref p.1, rfl, rfl, dd, fs, .str w, edd, e1, hw, .str plainT, rfl, ⟨_, rfl⟩, plainT, _, rfl, rfl, rfl, by decide +kernel, fun t2 nt2 => ⟨t2, _, rfl, .inl (.of upd_same), rfl, ?_, ?_⟩⟩
    · rw [List.all_map]
      exact List.all_eq_true.mpr fun _ _ => rfl
    have s2 := Same.trans s1 (same_new (o := .lst ((Txt.split plainT " ").map V.str)) nt2)
    refine ⟨_, rfl, ite2 (fun h => ?_) (fun h => ?_)⟩
    · rw [if_pos (show inV (.str w) ((Txt.split plainT " ").map V.str) = true from h)] at hf
      have hf : v = .non := hf
      rw [hf] at q
      exact q _ s2
    · rw [if_neg (show ¬ inV (.str w) ((Txt.split plainT " ").map V.str) = true from h)] at hf
      exact ⟨.ref p.1, rfl, rfl, dd, fs, v, edd, s2 _ _ efs, hf, q _ s2⟩
end
/-- a refusal is raised, and the word and the field of it are wanted -/
def RefE (K : PySem.W.Frag) (cI cM cL : Addr) (Q : VK) : XK := fun cls d H' => ∃ (C dd : Addr) (w : Str) (v : V), cls = .ref C ∧ d = some dd ∧ PySem.W.exmAny K cls [.ref cI, .ref cM, .ref cL] = some true ∧ RefF K H' C dd w v ∧ ∀ p H2, Same H' H2 → H2 p = none → Q (.ref p) (upd H2 p (.tup [.non, .str w, v]))
/-- _law_tried: the answer, or the word and the field of what is raised -/
def ttTried (K : PySem.W.Frag) (cI cM cL : Addr) : (XK → Hp → VK → Prop) → Hp → VK → Prop := fun tl H Q => ∀ (H1 : Hp) (E2 : XK) (Q2 : VK), Same H H1 → (∀ cls d H', RefE K cI cM cL Q cls d H' → E2 cls d H') → (∀ v H', (∀ p, H' p = none → Q (.ref p) (upd H' p (.tup [v, .str "", .non]))) → Q2 v H') → tl E2 H1 Q2
theorem RefF.same {K : PySem.W.Frag} {H H' : Hp} {C dd : Addr} {w : Str} {v : V} (h : RefF K H C dd w v) (s : Same H H') : RefF K H' C dd w v := by
  obtain ⟨T, fs, e, r⟩ := h
  exact ⟨T, fs, s _ _ e, r⟩
/-- the suite's reading -/
def tHand (K : PySem.W.Frag) : Addr → Value → Option Addr → TS := fun a cls d D σ H => ∃ (C dd : Addr) (w : Str) (v : V), cls = .ref C ∧ d = some dd ∧ σ[4]? = some (some (.ref a)) ∧ RefF K H C dd w v ∧ ∀ H2, Same H H2 → D.nx ((σ.set 2 (some (.str w))).set 3 (some v)) H2
section
variable {P : Program} {w : World} {K : PySem.W.Frag} {mg : Str → Option Value} {base : Heap} {cI cM cL g1 : Addr} {fd1 : FuncData} {i j k : Nat}
theorem tried_asked (gI : mg "InkError" = some (.ref cI)) (gM : mg "Missing" = some (.ref cM)) (gL : mg "NothingLeft" = some (.ref cL)) (F : L2H.FnHE P w K mg base CX0 j g1 fd1 ["_law_e"] (spField K)) (hjk : j ≤ k) (hik : i ≤ k) (gF : mg "_law_field" = some (.ref g1))
    (kF : PySem.W.keepIn K (.ref g1) = true) (bF : Binds K fd1 ["_law_e"] []) {q : Str} : L2N.AskedBy P w K mg base i k ["_law_ask", "_law_told", "_law_word", "_law_field_here", "_law_e"] "_law_tried" (defScope sLTried) (defBody sLTried) q (ttTried K cI cM cL) := by
  intro A outer g cdv f cd s H Q tl hr hcd M h
  have SC := sc__law_tried
  let Z := (cxOf CX0 P w K mg base ["_law_ask", "_law_told", "_law_word", "_law_field_here", "_law_e"] "_law_tried" (defScope sLTried) g cdv A outer s H E0).nox
  refine ⟨_, pss_cons (ps_asg (pe_tup (pa_cons pe_non (pa_cons pe_str (pa_cons pe_non pa_nil)))) (pg_tup rfl (pgs_cons (pg_name (i := 1) SC.nd rfl (.inl rfl)) (pgs_cons (pg_name (i := 2) SC.nd rfl (.inl rfl)) (pgs_cons (pg_name (i := 3) SC.nd rfl (.inl rfl)) pgs_nil)))))
    (pss_cons (L2N.ps_try_as3 (X := Z) (c1 := .ref cI) (c2 := .ref cM) (c3 := .ref cL) (i := 4) (ts := tHand K) rfl rfl SC.nd rfl rfl ⟨rfl, rfl, .inl gI⟩ ⟨rfl, rfl, .inl gM⟩ ⟨rfl, rfl, .inl gL⟩ (fun W pn xe tk _ => pss_one (ps_set (i := 1) SC.nd rfl (.inl rfl) (L2N.pe_ask M (hr.mono hik) tk rfl (.inl rfl))))
      (fun a oe cls d pn hz hf => ⟨fun pins s1 σ H1 D I h => ?_⟩))
    (pss_one (ps_ret (pe_tup (pa_cons (pv 1) (pa_cons (pv 2) (pa_cons (pv 3) pa_nil))))))), ?_⟩
  · obtain ⟨C, dd, w, v, ec, ed, e4, ⟨T, fs, efs, hw, hfi⟩, hD⟩ := h
    have hp : (a, oe) ∈ (Z.suite a ((a, oe) :: pn)).pn := List.mem_cons_self
    have hot : L2H.Hot1 (Z.suite a ((a, oe) :: pn)).A (a, oe) := by
      obtain ⟨ws, e⟩ := hf
      exact ⟨rfl, ws, e, hz.2.2 ws e⟩
    have hrH : L2H.RoomH j (Z.suite a ((a, oe) :: pn)).A := ⟨((L2H.roomH_of hr).mono hjk).dp, ((L2H.roomH_of hr).mono hjk).un⟩
    refine (pss_one (L2H.ps_parH (X := Z.suite a ((a, oe) :: pn)) (i := 2) (j := 3) ⟨_, hot, hp⟩ SC.nd rfl rfl (by decide) rfl rfl (pa_cons (L2H.pe_xp T.xf T.word hp (hz.1.trans ec) hf (pv 4)) (pa_cons (L2H.pe_callHE F hrH hot hp (by rfl) gF kF bF pass0 (pa_cons (pv 4) pa_nil)) pa_nil)) (by rfl))).run pins s1 σ H1 D I ?_
    refine ⟨.ref a, e4, rfl, dd, fs, .str w, hz.2.1.trans ed, efs, hw, .ref a, e4, ?_⟩
    exact ⟨C, dd, w, v, rfl, hz.1.trans ec, hf, hz.2.1.trans ed, ⟨T, fs, efs, hw, hfi⟩, fun H2 s2 => ⟨_, _, rfl, hD H2 s2⟩⟩
  · refine ⟨by show 3 ≤ sizeLine; decide, fun t nt => ?_⟩
    refine ⟨t, _, rfl, .of upd_same, rfl, _, _, rfl, _, _, rfl, _, _, rfl, rfl, ?_⟩
    refine ⟨rfl, same_new nt _ _ hcd, _, fun cls d H2 hE => ?_, h _ (RefE K cI cM cL Q) _ (same_new nt) (fun _ _ _ z => z) fun v H' hq => ?_⟩
    · obtain ⟨C, dd, w, v, ec, ed, hx, R, hq⟩ := hE
      exact ⟨hx, fun a na => ⟨C, dd, w, v, ec, ed, rfl, R, fun H3 s3 => ⟨_, rfl, _, rfl, _, rfl, by show 3 ≤ sizeLine; decide, fun p np => hq p H3 s3 np⟩⟩⟩
    · exact g_go ⟨_, rfl, _, rfl, _, rfl, by show 3 ≤ sizeLine; decide, fun p np => hq p np⟩
/-- _law_refused: the word and the field alone -/
def ttRefused (K : PySem.W.Frag) (cI cM cL : Addr) : (XK → Hp → VK → Prop) → Hp → VK → Prop := fun tl H Q => ttTried K cI cM cL tl H fun v H' => ∃ (p : Addr) (x y z : V), v = .ref p ∧ H' p = some (.tup [x, y, z]) ∧ ∀ p', H' p' = none → Q (.ref p') (upd H' p' (.tup [y, z]))
theorem refused_asked {f1 : Addr} {fd2 : FuncData} (F : Fun K "_law_tried" "_law_tried" sLTried f1 fd2) (m1 : mg "_law_tried" = some (.ref f1)) (k1 : PySem.W.keepIn K (.ref f1) = true) (b1 : Binds K fd2 ["_law_ask"] [])
    (hG : ∀ q, L2N.AskedBy P w K mg base i k ["_law_ask", "_law_told", "_law_word", "_law_field_here", "_law_e"] "_law_tried" (defScope sLTried) (defBody sLTried) q (ttTried K cI cM cL)) {q : Str} :
    L2N.AskedBy P w K mg base i (k + 1) ["_law_ask"] "_law_refused" (defScope sLRefused) (defBody sLRefused) q (ttRefused K cI cM cL) := by
  intro A outer g cdv f cd s H Q tl hr hcd M h
  refine ⟨_, pss_one (ps_ret (pe_slice sl_tupA (L2N.pe_handon M F sc__law_tried rfl m1 k1 b1 (hG _) hr rfl (.inl rfl)) (po_some pe_int) po_none)), ?_⟩
  refine ⟨rfl, hcd, fun H1 E2 Q2 s1 he hq => h H1 E2 Q2 s1 (fun cls d H' hx => he cls d H' ?_) fun v H' hv => hq v H' fun p np => ?_⟩
  · obtain ⟨C, dd, w, v, e1, e2, e3, R, hv⟩ := hx
    refine ⟨C, dd, w, v, e1, e2, e3, R, fun p H2 s2 np => ?_⟩
    obtain ⟨p', x, y, z, ep, e4, hn⟩ := hv p H2 s2 np
    cases ep
    exact ⟨1, rfl, p, _, rfl, .of e4, fun h => absurd h.1 (show ¬ HT.sIx 3 0 (some 1) = 0 by decide), fun _ p2 np2 => by
      rw [upd_same] at e4
      cases e4
      exact hn p2 np2⟩
  · obtain ⟨p', x, y, z, ep, e4, hn⟩ := hv p np
    cases ep
    exact ⟨1, rfl, p, _, rfl, .of e4, fun h => absurd h.1 (show ¬ HT.sIx 3 0 (some 1) = 0 by decide), fun _ p2 np2 => by
      rw [upd_same] at e4
      cases e4
      exact hn p2 np2⟩
end
end Ink
namespace Ink
open PySem PySem.Spec PyProof.Rows L2 Evl
/-! ### defs that may raise, asked in a lambda; what a lambda's making leaves -/
/-- a def that may raise, by its name -/
def CalN (P : Program) (w : World) (K : PySem.W.Frag) (mg : Str → Option Value) (base : Heap) (k : Nat) (x : Str) (ps : List Str) (sp : Sp) : Prop :=
  ∃ f fd, FnOk P w K mg base (L2N.CX P w) k f fd ps sp ∧ mg x = some (.ref f) ∧ PySem.W.keepIn K (.ref f) = true ∧ Binds K fd ps []
section
variable {X : Cx} {k : Nat} {C : Addr} {x m : Str} {ps : List Str} {sp : Sp} {p pos apos : Pos} {o e : Expr} {es : List Expr} {ta : TE} {t : TA} {E : XK}
theorem pe_callCN (c : CalN X.prog X.w X.K X.mg X.base k x ps sp) (hr : Room k X.A) (hx : Passes (L2N.CX X.prog X.w) X E) (hg : Gl X x) (ha : PA X (e :: es) t) (hdb : (x == ("__debug__" : Str)) = false := by decide)
    (he : starEach (e :: es) X.env = (false, eval e X.env) :: starEach es X.env := by rfl) (hpl : (backTo pos (starEach es X.env)).any (·.1) = false := by rfl) : PE X (.Call (.Name x p) (e :: es) [] pos) (tCall sp [] E t) := by
  obtain ⟨f, fd, G, g, hk, b⟩ := c
  exact pe_call G hr hg g hk b .nil hx ha hdb he hpl
theorem passN0 : Passes (L2N.CX X.prog X.w) X E0 := by
  intro pins σ H s e s' I h
  obtain ⟨a, B, H', cls, d, _, _, _, _, _, _, _, hE⟩ := h
  exact False.elim hE
theorem passN {P : Program} {w : World} {K : PySem.W.Frag} {mg : Str → Option Value} {base : Heap} {N : List Str} {qual : Str} {sc : Scope} {f : Addr} {cdv : Value} {A : Around} {outer : List Env} {s : Shared} {H : Hp} {E : XK} :
    Passes (L2N.CX P w) (cxOf (L2N.CX P w) P w K mg base N qual sc f cdv A outer s H E) E := L2N.passes_call (L2N.takes_of rfl rfl rfl rfl) fun _ _ _ _ h => h
theorem passA {Y : Cx} {A : Around} {outer : List Env} {s : Shared} {H : Hp} {E : XK} {sc : Scope} {f cd : Addr} : Passes (L2N.CX Y.prog Y.w) (L2N.askC Y A outer s H E sc f cd) E := L2N.passes_call (L2N.takes_of rfl rfl rfl rfl) fun _ _ _ _ h => h
end
theorem tabs_keep {T : List (Addr × Str)} {H H' : Hp} {a l : Addr} (b : BagAt H a l) (k : Keep a H H') (t : LamX.Tabs T H) : LamX.Tabs T H' := fun p hp => by
  obtain ⟨_, _, _, _, ea, _⟩ := b
  obtain ⟨ps, h1, h2, h3⟩ := t p hp
  refine ⟨ps, k _ _ (fun z => by rw [z, ea] at h1; cases h1) h1, h2, fun pos cv hc => ?_⟩
  obtain ⟨c, e1, e2⟩ := h3 pos cv hc
  exact ⟨c, e1, k _ _ (fun z => by rw [z, ea] at e2; unfold LamX.CodeO at e2; cases e2) e2⟩
theorem bag_ext {H H' : Hp} {a l : Addr} (e : LamX.ExtN H H') (b : BagAt H a l) : BagAt H' a l := by
  obtain ⟨ns, p, h, s, h1, h2, r⟩ := b
  exact ⟨ns, p, h, s, e _ _ h1 (fun _ z => by cases z), e _ _ h2 (fun _ z => by cases z), r⟩
theorem tk_ext {K : PySem.W.Frag} {H H' : Hp} (e : LamX.ExtN H H') : TupK K H H' := fun b ys h => by
  rcases h with (h | ⟨o, h⟩) | h
  · exact .inl (.inl (e _ _ h fun _ z => by cases z))
  · exact .inl (.inr ⟨o, e _ _ h fun _ z => by cases z⟩)
  · exact .inr h
/-- the code object's table in a comprehension -/
theorem lookup_relabel_cell {env : Env} : ∀ {names : List (Str × NameKind)} {x : Str} {k : NameKind}, names.lookup x = some k → k = .cell ∨ k = .free →
    (names.map fun (n, k) => if (k == NameKind.free && env.scope.kind == .function && env.kindOf n == some .cell) then (n, NameKind.cell) else (n, k)).lookup x = some .cell ∨
    (names.map fun (n, k) => if (k == NameKind.free && env.scope.kind == .function && env.kindOf n == some .cell) then (n, NameKind.cell) else (n, k)).lookup x = some .free
  | [], _, _, h, _ => by simp at h
  | (n, k') :: r, x, k, h, hk => by
    have ih := @lookup_relabel_cell env r x k
    rw [List.map_cons]
    cases hx : x == n with
    | true =>
      simp only [List.lookup_cons, hx] at h
      cases h
      cases hc : (k' == NameKind.free && env.scope.kind == .function && env.kindOf n == some .cell) with
      | true =>
        left
        simp only [hc, if_true, List.lookup_cons, hx]
      | false =>
        simp only [hc, Bool.false_eq_true, if_false, List.lookup_cons, hx]
        rcases hk with rfl | rfl
        · exact .inl rfl
        · exact .inr rfl
    | false =>
      simp only [List.lookup_cons, hx] at h
      cases hc : (k' == NameKind.free && env.scope.kind == .function && env.kindOf n == some .cell) with
      | true =>
        simp only [hc, if_true, List.lookup_cons, hx]
        exact ih h hk
      | false =>
        simp only [hc, Bool.false_eq_true, if_false, List.lookup_cons, hx]
        exact ih h hk
theorem lamS_blk {scope sc : Scope} {env : Env} {cl : List (Str × Addr)} {C : Addr} (h : LamX.LamS scope sc) : LamX.LamS (compEnvC scope cl C env).scope sc := ⟨h.kind, h.co, h.gen, h.own, fun y hy e => by
  rcases h.free y hy e with z | z
  · exact lookup_relabel_cell z (.inl rfl)
  · exact lookup_relabel_cell z (.inr rfl)⟩
section
variable {Y : Cx} {k : Nat} {x : Str} {ps : List Str} {sp : Sp} {p pos : Pos} {e : Expr} {es : List Expr} {t : TA} {A : Around} {outer : List Env} {s : Shared} {H : Hp} {E : XK} {sc : Scope} {f cd : Addr}
/-- x(e, ..) in a lambda -/
theorem pe_lamC (c : CalN Y.prog Y.w Y.K Y.mg Y.base k x ps sp) (hr : Room k (A.deeper (LamX.lamEnv Y sc s.heap.objs.size f cd))) (hg : Gl (L2N.askC Y A outer s H E sc f cd) x) (ha : PA (L2N.askC Y A outer s H E sc f cd) (e :: es) t) (hdb : (x == ("__debug__" : Str)) = false := by decide)
    (he : starEach (e :: es) (L2N.askC Y A outer s H E sc f cd).env = (false, eval e (L2N.askC Y A outer s H E sc f cd).env) :: starEach es (L2N.askC Y A outer s H E sc f cd).env := by rfl) (hpl : (backTo pos (starEach es (L2N.askC Y A outer s H E sc f cd).env)).any (·.1) = false := by rfl) :
    PE (L2N.askC Y A outer s H E sc f cd) (.Call (.Name x p) (e :: es) [] pos) (tCall sp [] E t) :=
  pe_callCN (X := L2N.askC Y A outer s H E sc f cd) c hr (passA (Y := Y)) hg ha hdb he hpl
end
abbrev lawQ : Str := (envOfC "law" (defScope sLaw) 0 0 .none).qual ++ "<lambda>"
def spLaw (K : PySem.W.Frag) (P0 : Addr) : Sp := fun vs H Q _ => ∃ (c : Addr) (ns : List Int), vs = [.ref c] ∧ SqL K H c (ns.map V.int) ∧ ns.length ≤ 63 ∧ LamX.Tabs [(P0, lawQ)] H ∧ ∀ H', Q (.bl true) H'
end Ink
namespace Ink
open PySem PySem.Spec PyProof.Rows L2 Evl
/-! ### what stays when a lambda is made: a scroll -/
theorem sl_ext {K : PySem.W.Frag} {H H' : Hp} (e : LamX.ExtN H H') : ∀ b xs, SqL K H b xs → SqL K H' b xs := fun b ys h => by
  rcases h with (h | ⟨o, h⟩) | h
  · exact .inl (.inl (e _ _ h fun _ z => by cases z))
  · exact .inl (.inr ⟨o, e _ _ h fun _ z => by cases z⟩)
  · exact .inr h
theorem dp_ext {K : PySem.W.Frag} {H H' : Hp} {v : V} {d : PyData} (e : LamX.ExtN H H') (h : Dp K H v d) : Dp K H' v d := dp_up (sl_ext e) (tk_ext e) d v h
theorem CoAtD.extN {P : Program} {w : World} {K : PySem.W.Frag} {C : Addr} {H H' : Hp} {c : Addr} {m : List Wr} {n : Nat} {d : Addr} (h : CoAtD P w K C H c m n d) (e : LamX.ExtN H H') : CoAtD P w K C H' c m n d := by
  obtain ⟨xs, ed⟩ := h.ext
  obtain ⟨dx, tw, kvs, h1, h2, h3, h4, h5⟩ := h
  exact ⟨dx, tw, kvs, e _ _ h1 (fun _ z => by cases z), dp_tk (tk_ext e) (fz_dMt m) h2, h3.up (by rw [ed]; exact e _ _ ed (fun _ z => by unfold DicO at z; cases z)) (tk_ext e), h4.up (tk_ext e), h5⟩
end Ink
namespace Ink
open PySem PySem.Spec PyProof.Rows L2 Evl
/-- a method that may raise -/
def MetN (P : Program) (w : World) (K : PySem.W.Frag) (mg : Str → Option Value) (base : Heap) (k : Nat) (C : Addr) (m : Str) (ps : List Str) (sp : Sp) : Prop :=
  ∃ f fd, FnOk P w K mg base (L2N.CX P w) k f fd ps sp ∧ Meth K C m f ∧ Cls K C ∧ Binds K fd ps []
section
variable {X : Cx} {k : Nat} {C : Addr} {x m : Str} {ps : List Str} {sp : Sp} {p pos apos : Pos} {o e : Expr} {es : List Expr} {ta : TE} {t : TA} {E : XK}
theorem pe_methN {pl : Sem Bool} (he : PE X o ta) (c : MetN X.prog X.w X.K X.mg X.base k C m ps sp) (hr : Room k X.A) (hx : Passes (L2N.CX X.prog X.w) X E) (ha : PA X (e :: es) t)
    (hst : starEach (e :: es) X.env = (false, eval e X.env) :: starEach es X.env := by rfl) (hpl : (backTo pos (starEach es X.env)).any (·.1) = false := by rfl)
    (ht : eval (.Call (.Attribute o m apos) (e :: es) [] pos) X.env = (do
      let ov ← eval o X.env
      standAt apos.atName
      let (f, first) ← holding [ov] (getMethod ov m pl)
      callWith pos f first (backTo pos (starEach (e :: es) X.env)) (backToKw pos (keywordEach [] X.env))) := by rfl) : PE X (.Call (.Attribute o m apos) (e :: es) [] pos) (tMeth C m sp [] E ta t) := by
  obtain ⟨f, fd, G, hm, hc, b⟩ := c
  exact pe_meth he hc hm G hr b .nil hx ha hst hpl ht
end
section
variable {Y : Cx} {k : Nat} {C : Addr} {m : Str} {ps : List Str} {sp : Sp} {pos apos : Pos} {o e : Expr} {es : List Expr} {ta : TE} {t : TA} {A : Around} {outer : List Env} {s : Shared} {H : Hp} {E : XK} {sc : Scope} {f cd : Addr}
/-- o.m(e, ..) in a lambda -/
theorem pe_lamMN {pl : Sem Bool} (he : PE (L2N.askC Y A outer s H E sc f cd) o ta) (c : MetN Y.prog Y.w Y.K Y.mg Y.base k C m ps sp) (hr : Room k (A.deeper (LamX.lamEnv Y sc s.heap.objs.size f cd))) (ha : PA (L2N.askC Y A outer s H E sc f cd) (e :: es) t)
    (hst : starEach (e :: es) (L2N.askC Y A outer s H E sc f cd).env = (false, eval e (L2N.askC Y A outer s H E sc f cd).env) :: starEach es (L2N.askC Y A outer s H E sc f cd).env := by rfl) (hpl : (backTo pos (starEach es (L2N.askC Y A outer s H E sc f cd).env)).any (·.1) = false := by rfl)
    (ht : eval (.Call (.Attribute o m apos) (e :: es) [] pos) (L2N.askC Y A outer s H E sc f cd).env = (do
      let ov ← eval o (L2N.askC Y A outer s H E sc f cd).env
      standAt apos.atName
      let (f9, first) ← holding [ov] (getMethod ov m pl)
      callWith pos f9 first (backTo pos (starEach (e :: es) (L2N.askC Y A outer s H E sc f cd).env)) (backToKw pos (keywordEach [] (L2N.askC Y A outer s H E sc f cd).env))) := by rfl) : PE (L2N.askC Y A outer s H E sc f cd) (.Call (.Attribute o m apos) (e :: es) [] pos) (tMeth C m sp [] E ta t) :=
  pe_methN (X := L2N.askC Y A outer s H E sc f cd) he c hr (passA (Y := Y)) ha hst hpl ht
end
end Ink
namespace L2N
open PySem PySem.Spec PyProof.Rows L2
/-! ### except (A, B, C): without a name; of what the body raises each is one of them -/
def wOnly3 (K : PySem.W.Frag) (c1 c2 c3 : Value) (ts : Addr → Value → Option Addr → TS) (D : Ends) : WX := fun cls d σ H =>
  PySem.W.exmAny K cls [c1, c2, c3] = some true ∧ ∀ a, H a = none → ts a cls d D σ H
section
variable {X : Cx} {x1 x2 x3 : Str} {c1 c2 c3 : Value} {j : Nat} {body suite : List Stmt} {b₀ : Stmt} {p1 p2 p3 tp pos pos' : Pos} {tb : WX → TS} {ts : Addr → Value → Option Addr → TS}
theorem ps_try_only3 (hs : X.stack = X.env :: X.outer) (hf : X.env.frame = some X.env.locals) (h1 : Names X x1 c1) (h2 : Names X x2 c2) (h3 : Names X x3 c3)
    (hb : ∀ (W : WX) (pn : List (Addr × Obj)) (xe : Value → Shared → Prop), Takes (X.tr pn xe) W → PassesOwn (model X.prog X.w) X.A X.env xe → PSs (X.tr pn xe) body (tb W))
    (hsu : ∀ (a : Addr) (oe : Obj) (cls : Value) (d : Option Addr) (pn : List (Addr × Obj)), Zn cls d oe → (∃ vs, oe.data = .fields vs) → PSs (X.suite a ((a, oe) :: pn)) (b₀ :: suite) (ts a cls d)) :
    PS X (.Try body [.ExceptHandler (some (.Tuple [.Name x1 p1, .Name x2 p2, .Name x3 p3] j tp)) none (b₀ :: suite) pos'] [] [] pos) (fun D σ H => tb (wOnly3 X.K c1 c2 c3 ts D) D σ H) := by
  refine ⟨fun pins s σ H D I h => ?_⟩
  have ok := I.ok
  have hfr : X.A.frames = some (X.env :: X.outer) := by rw [ok.frames, hs]
  refine wpAny_Try_except ?_
  refine wpAny_mono ((hb (wOnly3 X.K c1 c2 c3 ts D) (X.pn ++ pins) (fun e s₁ => wpAny (model X.prog X.w) X.A (noteFrame e X.env) (fun _ s₂ => wpAny (model X.prog X.w) X.A (setFlight e none) (fun _ s₃ =>
    wpAny (model X.prog X.w) X.A (handleBy e X.env [.ExceptHandler (some (.Tuple [.Name x1 p1, .Name x2 p2, .Name x3 p3] j tp)) none (b₀ :: suite) pos']) (SP X pins D) X.xe s₃) X.xe s₂) X.xe s₁) (fun u s' xx => ?_) PassesOwn.looking).run [] s σ H D (I.toTry _) h) (fun f s1 hsp => ?_) (fun e s1 he => he)
  · obtain ⟨a, B, sI, pins', σ', H', cls, d, rfl, J', nb, up, sky, na, os, ag, hx, yes⟩ := xx
    have J : Inv X pins σ' H' sI := J'.ofTry ok
    have sky' : Sky B (X.env :: X.outer) a (Zn cls d) X.env.locals s'.heap := by rw [← hs]; exact sky
    show wpAny (model X.prog X.w) X.A (noteFrame (.ref a) X.env) _ _ _
    refine Sky.land Zn.steady hfr hf sky' fun hA flA upA => ?_
    -- where the exception lies, in a heap where it has landed
    have at_ : ∀ {hh : Heap}, HandSPX.FlyingZ B (X.env :: X.outer) a (Zn cls d) hh → s'.heap.UpToSlots hh → ∃ oe, hh.get? a = some oe ∧ Zn cls d oe ∧ (∃ vs, oe.data = .fields vs) ∧ Inv (X.suite a ((a, oe) :: (X.pn ++ pins))) [] σ' H' { s' with heap := hh } := fun {hh} fl uu => by
      have Jh : Inv X pins σ' H' { s' with heap := hh } := J.landed nb fl.1 (up.trans uu) os ag
      obtain ⟨oe, vs, he, hz, hd⟩ := fl.there
      have nfr : a ∉ frs (X.env :: X.outer) := fun hm => by
        obtain ⟨_, o', e', hnf⟩ := fl.2.2.1.mem hm
        rw [he] at e'
        cases e'
        exact hnf _ hd
      exact ⟨oe, he, hz, ⟨vs, hd⟩, Jh.suite he hd na (fun z => nfr (List.mem_filterMap.mpr ⟨X.env, List.mem_cons_self, by rw [hf, z]⟩)) fun hm => by
        obtain ⟨e, he', q⟩ := List.mem_filterMap.mp hm
        exact nfr (List.mem_filterMap.mpr ⟨e, List.mem_cons_of_mem _ he', q⟩)⟩
    obtain ⟨oA, eA, zA, dA, SA⟩ := at_ flA upA
    have SA' : Inv (X.suite a ((a, oA) :: (X.pn ++ pins))) [] σ' H' { s' with heap := hA } := SA
    refine wpAny_handleBy_cons (codeAny_handlers_test ?_) (by intro q; cases q)
    refine wpAny_Tuple (wpAny_items_cons (name_at (X := X.suite a ((a, oA) :: (X.pn ++ pins))) SA h1 (wpAny_items_cons (name_at (X := X.suite a ((a, oA) :: (X.pn ++ pins))) SA h2 (wpAny_items_cons (name_at (X := X.suite a ((a, oA) :: (X.pn ++ pins))) SA h3 ?_))))))
    refine wpAny_pure ⟨by show 3 ≤ sizeLine; decide, ?_⟩
    have flT := flying_push (o := { cls := .type "tuple", data := .seq [c1, c2, c3].toArray }) flA
    have upT : s'.heap.UpToSlots (hA.push { cls := .type "tuple", data := .seq [c1, c2, c3].toArray }) := upA.trans (.of_keeps fun b o e => Heap.get?_push_of_some _ e)
    obtain ⟨oT, eT, zT, dT, ST⟩ := at_ flT upT
    have LT : PySem.W.Looks (model X.prog X.w) (hA.push { cls := .type "tuple", data := .seq [c1, c2, c3].toArray }) (typeOf (.ref a)) cls := fun A Q E s k q => wpAny_typeOf_ref (k _ _ eT) (by rw [zT.1]; exact q)
    have LM := PySem.W.exm_tup3 (M := model X.prog X.w) ST.kIn LT (tp := hA.objs.size) (by heap_get) hx
    refine LM.here ?_
    refine codeAny_handlers_suite ?_
    refine HandSPX.lands_againZ flT fun h4 fl4 up4 => ?_
    obtain ⟨o4, e4, z4, d4, S4⟩ := at_ fl4 (upT.trans up4)
    refine wpAny_mono ((hsu a o4 cls d (X.pn ++ pins) z4 d4).run [] _ _ H' _ S4 (yes a na)) (fun f s6 hsp => ?_) (fun _ _ z => False.elim z)
    cases f with
    | ret u =>
      obtain ⟨v6, σ6, H6, S6, r6, q6⟩ := hsp
      exact ⟨_, _, _, S6.unsuite ok, r6, q6⟩
    | next =>
      obtain ⟨σ6, H6, S6, q6⟩ := hsp
      exact ⟨_, _, S6.unsuite ok, q6⟩
    | brk =>
      obtain ⟨σ6, H6, S6, q6⟩ := hsp
      exact ⟨_, _, S6.unsuite ok, q6⟩
    | cont =>
      obtain ⟨σ6, H6, S6, q6⟩ := hsp
      exact ⟨_, _, S6.unsuite ok, q6⟩
  · cases f with
    | ret u =>
      obtain ⟨v, σ', H', J', r, q⟩ := hsp
      exact ⟨v, σ', H', J'.ofTry ok, r, q⟩
    | next =>
      obtain ⟨σ', H', J', q⟩ := hsp
      exact wpAny_execs_nil ⟨σ', H', J'.ofTry ok, q⟩
    | brk =>
      obtain ⟨σ', H', J', q⟩ := hsp
      exact ⟨σ', H', J'.ofTry ok, q⟩
    | cont =>
      obtain ⟨σ', H', J', q⟩ := hsp
      exact ⟨σ', H', J'.ofTry ok, q⟩
end
end L2N
namespace Ink
open PySem PySem.Spec PyProof.Rows L2
/-! ### refusals over InkError that tell of a place: BadStep(at), BadWriter(at) -/
def spAtB (K : PySem.W.Frag) : Sp := fun vs H Q _ => ∃ (a C : Addr) (nm : Str) (n : Int), vs = [.ref a, .int n] ∧ n.natAbs.log2 < 1920 ∧ (Str.ofString (toString n)).length ≤ 1000 ∧ Named K C nm ∧ PySem.W.findIn K (.ref C) "word" = some none ∧ PySem.W.findIn K (.ref C) "at" = some none ∧ H a = some (exo a C none) ∧
  ∀ dx, H dx = none → dx ≠ a → ∀ H', H' = upd (upd (upd H dx (exd dx [("word", .str nm)])) a (exo a C (some dx))) dx (exd dx [("at", .int n), ("word", .str nm)]) → Q .non H'
section
variable {P : Program} {w : World} {K : PySem.W.Frag} {mg : Str → Option Value} {base : Heap}
theorem ok_badwriter {f B fI : Addr} {fd fdI : FuncData} {k : Nat} (F : Fun K "__init__" "BadWriter.__init__" sBadwriterInit f fd) (mI : mg "InkError" = some (.ref B)) (O : OwnI K B fI)
    (G : FnOk P w K mg base CX0 k fI fdI ["self", "told"] (spInk K)) (b : Binds K fdI ["self", "told"] []) : FnOk P w K mg base CX0 (k + 1) f fd ["self", "at"] (spAtB K) := by
  refine F.ok sc_BadWriter___init__ (fun vs H Q E h => ?_) (fun cdv A outer s H vs Q E hr h => ?_)
  · obtain ⟨a, C, nm, n, rfl, _⟩ := h
    rfl
  · obtain ⟨a, C, nm, n, rfl, hn, hz, N, hw, hmo, ea, q⟩ := h
    refine ⟨_, (pss_cons (ps_expr (pe_owninit O G hr (by rfl) mI b .nil pass0 (pa_cons (pv 0) (pa_cons (pe_joined (PJ.cons pe_str (PJ.cons (pe_fmt (pv 1)) PJ.nil))) pa_nil)))) (pss_one (ps_ost (pv 0) (pv 1)))), ?_⟩
    refine ⟨_, rfl, ?_⟩
    have l1 : (Str.empty ++ Str.ofString "no writer at ").length ≤ 100 := by decide +kernel
    have e1 : ∀ x y : Str, (x ++ y).length = x.length + y.length := Str.length_append
    refine ⟨_, rfl, Nat.le_trans l1 (by rw [sizeLine_eq]; omega), ?_⟩
    refine ⟨_, rfl, .inr ⟨_, rfl, hn, _, rfl, by rw [e1, sizeLine_eq]; omega, ?_⟩⟩
    refine ⟨a, C, nm, _, rfl, N, hw, ea, fun dx n0 ne => ?_⟩
    refine ⟨_, rfl, _, rfl, a, C, rfl, N.ox, hmo, .inr ⟨dx, [("word", .str nm)], upd_same, ?_, by simp, ?_⟩⟩
    · rw [upd_ne ne, upd_same]
    · exact q dx n0 ne _ rfl
end
/-- what X(n) leaves: its dict alone is new -/
def tAtB (nm : Str) (C : Addr) (n : Int) : L2.St → Hp → XK → Prop := fun _ H Q => ∀ d, H d = none → Q (.ref C) (some d) (upd H d (.xd [("at", .int n), ("word", .str nm)]))
theorem atb_made {nm : Str} {K : PySem.W.Frag} {C : Addr} {n : Int} {ta : TA} {σ : L2.St} {H : Hp} {Q : XK} (N : Named K C nm) (hw : PySem.W.findIn K (.ref C) "word" = some none) (hat : PySem.W.findIn K (.ref C) "at" = some none)
    (hn : n.natAbs.log2 < 1920) (hz : (Str.ofString (toString n)).length ≤ 1000) (ht : ∀ R : List V → Hp → Prop, R [.int n] H → ta σ H R) (h : tAtB nm C n σ H Q) : tMkO C (spAtB K) [] ta σ H Q := by
  refine ht _ ⟨by simp, fun a na => ⟨a, C, nm, n, rfl, hn, hz, N, hw, hat, upd_same, fun dx ndx ne H' eH => ⟨rfl, dx, [("at", .int n), ("word", .str nm)], ?_, ?_, ?_, ?_⟩⟩⟩
  · rw [eH, upd_ne (Ne.symm ne), upd_same]
  · rw [eH, upd_same]
  · rw [upd_ne ne] at ndx
    exact ndx
  · rw [upd_ne ne] at ndx
    have e : upd (del H' a) dx (.xd [("at", .int n), ("word", .str nm)]) = upd H dx (.xd [("at", .int n), ("word", .str nm)]) := by
      funext b
      by_cases hb : b = dx
      · rw [hb, upd_same, upd_same]
      · rw [upd_ne hb, upd_ne hb]
        by_cases hba : b = a
        · rw [hba, del_same]
          exact na.symm
        · rw [del_ne hba, eH, upd_ne hb, upd_ne hba, upd_ne hb, upd_ne hba]
    rw [e]
    exact h dx ndx
end Ink
namespace Ink
open PySem PySem.Spec PyProof.Rows L2
/-! ### Taken(name) -/
def spNmB (K : PySem.W.Frag) : Sp := fun vs H Q _ => ∃ (a C : Addr) (nm z : Str), vs = [.ref a, .str z] ∧ z.length ≤ 1000 ∧ Named K C nm ∧ PySem.W.findIn K (.ref C) "word" = some none ∧ PySem.W.findIn K (.ref C) "name" = some none ∧ H a = some (exo a C none) ∧
  ∀ dx, H dx = none → dx ≠ a → ∀ H', H' = upd (upd (upd H dx (exd dx [("word", .str nm)])) a (exo a C (some dx))) dx (exd dx [("name", .str z), ("word", .str nm)]) → Q .non H'
section
variable {P : Program} {w : World} {K : PySem.W.Frag} {mg : Str → Option Value} {base : Heap}
theorem ok_taken {f B fI : Addr} {fd fdI : FuncData} {k : Nat} (F : Fun K "__init__" "Taken.__init__" sTakenInit f fd) (mI : mg "InkError" = some (.ref B)) (O : OwnI K B fI)
    (G : FnOk P w K mg base CX0 k fI fdI ["self", "told"] (spInk K)) (b : Binds K fdI ["self", "told"] []) : FnOk P w K mg base CX0 (k + 1) f fd ["self", "name"] (spNmB K) := by
  refine F.ok sc_Taken___init__ (fun vs H Q E h => ?_) (fun cdv A outer s H vs Q E hr h => ?_)
  · obtain ⟨a, C, nm, z, rfl, _⟩ := h
    rfl
  · obtain ⟨a, C, nm, z, rfl, hz, N, hw, hmo, ea, q⟩ := h
    refine ⟨_, (pss_cons (ps_expr (pe_owninit O G hr (by rfl) mI b .nil pass0 (pa_cons (pv 0) (pa_cons (pe_joined (PJ.cons (pe_fmt (pv 1)) (PJ.cons pe_str PJ.nil))) pa_nil)))) (pss_one (ps_ost (pv 0) (pv 1)))), ?_⟩
    refine ⟨_, rfl, ?_⟩
    have l1 : (Str.ofString " stands already").length ≤ 100 := by decide +kernel
    have l0 : (Str.empty).length ≤ 100 := by decide +kernel
    have e1 : ∀ x y : Str, (x ++ y).length = x.length + y.length := Str.length_append
    refine ⟨_, rfl, .inl ⟨_, rfl, by rw [sizeLine_eq]; omega, _, rfl, by rw [e1, sizeLine_eq]; omega, ?_⟩⟩
    refine ⟨_, rfl, by rw [e1, e1, sizeLine_eq]; omega, ?_⟩
    refine ⟨a, C, nm, _, rfl, N, hw, ea, fun dx n0 ne => ?_⟩
    refine ⟨_, rfl, _, rfl, a, C, rfl, N.ox, hmo, .inr ⟨dx, [("word", .str nm)], upd_same, ?_, by simp, ?_⟩⟩
    · rw [upd_ne ne, upd_same]
    · exact q dx n0 ne _ rfl
end
theorem nmb_made {nm z : Str} {K : PySem.W.Frag} {C : Addr} {ta : TA} {σ : L2.St} {H : Hp} {Q : XK} (N : Named K C nm) (hw : PySem.W.findIn K (.ref C) "word" = some none) (hat : PySem.W.findIn K (.ref C) "name" = some none)
    (hz : z.length ≤ 1000) (ht : ∀ R : List V → Hp → Prop, R [.str z] H → ta σ H R) (h : ∀ d, H d = none → Q (.ref C) (some d) (upd H d (.xd [("name", .str z), ("word", .str nm)]))) : tMkO C (spNmB K) [] ta σ H Q := by
  refine ht _ ⟨by simp, fun a na => ⟨a, C, nm, z, rfl, hz, N, hw, hat, upd_same, fun dx ndx ne H' eH => ⟨rfl, dx, [("name", .str z), ("word", .str nm)], ?_, ?_, ?_, ?_⟩⟩⟩
  · rw [eH, upd_ne (Ne.symm ne), upd_same]
  · rw [eH, upd_same]
  · rw [upd_ne ne] at ndx
    exact ndx
  · rw [upd_ne ne] at ndx
    have e : upd (del H' a) dx (.xd [("name", .str z), ("word", .str nm)]) = upd H dx (.xd [("name", .str z), ("word", .str nm)]) := by
      funext b
      by_cases hb : b = dx
      · rw [hb, upd_same, upd_same]
      · rw [upd_ne hb, upd_ne hb]
        by_cases hba : b = a
        · rw [hba, del_same]
          exact na.symm
        · rw [del_ne hba, eH, upd_ne hb, upd_ne hba, upd_ne hb, upd_ne hba]
    rw [e]
    exact h dx ndx
end Ink
namespace Ink
open PySem PySem.Spec PyProof.Rows L2 Evl
/-! ### things that may be writers or not; companies that may be refused -/
inductive Thg where
  | w (x : Wr)
  | o (xs : List PyData)
def dT : Thg → PyData
  | .w x => dW x
  | .o xs => .tuple xs
def okT : Thg → Bool
  | .w x => isWr x.1 x.2.1 x.2.2.1 x.2.2.2
  | .o _ => false
def nmT : Thg → Str
  | .w x => x.1
  | .o _ => Str.ofString ""
structure FineT (t : Thg) : Prop where
  w : ∀ x, t = .w x → ShortA x.2.1 ∧ x.1.length ≤ 1000 ∧ (isWr x.1 x.2.1 x.2.2.1 x.2.2.2 = true → GoodW x.1 x.2.1 x.2.2.1 x.2.2.2)
  o : ∀ xs, t = .o xs → xs.length ≠ 4 ∧ fzAll xs = true
def RIsT : List PyData → PyData → Prop := fun ds d => ∃ t, FineT t ∧ ds = [dT t] ∧ d = .bool (okT t)
theorem enum_fn {α : Type} {f : α → PyData} {tr : List α} {i : Nat} {d : PyData} (h : (enumD (tr.map f))[i]? = some d) : ∃ x, tr[i]? = some x ∧ d = .tuple [.int (i : Int), f x] := by
  have hl : i < tr.length := by
    have := (List.getElem?_eq_some_iff.mp h).1
    rwa [enum_len, List.length_map] at this
  have e : (tr.map f)[i]? = some (f tr[i]) := by
    rw [List.getElem?_map, List.getElem?_eq_getElem hl]
    rfl
  rw [enumD_get e] at h
  exact ⟨tr[i], List.getElem?_eq_getElem hl, (Option.some.inj h).symm⟩
/-- all are writers -/
theorem all_w : ∀ {ts : List Thg}, (∀ t ∈ ts, okT t = true) → ∃ m : List Wr, ts = m.map Thg.w
  | [], _ => ⟨[], rfl⟩
  | t :: ts, h => by
    obtain ⟨m, rfl⟩ := all_w (ts := ts) fun u hu => h u (List.mem_cons_of_mem _ hu)
    cases t with
    | w x => exact ⟨x :: m, rfl⟩
    | o xs => exact absurd (h _ List.mem_cons_self) (by intro z; cases z)
theorem nm_w (m : List Wr) : (m.map Thg.w).map nmT = m.map (·.1) := by
  rw [List.map_map]
  rfl
def goodTs (ts : List Thg) : Prop := (∀ t ∈ ts, okT t = true) ∧ (ts.map nmT).Nodup ∧ ts.length ≤ 3
theorem good_m {m : List Wr} (hf : ∀ t ∈ m.map Thg.w, FineT t) (g : goodTs (m.map Thg.w)) : GoodM m := by
  obtain ⟨g1, g2, g3⟩ := g
  refine ⟨by rw [List.length_map] at g3; exact g3, fun x hx => ?_, by rw [nm_w] at g2; exact g2⟩
  have hm : Thg.w x ∈ m.map Thg.w := List.mem_map.mpr ⟨x, hx, rfl⟩
  exact ((hf _ hm).w x rfl).2.2 (g1 _ hm)
/-- what is raised of a company that isn't one -/
structure Bads (BW TK FU : Addr) (ts : List Thg) (E : XK) (H : Hp) : Prop where
  bw : ∀ (i : Nat) (t : Thg), ts[i]? = some t → okT t = false → (∀ (j : Nat) (u : Thg), j < i → ts[j]? = some u → okT u = true) → ∀ H', Ex H H' → ∀ d, H' d = none → E (.ref BW) (some d) (upd H' d (.xd [("at", .int (i : Int)), ("word", .str "BadWriter")]))
  tk : (∀ t ∈ ts, okT t = true) → ∀ (i : Nat) (z : Str), (ts.map nmT)[i]? = some z → z ∈ (ts.map nmT).take i → (∀ (j : Nat) (y : Str), j < i → (ts.map nmT)[j]? = some y → y ∉ (ts.map nmT).take j) → ∀ H', Ex H H' → ∀ d, H' d = none → E (.ref TK) (some d) (upd H' d (.xd [("name", .str z), ("word", .str "Taken")]))
  fu : (∀ t ∈ ts, okT t = true) → (ts.map nmT).Nodup → 3 < ts.length → ∀ H', Ex H H' → ∀ d, H' d = none → E (.ref FU) (some d) (upd H' d (.xd [("word", .str "Full")]))
theorem Bads.ex {BW TK FU : Addr} {ts : List Thg} {E : XK} {H H1 : Hp} (b : Bads BW TK FU ts E H) (e : Ex H H1) : Bads BW TK FU ts E H1 :=
  ⟨fun i t h1 h2 h3 H' e' => b.bw i t h1 h2 h3 H' (e.trans e'), fun h i z h1 h2 h3 H' e' => b.tk h i z h1 h2 h3 H' (e.trans e'), fun h1 h2 h3 H' e' => b.fu h1 h2 h3 H' (e.trans e')⟩
def spNeedN (K : PySem.W.Frag) (BW TK FU : Addr) (c : List PyData → PyData) : Sp := fun vs H Q E => ∃ v ts, vs = [v] ∧ Dp K H v (c (ts.map dT)) ∧ (∀ t ∈ ts, FineT t) ∧ ts.length ≤ 1000 ∧ Bads BW TK FU ts E H ∧ (goodTs ts → ∀ H', Ex H H' → Q .non H')
theorem nodup_pre {zs : List Str} (h : ∀ (j : Nat) (y : Str), j < zs.length → zs[j]? = some y → y ∉ zs.take j) : zs.Nodup := by
  refine List.pairwise_iff_getElem.mpr fun i j hi hj hij e => ?_
  refine h j zs[j] hj (List.getElem?_eq_getElem hj) ?_
  rw [← e]
  exact List.mem_take_iff_getElem.mpr ⟨i, by omega, rfl⟩
section
variable {P : Program} {w : World} {K : PySem.W.Frag} {mg : Str → Option Value} {base : Heap}
theorem ok_is_writerT {f : Addr} {fd : FuncData} {k : Nat} (F : Fun K "is_writer" "is_writer" sIsWriter f fd) (T : Txt mg) (C_is_name : Cal P w K mg base k "is_name" ["text"] spName)
    (C__are_arrows : Cal P w K mg base k "_are_arrows" ["arrows"] (spP K RAre)) (C__is_count : Cal P w K mg base k "_is_count" ["number"] spCount) : FnOk P w K mg base CX0 (k + 1) f fd ["thing"] (spP K RIsT) := by
  refine F.ok sc_is_writer (fun vs H Q E h => ?_) (fun cdv A outer s H vs Q E hr h => ?_)
  · obtain ⟨ds, d, hd, ⟨t, _, rfl, _⟩, _⟩ := h
    exact hd.length
  · obtain ⟨ds, d, hd, ⟨t, ft, rfl, rfl⟩, q⟩ := h
    obtain ⟨v0, rfl, h0⟩ := dps1 hd
    refine ⟨_, (pss_cons (ps_if (pt_cmpR op_ne (pe_callB call_len (by rfl) T.m_len PySem.boot_len (pa_cons (pv 0) pa_nil)) pe_int (nomark _))
    (pss_one (ps_ret pe_bl)) pss_nil)
    (pss_cons (ps_asg (pv 0) (pg_tup rfl (pgs_cons (pg_name (i := 1) sc_is_writer.nd rfl (.inl rfl)) (pgs_cons (pg_name (i := 2) sc_is_writer.nd rfl (.inl rfl)) (pgs_cons (pg_name (i := 3) sc_is_writer.nd rfl (.inl rfl)) (pgs_cons (pg_name (i := 4) sc_is_writer.nd rfl (.inl rfl)) pgs_nil))))))
    (pss_one (ps_ret (pe_and (pe_callC C_is_name hr (by rfl) (pa_cons (pv 1) pa_nil)) (pe_and (pe_callC C__are_arrows hr (by rfl) (pa_cons (pv 2) pa_nil)) (pe_and (pe_callC C__is_count hr (by rfl) (pa_cons (pv 3) pa_nil)) (pe_one (pe_callC C__is_count hr (by rfl) (pa_cons (pv 4) pa_nil)))))))))), ?_⟩
    cases t with
    | o xs =>
      have h0 : Dp K H v0 (.tuple xs) := h0
      refine Evl.q_when (b := !decide (V.int ((xs.length : Nat) : Int) = V.int 4)) (et_test (ev_op (ev_lenD (ed_var rfl h0) (.inr rfl)) ev_c (rv_ne rfl))) (fun hb H1 e1 => q (.bl false) H1 e1 (.bl false)) fun hb H1 e1 => ?_
      exfalso
      refine (ft.o xs rfl).1 ?_
      have hd : decide (V.int ((xs.length : Nat) : Int) = V.int 4) = true := by
        cases e : decide (V.int ((xs.length : Nat) : Int) = V.int 4) with
        | true => rfl
        | false =>
          rw [e] at hb
          cases hb
      have he := of_decide_eq_true hd
      injection he with he
      omega
    | w x =>
      obtain ⟨hsh, hz, _⟩ := ft.w x rfl
      have h0 : Dp K H v0 (dW x) := h0
      refine Evl.q_when (b := !decide (V.int (([PyData.str x.1, .tuple (x.2.1.map dA), .int x.2.2.1, .int x.2.2.2].length : Nat) : Int) = V.int 4)) (et_test (ev_op (ev_lenD (ed_var rfl h0) (.inr rfl)) ev_c (rv_ne rfl))) (fun hb H1 e1 => ?_) fun hb H1 e1 => ?_
      · cases hb
      · have h0 := dp_same e1 h0
        refine sd_un4 (ed_var rfl h0) fun w0 w1 w2 w3 H2 e2 g0 g1 g2 g3 => ?_
        obtain rfl := dp_str g0
        obtain rfl := dp_int g2
        obtain rfl := dp_int g3
        dsimp only
        refine sd_ret (K := K) (ed_bl (ev_andV (ev_call (ea_cons (ev_var rfl) ea_nil) fun H2 Q2 _ q2 => ⟨_, rfl, hz, q2⟩) fun _ => ev_andV (ev_bl (ed_call (eds_cons (ed_var rfl g1) eds_nil) ⟨x.2.1, hsh, rfl, rfl⟩)) fun _ => ev_andV (ev_call (ea_cons (ev_var rfl) ea_nil) fun H2 Q2 _ q2 => ⟨_, rfl, q2⟩) fun _ => ev_call (ea_cons (ev_var rfl) ea_nil) fun H2 Q2 _ q2 => ⟨_, rfl, q2⟩)) fun v H3 e3 hv => q v H3 ((e1.trans e2).trans e3) hv
theorem ok_needLN {f BW TK FU : Addr} {fd : FuncData} {k : Nat} (F : Fun K "_need_company" "_need_company" sNeedCompany f fd) (T : Txt mg) (B1 : RaiR P w K mg base k "BadWriter" BW ["self", "at"] (spAtB K)) (B2 : RaiR P w K mg base k "Taken" TK ["self", "name"] (spNmB K)) (B3 : RaiR P w K mg base k "Full" FU ["self", "told"] (spInk K))
    (hat : PySem.W.findIn K (.ref BW) "at" = some none) (hnm : PySem.W.findIn K (.ref TK) "name" = some none) (C_is_writer : Cal P w K mg base (k + 1) "is_writer" ["thing"] (spP K RIsT)) : FnOk P w K mg base (L2N.CX P w) (k + 2) f fd ["writers"] (spNeedN K BW TK FU .list) := by
  refine okN F sc__need_company (fun vs H Q E h => ?_) (fun cdv A outer s H vs Q E hr h => ?_)
  · obtain ⟨v, ts, rfl, _⟩ := h
    rfl
  · obtain ⟨v0, ts, rfl, h0, ft, hl, bd, q⟩ := h
    refine ⟨_, (pss_cons (ps_for (passes_of rfl) rfl (pi_enum (by rfl) T.m_enumerate (pa_cons (pv 0) pa_nil)) (pg_tup rfl (pgs_cons (pg_name (i := 1) sc__need_company.nd rfl (.inl rfl)) (pgs_cons (pg_name (i := 2) sc__need_company.nd rfl (.inl rfl)) pgs_nil)))
    (pss_one (ps_if (pt_not (pt_val (pe_callC C_is_writer hr (by rfl) (pa_cons (pv 2) pa_nil))))
    (pss_one (ps_raiseR B1 (hr.mono (by omega)) (by rfl) rfl (L2N.takes_of rfl rfl rfl rfl) (pa_cons (pv 1) pa_nil))) pss_nil)))
    (pss_cons (ps_setLc (i := 3) (own := [("writer", 2)]) (g := (gName 2)) (by rfl) sc__need_company.nd rfl rfl (sw_true rfl rfl rfl (by decide +kernel)) (pi_list (pv 0)) (blkOk_by (own := [("writer", 2)]) (N := ["writers", "at", "writer", "names", "name"]) (sc := defScope sNeedCompany) (by decide +kernel)) (fun _ _ _ _ _ => (pg_name (i := 2) sc__need_company.nd rfl (Or.inl rfl))) (fun _ _ _ _ _ => pts_nil) (fun _ _ _ _ _ => (pe_ix (show IxR _ (rIxT K) from ix_tup) (pv 2) pe_int (fun _ _ => rfl))))
    (pss_cons (ps_for (passes_of rfl) rfl (pi_enum (by rfl) T.m_enumerate (pa_cons (pv 3) pa_nil)) (pg_tup rfl (pgs_cons (pg_name (i := 1) sc__need_company.nd rfl (.inl rfl)) (pgs_cons (pg_name (i := 4) sc__need_company.nd rfl (.inl rfl)) pgs_nil)))
    (pss_one (ps_if (pt_cmpR (show OpR _ _ (rIn K false) from op_in_seq) (pv 4) (pe_slice sl_list (pv 3) po_none (po_some (pv 1))) (by rfl))
    (pss_one (ps_raiseR B2 (hr.mono (by omega)) (by rfl) rfl (L2N.takes_of rfl rfl rfl rfl) (pa_cons (pv 4) pa_nil))) pss_nil)))
    (pss_one (ps_if (pt_cmpR op_gt (pe_callB call_len (by rfl) T.m_len PySem.boot_len (pa_cons (pv 0) pa_nil)) (pe_globI (by rfl) T.e_MOST_WRITERS) (nomark _))
    (pss_one (ps_raiseR B3 (hr.mono (by omega)) (by rfl) rfl (L2N.takes_of rfl rfl rfl rfl) (pa_cons pe_str pa_nil))) pss_nil))))), ?_⟩
    refine sd_forS (K := K) (ei_enum (ed_var rfl h0)) (fun H2 i σ' H' => (∃ y1 y2, σ' = [some v0, y1, y2, none, none]) ∧ Ex H2 H' ∧ ∀ (j : Nat) (u : Thg), j < i → ts[j]? = some u → okT u = true) (fun H2 e2 => ⟨⟨none, none, rfl⟩, .refl _, fun j u h => absurd h (Nat.not_lt_zero _)⟩) (fun H2 i σ' H' hP => hP.2.1) (fun H2 i d x σ' Ha Hb e2 hd hP eab hx => ?_) (fun H2 σ' H' e2 hP => ?_)
    · obtain ⟨⟨y1, y2, rfl⟩, ex, hj⟩ := hP
      obtain ⟨t, ht, rfl⟩ := enum_fn hd
      refine tg2 hx fun u1 u2 a1 a2 => ?_
      obtain rfl := dp_int a1
      have hil : i < ts.length := (List.getElem?_eq_some_iff.mp ht).1
      refine Evl.s_when (b := !okT t) (et_not (et_B (ev_bl (ed_call (eds_cons (ed_var rfl a2) eds_nil) ⟨t, ft t (List.mem_of_getElem? ht), rfl, rfl⟩)))) (fun hb H3 e3 => ?_) fun hb H3 e3 => ⟨⟨_, _, rfl⟩, ex.trans (eab.trans e3), fun j u hji hu => ?_⟩
      · have hn := num_ok (n := (i : Int)) (by omega)
        exact atb_made B1.nm B1.hw hat hn.1 hn.2 (fun R hR => ⟨_, rfl, hR⟩) fun d nd => bd.bw i t ht (by cases e : okT t with | false => rfl | true => rw [e] at hb; cases hb) hj H3 (e2.trans (ex.trans (eab.trans e3))) d nd
      · rcases Nat.lt_or_ge j i with h | h
        · exact hj j u h hu
        · have ej : j = i := by omega
          subst ej
          rw [ht] at hu
          cases hu
          cases e : okT t with
          | true => rfl
          | false =>
            rw [e] at hb
            cases hb
    · obtain ⟨⟨y1, y2, rfl⟩, ex, hj⟩ := hP
      have e1 := e2.trans ex
      have h0 := dp_same e1 h0
      have hall : ∀ t ∈ ts, okT t = true := fun t ht => by
        obtain ⟨j, hjl, ej⟩ := List.mem_iff_getElem.mp ht
        refine hj j t ?_ (by rw [List.getElem?_eq_getElem hjl, ej])
        rw [enum_len, List.length_map]
        exact hjl
      have bd := bd.ex e1
      obtain ⟨m, rfl⟩ := all_w hall
      rw [List.map_map] at h0
      have h0 : Dp K H' v0 (.list (m.map dW)) := h0
      have hlm : m.length ≤ 1000 := by rw [List.length_map] at hl; exact hl
      have hzn : ∀ x ∈ m, x.1.length ≤ 1000 := fun x hx => ((ft _ (List.mem_map.mpr ⟨x, hx, rfl⟩)).w x rfl).2.1
      dsimp only
      refine sd_asg (K := K) (EvN.list (ds := (m.map (·.1)).map PyData.str) ?_) fun w1 H3 e3 g1 => ?_
      · rw [List.map_map]
        refine en_map m dW _ (ei_lst (ed_var rfl h0)) (by omega) (fun x _ => by show fz (PyData.str _) = true; unfold fz; rfl) fun j x H5 y hx e5 hdx R kk => ?_
        exact kk _ rfl (ed_ixT (ed_var rfl hdx) ev_c (by decide) rfl)
      · dsimp only
        have e13 := e1.trans e3
        have h0 := dp_same e3 h0
        have bd := bd.ex e3
        have hnt : (m.map Thg.w).map nmT = m.map (·.1) := nm_w m
        refine sd_forS (K := K) (ei_enum (ed_var rfl g1)) (fun H2 i σ' H' => (∃ y1 y2 y4, σ' = [some v0, y1, y2, some w1, y4]) ∧ Ex H2 H' ∧ ∀ (j : Nat) (y : Str), j < i → (m.map (·.1))[j]? = some y → y ∉ (m.map (·.1)).take j) (fun H2 e2 => ⟨⟨_, _, _, rfl⟩, .refl _, fun j u h => absurd h (Nat.not_lt_zero _)⟩) (fun H2 i σ' H' hP => hP.2.1) (fun H4 i d x σ' Ha Hb e4 hd hP eab hx => ?_) (fun H4 σ' H5 e4 hP => ?_)
        · obtain ⟨⟨y1, y2, y4, rfl⟩, ex, hj⟩ := hP
          obtain ⟨z, hz, rfl⟩ := enum_fn hd
          refine tg2 hx fun u1 u2 a1 a2 => ?_
          obtain rfl := dp_int a1
          obtain rfl := dp_str a2
          have g1 := dp_same ((e4.trans ex).trans eab) g1
          have hzl : z.length ≤ 1000 := by
            obtain ⟨x9, hx9, e9⟩ := List.mem_map.mp (List.mem_of_getElem? hz)
            rw [← e9]
            exact hzn x9 hx9
          refine Evl.s_when (b := decide (z ∈ (m.map (·.1)).take i)) (et_test (ev_inS (neg := false) (zs := (m.map (·.1)).take i) (ev_var rfl) (en_slToL (k := i) (ed_var rfl g1) (ev_var rfl)).list (.inl (by rw [List.map_take])))) (fun hb H6 e6 => ?_) fun hb H6 e6 => ⟨⟨_, _, _, rfl⟩, ex.trans (eab.trans e6), fun j y hji hy => ?_⟩
          · exact nmb_made B2.nm B2.hw hnm hzl (fun R hR => ⟨_, rfl, hR⟩) fun d nd => bd.tk hall i z (by rw [hnt]; exact hz) (by rw [hnt]; exact of_decide_eq_true hb) (by rw [hnt]; exact hj) H6 (e4.trans (ex.trans (eab.trans e6))) d nd
          · rcases Nat.lt_or_ge j i with h | h
            · exact hj j y h hy
            · have ej : j = i := by omega
              subst ej
              rw [hz] at hy
              cases hy
              exact of_decide_eq_false hb
        · obtain ⟨⟨y1, y2, y4, rfl⟩, ex, hj⟩ := hP
          have e15 := e13.trans (e4.trans ex)
          have h0 := dp_same (e4.trans ex) h0
          have hnd : (m.map (·.1)).Nodup := nodup_pre fun j y hjl hy => hj j y (by rw [enum_len, List.length_map]; exact hjl) hy
          dsimp only
          refine Evl.s_when (b := decide (((m.length : Nat) : Int) > 3)) (et_test (ev_op (ev_is (ev_lenD (ed_var rfl h0) (.inl rfl)) (by rw [List.length_map])) ev_c rv_I0)) (fun hb H6 e6 => ?_) fun hb H6 e6 => ?_
          rotate_left
          · have hb := of_decide_eq_false hb
            exact q ⟨hall, by rw [hnt]; exact hnd, by rw [List.length_map]; omega⟩ H6 (e15.trans e6)
          have := of_decide_eq_true hb
          exact ink_made B3.nm B3.hw (fun R hR => hR) fun d nd => bd.fu hall (by rw [hnt]; exact hnd) (by rw [List.length_map]; omega) H6 ((e4.trans ex).trans e6) d nd
theorem ok_needTN {f BW TK FU : Addr} {fd : FuncData} {k : Nat} (F : Fun K "_need_company" "_need_company" sNeedCompany f fd) (T : Txt mg) (B1 : RaiR P w K mg base k "BadWriter" BW ["self", "at"] (spAtB K)) (B2 : RaiR P w K mg base k "Taken" TK ["self", "name"] (spNmB K)) (B3 : RaiR P w K mg base k "Full" FU ["self", "told"] (spInk K))
    (hat : PySem.W.findIn K (.ref BW) "at" = some none) (hnm : PySem.W.findIn K (.ref TK) "name" = some none) (C_is_writer : Cal P w K mg base (k + 1) "is_writer" ["thing"] (spP K RIsT)) : FnOk P w K mg base (L2N.CX P w) (k + 2) f fd ["writers"] (spNeedN K BW TK FU .tuple) := by
  refine okN F sc__need_company (fun vs H Q E h => ?_) (fun cdv A outer s H vs Q E hr h => ?_)
  · obtain ⟨v, ts, rfl, _⟩ := h
    rfl
  · obtain ⟨v0, ts, rfl, h0, ft, hl, bd, q⟩ := h
    refine ⟨_, (pss_cons (ps_for (passes_of rfl) rfl (pi_enumT (by rfl) T.m_enumerate (pa_cons (pv 0) pa_nil)) (pg_tup rfl (pgs_cons (pg_name (i := 1) sc__need_company.nd rfl (.inl rfl)) (pgs_cons (pg_name (i := 2) sc__need_company.nd rfl (.inl rfl)) pgs_nil)))
    (pss_one (ps_if (pt_not (pt_val (pe_callC C_is_writer hr (by rfl) (pa_cons (pv 2) pa_nil))))
    (pss_one (ps_raiseR B1 (hr.mono (by omega)) (by rfl) rfl (L2N.takes_of rfl rfl rfl rfl) (pa_cons (pv 1) pa_nil))) pss_nil)))
    (pss_cons (ps_setLc (i := 3) (own := [("writer", 2)]) (g := (gName 2)) (by rfl) sc__need_company.nd rfl rfl (sw_true rfl rfl rfl (by decide +kernel)) (pi_tup (pv 0)) (blkOk_by (own := [("writer", 2)]) (N := ["writers", "at", "writer", "names", "name"]) (sc := defScope sNeedCompany) (by decide +kernel)) (fun _ _ _ _ _ => (pg_name (i := 2) sc__need_company.nd rfl (Or.inl rfl))) (fun _ _ _ _ _ => pts_nil) (fun _ _ _ _ _ => (pe_ix (show IxR _ (rIxT K) from ix_tup) (pv 2) pe_int (fun _ _ => rfl))))
    (pss_cons (ps_for (passes_of rfl) rfl (pi_enum (by rfl) T.m_enumerate (pa_cons (pv 3) pa_nil)) (pg_tup rfl (pgs_cons (pg_name (i := 1) sc__need_company.nd rfl (.inl rfl)) (pgs_cons (pg_name (i := 4) sc__need_company.nd rfl (.inl rfl)) pgs_nil)))
    (pss_one (ps_if (pt_cmpR (show OpR _ _ (rIn K false) from op_in_seq) (pv 4) (pe_slice sl_list (pv 3) po_none (po_some (pv 1))) (by rfl))
    (pss_one (ps_raiseR B2 (hr.mono (by omega)) (by rfl) rfl (L2N.takes_of rfl rfl rfl rfl) (pa_cons (pv 4) pa_nil))) pss_nil)))
    (pss_one (ps_if (pt_cmpR op_gt (pe_callB call_len (by rfl) T.m_len PySem.boot_len (pa_cons (pv 0) pa_nil)) (pe_globI (by rfl) T.e_MOST_WRITERS) (nomark _))
    (pss_one (ps_raiseR B3 (hr.mono (by omega)) (by rfl) rfl (L2N.takes_of rfl rfl rfl rfl) (pa_cons pe_str pa_nil))) pss_nil))))), ?_⟩
    refine sd_forS (K := K) (ei_enumT (ed_var rfl h0)) (fun H2 i σ' H' => (∃ y1 y2, σ' = [some v0, y1, y2, none, none]) ∧ Ex H2 H' ∧ ∀ (j : Nat) (u : Thg), j < i → ts[j]? = some u → okT u = true) (fun H2 e2 => ⟨⟨none, none, rfl⟩, .refl _, fun j u h => absurd h (Nat.not_lt_zero _)⟩) (fun H2 i σ' H' hP => hP.2.1) (fun H2 i d x σ' Ha Hb e2 hd hP eab hx => ?_) (fun H2 σ' H' e2 hP => ?_)
    · obtain ⟨⟨y1, y2, rfl⟩, ex, hj⟩ := hP
      obtain ⟨t, ht, rfl⟩ := enum_fn hd
      refine tg2 hx fun u1 u2 a1 a2 => ?_
      obtain rfl := dp_int a1
      have hil : i < ts.length := (List.getElem?_eq_some_iff.mp ht).1
      refine Evl.s_when (b := !okT t) (et_not (et_B (ev_bl (ed_call (eds_cons (ed_var rfl a2) eds_nil) ⟨t, ft t (List.mem_of_getElem? ht), rfl, rfl⟩)))) (fun hb H3 e3 => ?_) fun hb H3 e3 => ⟨⟨_, _, rfl⟩, ex.trans (eab.trans e3), fun j u hji hu => ?_⟩
      · have hn := num_ok (n := (i : Int)) (by omega)
        exact atb_made B1.nm B1.hw hat hn.1 hn.2 (fun R hR => ⟨_, rfl, hR⟩) fun d nd => bd.bw i t ht (by cases e : okT t with | false => rfl | true => rw [e] at hb; cases hb) hj H3 (e2.trans (ex.trans (eab.trans e3))) d nd
      · rcases Nat.lt_or_ge j i with h | h
        · exact hj j u h hu
        · have ej : j = i := by omega
          subst ej
          rw [ht] at hu
          cases hu
          cases e : okT t with
          | true => rfl
          | false =>
            rw [e] at hb
            cases hb
    · obtain ⟨⟨y1, y2, rfl⟩, ex, hj⟩ := hP
      have e1 := e2.trans ex
      have h0 := dp_same e1 h0
      have hall : ∀ t ∈ ts, okT t = true := fun t ht => by
        obtain ⟨j, hjl, ej⟩ := List.mem_iff_getElem.mp ht
        refine hj j t ?_ (by rw [List.getElem?_eq_getElem hjl, ej])
        rw [enum_len, List.length_map]
        exact hjl
      have bd := bd.ex e1
      obtain ⟨m, rfl⟩ := all_w hall
      rw [List.map_map] at h0
      have h0 : Dp K H' v0 (.tuple (m.map dW)) := h0
      have hlm : m.length ≤ 1000 := by rw [List.length_map] at hl; exact hl
      have hzn : ∀ x ∈ m, x.1.length ≤ 1000 := fun x hx => ((ft _ (List.mem_map.mpr ⟨x, hx, rfl⟩)).w x rfl).2.1
      dsimp only
      refine sd_asg (K := K) (EvN.list (ds := (m.map (·.1)).map PyData.str) ?_) fun w1 H3 e3 g1 => ?_
      · rw [List.map_map]
        refine en_map m dW _ (ei_tup (ed_var rfl h0)) (by omega) (fun x _ => by show fz (PyData.str _) = true; unfold fz; rfl) fun j x H5 y hx e5 hdx R kk => ?_
        exact kk _ rfl (ed_ixT (ed_var rfl hdx) ev_c (by decide) rfl)
      · dsimp only
        have e13 := e1.trans e3
        have h0 := dp_same e3 h0
        have bd := bd.ex e3
        have hnt : (m.map Thg.w).map nmT = m.map (·.1) := nm_w m
        refine sd_forS (K := K) (ei_enum (ed_var rfl g1)) (fun H2 i σ' H' => (∃ y1 y2 y4, σ' = [some v0, y1, y2, some w1, y4]) ∧ Ex H2 H' ∧ ∀ (j : Nat) (y : Str), j < i → (m.map (·.1))[j]? = some y → y ∉ (m.map (·.1)).take j) (fun H2 e2 => ⟨⟨_, _, _, rfl⟩, .refl _, fun j u h => absurd h (Nat.not_lt_zero _)⟩) (fun H2 i σ' H' hP => hP.2.1) (fun H4 i d x σ' Ha Hb e4 hd hP eab hx => ?_) (fun H4 σ' H5 e4 hP => ?_)
        · obtain ⟨⟨y1, y2, y4, rfl⟩, ex, hj⟩ := hP
          obtain ⟨z, hz, rfl⟩ := enum_fn hd
          refine tg2 hx fun u1 u2 a1 a2 => ?_
          obtain rfl := dp_int a1
          obtain rfl := dp_str a2
          have g1 := dp_same ((e4.trans ex).trans eab) g1
          have hzl : z.length ≤ 1000 := by
            obtain ⟨x9, hx9, e9⟩ := List.mem_map.mp (List.mem_of_getElem? hz)
            rw [← e9]
            exact hzn x9 hx9
          refine Evl.s_when (b := decide (z ∈ (m.map (·.1)).take i)) (et_test (ev_inS (neg := false) (zs := (m.map (·.1)).take i) (ev_var rfl) (en_slToL (k := i) (ed_var rfl g1) (ev_var rfl)).list (.inl (by rw [List.map_take])))) (fun hb H6 e6 => ?_) fun hb H6 e6 => ⟨⟨_, _, _, rfl⟩, ex.trans (eab.trans e6), fun j y hji hy => ?_⟩
          · exact nmb_made B2.nm B2.hw hnm hzl (fun R hR => ⟨_, rfl, hR⟩) fun d nd => bd.tk hall i z (by rw [hnt]; exact hz) (by rw [hnt]; exact of_decide_eq_true hb) (by rw [hnt]; exact hj) H6 (e4.trans (ex.trans (eab.trans e6))) d nd
          · rcases Nat.lt_or_ge j i with h | h
            · exact hj j y h hy
            · have ej : j = i := by omega
              subst ej
              rw [hz] at hy
              cases hy
              exact of_decide_eq_false hb
        · obtain ⟨⟨y1, y2, y4, rfl⟩, ex, hj⟩ := hP
          have e15 := e13.trans (e4.trans ex)
          have h0 := dp_same (e4.trans ex) h0
          have hnd : (m.map (·.1)).Nodup := nodup_pre fun j y hjl hy => hj j y (by rw [enum_len, List.length_map]; exact hjl) hy
          dsimp only
          refine Evl.s_when (b := decide (((m.length : Nat) : Int) > 3)) (et_test (ev_op (ev_is (ev_lenD (ed_var rfl h0) (.inr rfl)) (by rw [List.length_map])) ev_c rv_I0)) (fun hb H6 e6 => ?_) fun hb H6 e6 => ?_
          rotate_left
          · have hb := of_decide_eq_false hb
            exact q ⟨hall, by rw [hnt]; exact hnd, by rw [List.length_map]; omega⟩ H6 (e15.trans e6)
          have := of_decide_eq_true hb
          exact ink_made B3.nm B3.hw (fun R hR => hR) fun d nd => bd.fu hall (by rw [hnt]; exact hnd) (by rw [List.length_map]; omega) H6 ((e4.trans ex).trans e6) d nd
end
end Ink
namespace Ink
open PySem PySem.Spec PyProof.Rows L2 Evl
/-! ### a company made, or a refusal -/
def spInitN (P : Program) (w : World) (K : PySem.W.Frag) (C BW TK FU : Addr) (c : List PyData → PyData) : Sp := fun vs H Q E => ∃ p dx v ts, vs = [.ref p, v] ∧ H p = some (.ins C dx []) ∧ Dp K H v (c (ts.map dT)) ∧ (∀ t ∈ ts, FineT t) ∧ ts.length ≤ 1000 ∧ Bads BW TK FU ts E H ∧
  (goodTs ts → ∀ m, ts = m.map Thg.w → GoodM m → ∀ d H', H d = none → (∀ b o, H b = some o → b ≠ p → H' b = some o) → CoAtD P w K C H' p m 0 d → Q .non H')
/-- the class at C, which may refuse -/
def MakN (P : Program) (w : World) (K : PySem.W.Frag) (mg : Str → Option Value) (base : Heap) (k : Nat) (x : Str) (C : Addr) (ps : List Str) (dvs : List V) (sp : Sp) : Prop :=
  ∃ f fd ds, FnOk P w K mg base (L2N.CX P w) k f fd ps sp ∧ Mk K C f ∧ mg x = some (.ref C) ∧ Binds K fd ps ds ∧ Vals dvs ds
section
variable {X : Cx} {k : Nat} {C : Addr} {x : Str} {ps : List Str} {dvs : List V} {sp : Sp} {p pos : Pos} {e : Expr} {es : List Expr} {t : TA} {E : XK}
theorem pe_makeCN (c : MakN X.prog X.w X.K X.mg X.base k x C ps dvs sp) (hr : Room (k + 1) X.A) (hx : Passes (L2N.CX X.prog X.w) X E) (hg : Gl X x) (ha : PA X (e :: es) t) (hdb : (x == ("__debug__" : Str)) = false := by decide)
    (he : starEach (e :: es) X.env = (false, eval e X.env) :: starEach es X.env := by rfl) (hpl : (backTo pos (starEach es X.env)).any (·.1) = false := by rfl) : PE X (.Call (.Name x p) (e :: es) [] pos) (tMake C sp dvs E t) := by
  obtain ⟨f, fd, ds, G, M, g, b, hd⟩ := c
  exact pe_make M G hr hg g b hd hx ha hdb he hpl
end
section
variable {P : Program} {w : World} {K : PySem.W.Frag} {mg : Str → Option Value} {base : Heap}
theorem ok_initN {f C BW TK FU : Addr} {fd : FuncData} {k : Nat} {c : List PyData → PyData} {df : List V} (F : FunD K "__init__" "Company.__init__" (defArgs sCompanyInit) (defBody sCompanyInit) (defScope sCompanyInit) df [] f fd) (T : Txt mg) (Z : CoC K C) (hc : c = .list ∨ c = .tuple)
    (C__need_company : CalN P w K mg base k "_need_company" ["writers"] (spNeedN K BW TK FU c)) : FnOk P w K mg base (L2N.CX P w) (k + 1) f fd ["self", "writers"] (spInitN P w K C BW TK FU c) := by
  refine F.ok sc_Company___init__ (fun vs H Q E h => ?_) (fun cdv A outer s H vs Q E hr h => ?_)
  · obtain ⟨p, dx, v, m, rfl, _⟩ := h
    rfl
  · obtain ⟨p, dx, v, ts, rfl, hp, hv, ft, hl, bd, q⟩ := h
    refine ⟨_, (pss_cons (ps_expr (pe_callCN C__need_company hr passN (by rfl) (pa_cons (pv 1) pa_nil)))
    (pss_cons (ps_fld (pv 0) (pe_callTy call_tuple_of (by rfl) T.m_tuple (by decide +kernel) (pa_cons (pv 1) pa_nil)) rfl)
    (pss_one (ps_fld (pv 0) pe_dnewN rfl)))), ?_⟩
    refine ⟨v, rfl, v, ts, rfl, hv, ft, hl, bd, fun gd H1 e1 => ?_⟩
    have hv := dp_same e1 hv
    obtain ⟨m, rfl⟩ := all_w gd.1
    have g := good_m ft gd
    have q := q gd m rfl g
    rw [List.map_map] at hv
    have hv : Dp K H1 v (c (m.map dW)) := hv
    have hw : EvD K (tCB (fun xs H Q => ∃ p ys, xs = [.ref p] ∧ ((SqL K H p ys ∧ ∀ l, H l = none → Q (.ref l) (upd H l (.tup ys))) ∨ (SqT K H p ys ∧ Q (.ref p) H))) (tCons (tVar 1) tNil)) [some (.ref p), some v] H1 (dMt m) := by
      rcases hc with rfl | rfl
      · exact ed_tuple (ed_var rfl hv)
      · exact ed_tupleT (ed_var rfl hv)
    refine sd_fld hw fun u H2 e2 hu => ?_
    obtain ⟨tw, xs, rfl, htw, hxs⟩ := dp_tup hu
    have hp2 := e2 _ _ (e1 _ _ hp)
    refine ⟨.ref p, rfl, p, C, dx, [], rfl, hp2, Z.cl, Z.nW, (by show 0 < 1000; decide), ?_⟩
    intro d H3 nd hb hd
    have pd : p ≠ d := ne_of_none (upd_same (H := H2) (a := p) (o := .ins C dx (putF "_writers" (.ref tw) []))) nd
    refine ⟨.ref p, rfl, p, C, dx, _, rfl, (hb p pd).trans upd_same, Z.cl, Z.nF, (by show 1 < 1000; decide), ?_⟩
    have t3 : ∀ b o, H2 b = some o → b ≠ p → upd H3 p (.ins C dx (coF tw d)) b = some o := fun b o e nb => by
      have nbd : b ≠ d := ne_of_none (by rw [upd_ne nb]; exact e) nd
      rw [upd_ne nb, hb b nbd, upd_ne nb]
      exact e
    have tk : TupK K H2 (upd H3 p (.ins C dx (coF tw d))) := fun b xs h => by
      rcases h with (h | ⟨o, h⟩) | h
      · exact .inl (.inl (t3 _ _ h (ne_of h hp2 (by intro z; cases z))))
      · exact .inl (.inr ⟨o, t3 _ _ h (ne_of h hp2 (by intro z; cases z))⟩)
      · exact .inr h
    have nd2 : H2 d = none := by
      rw [upd_ne pd.symm] at nd
      exact nd
    refine q d _ (Same.free (e1.trans e2) nd2) (fun b o e nb => t3 b o (e2 _ _ (e1 _ _ e)) nb) ⟨dx, tw, [], upd_same, dp_tk tk (fz_dMt m) (.tup htw hxs), hd.up (upd_ne pd.symm) ?_, fun kv hk => (by cases hk), Nat.le_refl _, fun kv hk => (by cases hk)⟩
    exact TupK.upd ((hb p pd).trans upd_same) (fun _ z => by cases z) fun _ _ z => by cases z
end
end Ink
namespace Ink
open PySem PySem.Spec PyProof.Rows L2 Evl
/-! ### len of an own object; a class called with keywords -/
def LenC (P : Program) (w : World) (K : PySem.W.Frag) (mg : Str → Option Value) (base : Heap) (k : Nat) (C : Addr) (sp : Sp) : Prop :=
  ∃ f fd, FnOk P w K mg base CX0 k f fd ["self"] sp ∧ PySem.W.findIn K (.ref C) "__len__" = some (some (.ref f)) ∧ PySem.W.isFn K (.ref f) = true ∧ Binds K fd ["self"] []
def rLenO (C : Addr) (sp : Sp) : List V → Hp → VK → Prop := fun xs H Q => ∃ (a dx : Addr) (fs : List (Str × V)) (n : Int), xs = [.ref a] ∧ H a = some (.ins C dx fs) ∧ 0 ≤ n ∧ n < 2 ^ 63 ∧ sp [.ref a] H (fun v H' => v = .int n ∧ Q (.int n) H') E0
section
variable {X : Cx} {k : Nat} {C : Addr} {sp : Sp} {p pos : Pos} {e : Expr} {te : TE}
theorem call_lenO (c : LenC X.prog X.w X.K X.mg X.base k C sp) (hr : Room (k + 1) X.A) : CallR X (.builtin "len") (rLenO C sp) := by
  obtain ⟨f, fd, F, hs, hf, hb⟩ := c
  intro pins s σ H xs us Q I r h
  obtain ⟨a, dx, fs, n, rfl, ha, n0, n1, hsp⟩ := h
  cases r with
  | cons r0 rt =>
    cases rt
    cases r0
    obtain ⟨mA, J, _⟩ := ins_get I.hok ha
    obtain ⟨od, J, _⟩ := J.look
    obtain ⟨m, hF⟩ := I.fr
    refine PySem.W.len_K hF I.ok.mod.kin J hs hf ?_
    have r2 : Vals [V.ref a] [Value.ref a] := .cons rfl .nil
    refine wpAny_call (codeAny_mono (F.run X.A.in1 X.stack s H ⟨[.ref a], []⟩ [.ref a] [.ref a] _ E0 hr.in1 I.env0.in1 (by
      have := hb s [.ref a] I.kIn (by rfl)
      simpa using this) r2 hsp) fun r s' hq => ?_)
    cases r with
    | error e => exact pass0 pins σ H s e s' I hq
    | ok fl =>
      cases fl with
      | ret w =>
        obtain ⟨z, H', I', rz, ez, ex⟩ := I.after hq
        subst ez
        obtain ⟨t, rfl⟩ := rz
        exact ⟨⟨n0, n1⟩, .int n, H', I'.tok _, ⟨_, rfl⟩, ex⟩
      | next => exact False.elim hq
      | brk => exact False.elim hq
      | cont => exact False.elim hq
theorem pe_lenO (c : LenC X.prog X.w X.K X.mg X.base k C sp) (hr : Room (k + 1) X.A) (hg : Gl X "len") (hm : X.mg "len" = none) (he : PE X e te) (hs : starEach [e] X.env = (false, eval e X.env) :: starEach [] X.env := by rfl) (hpl : (backTo pos (starEach [] X.env)).any (·.1) = false := by rfl) :
    PE X (.Call (.Name "len" p) [e] [] pos) (tCB (rLenO C sp) (tCons te tNil)) := pe_callB (call_lenO c hr) hg hm PySem.boot_len (pa_cons he pa_nil (hs := hs)) (by decide) (by decide) hs hpl
end
end Ink
namespace Ink
open PySem PySem.Spec PyProof.Rows L2 Evl
/-! ### own objects: ==, !=, bool, repr, str -/
/-- a special method of the class at C that lets nothing out -/
def SpcC (P : Program) (w : World) (K : PySem.W.Frag) (mg : Str → Option Value) (base : Heap) (k : Nat) (C : Addr) (name : Str) (ps : List Str) (sp : Sp) : Prop :=
  ∃ f fd, FnOk P w K mg base CX0 k f fd ps sp ∧ PySem.W.findIn K (.ref C) name = some (some (.ref f)) ∧ PySem.W.isFn K (.ref f) = true ∧ Binds K fd ps []
theorem SpcC.mono {P : Program} {w : World} {K : PySem.W.Frag} {mg : Str → Option Value} {base : Heap} {j k : Nat} {C : Addr} {name : Str} {ps : List Str} {sp : Sp} (c : SpcC P w K mg base j C name ps sp) (h : j ≤ k) : SpcC P w K mg base k C name ps sp := by
  obtain ⟨f, fd, a, b⟩ := c
  exact ⟨f, fd, a.mono h, b⟩
def rEqO (K : PySem.W.Frag) (C : Addr) (sp : Sp) : R2 := fun x y H Q => ∃ (a dx : Addr) (fs : List (Str × V)) (t : Value), x = .ref a ∧ H a = some (.ins C dx fs) ∧ TyX K H y t ∧ PySem.W.notFirst K C t = true ∧ sp [.ref a, y] H (fun v H' => ∃ b, v = .bl b ∧ Q (.bl b) H') E0
def rNeO (K : PySem.W.Frag) (C : Addr) (sp : Sp) : R2 := fun x y H Q => ∃ (a dx : Addr) (fs : List (Str × V)) (t : Value), x = .ref a ∧ H a = some (.ins C dx fs) ∧ TyX K H y t ∧ PySem.W.notFirst K C t = true ∧ sp [.ref a, y] H (fun v H' => ∃ b, v = .bl b ∧ Q (.bl (!b)) H') E0
def rBoolO (C : Addr) (sp : Sp) : List V → Hp → VK → Prop := fun xs H Q => ∃ (a dx : Addr) (fs : List (Str × V)), xs = [.ref a] ∧ H a = some (.ins C dx fs) ∧ sp [.ref a] H (fun v H' => ∃ n : Int, v = .int n ∧ 0 ≤ n ∧ n < 2 ^ 63 ∧ Q (.bl (n != 0)) H') E0
def rTextO (C : Addr) (sp : Sp) : List V → Hp → VK → Prop := fun xs H Q => ∃ (a dx : Addr) (fs : List (Str × V)), xs = [.ref a] ∧ H a = some (.ins C dx fs) ∧ sp [.ref a] H (fun v H' => ∃ z : Str, v = .str z ∧ Q (.str z) H') E0
/-- no __bool__ of its own, but a __len__: truth by it -/
theorem truthy_L {prog : Program} {w : World} {A : Around} {E : Value → Shared → Prop} {s : Shared} {K : PySem.W.Frag} {x C L f : Addr} {h₀ : Heap} {m : Str → Option Value} {ox : Obj} {od : Option Obj} {Q : Bool → Shared → Prop} (F : PyProof.Rows.Fr h₀ L s.heap m) (X₀ : K.In h₀) (I : PySem.W.InstAt s.heap x ox C od)
    (hb : PySem.W.findIn K (.ref C) "__bool__" = some none) (hs : PySem.W.findIn K (.ref C) "__len__" = some (some (.ref f))) (hf : PySem.W.isFn K (.ref f) = true)
    (h : wpAny (model prog w) A.in1 (call (.ref f) [.ref x]) (fun v s' => ∃ n t, v = .int n t ∧ (0 ≤ n ∧ n < 2 ^ 63) ∧ Q (n != 0) { s' with toks := s'.toks + 1 }) E s) : wpAny (model prog w) A (truthy (.ref x)) Q E s := by
  have X := X₀.keeps F.keep
  have key : wpAny (model prog w) A (runValue (.builtin "len" ⟨[.ref x], []⟩)) (fun r s' => ∃ n t, r = .int n t ∧ Q (n != 0) s') E s := by
    refine wpAny_runValue (codeAny_builtin entry_len ?_)
    rw [Around.under_plainId plain_len _]
    unfold Builtin.«len»
    refine wpAny_bind (wpAny_pure ?_)
    refine wpAny_bind (m := callSpecial? (.ref x) (Str.ofString "__len__")) (PySem.W.special_fn X I hs (beq_iff_eq.mp hf) (wpAny_mono h (fun r s' hr => ?_) fun _ _ y => y))
    obtain ⟨n, t, rfl, ⟨h0, h1⟩, hq⟩ := hr
    refine wpAny_bind (wpAny_holding (wpAny_pure ?_))
    refine wpAny_bind (wpAny_letGo ?_)
    show wpAny _ _ (if n < 0 then _ else _) _ _ _
    rw [if_neg (by omega)]
    show wpAny _ _ (if n ≥ 2 ^ 63 then _ else _) _ _ _
    rw [if_neg (by omega)]
    exact wpAny_bind (wpAny_mkInt (wpAny_pure ⟨n, _, rfl, hq⟩))
  unfold truthy
  refine wpAny_bind (m := callSpecial? (.ref x) (Str.ofString "__bool__")) (wpAny_bind (wpAny_bind (I.type.here ((PySem.W.looks_findIn X hb).here (wpAny_pure ?_)))))
  refine wpAny_bind (wpAny_bind (I.type.here ((PySem.W.looks_findIn X hs).here ?_)))
  refine wpAny_bind (wpAny_mono key (fun r s' hr => ?_) fun _ _ y => y)
  obtain ⟨n, t, rfl, hq⟩ := hr
  exact wpAny_pure hq
theorem ifBound_B {M : Model} {A : Around} {E : Value → Shared → Prop} {s : Shared} {K : PySem.W.Frag} {x C : Addr} {ox : Obj} {od : Option Obj} {B id : String} {name : Str} {args : List Value} {Q : Option Value → Shared → Prop} (X : K.In s.heap) (I : PySem.W.InstAt s.heap x ox C od) (hs : PySem.W.findIn K (.ref C) name = some (some (.builtin id))) (S : Slot B name id)
    (h : wpAny M A (call (.builtin id) (.ref x :: args)) (fun v => Q (some v)) E s) : wpAny M A (callSpecialIfBound? (.ref x) name args) Q E s := by
  simp only [callSpecialIfBound?, bindSpecialIfBound?]
  refine wpAny_holding (wpAny_bind (wpAny_bind (wpAny_bind (I.type.here ((PySem.W.looks_findIn X hs).here ?_)))))
  simp only [S.bind]
  refine wpAny_bind (wpAny_askSetting (wpAny_ite ?_))
  have fin : wpAny M A (call (.builtin id) ([.ref x] ++ args) >>= fun v => pure (some v)) Q E s := wpAny_bind (wpAny_mono h (fun v s' h' => wpAny_pure h') fun _ _ h' => h')
  split
  · exact wpAny_bind (wpAny_pure (wpAny_pure fin))
  · exact wpAny_tryCatch (wpAny_bind (wpAny_pure (wpAny_pure fin)))
theorem ne_body {prog : Program} {w : World} {A : Around} {E : Value → Shared → Prop} {s : Shared} {K : PySem.W.Frag} {x C f : Addr} {ox : Obj} {od : Option Obj} {u : Value} {Q : Value → Shared → Prop} (hu : A.units < cLine) (X : K.In s.heap) (I : PySem.W.InstAt s.heap x ox C od) (hs : PySem.W.findIn K (.ref C) "__eq__" = some (some (.ref f))) (hf : PySem.W.isFn K (.ref f) = true)
    (h : wpAny (model prog w) A (call (.ref f) [.ref x, u]) (fun v s' => ∃ b, v = .bool b ∧ Q (.bool (!b)) s') E s) : wpAny (model prog w) A (Builtin.«object.__ne__» ⟨[.ref x, u], []⟩) (fun fin s' => ∃ r, fin = .done (.ret r) ∧ Q r s') E s := by
  unfold Builtin.«object.__ne__»
  refine wpAny_bind (wpAny_pure ?_)
  refine wpAny_bind (wpAny_cRoomFor hu ?_)
  refine wpAny_bind (PySem.W.ifBound_K X I hs hf (wpAny_mono h (fun v s' hv => ?_) fun _ _ e => e))
  obtain ⟨b, rfl, hq⟩ := hv
  exact wpAny_bind (wpAny_truthy_bool (wpAny_pure ⟨_, rfl, hq⟩))
section
variable {X : Cx} {k : Nat} {C : Addr} {sp : Sp}
theorem spc_run {ps : List Str} {A : Around} {pins : List (Addr × Obj)} {σ : L2.St} {H : Hp} {s : Shared} {vs : List V} {us : List Value} {f : Addr} {fd : FuncData} {S : VK} (F : FnOk X.prog X.w X.K X.mg X.base CX0 k f fd ps sp) (hb : Binds X.K fd ps []) (hr : Room k A) (fr : A.frames = X.A.frames) (I : Inv X pins σ H s) (r : Vals vs us) (hl : vs.length = ps.length) (h : sp vs H S E0) :
    wpAny (model X.prog X.w) A (call (.ref f) us) (fun v s' => ∃ z H', RelV z v ∧ S z H' ∧ Inv X pins σ H' s') X.xe s := by
  have e0 : Env0 X.prog X.w X.K X.mg X.base A X.stack s H := by
    have e := I.env0
    exact ⟨by rw [fr]; exact e.frames, e.mod, e.bs, e.bsz, e.funs, e.frf, e.hok, e.bare⟩
  refine wpAny_call (codeAny_mono (F.run A X.stack s H ⟨us, []⟩ us vs S E0 hr e0 (by
    have := hb s us I.kIn (by rw [List.append_nil, ← r.length]; exact hl)
    simpa using this) r h) fun r s' hq => ?_)
  cases r with
  | error e => exact pass0 pins σ H s e s' I hq
  | ok fl =>
    cases fl with
    | ret w =>
      obtain ⟨z, H', I', rz, ez⟩ := I.after hq
      exact ⟨z, H', rz, ez, I'⟩
    | next => exact False.elim hq
    | brk => exact False.elim hq
    | cont => exact False.elim hq
theorem op_eqO (c : SpcC X.prog X.w X.K X.mg X.base k C "__eq__" ["self", "other"] sp) (hr : Room (k + 1) X.A) : OpR X (compareOp .Eq) (rEqO X.K C sp) := by
  obtain ⟨f, fd, F, hs, hf, hb⟩ := c
  intro pins s σ H x y v u Q I rx ry h
  obtain ⟨a, dx, fs, t, rfl, ha, ty, hn, hsp⟩ := h
  cases (show v = Value.ref a from rx)
  obtain ⟨P, Z, p, _⟩ := kit_of I ry ty
  obtain ⟨mA, J, _⟩ := ins_get I.hok ha
  obtain ⟨od, J, _⟩ := J.look
  obtain ⟨m, hF⟩ := I.fr
  refine PySem.W.cmp_K (op := .Eq) (tb := t) (hr.mono (Nat.le_succ k)).units0 hF I.ok.mod.kin J (Z.ty _ _ I.kIn p) hn hs hf ?_
  refine wpAny_mono (spc_run F hb (hr.mono (Nat.le_succ k)) rfl I (show Vals [V.ref a, y] [Value.ref a, u] from .cons rfl (.cons ry .nil)) rfl hsp) (fun r s' hq => ?_) fun _ _ z => z
  obtain ⟨z, H', rz, ⟨b, rfl, q⟩, I'⟩ := hq
  cases (show r = Value.bool b from rz)
  exact ⟨.bl b, H', I', rfl, q⟩
theorem op_neO (c : SpcC X.prog X.w X.K X.mg X.base k C "__eq__" ["self", "other"] sp) (hr : Room (k + 1) X.A) (hne : PySem.W.findIn X.K (.ref C) "__ne__" = some (some (.builtin "object.__ne__"))) (hob : PySem.W.subIn X.K (.ref C) (.type "object") = some true) : OpR X (compareOp .NotEq) (rNeO X.K C sp) := by
  obtain ⟨f, fd, F, hs, hf, hb⟩ := c
  intro pins s σ H x y v u Q I rx ry h
  obtain ⟨a, dx, fs, t, rfl, ha, ty, hn, hsp⟩ := h
  cases (show v = Value.ref a from rx)
  obtain ⟨P, Z, p, _⟩ := kit_of I ry ty
  obtain ⟨mA, J, _⟩ := ins_get I.hok ha
  obtain ⟨od, J, _⟩ := J.look
  obtain ⟨m, hF⟩ := I.fr
  have hu := (hr.mono (Nat.le_succ k)).units0
  have XK := I.ok.mod.kin.keeps hF.keep
  have one : wpAny (model X.prog X.w) X.A (tryCompare (.ref a) "__ne__" u) (fun r s' => ∃ v, r = some v ∧ EP X pins σ Q v s') X.xe s := by
    unfold tryCompare
    refine wpAny_bind (ifBound_B XK J hne PySem.F.cmp_object.ne (wpAny_call (codeAny_call_builtin PySem.F.cmp_object.ne.plain PySem.F.cmpEntry_ne (PySem.W.check_slot PySem.F.cmpKind_ne PySem.F.cmpSplit_ne (J.type.andThen (PySem.W.looks_subIn XK hob)) (PySem.F.cmpArgs_ne _ _) (wpAny_mono (ne_body (Q := fun r s' => EP X pins σ Q r s' ∧ r ≠ .notImplemented) hr.in1.units0 XK J hs hf (wpAny_mono (spc_run F hb hr.in1 rfl I (show Vals [V.ref a, y] [Value.ref a, u] from .cons rfl (.cons ry .nil)) rfl hsp) (fun r s' hq => ?_) fun _ _ z => z)) (fun fin s' hq => ?_) fun _ _ z => z)))))
    · obtain ⟨z, H', rz, ⟨b, rfl, q⟩, I'⟩ := hq
      cases (show r = Value.bool b from rz)
      exact ⟨b, rfl, ⟨.bl (!b), H', I', rfl, q⟩, fun e => nomatch e⟩
    · obtain ⟨r, rfl, q, ne⟩ := hq
      show wpAny _ _ (match some r with | some Value.notImplemented => _ | none => _ | some v => _) _ _ _
      cases r <;> first | exact absurd rfl ne | exact wpAny_pure ⟨_, rfl, q⟩
  show wpAny (model X.prog X.w) X.A (richCompare .NotEq (.ref a) u) (EP X pins σ Q) X.xe s
  unfold richCompare
  simp only [oneThing_ref]
  refine wpAny_holding (wpAny_bind (wpAny_cRoomFor hu ?_))
  refine wpAny_bind (J.type.here (wpAny_bind ((Z.ty _ _ I.kIn p).here ?_)))
  rw [cmpInfo_NotEq]
  dsimp only
  split
  · rename_i q
    have e : PySem.W.subIn X.K t (.ref C) = some false := by
      rcases Bool.or_eq_true_iff.mp hn with e | e
      · rw [beq_iff_eq.mp e] at q; simp at q
      · exact beq_iff_eq.mp e
    refine wpAny_bind ((PySem.W.looks_subIn XK e).here ?_)
    simp only [Bool.false_eq_true, if_false]
    refine wpAny_bind (wpAny_mono one (fun r s' z => ?_) fun _ _ e => e)
    obtain ⟨v, rfl, hq⟩ := z
    exact wpAny_pure hq
  · refine wpAny_bind (wpAny_pure ?_)
    simp only [Bool.false_eq_true, if_false]
    refine wpAny_bind (wpAny_mono one (fun r s' z => ?_) fun _ _ e => e)
    obtain ⟨v, rfl, hq⟩ := z
    exact wpAny_pure hq
theorem call_reprO (c : SpcC X.prog X.w X.K X.mg X.base k C "__repr__" ["self"] sp) (hr : Room (k + 1) X.A) : CallR X (.builtin "repr") (rTextO C sp) := by
  obtain ⟨f, fd, F, hs, hf, hb⟩ := c
  intro pins s σ H xs us Q I r h
  obtain ⟨a, dx, fs, rfl, ha, hsp⟩ := h
  cases r with
  | cons r0 rt =>
    cases rt
    cases r0
    obtain ⟨mA, J, _⟩ := ins_get I.hok ha
    obtain ⟨od, J, _⟩ := J.look
    obtain ⟨m, hF⟩ := I.fr
    refine PySem.W.repr_K hr.in1.units0 hF I.ok.mod.kin J hs hf ?_
    refine wpAny_mono (spc_run F hb hr.in1 rfl I (show Vals [V.ref a] [Value.ref a] from .cons rfl .nil) rfl hsp) (fun r s' hq => ?_) fun _ _ z => z
    obtain ⟨z, H', rz, ⟨b, rfl, q⟩, I'⟩ := hq
    obtain ⟨t, rfl⟩ := (show ∃ t, r = Value.str b t from rz)
    exact ⟨.str b, H', I', ⟨_, rfl⟩, q⟩
theorem call_strO (c : SpcC X.prog X.w X.K X.mg X.base k C "__str__" ["self"] sp) (hr : Room (k + 2) X.A) : CallR X (.type "str") (rTextO C sp) := by
  obtain ⟨f, fd, F, hs, hf, hb⟩ := c
  intro pins s σ H xs us Q I r h
  obtain ⟨a, dx, fs, rfl, ha, hsp⟩ := h
  cases r with
  | cons r0 rt =>
    cases rt
    cases r0
    obtain ⟨mA, J, _⟩ := ins_get I.hok ha
    obtain ⟨od, J, _⟩ := J.look
    refine PySem.W.kso_call hr.in1.in1.units0 I.kIn J hs hf ?_
    refine wpAny_mono (spc_run F hb hr.in1.in1 rfl I (show Vals [V.ref a] [Value.ref a] from .cons rfl .nil) rfl hsp) (fun r s' hq => ?_) fun _ _ z => z
    obtain ⟨z, H', rz, ⟨b, rfl, q⟩, I'⟩ := hq
    obtain ⟨t, rfl⟩ := (show ∃ t, r = Value.str b t from rz)
    exact ⟨.str b, H', I', ⟨_, rfl⟩, q⟩
theorem call_boolO (c : SpcC X.prog X.w X.K X.mg X.base k C "__len__" ["self"] sp) (hr : Room (k + 3) X.A) (hnb : PySem.W.findIn X.K (.ref C) "__bool__" = some none) : CallR X (.type "bool") (rBoolO C sp) := by
  obtain ⟨f, fd, F, hs, hf, hb⟩ := c
  intro pins s σ H xs us Q I r h
  obtain ⟨a, dx, fs, rfl, ha, hsp⟩ := h
  cases r with
  | cons r0 rt =>
    cases rt
    cases r0
    obtain ⟨mA, J, _⟩ := ins_get I.hok ha
    obtain ⟨od, J, _⟩ := J.look
    obtain ⟨m, hF⟩ := I.fr
    refine callType_codes (T := "bool") (Bi := Builtin.«object.__init__») (Q₁ := fun r s₁ => ∃ b, r = .bool b ∧ EP X pins σ Q r s₁) PySem.F.called_bool (PySem.F.typeCall_bool_1 _) PySem.F.entry_object_init ?_ ?_
    · refine codeAny_of_tree ?_
      show wpAny _ X.A.in1.in1 (do checkBuiltinCall "bool.__new__" ⟨[.type "bool", .ref a], []⟩; again (.builtin "bool.__new__" ⟨[.type "bool", .ref a], []⟩)) _ _ s
      refine wpAny_bind (wpAny_of_eq (PySem.F.newCall_bool_1 _) (wpAny_pure ⟨plainId_quiet (by decide +kernel) _, codeAny_builtin PySem.F.entry_bool_new ?_⟩))
      rw [Around.under_plainId (by decide +kernel) _]
      have f1 := PySem.F.conv_sub_bool
      have key : wpAny (model X.prog X.w) X.A.in1.in1 (truthy (.ref a)) (fun b s' => EP X pins σ Q (.bool b) s') X.xe s := by
        refine truthy_L hF I.ok.mod.kin J hnb hs hf ?_
        refine wpAny_mono (spc_run F hb hr.in1.in1.in1 rfl I (show Vals [V.ref a] [Value.ref a] from .cons rfl .nil) rfl hsp) (fun r s' hq => ?_) fun _ _ z => z
        obtain ⟨z, H', rz, ⟨n, rfl, h0, h1, q⟩, I'⟩ := hq
        obtain ⟨t, rfl⟩ := (show ∃ t, r = Value.int n t from rz)
        exact ⟨n, t, rfl, ⟨h0, h1⟩, .bl (n != 0), H', I'.tok _, rfl, q⟩
      unfold Builtin.«bool.__new__»
      obtain ⟨hp, g, d, tk, os⟩ := s
      repeat (any_goals (first | assumption | (with_reducible refine wpAny_bind (wpAny_mono key (fun b s' hb' => ?_) fun _ _ z => z)) | wp_step))
      exact ⟨b, rfl, hb'⟩
    · rintro obj s₁ ⟨b, rfl, hq⟩
      exact ⟨PySem.typeIs_bool _ _, PySem.F.args_object_init_2 _ _, object_init_meets PySem.F.called_bool.init.lookup PySem.F.called_bool.made (by decide) X.prog X.w X.A.in1 _ s₁ ⟨PySem.typeIs_bool _ _, rfl, hq⟩⟩
end
end Ink
namespace Ink
open PySem PySem.Spec PyProof.Rows L2 Evl
/-! ### companies held against one another, shown and told -/
structure EqF (K : PySem.W.Frag) (C : Addr) : Prop where
  ha : PySem.W.findIn K (.ref C) "__class__" = some (some (.builtin "object.__class__"))
  hn : PySem.W.specialIn K (.builtin "object.__class__") "__get__" = some (some (.builtin "getset_descriptor.__get__"))
  htk : PySem.W.takesIn K (.builtin "object.__class__") = some true
  hm : PySem.W.mroIn K C (.type "object") = some true
  k0 : PySem.W.kitOne K (.type "NoneType") (.ref C) = some false
  k1 : PySem.W.kitOne K (.type "int") (.ref C) = some false
  k2 : PySem.W.kitOne K (.type "str") (.ref C) = some false
  k3 : PySem.W.kitOne K (.type "list") (.ref C) = some false
  f0 : PySem.W.notFirst K C (.type "NoneType") = true
  f1 : PySem.W.notFirst K C (.type "int") = true
  f2 : PySem.W.notFirst K C (.type "str") = true
  f3 : PySem.W.notFirst K C (.type "list") = true
/-- what stands on the right: a company, or something else -/
def OthAt (P : Program) (w : World) (K : PySem.W.Frag) (C : Addr) (H : Hp) (y : V) : Option (List Wr) → Prop
  | some m => ∃ c n, y = .ref c ∧ CoAt P w K C H c m n ∧ GoodM m
  | none => y = .non ∨ (∃ i, y = .int i) ∨ (∃ z, y = .str z) ∨ (∃ p xs, y = .ref p ∧ SqL K H p xs)
def eqO (o : Option (List Wr)) (m : List Wr) : Bool := match o with
  | some m2 => decide (m2 = m)
  | none => false
def spCoEq (P : Program) (w : World) (K : PySem.W.Frag) (C : Addr) : Sp := fun vs H Q _ => ∃ (c : Addr) (m : List Wr) (n : Nat) (y : V) (o : Option (List Wr)), vs = [.ref c, y] ∧ CoAt P w K C H c m n ∧ GoodM m ∧ OthAt P w K C H y o ∧ ∀ H', Ex H H' → Q (.bl (eqO o m)) H'
def spCoLen (P : Program) (w : World) (K : PySem.W.Frag) (C : Addr) : Sp := fun vs H Q _ => ∃ (c : Addr) (m : List Wr) (n : Nat), vs = [.ref c] ∧ CoAt P w K C H c m n ∧ ∀ H', Ex H H' → Q (.int ((m.length : Nat) : Int)) H'
def spCoNames (P : Program) (w : World) (K : PySem.W.Frag) (C : Addr) : Sp := fun vs H Q _ => ∃ (c : Addr) (m : List Wr) (n : Nat), vs = [.ref c] ∧ CoAt P w K C H c m n ∧ m.length ≤ 3 ∧ ∀ p H', H p = none → Ex H H' → H' p = some (.lst ((m.map (·.1)).map V.str)) → Q (.ref p) H'
abbrev blank : Str := Str.ofString " "
def showC (m : List Wr) : Str := Str.ofString "Company(" ++ Str.ofString (toString ((m.length : Nat) : Int)) ++ Str.ofString " writers)"
def textC (m : List Wr) : Str := Txt.join blank (m.map wrT)
def spCoShow (P : Program) (w : World) (K : PySem.W.Frag) (C : Addr) : Sp := fun vs H Q _ => ∃ (c : Addr) (m : List Wr) (n : Nat), vs = [.ref c] ∧ CoAt P w K C H c m n ∧ GoodM m ∧ ∀ H', Ex H H' → Q (.str (showC m)) H'
def spCoText (P : Program) (w : World) (K : PySem.W.Frag) (C : Addr) : Sp := fun vs H Q _ => ∃ (c : Addr) (m : List Wr) (n : Nat), vs = [.ref c] ∧ CoAt P w K C H c m n ∧ GoodM m ∧ ∀ H', Ex H H' → Q (.str (textC m)) H'
theorem q_js06 {te : TE} {ts : List TE} {acc : Str} {σ : L2.St} {H : Hp} {Q : Str → Hp → Prop} {i : Int} (he : Ev te σ H (.int i)) (h1 : i.natAbs.log2 < 1920) (h2 : (acc ++ Str.ofString (toString i)).length ≤ sizeLine) (k : ∀ H1, Ex H H1 → tJs ts (acc ++ Str.ofString (toString i)) σ H1 Q) : tJs (tFmt te :: ts) acc σ H Q :=
  he H (.refl H) _ fun H1 e1 => .inr ⟨i, rfl, h1, _, rfl, h2, k H1 e1⟩
theorem el_ofN06 {K : PySem.W.Frag} {σ : L2.St} {H : Hp} {te : TE} {zs : List Str} (h : EvN K te σ H (zs.map PyData.str)) : Evl.EvL te σ H (zs.map V.str) := fun H1 e Q q => h H1 e _ fun p vs H2 np e2 hp hvs => q p H2 np e2 (by rw [← dps_str hvs]; exact hp)
theorem text_len06 {m : List Wr} (g : GoodM m) : ((m.map wrT).map (·.length)).sum + (m.map wrT).length * blank.length ≤ 16777216 := by
  have h3 := g.len
  have hl : blank.length = 1 := by decide +kernel
  have key : ∀ l : List Wr, (∀ x ∈ l, x ∈ m) → ((l.map wrT).map (·.length)).sum ≤ 60 * l.length := fun l => by
    induction l with
    | nil => intro _; exact Nat.zero_le _
    | cons x l ih =>
      intro h
      have h1 := ih fun y hy => h y (List.mem_cons_of_mem _ hy)
      have h2 : (wrT x).length ≤ 60 := wText_len (g.wr x (h x List.mem_cons_self))
      rw [List.map_cons, List.map_cons, List.sum_cons, List.length_cons]
      omega
  have := key m fun _ h => h
  rw [List.length_map, hl]
  omega
theorem text_of06 {K : PySem.W.Frag} {σ : L2.St} {H : Hp} {te : TE} {m : List Wr} (g : GoodM m) (h : EvN K te σ H ((m.map wrT).map PyData.str)) : Ev (tM1 (fun x xs H Q => ∃ a p, ∃ ys : List Str, x = .str a ∧ xs = [.ref p] ∧ (SqL K H p (ys.map V.str) ∨ SqT K H p (ys.map V.str)) ∧ (ys.map (·.length)).sum + ys.length * a.length ≤ 16777216 ∧ Q (.str (Txt.join a ys)) H) (tC (.str blank)) te) σ H (.str (textC m)) :=
  ev_join ev_c (el_ofN06 h) (text_len06 g)
section
variable {P : Program} {w : World} {K : PySem.W.Frag} {mg : Str → Option Value} {base : Heap}
theorem ok_colen {f C : Addr} {fd : FuncData} {k : Nat} (F : Fun K "__len__" "Company.__len__" sCompanyLen f fd) (T : Txt mg) (Z : CoC K C) : FnOk P w K mg base CX0 (k + 1) f fd ["self"] (spCoLen P w K C) := by
  refine F.ok sc_Company___len__ (fun vs H Q E h => ?_) (fun cdv A outer s H vs Q E hr h => ?_)
  · obtain ⟨c, m, n, rfl, _⟩ := h
    rfl
  · obtain ⟨c, m, n, rfl, ⟨dx, tw, d, kvs, hc, hw, _⟩, q⟩ := h
    refine ⟨_, (pss_one (ps_ret (pe_callB call_len (by rfl) T.m_len PySem.boot_len (pa_cons (pe_fld (pv 0) rfl) pa_nil)))), ?_⟩
    exact (ev_is (ev_lenD (K := K) (ds := m.map dW) (ed_of (ev_fld (ev_var (i := 0) (σ := [some (.ref c)]) rfl) hc Z.cl Z.nW (coF_w _ _)) hw) (.inr rfl)) (by rw [List.length_map])) H (.refl H) _ fun H1 e1 => q H1 e1
theorem ok_conames {f C : Addr} {fd : FuncData} {k : Nat} (F : Fun K "names" "Company.names" sCompanyNames f fd) (T : Txt mg) (Z : CoC K C) : FnOk P w K mg base CX0 (k + 1) f fd ["self"] (spCoNames P w K C) := by
  refine F.ok sc_Company_names (fun vs H Q E h => ?_) (fun cdv A outer s H vs Q E hr h => ?_)
  · obtain ⟨c, m, n, rfl, _⟩ := h
    rfl
  · obtain ⟨c, m, n, rfl, ⟨dx, tw, d, kvs, hc, hw, _⟩, l3, q⟩ := h
    refine ⟨_, (pss_one (ps_ret (pe_lc (own := [("writer", 1)]) (g := (gName 1)) (by rfl) sc_Company_names.nd (pi_tup (pe_fld (pv 0) rfl)) (blkOk_by (own := [("writer", 1)]) (N := ["self", "writer"]) (sc := defScope sCompanyNames) (by decide +kernel)) (fun _ _ _ _ _ => (pg_name (i := 1) sc_Company_names.nd rfl (Or.inl rfl))) (fun _ _ _ _ _ => pts_nil) (fun _ _ _ _ _ => (pe_ix (show IxR _ (rIxT K) from ix_tup) (pv 1) pe_int (fun _ _ => rfl)))))), ?_⟩
    have h := en_map (K := K) (H := H) (σ := [some (.ref c), none]) (g := gName 1) (vs := [1]) (te := tOp (rIxT K) (tVar 1) (tC (.int 0))) m dW (fun x => PyData.str x.1) (ei_tup (ed_of (ev_fld (ev_var (i := 0) rfl) hc Z.cl Z.nW (coF_w _ _)) hw)) (by omega) (fun x _ => by unfold fz; rfl) fun jj x H14 xv hx e14 hd R kk => kk [some (.ref c), some xv] rfl (ed_ixT (ds := [.str x.1, .tuple (x.2.1.map dA), .int x.2.2.1, .int x.2.2.2]) (ed_var (i := 1) rfl hd) ev_c (by decide) rfl)
    refine sd_retN (K := K) h fun p us H' np e hp hus => q p H' np e ?_
    have hus : DpAll K H' us ((m.map (·.1)).map PyData.str) := by
      rw [List.map_map]
      exact hus
    rw [← dps_str hus]
    exact hp
theorem ok_coshow {f C : Addr} {fd : FuncData} {k : Nat} (F : Fun K "__repr__" "Company.__repr__" sCompanyRepr f fd) (T : Txt mg) (Z : CoC K C) : FnOk P w K mg base CX0 (k + 1) f fd ["self"] (spCoShow P w K C) := by
  refine F.ok sc_Company___repr__ (fun vs H Q E h => ?_) (fun cdv A outer s H vs Q E hr h => ?_)
  · obtain ⟨c, m, n, rfl, _⟩ := h
    rfl
  · obtain ⟨c, m, n, rfl, ⟨dx, tw, d, kvs, hc, hw, _⟩, g, q⟩ := h
    refine ⟨_, (pss_one (ps_ret (pe_joined (PJ.cons pe_str (PJ.cons (pe_fmt (pe_callB call_len (by rfl) T.m_len PySem.boot_len (pa_cons (pe_fld (pv 0) rfl) pa_nil))) (PJ.cons pe_str PJ.nil)))))), ?_⟩
    have hn := num_ok (n := ((m.length : Nat) : Int)) (by have := g.len; omega)
    have l1 : (Str.empty ++ Str.ofString "Company(").length ≤ 100 := by decide +kernel
    have l2 : (Str.ofString " writers)").length ≤ 100 := by decide +kernel
    have e1 : ∀ x y : Str, (x ++ y).length = x.length + y.length := Str.length_append
    refine ⟨_, rfl, Nat.le_trans l1 (by rw [sizeLine_eq]; omega), ?_⟩
    refine q_js06 (ev_is (ev_lenD (K := K) (ds := m.map dW) (ed_of (ev_fld (ev_var (i := 0) (σ := [some (.ref c)]) rfl) hc Z.cl Z.nW (coF_w _ _)) hw) (.inr rfl)) (show _ = V.int ((m.length : Nat) : Int) by rw [List.length_map])) hn.1 (by rw [e1, sizeLine_eq]; omega) fun H1 e1' => ?_
    refine ⟨_, rfl, by rw [e1, e1, sizeLine_eq]; omega, ?_⟩
    have e : Str.empty ++ Str.ofString "Company(" ++ Str.ofString (toString ((m.length : Nat) : Int)) ++ Str.ofString " writers)" = showC m := by
      unfold showC
      rw [show Str.empty ++ Str.ofString "Company(" = Str.ofString "Company(" from by decide +kernel]
    rw [e]
    exact q H1 e1'
theorem ok_cotext {f C : Addr} {fd : FuncData} {k : Nat} (F : Fun K "__str__" "Company.__str__" sCompanyStr f fd) (T : Txt mg) (Z : CoC K C) (C_writer_text : Cal P w K mg base k "writer_text" ["writer"] (spP K RWT)) : FnOk P w K mg base CX0 (k + 1) f fd ["self"] (spCoText P w K C) := by
  refine F.ok sc_Company___str__ (fun vs H Q E h => ?_) (fun cdv A outer s H vs Q E hr h => ?_)
  · obtain ⟨c, m, n, rfl, _⟩ := h
    rfl
  · obtain ⟨c, m, n, rfl, ⟨dx, tw, d, kvs, hc, hw, _⟩, g, q⟩ := h
    refine ⟨_, (pss_one (ps_ret (pe_join pe_str (pe_lc (own := [("writer", 1)]) (g := (gName 1)) (by rfl) sc_Company___str__.nd (pi_tup (pe_fld (pv 0) rfl)) (blkOk_by (own := [("writer", 1)]) (N := ["self", "writer"]) (sc := defScope sCompanyStr) (by decide +kernel)) (fun _ _ _ _ _ => (pg_name (i := 1) sc_Company___str__.nd rfl (Or.inl rfl))) (fun _ _ _ _ _ => pts_nil) (fun _ _ _ _ _ => (pe_callC C_writer_text hr (by rfl) (pa_cons (pv 1) pa_nil))))))), ?_⟩
    refine s_ret (text_of06 (K := K) g (by
      have h := en_map (K := K) (H := H) (σ := [some (.ref c), none]) (g := gName 1) (vs := [1]) (te := tCall (spP K RWT) [] E0 (tCons (tVar 1) tNil)) m dW (fun x => PyData.str (wrT x)) (ei_tup (ed_of (ev_fld (ev_var (i := 0) rfl) hc Z.cl Z.nW (coF_w _ _)) hw)) (by have := g.len; omega) (fun x _ => by unfold fz; rfl) fun jj x H14 xv hx e14 hd R kk => kk [some (.ref c), some xv] rfl (ed_call (eds_cons (ed_var (i := 1) rfl hd) eds_nil) ⟨x, rfl, g.wr x (List.mem_of_getElem? hx), rfl⟩)
      rw [List.map_map]
      exact h)) fun H' e => q H' e
theorem eqv_ml06 (m m' : List Wr) : PyData.eqv (dMt m) (dMt m') = decide (m = m') := by
  unfold dMt
  simp only [PyData.eqv, eqv_map eqv_dW]
theorem mt_shaped06 {m : List Wr} (g : GoodM m) : SeqAt.shaped (dMt m) = true := by
  have h1 : PyData.canLayAll0 (m.map dW) = true := lay_map fun y hy => dW_lay (g.wr y hy)
  have h2 := depth_map (f := dW) (n := 8) (l := m) fun y _ => dW_depth y
  unfold SeqAt.shaped dMt
  rw [Bool.and_eq_true, decide_eq_true_eq]
  refine ⟨by simp only [PyData.canLay0]; exact h1, ?_⟩
  simp only [PyData.depth]
  omega
theorem oth_ty06 {C : Addr} {H : Hp} {y : V} {o : Option (List Wr)} (Z : CoC K C) (EF : EqF K C) (h : OthAt P w K C H y o) : ∃ t, TyX K H y t ∧ PySem.W.kitOne K t (.ref C) = some o.isSome ∧ PySem.W.notFirst K C t = true := by
  cases o with
  | some m =>
    obtain ⟨c, n, rfl, ⟨dx, tw, d, kvs, hc, _⟩, _⟩ := h
    refine ⟨.ref C, .base (.ins hc Z.cl EF.ha EF.hn EF.htk EF.hm), ?_, ?_⟩
    · unfold PySem.W.kitOne
      rw [if_pos (by simp)]
      rfl
    · unfold PySem.W.notFirst
      simp
  | none =>
    rcases h with rfl | ⟨i, rfl⟩ | ⟨z, rfl⟩ | ⟨p, xs, rfl, hs⟩
    · exact ⟨_, .base .non, EF.k0, EF.f0⟩
    · exact ⟨_, .base (.int i), EF.k1, EF.f1⟩
    · exact ⟨_, .base (.str z), EF.k2, EF.f2⟩
    · exact ⟨_, tyx_l hs, EF.k3, EF.f3⟩
theorem OthAt.same {C : Addr} {H H' : Hp} {y : V} {o : Option (List Wr)} (h : OthAt P w K C H y o) (e : Ex H H') : OthAt P w K C H' y o := by
  cases o with
  | some m =>
    obtain ⟨c, n, rfl, h1, g⟩ := h
    exact ⟨c, n, rfl, h1.fr (.of e), g⟩
  | none =>
    rcases h with rfl | ⟨i, rfl⟩ | ⟨z, rfl⟩ | ⟨p, xs, rfl, hs⟩
    · exact .inl rfl
    · exact .inr (.inl ⟨i, rfl⟩)
    · exact .inr (.inr (.inl ⟨z, rfl⟩))
    · exact .inr (.inr (.inr ⟨p, xs, rfl, ex_l e hs⟩))
theorem ok_coeq {f C : Addr} {fd : FuncData} {k : Nat} (F : Fun K "__eq__" "Company.__eq__" sCompanyEq f fd) (T : Txt mg) (Z : CoC K C) (EF : EqF K C) (m_Company : mg "Company" = some (.ref C)) : FnOk P w K mg base CX0 (k + 1) f fd ["self", "other"] (spCoEq P w K C) := by
  refine F.ok sc_Company___eq__ (fun vs H Q E h => ?_) (fun cdv A outer s H vs Q E hr h => ?_)
  · obtain ⟨c, m, n, y, o, rfl, _⟩ := h
    rfl
  · obtain ⟨c, m, n, y, o, rfl, hC, g, ho, q⟩ := h
    refine ⟨_, (pss_one (ps_ret (pe_and (pe_callB call_isi (by rfl) T.m_isinstance (by decide +kernel) (pa_cons (pv 1) (pa_cons (pe_glob (by rfl) m_Company (show RelV (.ref C) _ from rfl)) pa_nil))) (pe_one (pe_cmpR (show OpR _ _ (rEqD K) from op_eqD hr.units) (pe_fld (pv 0) rfl) (pe_fld (pv 1) rfl) (nomark _)))))), ?_⟩
    obtain ⟨dx, tw, d, kvs, hc, hw, _⟩ := id hC
    have isi : Ev (tCB (rIsi K) (tCons (tVar 1) (tCons (tC (.ref C)) tNil))) [some (.ref c), some y] H (.bl o.isSome) := fun H1 e Q q => by
      obtain ⟨t, h1, h2, _⟩ := oth_ty06 Z EF (ho.same e)
      exact ⟨y, rfl, y, .ref C, t, .ref C, o.isSome, rfl, .own C, h1, h2, q H1 (.refl H1)⟩
    have res : Ev _ [some (.ref c), some y] H (.bl (o.isSome && eqO o m)) := ev_andV (σ := [some (.ref c), some y]) (tb := tOp (rEqD K) (tFld K (tVar 0) "_writers") (tFld K (tVar 1) "_writers")) (a := o.isSome) (b := eqO o m) isi fun hb => by
      cases o with
      | none => cases hb
      | some m2 =>
        obtain ⟨c2, n2, rfl, ⟨dx2, tw2, d2, kvs2, hc2, hw2, _⟩, g2⟩ := ho
        refine ev_is (ev_eqD (K := K) (ed_of (ev_fld (ev_var (i := 0) rfl) hc Z.cl Z.nW (coF_w _ _)) hw) (ed_of (ev_fld (ev_var (i := 1) rfl) hc2 Z.cl Z.nW (coF_w _ _)) hw2) (mt_shaped06 g) (mt_shaped06 g2)) ?_
        rw [eqv_ml06]
        exact congrArg V.bl (decide_eq_decide.mpr eq_comm)
    have eb : (o.isSome && eqO o m) = eqO o m := by
      cases o with
      | none => rfl
      | some _ => rfl
    rw [eb] at res
    exact s_ret res fun H' e => q H' e
end
section
variable {Y : Cx} {k : Nat} {C : Addr} {x : Str} {ps : List Str} {dvs : List V} {sp : Sp} {p pos : Pos} {e : Expr} {es : List Expr} {t : TA} {A : Around} {outer : List Env} {s : Shared} {H : Hp} {E : XK} {sc : Scope} {f cd : Addr}
/-- C(e, ..) in a lambda -/
theorem pe_lamMk (c : MakN Y.prog Y.w Y.K Y.mg Y.base k x C ps dvs sp) (hr : Room (k + 1) (A.deeper (LamX.lamEnv Y sc s.heap.objs.size f cd))) (hg : Gl (L2N.askC Y A outer s H E sc f cd) x) (ha : PA (L2N.askC Y A outer s H E sc f cd) (e :: es) t) (hdb : (x == ("__debug__" : Str)) = false := by decide)
    (he : starEach (e :: es) (L2N.askC Y A outer s H E sc f cd).env = (false, eval e (L2N.askC Y A outer s H E sc f cd).env) :: starEach es (L2N.askC Y A outer s H E sc f cd).env := by rfl) (hpl : (backTo pos (starEach es (L2N.askC Y A outer s H E sc f cd).env)).any (·.1) = false := by rfl) :
    PE (L2N.askC Y A outer s H E sc f cd) (.Call (.Name x p) (e :: es) [] pos) (tMake C sp dvs E t) :=
  pe_makeCN (X := L2N.askC Y A outer s H E sc f cd) c hr (passA (Y := Y)) hg ha hdb he hpl
end
end Ink
namespace Ink
open PySem PySem.Spec PyProof.Rows L2
section
variable {P : Program} {w : World} {K : PySem.W.Frag} {mg : Str → Option Value} {base : Heap}
theorem ok_law_name {f : Addr} {fd : FuncData} {k : Nat} (F : Fun K "_law_is_name" "_law_is_name" sLIsName f fd) (T : Txt mg) (C__law_letters : Cal P w K mg base k "_law_letters" [] spLetters) : FnOk P w K mg base CX0 (k + 1) f fd ["_law_text"] spLawName := by
  refine F.ok sc__law_is_name (fun vs H Q E h => ?_) (fun cdv A outer s H vs Q E hr h => ?_)
  · obtain ⟨z, rfl, _⟩ := h
    rfl
  · obtain ⟨z, rfl, hz, q⟩ := h
    refine ⟨_, (pss_one (ps_ret (pe_and (pe_chain op_lt op_lt pe_int (pe_callB call_len_str (by rfl) T.m_len PySem.boot_len (pa_cons (pv 0) pa_nil)) pe_int) (pe_one (pe_callB (cr_all rfl) (by rfl) T.m_all (by decide +kernel) (pa_cons (pe_lc (own := [("_law_sign", 1)]) (g := (gName 1)) (by rfl) sc__law_is_name.nd (pi_str (pv 0)) (blkOk_by (own := [("_law_sign", 1)]) (N := ["_law_text", "_law_sign"]) (sc := defScope sLIsName) (by decide +kernel)) (fun _ _ _ _ _ => (pg_name (i := 1) sc__law_is_name.nd rfl (Or.inl rfl))) (fun _ _ _ _ _ => pts_nil) (fun _ _ _ _ _ => (pe_cmpR op_in_sign (pv 1) (pe_callC0 C__law_letters hr (by rfl)) (by rfl)))) pa_nil)))))), ?_⟩
    refine (Evl.ev_andV (ev_chainI (f := fun i j => decide (i < j)) (g := fun i j => decide (i < j)) Evl.ev_c (ev_lenS (Evl.ev_var rfl) (by omega)) Evl.ev_c) fun _ => ev_all (bs := z.cps.toList.map fun c => decide (c ∈ lets)) ?_) H (Same.refl H) _ fun H2 e2 => q H2 e2
    rw [← bls_eq]
    refine el_lcS _ (Evl.ev_var rfl) (by omega) (fun _ => rfl) (fun c H1 e1 _ H2 e2 Q2 q2 => ?_)
    exact ⟨_, rfl, rfl, fun H3 e3 => ⟨c, _, rfl, rfl, q2 H3 e3⟩⟩
end
end Ink
namespace Ink
open PySem PySem.Spec PyProof.Rows L2
def lawA (x : Arw) : Bool := (within x.1 2 && (within x.2.2 2 && decide (V.int (x.2.1.length : Nat) = V.int 1))) && lawName x.2.1
def lawWr (z : Str) (ar : List Arw) (p c : Int) : Bool := lawName z && (!decide ((9 : Int) < (ar.length : Nat)) && ((ar.map lawA).all id && (riseB ar && (within p 3 && within c 3))))
theorem lawA_eq (x : Arw) : okA x = lawA x := by
  unfold okA lawA
  rw [sign_eq]
  cases within x.1 2 <;> cases within x.2.2 2 <;> cases lawName x.2.1 <;> cases decide (V.int (x.2.1.length : Nat) = V.int 1) <;> rfl
theorem wr_eq (z : Str) (ar : List Arw) (p c : Int) : isWr z ar p c = lawWr z ar p c := by
  unfold isWr lawWr areArr
  rw [name_eq, show okA = lawA from funext lawA_eq]
  by_cases h : (9 : Int) < (ar.length : Nat)
  · rw [if_pos h, decide_eq_true h]
    cases lawName z <;> rfl
  · rw [if_neg h, decide_eq_false h]
    cases lawName z <;> cases (ar.map lawA).all id <;> rfl
theorem all_false {l : List Bool} {i : Nat} (h : l[i]? = some false) : l.all id = false := by
  cases e : l.all id with
  | false => rfl
  | true =>
    have := List.all_eq_true.mp e false (List.mem_of_getElem? h)
    cases this
theorem all_take {l : List Bool} {i : Nat} (h : (l.take i).all id = true) (hb : l[i]? = some true) : (l.take (i + 1)).all id = true := by
  rw [take_snoc hb, List.all_append, h]
  rfl
section
open Evl
theorem el_lcR {σ : L2.St} {H : Hp} {n : Int} {ta : TA} {te : TE} {j : Nat} {vs : List Nat} (f : Nat → V) (h : EvA ta σ H [.int n]) (hn : -40000 ≤ n ∧ n ≤ 40000) (hw : ∀ x, wipe ((wipe σ vs).set j (some x)) vs = wipe σ vs)
    (he : ∀ (i : Nat) H1, Ex H H1 → i < n.toNat → Ev te ((wipe σ vs).set j (some (.int (i : Int)))) H1 (f i)) : EvL (tLc (iRng1 ta) (gName j) tYes te vs) σ H ((List.range n.toNat).map f) := fun H0 e Q q => h H0 e _ fun H1 e1 => ⟨n, rfl, by omega, by omega, fun D nD =>
  lc_it walk_range0 (fun i H' => Ex H1 H' ∧ H' D = some (.lst ((List.range i).map f))) ⟨Ex.new nD, upd_same⟩ (fun _ _ _ _ => True.intro) (fun i v H2 H3 hi hP hy => by
    obtain ⟨rfl, rfl⟩ := hy
    obtain ⟨s2, e2⟩ := hP
    refine ⟨hw _, yes_of (iteT ?_)⟩
    refine he i H3 ((e.trans e1).trans s2) hi H3 (Ex.refl H3) _ fun H4 e4 => ⟨_, e4 _ _ e2, ?_, Ex.mut (s2.trans e4) nD, ?_⟩
    · rw [List.length_map, List.length_range]
      exact small_lt (by omega)
    · rw [upd_same, List.range_succ, List.map_append]
      rfl) (fun H' hP => q D H' (fresh_back e1 nD) (e1.trans hP.1) hP.2)⟩
end
/-- of any tuple, wherever it lies: of four things a text, arrows, two numbers -/
def spIsWS (K : PySem.W.Frag) (g : Str → List Arw → Int → Int → Bool) : Sp := fun vs H Q _ => ∃ (t : Addr) (xs : List V), vs = [.ref t] ∧ SqT K H t xs ∧ ((xs.length ≠ 4 ∧ ∀ H', Same H H' → Q (.bl false) H') ∨
  ∃ z tp ps ar p c, xs = [.str z, .ref tp, .int p, .int c] ∧ SqT K H tp (ps.map V.ref) ∧ ArsS K H ps ar ∧ ShortA ar ∧ z.length ≤ 1000 ∧ ∀ H', Same H H' → Q (.bl (g z ar p c)) H')
theorem ArsS.same6 {K : PySem.W.Frag} {H H' : Hp} {ps : List Addr} {ar : List Arw} (h : ArsS K H ps ar) (e : Same H H') : ArsS K H' ps ar := by
  unfold ArsS at h ⊢
  induction h with
  | nil => exact .nil
  | @cons p x ps ar r _ ih =>
    unfold ArwS at r
    exact .cons (Evl.ex_t e r) ih
section
variable {P : Program} {w : World} {K : PySem.W.Frag} {mg : Str → Option Value} {base : Heap}
theorem ok_law_writer {f : Addr} {fd : FuncData} {k : Nat} (F : Fun K "_law_is_writer" "_law_is_writer" sLIsWriter f fd) (T : Txt mg) (C__law_is_name : Cal P w K mg base k "_law_is_name" ["_law_text"] spLawName) :
    FnOk P w K mg base CX0 (k + 1) f fd ["_law_thing"] (spIsWS K lawWr) := by
  refine F.ok sc__law_is_writer (fun vs H Q E h => ?_) (fun cdv A outer s H vs Q E hr h => ?_)
  · obtain ⟨t, xs, rfl, _⟩ := h
    rfl
  · obtain ⟨t, xs, rfl, ht, h⟩ := h
    refine ⟨_, (pss_cons (ps_if (PW.pt (pw_or (pt_cmpR op_ne (pe_callB call_len (by rfl) T.m_len PySem.boot_len (pa_cons (pv 0) pa_nil)) pe_int (nomark _)) (pw_or (pt_not (pt_val (pe_callC C__law_is_name hr (by rfl) (pa_cons (pe_ix ix_tup (pv 0) pe_int (fun _ _ => rfl)) pa_nil)))) (pw_or1 (pt_cmpR op_gt (pe_callB call_len (by rfl) T.m_len PySem.boot_len (pa_cons (pe_ix ix_tup (pv 0) pe_int (fun _ _ => rfl)) pa_nil)) pe_int (nomark _))))))
    (pss_one (ps_ret pe_bl)) pss_nil)
    (pss_cons (ps_for PassesOwn.never rfl (pi_tup (pe_ix ix_tup (pv 0) pe_int (fun _ _ => rfl))) (pg_tup rfl (pgs_cons (pg_name (i := 1) sc__law_is_writer.nd rfl (.inl rfl)) (pgs_cons (pg_name (i := 2) sc__law_is_writer.nd rfl (.inl rfl)) (pgs_cons (pg_name (i := 3) sc__law_is_writer.nd rfl (.inl rfl)) pgs_nil))))
    (pss_cons (ps_set (i := 4) sc__law_is_writer.nd rfl (.inl rfl) (pe_and (pe_chain op_le op_le pe_int (pv 1) pe_int) (pe_and (pe_chain op_le op_le pe_int (pv 3) pe_int) (pe_one (pe_cmpR op_eq (pe_callB call_len_str (by rfl) T.m_len PySem.boot_len (pa_cons (pv 2) pa_nil)) pe_int (nomark _))))))
    (pss_one (ps_if (PW.pt (pw_or (pt_not (pt_val (pv 4))) (pw_or1 (pt_not (pt_val (pe_callC C__law_is_name hr (by rfl) (pa_cons (pv 2) pa_nil)))))))
    (pss_one (ps_ret pe_bl)) pss_nil))))
    (pss_cons (ps_set (i := 5) sc__law_is_writer.nd rfl (.inr rfl) (pe_lc (own := [("_law_arrow", 7)]) (g := (gName 7)) (by rfl) sc__law_is_writer.nd (pi_tup (pe_ix ix_tup (pv 0) pe_int (fun _ _ => rfl))) (blkOk_by (own := [("_law_arrow", 7)]) (N := ["_law_thing", "_law_place", "_law_sign", "_law_to", "_law_good", "_law_keys", "_law_rising", "_law_arrow", "_law_k"]) (sc := defScope sLIsWriter) (by decide +kernel)) (fun _ _ _ _ _ => (pg_name (i := 7) sc__law_is_writer.nd rfl (Or.inl rfl))) (fun _ _ _ _ _ => pts_nil) (fun _ _ _ _ _ => (pe_slice (show SlR _ (rSlA K) from sl_tupA) (pv 7) po_none (po_some pe_int)))))
    (pss_cons (ps_set (i := 6) sc__law_is_writer.nd rfl (.inl rfl) (pe_callB (cr_all rfl) (by rfl) T.m_all (by decide +kernel) (pa_cons (pe_lc (own := [("_law_k", 8)]) (g := (gName 8)) (by rfl) sc__law_is_writer.nd (pi_range1 (by rfl) T.m_range (pa_cons (pe_op op_sub (pe_callB call_len (by rfl) T.m_len PySem.boot_len (pa_cons (pv 5) pa_nil)) pe_int) pa_nil)) (blkOk_by (own := [("_law_k", 8)]) (N := ["_law_thing", "_law_place", "_law_sign", "_law_to", "_law_good", "_law_keys", "_law_rising", "_law_arrow", "_law_k"]) (sc := defScope sLIsWriter) (by decide +kernel)) (fun _ _ _ _ _ => (pg_name (i := 8) sc__law_is_writer.nd rfl (Or.inl rfl))) (fun _ _ _ _ _ => pts_nil) (fun _ _ _ _ _ => (pe_cmpR (show OpR _ _ (rLtIS K) from op_ltIS hr.units0) (pe_ix (show IxR _ (rIxL K) from ix_list) (pv 5) (pv 8) (fun _ _ => rfl)) (pe_ix (show IxR _ (rIxL K) from ix_list) (pv 5) (pe_op op_add (pv 8) pe_int) (fun _ _ => rfl)) (nomark _)))) pa_nil)))
    (pss_one (ps_ret (pe_and (pv 6) (pe_and (pe_chain op_le op_le pe_int (pe_ix ix_tup (pv 0) pe_int (fun _ _ => rfl)) pe_int) (pe_one (pe_chain op_le op_le pe_int (pe_ix ix_tup (pv 0) pe_int (fun _ _ => rfl)) pe_int)))))))))), ?_⟩
    refine ⟨.ref t, rfl, .ref t, _, rfl, .inr ⟨_, ht, rfl⟩, rfl, _, rfl, ?_⟩
    rcases h with ⟨hne, q⟩ | ⟨z, tp, ps, ar, p, c, rfl, htp, hps, hsh, hz, q⟩
    · rw [decide_eq_false (show ¬ V.int ((xs.length : Nat) : Int) = V.int 4 from fun e => hne (by injection e with e; omega))]
      exact iteT (iteT (q H (Same.refl H)))
    · have elen : ps.length = ar.length := Paired.length hps
      refine iteNS rfl ?_
      -- not is_name(thing[0])
      refine ⟨.ref t, rfl, t, _, 0, _, rfl, rfl, ht, rfl, z, rfl, hz, fun H1 s1 => ⟨lawName z, rfl, ?_⟩⟩
      have fall : ∀ H', Same H H' → lawWr z ar p c = false → Q (.bl false) H' := fun H' s' e => by
        have h := q H' s'
        rw [e] at h
        exact h
      cases hn : lawName z with
      | false => exact iteT (iteT (fall H1 s1 (by unfold lawWr; rw [hn]; rfl)))
      | true =>
      refine iteF ?_
      have ht1 := Evl.ex_t s1 ht
      have htp1 := Evl.ex_t s1 htp
      have hps1 := hps.same6 s1
      refine ⟨.ref t, rfl, t, _, 1, _, rfl, rfl, ht1, rfl, .ref tp, _, rfl, .inr ⟨_, htp1, rfl⟩, _, _, rfl, rfl, _, rfl, ite2 (fun e => ?_) (fun e => ?_)⟩
      · have e : (9 : Int) < (((ps.map V.ref).length : Nat) : Int) := of_decide_eq_true e
        rw [List.length_map, elen] at e
        exact fall H1 s1 (by unfold lawWr; rw [hn, decide_eq_true e]; rfl)
      · have e : ¬ (9 : Int) < (((ps.map V.ref).length : Nat) : Int) := fun h => e (decide_eq_true h)
        rw [List.length_map, elen] at e
        refine go_next ?_
        dsimp only
        have fall2 : ∀ H' i, Same H1 H' → (ar.map lawA)[i]? = some false → Q (.bl false) H' := fun H' i s' h => fall H' (s1.trans s') (by
          unfold lawWr
          rw [all_false h, hn, decide_eq_false e]
          rfl)
        -- the loop over the arrows
        refine ⟨.ref t, rfl, t, _, 1, _, rfl, rfl, ht1, rfl, tp, rfl, ⟨_, htp1⟩, for_it (walk_tup (xs := ps.map V.ref)) (fun i σ H' => (∃ y1 y2 y3 y4, σ = [some (.ref t), y1, y2, y3, y4, none, none, none, none]) ∧ Same H1 H' ∧ ((ar.map lawA).take i).all id = true) ⟨⟨none, none, none, none, rfl⟩, Same.refl H1, rfl⟩ (fun i σ H' _ hP => Evl.ex_t hP.2.1 htp1) (fun i v σ H2 H3 hi hP hy => ?_) (fun σ H2 hP => ?_)⟩
        · obtain ⟨⟨y1, y2, y3, y4, rfl⟩, s2, hall⟩ := hP
          obtain ⟨rfl, hv⟩ := hy
          obtain ⟨p', hp, rfl⟩ := refs_at hv
          obtain ⟨x, hx, hpx⟩ := hps1.get hp
          have hsx := hsh.2 x (List.mem_of_getElem? hx)
          have hla : (ar.map lawA)[i]? = some (lawA x) := by
            rw [List.getElem?_map, hx]
            rfl
          refine ⟨p', _, rfl, Evl.ex_t s2 hpx, rfl, _, _, rfl, _, _, rfl, _, _, rfl, rfl, ?_⟩
          refine Evl.q_asg (v := .bl (within x.1 2 && (within x.2.2 2 && decide (V.int (x.2.1.length : Nat) = V.int 1)))) (Evl.ev_andV (ev_chainI (f := fun i j => decide (i ≤ j)) (g := fun i j => decide (i ≤ j)) Evl.ev_c (Evl.ev_var (by rfl)) Evl.ev_c) fun _ => Evl.ev_andV (ev_chainI (f := fun i j => decide (i ≤ j)) (g := fun i j => decide (i ≤ j)) Evl.ev_c (Evl.ev_var (by rfl)) Evl.ev_c) fun _ =>
            Evl.ev_op (ev_lenS (Evl.ev_var (by rfl)) (by omega)) Evl.ev_c (Evl.rv_eq rfl)) fun H4 s4 => ?_
          refine ⟨_, rfl, _, rfl, ?_⟩
          have s24 : Same H1 H4 := Same.trans s2 s4
          cases hg : (within x.1 2 && (within x.2.2 2 && decide (V.int (x.2.1.length : Nat) = V.int 1))) with
          | false => exact iteT (iteT (fall2 H4 i s24 (by rw [hla]; unfold lawA; rw [hg]; rfl)))
          | true =>
          refine iteF ⟨_, rfl, x.2.1, rfl, hsx, fun H5 s5 => ⟨_, rfl, ?_⟩⟩
          cases hg2 : lawName x.2.1 with
          | false => exact iteT (fall2 H5 i (s24.trans s5) (by rw [hla]; unfold lawA; rw [hg, hg2]; rfl))
          | true => exact iteF ⟨⟨_, _, _, _, rfl⟩, s24.trans s5, all_take hall (by rw [hla]; unfold lawA; rw [hg, hg2]; rfl)⟩
        · obtain ⟨⟨y1, y2, y3, y4, rfl⟩, s2, hall⟩ := hP
          rw [List.take_of_length_le (by rw [List.length_map, List.length_map, elen]; exact Nat.le_refl _)] at hall
          have ht2 := Evl.ex_t s2 ht1
          have htp2 := Evl.ex_t s2 htp1
          have hps2 := hps1.same6 s2
          -- keys
          refine ⟨.ref t, rfl, t, _, 1, _, rfl, rfl, ht2, rfl, tp, rfl, ⟨_, htp2⟩, fun D nD => ?_⟩
          refine lc_it (walk_tup (xs := ps.map V.ref)) (fun i H' => Same H2 H' ∧ ∃ qs : List Addr, H' D = some (.lst (qs.map V.ref)) ∧ qs.length = i ∧ ∀ j p, qs[j]? = some p → ∃ x : Arw, ar[j]? = some x ∧ H' p = some (.tup [.int x.1, .str x.2.1])) ⟨same_new nD, [], upd_same, rfl, fun j p h => by rw [List.getElem?_nil] at h; cases h⟩ (fun i H' _ hP => Evl.ex_t hP.1 htp2) (fun i v H3 H4 hi hP hy => ?_) (fun H3 hP => ?_)
          · obtain ⟨rfl, hv⟩ := hy
            obtain ⟨s3, qs, eD, rfl, hq2⟩ := hP
            obtain ⟨p, hp, rfl⟩ := refs_at hv
            obtain ⟨x, hx, hpx⟩ := hps2.get hp
            refine ⟨rfl, yes_of (iteT ?_)⟩
            refine ⟨.ref p, rfl, 2, rfl, p, _, rfl, Evl.ex_t s3 hpx, fun h => absurd h.2 (by show ¬ (2 : Nat) = 3; decide), fun _ p' np' => ⟨_, same_new np' _ _ eD, ?_, same_mut (s3.trans (same_new np')) nD, qs ++ [p'], ?_, ?_, fun j p2 hj => ?_⟩⟩
            · rw [List.length_map]
              rw [List.length_map, elen] at hi
              have := hsh.1
              exact small_lt (by omega)
            · rw [upd_same, List.map_append]
              rfl
            · rw [List.length_append]
              rfl
            · have nDp : ∀ p3 xs', H4 p3 = some (.tup xs') → p3 ≠ D := fun p3 xs' h3 => ne_of h3 eD (by intro z; cases z)
              by_cases hjl : j < qs.length
              · rw [List.getElem?_append_left hjl] at hj
                obtain ⟨y, hy1, hy2⟩ := hq2 j p2 hj
                exact ⟨y, hy1, by rw [upd_ne (nDp _ _ hy2)]; exact same_new np' _ _ hy2⟩
              · have hlt := (List.getElem?_eq_some_iff.mp hj).1
                rw [List.length_append, List.length_singleton] at hlt
                have ej : j = qs.length := by omega
                subst ej
                rw [List.getElem?_append_right (Nat.le_refl _), Nat.sub_self] at hj
                have hj := Option.some.inj hj
                subst hj
                exact ⟨x, hx, by rw [upd_ne (ne_of_none eD np').symm, upd_same]; rfl⟩
          · obtain ⟨s3, qs, eD, eq, hq2⟩ := hP
            rw [List.length_map, elen] at eq
            have nn : (((qs.map V.ref).length : Nat) : Int) - 1 ≤ 40000 := by
              rw [List.length_map]
              have := hsh.1
              omega
            refine g_go ?_
            dsimp only
            refine Evl.q_asg (v := .bl (riseB ar)) (ev_all (bs := (List.range (ar.length - 1)).map (ltAt ar)) ?_) fun H4 s4 => ?_
            · rw [← bls_eq, show ar.length - 1 = ((((qs.map V.ref).length : Nat) : Int) - 1).toNat by rw [List.length_map]; omega]
              refine el_lcR _ (Evl.ea_cons (Evl.ev_op (ev_lenL (Evl.ev_var (by rfl)) (.of eD)) Evl.ev_c Evl.rv_I0) Evl.ea_nil) ⟨by omega, nn⟩ (fun _ => rfl) (fun i H5 s5 hi => ?_)
              rw [List.length_map] at hi
              obtain ⟨p1, hp1⟩ : ∃ p1, qs[i]? = some p1 := ⟨qs[i]'(by omega), List.getElem?_eq_getElem (by omega)⟩
              obtain ⟨p2, hp2⟩ : ∃ p2, qs[i + 1]? = some p2 := ⟨qs[i + 1]'(by omega), List.getElem?_eq_getElem (by omega)⟩
              obtain ⟨x1, hx1, hx2⟩ := hq2 _ _ hp1
              obtain ⟨y1, hy1, hy2⟩ := hq2 _ _ hp2
              have e5 : ltIS x1.1 x1.2.1 y1.1 y1.2.1 = ltAt ar i := by
                unfold ltAt
                rw [hx1, hy1]
              rw [← e5]
              refine Evl.ev_op (ev_ixL (v := .ref p1) (Evl.ev_var (by rfl)) (Evl.ev_var (by rfl)) (.of (s5 _ _ eD)) (by omega) (by rw [Int.toNat_natCast, List.getElem?_map, hp1]; rfl)) (ev_ixL (v := .ref p2) (Evl.ev_var (by rfl)) (Evl.ev_op (Evl.ev_var (by rfl)) Evl.ev_c Evl.rv_I0) (.of (s5 _ _ eD)) (by omega) (by
                rw [show ((i : Int) + 1).toNat = i + 1 by omega, List.getElem?_map, hp2]; rfl)) (fun H6 s6 Q6 q6 => ⟨p1, p2, _, _, _, _, rfl, rfl, .of (s6 _ _ (s5 _ _ hx2)), .of (s6 _ _ (s5 _ _ hy2)), q6 H6 (Evl.Ex.refl H6)⟩)
            · have s14 : Same H1 H4 := Same.trans s2 (Same.trans s3 s4)
              have ht4 := Evl.ex_t s14 ht1
              refine Evl.s_ret (v := .bl (riseB ar && (within p 3 && within c 3))) (Evl.ev_andV (Evl.ev_var (by rfl)) fun _ => Evl.ev_andV (ev_chainI (f := fun i j => decide (i ≤ j)) (g := fun i j => decide (i ≤ j)) Evl.ev_c (ev_ixT (Evl.ev_var (by rfl)) Evl.ev_c ht4 (by decide) rfl) Evl.ev_c) fun _ =>
                ev_chainI (f := fun i j => decide (i ≤ j)) (g := fun i j => decide (i ≤ j)) Evl.ev_c (ev_ixT (Evl.ev_var (by rfl)) Evl.ev_c ht4 (by decide) rfl) Evl.ev_c) fun H5 s5 => ?_
              have h := q H5 (Same.trans s1 (Same.trans s14 s5))
              unfold lawWr at h
              rw [hn, hall, decide_eq_false e] at h
              exact h
open Evl in
theorem ok_lwriterT {f : Addr} {fd : FuncData} {k : Nat} (F : FnOk P w K mg base CX0 k f fd ["_law_thing"] (spIsWS K lawWr)) : FnOk P w K mg base CX0 k f fd ["_law_thing"] (spP K RIsT) := F.imp fun vs H Q E h => by
  obtain ⟨ds, d, hd, ⟨t, ft, rfl, rfl⟩, q⟩ := h
  obtain ⟨v0, rfl, h0⟩ := dps1 hd
  cases t with
  | o xs =>
    obtain ⟨p, ys, rfl, hs, hys⟩ := dp_tup (show Dp K H v0 (.tuple xs) from h0)
    have := (ft.o xs rfl).1
    exact ⟨p, ys, rfl, hs, .inl ⟨by rw [hys.length]; exact this, fun H' s => q _ H' s (.bl false)⟩⟩
  | w x =>
    obtain ⟨hsh, hz, _⟩ := ft.w x rfl
    obtain ⟨W, rfl, tp, ps, hs, ht, ha⟩ := wr_sq (show Dp K H v0 (dW (x.1, x.2.1, x.2.2.1, x.2.2.2)) from h0)
    exact ⟨W, _, rfl, hs, .inr ⟨x.1, tp, ps, x.2.1, x.2.2.1, x.2.2.2, rfl, ht, ha, hsh, hz, fun H' s => q _ H' s (by rw [← wr_eq]; exact .bl _)⟩⟩
end
end Ink
namespace Ink
open PySem PySem.Spec PyProof.Rows L2 Evl
/-! ### crews that may be companies or not -/
theorem name_of06 {z : Str} (h : isName z = true) : NameZ z := by
  rw [name_eq] at h
  unfold lawName at h
  rw [Bool.and_eq_true, Bool.and_eq_true, decide_eq_true_eq, decide_eq_true_eq, List.all_map, List.all_eq_true] at h
  obtain ⟨⟨h1, h2⟩, h3⟩ := h
  exact ⟨by omega, by omega, fun c hc => of_decide_eq_true (h3 c hc)⟩
structure CrT (t : Thg) : Prop where
  fine : FineT t
  lay : (dT t).canLay0 = true
  dep : (dT t).depth ≤ 10
  nm : ∃ z ds, dT t = .tuple (.str z :: ds) ∧ z.length ≤ 10 ∧ PyData.strOk z = true
theorem fz_dT {t : Thg} (h : FineT t) : fz (dT t) = true := by
  cases t with
  | w x => exact fz_dW x
  | o xs =>
    show fz (PyData.tuple xs) = true
    unfold fz
    exact (h.o xs rfl).2
theorem crT_good {x : Wr} (g : GoodW x.1 x.2.1 x.2.2.1 x.2.2.2) : CrT (.w x) := by
  refine ⟨⟨fun y e => ?_, fun _ e => (by cases e)⟩, dW_lay g, Nat.le_trans (dW_depth x) (by decide), x.1, _, rfl, by have := g.name.2.1; omega, str_ok g.name.2.2⟩
  cases e
  exact ⟨g.short, by have := g.name.2.1; omega, fun _ => g⟩
theorem crT_new {z : Str} {p c : Int} (hz : z.length ≤ 10) (ho : PyData.strOk z = true) (hp : 0 ≤ p ∧ p ≤ 3) (hc : 0 ≤ c ∧ c ≤ 3) : CrT (.w (z, [], p, c)) := by
  refine ⟨⟨fun y e => ?_, fun _ e => (by cases e)⟩, ?_, ?_, z, _, rfl, hz, ho⟩
  · cases e
    refine ⟨⟨by show 0 ≤ 1000; decide, fun _ h => nomatch h⟩, by show z.length ≤ 1000; omega, fun h => ?_⟩
    unfold isWr at h
    rw [Bool.and_eq_true] at h
    exact ⟨name_of06 h.1, (by show 0 ≤ 9; decide), fun _ h => (nomatch h), .nil, hp.1, hp.2, hc.1, hc.2⟩
  · show (PyData.tuple [.str z, .tuple [], .int p, .int c]).canLay0 = true
    simp only [PyData.canLay0, PyData.canLayAll0, ho, Bool.and_self]
  · show (PyData.tuple [.str z, .tuple [], .int p, .int c]).depth ≤ 10
    simp only [PyData.depth, PyData.depthAll]
    decide
def someX : List Thg := [.w ("Odd", [], 0, 0), .w ("x", [], 4, 0), .w ("x", [(0, "b", 0), (0, "a", 0)], 0, 0), .o [.str "x", .tuple [], .int 0]]
theorem some_crT : ∀ t ∈ someX, CrT t := fun t ht => by
  simp only [someX, List.mem_cons, List.not_mem_nil, or_false] at ht
  have n1 : isWr "Odd" [] 0 0 = false := by decide +kernel
  have n2 : isWr "x" [] 4 0 = false := by decide +kernel
  have n3 : isWr "x" [(0, "b", 0), (0, "a", 0)] 0 0 = false := by decide +kernel
  rcases ht with rfl | rfl | rfl | rfl
  · refine ⟨⟨fun y e => ?_, fun _ e => (by cases e)⟩, by decide +kernel, by decide +kernel, _, _, rfl, by decide +kernel, by decide +kernel⟩
    cases e
    exact ⟨⟨by decide, fun _ h => nomatch h⟩, by decide +kernel, fun h => by rw [n1] at h; cases h⟩
  · refine ⟨⟨fun y e => ?_, fun _ e => (by cases e)⟩, by decide +kernel, by decide +kernel, _, _, rfl, by decide +kernel, by decide +kernel⟩
    cases e
    exact ⟨⟨by decide, fun _ h => nomatch h⟩, by decide +kernel, fun h => by rw [n2] at h; cases h⟩
  · refine ⟨⟨fun y e => ?_, fun _ e => (by cases e)⟩, by decide +kernel, by decide +kernel, _, _, rfl, by decide +kernel, by decide +kernel⟩
    cases e
    exact ⟨⟨by decide, by decide +kernel⟩, by decide +kernel, fun h => by rw [n3] at h; cases h⟩
  · refine ⟨⟨fun _ e => (by cases e), fun y e => ?_⟩, by decide +kernel, by decide +kernel, _, _, rfl, by decide +kernel, by decide +kernel⟩
    cases e
    exact ⟨by decide, by decide +kernel⟩
/-- a crew's list, apart from the bag -/
def CrAt (K : PySem.W.Frag) (a : Addr) (H : Hp) (p : Addr) (ts : List Thg) : Prop := p ≠ a ∧ ∃ us, H p = some (.lst us) ∧ DpAll K H us (ts.map dT)
theorem fz_crew06 {ts : List Thg} (g : ∀ t ∈ ts, CrT t) : fzAll (ts.map dT) = true := fz_map fun t ht => fz_dT (g t ht).fine
section
variable {K : PySem.W.Frag} {a l p : Addr} {H H' : Hp} {ts : List Thg}
theorem CrAt.same (h : CrAt K a H p ts) (e : Ex H H') : CrAt K a H' p ts := by
  obtain ⟨n, us, h1, h2⟩ := h
  exact ⟨n, us, e _ _ h1, dps_same e h2⟩
theorem CrAt.keep (h : CrAt K a H p ts) (g : ∀ t ∈ ts, CrT t) (b : BagAt H a l) (k : Keep a H H') : CrAt K a H' p ts := by
  obtain ⟨n, us, h1, h2⟩ := h
  exact ⟨n, us, k _ _ n h1, dps_keep b k (fz_crew06 g) h2⟩
theorem CrAt.dp (h : CrAt K a H p ts) : Dp K H (.ref p) (.list (ts.map dT)) := by
  obtain ⟨n, us, h1, h2⟩ := h
  exact .lst (.of h1) h2
end
theorem crew_shaped06 {ts : List Thg} (g : ∀ t ∈ ts, CrT t) : SeqAt.shaped (.list (ts.map dT)) = true := by
  have h1 : PyData.canLayAll0 (ts.map dT) = true := lay_map fun y hy => (g y hy).lay
  have h2 := depth_map (f := dT) (n := 10) (l := ts) fun y hy => (g y hy).dep
  unfold SeqAt.shaped
  rw [Bool.and_eq_true, decide_eq_true_eq]
  refine ⟨by simp only [PyData.canLay0]; exact h1, ?_⟩
  simp only [PyData.depth]
  omega
theorem ints_shaped06 (ns : List Int) : SeqAt.shaped (.list (ns.map PyData.int)) = true := by
  have h1 : PyData.canLayAll0 (ns.map PyData.int) = true := lay_map fun x _ => by simp only [PyData.canLay0]
  have h2 := depth_map (f := PyData.int) (n := 1) (l := ns) fun x _ => by simp only [PyData.depth]; omega
  unfold SeqAt.shaped
  rw [Bool.and_eq_true, decide_eq_true_eq]
  refine ⟨by simp only [PyData.canLay0]; exact h1, ?_⟩
  simp only [PyData.depth]
  omega
theorem strs_shaped06 {zs : List Str} (h : ∀ z ∈ zs, PyData.strOk z = true) : SeqAt.shaped (.list (zs.map PyData.str)) = true := by
  have h1 : PyData.canLayAll0 (zs.map PyData.str) = true := lay_map fun x hx => by simp only [PyData.canLay0]; exact h x hx
  have h2 := depth_map (f := PyData.str) (n := 1) (l := zs) fun x _ => by simp only [PyData.depth]; omega
  unfold SeqAt.shaped
  rw [Bool.and_eq_true, decide_eq_true_eq]
  refine ⟨by simp only [PyData.canLay0]; exact h1, ?_⟩
  simp only [PyData.depth]
  omega
theorem shaped_nil06 : SeqAt.shaped (.list []) = true := by decide +kernel
theorem q_lst06 {te : TE} {σ : L2.St} {H : Hp} {Q : VK} (h : te σ H fun v H1 => [v].length ≤ sizeLine ∧ ∀ p, H1 p = none → Q (.ref p) (upd H1 p (.lst [v]))) : tLst (tCons te tNil) σ H Q := h
theorem q_op06 {r : R2} {ta tb : TE} {σ : L2.St} {H : Hp} {Q : VK} (h : ta σ H fun v H1 => tb σ H1 fun u H2 => r v u H2 Q) : tOp r ta tb σ H Q := h
theorem q_ret06 {te : TE} {D : Ends} {σ : L2.St} {H : Hp} (h : te σ H D.rt) : tRet te D σ H := h
theorem q_tup06 {t1 t2 t3 t4 : TE} {σ : L2.St} {H : Hp} {Q : VK} (h : t1 σ H fun v1 H1 => t2 σ H1 fun v2 H2 => t3 σ H2 fun v3 H3 => t4 σ H3 fun v4 H4 => [v1, v2, v3, v4].length ≤ sizeLine ∧ ∀ p, H4 p = none → Q (.ref p) (upd H4 p (.tup [v1, v2, v3, v4]))) : tTup (tCons t1 (tCons t2 (tCons t3 (tCons t4 tNil)))) σ H Q := h
theorem use_n06 {K : PySem.W.Frag} {te : TE} {σ : L2.St} {H : Hp} {ds : List PyData} {Q : VK} (h : EvN K te σ H ds) (q : ∀ p us H', H p = none → Ex H H' → H' p = some (.lst us) → DpAll K H' us ds → Q (.ref p) H') : te σ H Q := h H (.refl H) _ fun p us H' n e h1 h2 => q p us H' n e h1 h2
/-- crew[:at] + [x] + crew[at:] -/
theorem q_bent06 {K : PySem.W.Frag} {a l p : Addr} {H : Hp} {ts : List Thg} {j : Nat} {te : TE} {σ : L2.St} {Q : VK} (hs1 : σ[1]? = some (some (.ref p))) (hs2 : σ[2]? = some (some (.int (j : Int)))) (hB : BagAt H a l) (hc : CrAt K a H p ts) (g : ∀ t ∈ ts, CrT t) (hl : ts.length ≤ 50) (hj : j ≤ ts.length)
    (hx : ∀ H1, Ex H H1 → BagAt H1 a l → CrAt K a H1 p ts → ∀ Q' : VK, (∀ v t H2, CrT t → Dp K H2 v (dT t) → BagAt H2 a l → Keep a H1 H2 → Q' v H2) → te σ H1 Q')
    (q : ∀ p' ts' H', CrAt K a H' p' ts' → (∀ t ∈ ts', CrT t) → ts'.length ≤ ts.length + 1 → BagAt H' a l → Keep a H H' → Q (.ref p') H') :
    tOp (rCatL K) (tOp (rCatL K) (tSl (rSlL K) (tVar 1) tNoPart (tPart (tVar 2))) (tLst (tCons te tNil))) (tSl (rSlL K) (tVar 1) (tPart (tVar 2)) tNoPart) σ H Q := by
  refine q_op06 (q_op06 ?_)
  refine use_n06 (en_slToL (K := K) (k := j) (ed_var hs1 hc.dp) (ev_var hs2)) fun p1 us1 H1 n1 e1 hp1 hus1 => ?_
  have p1a : p1 ≠ a := (hB.ne n1).1.symm
  have f1 : fzAll ((ts.map dT).take j) = true := by
    rw [← List.map_take]
    exact fz_crew06 fun t ht => g t (List.mem_of_mem_take ht)
  refine q_lst06 (hx H1 e1 (hB.same e1) (hc.same e1) _ fun v t H2 ct hv hB2 k2 => ⟨by show 1 ≤ sizeLine; decide, fun p2 n2 => ?_⟩)
  have hp1 := k2 _ _ p1a hp1
  have hus1 := dps_keep (hB.same e1) k2 f1 hus1
  have hc2 := (hc.same e1).keep g (hB.same e1) k2
  have e3 := Ex.new (o := .lst [v]) n2
  have hp2 : (upd H2 p2 (.lst [v])) p2 = some (.lst [v]) := upd_same
  have hp1 := e3 _ _ hp1
  have hus1 := dps_same e3 hus1
  have hc3 := hc2.same e3
  have hv := dp_same e3 hv
  have hB3 := hB2.same e3
  have k3 : Keep a H (upd H2 p2 (.lst [v])) := ((Keep.of_same e1).trans k2).trans (.of_same e3)
  generalize upd H2 p2 (.lst [v]) = H3 at *
  have l1 := hus1.length
  rw [List.length_take, List.length_map] at l1
  refine ⟨p1, p2, us1, [v], rfl, rfl, .of hp1, .of hp2, sz_of (by show us1.length + 1 ≤ 100000; omega), fun p3 n3 => ?_⟩
  have e4 := Ex.new (o := .lst (us1 ++ [v])) n3
  have hp3 : (upd H3 p3 (.lst (us1 ++ [v]))) p3 = some (.lst (us1 ++ [v])) := upd_same
  refine use_n06 (en_slFromL (K := K) (k := j) (ed_var hs1 (hc3.same e4).dp) (ev_var hs2)) fun p4 us4 H5 n4 e5 hp4 hus4 => ?_
  have l4 := hus4.length
  rw [List.length_drop, List.length_map] at l4
  refine ⟨p3, p4, us1 ++ [v], us4, rfl, rfl, .of (e5 _ _ hp3), .of hp4, sz_of (by rw [List.length_append]; show us1.length + 1 + us4.length ≤ 100000; omega), fun p5 n5 => ?_⟩
  have e6 := Ex.new (o := .lst (us1 ++ [v] ++ us4)) n5
  have e46 := (e4.trans e5).trans e6
  have hB6 := hB3.same e46
  have p5a : p5 ≠ a := (((hB3.same e4).same e5).ne n5).1.symm
  refine q p5 (ts.take j ++ [t] ++ ts.drop j) _ ⟨p5a, us1 ++ [v] ++ us4, upd_same, ?_⟩ (fun u hu => ?_) ?_ hB6 (k3.trans (.of_same e46))
  · rw [List.map_append, List.map_append, List.map_take, List.map_drop]
    exact ((dps_same e46 hus1).app (.cons (dp_same e46 hv) .nil)).app (dps_same e6 hus4)
  · rcases List.mem_append.mp hu with hu | hu
    · rcases List.mem_append.mp hu with hu | hu
      · exact g u (List.mem_of_mem_take hu)
      · rw [List.mem_singleton.mp hu]
        exact ct
    · exact g u (List.mem_of_mem_drop hu)
  · rw [List.length_append, List.length_append, List.length_take, List.length_drop]
    show _ + 1 + _ ≤ _
    omega
def spBentC (K : PySem.W.Frag) : Sp := fun vs H Q _ => ∃ (a l p : Addr) (ts : List Thg), vs = [.ref a, .ref p] ∧ BagAt H a l ∧ CrAt K a H p ts ∧ (∀ t ∈ ts, CrT t) ∧ ts.length ≤ 50 ∧ ∀ p' ts' H', CrAt K a H' p' ts' → (∀ t ∈ ts', CrT t) → ts'.length ≤ ts.length + 1 → BagAt H' a l → Keep a H H' → Q (.ref p') H'
/-- the first of the numbers at which it is so -/
theorem fil_head06 {p : Nat → Bool} {n i : Nat} (hi : i < n) (h : p i = true) (hj : ∀ j, j < i → p j = false) : ∃ r, (List.range n).filter p = i :: r := by
  induction n with
  | zero => omega
  | succ n ih =>
    rw [List.range_succ, List.filter_append]
    rcases Nat.lt_or_ge i n with h1 | h1
    · obtain ⟨r, e⟩ := ih h1
      rw [e]
      exact ⟨_, rfl⟩
    · have : i = n := by omega
      subst this
      have e0 : (List.range i).filter p = [] := List.filter_eq_nil_iff.mpr fun j hj' => by
        rw [hj j (List.mem_range.mp hj')]
        simp
      rw [e0]
      refine ⟨[], ?_⟩
      simp [h]
def badI (ts : List Thg) : List Nat := (List.range ts.length).filter fun i => !okT (ts.getD i (.o []))
def dupI (zs : List Str) : List Nat := (List.range zs.length).filter fun i => decide (zs.getD i "" ∈ zs.take i)
def wordS (ts : List Thg) : Str := match badI ts with
  | _ :: _ => "BadWriter"
  | [] => match dupI (ts.map nmT) with
    | _ :: _ => "Taken"
    | [] => if 3 < ts.length then "Full" else ""
def wordF (ts : List Thg) : PyData := match badI ts with
  | i :: _ => .int (i : Int)
  | [] => match dupI (ts.map nmT) with
    | i :: _ => .str ((ts.map nmT).getD i "")
    | [] => .none
def wordT (ts : List Thg) : PyData := .tuple [.str (wordS ts), wordF ts]
theorem getD_at06 {α : Type} {l : List α} {i : Nat} {x d : α} (h : l[i]? = some x) : l.getD i d = x := by
  rw [List.getD_eq_getElem?_getD, h]
  rfl
theorem word_bw {ts : List Thg} {i : Nat} {t : Thg} (h1 : ts[i]? = some t) (h2 : okT t = false) (h3 : ∀ (j : Nat) (u : Thg), j < i → ts[j]? = some u → okT u = true) : wordT ts = .tuple [.str "BadWriter", .int (i : Int)] := by
  have hi := (List.getElem?_eq_some_iff.mp h1).1
  obtain ⟨r, e⟩ := fil_head06 (p := fun i => !okT (ts.getD i (.o []))) (n := ts.length) hi (by show (!okT _) = true; rw [getD_at06 h1, h2]; rfl) fun j hj => by
    have hjl : j < ts.length := by omega
    show (!okT _) = false
    rw [getD_at06 (List.getElem?_eq_getElem hjl), h3 j _ hj (List.getElem?_eq_getElem hjl)]
    rfl
  have e : badI ts = i :: r := e
  unfold wordT wordS wordF
  rw [e]
theorem bad_none06 {ts : List Thg} (h : ∀ t ∈ ts, okT t = true) : badI ts = [] := List.filter_eq_nil_iff.mpr fun j hj => by
  have hjl := List.mem_range.mp hj
  rw [getD_at06 (List.getElem?_eq_getElem hjl), h _ (List.getElem_mem hjl)]
  simp
theorem bad_nil06 {ts : List Thg} (h : badI ts = []) : ∀ t ∈ ts, okT t = true := fun t ht => by
  obtain ⟨i, hi, e⟩ := List.mem_iff_getElem.mp ht
  have := List.filter_eq_nil_iff.mp h i (List.mem_range.mpr hi)
  rw [getD_at06 (List.getElem?_eq_getElem hi), e] at this
  cases ho : okT t with
  | true => rfl
  | false =>
    rw [ho] at this
    exact absurd rfl this
theorem word_tk {ts : List Thg} {i : Nat} {z : Str} (h0 : ∀ t ∈ ts, okT t = true) (h1 : (ts.map nmT)[i]? = some z) (h2 : z ∈ (ts.map nmT).take i) (h3 : ∀ (j : Nat) (y : Str), j < i → (ts.map nmT)[j]? = some y → y ∉ (ts.map nmT).take j) : wordT ts = .tuple [.str "Taken", .str z] := by
  have hi := (List.getElem?_eq_some_iff.mp h1).1
  obtain ⟨r, e⟩ := fil_head06 (p := fun i => decide ((ts.map nmT).getD i "" ∈ (ts.map nmT).take i)) (n := (ts.map nmT).length) hi (by show decide _ = true; rw [getD_at06 h1, decide_eq_true h2]) fun j hj => by
    have hjl : j < (ts.map nmT).length := by omega
    show decide _ = false
    rw [getD_at06 (List.getElem?_eq_getElem hjl)]
    exact decide_eq_false (h3 j _ hj (List.getElem?_eq_getElem hjl))
  have e : dupI (ts.map nmT) = i :: r := e
  unfold wordT wordS wordF
  rw [bad_none06 h0, e]
  show PyData.tuple [.str "Taken", .str ((ts.map nmT).getD i "")] = _
  rw [getD_at06 h1]
theorem dup_none06 {zs : List Str} (h : zs.Nodup) : dupI zs = [] := List.filter_eq_nil_iff.mpr fun j hj => by
  have hjl := List.mem_range.mp hj
  rw [getD_at06 (List.getElem?_eq_getElem hjl), decide_eq_true_eq]
  intro hm
  obtain ⟨k, hk, ek⟩ := List.mem_take_iff_getElem.mp hm
  exact (List.pairwise_iff_getElem.mp h) k j (by omega) hjl (by omega) ek
theorem dup_nil06 {zs : List Str} (h : dupI zs = []) : zs.Nodup := nodup_pre fun j y hj hy hm => by
  have := List.filter_eq_nil_iff.mp h j (List.mem_range.mpr hj)
  rw [getD_at06 hy, decide_eq_true_eq] at this
  exact this hm
theorem word_fu {ts : List Thg} (h0 : ∀ t ∈ ts, okT t = true) (h1 : (ts.map nmT).Nodup) (h2 : 3 < ts.length) : wordT ts = .tuple [.str "Full", .none] := by
  unfold wordT wordS wordF
  rw [bad_none06 h0, dup_none06 h1]
  show PyData.tuple [.str (if 3 < ts.length then "Full" else ""), .none] = _
  rw [if_pos h2]
theorem word_ok {ts : List Thg} (h : goodTs ts) : wordT ts = .tuple [.str "", .none] := by
  obtain ⟨h0, h1, h2⟩ := h
  unfold wordT wordS wordF
  rw [bad_none06 h0, dup_none06 h1]
  show PyData.tuple [.str (if 3 < ts.length then "Full" else ""), .none] = _
  rw [if_neg (by omega)]
theorem word_good {ts : List Thg} (h : wordS ts = "") : goodTs ts := by
  unfold wordS at h
  cases e : badI ts with
  | cons i r =>
    rw [e] at h
    have h : ("BadWriter" : Str) = "" := h
    exact absurd h (by decide +kernel)
  | nil =>
    rw [e] at h
    cases e2 : dupI (ts.map nmT) with
    | cons i r =>
      rw [e2] at h
      have h : ("Taken" : Str) = "" := h
      exact absurd h (by decide +kernel)
    | nil =>
      rw [e2] at h
      have h : (if 3 < ts.length then ("Full" : Str) else "") = "" := h
      refine ⟨bad_nil06 e, dup_nil06 e2, ?_⟩
      by_cases h3 : 3 < ts.length
      · rw [if_pos h3] at h
        exact absurd h (by decide +kernel)
      · omega
theorem word_okD (ts : List Thg) : okD 6 (wordT ts) := ⟨by show 2 ≤ 100000; decide, fun d hd => by
  simp only [List.mem_cons, List.not_mem_nil, or_false] at hd
  rcases hd with rfl | rfl
  · exact True.intro
  · unfold wordF
    split
    · exact True.intro
    · split <;> exact True.intro⟩
def RWord : List PyData → PyData → Prop := fun ds d => ∃ ts, (∀ t ∈ ts, CrT t) ∧ ts.length ≤ 900 ∧ ds = [.list (ts.map dT)] ∧ d = wordT ts
theorem enum_of06 {α : Type} (f : α → PyData) (l : List α) (x0 : α) : enumD (l.map f) = (List.range l.length).map fun (i : Nat) => PyData.tuple [.int (i : Int), f (l.getD i x0)] := by
  unfold enumD
  rw [List.length_map]
  refine List.map_congr_left fun i hi => ?_
  have hl := List.mem_range.mp hi
  rw [List.getD_eq_getElem?_getD, List.getD_eq_getElem?_getD, List.getElem?_map, List.getElem?_eq_getElem hl]
  rfl
section
variable {P : Program} {w : World} {K : PySem.W.Frag} {mg : Str → Option Value} {base : Heap}
theorem ok_word06 {f : Addr} {fd : FuncData} {k : Nat} (F : Fun K "_law_crew_word" "_law_crew_word" sLCrewWord f fd) (T : Txt mg) (C__law_is_writer : Cal P w K mg base k "_law_is_writer" ["_law_thing"] (spP K RIsT)) : FnOk P w K mg base CX0 (k + 1) f fd ["_law_crew"] (spP K RWord) := by
  refine F.ok sc__law_crew_word (fun vs H Q E h => ?_) (fun cdv A outer s H vs Q E hr h => ?_)
  · obtain ⟨ds, d, hd, ⟨ts, _, _, rfl, _⟩, _⟩ := h
    exact hd.length
  · obtain ⟨ds, d, hd, ⟨ts, g, hl, rfl, rfl⟩, q⟩ := h
    obtain ⟨v0, rfl, h0⟩ := dps1 hd
    refine ⟨_, (pss_cons (ps_setLc (i := 1) (own := [("_law_at", 4), ("_law_writer_here", 5)]) (g := (gTup K 2 (gCons (gName 4) (gCons (gName 5) gNil)))) (by rfl) sc__law_crew_word.nd rfl rfl (sw_true rfl rfl rfl (by decide +kernel)) (pi_enum (by rfl) T.m_enumerate (pa_cons (pv 0) pa_nil)) (blkOk_by (own := [("_law_at", 4), ("_law_writer_here", 5)]) (N := ["_law_crew", "_law_bad", "_law_names_here", "_law_twice_named", "_law_at", "_law_writer_here", "_law_name"]) (sc := defScope sLCrewWord) (by decide +kernel)) (fun _ _ _ _ _ => (pg_tup rfl (pgs_cons (pg_name (i := 4) sc__law_crew_word.nd rfl (.inl rfl)) (pgs_cons (pg_name (i := 5) sc__law_crew_word.nd rfl (.inl rfl)) pgs_nil)))) (fun _ _ _ _ _ => pts_one (pt_not (pt_val (pe_callC C__law_is_writer hr (by rfl) (pa_cons (pv 5) pa_nil))))) (fun _ _ _ _ _ => (pv 4)))
    (pss_cons (ps_if (pt_cmpR (show OpR _ _ (rNeD K) from op_neD hr.units) (pv 1) (pe_lst pa_nil) (nomark _))
    (pss_one (ps_ret (pe_tup (pa_cons pe_str (pa_cons (pe_ix ix_list (pv 1) pe_int (fun _ _ => rfl)) pa_nil))))) pss_nil)
    (pss_cons (ps_set (i := 2) sc__law_crew_word.nd rfl (.inr rfl) (pe_lc (own := [("_law_writer_here", 5)]) (g := (gName 5)) (by rfl) sc__law_crew_word.nd (pi_list (pv 0)) (blkOk_by (own := [("_law_writer_here", 5)]) (N := ["_law_crew", "_law_bad", "_law_names_here", "_law_twice_named", "_law_at", "_law_writer_here", "_law_name"]) (sc := defScope sLCrewWord) (by decide +kernel)) (fun _ _ _ _ _ => (pg_name (i := 5) sc__law_crew_word.nd rfl (Or.inl rfl))) (fun _ _ _ _ _ => pts_nil) (fun _ _ _ _ _ => (pe_ix (show IxR _ (rIxT K) from ix_tup) (pv 5) pe_int (fun _ _ => rfl)))))
    (pss_cons (ps_setLc (i := 3) (own := [("_law_at", 4), ("_law_name", 6)]) (g := (gTup K 2 (gCons (gName 4) (gCons (gName 6) gNil)))) (by rfl) sc__law_crew_word.nd rfl rfl (sw_true rfl rfl rfl (by decide +kernel)) (pi_enum (by rfl) T.m_enumerate (pa_cons (pv 2) pa_nil)) (blkOk_by (own := [("_law_at", 4), ("_law_name", 6)]) (N := ["_law_crew", "_law_bad", "_law_names_here", "_law_twice_named", "_law_at", "_law_writer_here", "_law_name"]) (sc := defScope sLCrewWord) (by decide +kernel)) (fun _ _ _ _ _ => (pg_tup rfl (pgs_cons (pg_name (i := 4) sc__law_crew_word.nd rfl (.inl rfl)) (pgs_cons (pg_name (i := 6) sc__law_crew_word.nd rfl (.inl rfl)) pgs_nil)))) (fun _ _ _ _ _ => pts_one (pt_cmpR (show OpR _ _ (rIn K false) from op_in_seq) (pv 6) (pe_slice (show SlR _ (rSlL K) from sl_list) (pv 2) po_none (po_some (pv 4))) (by rfl))) (fun _ _ _ _ _ => (pv 6)))
    (pss_cons (ps_if (pt_cmpR (show OpR _ _ (rNeD K) from op_neD hr.units) (pv 3) (pe_lst pa_nil) (nomark _))
    (pss_one (ps_ret (pe_tup (pa_cons pe_str (pa_cons (pe_ix ix_list (pv 3) pe_int (fun _ _ => rfl)) pa_nil))))) pss_nil)
    (pss_one (ps_ret (pe_ifExp (pt_cmpR op_gt (pe_callB call_len (by rfl) T.m_len PySem.boot_len (pa_cons (pv 0) pa_nil)) pe_int (nomark _)) (pe_tup (pa_cons pe_str (pa_cons pe_non pa_nil))) (pe_tup (pa_cons pe_str (pa_cons pe_non pa_nil))))))))))), ?_⟩
    refine sd_asgN (K := K) (ds := ((badI ts).map fun (i : Nat) => (i : Int)).map PyData.int) (by
      have h := en_lc (K := K) (σ := [some v0, none, none, none, none, none, none]) (H := H) (g := gTup K 2 (gCons (gName 4) (gCons (gName 5) gNil))) (vs := [4, 5]) (te := tVar 4) (t := tNot (tB (tCall (spP K RIsT) [] E0 (tCons (tVar 5) tNil)))) (List.range ts.length) (fun (i : Nat) => PyData.tuple [.int (i : Int), dT (ts.getD i (.o []))]) (fun i => !okT (ts.getD i (.o []))) (fun (i : Nat) => PyData.int (i : Int)) (by rw [← enum_of06]; exact ei_enum (ed_var (i := 0) rfl h0)) (by rw [List.length_range]; omega) (fun _ _ => by unfold fz; rfl) fun j i H5 x hx e5 hdx R kk => tg2 hdx fun w1 w2 b1 b2 => by
        have hi : i < ts.length := List.mem_range.mp (List.mem_of_getElem? hx)
        obtain rfl := dp_int b1
        exact kk _ rfl (et_not (et_B (ev_bl (ed_call (R := RIsT) (eds_cons (ed_var (i := 5) rfl b2) eds_nil) ⟨_, (g _ (by rw [List.getD_eq_getElem?_getD, List.getElem?_eq_getElem hi]; exact List.getElem_mem hi)).fine, rfl, rfl⟩)))) fun _ => ed_int (ev_var (i := 4) rfl)
      unfold badI
      rw [List.map_map]
      exact h) fun p1 us1 H1 n1 e1 hp1 hus1 => ?_
    try dsimp only [List.set]
    have h1 : Dp K H1 (.ref p1) (.list (((badI ts).map fun (i : Nat) => (i : Int)).map PyData.int)) := .lst (.of hp1) hus1
    have h0 := dp_same e1 h0
    refine q_when (b := !((badI ts).map fun (i : Nat) => (i : Int)).isEmpty) (et_test (ev_is (ev_neD (K := K) (ed_var (i := 1) rfl h1) (EvN.list (en_lst eds_nil (by decide))) (ints_shaped06 _) shaped_nil06) (by rw [eqv_nil]))) (fun hb H2 e2 => ?_) fun hb H2 e2 => ?_
    · cases eb : badI ts with
      | nil =>
        rw [eb] at hb
        cases hb
      | cons i r =>
        have h1 := dp_same e2 h1
        rw [eb] at h1
        refine sd_ret (K := K) (d := wordT ts) ?_ fun v H3 e3 hv => q v H3 ((e1.trans e2).trans e3) hv
        have : wordT ts = .tuple [.str "BadWriter", .int (i : Int)] := by
          unfold wordT wordS wordF
          rw [eb]
        rw [this]
        exact ed_tup (eds_cons (ed_str ev_c) (eds_cons (ed_ixL (n := 0) (ed_var (i := 1) rfl h1) ev_c (by decide) rfl) eds_nil)) (by show 2 ≤ 100000; decide)
    have eb : badI ts = [] := by
      cases e : badI ts with
      | nil => rfl
      | cons i r =>
        rw [e] at hb
        cases hb
    have hall := bad_nil06 eb
    obtain ⟨m, rfl⟩ := all_w hall
    have e12 := e1.trans e2
    have h0 : Dp K H2 v0 (.list (m.map dW)) := by
      have := dp_same e2 h0
      rw [List.map_map] at this
      exact this
    have hlm : m.length ≤ 900 := by
      rw [List.length_map] at hl
      exact hl
    obtain ⟨zs, ezs⟩ : ∃ zs, zs = (m.map Thg.w).map nmT := ⟨_, rfl⟩
    have ez : zs = m.map (·.1) := by rw [ezs, nm_w]
    refine sd_asgN (K := K) (ds := zs.map PyData.str) (by
      have h := en_map (K := K) (σ := [some v0, some (.ref p1), none, none, none, none, none]) (H := H2) (g := gName 5) (vs := [5]) (te := tOp (rIxT K) (tVar 5) (tC (.int 0))) m dW (fun x => PyData.str x.1) (ei_lst (ed_var (i := 0) rfl h0)) (by omega) (fun _ _ => by unfold fz; rfl) fun j x H5 y hx e5 hdx R kk => kk _ rfl (ed_ixT (ds := [.str x.1, .tuple (x.2.1.map dA), .int x.2.2.1, .int x.2.2.2]) (ed_var (i := 5) rfl hdx) ev_c (by decide) rfl)
      rw [ez, List.map_map]
      exact h) fun p2 us2 H3 n2 e3 hp2 hus2 => ?_
    try dsimp only [List.set]
    have h2 : Dp K H3 (.ref p2) (.list (zs.map PyData.str)) := .lst (.of hp2) hus2
    have lz : zs.length = m.length := by rw [ez, List.length_map]
    refine sd_asgN (K := K) (ds := ((dupI zs).map fun i => zs.getD i "").map PyData.str) (by
      have h := en_lc (K := K) (σ := [some v0, some (.ref p1), some (.ref p2), none, none, none, none]) (H := H3) (g := gTup K 2 (gCons (gName 4) (gCons (gName 6) gNil))) (vs := [4, 6]) (te := tVar 6) (t := tTest (tOp (rIn K false) (tVar 6) (tSl (rSlL K) (tVar 2) tNoPart (tPart (tVar 4))))) (List.range zs.length) (fun (i : Nat) => PyData.tuple [.int (i : Int), .str (zs.getD i "")]) (fun i => decide (zs.getD i "" ∈ zs.take i)) (fun (i : Nat) => PyData.str (zs.getD i "")) (by rw [← enum_of06 PyData.str]; exact ei_enum (ed_var (i := 2) rfl h2)) (by rw [List.length_range]; omega) (fun _ _ => by unfold fz; rfl) fun j i H5 x hx e5 hdx R kk => tg2 hdx fun w1 w2 b1 b2 => by
        obtain rfl := dp_int b1
        obtain rfl := dp_str b2
        exact kk _ rfl (et_test (ev_inS (neg := false) (zs := zs.take i) (ev_var (i := 6) rfl) (en_slToL (k := i) (ed_var (i := 2) rfl (dp_same e5 h2)) (ev_var (i := 4) rfl)).list (.inl (by rw [List.map_take])))) fun _ => ed_str (ev_var (i := 6) rfl)
      unfold dupI
      rw [List.map_map]
      exact h) fun p3 us3 H4 n3 e4 hp3 hus3 => ?_
    try dsimp only [List.set]
    have h3 : Dp K H4 (.ref p3) (.list (((dupI zs).map fun i => zs.getD i "").map PyData.str)) := .lst (.of hp3) hus3
    have zok : ∀ z ∈ zs, PyData.strOk z = true := fun z hz => by
      rw [ezs] at hz
      obtain ⟨t, ht, rfl⟩ := List.mem_map.mp hz
      obtain ⟨x, hx, rfl⟩ := List.mem_map.mp ht
      obtain ⟨y, ds, e, _, h⟩ := (g _ ht).nm
      have e : PyData.tuple [.str x.1, .tuple (x.2.1.map dA), .int x.2.2.1, .int x.2.2.2] = .tuple (.str y :: ds) := e
      injection e with e
      injection e with e _
      injection e with e
      rw [← e] at h
      exact h
    have dok : ∀ z ∈ (dupI zs).map (fun i => zs.getD i ""), PyData.strOk z = true := fun z hz => by
      obtain ⟨i, hi, rfl⟩ := List.mem_map.mp hz
      have hi : i < zs.length := List.mem_range.mp (List.mem_filter.mp hi).1
      rw [getD_at06 (List.getElem?_eq_getElem hi)]
      exact zok _ (List.getElem_mem hi)
    refine q_when (b := !((dupI zs).map fun i => zs.getD i "").isEmpty) (et_test (ev_is (ev_neD (K := K) (ed_var (i := 3) rfl h3) (EvN.list (en_lst eds_nil (by decide))) (strs_shaped06 dok) shaped_nil06) (by rw [eqv_nil]))) (fun hb H5 e5 => ?_) fun hb H5 e5 => ?_
    · cases ed : dupI zs with
      | nil =>
        rw [ed] at hb
        cases hb
      | cons i r =>
        have h3 := dp_same e5 h3
        rw [ed] at h3
        refine sd_ret (K := K) (d := wordT (m.map Thg.w)) ?_ fun v H6 e6 hv => q v H6 ((((e12.trans e3).trans e4).trans e5).trans e6) hv
        have : wordT (m.map Thg.w) = .tuple [.str "Taken", .str (zs.getD i "")] := by
          unfold wordT wordS wordF
          rw [eb, ← ezs, ed]
        rw [this]
        exact ed_tup (eds_cons (ed_str ev_c) (eds_cons (ed_ixL (n := 0) (ed_var (i := 3) rfl h3) ev_c (by decide) rfl) eds_nil)) (by show 2 ≤ 100000; decide)
    have ed : dupI zs = [] := by
      cases e : dupI zs with
      | nil => rfl
      | cons i r =>
        rw [e] at hb
        cases hb
    have h0 := dp_same ((e3.trans e4).trans e5) h0
    have hw : wordT (m.map Thg.w) = if decide (((m.length : Nat) : Int) > 3) = true then .tuple [.str "Full", .none] else .tuple [.str "", .none] := by
      have e1 : wordT (m.map Thg.w) = .tuple [.str (if 3 < (m.map Thg.w).length then "Full" else ""), .none] := by
        unfold wordT wordS wordF
        rw [eb, ← ezs, ed]
      rw [e1, List.length_map]
      by_cases h : 3 < m.length
      · rw [if_pos h, if_pos (show decide (((m.length : Nat) : Int) > 3) = true from decide_eq_true (by omega))]
      · rw [if_neg h, if_neg (show ¬ decide (((m.length : Nat) : Int) > 3) = true from fun e => h (by have := of_decide_eq_true e; omega))]
    refine sd_ret (K := K) (d := wordT (m.map Thg.w)) (ed_if (b := decide (((m.length : Nat) : Int) > 3)) (et_test (ev_op (ev_is (ev_lenD (K := K) (ed_var (i := 0) rfl h0) (.inl rfl)) (by rw [List.length_map])) ev_c rv_I0)) (fun hb => ?_) fun hb => ?_) fun v H6 e6 hv => q v H6 ((((e12.trans e3).trans e4).trans e5).trans e6) hv
    · rw [hw, if_pos hb]
      exact ed_tup (eds_cons (ed_str ev_c) (eds_cons (ed_non ev_c) eds_nil)) (by show 2 ≤ 100000; decide)
    · rw [hw, if_neg (by rw [hb]; exact fun e => nomatch e)]
      exact ed_tup (eds_cons (ed_str ev_c) (eds_cons (ed_non ev_c) eds_nil)) (by show 2 ≤ 100000; decide)
theorem ok_bent06 {f : Addr} {fd : FuncData} {k : Nat} (F0 : Fun K "_law_bent_crew" "_law_bent_crew" sLBentCrew f fd) (T : Txt mg) (C__law_pull : Cal P w K mg base k "_law_pull" ["_law_bag_here", "_law_many"] spPull) (C__law_of : Cal P w K mg base k "_law_of" ["_law_bag_here", "_law_things"] (spOf K)) : FnOk P w K mg base CX0 (k + 1) f fd ["_law_bag_here", "_law_crew"] (spBentC K) := by
  refine F0.ok sc__law_bent_crew (fun vs H Q E h => ?_) (fun cdv A outer st0 H vs Q E hr h => ?_)
  · obtain ⟨a, l, p, ts, rfl, _⟩ := h
    rfl
  · obtain ⟨a, l, p, ts, rfl, hB, hc, g, hl, q⟩ := h
    refine ⟨_, (pss_cons (ps_par (i := 2) (j := 3) (by rfl) sc__law_bent_crew.nd rfl rfl (by decide) rfl rfl (pa_cons (pe_callC C__law_pull hr (by rfl) (pa_cons (pv 0) (pa_cons (pe_op op_add (pe_callB call_len (by rfl) T.m_len PySem.boot_len (pa_cons (pv 1) pa_nil)) pe_int) pa_nil))) (pa_cons (pe_callC C__law_pull hr (by rfl) (pa_cons (pv 0) (pa_cons pe_int pa_nil))) pa_nil)) (by rfl))
    (pss_cons (ps_set (i := 4) sc__law_bent_crew.nd rfl (.inl rfl) (pe_lst (pa_cons (pe_tup (pa_cons pe_str (pa_cons (pe_tup pa_nil) (pa_cons pe_int (pa_cons pe_int pa_nil))))) (pa_cons (pe_tup (pa_cons pe_str (pa_cons (pe_tup pa_nil) (pa_cons pe_int (pa_cons pe_int pa_nil))))) (pa_cons (pe_tup (pa_cons pe_str (pa_cons (pe_tup (pa_cons (pe_tup (pa_cons pe_int (pa_cons pe_str (pa_cons pe_int pa_nil)))) (pa_cons (pe_tup (pa_cons pe_int (pa_cons pe_str (pa_cons pe_int pa_nil)))) pa_nil))) (pa_cons pe_int (pa_cons pe_int pa_nil))))) (pa_cons (pe_tup (pa_cons pe_str (pa_cons (pe_tup pa_nil) (pa_cons pe_int pa_nil)))) pa_nil))))))
    (pss_cons (ps_if (PW.pt (pw_and (pt_cmpR op_eq (pv 3) pe_int (nomark _)) (pw_and1 (pt_cmpR (show OpR _ _ (rNeD K) from op_neD hr.units) (pv 1) (pe_lst pa_nil) (nomark _)))))
    (pss_one (ps_ret (pe_op (show OpR _ (binaryOp .Add) (rCatL K) from op_catL) (pe_op (show OpR _ (binaryOp .Add) (rCatL K) from op_catL) (pe_slice sl_list (pv 1) po_none (po_some (pv 2))) (pe_lst (pa_cons (pe_tup (pa_cons (pe_ix ix_tup (pe_callC C__law_of hr (by rfl) (pa_cons (pv 0) (pa_cons (pv 1) pa_nil))) pe_int (fun _ _ => rfl)) (pa_cons (pe_tup pa_nil) (pa_cons pe_int (pa_cons pe_int pa_nil))))) pa_nil))) (pe_slice sl_list (pv 1) (po_some (pv 2)) po_none)))) pss_nil)
    (pss_cons (ps_if (pt_cmpR op_eq (pv 3) pe_int (nomark _))
    (pss_one (ps_ret (pe_op (show OpR _ (binaryOp .Add) (rCatL K) from op_catL) (pe_op (show OpR _ (binaryOp .Add) (rCatL K) from op_catL) (pe_slice sl_list (pv 1) po_none (po_some (pv 2))) (pe_lst (pa_cons (pe_callC C__law_of hr (by rfl) (pa_cons (pv 0) (pa_cons (pv 4) pa_nil))) pa_nil))) (pe_slice sl_list (pv 1) (po_some (pv 2)) po_none)))) pss_nil)
    (pss_one (ps_ret (pe_op (show OpR _ (binaryOp .Add) (rCatL K) from op_catL) (pe_op (show OpR _ (binaryOp .Add) (rCatL K) from op_catL) (pe_slice sl_list (pv 1) po_none (po_some (pv 2))) (pe_lst (pa_cons (pe_tup (pa_cons pe_str (pa_cons (pe_tup pa_nil) (pa_cons pe_int (pa_cons (pv 3) pa_nil))))) pa_nil))) (pe_slice sl_list (pv 1) (po_some (pv 2)) po_none)))))))), ?_⟩
    refine ⟨.ref a, rfl, ?_⟩
    refine (ev_op (σ := [some (.ref a), some (.ref p), none, none, none]) (ev_is (ev_lenD (K := K) (ed_var (i := 1) rfl hc.dp) (.inl rfl)) (by rw [List.length_map])) ev_c rv_I0) H (.refl _) _ fun H1 e1 => ?_
    refine ⟨a, l, (ts.length : Int) + 1, rfl, hB.same e1, by omega, by omega, fun at' H2 a0 a1 hB2 k2 => ⟨.ref a, rfl, a, l, 4, rfl, hB2, by decide, by decide, fun pick H3 p0 p1 hB3 k3 => ⟨_, _, rfl, ?_⟩⟩⟩
    try dsimp only [List.set]
    obtain ⟨j, rfl⟩ := Int.eq_ofNat_of_zero_le a0
    have hj : j ≤ ts.length := by omega
    have k13 : Keep a H H3 := ((Keep.of_same e1).trans k2).trans k3
    have hc3 := hc.keep g hB k13
    refine sd_asgN (K := K) (ds := someX.map dT) (en_lst (K := K) (σ := [some (.ref a), some (.ref p), some (.int (j : Int)), some (.int pick), none]) (eds_cons (ed_tup (eds_cons (ed_str ev_c) (eds_cons (ed_tup eds_nil (by decide)) (eds_cons (ed_int ev_c) (eds_cons (ed_int ev_c) eds_nil)))) (by decide)) (eds_cons (ed_tup (eds_cons (ed_str ev_c) (eds_cons (ed_tup eds_nil (by decide)) (eds_cons (ed_int ev_c) (eds_cons (ed_int ev_c) eds_nil)))) (by decide)) (eds_cons (ed_tup (eds_cons (ed_str ev_c) (eds_cons (ed_tup (eds_cons (ed_tup (eds_cons (ed_int ev_c) (eds_cons (ed_str ev_c) (eds_cons (ed_int ev_c) eds_nil))) (by decide)) (eds_cons (ed_tup (eds_cons (ed_int ev_c) (eds_cons (ed_str ev_c) (eds_cons (ed_int ev_c) eds_nil))) (by decide)) eds_nil)) (by decide)) (eds_cons (ed_int ev_c) (eds_cons (ed_int ev_c) eds_nil)))) (by decide)) (eds_cons (ed_tup (eds_cons (ed_str ev_c) (eds_cons (ed_tup eds_nil (by decide)) (eds_cons (ed_int ev_c) eds_nil))) (by decide)) eds_nil)))) (by decide)) fun sp us H4 nsp e4 hsp hus => ?_
    try dsimp only [List.set]
    have spa : sp ≠ a := (hB3.ne nsp).1.symm
    have hB4 := hB3.same e4
    have hc4 := hc3.same e4
    have k14 := k13.trans (.of_same e4)
    have lus := hus.length
    have nbX : nbAll (someX.map dT) = true := nb_map fun t ht => nb_fz _ (fz_dT (some_crT t ht).fine)
    refine s_if (b := decide (V.int pick = V.int 0) && !(ts.map dT).isEmpty) (et_and (et_test (ev_op (ev_var (i := 3) rfl) ev_c (rv_eq rfl))) fun _ => et_test (ev_is (ev_neD (K := K) (ed_var (i := 1) rfl hc4.dp) (EvN.list (en_lst eds_nil (by decide))) (crew_shaped06 g) shaped_nil06) (by
      rw [eqv_nil]
      cases ts <;> rfl))) (fun hb H5 e5 => ?_) fun _ H5 e5 => ?_
    · have tne : 0 < ts.length := by
        rw [Bool.and_eq_true] at hb
        cases ts with
        | nil => cases hb.2
        | cons _ _ => simp
      have hB5 := hB4.same e5
      have hc5 := hc4.same e5
      have k15 := k14.trans (.of_same e5)
      refine q_ret06 (q_bent06 (l := l) rfl rfl hB5 hc5 g hl hj (fun H6 _ hB6 hc6 Q' kq => ?_) fun p' ts' H' h1 h2 h3 h4 h5 => q p' ts' H' h1 h2 h3 h4 (k15.trans h5))
      obtain ⟨cn, us6, hp6, hus6⟩ := id hc6
      have l6 := hus6.length
      rw [List.length_map] at l6
      refine q_tup06 (q_op06 ⟨.ref a, rfl, .ref p, rfl, a, l, .ref p, us6, rfl, hB6, .inl ⟨p, rfl, cn, .inl (.of hp6)⟩, by omega, by omega, fun v H7 hv hB7 k7 => ?_⟩)
      obtain ⟨i, hi⟩ := List.getElem?_of_mem hv
      obtain ⟨d, hd, hdv⟩ := hus6.at hi
      rw [List.getElem?_map, Option.map_eq_some_iff] at hd
      obtain ⟨t, ht, rfl⟩ := hd
      have ct := g t (List.mem_of_getElem? ht)
      obtain ⟨z, ds, edt, lz, oz⟩ := ct.nm
      have hv7 := dp_nb hB6 k7 _ _ (nb_fz _ (fz_dT ct.fine)) hdv
      rw [edt] at hv7
      obtain ⟨tp, xs, rfl, hs, hxs⟩ := dp_tup hv7
      have x0 : xs[0]? = some (.str z) := by
        cases hxs with
        | cons h1 h2 =>
          cases h1
          rfl
      refine ⟨tp, xs, 0, .str z, rfl, rfl, hs, atI_of (by decide) x0, ?_⟩
      refine (ed_tup (K := K) (σ := [some (.ref a), some (.ref p), some (.int (j : Int)), some (.int pick), some (.ref sp)]) eds_nil (by decide)) H7 (.refl H7) _ fun ev H8 e8 hev => ⟨by show 4 ≤ sizeLine; decide, fun np nnp => ?_⟩
      exact kq _ (.w (z, [], 1, 1)) _ (crT_new lz oz (by decide) (by decide)) (.tup (.of upd_same) (.cons (.str z) (.cons (dp_same (Ex.new nnp) hev) (.cons (.int 1) (.cons (.int 1) .nil))))) ((hB7.same e8).same (Ex.new nnp)) ((k7.trans (.of_same e8)).trans (.of_same (Ex.new nnp)))
    refine go_next ?_
    try dsimp only [List.set]
    have hB5 := hB4.same e5
    have hc5 := hc4.same e5
    have k15 := k14.trans (.of_same e5)
    have hsp5 := e5 _ _ hsp
    have hus5 := dps_same e5 hus
    refine s_if (b := decide (V.int pick = V.int 1)) (et_test (ev_op (ev_var (i := 3) rfl) ev_c (rv_eq rfl))) (fun hb H6 e6 => ?_) fun _ H6 e6 => ?_
    · have hB6 := hB5.same e6
      have hc6 := hc5.same e6
      have k16 := k15.trans (.of_same e6)
      have hsp6 := e6 _ _ hsp5
      have hus6 := dps_same e6 hus5
      refine q_ret06 (q_bent06 (l := l) rfl rfl hB6 hc6 g hl hj (fun H7 e7 hB7 hc7 Q' kq => ?_) fun p' ts' H' h1 h2 h3 h4 h5 => q p' ts' H' h1 h2 h3 h4 (k16.trans h5))
      have hus7 := dps_same e7 hus6
      refine ⟨.ref a, rfl, .ref sp, rfl, a, l, .ref sp, us, rfl, hB7, .inl ⟨sp, rfl, spa, .inl (.of (e7 _ _ hsp6))⟩, by rw [lus]; decide, by rw [lus]; decide, fun v H8 hv hB8 k8 => ?_⟩
      obtain ⟨i, hi⟩ := List.getElem?_of_mem hv
      obtain ⟨d, hd, hdv⟩ := hus7.at hi
      rw [List.getElem?_map, Option.map_eq_some_iff] at hd
      obtain ⟨t, ht, rfl⟩ := hd
      have ct := some_crT t (List.mem_of_getElem? ht)
      exact kq v t H8 ct (dp_nb hB7 k8 _ _ (nb_fz _ (fz_dT ct.fine)) hdv) hB8 k8
    refine go_next ?_
    try dsimp only [List.set]
    have hB6 := hB5.same e6
    have hc6 := hc5.same e6
    have k16 := k15.trans (.of_same e6)
    refine q_ret06 (q_bent06 (l := l) rfl rfl hB6 hc6 g hl hj (fun H7 e7 hB7 hc7 Q' kq => ?_) fun p' ts' H' h1 h2 h3 h4 h5 => q p' ts' H' h1 h2 h3 h4 (k16.trans h5))
    refine (ed_tup (K := K) (ds := [.str "spare", .tuple [], .int 0, .int pick]) (σ := [some (.ref a), some (.ref p), some (.int (j : Int)), some (.int pick), some (.ref sp)]) (eds_cons (ed_str ev_c) (eds_cons (ed_tup eds_nil (by decide)) (eds_cons (ed_int ev_c) (eds_cons (ed_int (ev_var (i := 3) rfl)) eds_nil)))) (by show 4 ≤ 100000; decide)) H7 (.refl H7) _ fun v H8 e8 hv => ?_
    exact kq v (.w ("spare", [], 0, pick)) H8 (crT_new (by decide +kernel) (by decide +kernel) (by decide) ⟨by omega, by omega⟩) hv (hB7.same e8) (.of_same e8)
end
end Ink
namespace Ink
open PySem PySem.Spec PyProof.Rows L2 Evl
theorem dW_ok06 {n : Nat} {x : Wr} (h : x.2.1.length ≤ 9) : okD (n + 4) (dW x) := ⟨by show 4 ≤ 100000; decide, fun d hd => by
  simp only [List.mem_cons, List.not_mem_nil, or_false] at hd
  rcases hd with rfl | rfl | rfl | rfl
  · exact True.intro
  · refine ⟨by rw [List.length_map]; omega, fun d hd => ?_⟩
    obtain ⟨y, _, rfl⟩ := List.mem_map.mp hd
    refine ⟨by show 3 ≤ 100000; decide, fun d hd => ?_⟩
    simp only [List.mem_cons, List.not_mem_nil, or_false] at hd
    rcases hd with rfl | rfl | rfl <;> exact True.intro
  · exact True.intro
  · exact True.intro⟩
def told06 (m : List Wr) : PyData := .list [.list (m.map dW), .list ((m.map (·.1)).map PyData.str), .int ((m.length : Nat) : Int), .bool (!(m.map dW).isEmpty), .str (showC m), .str (textC m)]
theorem told_ok06 {m : List Wr} (g : GoodM m) : okD 7 (told06 m) := ⟨by show 6 ≤ 100000; decide, fun d hd => by
  have g3 := g.len
  simp only [List.mem_cons, List.not_mem_nil, or_false] at hd
  rcases hd with rfl | rfl | rfl | rfl | rfl | rfl
  · refine ⟨by rw [List.length_map]; omega, fun d hd => ?_⟩
    obtain ⟨y, hy, rfl⟩ := List.mem_map.mp hd
    exact dW_ok06 (g.wr y hy).len
  · refine ⟨by rw [List.length_map, List.length_map]; omega, fun d hd => ?_⟩
    obtain ⟨y, hy, rfl⟩ := List.mem_map.mp hd
    exact True.intro
  all_goals exact True.intro⟩
theorem word_ok7 (ts : List Thg) : okD 7 (wordT ts) := ⟨by show 2 ≤ 100000; decide, fun d hd => by
  simp only [List.mem_cons, List.not_mem_nil, or_false] at hd
  rcases hd with rfl | rfl
  · exact True.intro
  · unfold wordF
    split
    · exact True.intro
    · split <;> exact True.intro⟩
theorem crew_shaped06g {m : List Wr} (g : GoodM m) : SeqAt.shaped (.list (m.map dW)) = true := dWs_shaped g
theorem dps_rev06 {K : PySem.W.Frag} {H : Hp} : ∀ {vs : List V} {ds : List PyData}, DpAll K H vs ds → DpAll K H vs.reverse ds.reverse
  | _, _, .nil => .nil
  | _, _, .cons h t => by
    rw [List.reverse_cons, List.reverse_cons]
    exact (dps_rev06 t).app (.one h)
theorem tabs_upd06 {T : List (Addr × Str)} {H : Hp} {q : Addr} {xs ys : List V} (t : LamX.Tabs T H) (hq : H q = some (.lst xs)) : LamX.Tabs T (upd H q (.lst ys)) := fun p hp => by
  obtain ⟨ps, h1, h2, h3⟩ := t p hp
  refine ⟨ps, by rw [upd_ne (fun z => by rw [z, hq] at h1; cases h1)]; exact h1, h2, fun pos cv hc => ?_⟩
  obtain ⟨c, e1, e2⟩ := h3 pos cv hc
  exact ⟨c, e1, by rw [upd_ne (fun z => by rw [z, hq] at e2; unfold LamX.CodeO at e2; cases e2)]; exact e2⟩
theorem eqv_refl06 {ts : List Thg} (ct : ∀ t ∈ ts, CrT t) : PyData.eqv (.list (ts.map dT)) (.list (ts.map dT)) = true := PySem.SeqAt.eqv_refl _ (by
  simp only [PyData.canLay0]
  exact lay_map fun y hy => (ct y hy).lay)
theorem dps_strs06 {K : PySem.W.Frag} {H : Hp} : ∀ zs : List Str, DpAll K H (zs.map V.str) (zs.map PyData.str)
  | [] => .nil
  | z :: zs => .cons (.str z) (dps_strs06 zs)
theorem nnam1 : ¬ (("names" : Str) = "_found") := by decide +kernel
theorem nnam2 : ¬ (("names" : Str) = "_writers") := by decide +kernel
theorem q_orLike06 {K : PySem.W.Frag} {n : Nat} {ta tb : TE} {u : TT} {tu tz : TS} {D : Ends} {σ : L2.St} {H : Hp} (h : ta σ H fun v H1 => tb σ H1 fun w H2 => spLike K n [v, w] H2 (fun x H3 => ∃ c, x = .bl c ∧ if (!c) = true then (if true = true then tu { D with nx := tz D } σ H3 else tz D σ H3) else u σ H3 fun c2 H4 => if c2 = true then tu { D with nx := tz D } σ H4 else tz D σ H4) E0) :
    tSeq (tIfS (tOr (tNot (tB (tCall (spLike K n) [] E0 (tCons ta (tCons tb tNil))))) u) tu tNext) tz D σ H := h
theorem use_asg06 {te : TE} {g : TG} {tz : TS} {D : Ends} {σ : L2.St} {H : Hp} (h : te σ H fun x H1 => g x σ H1 (tz D)) : tSeq (tAsg te g) tz D σ H := h
theorem q_lst606 {t1 t2 t3 t4 t5 t6 : TE} {σ : L2.St} {H : Hp} {Q : VK} (h : t1 σ H fun v1 H1 => t2 σ H1 fun v2 H2 => t3 σ H2 fun v3 H3 => t4 σ H3 fun v4 H4 => t5 σ H4 fun v5 H5 => t6 σ H5 fun v6 H6 => [v1, v2, v3, v4, v5, v6].length ≤ sizeLine ∧ ∀ p, H6 p = none → Q (.ref p) (upd H6 p (.lst [v1, v2, v3, v4, v5, v6]))) : tLst (tCons t1 (tCons t2 (tCons t3 (tCons t4 (tCons t5 (tCons t6 tNil)))))) σ H Q := h
theorem use_set06 {te : TE} {i : Nat} {D : Ends} {σ : L2.St} {H : Hp} (h : te σ H fun v H1 => D.nx (σ.set i (some v)) H1) : tAsg te (gName i) D σ H := h
theorem q_asgTup06 {t1 t2 : TE} {g : TG} {tz : TS} {D : Ends} {σ : L2.St} {H : Hp} (h : t1 σ H fun u H1 => t2 σ H1 fun v H2 => [u, v].length ≤ sizeLine ∧ ∀ p, H2 p = none → g (.ref p) σ (upd H2 p (.tup [u, v])) (tz D)) : tSeq (tAsg (tTup (tCons t1 (tCons t2 tNil))) g) tz D σ H := h
theorem q_for06 {ti : TI} {g : TG} {tb tz : TS} {D : Ends} {σ : L2.St} {H : Hp} (h : ti σ H fun J H1 => tFor (fun _ H R => R J H) g tb { D with nx := tz D } σ H1) : tSeq (tFor ti g tb) tz D σ H := h
theorem q_lam06 {T : List (Addr × Str)} {TT : (XK → Hp → VK → Prop) → Hp → VK → Prop} {t : XK → TE} {σ : L2.St} {H : Hp} {Q : VK} (M : V → Hp → Prop) (hT : LamX.Tabs T H) (h : ∀ H1, LamX.ExtN H H1 → LamX.Tabs T H1 → ∀ Q : VK, (∀ v H2, M v H2 → Q v H2) → TT (fun E H' Q' => t E σ H' Q') H1 Q) (k : ∀ v H2, M v H2 → Q v H2) : LamX.tLam T TT t σ H Q :=
  ⟨hT, fun H1 e1 T1 => h H1 e1 T1 _ k⟩
theorem q_ints06 {K : PySem.W.Frag} {a l : Addr} {H : Hp} {te ta : TE} {σ : L2.St} {Q : VK} {E : XK} {ns : List Int} (ha : Ev ta σ H (.ref a)) (h : EvN K te σ H (ns.map PyData.int)) (hB : BagAt H a l) (h0 : 0 < ns.length) (h1 : ns.length ≤ 1000) (q : ∀ n H', n ∈ ns → BagAt H' a l → Keep a H H' → Q (.int n) H') : tCall (spOf K) [] E (tCons ta (tCons te tNil)) σ H Q :=
  ha H (.refl H) _ fun H1 e1 => h H1 e1 _ fun cp vs H2 np e2 hcp hvs => by
    have e12 := e1.trans e2
    have en : ∀ {vs : List V} {ns : List Int}, DpAll K H2 vs (ns.map PyData.int) → vs = ns.map V.int := fun {vs ns} h => dps_int h
    rw [en hvs] at hcp
    refine ⟨a, l, .ref cp, ns.map V.int, rfl, hB.same e12, .inl ⟨cp, rfl, ((hB.same e1).ne np).1.symm, .inl (.of hcp)⟩, by rw [List.length_map]; exact h0, by rw [List.length_map]; exact h1, fun v H3 hv hB3 k3 => ?_⟩
    obtain ⟨n, hn, rfl⟩ := List.mem_map.mp hv
    exact q n H3 hn hB3 ((Keep.of_same e12).trans k3)
structure At06 (P : Program) (w : World) (K : PySem.W.Frag) (C a l P0 cp np c1 c2 : Addr) (m m2 : List Wr) (H : Hp) : Prop where
  b : BagAt H a l
  tb : LamX.Tabs [(P0, lawQ)] H
  cr : MAt K H a cp m
  nm : H np = some (.lst ((m.map (·.1)).map V.str))
  na : np ≠ a
  one : ∃ n, CoAt P w K C H c1 m n
  two : ∃ n, CoAt P w K C H c2 m2 n
def EvC06 (P : Program) (w : World) (K : PySem.W.Frag) (C : Addr) (te : TE) (σ : L2.St) (H : Hp) (m : List Wr) : Prop := ∀ H1, Ex H H1 → ∀ Q : VK, (∀ x H2, Ex H1 H2 → CoAt P w K C H2 x m 0 → Q (.ref x) H2) → te σ H1 Q
section
variable {P : Program} {w : World} {K : PySem.W.Frag} {C a l P0 cp np c1 c2 q : Addr} {m m2 : List Wr} {H H' : Hp} {xs ys : List V} {σ : L2.St} {ta tb : TE} {c : List PyData → PyData} {o : Option (List Wr)} {y : V}
theorem At06.same (A : At06 P w K C a l P0 cp np c1 c2 m m2 H) (e : Ex H H') : At06 P w K C a l P0 cp np c1 c2 m m2 H' := by
  obtain ⟨n1, h1⟩ := A.one
  obtain ⟨n2, h2⟩ := A.two
  exact ⟨A.b.same e, A.tb.ext e, A.cr.same e, e _ _ A.nm, A.na, ⟨n1, h1.fr (.of e)⟩, ⟨n2, h2.fr (.of e)⟩⟩
theorem At06.upd (A : At06 P w K C a l P0 cp np c1 c2 m m2 H) (hq : H q = some (.lst xs)) (nl : a ≠ q ∧ l ≠ q) (nc : cp ≠ q) (nn : np ≠ q) : At06 P w K C a l P0 cp np c1 c2 m m2 (upd H q (.lst ys)) := by
  obtain ⟨n1, h1⟩ := A.one
  obtain ⟨n2, h2⟩ := A.two
  exact ⟨A.b.upd nl, tabs_upd06 A.tb hq, A.cr.upd nc hq, by rw [upd_ne nn]; exact A.nm, A.na, ⟨n1, h1.fr (.lst hq)⟩, ⟨n2, h2.fr (.lst hq)⟩⟩
theorem ec_make06 {m : List Wr} (ha : EvD K ta σ H (c (m.map dW))) (g : GoodM m) : EvC06 P w K C (tMake C (spInitD P w K C c) [] E0 (tCons ta tNil)) σ H m := fun H1 e Q q =>
  ha H1 e _ fun v H2 e2 hv => by
    intro x dx nx ndx nxd
    have s0 : Same H2 (L2.upd (L2.upd H2 dx (.own x)) x (.ins C dx [])) := (same_new ndx).trans (same_new (by rw [upd_ne nxd.symm]; exact nx))
    exact ⟨x, dx, v, m, rfl, upd_same, dp_same s0 hv, g, fun d H3 nd k3 hc => ⟨rfl, q x H3 (e2.trans fun b o e => k3 b o (s0 b o e) (ne_of_none e nx)) hc.co⟩⟩
theorem ec_none06 {e0 : Addr} (hv : ∀ H, Dp K H (.ref e0) (.tuple [])) : EvC06 P w K C (tMake C (spInitD P w K C .tuple) [V.ref e0] E0 tNil) σ H [] := fun H1 e Q q => by
  intro x dx nx ndx nxd
  have s0 : Same H1 (L2.upd (L2.upd H1 dx (.own x)) x (.ins C dx [])) := (same_new ndx).trans (same_new (by rw [upd_ne nxd.symm]; exact nx))
  exact ⟨x, dx, .ref e0, [], rfl, upd_same, hv _, ⟨Nat.zero_le _, fun _ h => (nomatch h), .nil⟩, fun d H3 nd k3 hc => ⟨rfl, q x H3 (fun b o e => k3 b o (s0 b o e) (ne_of_none e nx)) hc.co⟩⟩
theorem ev_eqO06 {n : Nat} (Z : CoC K C) (EF : EqF K C) (ha : Ev ta σ H (.ref c1)) (hb : Ev tb σ H y) (hc : CoAt P w K C H c1 m n) (g : GoodM m) (ho : OthAt P w K C H y o) : Ev (tOp (rEqO K C (spCoEq P w K C)) ta tb) σ H (.bl (eqO o m)) := fun H1 e Q q => ha H1 e _ fun H2 e2 => hb H2 (e.trans e2) _ fun H3 e3 => by
  have e13 := (e.trans e2).trans e3
  have hc3 := hc.fr (.of e13)
  have ho3 := ho.same e13
  obtain ⟨t, t1, _, t3⟩ := oth_ty06 Z EF ho3
  obtain ⟨dx, tw, d, kvs, h1, _⟩ := id hc3
  exact ⟨c1, dx, _, t, rfl, h1, t1, t3, c1, m, n, y, o, rfl, hc3, g, ho3, fun H4 e4 => ⟨_, rfl, q H4 ((e2.trans e3).trans e4)⟩⟩
theorem ev_eqC06 {n : Nat} (Z : CoC K C) (EF : EqF K C) (ha : Ev ta σ H (.ref c1)) (hb : EvC06 P w K C tb σ H m2) (hc : CoAt P w K C H c1 m n) (g : GoodM m) (g2 : GoodM m2) : Ev (tOp (rEqO K C (spCoEq P w K C)) ta tb) σ H (.bl (eqO (some m2) m)) := fun H1 e Q q => ha H1 e _ fun H2 e2 => hb H2 (e.trans e2) _ fun x H3 e3 hx => by
  have e13 := (e.trans e2).trans e3
  have hc3 := hc.fr (.of e13)
  have ho3 : OthAt P w K C H3 (.ref x) (some m2) := ⟨x, 0, rfl, hx, g2⟩
  obtain ⟨t, t1, _, t3⟩ := oth_ty06 Z EF ho3
  obtain ⟨dx, tw, d, kvs, h1, _⟩ := id hc3
  exact ⟨c1, dx, _, t, rfl, h1, t1, t3, c1, m, n, _, _, rfl, hc3, g, ho3, fun H4 e4 => ⟨_, rfl, q H4 ((e2.trans e3).trans e4)⟩⟩
theorem ev_neC06 {n : Nat} (Z : CoC K C) (EF : EqF K C) (ha : Ev ta σ H (.ref c1)) (hb : EvC06 P w K C tb σ H m2) (hc : CoAt P w K C H c1 m n) (g : GoodM m) (g2 : GoodM m2) : Ev (tOp (rNeO K C (spCoEq P w K C)) ta tb) σ H (.bl (!eqO (some m2) m)) := fun H1 e Q q => ha H1 e _ fun H2 e2 => hb H2 (e.trans e2) _ fun x H3 e3 hx => by
  have e13 := (e.trans e2).trans e3
  have hc3 := hc.fr (.of e13)
  have ho3 : OthAt P w K C H3 (.ref x) (some m2) := ⟨x, 0, rfl, hx, g2⟩
  obtain ⟨t, t1, _, t3⟩ := oth_ty06 Z EF ho3
  obtain ⟨dx, tw, d, kvs, h1, _⟩ := id hc3
  exact ⟨c1, dx, _, t, rfl, h1, t1, t3, c1, m, n, _, _, rfl, hc3, g, ho3, fun H4 e4 => ⟨_, rfl, q H4 ((e2.trans e3).trans e4)⟩⟩
theorem ev_eqCC06 (Z : CoC K C) (EF : EqF K C) (ha : EvC06 P w K C ta σ H m) (hb : EvC06 P w K C tb σ H m2) (g : GoodM m) (g2 : GoodM m2) : Ev (tOp (rEqO K C (spCoEq P w K C)) ta tb) σ H (.bl (eqO (some m2) m)) := fun H1 e Q q => ha H1 e _ fun x1 H2 e2 hx1 => hb H2 (e.trans e2) _ fun x H3 e3 hx => by
  have hc3 := hx1.fr (.of e3)
  have ho3 : OthAt P w K C H3 (.ref x) (some m2) := ⟨x, 0, rfl, hx, g2⟩
  obtain ⟨t, t1, _, t3⟩ := oth_ty06 Z EF ho3
  obtain ⟨dx, tw, d, kvs, h1, _⟩ := id hc3
  exact ⟨x1, dx, _, t, rfl, h1, t1, t3, x1, m, 0, _, _, rfl, hc3, g, ho3, fun H4 e4 => ⟨_, rfl, q H4 ((e2.trans e3).trans e4)⟩⟩
theorem ev_like06 {d : PyData} {n : Nat} (ha : EvD K ta σ H d) (hb : EvD K tb σ H d) (ok : okD n d) : Ev (tCall (spLike K n) [] E0 (tCons ta (tCons tb tNil))) σ H (.bl true) := fun H1 e Q q =>
  ha H1 e _ fun v H2 e2 hv => hb H2 (e.trans e2) _ fun u H3 e3 hu => ⟨v, u, rfl, lk_dp n d v u ok (dp_same e3 hv) hu, fun H4 s4 => q H4 ((e2.trans e3).trans s4)⟩
theorem en_rev06 {te : TE} {ds : List PyData} (h : EvD K te σ H (.list ds)) : EvN K (tRevL K te) σ H ds.reverse := fun H1 e Q q => h H1 e _ fun v H2 e2 hv => by
  obtain ⟨p, xs, rfl, hs, hxs⟩ := dp_lst hv
  refine ⟨p, xs, rfl, hs, fun p' np => q p' xs.reverse _ (Same.free e2 np) (e2.trans (Ex.new np)) upd_same ?_⟩
  exact dps_same (Ex.new np) (dps_rev06 hxs)
theorem en_cat06 {ds es : List PyData} (ha : EvD K ta σ H (.list ds)) (hb : EvD K tb σ H (.list es)) (hz : ds.length + es.length ≤ 100000) : EvN K (tOp (rCatL K) ta tb) σ H (ds ++ es) := en_catL ha hb hz
theorem en_is06 {te : TE} {ds es : List PyData} (h : EvN K te σ H ds) (e : ds = es) : EvN K te σ H es := e ▸ h
theorem oth_dp06 {d : PyData} (h : Dp K H y d) (hd : d = .none ∨ (∃ i, d = .int i) ∨ (∃ z, d = .str z) ∨ ∃ ds, d = .list ds) : OthAt P w K C H y none := by
  rcases hd with rfl | ⟨i, rfl⟩ | ⟨z, rfl⟩ | ⟨ds, rfl⟩
  · exact .inl (dp_non h)
  · exact .inr (.inl ⟨i, dp_int h⟩)
  · exact .inr (.inr (.inl ⟨z, dp_str h⟩))
  · obtain ⟨p, xs, rfl, hs, _⟩ := dp_lst h
    exact .inr (.inr (.inr ⟨p, xs, rfl, hs⟩))
end
theorem rev_eq06 {m : List Wr} (g : GoodM m) : eqO (some m.reverse) m = decide (((m.length : Nat) : Int) < 2) := by
  unfold eqO
  have nd := g.nd
  refine decide_eq_decide.mpr ⟨fun e => ?_, fun h => ?_⟩
  · refine Classical.byContradiction fun hn => ?_
    have l2 : 1 < m.length := by omega
    have h1 : m[0]? = m.reverse[0]? := by rw [e]
    rw [List.getElem?_reverse (by omega)] at h1
    have hp := List.pairwise_iff_getElem.mp nd 0 (m.length - 1 - 0) (by rw [List.length_map]; omega) (by rw [List.length_map]; omega) (by omega)
    rw [List.getElem_map, List.getElem_map] at hp
    rw [List.getElem?_eq_getElem (by omega), List.getElem?_eq_getElem (by omega)] at h1
    exact hp (congrArg (·.1) (Option.some.inj h1))
  · match m, h with
    | [], _ => rfl
    | [x], _ => rfl
    | x :: y :: r, h => simp at h; omega
theorem more_eq06 {m : List Wr} (l3 : m.length ≤ 3) {x : Wr} : eqO (some (m ++ [x].take (3 - m.length))) m = decide (((m.length : Nat) : Int) > 2) := by
  unfold eqO
  refine decide_eq_decide.mpr ⟨fun e => ?_, fun h => ?_⟩
  · have := congrArg List.length e
    rw [List.length_append, List.length_take] at this
    simp at this
    omega
  · rw [show 3 - m.length = 0 by omega]
    simp
theorem one_good06 {z : Str} (h : NameZ z) : GoodW z [] 0 0 := ⟨h, Nat.zero_le _, fun _ h => (nomatch h), .nil, by decide, by decide, by decide, by decide⟩
theorem more_good06 {m : List Wr} (g : GoodM m) {z : Str} (hz : NameZ z) (hn : z ∉ m.map (·.1)) : GoodM (m ++ [((z, [], 0, 0) : Wr)].take (3 - m.length)) := by
  have g3 := g.len
  by_cases h : m.length = 3
  · rw [h]
    simp only [Nat.sub_self, List.take_zero, List.append_nil]
    exact g
  · have e : [((z, [], 0, 0) : Wr)].take (3 - m.length) = [(z, [], 0, 0)] := List.take_of_length_le (by show 1 ≤ _; omega)
    rw [e]
    refine ⟨by rw [List.length_append]; show _ + 1 ≤ 3; omega, fun x hx => ?_, ?_⟩
    · rcases List.mem_append.mp hx with hx | hx
      · exact g.wr x hx
      · rw [List.mem_singleton.mp hx]
        exact one_good06 hz
    · rw [List.map_append]
      refine List.nodup_append.mpr ⟨g.nd, by simp, fun y hy u hu => ?_⟩
      rw [show [((z, [], 0, 0) : Wr)].map (·.1) = [z] from rfl] at hu
      rw [List.mem_singleton.mp hu]
      exact fun e => hn (e ▸ hy)
end Ink
namespace Ink
open PySem PySem.Spec PyProof.Rows L2 Evl
section
variable {P : Program} {w : World} {K : PySem.W.Frag} {mg : Str → Option Value} {base : Heap}
theorem ok_law06 {f g0 C BW TK FU e0 cI cM cL c0 P0 : Addr} {fdr : FuncData} {k : Nat} {kV doc pm ct oc : Value} {an od : Option Addr} {osl : Array (Option Value)}
    (lk : K.lookup f = some ⟨oc, od, .func (PySem.W.fnOf "law" "law" (defArgs sLaw) (defBody sLaw) (defScope sLaw) .none kV doc pm an (.ref c0) ct), osl⟩) (hcd : PySem.W.codeIn K (.ref c0) "law" = true) (TB : LamX.TabB base mg c0 P0) (T : Txt mg)
    (F_refused : Fun K "_law_refused" "_law_refused" sLRefused g0 fdr) (m_refused : mg "_law_refused" = some (.ref g0)) (k_refused : PySem.W.keepIn K (.ref g0) = true) (b_refused : Binds K fdr ["_law_ask"] [])
    (hG : ∀ q, L2N.AskedBy P w K mg base (k + 2) (k + 3) ["_law_ask"] "_law_refused" (defScope sLRefused) (defBody sLRefused) q (ttRefused K cI cM cL))
    (hX1 : PySem.W.exmAny K (.ref BW) [.ref cI, .ref cM, .ref cL] = some true) (hX2 : PySem.W.exmAny K (.ref TK) [.ref cI, .ref cM, .ref cL] = some true) (hX3 : PySem.W.exmAny K (.ref FU) [.ref cI, .ref cM, .ref cL] = some true) (hF1 : FldC K BW) (hF2 : FldC K TK) (hF3 : FldC K FU)
    (Z : CoC K C) (EF : EqF K C) (hv0 : ∀ H, Dp K H (.ref e0) (.tuple [])) (n_Company_bool : PySem.W.findIn K (.ref C) "__bool__" = some none) (n_Company_ne : PySem.W.findIn K (.ref C) "__ne__" = some (some (.builtin "object.__ne__"))) (n_Company_ob : PySem.W.subIn K (.ref C) (.type "object") = some true)
    (C__law_bag : Cal P w K mg base (k + 4) "_law_bag" ["_law_script"] (spBag K)) (C__law_pull : Cal P w K mg base (k + 4) "_law_pull" ["_law_bag_here", "_law_many"] spPull) (C__law_of : Cal P w K mg base (k + 4) "_law_of" ["_law_bag_here", "_law_things"] (spOf K)) (C__law_signs : Cal P w K mg base (k + 4) "_law_signs" ["_law_bag_here", "_law_limit"] spSigns)
    (C__law_company : Cal P w K mg base (k + 4) "_law_company" ["_law_bag_here", "_law_limit", "_law_signs_here"] (spComp K)) (C__law_bent_crew : Cal P w K mg base (k + 4) "_law_bent_crew" ["_law_bag_here", "_law_crew"] (spBentC K)) (C__law_crew_word : Cal P w K mg base (k + 4) "_law_crew_word" ["_law_crew"] (spP K RWord))
    (C__law_fresh : Cal P w K mg base (k + 4) "_law_fresh" ["_law_names_here"] (spP K RFresh)) (C__law_writer_text : Cal P w K mg base (k + 4) "_law_writer_text" ["_law_writer_here"] (spP K RWT)) (C__law_like : Cal P w K mg base (k + 4) "_law_like" ["_law_found", "_law_due"] (spLike K 7))
    (KN_Company : MakN P w K mg base k "Company" C ["self", "writers"] [] (spInitN P w K C BW TK FU .list)) (K_Company : MakC P w K mg base (k + 3) "Company" C ["self", "writers"] [] (spInitD P w K C .list)) (K_CompanyT : MakC P w K mg base (k + 3) "Company" C ["self", "writers"] [] (spInitD P w K C .tuple)) (K_Company_0 : MakC P w K mg base (k + 3) "Company" C ["self", "writers"] [V.ref e0] (spInitD P w K C .tuple))
    (M_Company_writers : MetC P w K mg base (k + 4) C "writers" ["self"] (spWriters P w K C)) (M_Company_names : MetC P w K mg base (k + 4) C "names" ["self"] (spCoNames P w K C)) (M_Company_len : LenC P w K mg base (k + 3) C (spCoLen P w K C))
    (S_Company_eq : SpcC P w K mg base (k + 3) C "__eq__" ["self", "other"] (spCoEq P w K C)) (S_Company_repr : SpcC P w K mg base (k + 3) C "__repr__" ["self"] (spCoShow P w K C)) (S_Company_str : SpcC P w K mg base (k + 2) C "__str__" ["self"] (spCoText P w K C)) (S_Company_len : SpcC P w K mg base (k + 1) C "__len__" ["self"] (spCoLen P w K C)) :
    FnOk P w K mg base CX0 (k + 5) f (PySem.W.fnOf "law" "law" (defArgs sLaw) (defBody sLaw) (defScope sLaw) .none kV doc pm an (.ref c0) ct) ["_law_script"] (spLaw K P0) := by
  refine fn_of lk hcd sc_law (fun vs H Q E h => ?_) (fun A outer s H vs Q E hr h => ?_)
  · obtain ⟨c, ns, rfl, _⟩ := h
    rfl
  · obtain ⟨c, ns, rfl, hS, hlen, hT, q⟩ := h
    suffices key : ∃ t, PSs (cxOf CX0 P w K mg base ["_law_script", "_law_bag_here", "_law_turn", "_law_crew", "_law_bend", "_law_handed", "_law_due", "_law_names_here", "_law_made", "_law_other", "_law_again", "_law_told", "_law_text", "_law_shown", "_law_writer_here", "_law_odd"] "law" (defScope sLaw) f (.ref c0) A outer s H E).nox (defBody sLaw) t ∧ t { nx := fun _ H' => Q .non H', rt := Q } (start ["_law_script", "_law_bag_here", "_law_turn", "_law_crew", "_law_bend", "_law_handed", "_law_due", "_law_names_here", "_law_made", "_law_other", "_law_again", "_law_told", "_law_text", "_law_shown", "_law_writer_here", "_law_odd"] [.ref c]) H by
      obtain ⟨t, h1, h2⟩ := key
      exact ⟨t, h1.nox, h2⟩
    refine ⟨_, (pss_cons (ps_set (i := 1) sc_law.nd rfl (.inl rfl) (pe_callC C__law_bag hr (by rfl) (pa_cons (pv 0) pa_nil)))
    (pss_cons (ps_for PassesOwn.never rfl (pi_range1 (by rfl) T.m_range (pa_cons pe_int pa_nil)) (pg_name (i := 2) sc_law.nd rfl (.inl rfl))
    (pss_cons (ps_set (i := 3) sc_law.nd rfl (.inl rfl) (pe_slice sl_list (pe_callC C__law_company hr (by rfl) (pa_cons (pv 1) (pa_cons pe_int (pa_cons (pe_callC C__law_signs hr (by rfl) (pa_cons (pv 1) (pa_cons pe_int pa_nil))) pa_nil)))) (po_some (pe_callC C__law_pull hr (by rfl) (pa_cons (pv 1) (pa_cons pe_int pa_nil)))) po_none))
    (pss_cons (ps_for PassesOwn.never rfl (pi_range1 (by rfl) T.m_range (pa_cons (pe_callC C__law_of hr (by rfl) (pa_cons (pv 1) (pa_cons (pe_lst (pa_cons pe_int (pa_cons pe_int (pa_cons pe_int (pa_cons pe_int pa_nil))))) pa_nil))) pa_nil)) (pg_name (i := 4) sc_law.nd rfl (.inl rfl))
    (pss_one (ps_set (i := 3) sc_law.nd rfl (.inl rfl) (pe_callC C__law_bent_crew hr (by rfl) (pa_cons (pv 1) (pa_cons (pv 3) pa_nil))))))
    (pss_cons (ps_asg (pe_tup (pa_cons (pe_callTy call_list_of (by rfl) T.m_list (by decide +kernel) (pa_cons (pv 3) pa_nil)) (pa_cons (pe_callC C__law_crew_word hr (by rfl) (pa_cons (pv 3) pa_nil)) pa_nil))) (pg_tup rfl (pgs_cons (pg_name (i := 5) sc_law.nd rfl (.inr rfl)) (pgs_cons (pg_name (i := 6) sc_law.nd rfl (.inl rfl)) pgs_nil))))
    (pss_cons (ps_if (PW.pt (pw_or (pt_not (pt_val (pe_callC C__law_like hr (by rfl) (pa_cons (L2N.pe_asks (T := [(P0, lawQ)]) F_refused sc__law_refused (by rfl) m_refused k_refused b_refused (hG _) TB rfl (List.mem_singleton.mpr rfl) (fun p hp _ => by rw [List.mem_singleton.mp hp]; rfl) hr (show LamX.LamS (defScope sLaw) _ from LamX.lamS_by (by decide +kernel)) rfl (fun _ _ _ _ _ => rfl) (t := fun E => tMake C (spInitN P w K C BW TK FU .list) [] E (tCons (tVar 5) tNil)) (fun A2 o2 s2 H2 E2 f2 c2 hr2 => pe_lamMk KN_Company hr2 (by rfl) (pa_cons (pv 5) pa_nil))) (pa_cons (pv 6) pa_nil))))) (pw_or1 (pt_cmpR (show OpR _ _ (rNeD K) from op_neD hr.units) (pv 5) (pv 3) (nomark _)))))
    (pss_one (ps_ret pe_bl)) pss_nil)
    (pss_cons (ps_if (pt_cmpR op_ne (pe_ix ix_tup (pv 6) pe_int (fun _ _ => rfl)) pe_str (nomark _))
    (pss_one ps_continue) pss_nil)
    (pss_cons (ps_setLc (i := 7) (own := [("_law_writer_here", 14)]) (g := (gName 14)) (by rfl) sc_law.nd rfl rfl (sw_true rfl rfl rfl (by decide +kernel)) (pi_list (pv 3)) (blkOk_by (own := [("_law_writer_here", 14)]) (N := ["_law_script", "_law_bag_here", "_law_turn", "_law_crew", "_law_bend", "_law_handed", "_law_due", "_law_names_here", "_law_made", "_law_other", "_law_again", "_law_told", "_law_text", "_law_shown", "_law_writer_here", "_law_odd"]) (sc := defScope sLaw) (by decide +kernel)) (fun _ _ _ _ _ => (pg_name (i := 14) sc_law.nd rfl (Or.inl rfl))) (fun _ _ _ _ _ => pts_nil) (fun _ _ _ _ _ => (pe_ix (show IxR _ (rIxT K) from ix_tup) (pv 14) pe_int (fun _ _ => rfl))))
    (pss_cons (ps_asg (pe_tup (pa_cons (pe_makeC K_CompanyT hr (by rfl) (pa_cons (pe_callTy call_tuple_of (by rfl) T.m_tuple (by decide +kernel) (pa_cons (pv 3) pa_nil)) pa_nil)) (pa_cons (pe_makeC K_Company hr (by rfl) (pa_cons (pe_op (show OpR _ (binaryOp .Add) (rCatL K) from op_catL) (pv 3) (pe_slice sl_list (pe_lst (pa_cons (pe_tup (pa_cons (pe_callC C__law_fresh hr (by rfl) (pa_cons (pv 7) pa_nil)) (pa_cons (pe_tup pa_nil) (pa_cons pe_int (pa_cons pe_int pa_nil))))) pa_nil)) po_none (po_some (pe_op op_sub pe_int (pe_callB call_len (by rfl) T.m_len PySem.boot_len (pa_cons (pv 3) pa_nil)))))) pa_nil)) pa_nil))) (pg_tup rfl (pgs_cons (pg_name (i := 8) sc_law.nd rfl (.inr rfl)) (pgs_cons (pg_name (i := 9) sc_law.nd rfl (.inl rfl)) pgs_nil))))
    (pss_cons (ps_expr (pe_bm0 PySem.F.plainAttrs_list PySem.F.slot_list_clear PySem.F.type_list_clear mt_clear (pv 5)))
    (pss_cons (ps_for PassesOwn.never rfl (pi_range1 (by rfl) T.m_range (pa_cons pe_int pa_nil)) (pg_name (i := 10) sc_law.nd rfl (.inl rfl))
    (pss_cons (ps_set (i := 11) sc_law.nd rfl (.inl rfl) (pe_lst (pa_cons (pe_methC0 (pv 8) M_Company_writers (hr.mono (by omega))) (pa_cons (pe_methC0 (pv 8) M_Company_names (hr.mono (by omega))) (pa_cons (pe_lenO M_Company_len hr (by rfl) T.m_len (pv 8)) (pa_cons (pe_callTy (call_boolO S_Company_len hr n_Company_bool) (by rfl) T.m_bool (by decide +kernel) (pa_cons (pv 8) pa_nil)) (pa_cons (pe_callB (call_reprO S_Company_repr hr) (by rfl) T.m_repr (by decide +kernel) (pa_cons (pv 8) pa_nil)) (pa_cons (pe_callTy (call_strO S_Company_str hr) (by rfl) T.m_str (by decide +kernel) (pa_cons (pv 8) pa_nil)) pa_nil))))))))
    (pss_cons (ps_set (i := 12) sc_law.nd rfl (.inl rfl) (pe_join pe_str (pe_lc (own := [("_law_writer_here", 14)]) (g := (gName 14)) (by rfl) sc_law.nd (pi_list (pv 3)) (blkOk_by (own := [("_law_writer_here", 14)]) (N := ["_law_script", "_law_bag_here", "_law_turn", "_law_crew", "_law_bend", "_law_handed", "_law_due", "_law_names_here", "_law_made", "_law_other", "_law_again", "_law_told", "_law_text", "_law_shown", "_law_writer_here", "_law_odd"]) (sc := defScope sLaw) (by decide +kernel)) (fun _ _ _ _ _ => (pg_name (i := 14) sc_law.nd rfl (Or.inl rfl))) (fun _ _ _ _ _ => pts_nil) (fun _ _ _ _ _ => (pe_callC C__law_writer_text hr (by rfl) (pa_cons (pv 14) pa_nil))))))
    (pss_cons (ps_set (i := 13) sc_law.nd rfl (.inl rfl) (pe_op op_add_str (pe_op op_add_str pe_str (pe_callTy call_str_int (by rfl) T.m_str (by decide +kernel) (pa_cons (pe_callB call_len (by rfl) T.m_len PySem.boot_len (pa_cons (pv 3) pa_nil)) pa_nil))) pe_str))
    (pss_cons (ps_if (pt_not (pt_val (pe_callC C__law_like hr (by rfl) (pa_cons (pv 11) (pa_cons (pe_lst (pa_cons (pv 3) (pa_cons (pv 7) (pa_cons (pe_callB call_len (by rfl) T.m_len PySem.boot_len (pa_cons (pv 3) pa_nil)) (pa_cons (pe_cmpR (show OpR _ _ (rNeD K) from op_neD hr.units) (pv 3) (pe_lst pa_nil) (nomark _)) (pa_cons (pv 13) (pa_cons (pv 12) pa_nil))))))) pa_nil)))))
    (pss_one (ps_ret pe_bl)) pss_nil)
    (pss_cons (ps_expr (pe_bm0 PySem.F.plainAttrs_list PySem.F.slot_list_clear PySem.F.type_list_clear mt_clear (pe_ix ix_list (pv 11) pe_int (fun _ _ => rfl))))
    (pss_one (ps_expr (pe_bm PySem.F.plainAttrs_list PySem.F.slot_list_append PySem.F.type_list_append mt_append (pe_ix ix_list (pv 11) pe_int (fun _ _ => rfl)) (pa_cons pe_str pa_nil))))))))))
    (pss_cons (ps_if (PW.pt (pw_or (pt_cmpR (show OpR _ _ (rNeO K C (spCoEq P w K C)) from op_neO S_Company_eq hr n_Company_ne n_Company_ob) (pv 8) (pe_makeC K_Company hr (by rfl) (pa_cons (pv 3) pa_nil)) (nomark _)) (pw_or1 (pt_cmpR op_ne (pe_cmpR (show OpR _ _ (rEqO K C (spCoEq P w K C)) from op_eqO S_Company_eq hr) (pv 8) (pv 9) (nomark _)) (pe_cmpR op_gt (pe_callB call_len (by rfl) T.m_len PySem.boot_len (pa_cons (pv 3) pa_nil)) pe_int (nomark _)) (nomark _)))))
    (pss_one (ps_ret pe_bl)) pss_nil)
    (pss_cons (ps_if (pt_cmpR op_ne (pe_cmpR (show OpR _ _ (rEqO K C (spCoEq P w K C)) from op_eqO S_Company_eq hr) (pv 8) (pe_makeC K_Company hr (by rfl) (pa_cons (pe_revL (pv 3)) pa_nil)) (nomark _)) (pe_cmpR op_lt (pe_callB call_len (by rfl) T.m_len PySem.boot_len (pa_cons (pv 3) pa_nil)) pe_int (nomark _)) (nomark _))
    (pss_one (ps_ret pe_bl)) pss_nil)
    (pss_one (ps_if (pt_val (pe_callB (cr_any rfl) (by rfl) T.m_any (by decide +kernel) (pa_cons (pe_lc (own := [("_law_odd", 15)]) (g := (gName 15)) (by rfl) sc_law.nd (pi_list (pe_lst (pa_cons pe_non (pa_cons pe_int (pa_cons (pv 12) (pa_cons (pv 3) (pa_cons (pv 7) pa_nil))))))) (blkOk_by (own := [("_law_odd", 15)]) (N := ["_law_script", "_law_bag_here", "_law_turn", "_law_crew", "_law_bend", "_law_handed", "_law_due", "_law_names_here", "_law_made", "_law_other", "_law_again", "_law_told", "_law_text", "_law_shown", "_law_writer_here", "_law_odd"]) (sc := defScope sLaw) (by decide +kernel)) (fun _ _ _ _ _ => (pg_name (i := 15) sc_law.nd rfl (Or.inl rfl))) (fun _ _ _ _ _ => pts_nil) (fun _ _ _ _ _ => (pe_cmpR (show OpR _ _ (rEqO K C (spCoEq P w K C)) from op_eqO S_Company_eq hr) (pv 8) (pv 15) (nomark _)))) pa_nil)))
    (pss_one (ps_ret pe_bl)) pss_nil))))))))))))))
    (pss_one (ps_ret (pe_and (pe_cmpR (show OpR _ _ (rEqO K C (spCoEq P w K C)) from op_eqO S_Company_eq hr) (pe_makeC0 K_Company_0 hr (by rfl)) (pe_makeC K_Company hr (by rfl) (pa_cons (pe_lst pa_nil) pa_nil)) (nomark _)) (pe_one (pe_callC C__law_like hr (by rfl) (pa_cons (pe_lst (pa_cons (pe_globI (by rfl) T.e_MOST_WRITERS) (pa_cons (pe_globI (by rfl) T.e_MOST_STANDS) pa_nil))) (pa_cons (pe_lst (pa_cons pe_int (pa_cons pe_int pa_nil))) pa_nil))))))))), ?_⟩
    refine ⟨.ref c, rfl, c, ns, rfl, hS, hlen, fun a l H1 na hB1 s1 => ?_⟩
    have hT1 := hT.ext s1
    refine ⟨4, rfl, by decide, by decide, for_it walk_range0 (fun i σ' H' => (∃ y2 y3 y4 y5 y6 y7 y8 y9 y10 y11 y12 y13, σ' = [some (.ref c), some (.ref a), y2, y3, y4, y5, y6, y7, y8, y9, y10, y11, y12, y13, none, none]) ∧ BagAt H' a l ∧ LamX.Tabs [(P0, lawQ)] H') ⟨⟨none, none, none, none, none, none, none, none, none, none, none, none, rfl⟩, hB1, hT1⟩ (fun _ _ _ _ _ => True.intro) (fun i y σ' Ha Hb hi hP hy => ?_) (fun σ' H' hP => ?_)⟩
    · obtain ⟨⟨y2, y3, y4, y5, y6, y7, y8, y9, y10, y11, y12, y13, rfl⟩, hB2, hT2⟩ := hP
      obtain ⟨rfl, rfl⟩ := hy
      refine g_go ?_
      try dsimp only [List.set]
      -- the crew
      refine use_asg06 ?_
      refine ⟨.ref a, rfl, .ref a, rfl, a, l, 2, rfl, hB2, by decide, by decide, fun sp cs H2 nsp hc1 hc2 hcs hrise hsp hB3 k3 => ?_⟩
      have spa : sp ≠ a := (hB2.ne nsp).1.symm
      refine ⟨a, l, sp, 5, cs, rfl, hB3, by decide, by decide, hsp, spa, hcs, hrise, fun p ms H4 npn g5 lm1 hM4 hB4 k4 => ?_⟩
      refine ⟨.ref a, rfl, a, l, 2, rfl, hB4, by decide, by decide, fun kz H5 k0 k1 hB5 k5 => ?_⟩
      obtain ⟨kk, rfl⟩ := Int.eq_ofNat_of_zero_le k0
      have hT5 := tabs_keep hB4 k5 (tabs_keep hB3 k4 (tabs_keep hB2 k3 hT2))
      obtain ⟨us5, hp5, hus5, pa⟩ := hM4.keep hB4 k5
      refine ⟨(kk : Int), rfl, p, us5, rfl, .of hp5, fun cp ncp => ?_⟩
      rw [vcut_from]
      refine g_go ?_
      try dsimp only [List.set]
      have e6 := Ex.new (o := .lst (us5.drop kk)) ncp
      have hB6 := hB5.same e6
      have hT6 := hT5.ext e6
      have cr6 : CrAt K a (upd H5 cp (.lst (us5.drop kk))) cp ((ms.drop kk).map Thg.w) := ⟨(hB5.ne ncp).1.symm, _, upd_same, by
        rw [List.map_map]
        have := dps_same e6 (hus5.drop kk)
        rw [← List.map_drop] at this
        exact this⟩
      have ct6 : ∀ t ∈ (ms.drop kk).map Thg.w, CrT t := fun t ht => by
        obtain ⟨x, hx, rfl⟩ := List.mem_map.mp ht
        exact crT_good (g5.wr x (List.mem_of_mem_drop hx))
      have lt6 : ((ms.drop kk).map Thg.w).length ≤ 5 := by
        rw [List.length_map, List.length_drop]
        have := g5.len
        omega
      generalize upd H5 cp (.lst (us5.drop kk)) = H6 at *
      generalize (ms.drop kk).map Thg.w = ts0 at *
      clear hsp hrise hcs hc1 hc2 hM4 hus5 hp5 hB5 hB4 hB3 hT5 hT2 hB2 k3 k4 k5 e6 ncp nsp npn
      -- bent
      refine q_for06 (q_ints06 (K := K) (ns := [0, 0, 1, 2]) (ev_var (i := 1) rfl) (en_lst (eds_cons (ed_int ev_c) (eds_cons (ed_int ev_c) (eds_cons (ed_int ev_c) (eds_cons (ed_int ev_c) eds_nil)))) (by show 4 ≤ 100000; decide)) hB6 (by decide) (by decide) fun mz H7 hmz hB7 k7 => ?_)
      obtain ⟨many, rfl, hmany⟩ : ∃ many : Nat, mz = (many : Int) ∧ many ≤ 2 := by
        simp only [List.mem_cons, List.not_mem_nil, or_false] at hmz
        rcases hmz with rfl | rfl | rfl | rfl
        · exact ⟨0, rfl, by decide⟩
        · exact ⟨0, rfl, by decide⟩
        · exact ⟨1, rfl, by decide⟩
        · exact ⟨2, rfl, by decide⟩
      have cr7 := cr6.keep ct6 hB6 k7
      have hT7 := tabs_keep hB6 k7 hT6
      clear hB6 cr6 hT6 k7
      refine ⟨(many : Int), rfl, by omega, by omega, ?_⟩
      refine for_it (walk_range0 (n := many)) (fun o σ' H' => ∃ (cp : Addr) (ts : List Thg) (y4 : Option V), σ' = [some (.ref c), some (.ref a), some (.int (i : Int)), some (.ref cp), y4, y5, y6, y7, y8, y9, y10, y11, y12, y13, none, none] ∧ CrAt K a H' cp ts ∧ (∀ t ∈ ts, CrT t) ∧ ts.length ≤ 5 + o ∧ BagAt H' a l ∧ LamX.Tabs [(P0, lawQ)] H') ⟨cp, ts0, _, rfl, cr7, ct6, lt6, hB7, hT7⟩ (fun _ _ _ _ _ => True.intro) (fun o y σ' Hc Hd ho hP hy => ?_) (fun σ' H8 hP => ?_)
      · obtain ⟨cp, ts, y4, rfl, cr, ct, lt, hB, hT⟩ := hP
        obtain ⟨rfl, rfl⟩ := hy
        refine g_go ?_
        try dsimp only [List.set]
        refine use_set06 ⟨.ref a, rfl, .ref cp, rfl, a, l, cp, ts, rfl, hB, cr, ct, by omega, fun p' ts' H9 cr' ct' lt' hB' k' => ?_⟩
        exact ⟨p', ts', _, rfl, cr', ct', by omega, hB', tabs_keep hB k' hT⟩
      clear cr7 ct6 lt6 hB7 hT7
      obtain ⟨cp, ts, y4, rfl, cr, ct, lt, hB8, hT8⟩ := hP
      try dsimp only
      -- handed, and what is due
      refine q_asgTup06 (use_n06 (en_list (K := K) (ed_var (i := 3) rfl cr.dp) (.inl rfl)) fun hp us9 H9 nhp e9 hhp hus9 => ?_)
      refine (ed_call (K := K) (σ := [some (.ref c), some (.ref a), some (.int (i : Int)), some (.ref cp), y4, y5, y6, y7, y8, y9, y10, y11, y12, y13, none, none]) (R := RWord) (d := wordT ts) (eds_cons (ed_var (i := 3) rfl (cr.same e9).dp) eds_nil) ⟨ts, ct, by omega, rfl, rfl⟩) H9 (.refl H9) _ fun dv H10 e10 hdv => ⟨by show 2 ≤ sizeLine; decide, fun tp ntp => ⟨tp, _, rfl, .of upd_same, rfl, _, _, rfl, _, _, rfl, rfl, ?_⟩⟩
      try dsimp only [List.set]
      have e11 := e10.trans (Ex.new (o := .tup [V.ref hp, dv]) ntp)
      have e811 := e9.trans e11
      have cr11 := cr.same e811
      have hB11 := hB8.same e811
      have hT11 := hT8.ext e811
      have hhp11 := e11 _ _ hhp
      have hus11 := dps_same e11 hus9
      have hdv11 := dp_same (Ex.new (o := .tup [V.ref hp, dv]) ntp) hdv
      have hnl : a ≠ hp ∧ l ≠ hp := hB8.ne nhp
      have hcp : cp ≠ hp := by
        obtain ⟨_, us, h1, _⟩ := cr
        exact ne_of_none h1 nhp
      generalize upd H10 tp (.tup [V.ref hp, dv]) = H11 at *
      clear e10 e9 e11 e811 ntp nhp hhp hus9 hB8 hT8 cr hdv
      -- refused alike
      refine q_orLike06 ?_
      refine q_lam06 (fun fo H' => CrAt K a H' cp ts ∧ BagAt H' a l ∧ LamX.Tabs [(P0, lawQ)] H' ∧ H' hp = some (.lst us9) ∧ DpAll K H' us9 (ts.map dT) ∧ Dp K H' dv (wordT ts) ∧ Dp K H' fo (wordT ts)) hT11 (fun H14 x14 T14 Q1 q1 => ?_) fun fo H20 hM => ?_
      · intro H15 E2 Q2 s15 hE hQ
        have cr15 : CrAt K a H15 cp ts := by
          obtain ⟨n, us, h1, h2⟩ := cr11
          exact ⟨n, us, s15 _ _ (x14 _ _ h1 fun _ z => by cases z), dps_same s15 (dps_up (sl_ext x14) (tk_ext x14) _ _ h2)⟩
        have hB15 := (bag_ext x14 hB11).same s15
        have hT15 := T14.ext s15
        have hhp15 := s15 _ _ (x14 _ _ hhp11 fun _ z => by cases z)
        have hus15 := dps_same s15 (dps_up (sl_ext x14) (tk_ext x14) _ _ hus11)
        have hdv15 := dp_same s15 (dp_ext x14 hdv11)
        have done : ∀ H', Ex H15 H' → ∀ fo, Dp K H' fo (wordT ts) → Q1 fo H' := fun H' e fo hfo => q1 fo H' ⟨cr15.same e, hB15.same e, hT15.ext e, e _ _ hhp15, dps_same e hus15, dp_same e hdv15, hfo⟩
        clear q1
        have fail : ∀ (X : Addr) (nm : Str) (v : V) (fs : List (Str × V)) (dd : Addr) (H16 : Hp) (d : PyData), PySem.W.exmAny K (.ref X) [.ref cI, .ref cM, .ref cL] = some true → FldC K X → Ex H15 H16 → H16 dd = none → fs.lookup (α := Str) "word" = some (V.str nm) → FieldIs nm fs v → (∀ H', Dp K H' v d) → wordT ts = .tuple [.str nm, d] → E2 (.ref X) (some dd) (upd H16 dd (.xd fs)) := fun X nm v fs dd H16 d hx hf e16 ndd hw hfi hvd hwt => by
          have sdd := e16.trans (same_new (o := .xd fs) ndd)
          refine hE _ _ _ ⟨X, dd, nm, v, rfl, rfl, hx, ⟨hf, fs, upd_same, hw, hfi⟩, fun p2 H33 s33 np2 => ⟨p2, _, _, _, rfl, upd_same, fun p3 np3 => ?_⟩⟩
          have e34 := ((sdd.trans s33).trans (same_new np2)).trans (same_new (o := .tup [V.str nm, v]) np3)
          refine done _ e34 _ ?_
          rw [hwt]
          exact .tup (.of upd_same) (.cons (.str _) (.cons (hvd _) .nil))
        refine ⟨.ref hp, rfl, fun x dx nx ndx nxd => ?_⟩
        have s0 : Same H15 (upd (upd H15 dx (.own x)) x (.ins C dx [])) := (same_new ndx).trans (same_new (by rw [upd_ne nxd.symm]; exact nx))
        refine ⟨x, dx, .ref hp, ts, rfl, upd_same, dp_same s0 (.lst (.of hhp15) hus15), fun t ht => (ct t ht).fine, by omega, ⟨fun i t h1 h2 h3 H' e' d nd => ?_, fun h i z h1 h2 h3 H' e' d nd => ?_, fun h1 h2 h3 H' e' d nd => ?_⟩, fun gd m em g d H3 nd k3 hc => ⟨rfl, ?_⟩⟩
        · exact fail BW "BadWriter" (.int (i : Int)) _ d H' (.int (i : Int)) hX1 hF1 (s0.trans e') nd rfl (by unfold FieldIs; rw [show fieldN "BadWriter" = some "at" from by decide +kernel]; rfl) (fun _ => .int _) (word_bw h1 h2 h3)
        · exact fail TK "Taken" (.str z) _ d H' (.str z) hX2 hF2 (s0.trans e') nd rfl (by unfold FieldIs; rw [show fieldN "Taken" = some "name" from by decide +kernel]; rfl) (fun _ => .str _) (word_tk h h1 h2 h3)
        · exact fail FU "Full" .non _ d H' .none hX3 hF3 (s0.trans e') nd rfl (by unfold FieldIs; rw [show fieldN "Full" = none from by decide +kernel]) (fun _ => .non) (word_fu h1 h2 h3)
        · have e3 : Ex H15 H3 := fun b o e => k3 b o (s0 b o e) (ne_of_none e nx)
          refine hQ _ H3 fun p np => ⟨p, _, _, _, rfl, upd_same, fun p3 np3 => done _ ((e3.trans (same_new np)).trans (same_new np3)) _ ?_⟩
          rw [word_ok gd]
          exact .tup (.of upd_same) (.cons (.str _) (.cons .non .nil))
      obtain ⟨cr20, hB20, hT20, hhp20, hus20, hdv20, hfo⟩ := hM
      clear cr11 hB11 hT11 hhp11 hus11 hdv11
      refine ⟨dv, rfl, fo, dv, rfl, lk_dp 7 (wordT ts) _ _ (word_ok7 ts) hfo hdv20, fun H21 s21 => ⟨true, rfl, iteF ?_⟩⟩
      have cs := crew_shaped06 ct
      refine (et_is (et_test (ev_neD (K := K) (ed_var (i := 5) rfl (.lst (.of (s21 _ _ hhp20)) (dps_same s21 hus20))) (ed_var (i := 3) rfl (cr20.same s21).dp) cs cs)) (show _ = false by rw [eqv_refl06 ct]; rfl)) H21 (.refl H21) _ fun H22 e22 => iteF ?_
      have e2022 := s21.trans e22
      have cr22 := cr20.same e2022
      have hB22 := hB20.same e2022
      have hT22 := hT20.ext e2022
      have hhp22 := e2022 _ _ hhp20
      have hdv22 := dp_same e2022 hdv20
      clear cr20 hB20 hT20 hhp20 hus20 hdv20 hfo e2022 s21 e22 cs
      have hdw : ∀ {H' : Hp}, Dp K H' dv (wordT ts) → Dp K H' dv (.tuple [.str (wordS ts), wordF ts]) := fun h => h
      refine s_if (b := !decide (V.str (wordS ts) = V.str "")) (et_test (ev_op (ev_str (ed_ixT (K := K) (n := 0) (d := .str (wordS ts)) (ed_var (i := 6) rfl (hdw hdv22)) ev_c (by decide) rfl)) ev_c (rv_ne rfl))) (fun _ H23 e23 => ?_) fun hb H23 e23 => ?_
      · exact ⟨⟨_, _, _, _, _, _, _, _, _, _, _, _, rfl⟩, hB22.same e23, hT22.ext e23⟩
      refine go_next ?_
      try dsimp only [List.set]
      have hw0 : wordS ts = "" := by
        cases e : decide (V.str (wordS ts) = V.str "") with
        | true =>
          have := of_decide_eq_true e
          injection this
        | false =>
          rw [e] at hb
          cases hb
      have gd := word_good hw0
      obtain ⟨m, rfl⟩ := all_w gd.1
      have g := good_m (fun t ht => (ct t ht).fine) gd
      have g3 := g.len
      have M23 : MAt K H23 a cp m := by
        obtain ⟨n, us, h1, h2⟩ := cr22.same e23
        rw [List.map_map] at h2
        exact ⟨us, h1, h2, n⟩
      have hB23 := hB22.same e23
      have hT23 := hT22.ext e23
      have hhp23 := e23 _ _ hhp22
      clear cr22 hB22 hT22 hhp22 hdv22 hdw e23 hb
      -- the names
      refine sd_asgN (K := K) (ds := (m.map (·.1)).map PyData.str) (en_is06 (en_map (K := K) (σ := [some (.ref c), some (.ref a), some (.int (i : Int)), some (.ref cp), y4, some (.ref hp), some dv, y7, y8, y9, y10, y11, y12, y13, none, none]) (g := gName 14) (vs := [14]) m dW (fun x => PyData.str x.1) (ei_lst (ed_var (i := 3) rfl M23.dp)) (by omega) (fun x _ => by unfold fz; rfl) fun jj x H14 xv hx e14 hd R kk => kk [some (.ref c), some (.ref a), some (.int (i : Int)), some (.ref cp), y4, some (.ref hp), some dv, y7, y8, y9, y10, y11, y12, y13, some xv, none] rfl (ed_ixT (ds := [.str x.1, .tuple (x.2.1.map dA), .int x.2.2.1, .int x.2.2.2]) (ed_var (i := 14) rfl hd) ev_c (by decide) rfl)) (by rw [List.map_map]; rfl)) fun np nus H24 nnp e24 hnp hnus => ?_
      try dsimp only [List.set]
      rw [dps_str hnus] at hnp
      have npa : np ≠ a := (hB23.ne nnp).1.symm
      have nph : np ≠ hp := (ne_of_none hhp23 nnp).symm
      have M24 := M23.same e24
      have hB24 := hB23.same e24
      have hT24 := hT23.ext e24
      have hhp24 := e24 _ _ hhp23
      clear M23 hB23 hT23 hhp23 hnus
      -- two companies
      obtain ⟨z, hz1, hz2, hz3⟩ := fresh_some (zs := m.map (·.1)) (by rw [List.length_map]; exact g3)
      have g2 := more_good06 g hz2 hz3
      obtain ⟨m2, em2⟩ : ∃ m2, m2 = m ++ [((z, [], 0, 0) : Wr)].take (3 - m.length) := ⟨_, rfl⟩
      rw [← em2] at g2
      refine q_asgTup06 ((ec_make06 (P := P) (w := w) (K := K) (C := C) (c := .tuple) (σ := [some (.ref c), some (.ref a), some (.int (i : Int)), some (.ref cp), y4, some (.ref hp), some dv, some (.ref np), y8, y9, y10, y11, y12, y13, none, none]) (ed_tuple (ed_var (i := 3) rfl M24.dp)) g) H24 (.refl H24) _ fun c1 H25 e25 hc1 => ?_)
      have hnp25 := e25 _ _ hnp
      have hnD : Dp K H25 (.ref np) (.list ((m.map (·.1)).map PyData.str)) := .lst (.of hnp25) (dps_strs06 _)
      have M25 := M24.same e25
      refine (ec_make06 (P := P) (w := w) (K := K) (C := C) (c := .list) (m := m2) (σ := [some (.ref c), some (.ref a), some (.int (i : Int)), some (.ref cp), y4, some (.ref hp), some dv, some (.ref np), y8, y9, y10, y11, y12, y13, none, none]) (EvN.list (en_is06 (en_cat06 (ed_var (i := 3) rfl M25.dp) (EvN.list (en_slToL (k := 3 - m.length) (EvN.list (en_lst (eds_cons (ed_tup (eds_cons (ed_call (R := RFresh) (d := .str z) (eds_cons (ed_var (i := 7) rfl hnD) eds_nil) ⟨m.map (·.1), z, by rw [List.length_map]; exact g3, rfl, hz1, rfl⟩) (eds_cons (ed_tup eds_nil (by decide)) (eds_cons (ed_int ev_c) (eds_cons (ed_int ev_c) eds_nil)))) (by show 4 ≤ 100000; decide)) eds_nil) (by show 1 ≤ 100000; decide))) (ev_is (ev_op ev_c (ev_is (ev_lenD (K := K) (ed_var (i := 3) rfl M25.dp) (.inl rfl)) (by rw [List.length_map])) rv_I0) (show V.int (3 - ((m.length : Nat) : Int)) = V.int ((3 - m.length : Nat) : Int) from congrArg V.int (by omega))))) (by rw [List.length_map, List.length_take]; show m.length + min _ 1 ≤ 100000; omega)) (by rw [em2, List.map_append, List.map_take]; rfl))) g2) H25 (.refl H25) _ fun c2 H26 e26 hc2 => ⟨by show 2 ≤ sizeLine; decide, fun tp2 ntp2 => ⟨tp2, _, rfl, .of upd_same, rfl, _, _, rfl, _, _, rfl, rfl, ?_⟩⟩
      try dsimp only [List.set]
      have e27 := Ex.new (o := .tup [V.ref c1, .ref c2]) ntp2
      have e2427 := (e25.trans e26).trans e27
      have A27 : At06 P w K C a l P0 cp np c1 c2 m m2 (upd H26 tp2 (.tup [V.ref c1, .ref c2])) := ⟨hB24.same e2427, hT24.ext e2427, M24.same e2427, e2427 _ _ hnp, npa, ⟨0, hc1.fr (.of (e26.trans e27))⟩, ⟨0, hc2.fr (.of e27)⟩⟩
      have hhp27 := e2427 _ _ hhp24
      generalize upd H26 tp2 (.tup [V.ref c1, .ref c2]) = H27 at *
      clear M24 M25 hB24 hT24 hhp24 hnp hnp25 hnD e25 e26 e27 e2427 hc1 hc2 ntp2 nnp e24
      -- what was handed is emptied
      refine ⟨.ref hp, rfl, .inl ⟨rfl, _, .of hhp27⟩, hp, _, rfl, rfl, hhp27, ?_⟩
      try dsimp only [List.set]
      have A28 := A27.upd (ys := []) hhp27 hnl hcp nph
      generalize upd H27 hp (.lst []) = H28 at *
      clear A27 hhp27
      have eqn : (m.map dW).isEmpty = m.isEmpty := by cases m <;> rfl
      -- asked twice
      refine q_for06 ⟨2, rfl, by decide, by decide, ?_⟩
      refine for_it (walk_range0 (n := 2)) (fun o σ' H' => ∃ (y10 y11 y12 y13 : Option V), σ' = [some (.ref c), some (.ref a), some (.int (i : Int)), some (.ref cp), y4, some (.ref hp), some dv, some (.ref np), some (.ref c1), some (.ref c2), y10, y11, y12, y13, none, none] ∧ At06 P w K C a l P0 cp np c1 c2 m m2 H' ∧ (0 < o → y12 = some (.str (textC m)))) ⟨_, _, _, _, rfl, A28, fun h => absurd h (by decide)⟩ (fun _ _ _ _ _ => True.intro) (fun o y σ' Hc Hd ho hP hy => ?_) (fun σ' H29 hP => ?_)
      · clear A28
        obtain ⟨y10, y11, y12, y13, rfl, A, _⟩ := hP
        obtain ⟨rfl, rfl⟩ := hy
        refine g_go ?_
        try dsimp only [List.set]
        obtain ⟨n1, hc⟩ := A.one
        have hcE : ∀ {H' : Hp}, Ex Hd H' → CoAt P w K C H' c1 m n1 := fun e => hc.fr (.of e)
        refine use_asg06 (q_lst606 ?_)
        refine use_n06 (en_writers (P := P) (w := w) (C := C) (ev_var (i := 8) rfl) hc) fun wp wus H30 nwp e30 hwp hwus => ?_
        refine (?_ : tMeth C "names" (spCoNames P w K C) [] E0 (tVar 8) tNil [some (.ref c), some (.ref a), some (.int (i : Int)), some (.ref cp), y4, some (.ref hp), some dv, some (.ref np), some (.ref c1), some (.ref c2), some (.int (o : Int)), y11, y12, y13, none, none] H30 _)
        obtain ⟨dx, tw, d, kvs, hi1, _⟩ := id (hcE e30)
        refine ⟨.ref c1, rfl, c1, dx, _, rfl, hi1, coF_no _ _ nnam1 nnam2, c1, m, n1, rfl, hcE e30, g3, fun qp H31 nqp e31 hqp => ?_⟩
        have e3031 := e30.trans e31
        obtain ⟨dx2, tw2, d2, kvs2, hi2, _⟩ := id (hcE e3031)
        refine ⟨.ref c1, rfl, c1, dx2, _, ((m.length : Nat) : Int), rfl, hi2, by omega, by omega, c1, m, n1, rfl, hcE e3031, fun H32 e32 => ⟨rfl, ?_⟩⟩
        have e3032 := e3031.trans e32
        obtain ⟨dx3, tw3, d3, kvs3, hi3, _⟩ := id (hcE e3032)
        refine ⟨.ref c1, rfl, c1, dx3, _, rfl, hi3, c1, m, n1, rfl, hcE e3032, fun H33 e33 => ⟨_, rfl, by omega, by omega, ?_⟩⟩
        have e3033 := e3032.trans e33
        obtain ⟨dx4, tw4, d4, kvs4, hi4, _⟩ := id (hcE e3033)
        refine ⟨.ref c1, rfl, c1, dx4, _, rfl, hi4, c1, m, n1, rfl, hcE e3033, g, fun H34 e34 => ⟨_, rfl, ?_⟩⟩
        have e3034 := e3033.trans e34
        obtain ⟨dx5, tw5, d5, kvs5, hi5, _⟩ := id (hcE e3034)
        refine ⟨.ref c1, rfl, c1, dx5, _, rfl, hi5, c1, m, n1, rfl, hcE e3034, g, fun H35 e35 => ⟨_, rfl, by show 6 ≤ sizeLine; decide, fun tp ntp => g_go ?_⟩⟩
        try dsimp only [List.set]
        have htp : (upd H35 tp (.lst [.ref wp, .ref qp, .int ((m.length : Nat) : Int), .bl (((m.length : Nat) : Int) != 0), .str (showC m), .str (textC m)])) tp = some (.lst [.ref wp, .ref qp, .int ((m.length : Nat) : Int), .bl (((m.length : Nat) : Int) != 0), .str (showC m), .str (textC m)]) := upd_same
        have eN := Ex.new (o := .lst [V.ref wp, .ref qp, .int ((m.length : Nat) : Int), .bl (((m.length : Nat) : Int) != 0), .str (showC m), .str (textC m)]) ntp
        have e3135 := ((e32.trans e33).trans e34).trans e35
        have eAll := (e3034.trans e35).trans eN
        have hwp36 := (((e31.trans e3135).trans eN)) _ _ hwp
        have hwus36 := dps_same ((e31.trans e3135).trans eN) hwus
        have hqp36 := (e3135.trans eN) _ _ hqp
        have hcE36 := hcE eAll
        have nqp0 : Hd qp = none := Same.free e30 nqp
        have ntp0 : Hd tp = none := Same.free (e3034.trans e35) ntp
        have nwq : wp ≠ qp := ne_of_none hwp nqp
        have ntw : tp ≠ wp := (ne_of_none ((e31.trans e3135) _ _ hwp) ntp).symm
        have ntq : tp ≠ qp := (ne_of_none (e3135 _ _ hqp) ntp).symm
        generalize upd H35 tp (.lst [V.ref wp, .ref qp, .int ((m.length : Nat) : Int), .bl (((m.length : Nat) : Int) != 0), .str (showC m), .str (textC m)]) = H36 at *
        have A36 := A.same eAll
        clear e30 e31 e32 e33 e34 e35 eN e3135 e3031 e3032 e3033 e3034 ntp nqp hi1 hi2 hi3 hi4 hi5 hwp hwus hqp hcE36
        -- its text
        refine use_asg06 ((text_of06 (K := K) g (by
          have h := en_map (K := K) (H := H36) (σ := [some (.ref c), some (.ref a), some (.int (i : Int)), some (.ref cp), y4, some (.ref hp), some dv, some (.ref np), some (.ref c1), some (.ref c2), some (.int (o : Int)), some (.ref tp), y12, y13, none, none]) (g := gName 14) (vs := [14]) (te := tCall (spP K RWT) [] E0 (tCons (tVar 14) tNil)) m dW (fun x => PyData.str (wrT x)) (ei_lst (ed_var (i := 3) rfl A36.cr.dp)) (by omega) (fun x _ => by unfold fz; rfl) fun jj x H14 xv hx e14 hd R kk => kk [some (.ref c), some (.ref a), some (.int (i : Int)), some (.ref cp), y4, some (.ref hp), some dv, some (.ref np), some (.ref c1), some (.ref c2), some (.int (o : Int)), some (.ref tp), y12, y13, some xv, none] rfl (ed_call (eds_cons (ed_var (i := 14) rfl hd) eds_nil) ⟨x, rfl, g.wr x (List.mem_of_getElem? hx), rfl⟩)
          rw [List.map_map]
          exact h)) H36 (.refl H36) _ fun H37 e37 => g_go ?_)
        try dsimp only [List.set]
        have l1 : (Str.ofString "Company(").length ≤ 100 := by decide +kernel
        have l2 : (Str.ofString " writers)").length ≤ 100 := by decide +kernel
        have hn := num_ok (n := ((m.length : Nat) : Int)) (by omega)
        have A37 := A36.same e37
        refine use_asg06 ((ev_is (ev_op (ev_op ev_c (ev_strI (ev_is (ev_lenD (K := K) (σ := [some (.ref c), some (.ref a), some (.int (i : Int)), some (.ref cp), y4, some (.ref hp), some dv, some (.ref np), some (.ref c1), some (.ref c2), some (.int (o : Int)), some (.ref tp), some (.str (textC m)), y13, none, none]) (ed_var (i := 3) rfl A37.cr.dp) (.inl rfl)) (show _ = V.int ((m.length : Nat) : Int) by rw [List.length_map])) (by omega) (by omega)) (rv_addS (by omega))) ev_c (rv_addS (by rw [Str.length_append]; omega))) (show _ = V.str (showC m) from rfl)) H37 (.refl H37) _ fun H38 e38 => g_go ?_)
        try dsimp only [List.set]
        have e3638 := e37.trans e38
        have A38 := A36.same e3638
        have hwp38 := e3638 _ _ hwp36
        have hwus38 := dps_same e3638 hwus36
        have hqp38 := e3638 _ _ hqp36
        have htp38 := e3638 _ _ htp
        have ebl : (((m.length : Nat) : Int) != 0) = !(m.map dW).isEmpty := by
          rw [eqn]
          cases m with
          | nil => rfl
          | cons x r =>
            show (((r.length + 1 : Nat) : Int) != 0) = true
            exact bne_iff_ne.mpr (by omega)
        have htd : Dp K H38 (.ref tp) (told06 m) := .lst (.of htp38) (.cons (.lst (.of hwp38) hwus38) (.cons (.lst (.of hqp38) (dps_strs06 _)) (.cons (.int _) (.cons (by rw [ebl]; exact .bl _) (.cons (.str _) (.cons (.str _) .nil))))))
        refine s_if (b := false) (et_is (et_not (a := true) (et_B (ev_like06 (K := K) (d := told06 m) (n := 7) (ed_var (i := 11) rfl htd) (EvN.list (en_lst (eds_cons (ed_var (i := 3) rfl A38.cr.dp) (eds_cons (ed_var (i := 7) rfl (.lst (.of A38.nm) (dps_strs06 _))) (eds_cons (ed_int (ev_is (ev_lenD (K := K) (ed_var (i := 3) rfl A38.cr.dp) (.inl rfl)) (show _ = V.int ((m.length : Nat) : Int) by rw [List.length_map]))) (eds_cons (ed_bl (ev_is (ev_neD (K := K) (ed_var (i := 3) rfl A38.cr.dp) (EvN.list (en_lst eds_nil (by decide))) (crew_shaped06g g) shaped_nil06) (show V.bl (!PyData.eqv (.list (m.map dW)) (.list [])) = V.bl (!(m.map dW).isEmpty) by rw [eqv_nil, eqn]))) (eds_cons (ed_str (ev_var (i := 13) rfl)) (eds_cons (ed_str (ev_var (i := 12) rfl)) eds_nil)))))) (by show 6 ≤ 100000; decide))) (told_ok06 g)))) rfl) (fun h => nomatch h) fun _ H39 e39 => ?_
        refine go_next ?_
        try dsimp only [List.set]
        have hwp39 := e39 _ _ hwp38
        have hqp39 := e39 _ _ hqp38
        have htp39 := e39 _ _ htp38
        have e0 := (eAll.trans e3638).trans e39
        -- what was told is emptied
        refine ⟨.ref tp, rfl, tp, _, 0, .ref wp, rfl, rfl, .of htp39, atI_of (by decide) rfl, .inl ⟨rfl, _, .of hwp39⟩, wp, _, rfl, rfl, hwp39, ?_⟩
        try dsimp only [List.set]
        have e1 := Ex.mut (o := .lst ([] : List V)) e0 nwp
        have htp40 : (upd H39 wp (.lst ([] : List V))) tp = _ := (upd_ne ntw).trans htp39
        have hqp40 : (upd H39 wp (.lst ([] : List V))) qp = _ := (upd_ne nwq.symm).trans hqp39
        generalize upd H39 wp (.lst ([] : List V)) = H40 at *
        refine ⟨.ref tp, rfl, tp, _, 1, .ref qp, rfl, rfl, .of htp40, atI_of (by decide) rfl, .inl ⟨rfl, _, .of hqp40⟩, ?_⟩
        refine ⟨qp, _, .str "", rfl, rfl, hqp40, sz_lt (by rw [List.length_map, List.length_map]; omega), ?_⟩
        have e2 := Ex.mut (o := .lst ((m.map (·.1)).map V.str ++ [V.str ""])) e1 nqp0
        exact ⟨_, _, _, _, rfl, A.same e2, fun _ => rfl⟩
      clear A28
      obtain ⟨y10, y11, y12, y13, rfl, A, hy12⟩ := hP
      obtain rfl := hy12 (by decide)
      try dsimp only
      obtain ⟨n1, hc⟩ := A.one
      obtain ⟨n2, hd2⟩ := A.two
      have eqs : eqO (some m) m = true := decide_eq_true rfl
      -- equal to one of the same writers, and to no other
      refine s_if (b := false) (et_is (et_or (a := false) (b := false) (et_is (et_test (ev_neC06 (P := P) (w := w) (K := K) (σ := [some (.ref c), some (.ref a), some (.int (i : Int)), some (.ref cp), y4, some (.ref hp), some dv, some (.ref np), some (.ref c1), some (.ref c2), y10, y11, some (.str (textC m)), y13, none, none]) Z EF (ev_var (i := 8) rfl) (ec_make06 (c := .list) (ed_var (i := 3) rfl A.cr.dp) g) hc g g)) (by rw [eqs]; rfl)) fun _ => et_is (et_test (ev_op (ev_eqO06 (P := P) (w := w) (K := K) (σ := [some (.ref c), some (.ref a), some (.int (i : Int)), some (.ref cp), y4, some (.ref hp), some dv, some (.ref np), some (.ref c1), some (.ref c2), y10, y11, some (.str (textC m)), y13, none, none]) (o := some m2) Z EF (ev_var (i := 8) rfl) (ev_var (i := 9) rfl) hc g ⟨c2, n2, rfl, hd2, g2⟩) (ev_op (ev_is (ev_lenD (K := K) (ed_var (i := 3) rfl A.cr.dp) (.inl rfl)) (show _ = V.int ((m.length : Nat) : Int) by rw [List.length_map])) ev_c rv_I0) (rv_ne rfl))) (by rw [em2, more_eq06 g3, decide_eq_true rfl]; rfl)) rfl) (fun h => nomatch h) fun _ H30 e30 => ?_
      refine go_next ?_
      try dsimp only [List.set]
      have A30 := A.same e30
      have hc30 := hc.fr (.of e30)
      have gr : GoodM m.reverse := ⟨by rw [List.length_reverse]; exact g3, fun x hx => g.wr x (List.mem_reverse.mp hx), by rw [List.map_reverse]; exact (List.reverse_perm _).nodup_iff.mpr g.nd⟩
      refine s_if (b := false) (et_is (et_test (ev_op (ev_eqC06 (P := P) (w := w) (K := K) (m2 := m.reverse) (σ := [some (.ref c), some (.ref a), some (.int (i : Int)), some (.ref cp), y4, some (.ref hp), some dv, some (.ref np), some (.ref c1), some (.ref c2), y10, y11, some (.str (textC m)), y13, none, none]) Z EF (ev_var (i := 8) rfl) (ec_make06 (c := .list) (EvN.list (en_is06 (en_rev06 (ed_var (i := 3) rfl A30.cr.dp)) (by rw [List.map_reverse]))) gr) hc30 g gr) (ev_op (ev_is (ev_lenD (K := K) (ed_var (i := 3) rfl A30.cr.dp) (.inl rfl)) (show _ = V.int ((m.length : Nat) : Int) by rw [List.length_map])) ev_c rv_I0) (rv_ne rfl))) (by rw [rev_eq06 g, decide_eq_true rfl]; rfl)) (fun h => nomatch h) fun _ H31 e31 => ?_
      refine go_next ?_
      try dsimp only [List.set]
      have A31 := A30.same e31
      have hc31 := hc30.fr (.of e31)
      -- and to nothing else
      refine s_if (b := false) (et_B (ev_is (ev_anyD (K := K) (bs := [false, false, false, false, false]) (EvN.list (by
        have h := en_map (K := K) (H := H31) (σ := [some (.ref c), some (.ref a), some (.int (i : Int)), some (.ref cp), y4, some (.ref hp), some dv, some (.ref np), some (.ref c1), some (.ref c2), y10, y11, some (.str (textC m)), y13, none, none]) (g := gName 15) (vs := [15]) (te := tOp (rEqO K C (spCoEq P w K C)) (tVar 8) (tVar 15)) (ti := iList K (tLst (tCons (tC .non) (tCons (tC (.int 0)) (tCons (tVar 12) (tCons (tVar 3) (tCons (tVar 7) tNil))))))) [PyData.none, .int 0, .str (textC m), .list (m.map dW), .list ((m.map (·.1)).map PyData.str)] (fun d => d) (fun _ => PyData.bool false) (by rw [List.map_id']; exact ei_lst (EvN.list (en_lst (eds_cons (ed_non ev_c) (eds_cons (ed_int ev_c) (eds_cons (ed_str (ev_var (i := 12) rfl)) (eds_cons (ed_var (i := 3) rfl A31.cr.dp) (eds_cons (ed_var (i := 7) rfl (.lst (.of A31.nm) (dps_strs06 _))) eds_nil))))) (by show 5 ≤ 100000; decide)))) (by show 5 ≤ 40000; decide) (fun _ _ => by unfold fz; rfl) fun jj x H14 xv hx e14 hd R kk => kk [some (.ref c), some (.ref a), some (.int (i : Int)), some (.ref cp), y4, some (.ref hp), some dv, some (.ref np), some (.ref c1), some (.ref c2), y10, y11, some (.str (textC m)), y13, none, some xv] rfl (ed_bl (ev_eqO06 (P := P) (w := w) (K := K) (o := none) Z EF (ev_var (i := 8) rfl) (ev_var (i := 15) rfl) (hc31.fr (.of e14)) g (oth_dp06 hd (by
          have hm := List.mem_of_getElem? hx
          simp only [List.mem_cons, List.not_mem_nil, or_false] at hm
          rcases hm with rfl | rfl | rfl | rfl | rfl
          · exact .inl rfl
          · exact .inr (.inl ⟨_, rfl⟩)
          · exact .inr (.inr (.inl ⟨_, rfl⟩))
          · exact .inr (.inr (.inr ⟨_, rfl⟩))
          · exact .inr (.inr (.inr ⟨_, rfl⟩))))))
        exact h))) rfl)) (fun h => nomatch h) fun _ H32 e32 => ?_
      have A32 := A31.same e32
      exact ⟨⟨_, _, _, _, _, _, _, _, _, _, _, _, rfl⟩, A32.b, A32.tb⟩
    · obtain ⟨⟨y2, y3, y4, y5, y6, y7, y8, y9, y10, y11, y12, y13, rfl⟩, hB2, hT2⟩ := hP
      have g0 : GoodM [] := ⟨Nat.zero_le _, fun _ h => (nomatch h), .nil⟩
      obtain ⟨tk1, em1⟩ := T.e_MOST_WRITERS
      refine s_ret (ev_andV (ev_is (ev_eqCC06 (P := P) (w := w) (K := K) (C := C) (m := []) (m2 := []) (σ := [some (.ref c), some (.ref a), y2, y3, y4, y5, y6, y7, y8, y9, y10, y11, y12, y13, none, none]) Z EF (ec_none06 hv0) (ec_make06 (m := []) (c := .list) (EvN.list (en_lst eds_nil (by decide))) g0) g0 g0) (show _ = V.bl true from rfl)) fun _ => ev_like06 (K := K) (d := .list [.int 3, .int 60]) (n := 7) (EvN.list (en_lst (eds_cons (ed_int ev_c) (eds_cons (ed_int ev_c) eds_nil)) (by decide))) (EvN.list (en_lst (eds_cons (ed_int ev_c) (eds_cons (ed_int ev_c) eds_nil)) (by decide))) ⟨by show 2 ≤ 100000; decide, fun d hd => by
        simp only [List.mem_cons, List.not_mem_nil, or_false] at hd
        rcases hd with rfl | rfl <;> exact True.intro⟩) fun H' e => q H'
end
end Ink
namespace Ink
open PySem PySem.W PySem.Calls PyProof.Rows HandSHeadRun
/-- a law's head by a run of its own, the written part and the tables of code looked at -/
theorem head_km {r : OpenRow} {q : Program} {K : Params → Frag} {as : List Addr} {ek : ∀ P, as = (K P).map (·.1)} {ts : List Addr} {M : Nat} {loose : List PySem.Str} {d : DefRec} {kwd : List (PySem.Str × PySem.Expr)}
    (e : opening r.prog = plainProg r.prog.main.scope.names) (f : ∀ s, fenceModules? r.prog s = some s)
    (run : ∀ (w : World) (os : OsState), (endF (stepQ (denQ tabQ) r.prog w) M r.prog w os).map (fun s => (looksF r.prog (boot_heap w.params) s.abs, seenQ q loose (importedModules r.prog.main.body) (fun s => xlAt q [] s && recOk r.toRowW.records s) s.abs, ((as.map (getT s), ts.map (getT s)) : List (Option Obj) × List (Option Obj)))) = some (true, openGood q loose, ((K w.params).map fun p => some p.2, ts.map fun _ => some (tabObj #[]))))
    (hdef : defOf q r.name = some (d, kwd)) (hp : r.prog.theDef r.name = some (d.params, d.body, d.scope)) (hk : kwWritten? d.params.kwonlyargs d.params.kw_defaults = some kwd)
    (hwr : (!r.writes || r.records.isEmpty) = true) (k1 : r.wellSaid = true) (ok : (chainsOk q && opensWell r.prog && (frees r.toRowW && r.within.isEmpty)) = true) (hb : r.prog.bare) (hw : r.toRowW.promised)
    (call : WalkO q loose (XL q []) (kmHook K as ek ts).says r.toRowW d kwd fun f vs => PySem.call f vs) : r.Holds :=
  head_any (H := kmHook K as ek ts) (ob := fun s => (as.map (getT s), ts.map (getT s))) (fun s => by
    show ((as.map (getT s), ts.map (getT s)) : List (Option Obj) × List (Option Obj)) = (as.map s.abs.heap.get?, ts.map s.abs.heap.get?)
    rw [List.map_congr_left (f := getT s) (g := s.abs.heap.get?) (l := as) fun a _ => getT_eq s a, List.map_congr_left (f := getT s) (g := s.abs.heap.get?) (l := ts) fun a _ => getT_eq s a]) e f (fun w os => run w os) hdef hp hk hwr k1 ok hb hw call
/-- a law's head by a run of its own, the written part looked at -/
theorem head_k {r : OpenRow} {q : Program} {K : Params → Frag} {as : List Addr} {ek : ∀ P, as = (K P).map (·.1)} {M : Nat} {loose : List PySem.Str} {d : DefRec} {kwd : List (PySem.Str × PySem.Expr)}
    (e : opening r.prog = plainProg r.prog.main.scope.names) (f : ∀ s, fenceModules? r.prog s = some s)
    (run : ∀ (w : World) (os : OsState), (endF (stepQ (denQ tabQ) r.prog w) M r.prog w os).map (fun s => (looksF r.prog (boot_heap w.params) s.abs, seenQ q loose (importedModules r.prog.main.body) (fun s => xlAt q [] s && recOk r.toRowW.records s) s.abs, as.map (getT s))) = some (true, openGood q loose, (K w.params).map fun p => some p.2))
    (hdef : defOf q r.name = some (d, kwd)) (hp : r.prog.theDef r.name = some (d.params, d.body, d.scope)) (hk : kwWritten? d.params.kwonlyargs d.params.kw_defaults = some kwd)
    (hwr : (!r.writes || r.records.isEmpty) = true) (k1 : r.wellSaid = true) (ok : (chainsOk q && opensWell r.prog && (frees r.toRowW && r.within.isEmpty)) = true) (hb : r.prog.bare) (hw : r.toRowW.promised)
    (call : WalkO q loose (XL q []) (kHook K as ek).says r.toRowW d kwd fun f vs => PySem.call f vs) : r.Holds :=
  head_any (H := kHook K as ek) (ob := fun s => as.map (getT s)) (fun s => by
    show as.map (getT s) = as.map s.abs.heap.get?
    exact List.map_congr_left fun a _ => getT_eq s a) e f (fun w os => run w os) hdef hp hk hwr k1 ok hb hw call
end Ink
namespace Ink
open PySem PySem.Spec PyProof.Rows L2
theorem all_mk {l : PySem.W.OpenLaw} {w : World} {K : PySem.W.Frag} {h : Heap} {mg : Str → Option Value} {fa fl : Addr} (X : K.In h) (G : h.Ns mainGlobals mg) (hfa : mg "law" = some (.ref fa))
    {c0 P0 : Addr} {oc1 kV1 dc1 pm1 cd1 ct1 : Value} {od1 an1 : Option Addr} {sl1 : Array (Option Value)} {f1 : Addr} {oc2 kV2 dc2 pm2 cd2 ct2 : Value} {od2 an2 : Option Addr} {sl2 : Array (Option Value)} {f2 : Addr} {oc3 kV3 dc3 pm3 cd3 ct3 : Value} {od3 an3 : Option Addr} {sl3 : Array (Option Value)} {f3 : Addr} {oc4 kV4 dc4 pm4 cd4 ct4 : Value} {od4 an4 : Option Addr} {sl4 : Array (Option Value)} {f4 : Addr} {oc5 kV5 dc5 pm5 cd5 ct5 : Value} {od5 an5 : Option Addr} {sl5 : Array (Option Value)} {f5 : Addr} {oc6 kV6 dc6 pm6 cd6 ct6 : Value} {od6 an6 : Option Addr} {sl6 : Array (Option Value)} {f6 : Addr} {oc7 kV7 dc7 pm7 cd7 ct7 : Value} {od7 an7 : Option Addr} {sl7 : Array (Option Value)} {f7 : Addr} {oc8 kV8 dc8 pm8 cd8 ct8 : Value} {od8 an8 : Option Addr} {sl8 : Array (Option Value)} {f8 : Addr} {oc9 kV9 dc9 pm9 cd9 ct9 : Value} {od9 an9 : Option Addr} {sl9 : Array (Option Value)} {f9 : Addr} {oc10 kV10 dc10 pm10 cd10 ct10 : Value} {od10 an10 : Option Addr} {sl10 : Array (Option Value)} {f10 : Addr} {oc11 kV11 dc11 pm11 cd11 ct11 : Value} {od11 an11 : Option Addr} {sl11 : Array (Option Value)} {f11 : Addr} {oc12 kV12 dc12 pm12 cd12 ct12 : Value} {od12 an12 : Option Addr} {sl12 : Array (Option Value)} {f12 : Addr} {oc13 kV13 dc13 pm13 cd13 ct13 : Value} {od13 an13 : Option Addr} {sl13 : Array (Option Value)} {f13 : Addr} {oc14 kV14 dc14 pm14 cd14 ct14 : Value} {od14 an14 : Option Addr} {sl14 : Array (Option Value)} {f14 : Addr} {oc15 kV15 dc15 pm15 cd15 ct15 : Value} {od15 an15 : Option Addr} {sl15 : Array (Option Value)} {f15 : Addr} {oc16 kV16 dc16 pm16 cd16 ct16 : Value} {od16 an16 : Option Addr} {sl16 : Array (Option Value)} {f16 : Addr} {oc17 kV17 dc17 pm17 cd17 ct17 : Value} {od17 an17 : Option Addr} {sl17 : Array (Option Value)} {f17 : Addr} {oc18 kV18 dc18 pm18 cd18 ct18 : Value} {od18 an18 : Option Addr} {sl18 : Array (Option Value)} {f18 : Addr} {oc19 kV19 dc19 pm19 cd19 ct19 : Value} {od19 an19 : Option Addr} {sl19 : Array (Option Value)} {f19 : Addr} {oc20 kV20 dc20 pm20 cd20 ct20 : Value} {od20 an20 : Option Addr} {sl20 : Array (Option Value)} {f20 : Addr} {oc21 kV21 dc21 pm21 cd21 ct21 : Value} {od21 an21 : Option Addr} {sl21 : Array (Option Value)} {f21 : Addr} {oc22 kV22 dc22 pm22 cd22 ct22 : Value} {od22 an22 : Option Addr} {sl22 : Array (Option Value)} {f22 : Addr} {oc23 kV23 dc23 pm23 cd23 ct23 : Value} {od23 an23 : Option Addr} {sl23 : Array (Option Value)} {f23 : Addr} {oc24 kV24 dc24 pm24 cd24 ct24 : Value} {od24 an24 : Option Addr} {sl24 : Array (Option Value)} {f24 : Addr} {oc25 kV25 dc25 pm25 cd25 ct25 : Value} {od25 an25 : Option Addr} {sl25 : Array (Option Value)} {f25 : Addr} {oc26 kV26 dc26 pm26 cd26 ct26 : Value} {od26 an26 : Option Addr} {sl26 : Array (Option Value)} {f26 : Addr} {oc27 kV27 dc27 pm27 ct27 : Value} {od27 an27 : Option Addr} {sl27 : Array (Option Value)} {t1 : Tok} {t2 : Tok} {t3 : Tok} {t4 : Tok} {t5 : Tok} {t6 : Tok} {C T0 e0 r0 : Addr} {cT : Value} {oT oE oN : Option Addr} {nT nE nN : Nat} {sT sE sN : Array (Option Value)} {u1 u2 : Tok} {ocA kVA dcA pmA cdA ctA : Value} {odA anA : Option Addr} {slA : Array (Option Value)} {fA : Addr} {ocW kVW dcW pmW cdW ctW : Value} {odW anW : Option Addr} {slW : Array (Option Value)} {fW : Addr} {ocCe kVCe dcCe pmCe cdCe ctCe : Value} {odCe anCe : Option Addr} {slCe : Array (Option Value)} {fCe : Addr} {ocCr kVCr dcCr pmCr cdCr ctCr : Value} {odCr anCr : Option Addr} {slCr : Array (Option Value)} {fCr : Addr} {ocCs kVCs dcCs pmCs cdCs ctCs : Value} {odCs anCs : Option Addr} {slCs : Array (Option Value)} {fCs : Addr} {ocCm kVCm dcCm pmCm cdCm ctCm : Value} {odCm anCm : Option Addr} {slCm : Array (Option Value)} {fCm : Addr} {ocCn kVCn dcCn pmCn cdCn ctCn : Value} {odCn anCn : Option Addr} {slCn : Array (Option Value)} {fCn : Addr} {T1 xI xM xL : Addr} {cUx : Value} {oUx : Option Addr} {nUx : Nat} {sUx : Array (Option Value)} {u3 : Tok}  {BW NBW : Addr} {qBW : Str} {bsBW bmBW subBW : List Value} {snBW : List Str} {abBW : Bool} {colBW : Option Bool} {ddBW : Option Addr} {kaBW kbBW kdBW kfBW : Option Value} {tkBW : Tok} {TK NTK : Addr} {qTK : Str} {bsTK bmTK subTK : List Value} {snTK : List Str} {abTK : Bool} {colTK : Option Bool} {ddTK : Option Addr} {kaTK kbTK kdTK kfTK : Option Value} {tkTK : Tok} {FU NFU : Addr} {qFU : Str} {bsFU bmFU subFU : List Value} {snFU : List Str} {abFU : Bool} {colFU : Option Bool} {ddFU : Option Addr} {kaFU kbFU kdFU kfFU : Option Value} {tkFU : Tok} {ocE kVE dcE pmE cdE ctE : Value} {odE anE : Option Addr} {slE : Array (Option Value)} {fE : Addr} {ocYBW kVYBW dcYBW pmYBW cdYBW ctYBW : Value} {odYBW anYBW : Option Addr} {slYBW : Array (Option Value)} {fYBW : Addr} {ocYTK kVYTK dcYTK pmYTK cdYTK ctYTK : Value} {odYTK anYTK : Option Addr} {slYTK : Array (Option Value)} {fYTK : Addr} 
    (hT8 : ∀ Q ∈ [P0], h.get? Q = some (PySem.W.tabObj #[]))
    (a1 : PySem.W.nsIn K mainGlobals "is_name" = some (some (.ref f1))) (l1 : K.lookup f1 = some ⟨oc1, od1, .func (PySem.W.fnOf "is_name" "is_name" (defArgs sIsName) (defBody sIsName) (defScope sIsName) .none kV1 dc1 pm1 an1 cd1 ct1), sl1⟩) (c1 : PySem.W.codeIn K cd1 "is_name" = true) (k1 : PySem.W.keepIn K (.ref f1) = true)
    (a2 : PySem.W.nsIn K mainGlobals "is_sign" = some (some (.ref f2))) (l2 : K.lookup f2 = some ⟨oc2, od2, .func (PySem.W.fnOf "is_sign" "is_sign" (defArgs sIsSign) (defBody sIsSign) (defScope sIsSign) .none kV2 dc2 pm2 an2 cd2 ct2), sl2⟩) (c2 : PySem.W.codeIn K cd2 "is_sign" = true) (k2 : PySem.W.keepIn K (.ref f2) = true)
    (a3 : PySem.W.nsIn K mainGlobals "is_writer" = some (some (.ref f3))) (l3 : K.lookup f3 = some ⟨oc3, od3, .func (PySem.W.fnOf "is_writer" "is_writer" (defArgs sIsWriter) (defBody sIsWriter) (defScope sIsWriter) .none kV3 dc3 pm3 an3 cd3 ct3), sl3⟩) (c3 : PySem.W.codeIn K cd3 "is_writer" = true) (k3 : PySem.W.keepIn K (.ref f3) = true)
    (a4 : PySem.W.nsIn K mainGlobals "_is_count" = some (some (.ref f4))) (l4 : K.lookup f4 = some ⟨oc4, od4, .func (PySem.W.fnOf "_is_count" "_is_count" (defArgs sIsCount) (defBody sIsCount) (defScope sIsCount) .none kV4 dc4 pm4 an4 cd4 ct4), sl4⟩) (c4 : PySem.W.codeIn K cd4 "_is_count" = true) (k4 : PySem.W.keepIn K (.ref f4) = true)
    (a5 : PySem.W.nsIn K mainGlobals "_is_place" = some (some (.ref f5))) (l5 : K.lookup f5 = some ⟨oc5, od5, .func (PySem.W.fnOf "_is_place" "_is_place" (defArgs sIsPlace) (defBody sIsPlace) (defScope sIsPlace) .none kV5 dc5 pm5 an5 cd5 ct5), sl5⟩) (c5 : PySem.W.codeIn K cd5 "_is_place" = true) (k5 : PySem.W.keepIn K (.ref f5) = true)
    (a6 : PySem.W.nsIn K mainGlobals "_are_arrows" = some (some (.ref f6))) (l6 : K.lookup f6 = some ⟨oc6, od6, .func (PySem.W.fnOf "_are_arrows" "_are_arrows" (defArgs sAreArrows) (defBody sAreArrows) (defScope sAreArrows) .none kV6 dc6 pm6 an6 cd6 ct6), sl6⟩) (c6 : PySem.W.codeIn K cd6 "_are_arrows" = true) (k6 : PySem.W.keepIn K (.ref f6) = true)
    (a7 : PySem.W.nsIn K mainGlobals "_law_bag" = some (some (.ref f7))) (l7 : K.lookup f7 = some ⟨oc7, od7, .func (PySem.W.fnOf "_law_bag" "_law_bag" (defArgs sLBag) (defBody sLBag) (defScope sLBag) .none kV7 dc7 pm7 an7 cd7 ct7), sl7⟩) (c7 : PySem.W.codeIn K cd7 "_law_bag" = true) (k7 : PySem.W.keepIn K (.ref f7) = true)
    (a8 : PySem.W.nsIn K mainGlobals "_law_pull" = some (some (.ref f8))) (l8 : K.lookup f8 = some ⟨oc8, od8, .func (PySem.W.fnOf "_law_pull" "_law_pull" (defArgs sLPull) (defBody sLPull) (defScope sLPull) .none kV8 dc8 pm8 an8 cd8 ct8), sl8⟩) (c8 : PySem.W.codeIn K cd8 "_law_pull" = true) (k8 : PySem.W.keepIn K (.ref f8) = true)
    (a9 : PySem.W.nsIn K mainGlobals "_law_of" = some (some (.ref f9))) (l9 : K.lookup f9 = some ⟨oc9, od9, .func (PySem.W.fnOf "_law_of" "_law_of" (defArgs sLOf) (defBody sLOf) (defScope sLOf) .none kV9 dc9 pm9 an9 cd9 ct9), sl9⟩) (c9 : PySem.W.codeIn K cd9 "_law_of" = true) (k9 : PySem.W.keepIn K (.ref f9) = true)
    (a10 : PySem.W.nsIn K mainGlobals "_law_letters" = some (some (.ref f10))) (l10 : K.lookup f10 = some ⟨oc10, od10, .func (PySem.W.fnOf "_law_letters" "_law_letters" (defArgs sLLetters) (defBody sLLetters) (defScope sLLetters) .none kV10 dc10 pm10 an10 cd10 ct10), sl10⟩) (c10 : PySem.W.codeIn K cd10 "_law_letters" = true) (k10 : PySem.W.keepIn K (.ref f10) = true)
    (a11 : PySem.W.nsIn K mainGlobals "_law_like" = some (some (.ref f11))) (l11 : K.lookup f11 = some ⟨oc11, od11, .func (PySem.W.fnOf "_law_like" "_law_like" (defArgs sLLike) (defBody sLLike) (defScope sLLike) .none kV11 dc11 pm11 an11 cd11 ct11), sl11⟩) (c11 : PySem.W.codeIn K cd11 "_law_like" = true) (k11 : PySem.W.keepIn K (.ref f11) = true)
    (a12 : PySem.W.nsIn K mainGlobals "_law_names" = some (some (.ref f12))) (l12 : K.lookup f12 = some ⟨oc12, od12, .func (PySem.W.fnOf "_law_names" "_law_names" (defArgs sLNames) (defBody sLNames) (defScope sLNames) .none kV12 dc12 pm12 an12 cd12 ct12), sl12⟩) (c12 : PySem.W.codeIn K cd12 "_law_names" = true) (k12 : PySem.W.keepIn K (.ref f12) = true)
    (a13 : PySem.W.nsIn K mainGlobals "_law_signs" = some (some (.ref f13))) (l13 : K.lookup f13 = some ⟨oc13, od13, .func (PySem.W.fnOf "_law_signs" "_law_signs" (defArgs sLSigns) (defBody sLSigns) (defScope sLSigns) .none kV13 dc13 pm13 an13 cd13 ct13), sl13⟩) (c13 : PySem.W.codeIn K cd13 "_law_signs" = true) (k13 : PySem.W.keepIn K (.ref f13) = true)
    (a14 : PySem.W.nsIn K mainGlobals "_law_writer" = some (some (.ref f14))) (l14 : K.lookup f14 = some ⟨oc14, od14, .func (PySem.W.fnOf "_law_writer" "_law_writer" (defArgs sLWriter) (defBody sLWriter) (defScope sLWriter) .none kV14 dc14 pm14 an14 cd14 ct14), sl14⟩) (c14 : PySem.W.codeIn K cd14 "_law_writer" = true) (k14 : PySem.W.keepIn K (.ref f14) = true)
    (a15 : PySem.W.nsIn K mainGlobals "_need_company" = some (some (.ref f15))) (l15 : K.lookup f15 = some ⟨oc15, od15, .func (PySem.W.fnOf "_need_company" "_need_company" (defArgs sNeedCompany) (defBody sNeedCompany) (defScope sNeedCompany) .none kV15 dc15 pm15 an15 cd15 ct15), sl15⟩) (c15 : PySem.W.codeIn K cd15 "_need_company" = true) (k15 : PySem.W.keepIn K (.ref f15) = true)
    (a16 : PySem.W.nsIn K mainGlobals "_law_company" = some (some (.ref f16))) (l16 : K.lookup f16 = some ⟨oc16, od16, .func (PySem.W.fnOf "_law_company" "_law_company" (defArgs sLCompany) (defBody sLCompany) (defScope sLCompany) .none kV16 dc16 pm16 an16 cd16 ct16), sl16⟩) (c16 : PySem.W.codeIn K cd16 "_law_company" = true) (k16 : PySem.W.keepIn K (.ref f16) = true)
    (a17 : PySem.W.nsIn K mainGlobals "_law_fresh" = some (some (.ref f17))) (l17 : K.lookup f17 = some ⟨oc17, od17, .func (PySem.W.fnOf "_law_fresh" "_law_fresh" (defArgs sLFresh) (defBody sLFresh) (defScope sLFresh) .none kV17 dc17 pm17 an17 cd17 ct17), sl17⟩) (c17 : PySem.W.codeIn K cd17 "_law_fresh" = true) (k17 : PySem.W.keepIn K (.ref f17) = true)
    (a18 : PySem.W.nsIn K mainGlobals "_law_is_name" = some (some (.ref f18))) (l18 : K.lookup f18 = some ⟨oc18, od18, .func (PySem.W.fnOf "_law_is_name" "_law_is_name" (defArgs sLIsName) (defBody sLIsName) (defScope sLIsName) .none kV18 dc18 pm18 an18 cd18 ct18), sl18⟩) (c18 : PySem.W.codeIn K cd18 "_law_is_name" = true) (k18 : PySem.W.keepIn K (.ref f18) = true)
    (a19 : PySem.W.nsIn K mainGlobals "_law_is_writer" = some (some (.ref f19))) (l19 : K.lookup f19 = some ⟨oc19, od19, .func (PySem.W.fnOf "_law_is_writer" "_law_is_writer" (defArgs sLIsWriter) (defBody sLIsWriter) (defScope sLIsWriter) .none kV19 dc19 pm19 an19 cd19 ct19), sl19⟩) (c19 : PySem.W.codeIn K cd19 "_law_is_writer" = true) (k19 : PySem.W.keepIn K (.ref f19) = true)
    (a20 : PySem.W.nsIn K mainGlobals "writer_text" = some (some (.ref f20))) (l20 : K.lookup f20 = some ⟨oc20, od20, .func (PySem.W.fnOf "writer_text" "writer_text" (defArgs sWriterText) (defBody sWriterText) (defScope sWriterText) .none kV20 dc20 pm20 an20 cd20 ct20), sl20⟩) (c20 : PySem.W.codeIn K cd20 "writer_text" = true) (k20 : PySem.W.keepIn K (.ref f20) = true)
    (a21 : PySem.W.nsIn K mainGlobals "_law_writer_text" = some (some (.ref f21))) (l21 : K.lookup f21 = some ⟨oc21, od21, .func (PySem.W.fnOf "_law_writer_text" "_law_writer_text" (defArgs sLWriterText) (defBody sLWriterText) (defScope sLWriterText) .none kV21 dc21 pm21 an21 cd21 ct21), sl21⟩) (c21 : PySem.W.codeIn K cd21 "_law_writer_text" = true) (k21 : PySem.W.keepIn K (.ref f21) = true)
    (a22 : PySem.W.nsIn K mainGlobals "_law_field" = some (some (.ref f22))) (l22 : K.lookup f22 = some ⟨oc22, od22, .func (PySem.W.fnOf "_law_field" "_law_field" (defArgs sLField) (defBody sLField) (defScope sLField) .none kV22 dc22 pm22 an22 cd22 ct22), sl22⟩) (c22 : PySem.W.codeIn K cd22 "_law_field" = true) (k22 : PySem.W.keepIn K (.ref f22) = true)
    (a23 : PySem.W.nsIn K mainGlobals "_law_tried" = some (some (.ref f23))) (l23 : K.lookup f23 = some ⟨oc23, od23, .func (PySem.W.fnOf "_law_tried" "_law_tried" (defArgs sLTried) (defBody sLTried) (defScope sLTried) .none kV23 dc23 pm23 an23 cd23 ct23), sl23⟩) (c23 : PySem.W.codeIn K cd23 "_law_tried" = true) (k23 : PySem.W.keepIn K (.ref f23) = true)
    (a24 : PySem.W.nsIn K mainGlobals "_law_refused" = some (some (.ref f24))) (l24 : K.lookup f24 = some ⟨oc24, od24, .func (PySem.W.fnOf "_law_refused" "_law_refused" (defArgs sLRefused) (defBody sLRefused) (defScope sLRefused) .none kV24 dc24 pm24 an24 cd24 ct24), sl24⟩) (c24 : PySem.W.codeIn K cd24 "_law_refused" = true) (k24 : PySem.W.keepIn K (.ref f24) = true)
    (a25 : PySem.W.nsIn K mainGlobals "_law_crew_word" = some (some (.ref f25))) (l25 : K.lookup f25 = some ⟨oc25, od25, .func (PySem.W.fnOf "_law_crew_word" "_law_crew_word" (defArgs sLCrewWord) (defBody sLCrewWord) (defScope sLCrewWord) .none kV25 dc25 pm25 an25 cd25 ct25), sl25⟩) (c25 : PySem.W.codeIn K cd25 "_law_crew_word" = true) (k25 : PySem.W.keepIn K (.ref f25) = true)
    (a26 : PySem.W.nsIn K mainGlobals "_law_bent_crew" = some (some (.ref f26))) (l26 : K.lookup f26 = some ⟨oc26, od26, .func (PySem.W.fnOf "_law_bent_crew" "_law_bent_crew" (defArgs sLBentCrew) (defBody sLBentCrew) (defScope sLBentCrew) .none kV26 dc26 pm26 an26 cd26 ct26), sl26⟩) (c26 : PySem.W.codeIn K cd26 "_law_bent_crew" = true) (k26 : PySem.W.keepIn K (.ref f26) = true)
    (a27 : PySem.W.nsIn K mainGlobals "law" = some (some (.ref fl))) (l27 : K.lookup fl = some ⟨oc27, od27, .func (PySem.W.fnOf "law" "law" (defArgs sLaw) (defBody sLaw) (defScope sLaw) .none kV27 dc27 pm27 an27 (.ref c0) ct27), sl27⟩) (c27 : PySem.W.codeIn K (.ref c0) "law" = true) (k27 : PySem.W.keepIn K (.ref fl) = true)
    (z1 : PySem.W.nsIn K mainGlobals "max" = some none)
    (z2 : PySem.W.nsIn K mainGlobals "len" = some none)
    (z3 : PySem.W.nsIn K mainGlobals "all" = some none)
    (z4 : PySem.W.nsIn K mainGlobals "any" = some none)
    (z5 : PySem.W.nsIn K mainGlobals "list" = some none)
    (z6 : PySem.W.nsIn K mainGlobals "range" = some none)
    (z7 : PySem.W.nsIn K mainGlobals "zip" = some none)
    (z8 : PySem.W.nsIn K mainGlobals "isinstance" = some none)
    (z9 : PySem.W.nsIn K mainGlobals "tuple" = some none)
    (z10 : PySem.W.nsIn K mainGlobals "bool" = some none)
    (z11 : PySem.W.nsIn K mainGlobals "int" = some none)
    (z12 : PySem.W.nsIn K mainGlobals "str" = some none)
    (z13 : PySem.W.nsIn K mainGlobals "repr" = some none)
    (z14 : PySem.W.nsIn K mainGlobals "sorted" = some none)
    (z15 : PySem.W.nsIn K mainGlobals "enumerate" = some none)
    (y1 : PySem.W.nsIn K mainGlobals "_MOST_LETTERS" = some (some (.int 6 t1)))
    (y2 : PySem.W.nsIn K mainGlobals "MOST_ARROWS" = some (some (.int 9 t2)))
    (y3 : PySem.W.nsIn K mainGlobals "MOST_COUNT" = some (some (.int 3 t3)))
    (y4 : PySem.W.nsIn K mainGlobals "_LAST_PLACE" = some (some (.int 2 t4)))
    (y5 : PySem.W.nsIn K mainGlobals "MOST_WRITERS" = some (some (.int 3 t5)))
    (y6 : PySem.W.nsIn K mainGlobals "MOST_STANDS" = some (some (.int 60 t6)))
    (hC8 : PySem.W.codeHdIn K c0 P0 = true) (nT8 : K.lookup P0 = none)
    (aC : PySem.W.nsIn K mainGlobals "Company" = some (some (.ref C))) 
    (aA : PySem.W.findIn K (.ref C) "__init__" = some (some (.ref fA))) (iA : PySem.W.isFn K (.ref fA) = true) (lA : K.lookup fA = some ⟨ocA, odA, .func (PySem.W.fnOf "__init__" "Company.__init__" (defArgs sCompanyInit) (defBody sCompanyInit) (defScope sCompanyInit) (.ref T0) kVA dcA pmA anA cdA ctA), slA⟩) (cA : PySem.W.codeIn K cdA "Company.__init__" = true) (kA : PySem.W.keepIn K (.ref fA) = true)
    (aW : PySem.W.findIn K (.ref C) "writers" = some (some (.ref fW))) (iW : PySem.W.isFn K (.ref fW) = true) (lW : K.lookup fW = some ⟨ocW, odW, .func (PySem.W.fnOf "writers" "Company.writers" (defArgs sCompanyWriters) (defBody sCompanyWriters) (defScope sCompanyWriters) .none kVW dcW pmW anW cdW ctW), slW⟩) (cW : PySem.W.codeIn K cdW "Company.writers" = true) (kW : PySem.W.keepIn K (.ref fW) = true)
    (aCe : PySem.W.findIn K (.ref C) "__eq__" = some (some (.ref fCe))) (iCe : PySem.W.isFn K (.ref fCe) = true) (lCe : K.lookup fCe = some ⟨ocCe, odCe, .func (PySem.W.fnOf "__eq__" "Company.__eq__" (defArgs sCompanyEq) (defBody sCompanyEq) (defScope sCompanyEq) .none kVCe dcCe pmCe anCe cdCe ctCe), slCe⟩) (cCe : PySem.W.codeIn K cdCe "Company.__eq__" = true) (kCe : PySem.W.keepIn K (.ref fCe) = true)
    (aCr : PySem.W.findIn K (.ref C) "__repr__" = some (some (.ref fCr))) (iCr : PySem.W.isFn K (.ref fCr) = true) (lCr : K.lookup fCr = some ⟨ocCr, odCr, .func (PySem.W.fnOf "__repr__" "Company.__repr__" (defArgs sCompanyRepr) (defBody sCompanyRepr) (defScope sCompanyRepr) .none kVCr dcCr pmCr anCr cdCr ctCr), slCr⟩) (cCr : PySem.W.codeIn K cdCr "Company.__repr__" = true) (kCr : PySem.W.keepIn K (.ref fCr) = true)
    (aCs : PySem.W.findIn K (.ref C) "__str__" = some (some (.ref fCs))) (iCs : PySem.W.isFn K (.ref fCs) = true) (lCs : K.lookup fCs = some ⟨ocCs, odCs, .func (PySem.W.fnOf "__str__" "Company.__str__" (defArgs sCompanyStr) (defBody sCompanyStr) (defScope sCompanyStr) .none kVCs dcCs pmCs anCs cdCs ctCs), slCs⟩) (cCs : PySem.W.codeIn K cdCs "Company.__str__" = true) (kCs : PySem.W.keepIn K (.ref fCs) = true)
    (aCm : PySem.W.findIn K (.ref C) "names" = some (some (.ref fCm))) (iCm : PySem.W.isFn K (.ref fCm) = true) (lCm : K.lookup fCm = some ⟨ocCm, odCm, .func (PySem.W.fnOf "names" "Company.names" (defArgs sCompanyNames) (defBody sCompanyNames) (defScope sCompanyNames) .none kVCm dcCm pmCm anCm cdCm ctCm), slCm⟩) (cCm : PySem.W.codeIn K cdCm "Company.names" = true) (kCm : PySem.W.keepIn K (.ref fCm) = true)
    (aCn : PySem.W.findIn K (.ref C) "__len__" = some (some (.ref fCn))) (iCn : PySem.W.isFn K (.ref fCn) = true) (lCn : K.lookup fCn = some ⟨ocCn, odCn, .func (PySem.W.fnOf "__len__" "Company.__len__" (defArgs sCompanyLen) (defBody sCompanyLen) (defScope sCompanyLen) .none kVCn dcCn pmCn anCn cdCn ctCn), slCn⟩) (cCn : PySem.W.codeIn K cdCn "Company.__len__" = true) (kCn : PySem.W.keepIn K (.ref fCn) = true)
    (lT : K.lookup T0 = some ⟨cT, oT, .seq #[.ref e0] nT, sT⟩) (lE0 : K.lookup e0 = some ⟨.type "tuple", oE, .seq #[] nE, sE⟩) (aNr : PySem.W.nsIn K mainGlobals "_NO_RUN" = some (some (.ref r0))) (lNr : K.lookup r0 = some ⟨.type "tuple", oN, .seq #[.int (-1) u1, .int 0 u2] nN, sN⟩)
    (pg1c : PySem.W.plainGet K C Str.empty = true) (hd1c : PySem.W.hasDictIn K C = true) (po1c : PySem.W.plainOver K C = true) (sa1c : PySem.W.findIn K (.ref C) "__setattr__" = some (some (.builtin "object.__setattr__"))) (mk1c : PySem.W.makesIn K C = true) (kp1c : PySem.W.keepIn K (.ref C) = true) (n1c1 : PySem.W.findIn K (.ref C) "_writers" = some none) (n1c2 : PySem.W.findIn K (.ref C) "_found" = some none)
    (aBW : PySem.W.nsIn K mainGlobals "BadWriter" = some (some (.ref BW))) (lBW : K.lookup BW = some (excClassObj "BadWriter" qBW BW NBW bsBW bmBW true snBW subBW abBW colBW ddBW kaBW kbBW (some (.str "BadWriter" tkBW)) kdBW kfBW "ValueError.__new__")) (rvBW : PySem.HandSPX.refsVE bmBW = true) (saBW : PySem.W.findIn K (.ref BW) "__setattr__" = some (some (.builtin "object.__setattr__"))) (suBW : PySem.W.subIn K (.ref BW) (.type "BaseException") = some true) (tyBW : PySem.W.typeIn K (.ref BW) = some (.type "type")) (kpBW : PySem.W.keepIn K (.ref BW) = true) (gaBW : PySem.W.findIn K (.ref BW) "__getattribute__" = some (some (.builtin "BaseException.__getattribute__"))) (ggBW : PySem.W.findIn K (.ref BW) "__getattr__" = some none) (hdBW : PySem.W.hasDictIn K BW = true) (clBW : PySem.W.findIn K (.ref BW) "__class__" = some (some (.builtin "object.__class__"))) (mrBW : PySem.W.mroIn K BW (.type "object") = some true) (rdBW : PySem.W.readsIn K BW (.type "type") = true) (nmBW : PySem.W.findCls K (.ref BW) (.type "type") "__name__" = some (.get (.builtin "getset_descriptor.__get__") (.builtin "type.__name__") (.ref BW) (.type "type"))) (fwordBW : PySem.W.findIn K (.ref BW) "word" = some none) (fnameBW : PySem.W.findIn K (.ref BW) "name" = some none) (fmostBW : PySem.W.findIn K (.ref BW) "most" = some none) (fstripBW : PySem.W.findIn K (.ref BW) "strip" = some none) (fnumberBW : PySem.W.findIn K (.ref BW) "number" = some none) (fatBW : PySem.W.findIn K (.ref BW) "at" = some none)
    (aTK : PySem.W.nsIn K mainGlobals "Taken" = some (some (.ref TK))) (lTK : K.lookup TK = some (excClassObj "Taken" qTK TK NTK bsTK bmTK true snTK subTK abTK colTK ddTK kaTK kbTK (some (.str "Taken" tkTK)) kdTK kfTK "ValueError.__new__")) (rvTK : PySem.HandSPX.refsVE bmTK = true) (saTK : PySem.W.findIn K (.ref TK) "__setattr__" = some (some (.builtin "object.__setattr__"))) (suTK : PySem.W.subIn K (.ref TK) (.type "BaseException") = some true) (tyTK : PySem.W.typeIn K (.ref TK) = some (.type "type")) (kpTK : PySem.W.keepIn K (.ref TK) = true) (gaTK : PySem.W.findIn K (.ref TK) "__getattribute__" = some (some (.builtin "BaseException.__getattribute__"))) (ggTK : PySem.W.findIn K (.ref TK) "__getattr__" = some none) (hdTK : PySem.W.hasDictIn K TK = true) (clTK : PySem.W.findIn K (.ref TK) "__class__" = some (some (.builtin "object.__class__"))) (mrTK : PySem.W.mroIn K TK (.type "object") = some true) (rdTK : PySem.W.readsIn K TK (.type "type") = true) (nmTK : PySem.W.findCls K (.ref TK) (.type "type") "__name__" = some (.get (.builtin "getset_descriptor.__get__") (.builtin "type.__name__") (.ref TK) (.type "type"))) (fwordTK : PySem.W.findIn K (.ref TK) "word" = some none) (fnameTK : PySem.W.findIn K (.ref TK) "name" = some none) (fmostTK : PySem.W.findIn K (.ref TK) "most" = some none) (fstripTK : PySem.W.findIn K (.ref TK) "strip" = some none) (fnumberTK : PySem.W.findIn K (.ref TK) "number" = some none) (fatTK : PySem.W.findIn K (.ref TK) "at" = some none)
    (aFU : PySem.W.nsIn K mainGlobals "Full" = some (some (.ref FU))) (lFU : K.lookup FU = some (excClassObj "Full" qFU FU NFU bsFU bmFU true snFU subFU abFU colFU ddFU kaFU kbFU (some (.str "Full" tkFU)) kdFU kfFU "ValueError.__new__")) (rvFU : PySem.HandSPX.refsVE bmFU = true) (saFU : PySem.W.findIn K (.ref FU) "__setattr__" = some (some (.builtin "object.__setattr__"))) (suFU : PySem.W.subIn K (.ref FU) (.type "BaseException") = some true) (tyFU : PySem.W.typeIn K (.ref FU) = some (.type "type")) (kpFU : PySem.W.keepIn K (.ref FU) = true) (gaFU : PySem.W.findIn K (.ref FU) "__getattribute__" = some (some (.builtin "BaseException.__getattribute__"))) (ggFU : PySem.W.findIn K (.ref FU) "__getattr__" = some none) (hdFU : PySem.W.hasDictIn K FU = true) (clFU : PySem.W.findIn K (.ref FU) "__class__" = some (some (.builtin "object.__class__"))) (mrFU : PySem.W.mroIn K FU (.type "object") = some true) (rdFU : PySem.W.readsIn K FU (.type "type") = true) (nmFU : PySem.W.findCls K (.ref FU) (.type "type") "__name__" = some (.get (.builtin "getset_descriptor.__get__") (.builtin "type.__name__") (.ref FU) (.type "type"))) (fwordFU : PySem.W.findIn K (.ref FU) "word" = some none) (fnameFU : PySem.W.findIn K (.ref FU) "name" = some none) (fmostFU : PySem.W.findIn K (.ref FU) "most" = some none) (fstripFU : PySem.W.findIn K (.ref FU) "strip" = some none) (fnumberFU : PySem.W.findIn K (.ref FU) "number" = some none) (fatFU : PySem.W.findIn K (.ref FU) "at" = some none)
    (ocN : PySem.W.specialIn K (.builtin "object.__class__") "__get__" = some (some (.builtin "getset_descriptor.__get__"))) (ocT : PySem.W.takesIn K (.builtin "object.__class__") = some true)
    (aI0 : PySem.W.nsIn K mainGlobals "InkError" = some (some (.ref xI))) (aMi : PySem.W.nsIn K mainGlobals "Missing" = some (some (.ref xM))) (aNl : PySem.W.nsIn K mainGlobals "NothingLeft" = some (some (.ref xL)))
    (aE : PySem.W.findCls K (.ref xI) (.type "type") "__init__" = some (.val (.ref fE))) (lE : K.lookup fE = some ⟨ocE, odE, .func (PySem.W.fnOf "__init__" "InkError.__init__" (defArgs sInkerrorInit) (defBody sInkerrorInit) (defScope sInkerrorInit) (.ref T1) kVE dcE pmE anE cdE ctE), slE⟩) (cE : PySem.W.codeIn K cdE "InkError.__init__" = true) (kE : PySem.W.keepIn K (.ref fE) = true)
    (aYBW : PySem.W.findIn K (.ref BW) "__init__" = some (some (.ref fYBW))) (lYBW : K.lookup fYBW = some ⟨ocYBW, odYBW, .func (PySem.W.fnOf "__init__" "BadWriter.__init__" (defArgs sBadwriterInit) (defBody sBadwriterInit) (defScope sBadwriterInit) .none kVYBW dcYBW pmYBW anYBW cdYBW ctYBW), slYBW⟩) (cYBW : PySem.W.codeIn K cdYBW "BadWriter.__init__" = true) (kYBW : PySem.W.keepIn K (.ref fYBW) = true)
    (aYTK : PySem.W.findIn K (.ref TK) "__init__" = some (some (.ref fYTK))) (lYTK : K.lookup fYTK = some ⟨ocYTK, odYTK, .func (PySem.W.fnOf "__init__" "Taken.__init__" (defArgs sTakenInit) (defBody sTakenInit) (defScope sTakenInit) .none kVYTK dcYTK pmYTK anYTK cdYTK ctYTK), slYTK⟩) (cYTK : PySem.W.codeIn K cdYTK "Taken.__init__" = true) (kYTK : PySem.W.keepIn K (.ref fYTK) = true)
    (tE : PySem.W.typeIn K (.ref fE) = some (.type "function")) (gO : PySem.W.specialIn K (.ref xI) "__getattribute__" = some (some (.builtin "type.__getattribute__"))) (rO : PySem.W.readsIn K xI (.type "type") = true) (yO : PySem.W.typeIn K (.ref xI) = some (.type "type")) (tYBW : PySem.W.typeIn K (.ref fYBW) = some (.type "function")) (tYTK : PySem.W.typeIn K (.ref fYTK) = some (.type "function")) (aEFU : PySem.W.findIn K (.ref FU) "__init__" = some (some (.ref fE)))
    (lUx : K.lookup T1 = some ⟨cUx, oUx, .seq #[.str "" u3] nUx, sUx⟩) (vV : PySem.W.findCls K (.type "ValueError") (.type "type") "__init__" = some (.val (.builtin "ValueError.__init__"))) (zV : PySem.W.nsIn K mainGlobals "ValueError" = some none)
    (q1 : PySem.W.findIn K (.ref C) "__class__" = some (some (.builtin "object.__class__"))) (q2 : PySem.W.specialIn K (.builtin "object.__class__") "__get__" = some (some (.builtin "getset_descriptor.__get__"))) (q3 : PySem.W.takesIn K (.builtin "object.__class__") = some true) (q4 : PySem.W.mroIn K C (.type "object") = some true) (q5 : PySem.W.kitOne K (.type "NoneType") (.ref C) = some false) (q6 : PySem.W.kitOne K (.type "int") (.ref C) = some false) (q7 : PySem.W.kitOne K (.type "str") (.ref C) = some false) (q8 : PySem.W.kitOne K (.type "list") (.ref C) = some false) (q9 : PySem.W.notFirst K C (.type "NoneType") = true) (q10 : PySem.W.notFirst K C (.type "int") = true) (q11 : PySem.W.notFirst K C (.type "str") = true) (q12 : PySem.W.notFirst K C (.type "list") = true) (q13 : PySem.W.findIn K (.ref C) "__bool__" = some none) (q14 : PySem.W.findIn K (.ref C) "__ne__" = some (some (.builtin "object.__ne__"))) (q15 : PySem.W.subIn K (.ref C) (.type "object") = some true) (hX1 : PySem.W.exmAny K (.ref BW) [.ref xI, .ref xM, .ref xL] = some true) (hX2 : PySem.W.exmAny K (.ref TK) [.ref xI, .ref xM, .ref xL] = some true) (hX3 : PySem.W.exmAny K (.ref FU) [.ref xI, .ref xM, .ref xL] = some true) :
    LamX.LawAtS l w K CX0 10 63 "_law_script" mg fa h := by
  have e := hfa.symm.trans (PySem.W.mg_of X G a27)
  cases e
  have F1 := fun_mk (st := sIsName) l1 c1 k1
  have F2 := fun_mk (st := sIsSign) l2 c2 k2
  have F3 := fun_mk (st := sIsWriter) l3 c3 k3
  have F4 := fun_mk (st := sIsCount) l4 c4 k4
  have F5 := fun_mk (st := sIsPlace) l5 c5 k5
  have F6 := fun_mk (st := sAreArrows) l6 c6 k6
  have F7 := fun_mk (st := sLBag) l7 c7 k7
  have F8 := fun_mk (st := sLPull) l8 c8 k8
  have F9 := fun_mk (st := sLOf) l9 c9 k9
  have F10 := fun_mk (st := sLLetters) l10 c10 k10
  have F11 := fun_mk (st := sLLike) l11 c11 k11
  have F12 := fun_mk (st := sLNames) l12 c12 k12
  have F13 := fun_mk (st := sLSigns) l13 c13 k13
  have F14 := fun_mk (st := sLWriter) l14 c14 k14
  have F15 := fun_mk (st := sNeedCompany) l15 c15 k15
  have F16 := fun_mk (st := sLCompany) l16 c16 k16
  have F17 := fun_mk (st := sLFresh) l17 c17 k17
  have F18 := fun_mk (st := sLIsName) l18 c18 k18
  have F19 := fun_mk (st := sLIsWriter) l19 c19 k19
  have F20 := fun_mk (st := sWriterText) l20 c20 k20
  have F21 := fun_mk (st := sLWriterText) l21 c21 k21
  have F22 := fun_mk (st := sLField) l22 c22 k22
  have F23 := fun_mk (st := sLTried) l23 c23 k23
  have F24 := fun_mk (st := sLRefused) l24 c24 k24
  have F25 := fun_mk (st := sLCrewWord) l25 c25 k25
  have F26 := fun_mk (st := sLBentCrew) l26 c26 k26
  have F27 := fun_mk (st := sLaw) l27 c27 k27
  have b1 := F1.binds (ps := ["text"]) fun _ _ _ _ _ _ us hl => match us, hl with | [_], _ => rfl
  have b2 := F2.binds (ps := ["text"]) fun _ _ _ _ _ _ us hl => match us, hl with | [_], _ => rfl
  have b3 := F3.binds (ps := ["thing"]) fun _ _ _ _ _ _ us hl => match us, hl with | [_], _ => rfl
  have b4 := F4.binds (ps := ["number"]) fun _ _ _ _ _ _ us hl => match us, hl with | [_], _ => rfl
  have b5 := F5.binds (ps := ["number"]) fun _ _ _ _ _ _ us hl => match us, hl with | [_], _ => rfl
  have b6 := F6.binds (ps := ["arrows"]) fun _ _ _ _ _ _ us hl => match us, hl with | [_], _ => rfl
  have b7 := F7.binds (ps := ["_law_script"]) fun _ _ _ _ _ _ us hl => match us, hl with | [_], _ => rfl
  have b8 := F8.binds (ps := ["_law_bag_here", "_law_many"]) fun _ _ _ _ _ _ us hl => match us, hl with | [_, _], _ => rfl
  have b9 := F9.binds (ps := ["_law_bag_here", "_law_things"]) fun _ _ _ _ _ _ us hl => match us, hl with | [_, _], _ => rfl
  have b10 := F10.binds (ps := []) fun _ _ _ _ _ _ us hl => match us, hl with | [], _ => rfl
  have b11 := F11.binds (ps := ["_law_found", "_law_due"]) fun _ _ _ _ _ _ us hl => match us, hl with | [_, _], _ => rfl
  have b12 := F12.binds (ps := ["_law_bag_here", "_law_many"]) fun _ _ _ _ _ _ us hl => match us, hl with | [_, _], _ => rfl
  have b13 := F13.binds (ps := ["_law_bag_here", "_law_limit"]) fun _ _ _ _ _ _ us hl => match us, hl with | [_, _], _ => rfl
  have b14 := F14.binds (ps := ["_law_bag_here", "_law_name", "_law_places", "_law_signs_here", "_law_thick"]) fun _ _ _ _ _ _ us hl => match us, hl with | [_, _, _, _, _], _ => rfl
  have b15 := F15.binds (ps := ["writers"]) fun _ _ _ _ _ _ us hl => match us, hl with | [_], _ => rfl
  have b16 := F16.binds (ps := ["_law_bag_here", "_law_limit", "_law_signs_here"]) fun _ _ _ _ _ _ us hl => match us, hl with | [_, _, _], _ => rfl
  have b17 := F17.binds (ps := ["_law_names_here"]) fun _ _ _ _ _ _ us hl => match us, hl with | [_], _ => rfl
  have b18 := F18.binds (ps := ["_law_text"]) fun _ _ _ _ _ _ us hl => match us, hl with | [_], _ => rfl
  have b19 := F19.binds (ps := ["_law_thing"]) fun _ _ _ _ _ _ us hl => match us, hl with | [_], _ => rfl
  have b20 := F20.binds (ps := ["writer"]) fun _ _ _ _ _ _ us hl => match us, hl with | [_], _ => rfl
  have b21 := F21.binds (ps := ["_law_writer_here"]) fun _ _ _ _ _ _ us hl => match us, hl with | [_], _ => rfl
  have b22 := F22.binds (ps := ["_law_e"]) fun _ _ _ _ _ _ us hl => match us, hl with | [_], _ => rfl
  have b23 := F23.binds (ps := ["_law_ask"]) fun _ _ _ _ _ _ us hl => match us, hl with | [_], _ => rfl
  have b24 := F24.binds (ps := ["_law_ask"]) fun _ _ _ _ _ _ us hl => match us, hl with | [_], _ => rfl
  have b25 := F25.binds (ps := ["_law_crew"]) fun _ _ _ _ _ _ us hl => match us, hl with | [_], _ => rfl
  have b26 := F26.binds (ps := ["_law_bag_here", "_law_crew"]) fun _ _ _ _ _ _ us hl => match us, hl with | [_, _], _ => rfl
  have T : Txt mg := ⟨PySem.W.mg_none_of X G z1, PySem.W.mg_none_of X G z2, PySem.W.mg_none_of X G z3, PySem.W.mg_none_of X G z4, PySem.W.mg_none_of X G z5, PySem.W.mg_none_of X G z6, PySem.W.mg_none_of X G z7, PySem.W.mg_none_of X G z8, PySem.W.mg_none_of X G z9, PySem.W.mg_none_of X G z10, PySem.W.mg_none_of X G z11, PySem.W.mg_none_of X G z12, PySem.W.mg_none_of X G z13, PySem.W.mg_none_of X G z14, PySem.W.mg_none_of X G z15, ⟨_, PySem.W.mg_of X G y1⟩, ⟨_, PySem.W.mg_of X G y2⟩, ⟨_, PySem.W.mg_of X G y3⟩, ⟨_, PySem.W.mg_of X G y4⟩, ⟨_, PySem.W.mg_of X G y5⟩, ⟨_, PySem.W.mg_of X G y6⟩⟩
  refine ⟨PySem.W.fnOf "law" "law" (defArgs sLaw) (defBody sLaw) (defScope sLaw) .none kV27 dc27 pm27 an27 (.ref c0) ct27, [(c0, P0)], spLaw K P0, fun p hp => by rw [List.mem_singleton.mp hp]; exact hT8 _ (List.mem_singleton.mpr rfl), fun p hp => by rw [List.mem_singleton.mp hp]; exact nT8, fun p hp => by rw [List.mem_singleton.mp hp]; exact PySem.W.codeHd_of_K X hC8, fun s v => .of_eq rfl, fun H a ns hl _ hT hS => ⟨a, ns, rfl, hS, hl, fun p hp => by rw [List.mem_singleton.mp hp]; exact LamX.TabS.nil (hT _ (List.mem_singleton.mpr rfl)), fun _ => rfl⟩, fun base _ _ TB9 => ?_⟩
  have TB := TB9 _ (List.mem_singleton.mpr rfl)
  have Z : CoC K C := ⟨⟨pg1c, hd1c, po1c, sa1c⟩, n1c1, n1c2⟩
  have G__NO_RUN : GlobT K mg "_NO_RUN" (.tuple [.int (-1), .int 0]) := ⟨r0, PySem.W.mg_of X G aNr, fun H => .tup (show SqT K H r0 [.int (-1), .int 0] from .inr ⟨_, _, _, lNr, rfl, rfl, (by show 2 ≤ sizeLine; decide), .cons ⟨u1, rfl⟩ (.cons ⟨u2, rfl⟩ .nil)⟩) (.cons (.int _) (.cons (.int _) .nil))⟩
  have MI : Mk K C fA := ⟨mk1c, aA, iA, kp1c⟩
  have FI : FunD K "__init__" "Company.__init__" (defArgs sCompanyInit) (defBody sCompanyInit) (defScope sCompanyInit) [.ref e0] [] fA _ := ⟨⟨_, _, _, _, _, _, _, _, _, _, rfl, lA, cA, .inr ⟨by simp, T0, _, [.ref e0], _, rfl, lT, rfl, .cons rfl .nil⟩, .inl rfl⟩, kA⟩
  have bI2 := FI.binds1 (ps := ["self", "writers"]) 2 1 (by simp) rfl fun _ _ _ _ _ _ _ us its h1 h2 => match us, its, h1, h2 with | [_, _], [_], _, _ => ⟨_, rfl, rfl⟩
  have FE : FunD K "__init__" "InkError.__init__" (defArgs sInkerrorInit) (defBody sInkerrorInit) (defScope sInkerrorInit) [.str ""] [] fE _ := ⟨⟨_, _, _, _, _, _, _, _, _, _, rfl, lE, cE, .inr ⟨by simp, T1, _, [.str "" u3], _, rfl, lUx, rfl, .cons ⟨u3, rfl⟩ .nil⟩, .inl rfl⟩, kE⟩
  have bE2 := FE.binds1 (ps := ["self", "told"]) 2 1 (by simp) rfl fun _ _ _ _ _ _ _ us its h1 h2 => match us, its, h1, h2 with | [_, _], [_], _, _ => ⟨_, rfl, rfl⟩
  have OXBW : OexC K BW := ⟨⟨_, _, _, _, _, _, _, _, _, _, _, _, _, _, _, lBW, rvBW⟩, saBW, suBW, tyBW, kpBW⟩
  have EXBW : ExcC K BW := ⟨gaBW, ggBW, suBW, hdBW, clBW, ocN, ocT, mrBW⟩
  have NMBW : Named K BW "BadWriter" := ⟨EXBW, OXBW, ⟨_, tkBW, lBW, rfl⟩, rdBW, nmBW⟩
  have FCBW : FldC K BW := ⟨⟨gaBW, ggBW, suBW, hdBW⟩, fwordBW, fnameBW, fmostBW, fstripBW, fnumberBW, fatBW⟩
  have OXTK : OexC K TK := ⟨⟨_, _, _, _, _, _, _, _, _, _, _, _, _, _, _, lTK, rvTK⟩, saTK, suTK, tyTK, kpTK⟩
  have EXTK : ExcC K TK := ⟨gaTK, ggTK, suTK, hdTK, clTK, ocN, ocT, mrTK⟩
  have NMTK : Named K TK "Taken" := ⟨EXTK, OXTK, ⟨_, tkTK, lTK, rfl⟩, rdTK, nmTK⟩
  have FCTK : FldC K TK := ⟨⟨gaTK, ggTK, suTK, hdTK⟩, fwordTK, fnameTK, fmostTK, fstripTK, fnumberTK, fatTK⟩
  have OXFU : OexC K FU := ⟨⟨_, _, _, _, _, _, _, _, _, _, _, _, _, _, _, lFU, rvFU⟩, saFU, suFU, tyFU, kpFU⟩
  have EXFU : ExcC K FU := ⟨gaFU, ggFU, suFU, hdFU, clFU, ocN, ocT, mrFU⟩
  have NMFU : Named K FU "Full" := ⟨EXFU, OXFU, ⟨_, tkFU, lFU, rfl⟩, rdFU, nmFU⟩
  have FCFU : FldC K FU := ⟨⟨gaFU, ggFU, suFU, hdFU⟩, fwordFU, fnameFU, fmostFU, fstripFU, fnumberFU, fatFU⟩
  have OI : OwnI K xI fE := ⟨gO, rO, yO, aE, kE⟩
  have FYBW := fun_mk (st := sBadwriterInit) lYBW cYBW kYBW
  have bYBW := FYBW.binds (ps := ["self", "at"]) fun _ _ _ _ _ _ us hl => match us, hl with | [_, _], _ => rfl
  have RBW : RaiR l.prog w K mg base 2 "BadWriter" BW ["self", "at"] (spAtB K) := by
    obtain ⟨ds, hv, b⟩ := bE2
    cases hv
    exact ⟨NMBW, fwordBW, PySem.W.mg_of X G aBW, fYBW, _, aYBW, tYBW, ok_badwriter FYBW (PySem.W.mg_of X G aI0) OI (ok_ink (k := 0) FE (PySem.W.mg_none_of X G zV) vV) b, bYBW⟩
  have FYTK := fun_mk (st := sTakenInit) lYTK cYTK kYTK
  have bYTK := FYTK.binds (ps := ["self", "name"]) fun _ _ _ _ _ _ us hl => match us, hl with | [_, _], _ => rfl
  have RTK : RaiR l.prog w K mg base 2 "Taken" TK ["self", "name"] (spNmB K) := by
    obtain ⟨ds, hv, b⟩ := bE2
    cases hv
    exact ⟨NMTK, fwordTK, PySem.W.mg_of X G aTK, fYTK, _, aYTK, tYTK, ok_taken FYTK (PySem.W.mg_of X G aI0) OI (ok_ink (k := 0) FE (PySem.W.mg_none_of X G zV) vV) b, bYTK⟩
  have RFU : RaiR l.prog w K mg base 2 "Full" FU ["self", "told"] (spInk K) := by
    obtain ⟨ds, hv, b⟩ := bE2
    cases hv
    exact ⟨NMFU, fwordFU, PySem.W.mg_of X G aFU, fE, _, aEFU, tE, (ok_ink (k := 0) FE (PySem.W.mg_none_of X G zV) vV).mono (by decide), b⟩
  have FNW := fun_mk (st := sCompanyWriters) lW cW kW
  have bNW := FNW.binds (ps := ["self"]) fun _ _ _ _ _ _ us hl => match us, hl with | [_], _ => rfl
  have FNCe := fun_mk (st := sCompanyEq) lCe cCe kCe
  have bNCe := FNCe.binds (ps := ["self", "other"]) fun _ _ _ _ _ _ us hl => match us, hl with | [_, _], _ => rfl
  have FNCr := fun_mk (st := sCompanyRepr) lCr cCr kCr
  have bNCr := FNCr.binds (ps := ["self"]) fun _ _ _ _ _ _ us hl => match us, hl with | [_], _ => rfl
  have FNCs := fun_mk (st := sCompanyStr) lCs cCs kCs
  have bNCs := FNCs.binds (ps := ["self"]) fun _ _ _ _ _ _ us hl => match us, hl with | [_], _ => rfl
  have FNCm := fun_mk (st := sCompanyNames) lCm cCm kCm
  have bNCm := FNCm.binds (ps := ["self"]) fun _ _ _ _ _ _ us hl => match us, hl with | [_], _ => rfl
  have FNCn := fun_mk (st := sCompanyLen) lCn cCn kCn
  have bNCn := FNCn.binds (ps := ["self"]) fun _ _ _ _ _ _ us hl => match us, hl with | [_], _ => rfl
  have C_law_pull : Cal l.prog w K mg base 1 "_law_pull" _ _ := ⟨_, _, ok_pull F8 T, PySem.W.mg_of X G a8, F8.kp, b8⟩
  have C_law_bag : Cal l.prog w K mg base 1 "_law_bag" _ _ := ⟨_, _, ok_bag F7 T, PySem.W.mg_of X G a7, F7.kp, b7⟩
  have C_law_letters : Cal l.prog w K mg base 1 "_law_letters" _ _ := ⟨_, _, ok_letters F10, PySem.W.mg_of X G a10, F10.kp, b10⟩
  have C_is_sign : Cal l.prog w K mg base 1 "is_sign" _ _ := ⟨_, _, ok_is_sign F2 T, PySem.W.mg_of X G a2, F2.kp, b2⟩
  have C_is_count : Cal l.prog w K mg base 1 "_is_count" _ _ := ⟨_, _, ok_count F4 T, PySem.W.mg_of X G a4, F4.kp, b4⟩
  have C_is_place : Cal l.prog w K mg base 1 "_is_place" _ _ := ⟨_, _, ok_place F5 T, PySem.W.mg_of X G a5, F5.kp, b5⟩
  have C_law_fresh : Cal l.prog w K mg base 1 "_law_fresh" _ _ := ⟨_, _, ok_fresh F17, PySem.W.mg_of X G a17, F17.kp, b17⟩
  have C_law_of : Cal l.prog w K mg base 2 "_law_of" _ _ := ⟨_, _, ok_of F9 T C_law_pull, PySem.W.mg_of X G a9, F9.kp, b9⟩
  have C_is_name : Cal l.prog w K mg base 2 "is_name" _ _ := ⟨_, _, ok_is_name F1 T C_is_sign, PySem.W.mg_of X G a1, F1.kp, b1⟩
  have C_are_arrows : Cal l.prog w K mg base 2 "_are_arrows" _ _ := ⟨_, _, ok_areD F6 T C_is_place C_is_sign, PySem.W.mg_of X G a6, F6.kp, b6⟩
  have C_law_like := cal_like (P := l.prog) (w := w) (base := base) F11 T (PySem.W.mg_of X G a11) b11 5
  have C_is_writer : Cal l.prog w K mg base 3 "is_writer" _ _ := ⟨_, _, ok_is_writerD F3 T C_is_name C_are_arrows (C_is_count.mono (by decide)), PySem.W.mg_of X G a3, F3.kp, b3⟩
  have C_law_names : Cal l.prog w K mg base 3 "_law_names" _ _ := ⟨_, _, ok_names F12 T (C_law_pull.mono (by decide)) C_law_of (C_law_letters.mono (by decide)), PySem.W.mg_of X G a12, F12.kp, b12⟩
  have C_law_signs : Cal l.prog w K mg base 3 "_law_signs" _ _ := ⟨_, _, ok_signs F13 T (C_law_pull.mono (by decide)) C_law_of (C_law_letters.mono (by decide)), PySem.W.mg_of X G a13, F13.kp, b13⟩
  have C_law_writer : Cal l.prog w K mg base 3 "_law_writer" _ _ := ⟨_, _, ok_writer F14 T (C_law_pull.mono (by decide)) C_law_of, PySem.W.mg_of X G a14, F14.kp, b14⟩
  have C_need_L : Cal l.prog w K mg base 4 "_need_company" _ _ := ⟨_, _, ok_needL F15 T C_is_writer, PySem.W.mg_of X G a15, F15.kp, b15⟩
  have C_need_T : Cal l.prog w K mg base 4 "_need_company" _ _ := ⟨_, _, ok_needT F15 T C_is_writer, PySem.W.mg_of X G a15, F15.kp, b15⟩
  have C_law_company : Cal l.prog w K mg base 4 "_law_company" _ _ := ⟨_, _, ok_company F16 T (C_law_pull.mono (by decide)) (C_law_of.mono (by decide)) C_law_names C_law_writer, PySem.W.mg_of X G a16, F16.kp, b16⟩
  have KCo : ∀ k, 5 ≤ k → MakC l.prog w K mg base k "Company" C ["self", "writers"] [] (spInitD l.prog w K C .list) := fun k hk => by
    obtain ⟨ds, hv, b⟩ := bI2
    exact ⟨fA, _, ds, (ok_initD FI T Z (.inl rfl) C_need_L).mono hk, MI, PySem.W.mg_of X G aC, b, hv⟩
  have KCT : MakC l.prog w K mg base 5 "Company" C ["self", "writers"] [] (spInitD l.prog w K C .tuple) := by
    obtain ⟨ds, hv, b⟩ := bI2
    exact ⟨fA, _, ds, ok_initD FI T Z (.inr rfl) C_need_T, MI, PySem.W.mg_of X G aC, b, hv⟩
  have MWr : ∀ k, 1 ≤ k → MetC l.prog w K mg base k C "writers" ["self"] (spWriters l.prog w K C) := fun k hk => ⟨fW, _, (ok_writers (k := 0) FNW T Z).mono hk, ⟨aW, iW, kW⟩, Z.cl, bNW⟩
  have C_writer_text : Cal l.prog w K mg base 1 "writer_text" _ _ := ⟨_, _, (ok_writer_text F20 T).imp (sp' := spP K RWT) fun _ _ _ _ h => wt_imp h, PySem.W.mg_of X G a20, F20.kp, b20⟩
  have C_law_writer_text : Cal l.prog w K mg base 1 "_law_writer_text" _ _ := ⟨_, _, (ok_law_text F21 T).imp (sp' := spP K RWT) fun _ _ _ _ h => wt_imp h, PySem.W.mg_of X G a21, F21.kp, b21⟩
  have C_law_is_name : Cal l.prog w K mg base 2 "_law_is_name" _ _ := ⟨_, _, ok_law_name F18 T C_law_letters, PySem.W.mg_of X G a18, F18.kp, b18⟩
  have C_law_is_writer : Cal l.prog w K mg base 3 "_law_is_writer" _ _ := ⟨_, _, ok_lwriterT (ok_law_writer F19 T C_law_is_name), PySem.W.mg_of X G a19, F19.kp, b19⟩
  have C_law_crew_word : Cal l.prog w K mg base 4 "_law_crew_word" _ _ := ⟨_, _, ok_word06 F25 T C_law_is_writer, PySem.W.mg_of X G a25, F25.kp, b25⟩
  have C_law_bent_crew : Cal l.prog w K mg base 3 "_law_bent_crew" _ _ := ⟨_, _, ok_bent06 (k := 2) F26 T (C_law_pull.mono (by decide)) C_law_of, PySem.W.mg_of X G a26, F26.kp, b26⟩
  have C_isw_T : Cal l.prog w K mg base 3 "is_writer" _ _ := ⟨_, _, ok_is_writerT F3 T C_is_name C_are_arrows (C_is_count.mono (by decide)), PySem.W.mg_of X G a3, F3.kp, b3⟩
  have C_need_LN : CalN l.prog w K mg base 4 "_need_company" ["writers"] (spNeedN K BW TK FU .list) := ⟨_, _, ok_needLN (k := 2) F15 T RBW RTK RFU fatBW fnameTK C_isw_T, PySem.W.mg_of X G a15, F15.kp, b15⟩
  have KCoN : MakN l.prog w K mg base 5 "Company" C ["self", "writers"] [] (spInitN l.prog w K C BW TK FU .list) := by
    obtain ⟨ds, hv, b⟩ := bI2
    exact ⟨fA, _, ds, ok_initN (k := 4) FI T Z (.inl rfl) C_need_LN, MI, PySem.W.mg_of X G aC, b, hv⟩
  have KCT8 : MakC l.prog w K mg base 8 "Company" C ["self", "writers"] [] (spInitD l.prog w K C .tuple) := by
    obtain ⟨ds, hv, b⟩ := bI2
    exact ⟨fA, _, ds, (ok_initD FI T Z (.inr rfl) C_need_T).mono (by decide), MI, PySem.W.mg_of X G aC, b, hv⟩
  have bI1 := FI.binds1 (ps := ["self", "writers"]) 1 0 (by simp) rfl fun _ _ _ _ _ _ _ us its h1 h2 => match us, its, h1, h2 with | [_], [_], _, _ => ⟨_, rfl, rfl⟩
  have KC0 : MakC l.prog w K mg base 8 "Company" C ["self", "writers"] [.ref e0] (spInitD l.prog w K C .tuple) := by
    obtain ⟨ds, hv, b⟩ := bI1
    exact ⟨fA, _, ds, (ok_initD FI T Z (.inr rfl) C_need_T).mono (by decide), MI, PySem.W.mg_of X G aC, b, hv⟩
  have hv0 : ∀ H, Dp K H (.ref e0) (.tuple []) := fun H => .tup (show SqT K H e0 [] from .inr ⟨_, _, _, lE0, rfl, rfl, (by show 0 ≤ sizeLine; decide), .nil⟩) .nil
  have EF : EqF K C := ⟨q1, q2, q3, q4, q5, q6, q7, q8, q9, q10, q11, q12⟩
  have mCo := PySem.W.mg_of X G aC
  have MNm : MetC l.prog w K mg base 9 C "names" ["self"] (spCoNames l.prog w K C) := ⟨fCm, _, (ok_conames (k := 0) FNCm T Z).mono (by decide), ⟨aCm, iCm, kCm⟩, Z.cl, bNCm⟩
  have MCl : LenC l.prog w K mg base 8 C (spCoLen l.prog w K C) := ⟨fCn, _, (ok_colen (k := 0) FNCn T Z).mono (by decide), aCn, iCn, bNCn⟩
  have SEq : SpcC l.prog w K mg base 8 C "__eq__" ["self", "other"] (spCoEq l.prog w K C) := ⟨fCe, _, (ok_coeq (k := 0) FNCe T Z EF mCo).mono (by decide), aCe, iCe, bNCe⟩
  have SRe : SpcC l.prog w K mg base 8 C "__repr__" ["self"] (spCoShow l.prog w K C) := ⟨fCr, _, (ok_coshow (k := 0) FNCr T Z).mono (by decide), aCr, iCr, bNCr⟩
  have SSt : SpcC l.prog w K mg base 7 C "__str__" ["self"] (spCoText l.prog w K C) := ⟨fCs, _, (ok_cotext FNCs T Z C_writer_text).mono (by decide), aCs, iCs, bNCs⟩
  have SLe : SpcC l.prog w K mg base 6 C "__len__" ["self"] (spCoLen l.prog w K C) := ⟨fCn, _, (ok_colen (k := 0) FNCn T Z).mono (by decide), aCn, iCn, bNCn⟩
  have C_like7 := cal_like (P := l.prog) (w := w) (base := base) F11 T (PySem.W.mg_of X G a11) b11 7
  have hT9 : ∀ q, L2N.AskedBy l.prog w K mg base 7 7 ["_law_ask", "_law_told", "_law_word", "_law_field_here", "_law_e"] "_law_tried" (defScope sLTried) (defBody sLTried) q (ttTried K xI xM xL) := fun q => tried_asked (PySem.W.mg_of X G aI0) (PySem.W.mg_of X G aMi) (PySem.W.mg_of X G aNl) (ok_field (k := 0) F22) (by decide) (by decide) (PySem.W.mg_of X G a22) F22.kp b22
  exact ok_law06 (k := 5) l27 c27 TB T F24 (PySem.W.mg_of X G a24) F24.kp b24 (fun q => refused_asked F23 (PySem.W.mg_of X G a23) F23.kp b23 hT9) hX1 hX2 hX3 FCBW FCTK FCFU Z EF hv0 q13 q14 q15 (C_law_bag.mono (by decide)) (C_law_pull.mono (by decide)) (C_law_of.mono (by decide)) (C_law_signs.mono (by decide)) (C_law_company.mono (by decide)) (C_law_bent_crew.mono (by decide)) (C_law_crew_word.mono (by decide)) (C_law_fresh.mono (by decide)) (C_law_writer_text.mono (by decide)) (C_like7.mono (by decide)) KCoN (KCo 8 (by decide)) KCT8 KC0 (MWr 9 (by decide)) MNm MCl SEq SRe SSt SLe
end Ink
namespace Ink
open PySem PySem.W PySem.Calls PyProof.Rows HandSHeadRun
def loose0 : List PySem.Str := ["_wall", "InkError", "BadWriter", "Taken", "Full", "TooMany", "Missing", "NothingLeft", "MOST_ARROWS", "MOST_COUNT", "_MOST_LETTERS", "_LAST_PLACE", "is_name", "is_sign", "is_writer", "_is_count", "_is_place", "_are_arrows", "writer_text", "MOST_WRITERS", "MOST_STANDS", "_NO_RUN", "Company", "_need_company", "_strips_to", "_steps_of", "_may_write", "_minds", "_behind", "_law_bag"]
def loose1 : List PySem.Str := ["_law_pull", "_law_of", "_law_letters", "_law_like", "_law_field", "_law_tried", "_law_refused", "_law_names", "_law_signs", "_law_writer", "_law_company", "_law_is_name", "_law_is_writer", "_law_writer_text", "_law_fresh", "_law_crew_word", "_law_bent_crew"]
def looseAll : List PySem.Str := loose0 ++ loose1
abbrev R0 : OpenRow := OpenLaw.row PySem.Challenge.rw_whoseink_k06_companies_made
abbrev q0 : Program := view R0.prog [51]
end Ink
open PySem PySem.W PyProof.Rows
local macro_rules | `(tactic| o_head ($f $k $a $e $t)) => `(tactic| (refine Ink.head_km (r := Ink.R0) (q := Ink.q0) (K := $k) (as := $a) (ek := $e) (ts := $t) (M := 20000) (loose := Ink.looseAll) (d := HandSHeadRun.topDef Ink.R0.prog 51) (kwd := []) (by kernel_rfl) (fun s => by kernel_rfl) (fun w os => by kernel_rfl) (by kernel_rfl) (by kernel_rfl) (by kernel_rfl) (by rfl) (by first | assumption | decide +kernel) (by decide +kernel) ⟨rfl, rfl, rfl, rfl, rfl, by decide +kernel⟩ ?_ ?_))
set_option maxHeartbeats 0 in
theorem PySem.Challenge.cw_whoseink_k06_companies_made_holds : PySem.Challenge.rw_whoseink_k06_companies_made.Holds := by
  w_on; o_law; k_head; (next => w_witness2)
  k_fill
  refine LamX.walk_ofTs (l := PySem.Challenge.rw_whoseink_k06_companies_made) (n := 63) (k := 10) (x := "_law_script") (CX := fun _ => L2.CX0) rfl (by decide) (by kernel_rfl) ⟨rfl, by decide, by decide⟩ (fun w h Y => PySem.W.km_in_of Y) ?F (fun _ _ _ _ _ h => h)
  case F =>
    intro w mg fa h Y KX G hmg0
    have hmg : mg ("law" : PySem.Str) = some (.ref fa) := by
      have e : (HandSHeadRun.topDef Ink.R0.prog 51).name = ("law" : PySem.Str) := by kernel_rfl
      rw [← e]
      exact hmg0
    km_tabs Y
    refine' Ink.all_mk KX G hmg hT8 ?a1 ?l1 ?c1 ?k1 ?a2 ?l2 ?c2 ?k2 ?a3 ?l3 ?c3 ?k3 ?a4 ?l4 ?c4 ?k4 ?a5 ?l5 ?c5 ?k5 ?a6 ?l6 ?c6 ?k6 ?a7 ?l7 ?c7 ?k7 ?a8 ?l8 ?c8 ?k8 ?a9 ?l9 ?c9 ?k9 ?a10 ?l10 ?c10 ?k10 ?a11 ?l11 ?c11 ?k11 ?a12 ?l12 ?c12 ?k12 ?a13 ?l13 ?c13 ?k13 ?a14 ?l14 ?c14 ?k14 ?a15 ?l15 ?c15 ?k15 ?a16 ?l16 ?c16 ?k16 ?a17 ?l17 ?c17 ?k17 ?a18 ?l18 ?c18 ?k18 ?a19 ?l19 ?c19 ?k19 ?a20 ?l20 ?c20 ?k20 ?a21 ?l21 ?c21 ?k21 ?a22 ?l22 ?c22 ?k22 ?a23 ?l23 ?c23 ?k23 ?a24 ?l24 ?c24 ?k24 ?a25 ?l25 ?c25 ?k25 ?a26 ?l26 ?c26 ?k26 ?a27 ?l27 ?c27 ?k27 ?z1 ?z2 ?z3 ?z4 ?z5 ?z6 ?z7 ?z8 ?z9 ?z10 ?z11 ?z12 ?z13 ?z14 ?z15 ?y1 ?y2 ?y3 ?y4 ?y5 ?y6 ?hC8 ?nT8 ?aC ?aA ?iA ?lA ?cA ?kA ?aW ?iW ?lW ?cW ?kW ?aCe ?iCe ?lCe ?cCe ?kCe ?aCr ?iCr ?lCr ?cCr ?kCr ?aCs ?iCs ?lCs ?cCs ?kCs ?aCm ?iCm ?lCm ?cCm ?kCm ?aCn ?iCn ?lCn ?cCn ?kCn ?lT ?lE0 ?aNr ?lNr ?pg1c ?hd1c ?po1c ?sa1c ?mk1c ?kp1c ?n1c1 ?n1c2 ?aBW ?lBW ?rvBW ?saBW ?suBW ?tyBW ?kpBW ?gaBW ?ggBW ?hdBW ?clBW ?mrBW ?rdBW ?nmBW ?fwordBW ?fnameBW ?fmostBW ?fstripBW ?fnumberBW ?fatBW ?aTK ?lTK ?rvTK ?saTK ?suTK ?tyTK ?kpTK ?gaTK ?ggTK ?hdTK ?clTK ?mrTK ?rdTK ?nmTK ?fwordTK ?fnameTK ?fmostTK ?fstripTK ?fnumberTK ?fatTK ?aFU ?lFU ?rvFU ?saFU ?suFU ?tyFU ?kpFU ?gaFU ?ggFU ?hdFU ?clFU ?mrFU ?rdFU ?nmFU ?fwordFU ?fnameFU ?fmostFU ?fstripFU ?fnumberFU ?fatFU ?ocN ?ocT ?aI0 ?aMi ?aNl ?aE ?lE ?cE ?kE ?aYBW ?lYBW ?cYBW ?kYBW ?aYTK ?lYTK ?cYTK ?kYTK ?tE ?gO ?rO ?yO ?tYBW ?tYTK ?aEFU ?lUx ?vV ?zV ?q1 ?q2 ?q3 ?q4 ?q5 ?q6 ?q7 ?q8 ?q9 ?q10 ?q11 ?q12 ?q13 ?q14 ?q15 ?hX1 ?hX2 ?hX3
    (case a1 => k_is); (case l1 => k_is); (case c1 => k_is); (case k1 => k_is); (case a2 => k_is); (case l2 => k_is)
    (case c2 => k_is); (case k2 => k_is); (case a3 => k_is); (case l3 => k_is); (case c3 => k_is); (case k3 => k_is)
    (case a4 => k_is); (case l4 => k_is); (case c4 => k_is); (case k4 => k_is); (case a5 => k_is); (case l5 => k_is)
    (case c5 => k_is); (case k5 => k_is); (case a6 => k_is); (case l6 => k_is); (case c6 => k_is); (case k6 => k_is)
    (case a7 => k_is); (case l7 => k_is); (case c7 => k_is); (case k7 => k_is); (case a8 => k_is); (case l8 => k_is)
    (case c8 => k_is); (case k8 => k_is); (case a9 => k_is); (case l9 => k_is); (case c9 => k_is); (case k9 => k_is)
    (case a10 => k_is); (case l10 => k_is); (case c10 => k_is); (case k10 => k_is); (case a11 => k_is); (case l11 => k_is)
    (case c11 => k_is); (case k11 => k_is); (case a12 => k_is); (case l12 => k_is); (case c12 => k_is); (case k12 => k_is)
    (case a13 => k_is); (case l13 => k_is); (case c13 => k_is); (case k13 => k_is); (case a14 => k_is); (case l14 => k_is)
    (case c14 => k_is); (case k14 => k_is); (case a15 => k_is); (case l15 => k_is); (case c15 => k_is); (case k15 => k_is)
    (case a16 => k_is); (case l16 => k_is); (case c16 => k_is); (case k16 => k_is); (case a17 => k_is); (case l17 => k_is)
    (case c17 => k_is); (case k17 => k_is); (case a18 => k_is); (case l18 => k_is); (case c18 => k_is); (case k18 => k_is)
    (case a19 => k_is); (case l19 => k_is); (case c19 => k_is); (case k19 => k_is); (case a20 => k_is); (case l20 => k_is)
    (case c20 => k_is); (case k20 => k_is); (case a21 => k_is); (case l21 => k_is); (case c21 => k_is); (case k21 => k_is)
    (case a22 => k_is); (case l22 => k_is); (case c22 => k_is); (case k22 => k_is); (case a23 => k_is); (case l23 => k_is)
    (case c23 => k_is); (case k23 => k_is); (case a24 => k_is); (case l24 => k_is); (case c24 => k_is); (case k24 => k_is)
    (case a25 => k_is); (case l25 => k_is); (case c25 => k_is); (case k25 => k_is); (case a26 => k_is); (case l26 => k_is)
    (case c26 => k_is); (case k26 => k_is); (case a27 => k_is); (case l27 => k_is); (case c27 => k_is); (case k27 => k_is)
    (case z1 => k_is); (case z2 => k_is); (case z3 => k_is); (case z4 => k_is); (case z5 => k_is); (case z6 => k_is)
    (case z7 => k_is); (case z8 => k_is); (case z9 => k_is); (case z10 => k_is); (case z11 => k_is); (case z12 => k_is)
    (case z13 => k_is); (case z14 => k_is); (case z15 => k_is); (case y1 => k_is); (case y2 => k_is); (case y3 => k_is)
    (case y4 => k_is); (case y5 => k_is); (case y6 => k_is); (case hC8 => kernel_rfl); (case nT8 => kernel_rfl); (case aC => k_is)
    (case aA => k_is); (case iA => k_is); (case lA => k_is); (case cA => k_is); (case kA => k_is); (case aW => k_is)
    (case iW => k_is); (case lW => k_is); (case cW => k_is); (case kW => k_is); (case aCe => k_is); (case iCe => k_is)
    (case lCe => k_is); (case cCe => k_is); (case kCe => k_is); (case aCr => k_is); (case iCr => k_is); (case lCr => k_is)
    (case cCr => k_is); (case kCr => k_is); (case aCs => k_is); (case iCs => k_is); (case lCs => k_is); (case cCs => k_is)
    (case kCs => k_is); (case aCm => k_is); (case iCm => k_is); (case lCm => k_is); (case cCm => k_is); (case kCm => k_is)
    (case aCn => k_is); (case iCn => k_is); (case lCn => k_is); (case cCn => k_is); (case kCn => k_is); (case lT => k_is)
    (case lE0 => k_is); (case aNr => k_is); (case lNr => k_is); (case pg1c => k_is); (case hd1c => k_is); (case po1c => k_is)
    (case sa1c => k_is); (case mk1c => k_is); (case kp1c => k_is); (case n1c1 => k_is); (case n1c2 => k_is); (case aBW => k_is)
    (case lBW => k_is); (case rvBW => rfl); (case saBW => k_is); (case suBW => k_is); (case tyBW => k_is); (case kpBW => k_is)
    (case gaBW => k_is); (case ggBW => k_is); (case hdBW => k_is); (case clBW => k_is); (case mrBW => k_is); (case rdBW => k_is)
    (case nmBW => k_is); (case fwordBW => k_is); (case fnameBW => k_is); (case fmostBW => k_is); (case fstripBW => k_is); (case fnumberBW => k_is)
    (case fatBW => k_is); (case aTK => k_is); (case lTK => k_is); (case rvTK => rfl); (case saTK => k_is); (case suTK => k_is)
    (case tyTK => k_is); (case kpTK => k_is); (case gaTK => k_is); (case ggTK => k_is); (case hdTK => k_is); (case clTK => k_is)
    (case mrTK => k_is); (case rdTK => k_is); (case nmTK => k_is); (case fwordTK => k_is); (case fnameTK => k_is); (case fmostTK => k_is)
    (case fstripTK => k_is); (case fnumberTK => k_is); (case fatTK => k_is); (case aFU => k_is); (case lFU => k_is); (case rvFU => rfl)
    (case saFU => k_is); (case suFU => k_is); (case tyFU => k_is); (case kpFU => k_is); (case gaFU => k_is); (case ggFU => k_is)
    (case hdFU => k_is); (case clFU => k_is); (case mrFU => k_is); (case rdFU => k_is); (case nmFU => k_is); (case fwordFU => k_is)
    (case fnameFU => k_is); (case fmostFU => k_is); (case fstripFU => k_is); (case fnumberFU => k_is); (case fatFU => k_is); (case ocN => k_is)
    (case ocT => k_is); (case aI0 => k_is); (case aMi => k_is); (case aNl => k_is); (case aE => k_is); (case lE => k_is)
    (case cE => k_is); (case kE => k_is); (case aYBW => k_is); (case lYBW => k_is); (case cYBW => k_is); (case kYBW => k_is)
    (case aYTK => k_is); (case lYTK => k_is); (case cYTK => k_is); (case kYTK => k_is); (case tE => k_is); (case gO => k_is)
    (case rO => k_is); (case yO => k_is); (case tYBW => k_is); (case tYTK => k_is); (case aEFU => k_is); (case lUx => k_is)
    (case vV => k_is); (case zV => k_is); (case q1 => kernel_rfl); (case q2 => kernel_rfl); (case q3 => kernel_rfl); (case q4 => kernel_rfl)
    (case q5 => kernel_rfl); (case q6 => kernel_rfl); (case q7 => kernel_rfl); (case q8 => kernel_rfl); (case q9 => kernel_rfl); (case q10 => kernel_rfl)
    (case q11 => kernel_rfl); (case q12 => kernel_rfl); (case q13 => kernel_rfl); (case q14 => kernel_rfl); (case q15 => kernel_rfl); (case hX1 => kernel_rfl)
    (case hX2 => kernel_rfl); (case hX3 => kernel_rfl)
