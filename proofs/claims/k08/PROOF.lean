import PyProof.Rows.All
import HandS.ForMost
import HandS.Walk
import HandS.IsInst
import HandS.Zip
import HandS.EndBits
import HandS.Evl
import HandS.TupAny
import HandS.Style
import HandS.TupLe
import KE.SortData
import KE.KDictKeyed
import HandS.TupMul
import KE.GoesEnum
import HandS.Star
import HandS.Defaults
import HandS.Deep
import HandS.More
import HandS.ForExc
import HandS.MakeKwOnly
import OpenK.KOps
import HandS.TupSets
import KE.KeyNested
import KE.GoesSet
import KE.KDictDisplayH
import HandS.TupLen
import KE.KDictSum
import KE.KDictCopyH
import KE.SortCalls
import HandS.Flow
import PySem.Challenge.RW_whoseink_k08_whole_patience_and_caps
set_option Elab.async false
set_option linter.all false
set_option maxRecDepth 100000
set_option maxHeartbeats 4000000
namespace Ink
open PySem PySem.Spec PyProof.Rows L2
/-! ### a def that is called, by its module name -/
def Cal (P : Program) (w : World) (K : PySem.W.Frag) (mg : Str → Option Value) (base : Heap) (k : Nat) (x : Str) (ps : List Str) (sp : Sp) : Prop :=
  ∃ f fd, FnOk P w K mg base CX0 k f fd ps sp ∧ mg x = some (.ref f) ∧ PySem.W.keepIn K (.ref f) = true ∧ Binds K fd ps []
theorem Cal.mono {P : Program} {w : World} {K : PySem.W.Frag} {mg : Str → Option Value} {base : Heap} {j k : Nat} {x : Str} {ps : List Str} {sp : Sp} (c : Cal P w K mg base j x ps sp) (h : j ≤ k) : Cal P w K mg base k x ps sp := by
  obtain ⟨f, fd, G, g, kp, b⟩ := c
  exact ⟨f, fd, G.mono h, g, kp, b⟩
section
variable {X : Cx} {k : Nat} {x : Str} {ps : List Str} {sp : Sp} {p pos : Pos} {e : Expr} {es : List Expr} {t : TA}
theorem pe_callC (c : Cal X.prog X.w X.K X.mg X.base k x ps sp) (hr : Room k X.A) (hg : Gl X x)
    (ha : PA X (e :: es) t) (hdb : (x == ("__debug__" : Str)) = false := by decide) (he : starEach (e :: es) X.env = (false, eval e X.env) :: starEach es X.env := by rfl) (hpl : (backTo pos (starEach es X.env)).any (·.1) = false := by rfl)
    (hp : ∀ f fd, FnOk X.prog X.w X.K X.mg X.base CX0 k f fd ps sp → Passes CX0 X E0 := by exact fun _ _ _ => pass0) :
    PE X (.Call (.Name x p) (e :: es) [] pos) (tCall sp [] E0 t) := by
  obtain ⟨f, fd, G, g, kp, b⟩ := c
  exact pe_call G hr hg g kp b .nil pass0 ha hdb he hpl
theorem pe_callC0 (c : Cal X.prog X.w X.K X.mg X.base k x ps sp) (hr : Room k X.A) (hg : Gl X x) (hdb : (x == ("__debug__" : Str)) = false := by decide) :
    PE X (.Call (.Name x p) [] [] pos) (tCall sp [] E0 tNil) := by
  obtain ⟨f, fd, G, g, kp, b⟩ := c
  exact pe_call0 G hr hg g kp b .nil pass0 hdb
end
theorem pe_globI {X : Cx} {x : Str} {n : Int} {pos : Pos} (hg : Gl X x) (hm : ∃ t, X.mg x = some (.int n t)) (hd : (x == ("__debug__" : Str)) = false := by decide) : PE X (.Name x pos) (tC (.int n)) := by
  obtain ⟨t, e⟩ := hm
  exact pe_glob hg e ⟨t, rfl⟩ hd
/-! ### heaps -/
/-- all but what stands at a is as it was -/
def Keep (a : Addr) (H H' : Hp) : Prop := ∀ b o, b ≠ a → H b = some o → H' b = some o
theorem Keep.refl {a : Addr} (H : Hp) : Keep a H H := fun _ _ _ h => h
theorem Keep.trans {a : Addr} {H H1 H2 : Hp} (x : Keep a H H1) (y : Keep a H1 H2) : Keep a H H2 := fun b o n h => y b o n (x b o n h)
theorem Keep.of_same {a : Addr} {H H' : Hp} (h : Same H H') : Keep a H H' := fun b o _ e => h b o e
theorem Keep.at {a : Addr} {H : Hp} {o : HO} : Keep a H (upd H a o) := fun b _ n h => by
  rw [upd_ne n]
  exact h
theorem Keep.seq {K : PySem.W.Frag} {a b : Addr} {H H' : Hp} {xs : List V} (e : Keep a H H') (n : b ≠ a) (h : SqL K H b xs) : SqL K H' b xs := by
  rcases h with (h | ⟨o, h⟩) | h
  · exact .inl (.inl (e _ _ n h))
  · exact .inl (.inr ⟨o, e _ _ n h⟩)
  · exact .inr h
theorem same_new {H : Hp} {p : Addr} {o : HO} (h : H p = none) : Same H (upd H p o) := fun b x e => by
  rw [upd_ne (ne_of_none e h)]
  exact e
theorem same_tup {K : PySem.W.Frag} {H H' : Hp} {a : Addr} {xs : List V} (e : Same H H') (h : SqT K H a xs) : SqT K H' a xs := Evl.ex_t e h
theorem atI_of {α : Type} {xs : List α} {r : Int} {v : α} (h0 : 0 ≤ r) (h : xs[r.toNat]? = some v) : atI xs r = some v := by
  have e : ((r.toNat : Nat) : Int) = r := by omega
  rw [← e]
  exact atI_nat h
theorem walk_range0 {n : Nat} : Walk (Itr 0 n) n (fun _ => True) (YFn fun i => .int (i : Int)) :=
  walk_range.mono (fun _ h => h) fun i H x H' _ _ y => ⟨y.1, y.2.trans (by show V.int (0 + (i : Int)) = V.int (i : Int); rw [Int.zero_add])⟩
/-! ### the bag of the drawn numbers -/
def BagAt (H : Hp) (a l : Addr) : Prop := ∃ (ns : List Int) (p h s : Int), H a = some (.lst [.ref l, .int p, .int h, .int s]) ∧ H l = some (.lst (ns.map V.int)) ∧ 0 ≤ p ∧ 0 ≤ h ∧ 0 ≤ s ∧ s < 2147483563
theorem bag_ne {H : Hp} {a l : Addr} {ns : List Int} {x y z w : V} (h : H a = some (.lst [x, y, z, w])) (hx : ∀ i, x ≠ .int i) (h' : H l = some (.lst (ns.map V.int))) : l ≠ a := by
  intro e
  rw [e, h] at h'
  injection h' with h'
  injection h' with h'
  cases ns with
  | nil => cases h'
  | cons n r =>
    injection h' with h1 _
    exact hx n h1
theorem BagAt.same {H H' : Hp} {a l : Addr} (b : BagAt H a l) (e : Same H H') : BagAt H' a l := by
  obtain ⟨ns, p, h, s, h1, h2, r⟩ := b
  exact ⟨ns, p, h, s, e _ _ h1, e _ _ h2, r⟩
theorem BagAt.ne {H : Hp} {a l D : Addr} (b : BagAt H a l) (h : H D = none) : a ≠ D ∧ l ≠ D := by
  obtain ⟨ns, p, h', s, h1, h2, r⟩ := b
  exact ⟨ne_of_none h1 h, ne_of_none h2 h⟩
theorem BagAt.upd {H : Hp} {a l D : Addr} {o : HO} (b : BagAt H a l) (n : a ≠ D ∧ l ≠ D) : BagAt (upd H D o) a l := by
  obtain ⟨ns, p, h, s, h1, h2, r⟩ := b
  exact ⟨ns, p, h, s, by rw [upd_ne n.1]; exact h1, by rw [upd_ne n.2]; exact h2, r⟩
theorem Keep.mut {a D : Addr} {H H' : Hp} {o : HO} (k : Keep a H H') (h : H D = none) : Keep a H (L2.upd H' D o) := fun b u n e => by
  rw [upd_ne (ne_of_none e h)]
  exact k b u n e
theorem Keep.seqT {K : PySem.W.Frag} {a b : Addr} {H H' : Hp} {xs : List V} (e : Keep a H H') (n : b ≠ a) (h : SqT K H b xs) : SqT K H' b xs := by
  rcases h with (h | ⟨o, h⟩) | h
  · exact .inl (.inl (e _ _ n h))
  · exact .inl (.inr ⟨o, e _ _ n h⟩)
  · exact .inr h
/-- the bag's own list, written anew -/
theorem BagAt.set {H : Hp} {a l : Addr} {ns : List Int} {p h s p' h' s' : Int} (h1 : H a = some (.lst [.ref l, .int p, .int h, .int s])) (h2 : H l = some (.lst (ns.map V.int)))
    (r : 0 ≤ p' ∧ 0 ≤ h' ∧ 0 ≤ s' ∧ s' < 2147483563) : BagAt (L2.upd H a (.lst [.ref l, .int p', .int h', .int s'])) a l :=
  ⟨ns, p', h', s', upd_same, by rw [upd_ne (bag_ne h1 (fun _ => nofun) h2)]; exact h2, r⟩
def spPull : Sp := fun vs H Q _ => ∃ (a l : Addr) (m : Int), vs = [.ref a, .int m] ∧ BagAt H a l ∧ 0 < m ∧ m < 1073741824 ∧ ∀ r H', 0 ≤ r → r < m → BagAt H' a l → Keep a H H' → Q (.int r) H'
def spBag (K : PySem.W.Frag) : Sp := fun vs H Q _ => ∃ (c : Addr) (ns : List Int), vs = [.ref c] ∧ SqL K H c (ns.map V.int) ∧ ns.length ≤ 63 ∧ ∀ a l H', H a = none → BagAt H' a l → Same H H' → Q (.ref a) H'
/-- x is a list, a tuple or a text of these things, apart from the bag -/
def ItemsOf (K : PySem.W.Frag) (H : Hp) (a : Addr) (x : V) (xs : List V) : Prop := (∃ p, x = .ref p ∧ p ≠ a ∧ (SqL K H p xs ∨ SqT K H p xs)) ∨ ∃ z : Str, x = .str z ∧ xs = z.cps.toList.map fun c => .str ⟨#[c]⟩
def spOf (K : PySem.W.Frag) : Sp := fun vs H Q _ => ∃ (a l : Addr) (x : V) (xs : List V), vs = [.ref a, x] ∧ BagAt H a l ∧ ItemsOf K H a x xs ∧ 0 < xs.length ∧ xs.length ≤ 1000 ∧ ∀ v H', v ∈ xs → BagAt H' a l → Keep a H H' → Q v H'
section
variable {K : PySem.W.Frag} {σ : L2.St} {H : Hp} {Q : VK}
theorem rd_ix {i : Nat} {a : Addr} {xs : List V} {j : Nat} {v : V} (hs : σ[i]? = some (some (.ref a))) (h : SqL K H a xs) (hv : xs[j]? = some v) (q : Q v H) : tOp (rIxL K) (tVar i) (tC (.int (j : Int))) σ H Q :=
  ⟨.ref a, hs, a, xs, (j : Int), v, rfl, rfl, h, atI_nat hv, q⟩
end
end Ink
namespace Ink
open PySem PySem.Spec PyProof.Rows L2
def topS (i : Nat) : Stmt := PySem.Challenge.pw_whoseink_k08_whole_patience_and_caps.main.body.getD i (.Pass ⟨0, 0, 0, 0⟩)
abbrev sIsName : Stmt := topS 12
theorem sc_is_name : FnScope ["text", "letter"] ["text"] (defScope sIsName) := ⟨rfl, rfl, rfl, by decide +kernel, rfl, by decide +kernel, by decide +kernel⟩
abbrev sIsSign : Stmt := topS 13
theorem sc_is_sign : FnScope ["text"] ["text"] (defScope sIsSign) := ⟨rfl, rfl, rfl, by decide +kernel, rfl, by decide +kernel, by decide +kernel⟩
abbrev sIsWriter : Stmt := topS 14
theorem sc_is_writer : FnScope ["thing", "name", "arrows", "patience", "cap"] ["thing"] (defScope sIsWriter) := ⟨rfl, rfl, rfl, by decide +kernel, rfl, by decide +kernel, by decide +kernel⟩
abbrev sIsCount : Stmt := topS 15
theorem sc__is_count : FnScope ["number"] ["number"] (defScope sIsCount) := ⟨rfl, rfl, rfl, by decide +kernel, rfl, by decide +kernel, by decide +kernel⟩
abbrev sIsPlace : Stmt := topS 16
theorem sc__is_place : FnScope ["number"] ["number"] (defScope sIsPlace) := ⟨rfl, rfl, rfl, by decide +kernel, rfl, by decide +kernel, by decide +kernel⟩
abbrev sAreArrows : Stmt := topS 17
theorem sc__are_arrows : FnScope ["arrows", "heads", "place", "sign", "to", "_", "head", "following"] ["arrows"] (defScope sAreArrows) := ⟨rfl, rfl, rfl, by decide +kernel, rfl, by decide +kernel, by decide +kernel⟩
abbrev sMinds : Stmt := topS 29
theorem sc__minds : FnScope ["writers", "stand", "at", "_", "arrows", "patience", "place"] ["writers", "stand", "at"] (defScope sMinds) := ⟨rfl, rfl, rfl, by decide +kernel, rfl, by decide +kernel, by decide +kernel⟩
abbrev sMayWrite : Stmt := topS 28
theorem sc__may_write : FnScope ["writers", "stand", "at", "_", "waits", "run", "cap", "others", "k"] ["writers", "stand", "at"] (defScope sMayWrite) := ⟨rfl, rfl, rfl, by decide +kernel, rfl, by decide +kernel, by decide +kernel⟩
abbrev sBehind : Stmt := topS 30
theorem sc__behind : FnScope ["writers", "stand", "at", "to", "places", "waits", "run", "then", "kept", "many", "k", "wait"] ["writers", "stand", "at", "to"] (defScope sBehind) := ⟨rfl, rfl, rfl, by decide +kernel, rfl, by decide +kernel, by decide +kernel⟩
abbrev sStepsOf : Stmt := topS 27
theorem sc__steps_of : FnScope ["writers", "stand", "moves", "at", "writer", "place", "sign", "to"] ["writers", "stand"] (defScope sStepsOf) := ⟨rfl, rfl, rfl, by decide +kernel, rfl, by decide +kernel, by decide +kernel⟩
abbrev sLBag : Stmt := topS 32
theorem sc__law_bag : FnScope ["_law_script", "_law_salt", "_law_cell"] ["_law_script"] (defScope sLBag) := ⟨rfl, rfl, rfl, by decide +kernel, rfl, by decide +kernel, by decide +kernel⟩
abbrev sLPull : Stmt := topS 33
theorem sc__law_pull : FnScope ["_law_bag_here", "_law_many", "_law_cell", "_law_got", "_law_seed"] ["_law_bag_here", "_law_many"] (defScope sLPull) := ⟨rfl, rfl, rfl, by decide +kernel, rfl, by decide +kernel, by decide +kernel⟩
abbrev sLOf : Stmt := topS 34
theorem sc__law_of : FnScope ["_law_bag_here", "_law_things"] ["_law_bag_here", "_law_things"] (defScope sLOf) := ⟨rfl, rfl, rfl, by decide +kernel, rfl, by decide +kernel, by decide +kernel⟩
abbrev sLLetters : Stmt := topS 35
theorem sc__law_letters : FnScope [] [] (defScope sLLetters) := ⟨rfl, rfl, rfl, by decide +kernel, rfl, by decide +kernel, by decide +kernel⟩
abbrev sLLike : Stmt := topS 36
theorem sc__law_like : FnScope ["_law_found", "_law_due", "_law_one", "_law_other"] ["_law_found", "_law_due"] (defScope sLLike) := ⟨rfl, rfl, rfl, by decide +kernel, rfl, by decide +kernel, by decide +kernel⟩
abbrev sLNames : Stmt := topS 37
theorem sc__law_names : FnScope ["_law_bag_here", "_law_many", "_law_size", "_law_letters_here", "_law_at", "_law_start", "_law_step", "_law_base", "_law_found", "_law_k", "_law_sign", "_law_name"] ["_law_bag_here", "_law_many"] (defScope sLNames) := ⟨rfl, rfl, rfl, by decide +kernel, rfl, by decide +kernel, by decide +kernel⟩
abbrev sLSigns : Stmt := topS 38
theorem sc__law_signs : FnScope ["_law_bag_here", "_law_limit", "_law_start", "_law_step", "_law_many", "_law_letters_here", "_law_k"] ["_law_bag_here", "_law_limit"] (defScope sLSigns) := ⟨rfl, rfl, rfl, by decide +kernel, rfl, by decide +kernel, by decide +kernel⟩
abbrev sLWriter : Stmt := topS 39
theorem sc__law_writer : FnScope ["_law_bag_here", "_law_name", "_law_places", "_law_signs_here", "_law_thick", "_law_lines", "_law_place", "_law_sign", "_law_counts"] ["_law_bag_here", "_law_name", "_law_places", "_law_signs_here", "_law_thick"] (defScope sLWriter) := ⟨rfl, rfl, rfl, by decide +kernel, rfl, by decide +kernel, by decide +kernel⟩
abbrev sNeedCompany : Stmt := topS 25
theorem sc__need_company : FnScope ["writers", "at", "writer", "names", "name"] ["writers"] (defScope sNeedCompany) := ⟨rfl, rfl, rfl, by decide +kernel, rfl, by decide +kernel, by decide +kernel⟩
abbrev sCompanyInit : Stmt := inClass (topS 23) 0
theorem sc_Company___init__ : FnScope ["self", "writers"] ["self", "writers"] (defScope sCompanyInit) := ⟨rfl, rfl, rfl, by decide +kernel, rfl, by decide +kernel, by decide +kernel⟩
abbrev sCompanyBegin : Stmt := inClass (topS 23) 7
theorem sc_Company_begin : FnScope ["self", "noughts"] ["self"] (defScope sCompanyBegin) := ⟨rfl, rfl, rfl, by decide +kernel, rfl, by decide +kernel, by decide +kernel⟩
abbrev sCompanySteps : Stmt := inClass (topS 23) 8
theorem sc_Company_steps : FnScope ["self", "stand"] ["self", "stand"] (defScope sCompanySteps) := ⟨rfl, rfl, rfl, by decide +kernel, rfl, by decide +kernel, by decide +kernel⟩
abbrev sLArrows : Stmt := topS 41
theorem sc__law_arrows : FnScope ["_law_writer_here", "_law_place", "_law_at", "_law_sign", "_law_to"] ["_law_writer_here", "_law_place"] (defScope sLArrows) := ⟨rfl, rfl, rfl, by decide +kernel, rfl, by decide +kernel, by decide +kernel⟩
abbrev sLBegin : Stmt := topS 42
theorem sc__law_begin : FnScope ["_law_m"] ["_law_m"] (defScope sLBegin) := ⟨rfl, rfl, rfl, by decide +kernel, rfl, by decide +kernel, by decide +kernel⟩
abbrev sLWaitsCount : Stmt := topS 43
theorem sc__law_waits_count : FnScope ["_law_m", "_law_places", "_law_at"] ["_law_m", "_law_places", "_law_at"] (defScope sLWaitsCount) := ⟨rfl, rfl, rfl, by decide +kernel, rfl, by decide +kernel, by decide +kernel⟩
abbrev sLCan : Stmt := topS 44
theorem sc__law_can : FnScope ["_law_m", "_law_stand", "_law_spot", "_law_places", "_law_waits", "_law_run", "_law_others", "_law_at"] ["_law_m", "_law_stand", "_law_spot"] (defScope sLCan) := ⟨rfl, rfl, rfl, by decide +kernel, rfl, by decide +kernel, by decide +kernel⟩
abbrev sLAfter : Stmt := topS 45
theorem sc__law_after : FnScope ["_law_m", "_law_stand", "_law_spot", "_law_to", "_law_places", "_law_waits", "_law_run", "_law_later", "_law_many", "_law_fresh", "_law_at", "_law_wait"] ["_law_m", "_law_stand", "_law_spot", "_law_to"] (defScope sLAfter) := ⟨rfl, rfl, rfl, by decide +kernel, rfl, by decide +kernel, by decide +kernel⟩
abbrev sLSteps : Stmt := topS 46
theorem sc__law_steps : FnScope ["_law_m", "_law_stand", "_law_found", "_law_spot", "_law_some", "_law_sign", "_law_to", "_law_later"] ["_law_m", "_law_stand"] (defScope sLSteps) := ⟨rfl, rfl, rfl, by decide +kernel, rfl, by decide +kernel, by decide +kernel⟩
abbrev sLCompany : Stmt := topS 40
theorem sc__law_company : FnScope ["_law_bag_here", "_law_limit", "_law_signs_here", "_law_thick", "_law_found", "_law_name"] ["_law_bag_here", "_law_limit", "_law_signs_here"] (defScope sLCompany) := ⟨rfl, rfl, rfl, by decide +kernel, rfl, by decide +kernel, by decide +kernel⟩
abbrev sLotBehind : Stmt := topS 24
theorem sc_lot_behind : FnScope ["company", "lot", "sign", "stand", "found", "_", "then"] ["company", "lot", "sign"] (defScope sLotBehind) := ⟨rfl, rfl, rfl, by decide +kernel, rfl, by decide +kernel, by decide +kernel⟩
abbrev sCompanyLeaves : Stmt := inClass (topS 23) 10
theorem sc_Company_leaves : FnScope ["self", "strip", "lot", "sign"] ["self", "strip"] (defScope sCompanyLeaves) := ⟨rfl, rfl, rfl, by decide +kernel, rfl, by decide +kernel, by decide +kernel⟩
abbrev sLInARow : Stmt := topS 51
theorem sc__law_in_a_row : FnScope ["_law_names_here", "_law_name", "_law_many", "_law_one"] ["_law_names_here", "_law_name"] (defScope sLInARow) := ⟨rfl, rfl, rfl, by decide +kernel, rfl, by decide +kernel, by decide +kernel⟩
abbrev sLWaited : Stmt := topS 50
theorem sc__law_waited : FnScope ["_law_names_here", "_law_name", "_law_many", "_law_one"] ["_law_names_here", "_law_name"] (defScope sLWaited) := ⟨rfl, rfl, rfl, by decide +kernel, rfl, by decide +kernel, by decide +kernel⟩
abbrev sLPlaceAt : Stmt := topS 49
theorem sc__law_place_at : FnScope ["_law_writer_here", "_law_signs_here", "_law_names_here", "_law_place", "_law_sign", "_law_name", "_law_some", "_law_mark", "_law_to"] ["_law_writer_here", "_law_signs_here", "_law_names_here"] (defScope sLPlaceAt) := ⟨rfl, rfl, rfl, by decide +kernel, rfl, by decide +kernel, by decide +kernel⟩
abbrev sLRowGood : Stmt := topS 52
theorem sc__law_row_good : FnScope ["_law_m", "_law_signs_here", "_law_names_here", "_law_writer_here", "_law_place", "_law_before", "_law_passed"] ["_law_m", "_law_signs_here", "_law_names_here"] (defScope sLRowGood) := ⟨rfl, rfl, rfl, by decide +kernel, rfl, by decide +kernel, by decide +kernel⟩
abbrev sLRowsOf : Stmt := topS 48
theorem sc__law_rows_of : FnScope ["_law_m", "_law_signs_here", "_law_found", "_law_at", "_law_longer", "_law_writer_here", "_law_rows", "_law_row"] ["_law_m", "_law_signs_here"] (defScope sLRowsOf) := ⟨rfl, rfl, rfl, by decide +kernel, rfl, by decide +kernel, by decide +kernel⟩
abbrev sLStrip : Stmt := topS 47
theorem sc__law_strip : FnScope ["_law_bag_here", "_law_m", "_law_letters_here", "_law_stand", "_law_found", "_law_k", "_law_some", "_law_step"] ["_law_bag_here", "_law_m", "_law_letters_here"] (defScope sLStrip) := ⟨rfl, rfl, rfl, by decide +kernel, rfl, by decide +kernel, by decide +kernel⟩
abbrev sLaw : Stmt := topS 53
theorem sc_law : FnScope ["_law_script", "_law_bag_here", "_law_turn", "_law_letters_here", "_law_m", "_law_signs_here", "_law_due", "_law_handed", "_law_company_here", "_law_found"] ["_law_script"] (defScope sLaw) := ⟨rfl, rfl, rfl, by decide +kernel, rfl, by decide +kernel, by decide +kernel⟩
structure Txt (mg : Str → Option Value) : Prop where
  m_len : mg "len" = none
  m_all : mg "all" = none
  m_list : mg "list" = none
  m_range : mg "range" = none
  m_zip : mg "zip" = none
  m_isinstance : mg "isinstance" = none
  m_tuple : mg "tuple" = none
  m_bool : mg "bool" = none
  m_int : mg "int" = none
  m_str : mg "str" = none
  m_max : mg "max" = none
  m_sorted : mg "sorted" = none
  m_enumerate : mg "enumerate" = none
  m_any : mg "any" = none
  e__MOST_LETTERS : ∃ t, mg "_MOST_LETTERS" = some (.int 6 t)
  e_MOST_ARROWS : ∃ t, mg "MOST_ARROWS" = some (.int 9 t)
  e_MOST_COUNT : ∃ t, mg "MOST_COUNT" = some (.int 3 t)
  e__LAST_PLACE : ∃ t, mg "_LAST_PLACE" = some (.int 2 t)
  e_MOST_WRITERS : ∃ t, mg "MOST_WRITERS" = some (.int 3 t)
end Ink
namespace Ink
open PySem PySem.Spec PyProof.Rows L2
section
variable {P : Program} {w : World} {K : PySem.W.Frag} {mg : Str → Option Value} {base : Heap}
theorem emod_in (x : Int) : 0 ≤ x % 2147483563 ∧ x % 2147483563 < 2147483563 := ⟨Int.emod_nonneg _ (by decide), Int.emod_lt_of_pos _ (by decide)⟩
theorem pos1 : (0 : Int) < 2147483563 := by decide
theorem pos2 : (0 : Int) < 8191 := by decide
theorem ok_pull {f : Addr} {fd : FuncData} {k : Nat} (F : Fun K "_law_pull" "_law_pull" sLPull f fd) (T : Txt mg) : FnOk P w K mg base CX0 (k + 1) f fd ["_law_bag_here", "_law_many"] spPull := by
  refine F.ok sc__law_pull (fun vs H Q E h => ?_) (fun cdv A outer s H vs Q E hr h => ?_)
  · obtain ⟨a, l, m, rfl, _⟩ := h
    rfl
  · obtain ⟨a, l, m, rfl, hB, hm0, hm1, q⟩ := h
    refine ⟨_, (Evl.pss_cut (ps_if (PW.pt (pw_and (pt_cmpR op_eq (pe_ix ix_list (pv 0) pe_int (fun _ _ => rfl)) pe_int (nomark _)) (pw_and1 (pt_cmpR op_lt (pe_ix ix_list (pv 0) pe_int (fun _ _ => rfl)) (pe_callB call_len (by rfl) T.m_len PySem.boot_len (pa_cons (pe_ix ix_list (pv 0) pe_int (fun _ _ => rfl)) pa_nil)) (nomark _)))))
    (pss_cons (ps_set (i := 2) sc__law_pull.nd rfl (.inl rfl) (pe_ix ix_list (pe_ix ix_list (pv 0) pe_int (fun _ _ => rfl)) (pe_ix ix_list (pv 0) pe_int (fun _ _ => rfl)) (fun _ _ => rfl)))
    (pss_cons (ps_asg (pe_op op_add (pe_ix ix_list (pv 0) pe_int (fun _ _ => rfl)) pe_int) (pg_sub (pv 0) pe_int set_list))
    (pss_one (ps_if (pt_cmpR op_ge (pv 2) (pe_op op_pow pe_int pe_int) (nomark _))
    (pss_one (ps_asg (pe_op op_sub (pv 2) (pe_op op_pow pe_int pe_int)) (pg_sub (pv 0) pe_int set_list))) (pss_one (ps_asg (pe_op op_mod (pe_op op_add (pe_op op_add (pe_op op_mul (pe_ix ix_list (pv 0) pe_int (fun _ _ => rfl)) pe_int) (pe_op op_mul (pe_op op_mod (pv 2) pe_int) pe_int)) pe_int) pe_int) (pg_sub (pv 0) pe_int set_list))))))) pss_nil)
    (pss_cons (ps_if (pt_cmpR op_gt (pe_ix ix_list (pv 0) pe_int (fun _ _ => rfl)) pe_int (nomark _))
    (pss_cons (ps_set (i := 3) sc__law_pull.nd rfl (.inl rfl) (pe_op op_mod (pe_ix ix_list (pv 0) pe_int (fun _ _ => rfl)) (pv 1)))
    (pss_cons (ps_asg (pe_op op_fdiv (pe_ix ix_list (pv 0) pe_int (fun _ _ => rfl)) (pv 1)) (pg_sub (pv 0) pe_int set_list))
    (pss_one (ps_ret (pv 3))))) pss_nil)
    (pss_cons (ps_set (i := 4) sc__law_pull.nd rfl (.inl rfl) (pe_ix ix_list (pv 0) pe_int (fun _ _ => rfl)))
    (pss_cons (ps_asg (pe_op op_mod (pe_op op_add (pe_op op_add (pe_op op_mul (pe_op op_mul (pv 4) (pv 4)) pe_int) (pe_op op_mul (pv 4) pe_int)) pe_int) pe_int) (pg_sub (pv 0) pe_int set_list))
    (pss_one (ps_ret (pe_op op_mod (pe_op op_add (pe_op op_fdiv (pe_ix ix_list (pv 0) pe_int (fun _ _ => rfl)) pe_int) (pe_op op_mul (pe_op op_mod (pe_ix ix_list (pv 0) pe_int (fun _ _ => rfl)) pe_int) pe_int)) (pv 1)))))))), ?_⟩
    refine ⟨fun σ H1 => ∃ c, σ = [some (.ref a), some (.int m), c, none, none] ∧ BagAt H1 a l ∧ Keep a H H1, ?_, fun σ H1 hσ => ?_⟩
    · obtain ⟨ns, p, h, s, h1, h2, h3, h4, h5, h6⟩ := hB
      have L : SqL K H a _ := .of h1
      -- bag[2] == 0
      refine ⟨.ref a, rfl, a, _, 2, .int h, rfl, rfl, L, rfl, rfl, _, rfl, ?_⟩
      by_cases e0 : V.int h = V.int 0
      · rw [decide_eq_true e0]
        refine iteT ?_
        refine ⟨.ref a, rfl, a, _, 1, .int p, rfl, rfl, L, rfl, .ref a, rfl, a, _, 0, .ref l, rfl, rfl, L, rfl, .ref l, _, rfl, .inl ⟨_, .of h2, rfl⟩, _, _, rfl, rfl, _, rfl, ?_⟩
        refine ite2 (fun e1 => ?_) (fun e1 => ?_)
        · have e2 : p < ((ns.map V.int).length : Int) := of_decide_eq_true e1
          rw [List.length_map] at e2
          have hc : (ns.map V.int)[p.toNat]? = some (.int (ns[p.toNat]'(by omega))) := by
            rw [List.getElem?_map, List.getElem?_eq_getElem (by omega)]
            rfl
          have ep : ((p.toNat : Nat) : Int) = p := by omega
          generalize ns[p.toNat]'(by omega) = c at hc
          refine ⟨.ref a, rfl, a, _, 0, .ref l, rfl, rfl, L, rfl, .ref a, rfl, a, _, 1, .int p, rfl, rfl, L, rfl, l, _, p, .int c, rfl, rfl, .of h2, ?_, ?_⟩
          · rw [← ep]
            exact atI_nat hc
          · -- bag[1] = bag[1] + 1
            refine ⟨.ref a, rfl, a, _, 1, .int p, rfl, rfl, L, rfl, p, 1, rfl, rfl, .ref a, rfl, a, _, 1, 1, rfl, rfl, h1, rfl, ?_⟩
            -- cell >= 10 ** 18
            have n1 : (upd H a (.lst [.ref l, .int (p + 1), .int h, .int s])) a = some (.lst [.ref l, .int (p + 1), .int h, .int s]) := upd_same
            have n2 : (upd H a (.lst [.ref l, .int (p + 1), .int h, .int s])) l = some (.lst (ns.map V.int)) := by
              rw [upd_ne (bag_ne h1 (fun _ => nofun) h2)]
              exact h2
            refine ⟨.int c, rfl, 10, 18, rfl, rfl, ⟨by decide, by decide, by decide⟩, c, _, rfl, rfl, _, rfl, ?_⟩
            refine ite2 (fun e3 => ?_) (fun e3 => ?_)
            · refine ⟨.int c, rfl, 10, 18, rfl, rfl, ⟨by decide, by decide, by decide⟩, c, _, rfl, rfl, .ref a, rfl, a, _, 2, 2, rfl, rfl, n1, rfl, some (.int c), rfl, ?_, ?_⟩
              · have e4 : (10 : Int) ^ ((18 : Int).toNat) ≤ c := of_decide_eq_true e3
                exact BagAt.set (p' := p + 1) (h' := c - 10 ^ ((18 : Int).toNat)) (s' := s) n1 n2 ⟨by omega, by omega, h5, h6⟩
              · exact Keep.at.trans Keep.at
            · refine ⟨.ref a, rfl, a, _, 3, .int s, rfl, rfl, .of n1, rfl, s, 48271, rfl, rfl, .inl ⟨by omega, by omega⟩, .int c, rfl, c, 2147483563, rfl, rfl, pos1, _, 69621, rfl, rfl, .inr ⟨by decide, by decide⟩, _, _, rfl, rfl, _, 7, rfl, rfl, _, 2147483563, rfl, rfl, pos1, .ref a, rfl, a, _, 3, 3, rfl, rfl, n1, rfl, some (.int c), rfl, ?_, ?_⟩
              · exact BagAt.set (p' := p + 1) (h' := h) n1 n2 ⟨by omega, h4, (emod_in _).1, (emod_in _).2⟩
              · exact Keep.at.trans Keep.at
        · exact ⟨none, rfl, ⟨ns, p, h, s, h1, h2, h3, h4, h5, h6⟩, Keep.refl H⟩
      · rw [decide_eq_false e0]
        exact iteF (iteF ⟨none, rfl, ⟨ns, p, h, s, h1, h2, h3, h4, h5, h6⟩, Keep.refl H⟩)
    · obtain ⟨c, rfl, hB1, k1⟩ := hσ
      obtain ⟨ns, p, h, s, h1, h2, h3, h4, h5, h6⟩ := hB1
      have L : SqL K H1 a _ := .of h1
      refine ⟨.ref a, rfl, a, _, 2, .int h, rfl, rfl, L, rfl, _, _, rfl, rfl, _, rfl, ite2 (fun e1 => ?_) (fun e1 => ?_)⟩
      · have e2 : (0 : Int) < h := of_decide_eq_true e1
        refine ⟨.ref a, rfl, a, _, 2, .int h, rfl, rfl, L, rfl, .int m, rfl, h, m, rfl, rfl, hm0, ?_⟩
        refine ⟨.ref a, rfl, a, _, 2, .int h, rfl, rfl, L, rfl, .int m, rfl, h, m, rfl, rfl, ⟨hm0, hm1⟩, .ref a, rfl, a, _, 2, 2, rfl, rfl, h1, rfl, .int (h % m), rfl, ?_⟩
        exact q _ _ (Int.emod_nonneg _ (by omega)) (Int.emod_lt_of_pos _ hm0) (BagAt.set (p' := p) (h' := h / m) (s' := s) h1 h2 ⟨h3, Int.ediv_nonneg h4 (by omega), h5, h6⟩) (k1.trans Keep.at)
      · refine ⟨.ref a, rfl, a, _, 3, .int s, rfl, rfl, L, rfl, ?_⟩
        refine ⟨.int s, rfl, .int s, rfl, s, s, rfl, rfl, .inl ⟨by omega, by omega⟩, s * s, 3, rfl, rfl, .inr ⟨by decide, by decide⟩, .int s, rfl, s, 16807, rfl, rfl, .inl ⟨by omega, by omega⟩, _, _, rfl, rfl, _, 1013904223, rfl, rfl, _, 2147483563, rfl, rfl, pos1, .ref a, rfl, a, _, 3, 3, rfl, rfl, h1, rfl, ?_⟩
        have b := emod_in (s * s * 3 + s * 16807 + 1013904223)
        have hB2 : BagAt (upd H1 a (.lst [.ref l, .int p, .int h, .int ((s * s * 3 + s * 16807 + 1013904223) % 2147483563)])) a l := BagAt.set h1 h2 ⟨h3, h4, b.1, b.2⟩
        have n1 : (upd H1 a (.lst [.ref l, .int p, .int h, .int ((s * s * 3 + s * 16807 + 1013904223) % 2147483563)])) a = _ := upd_same
        refine ⟨.ref a, rfl, a, _, 3, .int ((s * s * 3 + s * 16807 + 1013904223) % 2147483563), rfl, rfl, .of n1, rfl, _, 61, rfl, rfl, ⟨by decide, by decide⟩, .ref a, rfl, a, _, 3, .int ((s * s * 3 + s * 16807 + 1013904223) % 2147483563), rfl, rfl, .of n1, rfl, _, 8191, rfl, rfl, pos2, _, 17, rfl, rfl, .inr ⟨by decide, by decide⟩, _, _, rfl, rfl, .int m, rfl, _, m, rfl, rfl, hm0, ?_⟩
        exact q _ _ (Int.emod_nonneg _ (by omega)) (Int.emod_lt_of_pos _ hm0) hB2 (k1.trans Keep.at)
theorem cut_ints (ns : List Int) (lo hi : Option Int) : ∃ ms : List Int, cutV (ns.map V.int) lo hi = ms.map V.int ∧ ms.length ≤ ns.length := by
  refine ⟨(ns.drop (HT.sIx (ns.map V.int).length 0 lo)).take (HT.sIx (ns.map V.int).length (ns.map V.int).length hi - HT.sIx (ns.map V.int).length 0 lo), ?_, ?_⟩
  · unfold cutV
    rw [List.map_take, List.map_drop]
  · rw [List.length_take, List.length_drop]
    omega
theorem ok_bag {f : Addr} {fd : FuncData} {k : Nat} (F : Fun K "_law_bag" "_law_bag" sLBag f fd) (T : Txt mg) : FnOk P w K mg base CX0 (k + 1) f fd ["_law_script"] (spBag K) := by
  refine F.ok sc__law_bag (fun vs H Q E h => ?_) (fun cdv A outer s H vs Q E hr h => ?_)
  · obtain ⟨c, ns, rfl, _⟩ := h
    rfl
  · obtain ⟨c, ns, rfl, hS, hlen, q⟩ := h
    refine ⟨_, (pss_cons (ps_set (i := 1) sc__law_bag.nd rfl (.inl rfl) pe_int)
    (pss_cons (ps_for PassesOwn.never rfl (pi_list (pe_slice sl_list (pv 0) po_none (po_some pe_int))) (pg_name (i := 2) sc__law_bag.nd rfl (.inl rfl))
    (pss_one (ps_set (i := 1) sc__law_bag.nd rfl (.inl rfl) (pe_op op_mod (pe_op op_add (pe_op op_add (pe_op op_mul (pv 1) pe_int) (pe_op op_mod (pv 2) pe_int)) pe_int) pe_int))))
    (pss_one (ps_ret (pe_lst (pa_cons (pe_callTy call_list_of (by rfl) T.m_list (by decide +kernel) (pa_cons (pe_slice sl_list (pv 0) po_none (po_some pe_int)) pa_nil)) (pa_cons pe_int (pa_cons pe_int (pa_cons (pv 1) pa_nil))))))))), ?_⟩
    obtain ⟨ms, ems, hms⟩ := cut_ints ns none (some 63)
    refine ⟨.ref c, rfl, 63, rfl, c, _, rfl, hS, fun p np => ?_⟩
    have s1 : Same H (upd H p (.lst (cutV (ns.map V.int) none (some 63)))) := same_new np
    rw [ems] at s1
    show ∃ a, V.ref p = .ref a ∧ (∃ xs, SqL K (upd H p (.lst (cutV (ns.map V.int) none (some 63)))) a xs) ∧ _
    rw [ems]
    have hp : SqL K (upd H p (.lst (ms.map V.int))) p (ms.map V.int) := .of upd_same
    refine ⟨p, rfl, ⟨_, hp⟩, for_it (walk_list (xs := ms.map V.int)) (fun i σ H' => ∃ (s : Int) (y : Option V), σ = [some (.ref c), some (.int s), y] ∧ 0 ≤ s ∧ s < 2147483563 ∧ H' = upd H p (.lst (ms.map V.int))) ⟨9450, none, rfl, by decide, by decide, rfl⟩ (fun i σ H' _ hP => ?_) (fun i x σ H' H2 hi hP hy => ?_) (fun σ H' hP => ?_)⟩
    · obtain ⟨s, y, _, _, _, rfl⟩ := hP
      exact hp
    · obtain ⟨s, y, rfl, hs0, hs1, rfl⟩ := hP
      obtain ⟨rfl, hx⟩ := hy
      have hi2 : i < ms.length := by
        rw [List.length_map] at hi
        exact hi
      rw [List.getElem?_map, List.getElem?_eq_getElem hi2] at hx
      have hx := Option.some.inj hx
      subst hx
      refine ⟨.int s, rfl, s, 40014, rfl, rfl, .inl ⟨by omega, by omega⟩, .int ms[i], rfl, ms[i], 2147483563, rfl, rfl, pos1, _, _, rfl, rfl, _, 13, rfl, rfl, _, 2147483563, rfl, rfl, pos1, ?_⟩
      exact ⟨_, _, rfl, (emod_in _).1, (emod_in _).2, rfl⟩
    · obtain ⟨s, y, rfl, hs0, hs1, rfl⟩ := hP
      refine ⟨.ref c, rfl, 63, rfl, c, _, rfl, s1.seq hS, fun p2 np2 => ?_⟩
      have s2 : Same (upd H p (.lst (ms.map V.int))) (upd (upd H p (.lst (ms.map V.int))) p2 (.lst (cutV (ns.map V.int) none (some 63)))) := same_new np2
      refine ⟨p2, _, rfl, .inl (.of upd_same), fun l nl => ?_⟩
      refine ⟨.int s, rfl, by show 4 ≤ sizeLine; decide, fun a na => ?_⟩
      have s3 := same_new (o := .lst (cutV (ns.map V.int) none (some 63))) nl
      have s4 := same_new (o := .lst [V.ref l, .int 0, .int 0, .int s]) na
      refine q a l _ ((s1.trans (s2.trans s3)).free na) ⟨ms, 0, 0, s, upd_same, ?_, by decide, by decide, hs0, hs1⟩ ((s1.trans (s2.trans s3)).trans s4)
      rw [s4 l _ upd_same, ems]
theorem ok_of {f : Addr} {fd : FuncData} {k : Nat} (F : Fun K "_law_of" "_law_of" sLOf f fd) (T : Txt mg) (C__law_pull : Cal P w K mg base k "_law_pull" ["_law_bag_here", "_law_many"] spPull) : FnOk P w K mg base CX0 (k + 1) f fd ["_law_bag_here", "_law_things"] (spOf K) := by
  refine F.ok sc__law_of (fun vs H Q E h => ?_) (fun cdv A outer s H vs Q E hr h => ?_)
  · obtain ⟨a, l, x, xs, rfl, _⟩ := h
    rfl
  · obtain ⟨a, l, x, xs, rfl, hB, hI, h0, h1, q⟩ := h
    refine ⟨_, (pss_one (ps_ret (pe_ix ix_seq (pv 1) (pe_callC C__law_pull hr (by rfl) (pa_cons (pv 0) (pa_cons (pe_callB call_len (by rfl) T.m_len PySem.boot_len (pa_cons (pv 1) pa_nil)) pa_nil))) (fun _ _ => rfl)))), ?_⟩
    have hL : LenV K x H xs.length := by
      rcases hI with ⟨p, rfl, n, h | h⟩ | ⟨z, rfl, rfl⟩
      · exact .inl ⟨_, h, rfl⟩
      · exact .inr ⟨_, h, rfl⟩
      · rw [List.length_map] at h1 ⊢
        exact ⟨Nat.le_trans h1 (by decide), rfl⟩
    refine ⟨x, rfl, .ref a, rfl, x, rfl, x, _, rfl, hL, a, l, _, rfl, hB, by omega, by omega, fun r H' r0 r1 hB' k' => ?_⟩
    have hr2 : r.toNat < xs.length := by omega
    have er : ((r.toNat : Nat) : Int) = r := by omega
    have hx : xs[r.toNat]? = some (xs[r.toNat]) := List.getElem?_eq_getElem hr2
    have hq := q _ H' (List.mem_of_getElem? hx) hB' k'
    rcases hI with ⟨p, rfl, n, h | h⟩ | ⟨z, rfl, rfl⟩
    · exact .inl ⟨p, xs, r, _, rfl, rfl, k'.seq n h, atI_of r0 hx, hq⟩
    · exact .inr (.inl ⟨p, xs, r, _, rfl, rfl, k'.seqT n h, atI_of r0 hx, hq⟩)
    · rw [List.length_map] at h1 hr2
      have hc : z.cps.toList[r.toNat]? = some (z.cps.toList[r.toNat]) := List.getElem?_eq_getElem hr2
      rw [List.getElem?_map, hc] at hx
      have hx := Option.some.inj hx
      rw [← hx] at hq
      exact .inr (.inr ⟨z, r, _, rfl, rfl, Nat.le_trans h1 (by decide), atI_of r0 hc, hq⟩)
end
end Ink
namespace Ink
open PySem PySem.Spec PyProof.Rows L2
/-- None, a bool, a whole number, a text -/
def flatD : V → Bool
  | .non => true
  | .bl _ => true
  | .int _ => true
  | .str _ => true
  | _ => false
/-- v and w hold the same, at most n deep -/
def Lk (K : PySem.W.Frag) (H : Hp) : Nat → V → V → Prop
  | 0, _, _ => False
  | n + 1, v, w => (v = w ∧ flatD w = true) ∨ ∃ (p q : Addr) (xs ys : List V), v = .ref p ∧ w = .ref q ∧ ((SqL K H p xs ∧ SqL K H q ys) ∨ (SqT K H p xs ∧ SqT K H q ys)) ∧ xs.length = ys.length ∧ xs.length ≤ 100000 ∧
      ∀ (i : Nat) (x y : V), xs[i]? = some x → ys[i]? = some y → Lk K H n x y
theorem Lk.same {K : PySem.W.Frag} {H H' : Hp} (e : Same H H') : ∀ {n : Nat} {v w : V}, Lk K H n v w → Lk K H' n v w
  | 0, _, _, h => h.elim
  | n + 1, v, w, h => by
    rcases h with h | ⟨p, q, xs, ys, h1, h2, h3, h4, h5, h6⟩
    · exact .inl h
    · refine .inr ⟨p, q, xs, ys, h1, h2, ?_, h4, h5, fun i x y a b => Lk.same e (h6 i x y a b)⟩
      rcases h3 with ⟨a, b⟩ | ⟨a, b⟩
      · exact .inl ⟨e.seq a, e.seq b⟩
      · exact .inr ⟨same_tup e a, same_tup e b⟩
def spLike (K : PySem.W.Frag) (n : Nat) : Sp := fun vs H Q _ => ∃ v w, vs = [v, w] ∧ Lk K H n v w ∧ ∀ H', Same H H' → Q (.bl true) H'
theorem tyx_l {K : PySem.W.Frag} {H : Hp} {a : Addr} {xs : List V} (h : SqL K H a xs) : TyX K H (.ref a) (.type "list") := by
  rcases h with (h | ⟨o, h⟩) | ⟨o, its, n, h1, h2, _⟩
  · exact .base (.lst h)
  · exact .base (.frz h)
  · exact .kList h1 h2
theorem tyx_t {K : PySem.W.Frag} {H : Hp} {a : Addr} {xs : List V} (h : SqT K H a xs) : TyX K H (.ref a) (.type "tuple") := by
  rcases h with (h | ⟨o, h⟩) | ⟨o, its, n, h1, h2, _⟩
  · exact .base (.tup h)
  · exact .fTuple h
  · exact .kTuple h1 h2
def tyD : V → String
  | .non => "NoneType"
  | .bl _ => "bool"
  | .int _ => "int"
  | _ => "str"
theorem tyx_f {K : PySem.W.Frag} {H : Hp} : ∀ {v : V}, flatD v = true → TyX K H v (.type (tyD v))
  | .non, _ => .base .non
  | .bl b, _ => .base (.bl b)
  | .int i, _ => .base (.int i)
  | .str z, _ => .base (.str z)
theorem kit_f {K : PySem.W.Frag} {T : String} : ∀ {v : V}, flatD v = true → kitB (tyD v) T = kitB (tyD v) T := fun _ => rfl
theorem kt {K : PySem.W.Frag} {a b : String} {r : Bool} (h : kitB a b = some r) : PySem.W.kitOne K (.type a) (.type b) = some r := kit_ty h
theorem kit2 {K : PySem.W.Frag} {t a b : String} {x y r : Bool} (h1 : kitB t a = some x) (h2 : kitB t b = some y) (hr : r = (x || y)) : PySem.W.kitAny K (.type t) [.type a, .type b] = some r := by
  subst hr
  refine kitAny_cons (kt h1) (fun e => ?_) (fun e => by rw [e]; rfl)
  subst e
  exact kitAny_cons (kt h2) (fun e => by rw [e]; exact kitAny_nil) (fun e => by rw [e]; rfl)
theorem kit_lt {K : PySem.W.Frag} : ∀ {v : V}, flatD v = true → PySem.W.kitAny K (.type (tyD v)) [.type "list", .type "tuple"] = some false
  | .non, _ => kit2 (t := "NoneType") (x := false) (y := false) (by decide +kernel) (by decide +kernel) rfl
  | .bl b, _ => kit2 (t := "bool") (x := false) (y := false) (by decide +kernel) (by decide +kernel) rfl
  | .int i, _ => kit2 (t := "int") (x := false) (y := false) (by decide +kernel) (by decide +kernel) rfl
  | .str z, _ => kit2 (t := "str") (x := false) (y := false) (by decide +kernel) (by decide +kernel) rfl
theorem same_mut {H H' : Hp} {p : Addr} {o : HO} (e : Same H H') (h : H p = none) : Same H (upd H' p o) := Evl.Ex.mut e h
theorem small_lt {n : Nat} (h : n < 1000000) : n < sizeLine := Nat.lt_of_lt_of_le h (by decide)
theorem small_le {n : Nat} (h : n ≤ 1000000) : n ≤ sizeLine := Nat.le_trans h (by decide)
theorem yes_of {σ : L2.St} {H : Hp} {Q : Bool → Hp → Prop} (h : Q true H) : tYes σ H Q := h
theorem pair_lt : Paired ClsV [V.ty "list", V.ty "tuple"] [Value.type "list", Value.type "tuple"] := .cons (.ty _) (.cons (.ty _) .nil)
theorem walk_zipT {K : PySem.W.Frag} {a b : Addr} {xs ys : List V} {n : Nat} (hn : n = min xs.length ys.length) : Walk (RZ.ItzT K a b) n (fun H => SqT K H a xs ∧ SqT K H b ys) (YPair (fun i => xs[i]?) (fun i => ys[i]?)) := by
  subst hn
  refine ⟨fun i _ hi q => ?_, fun _ q => ⟨xs, ys, q.1, q.2, by omega⟩, fun i H v H' _ q y => ?_⟩
  · have h1 : i < xs.length := by omega
    have h2 : i < ys.length := by omega
    exact ⟨xs, ys, xs[i], ys[i], q.1, q.2, by simp [h1], by simp [h2]⟩
  · obtain ⟨T, x, z, h1, h2, h3, h4, h5⟩ := y
    exact ⟨T, x, z, h1, h2, h3, h4 xs q.1, h5 ys q.2⟩
theorem rep_all (n : Nat) : (List.replicate n true).all id = true := by
  induction n with
  | zero => rfl
  | succ n ih =>
    rw [List.replicate_succ, List.all_cons, ih]
    rfl
theorem rep_snoc {α : Type} (n : Nat) (x : α) : List.replicate n x ++ [x] = List.replicate (n + 1) x := by
  induction n with
  | zero => rfl
  | succ n ih =>
    rw [List.replicate_succ, List.cons_append, ih]
    rfl
section
variable {P : Program} {w : World} {K : PySem.W.Frag} {mg : Str → Option Value} {base : Heap}
theorem ok_like_step {f : Addr} {fd : FuncData} {k n : Nat} (F : Fun K "_law_like" "_law_like" sLLike f fd) (T : Txt mg)
    (C__law_like : Cal P w K mg base k "_law_like" ["_law_found", "_law_due"] (spLike K n)) :
    FnOk P w K mg base CX0 (k + 1) f fd ["_law_found", "_law_due"] (spLike K (n + 1)) := by
  refine F.ok sc__law_like (fun vs H Q E h => ?_) (fun cdv A outer s H vs Q E hr h => ?_)
  · obtain ⟨a, m, rfl, _⟩ := h
    rfl
  · obtain ⟨v, w', rfl, hL, q⟩ := h
    refine ⟨_, (pss_cons (ps_if (pt_val (pe_callB call_isiT (by rfl) T.m_isinstance (by decide +kernel) (pa_cons (pv 1) (pa_cons (pe_tup (pa_cons (pe_bltn (v := .ty "list") (by rfl) T.m_list (by decide +kernel) rfl) (pa_cons (pe_bltn (v := .ty "tuple") (by rfl) T.m_tuple (by decide +kernel) rfl) pa_nil))) pa_nil))))
    (pss_cons (ps_if (PW.pt (pw_or (pt_cmpR op_ne (pe_callB call_isi (by rfl) T.m_isinstance (by decide +kernel) (pa_cons (pv 0) (pa_cons (pe_bltn (v := .ty "list") (by rfl) T.m_list (by decide +kernel) rfl) pa_nil))) (pe_callB call_isi (by rfl) T.m_isinstance (by decide +kernel) (pa_cons (pv 1) (pa_cons (pe_bltn (v := .ty "list") (by rfl) T.m_list (by decide +kernel) rfl) pa_nil))) (nomark _)) (pw_or1 (pt_cmpR op_ne (pe_callB call_isi (by rfl) T.m_isinstance (by decide +kernel) (pa_cons (pv 0) (pa_cons (pe_bltn (v := .ty "tuple") (by rfl) T.m_tuple (by decide +kernel) rfl) pa_nil))) (pe_callB call_isi (by rfl) T.m_isinstance (by decide +kernel) (pa_cons (pv 1) (pa_cons (pe_bltn (v := .ty "tuple") (by rfl) T.m_tuple (by decide +kernel) rfl) pa_nil))) (nomark _)))))
    (pss_one (ps_ret pe_bl)) pss_nil)
    (pss_one (ps_ret (pe_and (pe_cmpR op_eq (pe_callB call_len (by rfl) T.m_len PySem.boot_len (pa_cons (pv 0) pa_nil)) (pe_callB call_len (by rfl) T.m_len PySem.boot_len (pa_cons (pv 1) pa_nil)) (nomark _)) (pe_one (pe_callB (cr_all rfl) (by rfl) T.m_all (by decide +kernel) (pa_cons (pe_lc (own := [("_law_one", 2), ("_law_other", 3)]) (g := (gTup K 2 (gCons (gName 2) (gCons (gName 3) gNil)))) (by rfl) sc__law_like.nd (RZ.pi_zipA (by rfl) T.m_zip (pa_cons (pv 0) (pa_cons (pv 1) pa_nil))) (blkOk_by (own := [("_law_one", 2), ("_law_other", 3)]) (N := ["_law_found", "_law_due", "_law_one", "_law_other"]) (sc := defScope sLLike) (by decide +kernel)) (fun _ _ _ _ _ => (pg_tup rfl (pgs_cons (pg_name (i := 2) sc__law_like.nd rfl (.inl rfl)) (pgs_cons (pg_name (i := 3) sc__law_like.nd rfl (.inl rfl)) pgs_nil)))) (fun _ _ _ _ _ => pts_nil) (fun _ _ _ _ _ => (pe_callC C__law_like hr (by rfl) (pa_cons (pv 2) (pa_cons (pv 3) pa_nil))))) pa_nil))))))) pss_nil)
    (pss_cons (ps_if (PW.pt (pw_or (pt_cmpR op_isN (pv 0) pe_non (nomark _)) (pw_or1 (pt_cmpR op_isN (pv 1) pe_non (nomark _)))))
    (pss_one (ps_ret (pe_and (pe_cmpR op_isN (pv 0) pe_non (nomark _)) (pe_one (pe_cmpR op_isN (pv 1) pe_non (nomark _)))))) pss_nil)
    (pss_cons (ps_if (PW.pt (pw_or (pt_cmpR op_ne (pe_callB call_isi (by rfl) T.m_isinstance (by decide +kernel) (pa_cons (pv 0) (pa_cons (pe_bltn (v := .ty "bool") (by rfl) T.m_bool (by decide +kernel) rfl) pa_nil))) (pe_callB call_isi (by rfl) T.m_isinstance (by decide +kernel) (pa_cons (pv 1) (pa_cons (pe_bltn (v := .ty "bool") (by rfl) T.m_bool (by decide +kernel) rfl) pa_nil))) (nomark _)) (pw_or1 (pt_cmpR op_ne (pe_callB call_isi (by rfl) T.m_isinstance (by decide +kernel) (pa_cons (pv 0) (pa_cons (pe_bltn (v := .ty "int") (by rfl) T.m_int (by decide +kernel) rfl) pa_nil))) (pe_callB call_isi (by rfl) T.m_isinstance (by decide +kernel) (pa_cons (pv 1) (pa_cons (pe_bltn (v := .ty "int") (by rfl) T.m_int (by decide +kernel) rfl) pa_nil))) (nomark _)))))
    (pss_one (ps_ret pe_bl)) pss_nil)
    (pss_one (ps_ret (pe_and (pe_cmpR op_eq (pe_callB call_isi (by rfl) T.m_isinstance (by decide +kernel) (pa_cons (pv 0) (pa_cons (pe_bltn (v := .ty "str") (by rfl) T.m_str (by decide +kernel) rfl) pa_nil))) (pe_callB call_isi (by rfl) T.m_isinstance (by decide +kernel) (pa_cons (pv 1) (pa_cons (pe_bltn (v := .ty "str") (by rfl) T.m_str (by decide +kernel) rfl) pa_nil))) (nomark _)) (pe_one (pe_cmpR op_eq (pv 0) (pv 1) (nomark _))))))))), ?_⟩
    rcases hL with ⟨rfl, hf⟩ | ⟨p, q', xs, ys, rfl, rfl, hS, hlen, hmax, hit⟩
    · -- a flat thing
      have ty : ∀ H', TyX K H' v (.type (tyD v)) := fun _ => tyx_f hf
      refine ⟨v, rfl, by show 2 ≤ sizeLine; decide, fun tp htp => ⟨v, tp, _, .type (tyD v), _, false, rfl, upd_same, pair_lt, ty _, ?_, false, rfl, iteF ?_⟩⟩
      · exact kit_lt hf
      have sm : Same H (upd H tp (.tup [V.ty "list", V.ty "tuple"])) := same_new htp
      generalize upd H tp (.tup [V.ty "list", V.ty "tuple"]) = H1 at sm
      by_cases hn : v = .non
      · subst hn
        refine ⟨.non, rfl, rfl, true, rfl, iteT (iteT ?_)⟩
        exact ⟨.non, rfl, rfl, true, rfl, iteT ⟨.non, rfl, rfl, q _ sm⟩⟩
      · have dn : decide (v = .non) = false := decide_eq_false hn
        refine ⟨v, rfl, rfl, _, rfl, ?_⟩
        rw [dn]
        refine iteF ⟨v, rfl, rfl, _, rfl, ?_⟩
        rw [dn]
        refine iteF ?_
        obtain ⟨rb, ri, rs, eb, ei, es, sc⟩ : ∃ rb ri rs, kitB (tyD v) "bool" = some rb ∧ kitB (tyD v) "int" = some ri ∧ kitB (tyD v) "str" = some rs ∧ scal v v = true := by
          cases v with
          | non => exact absurd rfl hn
          | bl b => exact ⟨_, _, _, (by decide +kernel : kitB "bool" "bool" = some true), (by decide +kernel : kitB "bool" "int" = some true), (by decide +kernel : kitB "bool" "str" = some false), rfl⟩
          | int b => exact ⟨_, _, _, (by decide +kernel : kitB "int" "bool" = some false), (by decide +kernel : kitB "int" "int" = some true), (by decide +kernel : kitB "int" "str" = some false), rfl⟩
          | str b => exact ⟨_, _, _, (by decide +kernel : kitB "str" "bool" = some false), (by decide +kernel : kitB "str" "int" = some false), (by decide +kernel : kitB "str" "str" = some true), rfl⟩
          | byt b => cases hf
          | flt b => cases hf
          | ref b => cases hf
          | ty b => cases hf
        refine ⟨v, rfl, v, .ty "bool", .type (tyD v), .type "bool", rb, rfl, .ty _, ty _, kt eb, v, rfl, v, .ty "bool", .type (tyD v), .type "bool", rb, rfl, .ty _, ty _, kt eb, rfl, _, rfl, iteNS rfl ?_⟩
        refine ⟨v, rfl, v, .ty "int", .type (tyD v), .type "int", ri, rfl, .ty _, ty _, kt ei, v, rfl, v, .ty "int", .type (tyD v), .type "int", ri, rfl, .ty _, ty _, kt ei, rfl, _, rfl, iteNS rfl ?_⟩
        refine ⟨v, rfl, v, .ty "str", .type (tyD v), .type "str", rs, rfl, .ty _, ty _, kt es, v, rfl, v, .ty "str", .type (tyD v), .type "str", rs, rfl, .ty _, ty _, kt es, rfl, _, rfl, ?_⟩
        rw [decide_eq_true rfl]
        refine iteT ⟨v, rfl, v, rfl, sc, ?_⟩
        rw [decide_eq_true rfl]
        exact q _ sm
    · obtain ⟨Tn, rl, rt, el, et, eo, tp, tq⟩ : ∃ (Tn : String) (rl rt : Bool), kitB Tn "list" = some rl ∧ kitB Tn "tuple" = some rt ∧ (rl || rt) = true ∧ (∀ H', Same H H' → TyX K H' (.ref p) (.type Tn)) ∧ (∀ H', Same H H' → TyX K H' (.ref q') (.type Tn)) := by
        rcases hS with ⟨hp, hq⟩ | ⟨hp, hq⟩
        · exact ⟨"list", true, false, by decide +kernel, by decide +kernel, rfl, fun H' s' => tyx_l (s'.seq hp), fun H' s' => tyx_l (s'.seq hq)⟩
        · exact ⟨"tuple", false, true, by decide +kernel, by decide +kernel, rfl, fun H' s' => tyx_t (same_tup s' hp), fun H' s' => tyx_t (same_tup s' hq)⟩
      refine ⟨.ref q', rfl, by show 2 ≤ sizeLine; decide, fun t htp => ⟨.ref q', t, _, .type Tn, _, true, rfl, upd_same, pair_lt, tq _ (same_new htp), kit2 el et eo.symm, true, rfl, iteT ?_⟩⟩
      have sm : Same H (upd H t (.tup [V.ty "list", V.ty "tuple"])) := same_new htp
      generalize upd H t (.tup [V.ty "list", V.ty "tuple"]) = H1 at sm
      refine ⟨.ref p, rfl, .ref p, .ty "list", .type Tn, .type "list", rl, rfl, .ty _, tp _ sm, kt el, .ref q', rfl, .ref q', .ty "list", .type Tn, .type "list", rl, rfl, .ty _, tq _ sm, kt el, rfl, _, rfl, iteNS rfl ?_⟩
      refine ⟨.ref p, rfl, .ref p, .ty "tuple", .type Tn, .type "tuple", rt, rfl, .ty _, tp _ sm, kt et, .ref q', rfl, .ref q', .ty "tuple", .type Tn, .type "tuple", rt, rfl, .ty _, tq _ sm, kt et, rfl, _, rfl, iteNS rfl ?_⟩
      have lp : LenV K (.ref p) H1 xs.length := by
        rcases hS with ⟨a, b⟩ | ⟨a, b⟩
        · exact .inl ⟨_, sm.seq a, rfl⟩
        · exact .inr ⟨_, same_tup sm a, rfl⟩
      have lq : LenV K (.ref q') H1 ys.length := by
        rcases hS with ⟨a, b⟩ | ⟨a, b⟩
        · exact .inl ⟨_, sm.seq b, rfl⟩
        · exact .inr ⟨_, same_tup sm b, rfl⟩
      refine ⟨.ref p, rfl, .ref p, _, rfl, lp, .ref q', rfl, .ref q', _, rfl, lq, rfl, _, rfl, ?_⟩
      rw [hlen, decide_eq_true rfl]
      refine iteT ⟨.ref p, rfl, .ref q', rfl, p, q', xs, ys, rfl, ?_⟩
      have fin : ∀ (D : Addr) (H' : Hp), H1 D = none → Same H1 H' → H' D = some (.lst (List.replicate xs.length (.bl true))) → rAll K [.ref D] H' Q := fun D H' nD sD eD =>
        ⟨D, List.replicate xs.length true, rfl, .of (by rw [List.map_replicate]; exact eD), by rw [rep_all]; exact q _ (sm.trans sD)⟩
      rcases hS with ⟨hp, hq⟩ | ⟨hp, hq⟩
      · refine .inl ⟨sm.seq hp, sm.seq hq, fun D nD => ?_⟩
        refine lc_it (walk_zip (n := xs.length) (by rw [← hlen, Nat.min_self])) (fun i H' => Same H1 H' ∧ H' D = some (.lst (List.replicate i (.bl true)))) ⟨same_new nD, upd_same⟩ (fun i H' _ hP => ⟨hP.1.seq (sm.seq hp), hP.1.seq (sm.seq hq)⟩) (fun i v H2 H3 hi hP hy => ?_) (fun H' hP => fin D H' nD hP.1 hP.2)
        obtain ⟨s2, e2⟩ := hP
        obtain ⟨T', x, y, rfl, nT, rfl, hx, hy⟩ := hy
        refine ⟨T', [x, y], rfl, .of upd_same, rfl, x, [y], rfl, y, [], rfl, rfl, rfl, yes_of (iteT ?_)⟩
        refine ⟨x, rfl, y, rfl, x, y, rfl, (hit i x y hx hy).same ((sm.trans s2).trans (same_new nT)), fun H5 s5 => ⟨List.replicate i (.bl true), s5 _ _ (same_new nT _ _ e2), small_lt (by rw [List.length_replicate]; omega), ?_, ?_⟩⟩
        · exact same_mut ((s2.trans (same_new nT)).trans s5) nD
        · rw [upd_same, rep_snoc]
      · refine .inr ⟨same_tup sm hp, same_tup sm hq, fun D nD => ?_⟩
        refine lc_it (walk_zipT (n := xs.length) (by rw [← hlen, Nat.min_self])) (fun i H' => Same H1 H' ∧ H' D = some (.lst (List.replicate i (.bl true)))) ⟨same_new nD, upd_same⟩ (fun i H' _ hP => ⟨same_tup hP.1 (same_tup sm hp), same_tup hP.1 (same_tup sm hq)⟩) (fun i v H2 H3 hi hP hy => ?_) (fun H' hP => fin D H' nD hP.1 hP.2)
        obtain ⟨s2, e2⟩ := hP
        obtain ⟨T', x, y, rfl, nT, rfl, hx, hy⟩ := hy
        refine ⟨T', [x, y], rfl, .of upd_same, rfl, x, [y], rfl, y, [], rfl, rfl, rfl, yes_of (iteT ?_)⟩
        refine ⟨x, rfl, y, rfl, x, y, rfl, (hit i x y hx hy).same ((sm.trans s2).trans (same_new nT)), fun H5 s5 => ⟨List.replicate i (.bl true), s5 _ _ (same_new nT _ _ e2), small_lt (by rw [List.length_replicate]; omega), ?_, ?_⟩⟩
        · exact same_mut ((s2.trans (same_new nT)).trans s5) nD
        · rw [upd_same, rep_snoc]
theorem cal_never {f : Addr} {fd : FuncData} {x : Str} {st : Stmt} {ps : List Str} (F : Fun K x x st f fd) (g : mg x = some (.ref f)) (b : Binds K fd ps []) : Cal P w K mg base 0 x ps (fun _ _ _ _ => False) :=
  ⟨f, fd, ⟨fun _ _ _ _ h => h.elim, fun _ _ _ _ _ _ _ _ _ _ _ _ _ h => h.elim⟩, g, F.kp, b⟩
theorem cal_like {f : Addr} {fd : FuncData} (F : Fun K "_law_like" "_law_like" sLLike f fd) (T : Txt mg) (g : mg "_law_like" = some (.ref f)) (b : Binds K fd ["_law_found", "_law_due"] []) :
    ∀ n, Cal P w K mg base n "_law_like" ["_law_found", "_law_due"] (spLike K n)
  | 0 => ⟨f, fd, ⟨fun _ _ _ _ h => by obtain ⟨_, _, _, h, _⟩ := h; exact h.elim, fun _ _ _ _ _ _ _ _ _ _ _ _ _ h => by obtain ⟨_, _, _, h, _⟩ := h; exact h.elim⟩, g, F.kp, b⟩
  | n + 1 => ⟨f, fd, ok_like_step F T (cal_like F T g b n), g, F.kp, b⟩
end
end Ink
namespace Ink
open PySem PySem.Spec PyProof.Rows L2
/-! ### what the defs reckon -/
def isSign (z : Str) : Bool := decide (V.int (z.length : Nat) = V.int 1) && (!decide (z.cps.toList < [97]) && !decide (([122] : List Nat) < z.cps.toList))
def lets : List Nat := [97, 98, 99, 100, 101, 102, 103, 104, 105, 106, 107, 108, 109, 110, 111, 112, 113, 114, 115, 116, 117, 118, 119, 120, 121, 122]
def lawName (z : Str) : Bool := decide ((0 : Int) < (z.length : Nat)) && decide (((z.length : Nat) : Int) < 7) && (z.cps.toList.map fun c => decide (c ∈ lets)).all id
def isName (z : Str) : Bool := decide ((1 : Int) ≤ (z.length : Nat)) && decide (((z.length : Nat) : Int) ≤ 6) && (z.cps.toList.map fun c => isSign ⟨#[c]⟩).all id
theorem lets_iff (c : Nat) : c ∈ lets ↔ 97 ≤ c ∧ c ≤ 122 := by
  unfold lets
  simp only [List.mem_cons, List.not_mem_nil, or_false]
  omega
theorem lt_one (a b : Nat) : (([a] : List Nat) < [b]) ↔ a < b := by
  constructor
  · intro h
    cases h with
    | rel h => exact h
    | cons h => cases h
  · intro h
    exact .rel h
theorem sign_one (c : Nat) : isSign ⟨#[c]⟩ = decide (c ∈ lets) := by
  unfold isSign
  rw [show decide (V.int (((⟨#[c]⟩ : Str).length : Nat) : Int) = V.int 1) = true from decide_eq_true rfl, Bool.true_and]
  show (!decide (([c] : List Nat) < [97]) && !decide (([122] : List Nat) < [c])) = _
  rw [decide_eq_decide.mpr (lt_one c 97), decide_eq_decide.mpr (lt_one 122 c), decide_eq_decide.mpr (lets_iff c)]
  by_cases h1 : c < 97
  · rw [decide_eq_true h1, decide_eq_false (by omega : ¬ (97 ≤ c ∧ c ≤ 122))]
    rfl
  · rw [decide_eq_false h1]
    by_cases h2 : 122 < c
    · rw [decide_eq_true h2, decide_eq_false (by omega : ¬ (97 ≤ c ∧ c ≤ 122))]
      rfl
    · rw [decide_eq_false h2, decide_eq_true (by omega : (97 ≤ c ∧ c ≤ 122))]
      rfl
theorem name_eq (z : Str) : isName z = lawName z := by
  unfold isName lawName
  rw [show (fun c => isSign ⟨#[c]⟩) = fun c => decide (c ∈ lets) from funext sign_one]
  rw [decide_eq_decide.mpr (show ((1 : Int) ≤ (z.length : Nat)) ↔ ((0 : Int) < (z.length : Nat)) by omega), decide_eq_decide.mpr (show (((z.length : Nat) : Int) ≤ 6) ↔ (((z.length : Nat) : Int) < 7) by omega)]
theorem sign_eq (z : Str) : isSign z = (lawName z && decide (V.int (z.length : Nat) = V.int 1)) := by
  by_cases h : z.length = 1
  · obtain ⟨c, rfl⟩ : ∃ c, z = ⟨#[c]⟩ := by
      obtain ⟨⟨l⟩⟩ := z
      have h : l.length = 1 := h
      cases l with
      | nil => cases h
      | cons c r =>
        cases r with
        | nil => exact ⟨c, rfl⟩
        | cons d r =>
          rw [List.length_cons, List.length_cons] at h
          omega
    rw [sign_one]
    unfold lawName
    show decide (c ∈ lets) = ((decide ((0 : Int) < 1) && decide ((1 : Int) < 7) && ([decide (c ∈ lets)]).all id) && decide (V.int 1 = V.int 1))
    rw [decide_eq_true (rfl : V.int 1 = V.int 1)]
    cases decide (c ∈ lets) <;> rfl
  · have e : decide (V.int (z.length : Nat) = V.int 1) = false := decide_eq_false fun q => h (by
      injection q with q
      omega)
    unfold isSign
    rw [e, Bool.and_false, Bool.false_and]
/-! ### a comprehension over a text, its items reckoned from the signs -/
theorem take_snoc {α : Type} {l : List α} {i : Nat} {x : α} (h : l[i]? = some x) : l.take (i + 1) = l.take i ++ [x] := by
  rw [List.take_add_one, h]
  rfl
theorem el_lcS {σ : L2.St} {H : Hp} {z : Str} {tl te : TE} {j : Nat} {vs : List Nat} (f : Nat → V) (h : Evl.Ev tl σ H (.str z)) (hz : z.length ≤ 40000) (hw : ∀ x, wipe ((wipe σ vs).set j (some x)) vs = wipe σ vs)
    (he : ∀ (c : Nat) H1, Evl.Ex H H1 → c ∈ z.cps.toList → Evl.Ev te ((wipe σ vs).set j (some (.str ⟨#[c]⟩))) H1 (f c)) : Evl.EvL (tLc (iStr tl) (gName j) tYes te vs) σ H (z.cps.toList.map f) := fun H0 e Q q => h H0 e _ fun H1 e1 => ⟨z, rfl, fun D nD =>
  lc_it walk_str (fun i H' => Evl.Ex H1 H' ∧ H' D = some (.lst ((z.cps.toList.map f).take i))) ⟨Evl.Ex.new nD, upd_same⟩ (fun _ _ _ _ => True.intro) (fun i v H2 H3 hi hP hy => by
    obtain ⟨rfl, c, hc, rfl⟩ := hy
    obtain ⟨s2, e2⟩ := hP
    have hc2 : z.cps.toList[i]? = some c := by rw [Array.getElem?_toList]; exact hc
    refine ⟨hw _, yes_of (iteT ?_)⟩
    refine he c H3 ((e.trans e1).trans s2) (List.mem_of_getElem? hc2) H3 (Evl.Ex.refl H3) _ fun H4 e4 => ⟨_, e4 _ _ e2, ?_, Evl.Ex.mut (s2.trans e4) nD, ?_⟩
    · rw [List.length_take, List.length_map]
      have hz2 : z.cps.size ≤ 40000 := hz
      exact small_lt (by omega)
    · rw [upd_same, take_snoc (x := f c) (by rw [List.getElem?_map, hc2]; rfl)]) (fun H' hP => by
    have ez : ((z.cps.toList.map f).take z.cps.size) = z.cps.toList.map f := List.take_of_length_le (by rw [List.length_map]; exact Nat.le_refl _)
    have h2 := hP.2
    rw [ez] at h2
    exact q D H' (Evl.fresh_back e1 nD) (e1.trans hP.1) h2)⟩
section
open Evl
variable {K : PySem.W.Frag} {σ : L2.St} {H : Hp} {ta tb tc te : TE}
theorem ev_all {bs : List Bool} (h : EvL te σ H (bs.map V.bl)) : Ev (tCB (rAll K) (tCons te tNil)) σ H (.bl (bs.all id)) := fun H1 e Q q => h H1 e _ fun p H2 np e2 hp => ⟨p, bs, rfl, .of hp, q H2 e2⟩
theorem ev_lenS {z : Str} (h : Ev te σ H (.str z)) (hz : z.length ≤ 1000000) : Ev (tCB (fun xs H Q => ∃ z : Str, xs = [.str z] ∧ z.length ≤ sizeLine ∧ Q (.int z.length) H) (tCons te tNil)) σ H (.int (z.length : Nat)) := fun H1 e Q q =>
  h H1 e _ fun H2 e2 => ⟨z, rfl, small_le hz, q H2 e2⟩
theorem ev_chainI {f g : Int → Int → Bool} {i j k : Int} (ha : Ev ta σ H (.int i)) (hb : Ev tb σ H (.int j)) (hc : Ev tc σ H (.int k)) : Ev (tChain (rI0 fun i j => .bl (f i j)) (rI0 fun i j => .bl (g i j)) ta tb tc) σ H (.bl (f i j && g j k)) := fun H1 e Q q =>
  ha H1 e _ fun H2 e2 => hb H2 (e.trans e2) _ fun H3 e3 => ⟨i, j, rfl, rfl, f i j, rfl, by
    cases h : f i j with
    | true =>
      rw [h] at q
      exact iteT (hc H3 ((e.trans e2).trans e3) _ fun H4 e4 => ⟨j, k, rfl, rfl, q H4 ((e2.trans e3).trans e4)⟩)
    | false =>
      rw [h] at q
      exact iteF (q H3 (e2.trans e3))⟩
theorem ev_chainS {R R' : R2} {f g : Str → Str → Bool} {x y z : Str} (hR : ∀ x y H (Q : VK), Q (.bl (f x y)) H → R (.str x) (.str y) H Q) (hR' : ∀ x y H (Q : VK), Q (.bl (g x y)) H → R' (.str x) (.str y) H Q)
    (ha : Ev ta σ H (.str x)) (hb : Ev tb σ H (.str y)) (hc : Ev tc σ H (.str z)) : Ev (tChain R R' ta tb tc) σ H (.bl (f x y && g y z)) := fun H1 e Q q =>
  ha H1 e _ fun H2 e2 => hb H2 (e.trans e2) _ fun H3 e3 => hR x y H3 _ ⟨f x y, rfl, by
    cases h : f x y with
    | true =>
      rw [h] at q
      exact iteT (hc H3 ((e.trans e2).trans e3) _ fun H4 e4 => hR' y z H4 Q (q H4 ((e2.trans e3).trans e4)))
    | false =>
      rw [h] at q
      exact iteF (q H3 (e2.trans e3))⟩
theorem ev_call {sp : Sp} {ta : TA} {vs : List V} {v : V} (h : EvA ta σ H vs) (hsp : ∀ H1 (Q : VK), Ex H H1 → (∀ H2, Ex H1 H2 → Q v H2) → sp vs H1 Q E0) : Ev (tCall sp [] E0 ta) σ H v := fun H1 e Q q =>
  h H1 e _ fun H2 e2 => by
    show sp (vs ++ []) H2 Q E0
    rw [List.append_nil]
    exact hsp H2 Q (e.trans e2) fun H3 e3 => q H3 (e2.trans e3)
end
def spSign : Sp := fun vs H Q _ => ∃ z, vs = [.str z] ∧ z.length ≤ 1000 ∧ ∀ H', Same H H' → Q (.bl (isSign z)) H'
def spLetters : Sp := fun vs H Q _ => vs = [] ∧ ∀ H', Same H H' → Q (.str ⟨lets.toArray⟩) H'
def spLawName : Sp := fun vs H Q _ => ∃ z, vs = [.str z] ∧ z.length ≤ 1000 ∧ ∀ H', Same H H' → Q (.bl (lawName z)) H'
def spName : Sp := fun vs H Q _ => ∃ z, vs = [.str z] ∧ z.length ≤ 1000 ∧ ∀ H', Same H H' → Q (.bl (isName z)) H'
section
variable {P : Program} {w : World} {K : PySem.W.Frag} {mg : Str → Option Value} {base : Heap}
theorem and_bl {b : Bool} {A : Prop} {Q : VK} {H : Hp} (h0 : b = false → Q (.bl false) H) (h1 : b = true → A) : if b = true then A else Q (.bl false) H := by
  cases b with
  | true => exact iteT (h1 rfl)
  | false => exact iteF (h0 rfl)
theorem bls_eq {α : Type} (l : List α) (g : α → Bool) : l.map (fun c => V.bl (g c)) = (l.map g).map V.bl := by
  rw [List.map_map]
  rfl
end
end Ink
namespace Ink
open PySem PySem.Spec PyProof.Rows L2
theorem joinL_len : ∀ ps : List (List Nat), (TL.joinL [] ps).length = (ps.map List.length).sum
  | [] => rfl
  | [p] => by
    show p.length = p.length + 0
    rfl
  | p :: q :: r => by
    show (p ++ ([] ++ TL.joinL [] (q :: r))).length = p.length + ((q :: r).map List.length).sum
    rw [List.length_append, List.nil_append, joinL_len (q :: r)]
theorem join_len (zs : List Str) : (Txt.join ⟨#[]⟩ zs).length = (zs.map (·.length)).sum := by
  rw [TL.join_eq]
  show (Str.join ⟨#[]⟩ zs).cps.toList.length = _
  have h := TL.tl_join ⟨#[]⟩ zs
  unfold TL.tl at h
  rw [h, joinL_len, List.map_map]
  rfl
theorem sum_ones : ∀ zs : List Str, (∀ z ∈ zs, z.length ≤ 1) → (zs.map (·.length)).sum ≤ zs.length
  | [], _ => Nat.le_refl _
  | z :: r, h => by
    have h1 := h z (List.mem_cons_self ..)
    have h2 := sum_ones r fun y hy => h y (List.mem_cons_of_mem _ hy)
    show z.length + (r.map (·.length)).sum ≤ r.length + 1
    omega

/-- texts cut at places -/
theorem cut_to {z : Str} {t : Int} (h : 0 ≤ t) : (cutS z none (some t)).cps.toList = z.cps.toList.take t.toNat := by
  have e : ((t.toNat : Nat) : Int) = t := by omega
  show (((z.cps.toList.drop (HT.sIx z.length 0 none)).take (HT.sIx z.length z.length (some t) - HT.sIx z.length 0 none)).toArray).toList = _
  rw [List.toList_toArray, HT.sIx_none, ← e, HT.sIx_nat, List.drop_zero, Nat.sub_zero, Int.toNat_natCast]
  by_cases hz : t.toNat ≤ z.length
  · rw [Nat.min_eq_left hz]
  · have hl : z.cps.toList.length = z.length := Array.length_toList
    rw [Nat.min_eq_right (by omega), List.take_of_length_le (by omega), List.take_of_length_le (by omega)]
theorem cut_from {z : Str} {t : Int} (h : 0 ≤ t) : (cutS z (some t) none).cps.toList = z.cps.toList.drop t.toNat := by
  have e : ((t.toNat : Nat) : Int) = t := by omega
  show (((z.cps.toList.drop (HT.sIx z.length 0 (some t))).take (HT.sIx z.length z.length none - HT.sIx z.length 0 (some t))).toArray).toList = _
  have hl : z.cps.toList.length = z.length := Array.length_toList
  rw [List.toList_toArray, HT.sIx_none, ← e, HT.sIx_nat, Int.toNat_natCast]
  by_cases hz : t.toNat ≤ z.length
  · rw [Nat.min_eq_left hz]
    exact List.take_of_length_le (by rw [List.length_drop]; omega)
  · rw [Nat.min_eq_right (by omega), List.drop_eq_nil_of_le (by omega), List.drop_eq_nil_of_le (by omega), List.take_nil]
theorem join_list (zs : List Str) : (Txt.join ⟨#[]⟩ zs).cps.toList = (zs.map fun z => z.cps.toList).flatten := by
  rw [TL.join_eq]
  have h := TL.tl_join ⟨#[]⟩ zs
  unfold TL.tl at h
  rw [h]
  have g : ∀ ps : List (List Nat), TL.joinL [] ps = ps.flatten := by
    intro ps
    induction ps with
    | nil => rfl
    | cons p r ih =>
      cases r with
      | nil =>
        show p = ([p] : List (List Nat)).flatten
        rw [List.flatten_cons, List.flatten_nil, List.append_nil]
      | cons q r =>
        show p ++ ([] ++ TL.joinL [] (q :: r)) = _
        rw [List.nil_append, ih]
        rfl
  exact g _
theorem join_ones (cs : List Nat) : (Txt.join ⟨#[]⟩ (cs.map fun c => ⟨#[c]⟩)).cps.toList = cs := by
  rw [join_list, List.map_map]
  induction cs with
  | nil => rfl
  | cons c r ih =>
    rw [List.map_cons, List.flatten_cons, ih]
    rfl
/-- a name: one to six small letters -/
def NameZ (z : Str) : Prop := 1 ≤ z.length ∧ z.length ≤ 6 ∧ ∀ c ∈ z.cps.toList, c ∈ lets
theorem NameZ.is {z : Str} (h : NameZ z) : lawName z = true := by
  unfold lawName
  obtain ⟨h1, h2, h3⟩ := h
  rw [decide_eq_true (by omega : (0 : Int) < (z.length : Nat)), decide_eq_true (by omega : ((z.length : Nat) : Int) < 7), Bool.true_and, Bool.true_and, List.all_map, List.all_eq_true]
  intro c hc
  exact decide_eq_true (h3 c hc)
def single (c : Nat) : Str := ⟨#[c]⟩
theorem lets_at {i : Int} (h0 : 0 ≤ i) (h1 : i < 26) : lets[i.toNat]? = some (97 + i.toNat) ∧ 97 + i.toNat ∈ lets := by
  have h : ∀ n : Nat, n < 26 → lets[n]? = some (97 + n) ∧ 97 + n ∈ lets := by decide
  exact h i.toNat (by omega)
end Ink
namespace Ink
open PySem PySem.Spec PyProof.Rows L2
section
variable {P : Program} {w : World} {K : PySem.W.Frag} {mg : Str → Option Value} {base : Heap}
theorem ok_letters {f : Addr} {fd : FuncData} {k : Nat} (F : Fun K "_law_letters" "_law_letters" sLLetters f fd) : FnOk P w K mg base CX0 (k + 1) f fd [] spLetters := by
  refine F.ok sc__law_letters (fun vs H Q E h => ?_) (fun cdv A outer s H vs Q E hr h => ?_)
  · obtain ⟨rfl, _⟩ := h
    rfl
  · obtain ⟨rfl, q⟩ := h
    refine ⟨_, (pss_one (ps_ret pe_str)), ?_⟩
    exact q H (Same.refl H)
end
end Ink
namespace Ink
open PySem PySem.Spec PyProof.Rows L2
/-- names: one to six small letters each, unlike -/
def spNames : Sp := fun vs H Q _ => ∃ (a l : Addr) (m : Int), vs = [.ref a, .int m] ∧ BagAt H a l ∧ 0 ≤ m ∧ m ≤ 20 ∧ ∀ p (zs : List Str) H', H p = none → zs.length = m.toNat → (∀ z ∈ zs, NameZ z) → zs.Nodup → H' p = some (.lst (zs.map V.str)) → BagAt H' a l → Keep a H H' → Q (.ref p) H'
theorem mod_apart {s t : Int} {i j : Nat} (ht : t = 1 ∨ t = 3 ∨ t = 5 ∨ t = 7) (hi : i < 26) (hj : j < 26) (h : (s + t * (i : Int)) % 26 = (s + t * (j : Int)) % 26) : i = j := by
  rcases ht with rfl | rfl | rfl | rfl <;> omega
theorem odd_of {v : V} (h : v ∈ [V.int 1, V.int 3, V.int 5, V.int 7]) : ∃ t : Int, v = .int t ∧ (t = 1 ∨ t = 3 ∨ t = 5 ∨ t = 7) := by
  simp only [List.mem_cons, List.not_mem_nil, or_false] at h
  rcases h with rfl | rfl | rfl | rfl
  · exact ⟨_, rfl, .inl rfl⟩
  · exact ⟨_, rfl, .inr (.inl rfl)⟩
  · exact ⟨_, rfl, .inr (.inr (.inl rfl))⟩
  · exact ⟨_, rfl, .inr (.inr (.inr rfl))⟩
/-- the sign at one place tells the names apart -/
def Apart (s t at' : Int) (zs : List Str) : Prop := ∀ (j : Nat) z, zs[j]? = some z → z.cps.toList[at'.toNat]? = some (97 + ((s + t * (j : Int)) % 26).toNat)
theorem Apart.nodup {s t at' : Int} {zs : List Str} (ht : t = 1 ∨ t = 3 ∨ t = 5 ∨ t = 7) (hl : zs.length ≤ 20) (h : Apart s t at' zs) : zs.Nodup := by
  rw [List.nodup_iff_pairwise_ne, List.pairwise_iff_getElem]
  intro i j hi hj hij e
  have h1 := h i _ (List.getElem?_eq_getElem hi)
  have h2 := h j _ (List.getElem?_eq_getElem hj)
  rw [e] at h1
  have h3 := Option.some.inj (h1.symm.trans h2)
  have m1 := Int.emod_nonneg (s + t * (i : Int)) (show (26 : Int) ≠ 0 by decide)
  have m2 := Int.emod_nonneg (s + t * (j : Int)) (show (26 : Int) ≠ 0 by decide)
  have := mod_apart (s := s) (t := t) (i := i) (j := j) ht (by omega) (by omega) (by omega)
  omega
/-- base[:at] + sign + base[at + 1:], then cut -/
theorem name_made {b z : Str} {at' u : Int} {c : Nat} (hb : NameZ b) (h0 : 0 ≤ at') (h1 : at' < (b.length : Nat)) (hc : c ∈ lets) (hz : z.cps.toList = b.cps.toList.take at'.toNat ++ [c] ++ b.cps.toList.drop (at' + 1).toNat) :
    (NameZ z ∧ z.cps.toList[at'.toNat]? = some c) ∧ (at' + 1 ≤ u → NameZ (cutS z none (some u)) ∧ (cutS z none (some u)).cps.toList[at'.toNat]? = some c) := by
  obtain ⟨b1, b2, b3⟩ := hb
  have bl : b.cps.toList.length = b.length := Array.length_toList
  have zl : z.cps.toList.length = z.length := Array.length_toList
  have zl2 : z.length = b.length := by
    rw [← zl, hz, List.length_append, List.length_append, List.length_take, List.length_drop, List.length_singleton]
    omega
  have zm : ∀ x ∈ z.cps.toList, x ∈ lets := by
    intro x hx
    rw [hz] at hx
    rcases List.mem_append.mp hx with hx | hx
    · rcases List.mem_append.mp hx with hx | hx
      · exact b3 x (List.mem_of_mem_take hx)
      · rw [List.mem_singleton.mp hx]
        exact hc
    · exact b3 x (List.mem_of_mem_drop hx)
  have zat : z.cps.toList[at'.toNat]? = some c := by
    have tl : (b.cps.toList.take at'.toNat).length = at'.toNat := by
      rw [List.length_take]
      omega
    rw [hz, List.append_assoc, List.getElem?_append_right (by omega), tl, Nat.sub_self]
    rfl
  refine ⟨⟨⟨by omega, by omega, zm⟩, zat⟩, fun hu => ?_⟩
  have e := cut_to (z := z) (t := u) (by omega)
  have cl : (cutS z none (some u)).cps.toList.length = (cutS z none (some u)).length := Array.length_toList
  refine ⟨⟨?_, ?_, fun x hx => ?_⟩, ?_⟩
  · rw [← cl, e, List.length_take]
    omega
  · have := cutS_length z none (some u)
    omega
  · rw [e] at hx
    exact zm x (List.mem_of_mem_take hx)
  · rw [e, List.getElem?_take_of_lt (by omega)]
    exact zat
theorem sum_single : ∀ cs : List Nat, ((cs.map fun c => (⟨#[c]⟩ : Str)).map (·.length)).sum = cs.length
  | [] => rfl
  | c :: r => by
    rw [List.map_cons, List.map_cons, List.sum_cons, sum_single r, List.length_cons]
    show 1 + r.length = r.length + 1
    omega
section
variable {P : Program} {w : World} {K : PySem.W.Frag} {mg : Str → Option Value} {base : Heap}
theorem ok_names {f : Addr} {fd : FuncData} {k : Nat} (F : Fun K "_law_names" "_law_names" sLNames f fd) (T : Txt mg)
    (C__law_pull : Cal P w K mg base k "_law_pull" ["_law_bag_here", "_law_many"] spPull) (C__law_of : Cal P w K mg base k "_law_of" ["_law_bag_here", "_law_things"] (spOf K)) (C__law_letters : Cal P w K mg base k "_law_letters" [] spLetters) :
    FnOk P w K mg base CX0 (k + 1) f fd ["_law_bag_here", "_law_many"] spNames := by
  refine F.ok sc__law_names (fun vs H Q E h => ?_) (fun cdv A outer s H vs Q E hr h => ?_)
  · obtain ⟨a, l, m, rfl, _⟩ := h
    rfl
  · obtain ⟨a, l, m, rfl, hB, m0, m1, q⟩ := h
    refine ⟨_, (pss_cons (ps_asg (pe_tup (pa_cons (pe_op op_add pe_int (pe_callC C__law_pull hr (by rfl) (pa_cons (pv 0) (pa_cons pe_int pa_nil)))) (pa_cons (pe_callC0 C__law_letters hr (by rfl)) pa_nil))) (pg_tup rfl (pgs_cons (pg_name (i := 2) sc__law_names.nd rfl (.inl rfl)) (pgs_cons (pg_name (i := 3) sc__law_names.nd rfl (.inr rfl)) pgs_nil))))
    (pss_cons (ps_par (i := 4) (j := 5) (by rfl) sc__law_names.nd rfl rfl (by decide) rfl rfl (pa_cons (pe_callC C__law_pull hr (by rfl) (pa_cons (pv 0) (pa_cons (pv 2) pa_nil))) (pa_cons (pe_callC C__law_pull hr (by rfl) (pa_cons (pv 0) (pa_cons pe_int pa_nil))) pa_nil)) (by rfl))
    (pss_cons (ps_set (i := 6) sc__law_names.nd rfl (.inl rfl) (pe_callC C__law_of hr (by rfl) (pa_cons (pv 0) (pa_cons (pe_lst (pa_cons pe_int (pa_cons pe_int (pa_cons pe_int (pa_cons pe_int pa_nil))))) pa_nil))))
    (pss_cons (ps_par (i := 7) (j := 8) (by rfl) sc__law_names.nd rfl rfl (by decide) rfl rfl (pa_cons (pe_join pe_str (pe_lc (own := [("_law_k", 9)]) (g := (gName 9)) (by rfl) sc__law_names.nd (pi_range1 (by rfl) T.m_range (pa_cons (pv 2) pa_nil)) (blkOk_by (own := [("_law_k", 9)]) (N := ["_law_bag_here", "_law_many", "_law_size", "_law_letters_here", "_law_at", "_law_start", "_law_step", "_law_base", "_law_found", "_law_k", "_law_sign", "_law_name"]) (sc := defScope sLNames) (by decide +kernel)) (fun _ _ _ _ _ => (pg_name (i := 9) sc__law_names.nd rfl (Or.inl rfl))) (fun _ _ _ _ _ => pts_nil) (fun _ _ _ _ _ => (pe_callC C__law_of hr (by rfl) (pa_cons (pv 0) (pa_cons (pv 3) pa_nil)))))) (pa_cons (pe_lst pa_nil) pa_nil)) (by rfl))
    (pss_cons (ps_for PassesOwn.never rfl (pi_range1 (by rfl) T.m_range (pa_cons (pv 1) pa_nil)) (pg_name (i := 9) sc__law_names.nd rfl (.inl rfl))
    (pss_cons (ps_set (i := 10) sc__law_names.nd rfl (.inl rfl) (pe_ix ix_str (pv 3) (pe_op op_mod (pe_op op_add (pv 5) (pe_op op_mul (pv 6) (pv 9))) pe_int) (fun _ _ => rfl)))
    (pss_cons (ps_set (i := 11) sc__law_names.nd rfl (.inl rfl) (pe_op op_add_str (pe_op op_add_str (pe_slice sl_str (pv 7) po_none (po_some (pv 4))) (pv 10)) (pe_slice sl_str (pv 7) (po_some (pe_op op_add (pv 4) pe_int)) po_none)))
    (pss_one (ps_expr (pe_bm PySem.F.plainAttrs_list PySem.F.slot_list_append PySem.F.type_list_append mt_append (pv 8) (pa_cons (pe_ifExp (pt_cmpR op_eq (pe_callC C__law_pull hr (by rfl) (pa_cons (pv 0) (pa_cons pe_int pa_nil))) pe_int (nomark _)) (pe_slice sl_str (pv 11) po_none (po_some (pe_callB (call_max2 rfl) (by rfl) T.m_max (by decide +kernel) (pa_cons (pe_op op_add (pv 4) pe_int) (pa_cons (pe_op op_sub (pv 2) (pv 9)) pa_nil))))) (pv 11)) pa_nil)))))))
    (pss_one (ps_ret (pv 8)))))))), ?_⟩
    -- size, letters
    refine ⟨.ref a, rfl, a, l, 6, rfl, hB, by decide, by decide, fun sz' H1 z0 z1 hB1 k1 => ⟨1, sz', rfl, rfl, rfl, fun H2 s2 => ⟨by show 2 ≤ sizeLine; decide, fun p1 np1 => ?_⟩⟩⟩
    have hB2 := hB1.same s2
    have hB3 := hB2.upd (o := .tup [V.int (1 + sz'), V.str ⟨lets.toArray⟩]) (hB2.ne np1)
    have k3 : Keep a H (upd H2 p1 (.tup [V.int (1 + sz'), V.str ⟨lets.toArray⟩])) := (k1.trans (Keep.of_same s2)).trans (Keep.of_same (same_new np1))
    refine ⟨p1, _, rfl, .of upd_same, rfl, _, _, rfl, _, _, rfl, rfl, ?_⟩
    -- at, start
    refine ⟨.ref a, rfl, .int (1 + sz'), rfl, a, l, _, rfl, hB3, by omega, by omega, fun at' H4 a0 a1 hB4 k4 => ?_⟩
    refine ⟨.ref a, rfl, a, l, 26, rfl, hB4, by decide, by decide, fun st H5 s0 s1 hB5 k5 => ⟨_, _, rfl, ?_⟩⟩
    -- step
    refine ⟨.ref a, rfl, by show 4 ≤ sizeLine; decide, fun p2 np2 => ?_⟩
    refine ⟨a, l, _, _, rfl, hB5.upd (hB5.ne np2), .inl ⟨p2, rfl, (hB5.ne np2).1.symm, .inl (.of upd_same)⟩, by decide, by decide, fun v H6 hv hB6 k6 => ?_⟩
    obtain ⟨t, rfl, ht⟩ := odd_of hv
    have k56 : Keep a H H6 := ((k3.trans k4).trans k5).trans ((Keep.of_same (same_new np2)).trans k6)
    -- base, found
    refine ⟨⟨_, rfl⟩, .int (1 + sz'), rfl, _, rfl, by omega, by omega, fun D nD => ?_⟩
    refine lc_it walk_range (fun i H' => BagAt H' a l ∧ Keep a H6 H' ∧ ∃ cs : List Nat, cs.length = i ∧ (∀ c ∈ cs, c ∈ lets) ∧ H' D = some (.lst ((cs.map fun c => (⟨#[c]⟩ : Str)).map V.str))) ⟨hB6.upd (hB6.ne nD), Keep.mut (Keep.refl H6) nD, [], rfl, fun _ h => (nomatch h), upd_same⟩ (fun _ _ _ _ => True.intro) (fun i x H7 H8 hi hP hy => ?_) (fun H7 hP => ?_)
    · obtain ⟨hB7, k7, cs, rfl, hcs, eD⟩ := hP
      obtain ⟨rfl, rfl⟩ := hy
      refine ⟨rfl, yes_of (iteT ?_)⟩
      refine ⟨.ref a, rfl, _, rfl, a, l, _, _, rfl, hB7, .inr ⟨_, rfl, rfl⟩, by decide, by decide, fun v H9 hv hB9 k9 => ?_⟩
      obtain ⟨c, hc, rfl⟩ := List.mem_map.mp hv
      have hc : c ∈ lets := by simpa using hc
      refine ⟨_, k9 D _ (hB6.ne nD).1.symm eD, ?_, hB9.upd (hB6.ne nD), Keep.mut (k7.trans k9) nD, cs ++ [c], ?_, ?_, ?_⟩
      · rw [List.length_map, List.length_map]
        exact small_lt (by omega)
      · rw [List.length_append]
        rfl
      · intro x h
        rcases List.mem_append.mp h with h | h
        · exact hcs x h
        · rw [List.mem_singleton.mp h]
          exact hc
      · rw [upd_same, List.map_append, List.map_append]
        rfl
    · obtain ⟨hB7, k7, cs, ecs, hcs, eD⟩ := hP
      refine ⟨_, D, _, rfl, rfl, .inl (.of eD), ?_, ?_⟩
      · rw [sum_single, List.length_map]
        show cs.length + cs.length * 0 ≤ 16777216
        omega
      have jb := join_ones cs
      change (Txt.join (Str.ofString "") (cs.map fun c => ⟨#[c]⟩)).cps.toList = cs at jb
      generalize Txt.join (Str.ofString "") (cs.map fun c => ⟨#[c]⟩) = b at jb
      have bl : b.length = cs.length := by
        rw [← jb]
        exact Array.length_toList.symm
      have hb : NameZ b := ⟨by omega, by omega, by rw [jb]; exact hcs⟩
      -- found
      refine ⟨by show 0 ≤ sizeLine; decide, fun fo nfo => ⟨_, _, rfl, ?_⟩⟩
      have hB8 := hB7.upd (o := .lst []) (hB7.ne nfo)
      have nfo0 : H fo = none := by
        cases h : H fo with
        | none => rfl
        | some o =>
          by_cases e : fo = a
          · exact absurd e.symm (hB7.ne nfo).1
          · rw [(k56.trans k7) fo o e h] at nfo
            cases nfo
      have k8 : Keep a H (upd H7 fo (.lst [])) := (k56.trans k7).trans (Keep.of_same (same_new nfo))
      have fa : a ≠ fo ∧ l ≠ fo := hB7.ne nfo
      have e8 : (upd H7 fo (.lst [])) fo = some (.lst []) := upd_same
      generalize upd H7 fo (.lst []) = H8 at hB8 k8 e8
      -- the loop
      refine ⟨.int m, rfl, m, rfl, by omega, by omega, for_it walk_range0 (fun i σ H' => (∃ y9 y10 y11, σ = [some (.ref a), some (.int m), some (.int (1 + sz')), some (.str ⟨lets.toArray⟩), some (.int at'), some (.int st), some (.int t), some (.str b), some (.ref fo), y9, y10, y11]) ∧ BagAt H' a l ∧ Keep a H H' ∧
        ∃ zs : List Str, zs.length = i ∧ (∀ z ∈ zs, NameZ z) ∧ Apart st t at' zs ∧ H' fo = some (.lst (zs.map V.str))) ⟨⟨none, none, none, rfl⟩, hB8, k8, [], rfl, fun _ h => (nomatch h), fun j z h => by simp at h, e8⟩ (fun _ _ _ _ _ => True.intro) (fun i x σ H9 H10 hi hP hy => ?_) (fun σ H9 hP => ?_)⟩
      · obtain ⟨⟨y9, y10, y11, rfl⟩, hB9, k9, zs, rfl, hzs, hap, efo⟩ := hP
        obtain ⟨rfl, rfl⟩ := hy
        have n0 := Int.emod_nonneg (st + t * (zs.length : Int)) (show (26 : Int) ≠ 0 by decide)
        have n1 := Int.emod_lt_of_pos (st + t * (zs.length : Int)) (show (0 : Int) < 26 by decide)
        obtain ⟨l1, l2⟩ := lets_at n0 n1
        -- sign
        refine ⟨.str ⟨lets.toArray⟩, rfl, .int st, rfl, .int t, rfl, _, rfl, t, (zs.length : Int), rfl, rfl, .inl ⟨by omega, by omega⟩, st, _, rfl, rfl, _, 26, rfl, rfl, (by show (0 : Int) < 26; decide), ⟨lets.toArray⟩, _, 97 + ((st + t * (zs.length : Int)) % 26).toNat, rfl, rfl, (by decide), atI_of n0 (by rw [List.toList_toArray]; exact l1), ?_⟩
        have hcc : some (97 + ((st + t * (zs.length : Int)) % 26).toNat) = some (97 + ((st + t * (zs.length : Int)) % 26).toNat) := rfl
        generalize hc : 97 + ((st + t * (zs.length : Int)) % 26).toNat = c at l1 l2
        have ez : ∀ z : Str, z = (cutS b none (some at') ++ ⟨#[c]⟩) ++ cutS b (some (at' + 1)) none → z.cps.toList = b.cps.toList.take at'.toNat ++ [c] ++ b.cps.toList.drop (at' + 1).toNat := fun z e => by
          rw [e, Str.cps_append, Str.cps_append, Array.toList_append, Array.toList_append, cut_to a0, cut_from (by omega)]
        have c1 := cutS_length b none (some at')
        have c2 := cutS_length b (some (at' + 1)) none
        have cb : (⟨#[c]⟩ : Str).length = 1 := rfl
        -- name
        refine ⟨.str b, rfl, .int at', rfl, at', rfl, b, rfl, small_le (by omega), .str ⟨#[c]⟩, rfl, _, _, rfl, rfl, small_le (by omega), .str b, rfl, .int at', rfl, at', 1, rfl, rfl, _, rfl, b, rfl, small_le (by omega), _, _, rfl, rfl, ?_, ?_⟩
        · rw [Str.length_append]
          exact small_le (by omega)
        obtain ⟨z, hz⟩ : ∃ z, z = (cutS b none (some at') ++ ⟨#[c]⟩) ++ cutS b (some (at' + 1)) none := ⟨_, rfl⟩
        rw [← hz]
        have ⟨⟨nz, za⟩, nu⟩ := name_made (u := if (1 + sz') - (zs.length : Int) > at' + 1 then (1 + sz') - (zs.length : Int) else at' + 1) hb a0 (by omega) l2 (ez z hz)
        have nu := nu (by split <;> omega)
        have fin : ∀ (y : Str) (H11 : Hp), BagAt H11 a l → Keep a H10 H11 → NameZ y → y.cps.toList[at'.toNat]? = some c → BagAt (upd H11 fo (.lst (zs.map V.str ++ [.str y]))) a l ∧ Keep a H (upd H11 fo (.lst (zs.map V.str ++ [.str y]))) ∧
            ∃ zs' : List Str, zs'.length = zs.length + 1 ∧ (∀ z ∈ zs', NameZ z) ∧ Apart st t at' zs' ∧ (upd H11 fo (.lst (zs.map V.str ++ [.str y]))) fo = some (.lst (zs'.map V.str)) := fun y H11 hB11 k11 ny ya => by
          refine ⟨hB11.upd fa, Keep.mut (k9.trans k11) nfo0, zs ++ [y], ?_, ?_, ?_, ?_⟩
          · rw [List.length_append]
            rfl
          · intro x hx
            rcases List.mem_append.mp hx with hx | hx
            · exact hzs x hx
            · rw [List.mem_singleton.mp hx]
              exact ny
          · intro j x hj
            by_cases hjl : j < zs.length
            · rw [List.getElem?_append_left hjl] at hj
              exact hap j x hj
            · have hlt := (List.getElem?_eq_some_iff.mp hj).1
              rw [List.length_append, List.length_singleton] at hlt
              have ej : j = zs.length := by omega
              subst ej
              rw [List.getElem?_append_right (Nat.le_refl _), Nat.sub_self] at hj
              rw [← Option.some.inj hj, hc]
              exact ya
          · rw [upd_same, List.map_append]
            rfl
        refine ⟨.ref fo, rfl, .inl ⟨rfl, _, .of efo⟩, .ref a, rfl, a, l, 3, rfl, hB9, by decide, by decide, fun r H11 r0 r1 hB11 k11 => ⟨rfl, _, rfl, ite2 (fun e => ?_) (fun e => ?_)⟩⟩
        · have efo2 := k11 fo _ fa.1.symm efo
          refine ⟨.str z, rfl, .int at', rfl, at', 1, rfl, rfl, .int (1 + sz'), rfl, .int (zs.length : Int), rfl, _, _, rfl, rfl, _, _, rfl, _, rfl, z, rfl, small_le (by have := nz.2.1; omega), fo, _, _, rfl, rfl, efo2, by rw [List.length_map]; exact small_lt (by omega), ?_⟩
          exact ⟨⟨_, _, _, rfl⟩, fin _ H11 hB11 k11 nu.1 nu.2⟩
        · have efo2 := k11 fo _ fa.1.symm efo
          exact ⟨.str z, rfl, fo, _, _, rfl, rfl, efo2, by rw [List.length_map]; exact small_lt (by omega), ⟨_, _, _, rfl⟩, fin _ H11 hB11 k11 nz za⟩
      · obtain ⟨⟨y9, y10, y11, rfl⟩, hB9, k9, zs, ezs, hzs, hap, efo⟩ := hP
        exact ⟨.ref fo, rfl, q fo zs H9 nfo0 ezs hzs (hap.nodup ht (by omega)) efo hB9 k9⟩
end
end Ink
namespace Ink
open PySem PySem.Spec PyProof.Rows L2
/-- signs: unlike small letters, rising -/
def spSigns : Sp := fun vs H Q _ => ∃ (a l : Addr) (m : Int), vs = [.ref a, .int m] ∧ BagAt H a l ∧ 1 ≤ m ∧ m ≤ 20 ∧ ∀ p (cs : List Nat) H', H p = none → 1 ≤ cs.length → (cs.length : Int) ≤ m → (∀ c ∈ cs, c ∈ lets) → cs.Pairwise (· < ·) → H' p = some (.lst ((cs.map single).map V.str)) → BagAt H' a l → Keep a H H' → Q (.ref p) H'
theorem lt_single (c d : Nat) : ltCps (single c).cps.toList (single d).cps.toList = decide (c < d) := by
  show (decide (c < d) || (c == d && ltCps [] [])) = _
  rw [show ltCps [] [] = false from rfl, Bool.and_false, Bool.or_false]
theorem rising_lt : ∀ (cs : List Nat) (c : Nat), risingS (single c) (cs.map single) = true → (c :: cs).Nodup → (c :: cs).Pairwise (· < ·)
  | [], c, _, _ => List.pairwise_singleton _ _
  | d :: r, c, h, hn => by
    have h : (!ltCps (single d).cps.toList (single c).cps.toList && risingS (single d) (r.map single)) = true := h
    rw [Bool.and_eq_true, lt_single] at h
    have hcd : ¬ d < c := fun q => by
      rw [decide_eq_true q] at h
      exact nomatch h.1
    have hn2 := List.nodup_cons.mp hn
    have ih := rising_lt r d h.2 hn2.2
    have hne : c ≠ d := fun e => hn2.1 (by rw [e]; exact List.mem_cons_self ..)
    refine List.pairwise_cons.mpr ⟨fun e he => ?_, ih⟩
    rcases List.mem_cons.mp he with he | he
    · omega
    · have := (List.pairwise_cons.mp ih).1 e he
      omega
def hdZ (z : Str) : Nat := z.cps.toList.headD 0
theorem map_hd (cs : List Nat) : (cs.map single).map hdZ = cs := by
  rw [List.map_map]
  exact List.map_id _
theorem sorted_singles {ys : List Str} {cs : List Nat} (hp : ys.Perm (cs.map single)) (hs : sortedS ys = true) (hn : cs.Nodup) :
    ∃ ds : List Nat, ys = ds.map single ∧ ds.Perm cs ∧ ds.Pairwise (· < ·) := by
  have e : ys = (ys.map hdZ).map single := by
    rw [List.map_map]
    refine (List.map_id ys).symm.trans (List.map_congr_left fun y hy => ?_)
    obtain ⟨c, _, rfl⟩ := List.mem_map.mp (hp.mem_iff.mp hy)
    rfl
  have pm : (ys.map hdZ).Perm cs := by
    have := hp.map hdZ
    rw [map_hd] at this
    exact this
  refine ⟨ys.map hdZ, e, pm, ?_⟩
  have nd : (ys.map hdZ).Nodup := pm.nodup_iff.mpr hn
  rw [e] at hs
  generalize ys.map hdZ = ds at hs nd
  cases ds with
  | nil => exact .nil
  | cons d r => exact rising_lt r d hs nd
section
variable {P : Program} {w : World} {K : PySem.W.Frag} {mg : Str → Option Value} {base : Heap}
theorem ok_signs {f : Addr} {fd : FuncData} {k : Nat} (F : Fun K "_law_signs" "_law_signs" sLSigns f fd) (T : Txt mg)
    (C__law_pull : Cal P w K mg base k "_law_pull" ["_law_bag_here", "_law_many"] spPull) (C__law_of : Cal P w K mg base k "_law_of" ["_law_bag_here", "_law_things"] (spOf K)) (C__law_letters : Cal P w K mg base k "_law_letters" [] spLetters) :
    FnOk P w K mg base CX0 (k + 1) f fd ["_law_bag_here", "_law_limit"] spSigns := by
  refine F.ok sc__law_signs (fun vs H Q E h => ?_) (fun cdv A outer s H vs Q E hr h => ?_)
  · obtain ⟨a, l, m, rfl, _⟩ := h
    rfl
  · obtain ⟨a, l, m, rfl, hB, m0, m1, q⟩ := h
    refine ⟨_, (pss_cons (ps_asg (pe_tup (pa_cons (pe_callC C__law_pull hr (by rfl) (pa_cons (pv 0) (pa_cons pe_int pa_nil))) (pa_cons (pe_callC C__law_of hr (by rfl) (pa_cons (pv 0) (pa_cons (pe_lst (pa_cons pe_int (pa_cons pe_int (pa_cons pe_int (pa_cons pe_int pa_nil))))) pa_nil))) pa_nil))) (pg_tup rfl (pgs_cons (pg_name (i := 2) sc__law_signs.nd rfl (.inr rfl)) (pgs_cons (pg_name (i := 3) sc__law_signs.nd rfl (.inr rfl)) pgs_nil))))
    (pss_cons (ps_asg (pe_tup (pa_cons (pe_op op_add pe_int (pe_callC C__law_pull hr (by rfl) (pa_cons (pv 0) (pa_cons (pv 1) pa_nil)))) (pa_cons (pe_callC0 C__law_letters hr (by rfl)) pa_nil))) (pg_tup rfl (pgs_cons (pg_name (i := 4) sc__law_signs.nd rfl (.inl rfl)) (pgs_cons (pg_name (i := 5) sc__law_signs.nd rfl (.inr rfl)) pgs_nil))))
    (pss_one (ps_ret (pe_callB cr_sortedS (by rfl) T.m_sorted (by decide +kernel) (pa_cons (pe_lc (own := [("_law_k", 6)]) (g := (gName 6)) (by rfl) sc__law_signs.nd (pi_range1 (by rfl) T.m_range (pa_cons (pv 4) pa_nil)) (blkOk_by (own := [("_law_k", 6)]) (N := ["_law_bag_here", "_law_limit", "_law_start", "_law_step", "_law_many", "_law_letters_here", "_law_k"]) (sc := defScope sLSigns) (by decide +kernel)) (fun _ _ _ _ _ => (pg_name (i := 6) sc__law_signs.nd rfl (Or.inl rfl))) (fun _ _ _ _ _ => pts_nil) (fun _ _ _ _ _ => (pe_ix ix_str (pv 5) (pe_op op_mod (pe_op op_add (pv 2) (pe_op op_mul (pv 3) (pv 6))) pe_int) (fun _ _ => rfl)))) pa_nil)))))), ?_⟩
    -- start, step
    refine ⟨.ref a, rfl, a, l, 26, rfl, hB, by decide, by decide, fun st H1 s0 s1 hB1 k1 => ?_⟩
    refine ⟨.ref a, rfl, by show 4 ≤ sizeLine; decide, fun p2 np2 => ?_⟩
    refine ⟨a, l, _, _, rfl, hB1.upd (hB1.ne np2), .inl ⟨p2, rfl, (hB1.ne np2).1.symm, .inl (.of upd_same)⟩, by decide, by decide, fun v H2 hv hB2 k2 => ?_⟩
    obtain ⟨t, rfl, ht⟩ := odd_of hv
    refine ⟨by show 2 ≤ sizeLine; decide, fun p3 np3 => ?_⟩
    have hB3 := hB2.upd (o := .tup [V.int st, V.int t]) (hB2.ne np3)
    have k3 : Keep a H (upd H2 p3 (.tup [V.int st, V.int t])) := (k1.trans ((Keep.of_same (same_new np2)).trans k2)).trans (Keep.of_same (same_new np3))
    refine ⟨p3, _, rfl, .of upd_same, rfl, _, _, rfl, _, _, rfl, rfl, ?_⟩
    -- many, letters
    refine ⟨.ref a, rfl, .int m, rfl, a, l, m, rfl, hB3, by omega, by omega, fun n H4 n0 n1 hB4 k4 => ⟨1, n, rfl, rfl, rfl, fun H5 s5 => ⟨by show 2 ≤ sizeLine; decide, fun p6 np6 => ?_⟩⟩⟩
    have hB5 := hB4.same s5
    have hB6 := hB5.upd (o := .tup [V.int (1 + n), V.str ⟨lets.toArray⟩]) (hB5.ne np6)
    have k6 : Keep a H (upd H5 p6 (.tup [V.int (1 + n), V.str ⟨lets.toArray⟩])) := ((k3.trans k4).trans (Keep.of_same s5)).trans (Keep.of_same (same_new np6))
    refine ⟨p6, _, rfl, .of upd_same, rfl, _, _, rfl, _, _, rfl, rfl, ?_⟩
    -- the signs
    refine ⟨.int (1 + n), rfl, 1 + n, rfl, by omega, by omega, fun D nD => ?_⟩
    refine lc_it walk_range0 (fun i H' => BagAt H' a l ∧ Keep a H H' ∧ H' D = some (.lst ((((List.range i).map fun j : Nat => 97 + ((st + t * (j : Int)) % 26).toNat).map single).map V.str))) ⟨hB6.upd (hB6.ne nD), k6.trans (Keep.of_same (same_new nD)), upd_same⟩ (fun _ _ _ _ => True.intro) (fun i x H7 H8 hi hP hy => ?_) (fun H7 hP => ?_)
    · obtain ⟨hB7, k7, eD⟩ := hP
      obtain ⟨rfl, rfl⟩ := hy
      have n0 := Int.emod_nonneg (st + t * (i : Int)) (show (26 : Int) ≠ 0 by decide)
      have n1 := Int.emod_lt_of_pos (st + t * (i : Int)) (show (0 : Int) < 26 by decide)
      obtain ⟨l1, l2⟩ := lets_at n0 n1
      have nD0 : H D = none := by
        cases h : H D with
        | none => rfl
        | some o =>
          by_cases e : D = a
          · exact absurd e.symm (hB6.ne nD).1
          · rw [k6 D o e h] at nD
            cases nD
      refine ⟨rfl, yes_of (iteT ?_)⟩
      refine ⟨.str ⟨lets.toArray⟩, rfl, .int st, rfl, .int t, rfl, _, rfl, t, (i : Int), rfl, rfl, .inl ⟨by omega, by omega⟩, st, _, rfl, rfl, _, 26, rfl, rfl, (by show (0 : Int) < 26; decide), ⟨lets.toArray⟩, _, 97 + ((st + t * (i : Int)) % 26).toNat, rfl, rfl, (by decide), atI_of n0 (by rw [List.toList_toArray]; exact l1), ?_⟩
      refine ⟨_, eD, ?_, hB7.upd (hB6.ne nD), Keep.mut k7 nD0, ?_⟩
      · rw [List.length_map, List.length_map, List.length_map, List.length_range]
        exact small_lt (by omega)
      · rw [upd_same, List.range_succ, List.map_append, List.map_append, List.map_append]
        rfl
    · obtain ⟨hB7, k7, eD⟩ := hP
      refine ⟨D, _, rfl, .of eD, ?_, fun ys p pm hs np => ?_⟩
      · rw [List.length_map, List.length_map, List.length_range]
        omega
      have nd : ((List.range (1 + n).toNat).map fun j : Nat => 97 + ((st + t * (j : Int)) % 26).toNat).Nodup := by
        rw [List.nodup_iff_pairwise_ne, List.pairwise_map]
        refine List.Pairwise.imp_of_mem (fun {i j} hi hj hij e => hij ?_) (List.nodup_iff_pairwise_ne.mp List.nodup_range)
        have hi := List.mem_range.mp hi
        have hj := List.mem_range.mp hj
        have m1 := Int.emod_nonneg (st + t * (i : Int)) (show (26 : Int) ≠ 0 by decide)
        have m2 := Int.emod_nonneg (st + t * (j : Int)) (show (26 : Int) ≠ 0 by decide)
        exact mod_apart (s := st) (t := t) ht (by omega) (by omega) (by omega)
      obtain ⟨ds, rfl, pd, hlt⟩ := sorted_singles pm hs nd
      have hlen : ds.length = (1 + n).toNat := by
        rw [pd.length_eq, List.length_map, List.length_range]
      have np0 : H p = none := by
        cases h : H p with
        | none => rfl
        | some o =>
          by_cases e : p = a
          · exact absurd e.symm (hB7.ne np).1
          · rw [k7 p o e h] at np
            cases np
      refine q p ds _ np0 (by omega) (by omega) (fun c hc => ?_) hlt upd_same (hB7.upd (hB7.ne np)) (k7.trans (Keep.of_same (same_new np)))
      obtain ⟨j, _, rfl⟩ := List.mem_map.mp (pd.mem_iff.mp hc)
      exact (lets_at (Int.emod_nonneg _ (by decide)) (Int.emod_lt_of_pos _ (by decide))).2
end
end Ink
namespace Ink
open PySem PySem.Spec PyProof.Rows L2
/-- an arrow: place, sign, place -/
abbrev Arw := Int × Str × Int
def ArwAt (H : Hp) (p : Addr) (x : Arw) : Prop := H p = some (.tup [.int x.1, .str x.2.1, .int x.2.2])
def ArsAt (H : Hp) (ps : List Addr) (ar : List Arw) : Prop := Paired (ArwAt H) ps ar
theorem tup_ne {H : Hp} {a l p : Addr} {xs : List V} (b : BagAt H a l) (h : H p = some (.tup xs)) : p ≠ a := by
  obtain ⟨ns, x, y, z, h1, _⟩ := b
  exact fun e => by
    rw [e, h1] at h
    cases h
theorem ArsAt.keep {H H' : Hp} {a l : Addr} {ps : List Addr} {ar : List Arw} (b : BagAt H a l) (k : Keep a H H') (h : ArsAt H ps ar) : ArsAt H' ps ar := L2.Paired.mapP h fun p x hx => k p _ (tup_ne b hx) hx
theorem ArsAt.same {H H' : Hp} {ps : List Addr} {ar : List Arw} (k : Same H H') (h : ArsAt H ps ar) : ArsAt H' ps ar := L2.Paired.mapP h fun p x hx => k p _ hx
theorem prd_snoc {α β : Type} {F : α → β → Prop} : ∀ {xs : List α} {ys : List β} {x : α} {y : β}, Paired F xs ys → F x y → Paired F (xs ++ [x]) (ys ++ [y])
  | _, _, _, _, .nil, h => .cons h .nil
  | _, _, _, _, .cons r t, h => .cons r (prd_snoc t h)
def goodA (x : Arw) : Prop := 0 ≤ x.1 ∧ x.1 ≤ 2 ∧ (∃ c ∈ lets, x.2.1 = single c) ∧ 0 ≤ x.2.2 ∧ x.2.2 ≤ 2
def lessA (x y : Arw) : Prop := x.1 < y.1 ∨ (x.1 = y.1 ∧ x.2.1.cps.toList < y.2.1.cps.toList)
/-- what a drawn writer has -/
structure GoodW (z : Str) (ar : List Arw) (p c : Int) : Prop where
  name : NameZ z
  len : ar.length ≤ 9
  each : ∀ x ∈ ar, goodA x
  rise : ar.Pairwise lessA
  p0 : 0 ≤ p
  p3 : p ≤ 3
  c0 : 0 ≤ c
  c3 : c ≤ 3
def WrAt (H : Hp) (W : Addr) (z : Str) (ar : List Arw) (p c : Int) : Prop := ∃ tp ps, H W = some (.tup [.str z, .ref tp, .int p, .int c]) ∧ H tp = some (.tup (ps.map V.ref)) ∧ ArsAt H ps ar
theorem WrAt.keep {H H' : Hp} {a l W : Addr} {z : Str} {ar : List Arw} {p c : Int} (b : BagAt H a l) (k : Keep a H H') (h : WrAt H W z ar p c) : WrAt H' W z ar p c := by
  obtain ⟨tp, ps, h1, h2, h3⟩ := h
  exact ⟨tp, ps, k _ _ (tup_ne b h1) h1, k _ _ (tup_ne b h2) h2, h3.keep b k⟩
theorem WrAt.same {H H' : Hp} {W : Addr} {z : Str} {ar : List Arw} {p c : Int} (k : Same H H') (h : WrAt H W z ar p c) : WrAt H' W z ar p c := by
  obtain ⟨tp, ps, h1, h2, h3⟩ := h
  exact ⟨tp, ps, k _ _ h1, k _ _ h2, h3.same k⟩
theorem Keep.free {a D : Addr} {H H' : Hp} (k : Keep a H H') (n : a ≠ D) (h : H' D = none) : H D = none := by
  cases e : H D with
  | none => rfl
  | some o =>
    rw [k D o n.symm e] at h
    cases h
def spWriter : Sp := fun vs H Q _ => ∃ (a l : Addr) (z : Str) (m : Int) (sp : Addr) (cs : List Nat) (th : Int), vs = [.ref a, .str z, .int m, .ref sp, .int th] ∧ BagAt H a l ∧ NameZ z ∧ 1 ≤ m ∧ m ≤ 3 ∧
  H sp = some (.lst ((cs.map single).map V.str)) ∧ sp ≠ a ∧ (∀ c ∈ cs, c ∈ lets) ∧ cs.Pairwise (· < ·) ∧ ∀ W ar p c H', H W = none → WrAt H' W z ar p c → GoodW z ar p c → BagAt H' a l → Keep a H H' → Q (.ref W) H'
section
variable {P : Program} {w : World} {K : PySem.W.Frag} {mg : Str → Option Value} {base : Heap}
theorem count_of {v : V} (h : v ∈ [V.int 0, V.int 0, V.int 0, V.int 1, V.int 2, V.int 3]) : ∃ t : Int, v = .int t ∧ 0 ≤ t ∧ t ≤ 3 := by
  simp only [List.mem_cons, List.not_mem_nil, or_false] at h
  rcases h with rfl | rfl | rfl | rfl | rfl | rfl <;> exact ⟨_, rfl, by decide, by decide⟩
theorem pair_get {cs : List Nat} (hp : cs.Pairwise (· < ·)) {i j x y : Nat} (hi : cs[i]? = some x) (hj : cs[j]? = some y) (h : i < j) : x < y := by
  obtain ⟨h1, e1⟩ := List.getElem?_eq_some_iff.mp hi
  obtain ⟨h2, e2⟩ := List.getElem?_eq_some_iff.mp hj
  have := (List.pairwise_iff_getElem.mp hp) i j h1 h2 h
  rw [e1, e2] at this
  exact this
/-- the lines so far, ahead of the j-th sign at the place i -/
def Lines (cs : List Nat) (i j : Nat) (ar : List Arw) : Prop := ar.length ≤ 9 ∧ (∀ x ∈ ar, goodA x) ∧ ar.Pairwise lessA ∧ ∀ x ∈ ar, x.1 < (i : Int) ∨ (x.1 = (i : Int) ∧ ∃ (j' c : Nat), j' < j ∧ cs[j']? = some c ∧ x.2.1 = single c)
theorem Lines.next {cs : List Nat} {i j : Nat} {ar : List Arw} (h : Lines cs i j ar) : Lines cs i (j + 1) ar := by
  obtain ⟨h1, h2, h3, h4⟩ := h
  refine ⟨h1, h2, h3, fun x hx => ?_⟩
  rcases h4 x hx with h | ⟨e, j', c, h5, h6⟩
  · exact .inl h
  · exact .inr ⟨e, j', c, by omega, h6⟩
theorem Lines.row {cs : List Nat} {i j : Nat} {ar : List Arw} (h : Lines cs i j ar) : Lines cs (i + 1) 0 ar := by
  obtain ⟨h1, h2, h3, h4⟩ := h
  refine ⟨h1, h2, h3, fun x hx => .inl ?_⟩
  rcases h4 x hx with h | ⟨e, _⟩ <;> omega
theorem Lines.more {cs : List Nat} {i j c : Nat} {t : Int} {ar : List Arw} (h : Lines cs i j ar) (hl : ar.length < 9) (hc : cs[j]? = some c) (hm : c ∈ lets) (hp : cs.Pairwise (· < ·)) (hi : i ≤ 2) (t0 : 0 ≤ t) (t1 : t ≤ 2) : Lines cs i (j + 1) (ar ++ [((i : Int), single c, t)]) := by
  obtain ⟨h1, h2, h3, h4⟩ := h
  refine ⟨by rw [List.length_append, List.length_singleton]; omega, fun x hx => ?_, ?_, fun x hx => ?_⟩
  · rcases List.mem_append.mp hx with hx | hx
    · exact h2 x hx
    · rw [List.mem_singleton.mp hx]
      exact ⟨by show (0 : Int) ≤ (i : Int); omega, by show ((i : Int)) ≤ 2; omega, ⟨c, hm, rfl⟩, t0, t1⟩
  · refine List.pairwise_append.mpr ⟨h3, List.pairwise_singleton _ _, fun x hx y hy => ?_⟩
    rw [List.mem_singleton.mp hy]
    rcases h4 x hx with h | ⟨e, j', d, h5, h6, h7⟩
    · exact .inl h
    · refine .inr ⟨e, ?_⟩
      show x.2.1.cps.toList < (single c).cps.toList
      rw [h7]
      exact (lt_one d c).mpr (pair_get hp h6 hc h5)
  · rcases List.mem_append.mp hx with hx | hx
    · rcases h4 x hx with h | ⟨e, j', d, h5, h6⟩
      · exact .inl h
      · exact .inr ⟨e, j', d, by omega, h6⟩
    · rw [List.mem_singleton.mp hx]
      exact .inr ⟨rfl, j, c, by omega, hc, rfl⟩
theorem ok_writer {f : Addr} {fd : FuncData} {k : Nat} (F : Fun K "_law_writer" "_law_writer" sLWriter f fd) (T : Txt mg)
    (C__law_pull : Cal P w K mg base k "_law_pull" ["_law_bag_here", "_law_many"] spPull) (C__law_of : Cal P w K mg base k "_law_of" ["_law_bag_here", "_law_things"] (spOf K)) :
    FnOk P w K mg base CX0 (k + 1) f fd ["_law_bag_here", "_law_name", "_law_places", "_law_signs_here", "_law_thick"] spWriter := by
  refine F.ok sc__law_writer (fun vs H Q E h => ?_) (fun cdv A outer s H vs Q E hr h => ?_)
  · obtain ⟨a, l, z, m, sp, cs, th, rfl, _⟩ := h
    rfl
  · obtain ⟨a, l, z, m, sp, cs, th, rfl, hB, hz, m0, m1, hsp, nsp, hcs, hrise, q⟩ := h
    refine ⟨_, (pss_cons (ps_set (i := 5) sc__law_writer.nd rfl (.inl rfl) (pe_lst pa_nil))
    (pss_cons (ps_for PassesOwn.never rfl (pi_range1 (by rfl) T.m_range (pa_cons (pv 2) pa_nil)) (pg_name (i := 6) sc__law_writer.nd rfl (.inl rfl))
    (pss_one (ps_for PassesOwn.never rfl (pi_list (pv 3)) (pg_name (i := 7) sc__law_writer.nd rfl (.inl rfl))
    (pss_one (ps_if (PW.pt (pw_and (pt_cmpR op_lt (pe_callB call_len (by rfl) T.m_len PySem.boot_len (pa_cons (pv 5) pa_nil)) pe_int (nomark _)) (pw_and1 (pt_cmpR op_lt (pe_callC C__law_pull hr (by rfl) (pa_cons (pv 0) (pa_cons pe_int pa_nil))) (pv 4) (nomark _)))))
    (pss_one (ps_expr (pe_bm PySem.F.plainAttrs_list PySem.F.slot_list_append PySem.F.type_list_append mt_append (pv 5) (pa_cons (pe_tup (pa_cons (pv 6) (pa_cons (pv 7) (pa_cons (pe_callC C__law_pull hr (by rfl) (pa_cons (pv 0) (pa_cons (pv 2) pa_nil))) pa_nil)))) pa_nil)))) pss_nil)))))
    (pss_cons (ps_set (i := 8) sc__law_writer.nd rfl (.inl rfl) (pe_lst (pa_cons pe_int (pa_cons pe_int (pa_cons pe_int (pa_cons pe_int (pa_cons pe_int (pa_cons pe_int pa_nil))))))))
    (pss_one (ps_ret (pe_tup (pa_cons (pv 1) (pa_cons (pe_callTy call_tuple_of (by rfl) T.m_tuple (by decide +kernel) (pa_cons (pv 5) pa_nil)) (pa_cons (pe_callC C__law_of hr (by rfl) (pa_cons (pv 0) (pa_cons (pv 8) pa_nil))) (pa_cons (pe_callC C__law_of hr (by rfl) (pa_cons (pv 0) (pa_cons (pv 8) pa_nil))) pa_nil)))))))))), ?_⟩
    refine ⟨by show 0 ≤ sizeLine; decide, fun ln nln => ?_⟩
    have nl := hB.ne nln
    have nls : sp ≠ ln := ne_of_none hsp nln
    refine ⟨.int m, rfl, m, rfl, by omega, by omega, for_it walk_range0 (fun i σ H' => (∃ y6 y7 y8, σ = [some (.ref a), some (.str z), some (.int m), some (.ref sp), some (.int th), some (.ref ln), y6, y7, y8]) ∧ BagAt H' a l ∧ Keep a H H' ∧
      ∃ ps ar, H' ln = some (.lst (ps.map V.ref)) ∧ ArsAt H' ps ar ∧ Lines cs i 0 ar) ⟨⟨none, none, none, rfl⟩, hB.upd nl, Keep.mut (Keep.refl H) nln, [], [], upd_same, .nil, by decide, (fun _ h => nomatch h), .nil, (fun _ h => nomatch h)⟩ (fun _ _ _ _ _ => True.intro) (fun i x σ H1 H2 hi hP hy => ?_) (fun σ H1 hP => ?_)⟩
    · obtain ⟨⟨y6, y7, y8, rfl⟩, hB1, k1, ps, ar, eln, hps, hL⟩ := hP
      obtain ⟨rfl, rfl⟩ := hy
      have es : ∀ H', Keep a H H' → H' sp = some (.lst ((cs.map single).map V.str)) := fun H' k => k sp _ nsp hsp
      refine ⟨.ref sp, rfl, sp, rfl, ⟨_, .of (es _ k1)⟩, for_it (walk_list (xs := (cs.map single).map V.str)) (fun j σ H' => (∃ y7 y8, σ = [some (.ref a), some (.str z), some (.int m), some (.ref sp), some (.int th), some (.ref ln), some (.int (i : Int)), y7, y8]) ∧ BagAt H' a l ∧ Keep a H H' ∧
        ∃ ps ar, H' ln = some (.lst (ps.map V.ref)) ∧ ArsAt H' ps ar ∧ Lines cs i j ar) ⟨⟨_, _, rfl⟩, hB1, k1, ps, ar, eln, hps, hL⟩ (fun _ _ H' _ hP => .of (es _ hP.2.2.1)) (fun j x σ H3 H4 hj hP hy => ?_) (fun σ H3 hP => ?_)⟩
      · obtain ⟨⟨y7, y8, rfl⟩, hB3, k3, ps, ar, eln, hps, hL⟩ := hP
        obtain ⟨rfl, hx⟩ := hy
        obtain ⟨c, hc, rfl⟩ : ∃ c, cs[j]? = some c ∧ x = .str (single c) := by
          rw [List.getElem?_map, List.getElem?_map] at hx
          cases h : cs[j]? with
          | none =>
            rw [h] at hx
            cases hx
          | some c =>
            rw [h] at hx
            exact ⟨c, rfl, (Option.some.inj hx).symm⟩
        have hm : c ∈ lets := hcs c (List.mem_of_getElem? hc)
        have elen : ps.length = ar.length := Paired.length hps
        -- len(lines) < 9
        refine ⟨.ref ln, rfl, .ref ln, _, rfl, .inl ⟨_, .of eln, rfl⟩, _, _, rfl, rfl, _, rfl, ite2 (fun e => ?_) (fun e => ?_)⟩
        · have e : (((ps.map V.ref).length : Nat) : Int) < 9 := of_decide_eq_true e
          rw [List.length_map] at e
          refine ⟨.ref a, rfl, a, l, 8, rfl, hB3, by decide, by decide, fun r H5 _ _ hB5 k5 => ⟨.int th, rfl, _, _, rfl, rfl, _, rfl, ite2 (fun e2 => ?_) (fun e2 => ?_)⟩⟩
          · refine ⟨.ref ln, rfl, .inl ⟨rfl, _, .of (k5 ln _ nl.1.symm eln)⟩, _, rfl, _, rfl, .ref a, rfl, .int m, rfl, a, l, m, rfl, hB5, by omega, by omega, fun t H6 t0 t1 hB6 k6 => ⟨by show 3 ≤ sizeLine; decide, fun p np => ?_⟩⟩
            have hps5 := hps.keep hB3 k5
            have hps6 := (hps5.keep hB5 k6).same (same_new (o := .tup [V.int (i : Int), V.str (single c), V.int t]) np)
            have eln6 := k6 ln _ nl.1.symm (k5 ln _ nl.1.symm eln)
            have npl : ln ≠ p := ne_of_none eln6 np
            refine ⟨ln, _, _, rfl, rfl, (same_new np ln _ eln6), by rw [List.length_map]; exact small_lt (by omega), ⟨_, _, rfl⟩, (hB6.upd (hB6.ne np)).upd nl, Keep.mut ((k3.trans (k5.trans k6)).trans (Keep.of_same (same_new np))) nln, ps ++ [p], ar ++ [((i : Int), single c, t)], ?_, ?_, hL.more (by omega) hc hm hrise (by omega) t0 (by omega)⟩
            · rw [upd_same, List.map_append]
              rfl
            · refine prd_snoc (L2.Paired.mapP hps6 fun p' x' hx' => ?_) ?_
              · show upd _ ln _ p' = _
                rw [upd_ne (ne_of hx' (same_new np ln _ eln6) (by intro z; cases z))]
                exact hx'
              · show upd _ ln _ p = _
                rw [upd_ne npl.symm, upd_same]
          · exact ⟨⟨_, _, rfl⟩, hB5, k3.trans k5, ps, ar, k5 ln _ nl.1.symm eln, hps.keep hB3 k5, hL.next⟩
        · exact iteF ⟨⟨_, _, rfl⟩, hB3, k3, ps, ar, eln, hps, hL.next⟩
      · obtain ⟨⟨y7, y8, rfl⟩, hB3, k3, ps, ar, eln, hps, hL⟩ := hP
        exact ⟨⟨_, _, _, rfl⟩, hB3, k3, ps, ar, eln, hps, hL.row⟩
    · obtain ⟨⟨y6, y7, y8, rfl⟩, hB1, k1, ps, ar, eln, hps, hL⟩ := hP
      -- counts
      refine ⟨by show 6 ≤ sizeLine; decide, fun cp ncp => ?_⟩
      have hB2 := hB1.upd (o := .lst [V.int 0, .int 0, .int 0, .int 1, .int 2, .int 3]) (hB1.ne ncp)
      have k2 := Keep.of_same (a := a) (same_new (o := .lst [V.int 0, .int 0, .int 0, .int 1, .int 2, .int 3]) ncp)
      have ncpa : cp ≠ a := (hB1.ne ncp).1.symm
      -- the tuple of lines
      refine ⟨.str z, rfl, .ref ln, rfl, ln, _, rfl, .inl ⟨.of (k2 ln _ nl.1.symm eln), fun tp ntp => ?_⟩⟩
      have hB3 := hB2.upd (o := .tup (ps.map V.ref)) (hB2.ne ntp)
      have k3 := Keep.of_same (a := a) (same_new (o := .tup (ps.map V.ref)) ntp)
      refine ⟨.ref a, rfl, .ref cp, rfl, a, l, _, _, rfl, hB3, .inl ⟨cp, rfl, ncpa, .inl (.of (k3 cp _ ncpa upd_same))⟩, by decide, by decide, fun v H4 hv hB4 k4 => ?_⟩
      obtain ⟨p, rfl, p0, p3⟩ := count_of hv
      refine ⟨.ref a, rfl, .ref cp, rfl, a, l, _, _, rfl, hB4, .inl ⟨cp, rfl, ncpa, .inl (.of (k4 cp _ ncpa (k3 cp _ ncpa upd_same)))⟩, by decide, by decide, fun v H5 hv hB5 k5 => ?_⟩
      obtain ⟨c, rfl, c0, c3⟩ := count_of hv
      refine ⟨by show 4 ≤ sizeLine; decide, fun W nW => ?_⟩
      have k25 := (k2.trans k3).trans (k4.trans k5)
      have k6 := Keep.of_same (a := a) (same_new (o := .tup [V.str z, .ref tp, .int p, .int c]) nW)
      have nW1 : H W = none := (k1.trans k25).free (hB5.ne nW).1 nW
      refine q W ar p c _ nW1 ⟨tp, ps, upd_same, ?_, ?_⟩ ⟨hz, hL.1, hL.2.1, hL.2.2.1, p0, p3, c0, c3⟩ (hB5.upd (hB5.ne nW)) ((k1.trans k25).trans k6)
      · exact k6 tp _ (hB2.ne ntp).1.symm ((k4.trans k5) tp _ (hB2.ne ntp).1.symm upd_same)
      · exact (hps.keep hB1 k25).keep hB5 k6
end
end Ink
namespace Ink
open PySem PySem.Spec PyProof.Rows L2
/-- (i, x) < (j, y) -/
def ltIS (i : Int) (x : Str) (j : Int) (y : Str) : Bool := if i = j then (if x = y then false else decide (x.cps.toList < y.cps.toList)) else decide (i < j)
def rLtIS (K : PySem.W.Frag) : R2 := fun u v H Q => ∃ a b i x j y, u = .ref a ∧ v = .ref b ∧ SqT K H a [.int i, .str x] ∧ SqT K H b [.int j, .str y] ∧ Q (.bl (ltIS i x j y)) H
theorem op_ltIS {X : Cx} (hu : X.A.units < cLine) : OpR X (compareOp .Lt) (rLtIS X.K) := by
  intro pins s σ H u v uu vv Q I ru rv h
  obtain ⟨a, b, i, x, j, y, rfl, rfl, ha, hb, q⟩ := h
  cases ru
  cases rv
  obtain ⟨its, r1, p1, _⟩ := I.tuple ha
  obtain ⟨its2, r2, p2, _⟩ := I.tuple hb
  cases r1 with
  | cons q1 r1 =>
  cases r1 with
  | cons q2 r1 =>
  cases r1
  cases r2 with
  | cons q3 r2 =>
  cases r2 with
  | cons q4 r2 =>
  cases r2
  obtain ⟨t1, rfl⟩ := q1
  obtain ⟨t2, rfl⟩ := q2
  obtain ⟨t3, rfl⟩ := q3
  obtain ⟨t4, rfl⟩ := q4
  have R := Ob.RcOp.tuples_lt (A := X.A) (s := s) (e := fun n => if n = 0 then i == j else x == y) (r := fun n => if n = 0 then decide (i < j) else decide (x.cps.toList < y.cps.toList)) p1 p2 hu
    (fun n h1 h2 => by
      have hn : n = 0 ∨ n = 1 := by
        have : n < 2 := h1
        omega
      rcases hn with rfl | rfl
      · exact SeqAt.EqAt.int_int i t1 j t3
      · exact SeqAt.EqAt.str_str x t2 y t4)
    (fun n h1 h2 _ => by
      have hn : n = 0 ∨ n = 1 := by
        have : n < 2 := h1
        omega
      rcases hn with rfl | rfl
      · exact Ob.RcOp.lt_int i j t1 t3
      · exact fun _ _ _ _ h => PySem.P.lt_str h)
  refine R _ _ _ _ ⟨.bl (ltIS i x j y), H, I, ?_, q⟩
  show Value.bool _ = Value.bool _
  congr 1
  show (if (i == j) = true then (if (x == y) = true then decide ((2 : Nat) < 2) else decide (x.cps.toList < y.cps.toList)) else decide (i < j)) = ltIS i x j y
  unfold ltIS
  by_cases h : i = j
  · rw [if_pos (beq_iff_eq.mpr h), if_pos h]
    by_cases h2 : x = y
    · rw [if_pos (beq_iff_eq.mpr h2), if_pos h2]
      rfl
    · rw [if_neg (fun z => h2 (beq_iff_eq.mp z)), if_neg h2]
  · rw [if_neg (fun z => h (beq_iff_eq.mp z)), if_neg h]
end Ink
namespace Ink
open PySem PySem.Spec PyProof.Rows L2
section
variable {P : Program} {w : World} {K : PySem.W.Frag} {mg : Str → Option Value} {base : Heap}
theorem ok_is_sign {f : Addr} {fd : FuncData} {k : Nat} (F : Fun K "is_sign" "is_sign" sIsSign f fd) (T : Txt mg) : FnOk P w K mg base CX0 (k + 1) f fd ["text"] spSign := by
  refine F.ok sc_is_sign (fun vs H Q E h => ?_) (fun cdv A outer s H vs Q E hr h => ?_)
  · obtain ⟨z, rfl, _⟩ := h
    rfl
  · obtain ⟨z, rfl, hz, q⟩ := h
    refine ⟨_, (pss_one (ps_ret (pe_and (pe_cmpR op_eq (pe_callB call_len_str (by rfl) T.m_len PySem.boot_len (pa_cons (pv 0) pa_nil)) pe_int (nomark _)) (pe_one (pe_chain op_le_str op_le_str pe_str (pv 0) pe_str))))), ?_⟩
    refine (Evl.ev_andV (Evl.ev_op (ev_lenS (Evl.ev_var rfl) (by omega)) Evl.ev_c (Evl.rv_eq rfl)) fun _ => ev_chainS (f := fun x y => !decide (y.cps.toList < x.cps.toList)) (g := fun x y => !decide (y.cps.toList < x.cps.toList)) (fun x y H Q h => ⟨x, y, rfl, rfl, h⟩) (fun x y H Q h => ⟨x, y, rfl, rfl, h⟩) Evl.ev_c (Evl.ev_var rfl) Evl.ev_c) H (Same.refl H) _ fun H2 e2 => q H2 e2
theorem ok_is_name {f : Addr} {fd : FuncData} {k : Nat} (F : Fun K "is_name" "is_name" sIsName f fd) (T : Txt mg) (C_is_sign : Cal P w K mg base k "is_sign" ["text"] spSign) : FnOk P w K mg base CX0 (k + 1) f fd ["text"] spName := by
  refine F.ok sc_is_name (fun vs H Q E h => ?_) (fun cdv A outer s H vs Q E hr h => ?_)
  · obtain ⟨z, rfl, _⟩ := h
    rfl
  · obtain ⟨z, rfl, hz, q⟩ := h
    refine ⟨_, (pss_one (ps_ret (pe_and (pe_chain op_le op_le pe_int (pe_callB call_len_str (by rfl) T.m_len PySem.boot_len (pa_cons (pv 0) pa_nil)) (pe_globI (by rfl) T.e__MOST_LETTERS)) (pe_one (pe_callB (cr_all rfl) (by rfl) T.m_all (by decide +kernel) (pa_cons (pe_lc (own := [("letter", 1)]) (g := (gName 1)) (by rfl) sc_is_name.nd (pi_str (pv 0)) (blkOk_by (own := [("letter", 1)]) (N := ["text", "letter"]) (sc := defScope sIsName) (by decide +kernel)) (fun _ _ _ _ _ => (pg_name (i := 1) sc_is_name.nd rfl (Or.inl rfl))) (fun _ _ _ _ _ => pts_nil) (fun _ _ _ _ _ => (pe_callC C_is_sign hr (by rfl) (pa_cons (pv 1) pa_nil)))) pa_nil)))))), ?_⟩
    refine (Evl.ev_andV (ev_chainI (f := fun i j => decide (i ≤ j)) (g := fun i j => decide (i ≤ j)) Evl.ev_c (ev_lenS (Evl.ev_var rfl) (by omega)) Evl.ev_c) fun _ => ev_all (bs := z.cps.toList.map fun c => isSign ⟨#[c]⟩) ?_) H (Same.refl H) _ fun H2 e2 => q H2 e2
    rw [← bls_eq]
    refine el_lcS _ (Evl.ev_var rfl) (by omega) (fun _ => rfl) (fun c H1 e1 _ => ?_)
    exact ev_call (Evl.ea_cons (Evl.ev_var rfl) Evl.ea_nil) fun H2 Q2 _ q2 => ⟨_, rfl, by show 1 ≤ 1000; decide, q2⟩
end
end Ink
namespace Ink
open PySem PySem.Spec PyProof.Rows L2
def within (n m : Int) : Bool := decide (0 ≤ n) && decide (n ≤ m)
def okA (x : Arw) : Bool := within x.1 2 && (isSign x.2.1 && within x.2.2 2)
def ltAt (ar : List Arw) (k : Nat) : Bool := match ar[k]?, ar[k + 1]? with
  | some x, some y => ltIS x.1 x.2.1 y.1 y.2.1
  | _, _ => true
def riseB (ar : List Arw) : Bool := ((List.range (ar.length - 1)).map (ltAt ar)).all id
def areArr (ar : List Arw) : Bool := if (9 : Int) < (ar.length : Nat) then false else if (ar.map okA).all id = false then false else riseB ar
def isWr (z : Str) (ar : List Arw) (p c : Int) : Bool := isName z && (areArr ar && (within p 3 && within c 3))
/-- texts of arrows are short -/
def ShortA (ar : List Arw) : Prop := ar.length ≤ 1000 ∧ ∀ x ∈ ar, x.2.1.length ≤ 1000
def spCount : Sp := fun vs H Q _ => ∃ n : Int, vs = [.int n] ∧ ∀ H', Same H H' → Q (.bl (within n 3)) H'
def spPlace : Sp := fun vs H Q _ => ∃ n : Int, vs = [.int n] ∧ ∀ H', Same H H' → Q (.bl (within n 2)) H'
def spAre : Sp := fun vs H Q _ => ∃ (t : Addr) (ps : List Addr) (ar : List Arw), vs = [.ref t] ∧ H t = some (.tup (ps.map V.ref)) ∧ ArsAt H ps ar ∧ ShortA ar ∧ ∀ H', Same H H' → Q (.bl (areArr ar)) H'
/-- of any tuple: of four things a text, arrows, two numbers -/
def spIsWriter (g : Str → List Arw → Int → Int → Bool) : Sp := fun vs H Q _ => ∃ (t : Addr) (xs : List V), vs = [.ref t] ∧ H t = some (.tup xs) ∧ ((xs.length ≠ 4 ∧ ∀ H', Same H H' → Q (.bl false) H') ∨
  ∃ z tp ps ar p c, xs = [.str z, .ref tp, .int p, .int c] ∧ H tp = some (.tup (ps.map V.ref)) ∧ ArsAt H ps ar ∧ ShortA ar ∧ z.length ≤ 1000 ∧ ∀ H', Same H H' → Q (.bl (g z ar p c)) H')
theorem ArsAt.get {H : Hp} : ∀ {ps : List Addr} {ar : List Arw} {i : Nat} {p : Addr}, ArsAt H ps ar → ps[i]? = some p → ∃ x, ar[i]? = some x ∧ ArwAt H p x
  | _, _, _, _, .nil, h => by simp at h
  | _, _, 0, _, .cons r _, h => by
    have e := Option.some.inj h
    subst e
    exact ⟨_, rfl, r⟩
  | _, _, i + 1, p, .cons _ t, h => ArsAt.get (i := i) t h
theorem refs_at {ps : List Addr} {i : Nat} {v : V} (h : (ps.map V.ref)[i]? = some v) : ∃ p, ps[i]? = some p ∧ v = .ref p := by
  rw [List.getElem?_map] at h
  cases e : ps[i]? with
  | none =>
    rw [e] at h
    cases h
  | some p =>
    rw [e] at h
    exact ⟨p, rfl, (Option.some.inj h).symm⟩
theorem go_next {D : Ends} {σ : L2.St} {H : Hp} (h : D.nx σ H) : tNext D σ H := h
section
open Evl
/-- a comprehension over a tuple that stands, its items reckoned by their places -/
theorem el_lcT {K : PySem.W.Frag} {σ : L2.St} {H : Hp} {a : Addr} {xs : List V} {tl te : TE} {g : TG} {vs : List Nat} (f : Nat → V) (σf : Nat → L2.St) (h : Ev tl σ H (.ref a)) (hx : SqT K H a xs) (hz : xs.length ≤ 40000)
    (hg : ∀ i x H1, Ex H H1 → xs[i]? = some x → ∀ Q : L2.St → Hp → Prop, Q (σf i) H1 → g x (wipe σ vs) H1 Q) (hw : ∀ i, i < xs.length → wipe (σf i) vs = wipe σ vs)
    (he : ∀ i H1, Ex H H1 → i < xs.length → Ev te (σf i) H1 (f i)) : EvL (tLc (iTup K tl) g tYes te vs) σ H ((List.range xs.length).map f) := fun H0 e Q q => h H0 e _ fun H1 e1 => ⟨a, rfl, ⟨xs, ex_t (e.trans e1) hx⟩, fun D nD =>
  lc_it (walk_tup (xs := xs)) (fun i H' => Ex H1 H' ∧ H' D = some (.lst ((List.range i).map f))) ⟨Ex.new nD, upd_same⟩ (fun i H' _ hP => ex_t ((e.trans e1).trans hP.1) hx) (fun i v H2 H3 hi hP hy => by
    obtain ⟨rfl, hv⟩ := hy
    obtain ⟨s2, e2⟩ := hP
    refine hg i v H3 ((e.trans e1).trans s2) hv _ ⟨hw i hi, yes_of (iteT ?_)⟩
    refine he i H3 ((e.trans e1).trans s2) hi H3 (Ex.refl H3) _ fun H4 e4 => ⟨_, e4 _ _ e2, ?_, Ex.mut (s2.trans e4) nD, ?_⟩
    · rw [List.length_map, List.length_range]
      exact small_lt (by omega)
    · rw [upd_same, List.range_succ, List.map_append]
      rfl) (fun H' hP => q D H' (fresh_back e1 nD) (e1.trans hP.1) hP.2)⟩
end
theorem range_map {α : Type} (ar : List α) (f : α → Bool) (g : Nat → Bool) (h : ∀ i x, ar[i]? = some x → g i = f x) : (List.range ar.length).map g = ar.map f := by
  refine List.ext_getElem? fun i => ?_
  rw [List.getElem?_map, List.getElem?_map]
  by_cases hi : i < ar.length
  · rw [List.getElem?_range hi, List.getElem?_eq_getElem hi]
    exact congrArg some (h i _ (List.getElem?_eq_getElem hi))
  · rw [List.getElem?_eq_none (by rw [List.length_range]; omega), List.getElem?_eq_none (by omega)]
    rfl
section
variable {P : Program} {w : World} {K : PySem.W.Frag} {mg : Str → Option Value} {base : Heap}
theorem ok_count {f : Addr} {fd : FuncData} {k : Nat} (F : Fun K "_is_count" "_is_count" sIsCount f fd) (T : Txt mg) : FnOk P w K mg base CX0 (k + 1) f fd ["number"] spCount := by
  refine F.ok sc__is_count (fun vs H Q E h => ?_) (fun cdv A outer s H vs Q E hr h => ?_)
  · obtain ⟨n, rfl, _⟩ := h
    rfl
  · obtain ⟨n, rfl, q⟩ := h
    exact ⟨_, (pss_one (ps_ret (pe_chain op_le op_le pe_int (pv 0) (pe_globI (by rfl) T.e_MOST_COUNT)))), Evl.s_ret (ev_chainI (f := fun i j => decide (i ≤ j)) (g := fun i j => decide (i ≤ j)) Evl.ev_c (Evl.ev_var (by rfl)) Evl.ev_c) q⟩
theorem ok_place {f : Addr} {fd : FuncData} {k : Nat} (F : Fun K "_is_place" "_is_place" sIsPlace f fd) (T : Txt mg) : FnOk P w K mg base CX0 (k + 1) f fd ["number"] spPlace := by
  refine F.ok sc__is_place (fun vs H Q E h => ?_) (fun cdv A outer s H vs Q E hr h => ?_)
  · obtain ⟨n, rfl, _⟩ := h
    rfl
  · obtain ⟨n, rfl, q⟩ := h
    exact ⟨_, (pss_one (ps_ret (pe_chain op_le op_le pe_int (pv 0) (pe_globI (by rfl) T.e__LAST_PLACE)))), Evl.s_ret (ev_chainI (f := fun i j => decide (i ≤ j)) (g := fun i j => decide (i ≤ j)) Evl.ev_c (Evl.ev_var (by rfl)) Evl.ev_c) q⟩
theorem ok_are {f : Addr} {fd : FuncData} {k : Nat} (F : Fun K "_are_arrows" "_are_arrows" sAreArrows f fd) (T : Txt mg)
    (C__is_place : Cal P w K mg base k "_is_place" ["number"] spPlace) (C_is_sign : Cal P w K mg base k "is_sign" ["text"] spSign) : FnOk P w K mg base CX0 (k + 1) f fd ["arrows"] spAre := by
  refine F.ok sc__are_arrows (fun vs H Q E h => ?_) (fun cdv A outer s H vs Q E hr h => ?_)
  · obtain ⟨t, ps, ar, rfl, _⟩ := h
    rfl
  · obtain ⟨t, ps, ar, rfl, ht, hps, hsh, q⟩ := h
    refine ⟨_, (pss_cons (ps_if (pt_cmpR op_gt (pe_callB call_len (by rfl) T.m_len PySem.boot_len (pa_cons (pv 0) pa_nil)) (pe_globI (by rfl) T.e_MOST_ARROWS) (nomark _))
    (pss_one (ps_ret pe_bl)) pss_nil)
    (pss_cons (ps_if (pt_not (pt_val (pe_callB (cr_all rfl) (by rfl) T.m_all (by decide +kernel) (pa_cons (pe_lc (own := [("place", 2), ("sign", 3), ("to", 4)]) (g := (gTup K 3 (gCons (gName 2) (gCons (gName 3) (gCons (gName 4) gNil))))) (by rfl) sc__are_arrows.nd (pi_tup (pv 0)) (blkOk_by (own := [("place", 2), ("sign", 3), ("to", 4)]) (N := ["arrows", "heads", "place", "sign", "to", "_", "head", "following"]) (sc := defScope sAreArrows) (by decide +kernel)) (fun _ _ _ _ _ => (pg_tup rfl (pgs_cons (pg_name (i := 2) sc__are_arrows.nd rfl (.inl rfl)) (pgs_cons (pg_name (i := 3) sc__are_arrows.nd rfl (.inl rfl)) (pgs_cons (pg_name (i := 4) sc__are_arrows.nd rfl (.inl rfl)) pgs_nil))))) (fun _ _ _ _ _ => pts_nil) (fun _ _ _ _ _ => (pe_and (pe_callC C__is_place hr (by rfl) (pa_cons (pv 2) pa_nil)) (pe_and (pe_callC C_is_sign hr (by rfl) (pa_cons (pv 3) pa_nil)) (pe_one (pe_callC C__is_place hr (by rfl) (pa_cons (pv 4) pa_nil))))))) pa_nil))))
    (pss_one (ps_ret pe_bl)) pss_nil)
    (pss_cons (ps_setLc (i := 1) (own := [("place", 2), ("sign", 3), ("_", 5)]) (g := (gTup K 3 (gCons (gName 2) (gCons (gName 3) (gCons (gName 5) gNil))))) (by rfl) sc__are_arrows.nd rfl rfl (sw_true rfl rfl rfl (by decide +kernel)) (pi_tup (pv 0)) (blkOk_by (own := [("place", 2), ("sign", 3), ("_", 5)]) (N := ["arrows", "heads", "place", "sign", "to", "_", "head", "following"]) (sc := defScope sAreArrows) (by decide +kernel)) (fun _ _ _ _ _ => (pg_tup rfl (pgs_cons (pg_name (i := 2) sc__are_arrows.nd rfl (.inl rfl)) (pgs_cons (pg_name (i := 3) sc__are_arrows.nd rfl (.inl rfl)) (pgs_cons (pg_name (i := 5) sc__are_arrows.nd rfl (.inl rfl)) pgs_nil))))) (fun _ _ _ _ _ => pts_nil) (fun _ _ _ _ _ => (pe_tup (pa_cons (pv 2) (pa_cons (pv 3) pa_nil)))))
    (pss_one (ps_ret (pe_callB (cr_all rfl) (by rfl) T.m_all (by decide +kernel) (pa_cons (pe_lc (own := [("head", 6), ("following", 7)]) (g := (gTup K 2 (gCons (gName 6) (gCons (gName 7) gNil)))) (by rfl) sc__are_arrows.nd (pi_zip (by rfl) T.m_zip (pa_cons (pv 1) (pa_cons (pe_slice sl_list (pv 1) (po_some pe_int) po_none) pa_nil))) (blkOk_by (own := [("head", 6), ("following", 7)]) (N := ["arrows", "heads", "place", "sign", "to", "_", "head", "following"]) (sc := defScope sAreArrows) (by decide +kernel)) (fun _ _ _ _ _ => (pg_tup rfl (pgs_cons (pg_name (i := 6) sc__are_arrows.nd rfl (.inl rfl)) (pgs_cons (pg_name (i := 7) sc__are_arrows.nd rfl (.inl rfl)) pgs_nil)))) (fun _ _ _ _ _ => pts_nil) (fun _ _ _ _ _ => (pe_cmpR (show OpR _ _ (rLtIS K) from op_ltIS hr.units0) (pv 6) (pv 7) (nomark _)))) pa_nil))))))), ?_⟩
    have elen : ps.length = ar.length := Paired.length hps
    refine ⟨.ref t, rfl, .ref t, _, rfl, .inr ⟨_, .of ht, rfl⟩, _, _, rfl, rfl, _, rfl, ite2 (fun e => ?_) (fun e => ?_)⟩
    · have e : (9 : Int) < (((ps.map V.ref).length : Nat) : Int) := of_decide_eq_true e
      rw [List.length_map, elen] at e
      have h := q H (Same.refl H)
      unfold areArr at h
      rw [if_pos e] at h
      exact h
    · have e : ¬ (9 : Int) < (((ps.map V.ref).length : Nat) : Int) := fun h => e (decide_eq_true h)
      rw [List.length_map, elen] at e
      -- all([..])
      refine go_next ?_
      dsimp only
      refine Evl.q_when (b := !(ar.map okA).all id) (Evl.et_not (Evl.et_B (ev_all (bs := ar.map okA) ?_))) (fun hb H1 e1 => ?_) (fun hb H1 e1 => ?_)
      · rw [← range_map ar okA (fun i => match ar[i]? with | some x => okA x | none => true) (fun i x h => by rw [h]), ← elen, show ps.length = (ps.map V.ref).length from (List.length_map _).symm, ← bls_eq]
        refine el_lcT (a := t) (xs := ps.map V.ref) _ (fun i => match ar[i]? with | some x => [some (.ref t), none, some (.int x.1), some (.str x.2.1), some (.int x.2.2), none, none, none] | none => []) (Evl.ev_var (by rfl)) (.of ht) (by rw [List.length_map, elen]; have := hsh.1; omega) (fun i v H1 e1 hv Q2 q2 => ?_) (fun i hi => ?_) (fun i H1 e1 hi => ?_)
        · obtain ⟨p, hp, rfl⟩ := refs_at hv
          obtain ⟨x, hx, hpx⟩ := hps.get hp
          rw [hx] at q2
          exact ⟨p, _, rfl, .of (e1 _ _ hpx), rfl, _, _, rfl, _, _, rfl, _, _, rfl, rfl, q2⟩
        · rw [List.length_map, elen] at hi
          rw [List.getElem?_eq_getElem hi]
          rfl
        · rw [List.length_map, elen] at hi
          have hm := List.getElem_mem hi
          rw [List.getElem?_eq_getElem hi]
          generalize ar[i] = x at hm
          refine Evl.ev_andV (ev_call (Evl.ea_cons (Evl.ev_var (by rfl)) Evl.ea_nil) fun H2 Q2 _ q2 => ⟨_, rfl, q2⟩) fun _ => Evl.ev_andV (ev_call (Evl.ea_cons (Evl.ev_var (by rfl)) Evl.ea_nil) fun H2 Q2 _ q2 => ⟨_, rfl, hsh.2 x hm, q2⟩) fun _ => ev_call (Evl.ea_cons (Evl.ev_var (by rfl)) Evl.ea_nil) fun H2 Q2 _ q2 => ⟨_, rfl, q2⟩
      · have h := q H1 e1
        unfold areArr at h
        have hb2 : (ar.map okA).all id = false := by
          cases h : (ar.map okA).all id with
          | false => rfl
          | true =>
            rw [h] at hb
            cases hb
        rw [if_neg e, if_pos hb2] at h
        exact h
      · have hb2 : ¬ (ar.map okA).all id = false := fun h => by
          rw [h] at hb
          cases hb
        have hq : ∀ H', Same H1 H' → Q (.bl (riseB ar)) H' := fun H' s' => by
          have h := q H' (Same.trans e1 s')
          unfold areArr at h
          rw [if_neg e, if_neg hb2] at h
          exact h
        have ht1 := e1 _ _ ht
        have hps1 := hps.same e1
        -- heads
        refine ⟨.ref t, rfl, t, rfl, ⟨_, .of ht1⟩, fun D nD => ?_⟩
        refine lc_it (walk_tup (xs := ps.map V.ref)) (fun i H' => Same H1 H' ∧ ∃ qs : List Addr, H' D = some (.lst (qs.map V.ref)) ∧ qs.length = i ∧ ∀ j p, qs[j]? = some p → ∃ x : Arw, ar[j]? = some x ∧ H' p = some (.tup [.int x.1, .str x.2.1])) ⟨same_new nD, [], upd_same, rfl, fun j p h => by rw [List.getElem?_nil] at h; cases h⟩ (fun i H' _ hP => .of (hP.1 _ _ ht1)) (fun i v H2 H3 hi hP hy => ?_) (fun H2 hP => ?_)
        · obtain ⟨rfl, hv⟩ := hy
          obtain ⟨s2, qs, eD, rfl, hq2⟩ := hP
          obtain ⟨p, hp, rfl⟩ := refs_at hv
          obtain ⟨x, hx, hpx⟩ := hps1.get hp
          refine ⟨p, _, rfl, .of (s2 _ _ hpx), rfl, _, _, rfl, _, _, rfl, _, _, rfl, rfl, rfl, yes_of (iteT ?_)⟩
          refine ⟨_, rfl, _, rfl, by show 2 ≤ sizeLine; decide, fun p' np' => ⟨_, same_new np' _ _ eD, ?_, same_mut (s2.trans (same_new np')) nD, qs ++ [p'], ?_, ?_, fun j p2 hj => ?_⟩⟩
          · rw [List.length_map]
            rw [List.length_map, elen] at hi
            have := hsh.1
            exact small_lt (by omega)
          · rw [upd_same, List.map_append]
            rfl
          · rw [List.length_append]
            rfl
          · have nDp : ∀ p3 xs', H3 p3 = some (.tup xs') → p3 ≠ D := fun p3 xs' h3 => ne_of h3 eD (by intro z; cases z)
            by_cases hjl : j < qs.length
            · rw [List.getElem?_append_left hjl] at hj
              obtain ⟨y, hy1, hy2⟩ := hq2 j p2 hj
              exact ⟨y, hy1, by rw [upd_ne (nDp _ _ hy2)]; exact same_new np' _ _ hy2⟩
            · have hlt := (List.getElem?_eq_some_iff.mp hj).1
              rw [List.length_append, List.length_singleton] at hlt
              have ej : j = qs.length := by omega
              subst ej
              rw [List.getElem?_append_right (Nat.le_refl _), Nat.sub_self] at hj
              have hj := Option.some.inj hj
              subst hj
              exact ⟨x, hx, by rw [upd_ne (ne_of_none eD np').symm, upd_same]⟩
        · obtain ⟨s2, qs, eD, eq, hq2⟩ := hP
          rw [List.length_map, elen] at eq
          -- zip(heads, heads[1:])
          have hcut : cutV (qs.map V.ref) (some 1) none = (qs.drop 1).map V.ref := by
            unfold cutV
            rw [show HT.sIx (qs.map V.ref).length 0 (some 1) = min 1 (qs.map V.ref).length from HT.sIx_nat _ 0 1, HT.sIx_none, List.length_map]
            cases qs with
            | nil => rfl
            | cons x r =>
              rw [show min 1 (x :: r).length = 1 by rw [List.length_cons]; omega]
              show List.take ((x :: r).length - 1) (r.map V.ref) = r.map V.ref
              exact List.take_of_length_le (by rw [List.length_map, List.length_cons]; omega)
          refine ⟨.ref D, rfl, .ref D, rfl, 1, rfl, D, _, rfl, .of eD, fun c nc => ?_⟩
          rw [hcut]
          have s3 := same_new (o := .lst ((qs.drop 1).map V.ref)) nc
          refine ⟨D, c, _, _, rfl, .of (s3 _ _ eD), .of upd_same, fun E' nE => ?_⟩
          have fin : ∀ H', Same H2 H' → H' E' = some (.lst ((((List.range (ar.length - 1)).map (ltAt ar))).map V.bl)) → rAll K [.ref E'] H' Q := fun H' s' h' => ⟨E', _, rfl, .of h', hq H' (s2.trans s')⟩
          have eD3 := s3 _ _ eD
          have eC3 : (upd H2 c (.lst ((qs.drop 1).map V.ref))) c = some (.lst ((qs.drop 1).map V.ref)) := upd_same
          have hn : ar.length - 1 = min (qs.map V.ref).length ((qs.drop 1).map V.ref).length := by
            rw [List.length_map, List.length_map, List.length_drop]
            omega
          refine lc_it (walk_zip (xs := qs.map V.ref) (ys := (qs.drop 1).map V.ref) hn) (fun i H' => Same (upd H2 c (.lst ((qs.drop 1).map V.ref))) H' ∧ H' E' = some (.lst (((List.range i).map (ltAt ar)).map V.bl))) ⟨same_new nE, upd_same⟩ (fun i H' _ hP => ⟨.of (hP.1 _ _ eD3), .of (hP.1 _ _ eC3)⟩) (fun i v H4 H5 hi hP hy => ?_) (fun H' hP => fin H' (s3.trans hP.1) hP.2)
          obtain ⟨T', x, y, rfl, nT, rfl, hx, hy⟩ := hy
          obtain ⟨s4, e4⟩ := hP
          obtain ⟨p, hp, rfl⟩ := refs_at hx
          obtain ⟨p', hp', rfl⟩ := refs_at hy
          rw [List.getElem?_drop, Nat.add_comm] at hp'
          obtain ⟨x1, hx1, hx2⟩ := hq2 _ _ hp
          obtain ⟨y1, hy1, hy2⟩ := hq2 _ _ hp'
          have e5 : ltIS x1.1 x1.2.1 y1.1 y1.2.1 = ltAt ar i := by
            unfold ltAt
            rw [hx1, hy1]
          refine ⟨T', _, rfl, .of upd_same, rfl, _, _, rfl, _, _, rfl, rfl, rfl, yes_of (iteT ?_)⟩
          refine ⟨.ref p, rfl, .ref p', rfl, p, p', x1.1, x1.2.1, y1.1, y1.2.1, rfl, rfl, .of (same_new nT _ _ (s4 _ _ (s3 _ _ hx2))), .of (same_new nT _ _ (s4 _ _ (s3 _ _ hy2))), _, same_new nT _ _ e4, ?_, same_mut (s4.trans (same_new nT)) nE, ?_⟩
          · rw [List.length_map, List.length_map, List.length_range]
            have := hsh.1
            exact small_lt (by omega)
          · rw [upd_same, List.range_succ, List.map_append, List.map_append, e5]
            rfl
theorem ok_is_writer {f : Addr} {fd : FuncData} {k : Nat} (F : Fun K "is_writer" "is_writer" sIsWriter f fd) (T : Txt mg) (C_is_name : Cal P w K mg base k "is_name" ["text"] spName)
    (C__are_arrows : Cal P w K mg base k "_are_arrows" ["arrows"] spAre) (C__is_count : Cal P w K mg base k "_is_count" ["number"] spCount) : FnOk P w K mg base CX0 (k + 1) f fd ["thing"] (spIsWriter isWr) := by
  refine F.ok sc_is_writer (fun vs H Q E h => ?_) (fun cdv A outer s H vs Q E hr h => ?_)
  · obtain ⟨t, xs, rfl, _⟩ := h
    rfl
  · obtain ⟨t, xs, rfl, ht, h⟩ := h
    refine ⟨_, (pss_cons (ps_if (pt_cmpR op_ne (pe_callB call_len (by rfl) T.m_len PySem.boot_len (pa_cons (pv 0) pa_nil)) pe_int (nomark _))
    (pss_one (ps_ret pe_bl)) pss_nil)
    (pss_cons (ps_asg (pv 0) (pg_tup rfl (pgs_cons (pg_name (i := 1) sc_is_writer.nd rfl (.inl rfl)) (pgs_cons (pg_name (i := 2) sc_is_writer.nd rfl (.inl rfl)) (pgs_cons (pg_name (i := 3) sc_is_writer.nd rfl (.inl rfl)) (pgs_cons (pg_name (i := 4) sc_is_writer.nd rfl (.inl rfl)) pgs_nil))))))
    (pss_one (ps_ret (pe_and (pe_callC C_is_name hr (by rfl) (pa_cons (pv 1) pa_nil)) (pe_and (pe_callC C__are_arrows hr (by rfl) (pa_cons (pv 2) pa_nil)) (pe_and (pe_callC C__is_count hr (by rfl) (pa_cons (pv 3) pa_nil)) (pe_one (pe_callC C__is_count hr (by rfl) (pa_cons (pv 4) pa_nil)))))))))), ?_⟩
    refine ⟨.ref t, rfl, .ref t, _, rfl, .inr ⟨_, .of ht, rfl⟩, rfl, _, rfl, ?_⟩
    rcases h with ⟨hne, q⟩ | ⟨z, tp, ps, ar, p, c, rfl, htp, hps, hsh, hz, q⟩
    · rw [decide_eq_false (show ¬ V.int ((xs.length : Nat) : Int) = V.int 4 from fun e => hne (by injection e with e; omega))]
      exact iteT (q H (Same.refl H))
    · refine iteNS rfl ?_
      refine ⟨.ref t, rfl, t, _, rfl, .of ht, rfl, _, _, rfl, _, _, rfl, _, _, rfl, _, _, rfl, rfl, ?_⟩
      exact Evl.s_ret (Evl.ev_andV (ev_call (Evl.ea_cons (Evl.ev_var (by rfl)) Evl.ea_nil) fun H2 Q2 _ q2 => ⟨_, rfl, hz, q2⟩) fun _ => Evl.ev_andV (ev_call (Evl.ea_cons (Evl.ev_var (by rfl)) Evl.ea_nil) fun H2 Q2 e2 q2 => ⟨_, _, _, rfl, e2 _ _ htp, hps.same e2, hsh, q2⟩) fun _ =>
        Evl.ev_andV (ev_call (Evl.ea_cons (Evl.ev_var (by rfl)) Evl.ea_nil) fun H2 Q2 _ q2 => ⟨_, rfl, q2⟩) fun _ => ev_call (Evl.ea_cons (Evl.ev_var (by rfl)) Evl.ea_nil) fun H2 Q2 _ q2 => ⟨_, rfl, q2⟩) q
end
end Ink
namespace Ink
open PySem PySem.Spec PyProof.Rows L2
/-! ### data as a reading gives it: None, bools, numbers, texts, tuples and lists of such -/
mutual
theorem dp_up {K : PySem.W.Frag} {H H' : Hp} (hl : ∀ b xs, SqL K H b xs → SqL K H' b xs) (ht : ∀ b xs, SqT K H b xs → SqT K H' b xs) : ∀ (d : PyData) (v : V), Dp K H v d → Dp K H' v d
  | .none, _, h => by cases h; exact .non
  | .bool b, _, h => by cases h; exact .bl b
  | .int i, _, h => by cases h; exact .int i
  | .str x, _, h => by cases h; exact .str x
  | .list ds, _, h => by
    cases h with
    | lst hs ha => exact .lst (hl _ _ hs) (dps_up hl ht ds _ ha)
  | .tuple ds, _, h => by
    cases h with
    | tup hs ha => exact .tup (ht _ _ hs) (dps_up hl ht ds _ ha)
  | .dict _, _, h => by cases h
theorem dps_up {K : PySem.W.Frag} {H H' : Hp} (hl : ∀ b xs, SqL K H b xs → SqL K H' b xs) (ht : ∀ b xs, SqT K H b xs → SqT K H' b xs) : ∀ (ds : List PyData) (vs : List V), DpAll K H vs ds → DpAll K H' vs ds
  | [], _, h => by cases h; exact .nil
  | d :: ds, _, h => by
    cases h with
    | cons h1 h2 => exact .cons (dp_up hl ht d _ h1) (dps_up hl ht ds _ h2)
end
mutual
/-- no list in it: it never changes -/
def fz : PyData → Bool
  | .list _ => false
  | .tuple ds => fzAll ds
  | .dict _ => false
  | .none => true
  | .bool _ => true
  | .int _ => true
  | .str _ => true
def fzAll : List PyData → Bool
  | [] => true
  | d :: ds => fz d && fzAll ds
end
mutual
theorem dp_fz {K : PySem.W.Frag} {H H' : Hp} (ht : ∀ b xs, SqT K H b xs → SqT K H' b xs) : ∀ (d : PyData) (v : V), fz d = true → Dp K H v d → Dp K H' v d
  | .none, _, _, h => by cases h; exact .non
  | .bool b, _, _, h => by cases h; exact .bl b
  | .int i, _, _, h => by cases h; exact .int i
  | .str x, _, _, h => by cases h; exact .str x
  | .list _, _, f, _ => by
    unfold fz at f
    cases f
  | .tuple ds, _, f, h => by
    cases h with
    | tup hs ha => exact .tup (ht _ _ hs) (dps_fz ht ds _ (by unfold fz at f; exact f) ha)
  | .dict _, _, _, h => by cases h
theorem dps_fz {K : PySem.W.Frag} {H H' : Hp} (ht : ∀ b xs, SqT K H b xs → SqT K H' b xs) : ∀ (ds : List PyData) (vs : List V), fzAll ds = true → DpAll K H vs ds → DpAll K H' vs ds
  | [], _, _, h => by cases h; exact .nil
  | d :: ds, _, f, h => by
    unfold fzAll at f
    rw [Bool.and_eq_true] at f
    cases h with
    | cons h1 h2 => exact .cons (dp_fz ht d _ f.1 h1) (dps_fz ht ds _ f.2 h2)
end
theorem fzAll_iff : ∀ {ds : List PyData}, fzAll ds = true ↔ ∀ d ∈ ds, fz d = true
  | [] => by unfold fzAll; exact ⟨fun _ _ h => (by cases h), fun _ => rfl⟩
  | d :: ds => by
    unfold fzAll
    rw [Bool.and_eq_true, fzAll_iff]
    exact ⟨fun h e he => (List.mem_cons.mp he).elim (fun z => z ▸ h.1) (h.2 e), fun h => ⟨h d (List.mem_cons_self ..), fun e he => h e (List.mem_cons_of_mem _ he)⟩⟩
theorem fz_map {α : Type} {e : α → PyData} {xs : List α} (h : ∀ x ∈ xs, fz (e x) = true) : fzAll (xs.map e) = true := fzAll_iff.mpr fun d hd => by
  obtain ⟨x, hx, rfl⟩ := List.mem_map.mp hd
  exact h x hx
section
variable {K : PySem.W.Frag} {H H' : Hp} {v : V} {d : PyData} {vs : List V} {ds : List PyData}
theorem dp_same (e : Evl.Ex H H') (h : Dp K H v d) : Dp K H' v d := dp_up (fun _ _ => Evl.ex_l e) (fun _ _ => Evl.ex_t e) d v h
theorem dps_same (e : Evl.Ex H H') (h : DpAll K H vs ds) : DpAll K H' vs ds := dps_up (fun _ _ => Evl.ex_l e) (fun _ _ => Evl.ex_t e) ds vs h
/-- what is drawn from the bag leaves the tuples -/
theorem keep_t {a l : Addr} (b : BagAt H a l) (k : Keep a H H') : ∀ c xs, SqT K H c xs → SqT K H' c xs := fun c xs h => by
  obtain ⟨ns, p, q, s, h1, _⟩ := b
  rcases h with (h | ⟨o, h⟩) | h
  · exact .inl (.inl (k c _ (fun z => by rw [z, h1] at h; cases h) h))
  · exact .inl (.inr ⟨o, k c _ (fun z => by rw [z, h1] at h; cases h) h⟩)
  · exact .inr h
theorem dp_keep {a l : Addr} (b : BagAt H a l) (k : Keep a H H') (f : fz d = true) (h : Dp K H v d) : Dp K H' v d := dp_fz (keep_t b k) d v f h
theorem dps_keep {a l : Addr} (b : BagAt H a l) (k : Keep a H H') (f : fzAll ds = true) (h : DpAll K H vs ds) : DpAll K H' vs ds := dps_fz (keep_t b k) ds vs f h
end
end Ink
namespace L2
open PySem PySem.Spec PyProof.Rows
section
variable {K : PySem.W.Frag} {H H' : Hp} {v : V} {d : PyData} {vs : List V} {ds : List PyData}
theorem DpAll.length : ∀ {vs : List V} {ds : List PyData}, DpAll K H vs ds → vs.length = ds.length
  | _, _, .nil => rfl
  | _, _, .cons _ t => by rw [List.length_cons, List.length_cons, DpAll.length t]
theorem DpAll.get : ∀ {vs : List V} {ds : List PyData} {i : Nat} {d : PyData}, DpAll K H vs ds → ds[i]? = some d → ∃ v, vs[i]? = some v ∧ Dp K H v d
  | _, _, 0, d, .cons h _, e => ⟨_, rfl, by rw [← Option.some.inj e]; exact h⟩
  | _, _, i + 1, d, .cons _ t, e => DpAll.get (i := i) t e
theorem DpAll.at : ∀ {vs : List V} {ds : List PyData} {i : Nat} {v : V}, DpAll K H vs ds → vs[i]? = some v → ∃ d, ds[i]? = some d ∧ Dp K H v d
  | _, _, 0, v, .cons h _, e => ⟨_, rfl, by rw [← Option.some.inj e]; exact h⟩
  | _, _, i + 1, v, .cons _ t, e => DpAll.at (i := i) t e
theorem DpAll.app : ∀ {vs ws : List V} {ds es : List PyData}, DpAll K H vs ds → DpAll K H ws es → DpAll K H (vs ++ ws) (ds ++ es)
  | _, _, _, _, .nil, h => h
  | _, _, _, _, .cons h t, h2 => .cons h (t.app h2)
theorem DpAll.one (h : Dp K H v d) : DpAll K H [v] [d] := .cons h .nil
theorem DpAll.take : ∀ {vs : List V} {ds : List PyData} (n : Nat), DpAll K H vs ds → DpAll K H (vs.take n) (ds.take n)
  | _, _, 0, _ => .nil
  | _, _, _ + 1, .nil => .nil
  | _, _, n + 1, .cons h t => .cons h (t.take n)
theorem DpAll.drop : ∀ {vs : List V} {ds : List PyData} (n : Nat), DpAll K H vs ds → DpAll K H (vs.drop n) (ds.drop n)
  | _, _, 0, h => h
  | _, _, _ + 1, .nil => .nil
  | _, _, n + 1, .cons _ t => t.drop n
theorem DpAll.set : ∀ {vs : List V} {ds : List PyData} (n : Nat), DpAll K H vs ds → Dp K H v d → DpAll K H (vs.set n v) (ds.set n d)
  | _, _, 0, .cons _ t, h => .cons h t
  | _, _, _, .nil, _ => .nil
  | _, _, n + 1, .cons h t, h2 => .cons h (t.set n h2)
end
end L2
namespace Ink
open PySem PySem.Spec PyProof.Rows L2
section
variable {K : PySem.W.Frag} {H H' : Hp} {v : V} {d : PyData} {vs : List V} {ds : List PyData}
theorem dps_ints : ∀ (ns : List Int), DpAll K H (ns.map V.int) (ns.map PyData.int)
  | [] => .nil
  | n :: ns => .cons (.int n) (dps_ints ns)
theorem dp_int {i : Int} (h : Dp K H v (.int i)) : v = .int i := by cases h; rfl
theorem dp_str {z : Str} (h : Dp K H v (.str z)) : v = .str z := by cases h; rfl
theorem dp_bl {b : Bool} (h : Dp K H v (.bool b)) : v = .bl b := by cases h; rfl
theorem dp_non (h : Dp K H v .none) : v = .non := by cases h; rfl
theorem dps_int : ∀ {vs : List V} {ns : List Int}, DpAll K H vs (ns.map PyData.int) → vs = ns.map V.int
  | _, [], h => by cases h; rfl
  | _, n :: ns, h => by
    cases h with
    | cons h t =>
      rw [dp_int h, dps_int t]
      rfl
theorem dp_tup (h : Dp K H v (.tuple ds)) : ∃ p xs, v = .ref p ∧ SqT K H p xs ∧ DpAll K H xs ds := by
  cases h with
  | tup hs ha => exact ⟨_, _, rfl, hs, ha⟩
theorem dp_lst (h : Dp K H v (.list ds)) : ∃ p xs, v = .ref p ∧ SqL K H p xs ∧ DpAll K H xs ds := by
  cases h with
  | lst hs ha => exact ⟨_, _, rfl, hs, ha⟩
theorem dps1 {d1 : PyData} (h : DpAll K H vs [d1]) : ∃ v1, vs = [v1] ∧ Dp K H v1 d1 := by
  cases h with
  | cons h1 t => cases t; exact ⟨_, rfl, h1⟩
theorem dps2 {d1 d2 : PyData} (h : DpAll K H vs [d1, d2]) : ∃ v1 v2, vs = [v1, v2] ∧ Dp K H v1 d1 ∧ Dp K H v2 d2 := by
  cases h with
  | cons h1 t =>
    obtain ⟨v2, rfl, h2⟩ := dps1 t
    exact ⟨_, _, rfl, h1, h2⟩
theorem dps3 {d1 d2 d3 : PyData} (h : DpAll K H vs [d1, d2, d3]) : ∃ v1 v2 v3, vs = [v1, v2, v3] ∧ Dp K H v1 d1 ∧ Dp K H v2 d2 ∧ Dp K H v3 d3 := by
  cases h with
  | cons h1 t =>
    obtain ⟨v2, v3, rfl, h2, h3⟩ := dps2 t
    exact ⟨_, _, _, rfl, h1, h2, h3⟩
theorem dps4 {d1 d2 d3 d4 : PyData} (h : DpAll K H vs [d1, d2, d3, d4]) : ∃ v1 v2 v3 v4, vs = [v1, v2, v3, v4] ∧ Dp K H v1 d1 ∧ Dp K H v2 d2 ∧ Dp K H v3 d3 ∧ Dp K H v4 d4 := by
  cases h with
  | cons h1 t =>
    obtain ⟨v2, v3, v4, rfl, h2, h3, h4⟩ := dps3 t
    exact ⟨_, _, _, _, rfl, h1, h2, h3, h4⟩
end
/-! ### what evaluates to data -/
open Evl
/-- to d, whatever the value -/
def EvD (K : PySem.W.Frag) (te : TE) (σ : L2.St) (H : Hp) (d : PyData) : Prop := ∀ H1, Ex H H1 → ∀ Q : VK, (∀ v H2, Ex H1 H2 → Dp K H2 v d → Q v H2) → te σ H1 Q
def EvDs (K : PySem.W.Frag) (ta : TA) (σ : L2.St) (H : Hp) (ds : List PyData) : Prop := ∀ H1, Ex H H1 → ∀ Q : List V → Hp → Prop, (∀ vs H2, Ex H1 H2 → DpAll K H2 vs ds → Q vs H2) → ta σ H1 Q
/-- to a new list of ds -/
def EvN (K : PySem.W.Frag) (te : TE) (σ : L2.St) (H : Hp) (ds : List PyData) : Prop := ∀ H1, Ex H H1 → ∀ Q : VK, (∀ p vs H2, H1 p = none → Ex H1 H2 → H2 p = some (.lst vs) → DpAll K H2 vs ds → Q (.ref p) H2) → te σ H1 Q
/-- what is walked gives ds -/
def EvI (K : PySem.W.Frag) (ti : TI) (σ : L2.St) (H : Hp) (ds : List PyData) : Prop := ∀ H1, Ex H H1 → ∀ R : It → Hp → Prop, (∀ J H2, Ex H1 H2 → Walk J ds.length (fun H' => Ex H2 H') (fun i Ha x Hb => Ex Ha Hb ∧ ∃ d, ds[i]? = some d ∧ Dp K Hb x d) → R J H2) → ti σ H1 R
section
variable {K : PySem.W.Frag} {σ : L2.St} {H H' : Hp} {ta tb te tc : TE} {t : TT} {d d1 d2 : PyData} {ds es : List PyData} {v : V} {i : Nat}
theorem EvD.mono (e : Ex H H') (h : EvD K te σ H d) : EvD K te σ H' d := fun H1 a Q q => h H1 (e.trans a) Q q
theorem EvN.mono (e : Ex H H') (h : EvN K te σ H ds) : EvN K te σ H' ds := fun H1 a Q q => h H1 (e.trans a) Q q
theorem EvN.list (h : EvN K te σ H ds) : EvD K te σ H (.list ds) := fun H1 e Q q => h H1 e _ fun p vs H2 _ e2 hp hd => q _ H2 e2 (.lst (.of hp) hd)
theorem ed_of (h : Ev te σ H v) (hd : Dp K H v d) : EvD K te σ H d := fun H1 e Q q => h H1 e _ fun H2 e2 => q v H2 e2 (dp_same (e.trans e2) hd)
theorem ev_int {n : Int} (h : EvD K te σ H (.int n)) : Ev te σ H (.int n) := fun H1 e Q q => h H1 e _ fun v H2 e2 hd => by rw [dp_int hd]; exact q H2 e2
theorem ev_str {z : Str} (h : EvD K te σ H (.str z)) : Ev te σ H (.str z) := fun H1 e Q q => h H1 e _ fun v H2 e2 hd => by rw [dp_str hd]; exact q H2 e2
theorem ev_bl {b : Bool} (h : EvD K te σ H (.bool b)) : Ev te σ H (.bl b) := fun H1 e Q q => h H1 e _ fun v H2 e2 hd => by rw [dp_bl hd]; exact q H2 e2
theorem ed_int {n : Int} (h : Ev te σ H (.int n)) : EvD K te σ H (.int n) := ed_of h (.int n)
theorem ed_str {z : Str} (h : Ev te σ H (.str z)) : EvD K te σ H (.str z) := ed_of h (.str z)
theorem ed_bl {b : Bool} (h : Ev te σ H (.bl b)) : EvD K te σ H (.bool b) := ed_of h (.bl b)
theorem ed_non (h : Ev te σ H .non) : EvD K te σ H .none := ed_of h .non
theorem ed_var (h : σ[i]? = some (some v)) (hd : Dp K H v d) : EvD K (tVar i) σ H d := ed_of (ev_var h) hd
theorem ed_is (h : EvD K te σ H d1) (e : d1 = d2) : EvD K te σ H d2 := e ▸ h
theorem eds_nil : EvDs K tNil σ H [] := fun H1 _ _ q => q [] H1 (Ex.refl H1) .nil
theorem eds_cons {tr : TA} (h : EvD K ta σ H d) (hr : EvDs K tr σ H ds) : EvDs K (tCons ta tr) σ H (d :: ds) := fun H1 e _ q =>
  h H1 e _ fun v H2 e2 hd => hr H2 (e.trans e2) _ fun vs H3 e3 hds => q _ H3 (e2.trans e3) (.cons (dp_same e3 hd) hds)
theorem ed_tup {ta : TA} (h : EvDs K ta σ H ds) (hl : ds.length ≤ 100000) : EvD K (tTup ta) σ H (.tuple ds) := fun H1 e Q q =>
  h H1 e _ fun vs H2 e2 hds => ⟨sz_of (by rw [hds.length]; exact hl), fun p hp => q _ _ (e2.trans (Ex.new hp)) (.tup (.of upd_same) (dps_same (Ex.new hp) hds))⟩
theorem en_lst {ta : TA} (h : EvDs K ta σ H ds) (hl : ds.length ≤ 100000) : EvN K (tLst ta) σ H ds := fun H1 e Q q =>
  h H1 e _ fun vs H2 e2 hds => ⟨sz_of (by rw [hds.length]; exact hl), fun p hp => q p vs _ (fresh_back e2 hp) (e2.trans (Ex.new hp)) upd_same (dps_same (Ex.new hp) hds)⟩
theorem ed_ixT {n : Int} (ha : EvD K ta σ H (.tuple ds)) (hb : Ev tb σ H (.int n)) (h0 : 0 ≤ n) (hd : ds[n.toNat]? = some d) : EvD K (tOp (rIxT K) ta tb) σ H d := fun H1 e Q q =>
  ha H1 e _ fun v H2 e2 hv => hb H2 (e.trans e2) _ fun H3 e3 => by
    obtain ⟨p, xs, rfl, hs, hxs⟩ := dp_tup (dp_same e3 hv)
    obtain ⟨x, hx, hxd⟩ := hxs.get hd
    exact ⟨p, xs, n, x, rfl, rfl, hs, atI_of h0 hx, q x H3 (e2.trans e3) hxd⟩
theorem ed_ixL {n : Int} (ha : EvD K ta σ H (.list ds)) (hb : Ev tb σ H (.int n)) (h0 : 0 ≤ n) (hd : ds[n.toNat]? = some d) : EvD K (tOp (rIxL K) ta tb) σ H d := fun H1 e Q q =>
  ha H1 e _ fun v H2 e2 hv => hb H2 (e.trans e2) _ fun H3 e3 => by
    obtain ⟨p, xs, rfl, hs, hxs⟩ := dp_lst (dp_same e3 hv)
    obtain ⟨x, hx, hxd⟩ := hxs.get hd
    exact ⟨p, xs, n, x, rfl, rfl, hs, atI_of h0 hx, q x H3 (e2.trans e3) hxd⟩
theorem ev_eqD (ha : EvD K ta σ H d1) (hb : EvD K tb σ H d2) (h1 : SeqAt.shaped d1 = true) (h2 : SeqAt.shaped d2 = true) : Ev (tOp (rEqD K) ta tb) σ H (.bl (PyData.eqv d1 d2)) := fun H1 e Q q =>
  ha H1 e _ fun v H2 e2 hv => hb H2 (e.trans e2) _ fun w H3 e3 hw => ⟨d1, d2, dp_same e3 hv, hw, h1, h2, q H3 (e2.trans e3)⟩
theorem ev_neD (ha : EvD K ta σ H d1) (hb : EvD K tb σ H d2) (h1 : SeqAt.shaped d1 = true) (h2 : SeqAt.shaped d2 = true) : Ev (tOp (rNeD K) ta tb) σ H (.bl (!PyData.eqv d1 d2)) := fun H1 e Q q =>
  ha H1 e _ fun v H2 e2 hv => hb H2 (e.trans e2) _ fun w H3 e3 hw => ⟨d1, d2, dp_same e3 hv, hw, h1, h2, q H3 (e2.trans e3)⟩
theorem ev_lenD (ha : EvD K ta σ H d) (h : d = .list ds ∨ d = .tuple ds) : Ev (tCB (fun xs H Q => ∃ x n, xs = [x] ∧ LenV K x H n ∧ Q (.int n) H) (tCons ta tNil)) σ H (.int (ds.length : Nat)) := fun H1 e Q q =>
  ha H1 e _ fun v H2 e2 hv => by
    rcases h with rfl | rfl
    · obtain ⟨p, xs, rfl, hs, hxs⟩ := dp_lst hv
      exact ⟨.ref p, _, rfl, .inl ⟨_, hs, rfl⟩, by rw [hxs.length]; exact q H2 e2⟩
    · obtain ⟨p, xs, rfl, hs, hxs⟩ := dp_tup hv
      exact ⟨.ref p, _, rfl, .inr ⟨_, hs, rfl⟩, by rw [hxs.length]; exact q H2 e2⟩
theorem ed_if {b : Bool} (h : EvT t σ H b) (h1 : b = true → EvD K ta σ H d) (h2 : b = false → EvD K tb σ H d) : EvD K (tIf t ta tb) σ H d := fun H1 e Q q => h H1 e _ fun H2 e2 => by
  cases b with
  | true => exact iteT (h1 rfl H2 (e.trans e2) Q fun v H3 e3 => q v H3 (e2.trans e3))
  | false => exact iteF (h2 rfl H2 (e.trans e2) Q fun v H3 e3 => q v H3 (e2.trans e3))
theorem et_yes : EvT tYes σ H true := fun H1 _ Q q => q H1 (Ex.refl H1)
/-- a contract of data alone: what stood stands -/
def spP (K : PySem.W.Frag) (R : List PyData → PyData → Prop) : Sp := fun vs H Q _ => ∃ ds d, DpAll K H vs ds ∧ R ds d ∧ ∀ v H', Same H H' → Dp K H' v d → Q v H'
theorem ed_call {R : List PyData → PyData → Prop} {E : XK} {ta : TA} (h : EvDs K ta σ H ds) (hR : R ds d) : EvD K (tCall (spP K R) [] E ta) σ H d := fun H1 e Q q =>
  h H1 e _ fun vs H2 e2 hds => by
    show spP K R (vs ++ []) H2 Q E
    rw [List.append_nil]
    exact ⟨ds, d, hds, hR, fun v H3 s3 hd => q v H3 (e2.trans s3) hd⟩
/-! ### statements -/
variable {D : Ends} {tu : TS}
theorem sd_asg (h : EvD K te σ H d) (k : ∀ v H1, Ex H H1 → Dp K H1 v d → D.nx (σ.set i (some v)) H1) : tAsg te (gName i) D σ H := h H (Ex.refl H) _ fun v H1 e hd => k v H1 e hd
theorem sd_asgN (h : EvN K te σ H ds) (k : ∀ p vs H1, H p = none → Ex H H1 → H1 p = some (.lst vs) → DpAll K H1 vs ds → D.nx (σ.set i (some (.ref p))) H1) : tAsg te (gName i) D σ H := h H (Ex.refl H) _ fun p vs H1 np e hp hd => k p vs H1 np e hp hd
theorem sd_ret (h : EvD K te σ H d) (k : ∀ v H1, Ex H H1 → Dp K H1 v d → D.rt v H1) : tRet te D σ H := h H (Ex.refl H) _ k
theorem sd_un2 {n1 n2 : Nat} (h : EvD K te σ H (.tuple [d1, d2])) (k : ∀ v1 v2 H1, Ex H H1 → Dp K H1 v1 d1 → Dp K H1 v2 d2 → D.nx ((σ.set n1 (some v1)).set n2 (some v2)) H1) : tAsg te (gTup K 2 (gCons (gName n1) (gCons (gName n2) gNil))) D σ H := h H (Ex.refl H) _ fun v H1 e hd => by
  obtain ⟨p, xs, rfl, hs, hxs⟩ := dp_tup hd
  obtain ⟨v1, v2, rfl, h1, h2⟩ := dps2 hxs
  exact ⟨p, _, rfl, hs, rfl, _, _, rfl, _, _, rfl, rfl, k v1 v2 H1 e h1 h2⟩
theorem sd_un3 {d3 : PyData} {n1 n2 n3 : Nat} (h : EvD K te σ H (.tuple [d1, d2, d3])) (k : ∀ v1 v2 v3 H1, Ex H H1 → Dp K H1 v1 d1 → Dp K H1 v2 d2 → Dp K H1 v3 d3 → D.nx (((σ.set n1 (some v1)).set n2 (some v2)).set n3 (some v3)) H1) : tAsg te (gTup K 3 (gCons (gName n1) (gCons (gName n2) (gCons (gName n3) gNil)))) D σ H := h H (Ex.refl H) _ fun v H1 e hd => by
  obtain ⟨p, xs, rfl, hs, hxs⟩ := dp_tup hd
  obtain ⟨v1, v2, v3, rfl, h1, h2, h3⟩ := dps3 hxs
  exact ⟨p, _, rfl, hs, rfl, _, _, rfl, _, _, rfl, _, _, rfl, rfl, k v1 v2 v3 H1 e h1 h2 h3⟩
theorem sd_un4 {d3 d4 : PyData} {n1 n2 n3 n4 : Nat} (h : EvD K te σ H (.tuple [d1, d2, d3, d4])) (k : ∀ v1 v2 v3 v4 H1, Ex H H1 → Dp K H1 v1 d1 → Dp K H1 v2 d2 → Dp K H1 v3 d3 → Dp K H1 v4 d4 → D.nx ((((σ.set n1 (some v1)).set n2 (some v2)).set n3 (some v3)).set n4 (some v4)) H1) :
    tAsg te (gTup K 4 (gCons (gName n1) (gCons (gName n2) (gCons (gName n3) (gCons (gName n4) gNil))))) D σ H := h H (Ex.refl H) _ fun v H1 e hd => by
  obtain ⟨p, xs, rfl, hs, hxs⟩ := dp_tup hd
  obtain ⟨v1, v2, v3, v4, rfl, h1, h2, h3, h4⟩ := dps4 hxs
  exact ⟨p, _, rfl, hs, rfl, _, _, rfl, _, _, rfl, _, _, rfl, _, _, rfl, rfl, k v1 v2 v3 v4 H1 e h1 h2 h3 h4⟩
/-! ### what is walked -/
theorem ei_tup (h : EvD K te σ H (.tuple ds)) : EvI K (iTup K te) σ H ds := fun H1 e R q => h H1 e _ fun v H2 e2 hd => by
  obtain ⟨p, xs, rfl, hs, hxs⟩ := dp_tup hd
  refine ⟨p, rfl, ⟨xs, hs⟩, q _ H2 e2 ?_⟩
  rw [← hxs.length]
  refine (walk_tup (xs := xs)).mono (fun H3 e3 => ex_t e3 hs) fun i Ha x Hb hi e3 hy => ?_
  obtain ⟨rfl, hx⟩ := hy
  obtain ⟨dx, h1, h2⟩ := hxs.at hx
  exact ⟨Ex.refl _, dx, h1, dp_same e3 h2⟩
theorem ei_lst (h : EvD K te σ H (.list ds)) : EvI K (iList K te) σ H ds := fun H1 e R q => h H1 e _ fun v H2 e2 hd => by
  obtain ⟨p, xs, rfl, hs, hxs⟩ := dp_lst hd
  refine ⟨p, rfl, ⟨xs, hs⟩, q _ H2 e2 ?_⟩
  rw [← hxs.length]
  refine (walk_list (xs := xs)).mono (fun H3 e3 => ex_l e3 hs) fun i Ha x Hb hi e3 hy => ?_
  obtain ⟨rfl, hx⟩ := hy
  obtain ⟨dx, h1, h2⟩ := hxs.at hx
  exact ⟨Ex.refl _, dx, h1, dp_same e3 h2⟩
theorem ei_range {ta : TA} {n : Nat} (h : EvA ta σ H [.int (n : Int)]) (hn : n ≤ 100000) : EvI K (iRng1 ta) σ H ((List.range n).map fun (i : Nat) => PyData.int (i : Int)) := fun H1 e R q => h H1 e _ fun H2 e2 => ⟨(n : Int), rfl, by omega, by omega, q _ H2 e2 (by
  rw [List.length_map, List.length_range, Int.toNat_natCast]
  refine walk_range0.mono (fun _ _ => True.intro) fun i Ha x Hb hi e3 hy => ?_
  obtain ⟨rfl, rfl⟩ := hy
  refine ⟨Ex.refl _, .int (i : Int), ?_, .int _⟩
  rw [List.getElem?_map, List.getElem?_range hi]
  rfl)⟩
theorem ei_zip {ta tb : TE} {tx : TA} (ha : EvD K ta σ H (.list ds)) (hb : EvD K tb σ H (.list es)) (hl : ds.length = es.length ∨ True) : EvI K (iZip K (tCons ta (tCons tb tNil))) σ H ((ds.zip es).map fun p => .tuple [p.1, p.2]) := fun H1 e R q => ha H1 e _ fun v H2 e2 hv => hb H2 (e.trans e2) _ fun w H3 e3 hw => by
  obtain ⟨p, xs, rfl, hs, hxs⟩ := dp_lst (dp_same e3 hv)
  obtain ⟨p', ys, rfl, hs', hys⟩ := dp_lst hw
  refine ⟨p, p', xs, ys, rfl, hs, hs', q _ H3 (e2.trans e3) ?_⟩
  rw [List.length_map, List.length_zip, ← hxs.length, ← hys.length]
  refine (walk_zip (xs := xs) (ys := ys) rfl).mono (fun H4 e4 => ⟨ex_l e4 hs, ex_l e4 hs'⟩) fun i Ha x Hb hi e4 hy => ?_
  obtain ⟨T, x1, y1, rfl, nT, rfl, hx, hy⟩ := hy
  obtain ⟨dx, h1, h2⟩ := hxs.at hx
  obtain ⟨dy, h3, h4⟩ := hys.at hy
  refine ⟨Ex.new nT, .tuple [dx, dy], ?_, .tup (.of upd_same) (.cons (dp_same (e4.trans (Ex.new nT)) h2) (.cons (dp_same (e4.trans (Ex.new nT)) h4) .nil))⟩
  rw [List.getElem?_map, show (ds.zip es)[i]? = some (dx, dy) from by rw [List.getElem?_zip_eq_some]; exact ⟨h1, h3⟩]
  rfl
/-! ### comprehensions -/
theorem filter_snoc {α : Type} {xs : List α} {i : Nat} {a : α} (b : α → Bool) (h : xs[i]? = some a) : (xs.take (i + 1)).filter b = (xs.take i).filter b ++ (if b a = true then [a] else []) := by
  rw [take_snoc h, List.filter_append]
  cases hb : b a <;> simp [hb]
theorem en_lc {α : Type} {ti : TI} {g : TG} {vs : List Nat} (xs : List α) (enc : α → PyData) (b : α → Bool) (f : α → PyData) (hi : EvI K ti σ H (xs.map enc)) (hz : xs.length ≤ 40000) (hf : ∀ a ∈ xs, fz (f a) = true)
    (ht : ∀ (i : Nat) (a : α) (H1 : Hp) (x : V), xs[i]? = some a → Ex H H1 → Dp K H1 x (enc a) → ∀ R : L2.St → Hp → Prop, (∀ σ2, wipe σ2 vs = wipe σ vs → EvT t σ2 H1 (b a) → (b a = true → EvD K te σ2 H1 (f a)) → R σ2 H1) → g x (wipe σ vs) H1 R) :
    EvN K (tLc ti g t te vs) σ H ((xs.filter b).map f) := fun H0 e Q q => hi H0 e _ fun J H1 e1 W D nD => by
  refine lc_it W (fun i H' => Ex H1 H' ∧ ∃ vs, H' D = some (.lst vs) ∧ DpAll K H' vs (((xs.take i).filter b).map f)) ⟨Ex.new nD, [], upd_same, .nil⟩ (fun _ _ _ hP => hP.1) (fun i x Ha Hb hi hP hy => ?_) (fun H' hP => ?_)
  · obtain ⟨s1, acc, eD, hacc⟩ := hP
    obtain ⟨s2, d, hd, hx⟩ := hy
    rw [List.getElem?_map] at hd
    cases ha : xs[i]? with
    | none =>
      rw [ha] at hd
      cases hd
    | some a =>
      rw [ha] at hd
      have hd := Option.some.inj hd
      subst hd
      refine ht i a Hb x ha ((e.trans e1).trans (s1.trans s2)) hx _ fun σ2 hw tt he => ⟨hw, tt Hb (Ex.refl Hb) _ fun H3 e3 => ?_⟩
      have hn := filter_snoc b ha
      cases hb : b a with
      | false =>
        rw [hb] at hn
        refine iteF ⟨s1.trans (s2.trans e3), acc, e3 _ _ (s2 _ _ eD), ?_⟩
        rw [hn]
        show DpAll K H3 acc (((xs.take i).filter b ++ []).map f)
        rw [List.append_nil]
        exact dps_same (s2.trans e3) hacc
      | true =>
        rw [hb] at hn
        refine iteT (he hb H3 e3 _ fun y H4 e4 hy => ⟨acc, e4 _ _ (e3 _ _ (s2 _ _ eD)), ?_, ?_, acc ++ [y], upd_same, ?_⟩)
        · have h1 := hacc.length
          have h2 := List.length_filter_le b (xs.take i)
          have h3 := List.length_take_le i xs
          rw [List.length_map] at hi
          rw [List.length_map] at h1
          exact sz_lt (by omega)
        · exact Ex.mut (s1.trans (s2.trans (e3.trans e4))) nD
        · rw [hn]
          show DpAll K _ (acc ++ [y]) (((xs.take i).filter b ++ [a]).map f)
          rw [List.map_append]
          have eD4 := e4 _ _ (e3 _ _ (s2 _ _ eD))
          have ht : ∀ c xs, SqT K H4 c xs → SqT K (upd H4 D (.lst (acc ++ [y]))) c xs := fun c xs h => by
            rcases h with (h | ⟨o, h⟩) | h
            · exact .inl (.inl (by rw [upd_ne (ne_of h eD4 (by intro z; cases z))]; exact h))
            · exact .inl (.inr ⟨o, by rw [upd_ne (ne_of h eD4 (by intro z; cases z))]; exact h⟩)
            · exact .inr h
          have hfa : ∀ a ∈ (xs.take i).filter b, fz (f a) = true := fun a h => hf a (List.mem_of_mem_take (List.mem_filter.mp h).1)
          exact (dps_fz ht _ _ (fz_map hfa) (dps_same (s2.trans (e3.trans e4)) hacc)).app (.one (dp_fz ht _ _ (hf a (List.mem_of_getElem? ha)) hy))
  · obtain ⟨s1, acc, eD, hacc⟩ := hP
    rw [List.length_map, List.take_length] at hacc
    exact q D acc H' (fresh_back e1 nD) (e1.trans s1) eD hacc
end
end Ink
namespace Ink
open PySem PySem.Spec PyProof.Rows L2
/-! ### sorted(xs), the items alike data of any depth -/
def rSortedD (K : PySem.W.Frag) : List V → Hp → VK → Prop := fun vs H Q => ∃ (x : V) (ds : List PyData), vs = [x] ∧ Dp K H x (.list ds) ∧ PySem.W.AllAlike ds ∧ PySem.W.Sortable ds ∧ (∀ d ∈ ds, d.depth ≤ 64) ∧
  ∀ p ws, H p = none → DpAll K H ws (ds.mergeSort (PySem.W.dataLe false id)) → Q (.ref p) (upd H p (.lst ws))
theorem each_pairs {K : PySem.W.Frag} {H : Hp} : ∀ {xs : List V} {its : List Value} {ds : List PyData}, Vals xs its → DpAll K H xs ds → PySem.W.EachIs (fun u (b : V × PyData) => RelV b.1 u ∧ Dp K H b.1 b.2) its (xs.zip ds)
  | _, _, _, .nil, .nil => .nil
  | _, _, _, .cons r rs, .cons h hs => .cons ⟨r, h⟩ (each_pairs rs hs)
theorem pairs_each {K : PySem.W.Frag} {H : Hp} : ∀ {out : List Value} {bs : List (V × PyData)}, PySem.W.EachIs (fun u (b : V × PyData) => RelV b.1 u ∧ Dp K H b.1 b.2) out bs → Vals (bs.map Prod.fst) out ∧ DpAll K H (bs.map Prod.fst) (bs.map Prod.snd)
  | _, _, .nil => ⟨.nil, .nil⟩
  | _, _, .cons ⟨r, h⟩ t => ⟨.cons r (pairs_each t).1, .cons h (pairs_each t).2⟩
theorem each_imp {α β : Type} {R S : α → β → Prop} (h : ∀ a b, R a b → S a b) : ∀ {as : List α} {bs : List β}, PySem.W.EachIs R as bs → PySem.W.EachIs S as bs
  | _, _, .nil => .nil
  | _, _, .cons r t => .cons (h _ _ r) (each_imp h t)
theorem zip_snd {α β : Type} : ∀ {as : List α} {bs : List β}, as.length = bs.length → (as.zip bs).map Prod.snd = bs
  | [], [], _ => rfl
  | _ :: _, _ :: _, h => by
    rw [List.zip_cons_cons, List.map_cons, zip_snd (by simpa using h)]
theorem cr_sortedD {X : Cx} (hu : X.A.units + 100 < cLine) : CallR X (.builtin "sorted") (rSortedD X.K) := by
  intro pins s σ H vs us Q I r h
  obtain ⟨x, ds, rfl, hx, ha, hs, hd, q⟩ := h
  obtain ⟨p, xs, rfl, hl, hds⟩ := dp_lst hx
  obtain ⟨its, rv, pl, hz⟩ := I.list hl
  rw [Vals.ref1 r]
  have hlen := hds.length
  have esnd : (xs.zip ds).map Prod.snd = ds := zip_snd hlen
  have e := each_pairs rv hds
  refine PySem.W.sorted_data (enc := Prod.snd) pl.isList e (each_imp (fun u b ⟨r, h⟩ => Dp.reads I b.2 b.1 u h r) e) (by rw [esnd]; exact ha) (by rw [esnd]; exact hs) (by rw [List.length_zip]; omega) (fun b hb => ?_) fun out ho hout => ?_
  · have : b.2 ∈ ds := by
      rw [← esnd]
      exact List.mem_map_of_mem hb
    have := hd _ this
    omega
  · obtain ⟨v1, d1⟩ := pairs_each hout
    obtain ⟨ep, he'⟩ := PyProof.Rows.sortedAll_at s.heap its out.toArray
    have em : ((xs.zip ds).mergeSort (PySem.W.dataLe false Prod.snd)).map Prod.snd = ds.mergeSort (PySem.W.dataLe false id) := by
      have z := List.map_mergeSort (r := PySem.W.dataLe false (Prod.snd : V × PyData → PyData)) (s := PySem.W.dataLe false id) (f := Prod.snd) (l := xs.zip ds) (fun a _ b _ => rfl)
      rw [z, esnd]
    rw [em] at d1
    have hwl : (((xs.zip ds).mergeSort (PySem.W.dataLe false Prod.snd)).map Prod.fst).length ≤ sizeLine := by
      rw [List.length_map, List.length_mergeSort, List.length_zip]
      omega
    exact ⟨.ref _, upd H (s.heap.objs.size + 1) (.lst _), I.laid (t' := s.toks) (fun _ _ => PyProof.Rows.sortedAll_old) (Nat.le_succ _) ⟨hwl, out, ep, v1, he'⟩, rfl, q _ _ (I.hok.fresh (Nat.le_succ _)) d1⟩
open Evl
theorem en_sorted {K : PySem.W.Frag} {σ : L2.St} {H : Hp} {te : TE} {ds : List PyData} (h : EvD K te σ H (.list ds)) (ha : PySem.W.AllAlike ds) (hs : PySem.W.Sortable ds) (hd : ∀ d ∈ ds, d.depth ≤ 64) : EvN K (tCB (rSortedD K) (tCons te tNil)) σ H (ds.mergeSort (PySem.W.dataLe false id)) := fun H1 e Q q =>
  h H1 e _ fun v H2 e2 hv => ⟨v, ds, rfl, hv, ha, hs, hd, fun p ws np hw => q p ws _ (fresh_back e2 np) (e2.trans (Ex.new np)) upd_same (dps_same (Ex.new np) hw)⟩
end Ink
namespace Ink
open PySem PySem.Spec PyProof.Rows L2
/-! ### dicts whose keys are nested tuples -/
abbrev NK := NestedKey
mutual
theorem nest_of {X : Cx} {pins : List (Addr × Obj)} {σ : L2.St} {H : Hp} {s : Shared} (I : Inv X pins σ H s) : ∀ (k : NK) (v : V) (u : Value), Dp X.K H v k.data → RelV v u → NestedIs s.heap k u
  | .none, _, _, h, r => by
    have h : Dp X.K H _ .none := h
    cases h
    cases r
    exact .none
  | .num i, _, _, h, r => by
    have h : Dp X.K H _ (.int i) := h
    cases h
    obtain ⟨t, rfl⟩ := r
    exact .int i t
  | .text x, _, _, h, r => by
    have h : Dp X.K H _ (.str x) := h
    cases h
    obtain ⟨t, rfl⟩ := r
    exact .text x t
  | .tup ks, v, u, h, r => by
    have h : Dp X.K H v (.tuple (NestedKey.datas ks)) := by
      unfold NestedKey.data at h
      exact h
    cases h with
    | tup hs ha =>
      cases r
      obtain ⟨its, rv, ⟨o, ho, hc, n, hd⟩, _⟩ := I.tuple hs
      exact .tup ho hc hd (nests_of I ks _ its ha rv)
theorem nests_of {X : Cx} {pins : List (Addr × Obj)} {σ : L2.St} {H : Hp} {s : Shared} (I : Inv X pins σ H s) : ∀ (ks : List NK) (vs : List V) (us : List Value), DpAll X.K H vs (NestedKey.datas ks) → Vals vs us → NestedAll s.heap ks us
  | [], _, _, h, r => by
    unfold NestedKey.datas at h
    cases h
    cases r
    exact .nil
  | k :: ks, _, _, h, r => by
    unfold NestedKey.datas at h
    cases h with
    | cons h1 h2 =>
      cases r with
      | cons r1 r2 => exact .cons (nest_of I k _ _ h1 r1) (nests_of I ks _ _ h2 r2)
end
mutual
theorem fz_key : ∀ k : NK, fz k.data = true
  | .none => by unfold NestedKey.data fz; rfl
  | .num _ => by unfold NestedKey.data fz; rfl
  | .text _ => by unfold NestedKey.data fz; rfl
  | .tup ks => by
    unfold NestedKey.data fz
    exact fz_keys ks
theorem fz_keys : ∀ ks : List NK, fzAll (NestedKey.datas ks) = true
  | [] => by unfold NestedKey.datas fzAll; rfl
  | k :: ks => by
    unfold NestedKey.datas fzAll
    rw [fz_key k, fz_keys ks]
    rfl
end
/-- a key as a reading gives it: a tuple, not too deep -/
def KeyAt (K : PySem.W.Frag) (H : Hp) (v : V) (k : NK) : Prop := Dp K H v k.data ∧ k.depth ≤ 8 ∧ ∃ ks, k = .tup ks
def lookN (kvs : List (NK × V)) (k : NK) : Option V := (kvs.find? fun kv => decide (kv.1 = k)).map (·.2)
def putN (kvs : List (NK × V)) (k : NK) (v : V) : List (NK × V) := if (lookN kvs k).isSome then kvs.map (fun kv => if kv.1 = k then (kv.1, v) else kv) else kvs ++ [(k, v)]
/-- what is known of a dict: its rows, and the very object -/
abbrev DX := List (NK × Addr × Value) × Obj
def DicO (P : Program) (w : World) (d : Addr) (x : DX) : HO := .ext fun h => (d == sysModules) = false ∧ ∃ es ep, h.get? d = some x.2 ∧ x.2.ExactDict ∧ x.2.data = .dict es ep ∧ es.toList = x.1.map (entryOfKey (nestedKind P w))
def PairN (p : NK × V) (x : NK × Addr × Value) : Prop := p.1 = x.1 ∧ RelV p.2 x.2.2
/-- at d stands a dict with these keys and values, in the order in which they came -/
def DicAt (P : Program) (w : World) (K : PySem.W.Frag) (H : Hp) (d : Addr) (kvs : List (NK × V)) : Prop :=
  ∃ xs : DX, H d = some (DicO P w d xs) ∧ Paired PairN kvs xs.1 ∧ (∀ x ∈ xs.1, KeyAt K H (.ref x.2.1) x.1) ∧ (xs.1.map (·.1)).Nodup ∧ kvs.length ≤ 100000
theorem dicO_ne {P : Program} {w : World} {d : Addr} {xs : DX} : (∀ ys, DicO P w d xs ≠ .lst ys) ∧ (∀ ys, DicO P w d xs ≠ .tup ys) := ⟨fun ys z => (by unfold DicO at z; cases z), fun ys z => (by unfold DicO at z; cases z)⟩
section
variable {P : Program} {w : World} {K : PySem.W.Frag} {H H' : Hp} {d : Addr} {kvs : List (NK × V)} {v : V} {k : NK}
theorem KeyAt.up (ht : ∀ b xs, SqT K H b xs → SqT K H' b xs) (h : KeyAt K H v k) : KeyAt K H' v k := ⟨dp_fz ht _ _ (fz_key k) h.1, h.2⟩
theorem DicAt.up (hd : H' d = H d) (ht : ∀ b xs, SqT K H b xs → SqT K H' b xs) (h : DicAt P w K H d kvs) : DicAt P w K H' d kvs := by
  obtain ⟨xs, e, p, hk, r⟩ := h
  exact ⟨xs, hd.trans e, p, fun x hx => (hk x hx).up ht, r⟩
theorem DicAt.same (e : Evl.Ex H H') (h : DicAt P w K H d kvs) : DicAt P w K H' d kvs := by
  obtain ⟨xs, ed, p, hk, r⟩ := h
  exact ⟨xs, e _ _ ed, p, fun x hx => (hk x hx).up fun _ _ => Evl.ex_t e, r⟩
theorem DicAt.keep {a l : Addr} (b : BagAt H a l) (k : Keep a H H') (h : DicAt P w K H d kvs) : DicAt P w K H' d kvs := by
  obtain ⟨xs, ed, p, hk, r⟩ := h
  refine ⟨xs, k d _ (fun z => ?_) ed, p, fun x hx => (hk x hx).up (keep_t b k), r⟩
  obtain ⟨ns, _, _, _, h1, _⟩ := b
  rw [z, h1] at ed
  exact dicO_ne.1 _ (Option.some.inj ed).symm
theorem DicAt.free (h : DicAt P w K H d kvs) : ∃ o, H d = some o := by
  obtain ⟨xs, e, _⟩ := h
  exact ⟨_, e⟩
theorem paired_look : ∀ {kvs : List (NK × V)} {xs : List (NK × Addr × Value)} (k : NK), Paired PairN kvs xs → RelO (lookN kvs k) ((atKey xs k).map (·.2))
  | _, _, k, .nil => by
    unfold lookN atKey
    exact True.intro
  | _, _, k, .cons (a := p) (b := x) r t => by
    have ih := paired_look k t
    unfold lookN atKey at ih ⊢
    rw [List.find?_cons, List.find?_cons, r.1]
    cases decide (x.1 = k) with
    | true => exact r.2
    | false => exact ih
theorem relO_isSome {x : Option V} {y : Option Value} (r : RelO x y) : y.isSome = x.isSome := by
  cases x <;> cases y <;> first | rfl | exact r.elim
theorem paired_put {kvs : List (NK × V)} {xs : List (NK × Addr × Value)} (k : NK) (a : Addr) {v : V} {u : Value} (r : RelV v u) (p : Paired PairN kvs xs) : Paired PairN (putN kvs k v) (storedH xs k a u) := by
  have e := relO_isSome (paired_look k p)
  rw [Option.isSome_map] at e
  unfold putN storedH
  rw [e]
  cases (lookN kvs k).isSome with
  | false => exact Paired.snoc p ⟨rfl, r⟩
  | true =>
    show Paired PairN (kvs.map fun kv => if kv.1 = k then (kv.1, v) else kv) (xs.map (putAt k u))
    clear e
    induction p with
    | nil => exact .nil
    | @cons p x kvs xs q t ih =>
      rw [List.map_cons, List.map_cons]
      refine .cons ?_ ih
      unfold putAt
      by_cases h : p.1 = k
      · rw [if_pos h, if_pos (q.1.symm.trans h)]
        exact ⟨q.1, r⟩
      · rw [if_neg h, if_neg (fun z => h (q.1.trans z))]
        exact q
theorem putN_len {kvs : List (NK × V)} {k : NK} {v : V} : (putN kvs k v).length ≤ kvs.length + 1 := by
  unfold putN
  split
  · rw [List.length_map]
    omega
  · rw [List.length_append]
    exact Nat.le_refl _
end
section
variable {X : Cx} {pins : List (Addr × Obj)} {σ : L2.St} {H : Hp} {s : Shared} {d : Addr} {kvs : List (NK × V)}
theorem DicAt.raw (I : Inv X pins σ H s) (h : DicAt X.prog X.w X.K H d kvs) : ∃ xs o, s.heap.DictOfH (nestedKind X.prog X.w) d xs ∧ (d == sysModules) = false ∧ H d = some (DicO X.prog X.w d (xs, o)) ∧ Paired PairN kvs xs ∧ (∀ x ∈ xs, KeyAt X.K H (.ref x.2.1) x.1) := by
  obtain ⟨⟨xs, o⟩, e, p, hk, nd, hz⟩ := h
  obtain ⟨⟨hs, es, ep, h1, h2, h3, h4⟩, _, _⟩ : ObjOk X.prog X.w H s.heap d (.ext fun h => (d == sysModules) = false ∧ ∃ es ep, h.get? d = some o ∧ o.ExactDict ∧ o.data = .dict es ep ∧ es.toList = xs.map (entryOfKey (nestedKind X.prog X.w))) := I.hok d _ e
  exact ⟨xs, o, ⟨o, es, ep, h1, h2, h3, h4, fun x hx => ⟨nest_of I _ _ _ (hk x hx).1 rfl, (hk x hx).2.1⟩, nd⟩, hs, e, p, hk⟩
/-- the object that stands at d -/
theorem dic_obj (I : Inv X pins σ H s) {x : DX} (e : H d = some (DicO X.prog X.w d x)) : (d == sysModules) = false ∧ ∃ es ep, s.heap.get? d = some x.2 ∧ x.2.ExactDict ∧ x.2.data = .dict es ep ∧ es.toList = x.1.map (entryOfKey (nestedKind X.prog X.w)) := by
  obtain ⟨q, _, _⟩ : ObjOk X.prog X.w H s.heap d (.ext fun h => (d == sysModules) = false ∧ ∃ es ep, h.get? d = some x.2 ∧ x.2.ExactDict ∧ x.2.data = .dict es ep ∧ es.toList = x.1.map (entryOfKey (nestedKind X.prog X.w))) := I.hok d _ e
  exact q
theorem key_is (I : Inv X pins σ H s) {v : V} {u : Value} {k : NK} (h : KeyAt X.K H v k) (r : RelV v u) : ∃ a, u = .ref a ∧ v = .ref a ∧ (nestedKind X.prog X.w).is s.heap k a := by
  obtain ⟨h1, h2, ks, rfl⟩ := h
  have n := nest_of I _ _ _ h1 r
  cases n with
  | @tup a o vs n ks e1 e2 e3 e4 =>
    refine ⟨a, rfl, ?_, .tup e1 e2 e3 e4, h2⟩
    cases v <;> first | (cases r; done) | skip
    all_goals first | (cases r; rfl) | (obtain ⟨_, z⟩ := r; cases z)
/-- x in d, x not in d -/
def rInN (P : Program) (w : World) (K : PySem.W.Frag) (neg : Bool) : R2 := fun x y H Q => ∃ (k : NK) (d : Addr) (kvs : List (NK × V)), y = .ref d ∧ KeyAt K H x k ∧ DicAt P w K H d kvs ∧ Q (.bl (if neg then !(lookN kvs k).isSome else (lookN kvs k).isSome)) H
theorem at_look {xs : List (NK × Addr × Value)} {k : NK} (p : Paired PairN kvs xs) : (valueAt (pairsH xs) k).isSome = (lookN kvs k).isSome := by
  rw [valueAt_pairsH]
  exact relO_isSome (paired_look k p)
theorem op_inN (hu : X.A.units + 100 < cLine) : OpR X (compareOp .In) (rInN X.prog X.w X.K false) := by
  intro pins s σ H x y v u Q I rx ry h
  obtain ⟨k, d, kvs, rfl, hk, hd, q⟩ := h
  cases ry
  obtain ⟨a, rfl, _, ha⟩ := key_is I hk rx
  obtain ⟨xs, ob, hm, hs, e, p, _⟩ := hd.raw I
  refine in_keyed (knd := nestedKind X.prog X.w) (show X.A.units + 1 + 8 < cLine by omega) ha hs ⟨xs, hm, rfl⟩ ?_
  rw [at_look p]
  exact ⟨.bl _, H, I.tok _, rfl, q⟩
theorem op_notinN (hu : X.A.units + 100 < cLine) : OpR X (compareOp .NotIn) (rInN X.prog X.w X.K true) := by
  intro pins s σ H x y v u Q I rx ry h
  obtain ⟨k, d, kvs, rfl, hk, hd, q⟩ := h
  cases ry
  obtain ⟨a, rfl, _, ha⟩ := key_is I hk rx
  obtain ⟨xs, ob, hm, hs, e, p, _⟩ := hd.raw I
  refine notIn_keyed (knd := nestedKind X.prog X.w) (show X.A.units + 1 + 8 < cLine by omega) ha hs ⟨xs, hm, rfl⟩ ?_
  rw [at_look p]
  exact ⟨.bl _, H, I.tok _, rfl, q⟩
/-- d[k], k there -/
def tDGetN (P : Program) (w : World) (K : PySem.W.Frag) (td ty : TE) : TE := fun σ H Q => td σ H fun x H1 => ty σ H1 fun y H2 => ∃ (d : Addr) (kvs : List (NK × V)) (k : NK) (v : V), x = .ref d ∧ DicAt P w K H2 d kvs ∧ KeyAt K H2 y k ∧ lookN kvs k = some v ∧ Q v H2
theorem pe_dgetN {o i : Expr} {td ty : TE} {pos : Pos} (hu : X.A.units + 100 < cLine) (ho : PE X o td) (hi : PE X i ty) (hs : NoSl i) : PE X (.Subscript o i pos) (tDGetN X.prog X.w X.K td ty) := by
  refine ⟨fun pins s σ H Q I h => ?_⟩
  refine subD_of PySem.F.slot_dict_getitem.lookup hs (thn (ho.run pins s σ H _ I h) fun u s1 ⟨x, H1, I1, rx, q1⟩ => thn (hi.run pins s1 σ H1 _ I1 q1) fun iv s2 ⟨y, H2, I2, ry, d, kvs, k, v, ex, hd, hk, hl, q2⟩ => ?_)
  subst ex
  obtain rfl : u = Value.ref d := rx
  obtain ⟨a, rfl, _, ha⟩ := key_is I2 hk ry
  obtain ⟨xs, ob, hm, hs', e, p, _⟩ := hd.raw I2
  have r := paired_look k p
  rw [hl] at r
  cases hv : (atKey xs k).map (·.2) with
  | none =>
    rw [hv] at r
    exact r.elim
  | some z =>
    rw [hv] at r
    exact ⟨hm.typeIs, getItem_keyed (knd := nestedKind X.prog X.w) (show X.A.units + 1 + 8 < cLine by omega) ha ⟨xs, hm, rfl⟩ (by rw [valueAt_pairsH]; exact hv) ⟨v, H2, I2.tok _, r, q2⟩⟩
/-- d[k] = v -/
def rSetN (P : Program) (w : World) (K : PySem.W.Frag) : TSet := fun o i v H Q => ∃ (d : Addr) (kvs : List (NK × V)) (k : NK), o = .ref d ∧ DicAt P w K H d kvs ∧ KeyAt K H i k ∧ kvs.length < 100000 ∧
  ∀ H', DicAt P w K H' d (putN kvs k v) → (∀ b, b ≠ d → H' b = H b) → Q H'
theorem set_dicN (hu : X.A.units + 100 < cLine) : PSet X (rSetN X.prog X.w X.K) := by
  intro pins s σ H o i v ov iv u Q I ro ri rv h
  obtain ⟨d, kvs, k, rfl, hd, hk, hz, q⟩ := h
  cases ro
  obtain ⟨a, rfl, ea, ha⟩ := key_is I hk ri
  obtain ⟨xs, ob, hm, hs, e, p, hks⟩ := hd.raw I
  have hl : xs.length = kvs.length := (Paired.length p).symm
  refine wpAny_setItem_heap (knd := nestedKind X.prog X.w) (hsz := by rw [hl]; exact Evl.sz_of (by omega)) (show X.A.units + 1 + 8 < cLine by omega) ha hm fun h' hm' sb => ?_
  obtain ⟨o', es, ep, h1, h2, h3, h4, h5, h6⟩ := hm'
  have ok : ObjOk X.prog X.w (upd H d (DicO X.prog X.w d (storedH xs k a u, o'))) h' d (DicO X.prog X.w d (storedH xs k a u, o')) := ⟨⟨hs, es, ep, h1, h2, h3, h4⟩, ⟨o', h1⟩, fun g1 g2 ⟨z, es, ep, e1, r⟩ st => ⟨z, es, ep, st _ e1, r⟩⟩
  have I' := I.write (e := d) (t' := s.toks + (nestedKind X.prog X.w).draws k) (by rw [e]; trivial) (.inl rfl) (fun b w hb hw => (sb.2 b hb).trans hw) ⟨o', h1⟩ ok
  have ht : ∀ b xs', SqT X.K H b xs' → SqT X.K (upd H d (DicO X.prog X.w d (storedH xs k a u, o'))) b xs' := fun b xs' hb => by
    rcases hb with (hb | ⟨oo, hb⟩) | hb
    · exact .inl (.inl (by rw [upd_ne (ne_of hb e (fun z => dicO_ne.2 _ z.symm))]; exact hb))
    · exact .inl (.inr ⟨oo, by rw [upd_ne (ne_of hb e (fun z => by unfold DicO at z; cases z))]; exact hb⟩)
    · exact .inr hb
  refine ⟨_, I', q _ ⟨(_, _), upd_same, paired_put k a rv p, fun x hx => ?_, h6, Nat.le_trans putN_len (by omega)⟩ fun b hb => upd_ne hb⟩
  unfold storedH at hx
  split at hx
  · obtain ⟨y, hy, rfl⟩ := List.mem_map.mp hx
    unfold putAt
    split
    · exact (hks y hy).up ht
    · exact (hks y hy).up ht
  · rcases List.mem_append.mp hx with hx | hx
    · exact (hks x hx).up ht
    · rw [List.mem_singleton] at hx
      subst hx
      rw [← ea]
      exact hk.up ht
/-- {} -/
def tDNewN (P : Program) (w : World) (K : PySem.W.Frag) : TE := fun _ H Q => ∀ p H', H p = none → (∀ b, b ≠ p → H' b = H b) → DicAt P w K H' p [] → Q (.ref p) H'
theorem pe_dnewN {pos : Pos} : PE X (.Dict [] [] pos) (tDNewN X.prog X.w X.K) := ⟨fun pins s σ H Q I h => by
  have hs : (s.heap.objs.size == sysModules) = false := beq_eq_false_iff_ne.mpr (Ne.symm (Nat.ne_of_lt I.big))
  have ok : ObjOk X.prog X.w (upd H s.heap.objs.size (DicO X.prog X.w s.heap.objs.size ([], { cls := .type "dict", data := .dict #[] }))) (s.heap.push { cls := .type "dict", data := .dict #[] }) s.heap.objs.size (DicO X.prog X.w s.heap.objs.size ([], { cls := .type "dict", data := .dict #[] })) :=
    ⟨⟨hs, #[], 0, Heap.get?_push_size _ rfl, ⟨rfl, rfl, rfl⟩, rfl, rfl⟩, ⟨_, Heap.get?_push_size _ rfl⟩, fun g1 g2 ⟨z, es, ep, e1, r⟩ st => ⟨z, es, ep, st _ e1, r⟩⟩
  exact wpAny_Dict_empty ⟨.ref s.heap.objs.size, _, I.laid (a := s.heap.objs.size) (t' := s.toks) (fun _ _ q => Heap.get?_push_of_some _ q) (Nat.le_refl _) ok, rfl,
    h _ _ (I.hok.fresh (Nat.le_refl _)) (fun b hb => upd_ne hb) ⟨([], _), upd_same, .nil, fun x hx => (by cases hx), List.nodup_nil, Nat.zero_le _⟩⟩⟩
end
end Ink
namespace Ink
open PySem PySem.Spec PyProof.Rows L2
/-! ### enumerate(t), t a tuple -/
set_option maxHeartbeats 8000000 in
theorem enum_one {v : Value} {o : Obj} {G : Heap → Prop} (B : Begins v o G) : Meets (Builtin.«enumerate.__new__» ⟨[.type "enumerate", v], []⟩) (fun _ R s => G s.heap ∧
    R (.ok (.ret (.ref (s.heap.push o).objs.size))) { s with heap := (s.heap.push o).push { cls := .type "enumerate", data := .fields #[.none, .bool false, .ref s.heap.objs.size, rawInt 0, .none, .none] } }) :=
  .of_wp fun prog w A R s hw => by
    obtain ⟨hp, gs, dr, tk, os⟩ := s
    obtain ⟨hG, hR⟩ := hw
    have hsub := sub_enumerate
    have it : ∀ {A' : Around} {E : Value → Shared → Prop} {Q : Value → Shared → Prop}, Q (.ref hp.objs.size) ⟨hp.push o, gs, dr, tk, os⟩ → wpAny (model prog w) A' (pyIter v) Q E ⟨hp, gs, dr, tk, os⟩ := fun q => B.iter prog w _ _ ⟨hp, gs, dr, tk, os⟩ _ hG q
    wp_walk using it
    refine wpAny_stack_any fun st => wpAny_pure ?_
    split
    · rename_i c _ _ _ _ _
      cases (c == Value.type "enumerate") <;> (wp_walk using it; exact ⟨_, rfl, hR⟩)
    · wp_walk using it
      exact ⟨_, rfl, hR⟩
section
variable {prog : Program} {w : World} {A : Around} {E : Value → Shared → Prop} {s : Shared}
theorem enum_call {v : Value} {o : Obj} {G : Heap → Prop} {Q : Value → Shared → Prop} (B : Begins v o G) (hG : G s.heap)
    (h : ∀ h', IsEnum h' (s.heap.objs.size + 1) s.heap.objs.size 0 .none → h'.get? s.heap.objs.size = some o → (∀ b u, s.heap.get? b = some u → h'.get? b = some u) → Q (.ref (s.heap.objs.size + 1)) { s with heap := h' }) :
    wpAny (model prog w) A (call (.type "enumerate") [v]) Q E s := by
  refine callType_new F.called_enumerate (by decide) (F.typeCall_enumerate_1 _) (F.newCall_enumerate_1 _) (fun obj => F.args_object_init_2 obj _) F.entry_enumerate_new (enum_one B) ⟨hG, ?_⟩
  have hz : (s.heap.push o).objs.size = s.heap.objs.size + 1 := Heap.size_push ..
  show _ ∧ _
  rw [hz]
  have he := Heap.get?_push_size (s.heap.push o) (o := { cls := .type "enumerate", data := .fields #[.none, .bool false, .ref s.heap.objs.size, rawInt 0, .none, .none] }) rfl
  rw [hz] at he
  exact ⟨⟨_, he, rfl⟩, h _ he (Heap.get?_push_of_some _ (Heap.get?_push_size _ B.free)) fun b u x => Heap.get?_push_of_some _ (Heap.get?_push_of_some _ x)⟩
end
/-- the tuple at a, each item in a new pair with its place -/
def IteT (K : PySem.W.Frag) (a : Addr) : It :=
  ⟨fun i H => ∃ (xs : List V) (x : V), SqT K H a xs ∧ xs[i]? = some x, fun i H v H' => ∃ T x, v = .ref T ∧ H T = none ∧ H' = upd H T (.tup [.int (i : Nat), x]) ∧ ∀ xs, SqT K H a xs → xs[i]? = some x, fun i H => ∃ xs : List V, SqT K H a xs ∧ xs.length = i⟩
theorem walk_enumT {K : PySem.W.Frag} {a : Addr} {xs : List V} : Walk (IteT K a) xs.length (fun H => SqT K H a xs) (YPair (fun i => some (.int (i : Nat))) (fun i => xs[i]?)) := by
  refine ⟨fun i _ hi q => ⟨xs, xs[i], q, List.getElem?_eq_getElem hi⟩, fun _ q => ⟨xs, q, rfl⟩, fun i H v H' _ q y => ?_⟩
  obtain ⟨T, x, h1, h2, h3, h4⟩ := y
  exact ⟨T, _, x, h1, h2, h3, rfl, h4 xs q⟩
theorem turn_enumT {P : Program} {w : World} {K : PySem.W.Frag} {elts : List Expr} {kk : Nat} {tpos : Pos} (a e it : Addr) (nit : a ≠ it) (nea : e ≠ a) (nei : e ≠ it) :
    Turn P w K (.Tuple elts kk tpos) (IteT K a) [e, it] e (fun i h => (∃ old, IsEnum h e it ((i : Nat) : Int) old) ∧ h.IsTupleIter it a i) where
  mem := List.mem_cons_self ..
  obj i h st b hb := by
    obtain ⟨⟨old, he⟩, o, ho, hc, hd⟩ := st
    rcases List.mem_cons.mp hb with z | z
    · rw [z]
      exact ⟨_, he, fun v q => nomatch q⟩
    · rw [List.mem_singleton.mp z]
      exact ⟨o, ho, fun v q => by rw [hd] at q; cases q⟩
  keep i h h' st k := by
    obtain ⟨⟨old, he⟩, hi⟩ := st
    exact ⟨⟨old, k e (List.mem_cons_self ..) _ he⟩, hi.at fun o q => k it (List.mem_cons_of_mem _ (List.mem_cons_self ..)) o q⟩
  item := by
    intro X hP hw hK hc i pins s σ H E I hf st hg
    subst hP hw hK
    obtain ⟨⟨old, he⟩, hit⟩ := st
    obtain ⟨ys, x, hq, hx⟩ := hg
    obtain ⟨its, ry, tp, hz⟩ := I.tuple hq
    obtain ⟨u, hu, ru⟩ := ry.get hx
    have hui : its.toArray[i]? = some u := by rw [List.getElem?_toArray]; exact hu
    have hlt : i < its.toArray.size := (Array.getElem?_eq_some_iff.mp hui).1
    have hel : e < s.heap.objs.size := Heap.lt_size he
    have hil : it < s.heap.objs.size := by
      obtain ⟨_, q, _⟩ := hit
      exact Heap.lt_size q
    have hD := Draws.tuple (prog := X.prog) (w := X.w) (A := X.A.in1) (I.ok.hd hc) it a nit its.toArray
    refine wpAny_pyNext_enum_itemD hD he ⟨hit, tp⟩ hlt nei (fun m => by
      rcases List.mem_cons.mp m with z | z
      · exact nei z
      · exact nea (List.mem_singleton.mp z)) fun u' h' tk hP ho hst hT hsz hk => ?_
    have hP : its.toArray[i]? = some u' := hP
    rw [hui] at hP
    cases hP
    refine ⟨_, rfl, wpAny_letOwnedTupleGo_enum (s := { s with heap := h', toks := tk + 1 }) ho fun h2 he2 sb => ?_⟩
    have hT2 : h2.get? s.heap.objs.size = some { cls := .type "tuple", data := .seq #[.int i tk, u] } := (sb.2 _ (Nat.ne_of_gt hel)).trans hT
    have new : ObjOk X.prog X.w (upd H s.heap.objs.size (.tup [.int (i : Nat), x])) h2 s.heap.objs.size (.tup [.int (i : Nat), x]) :=
      ⟨by show 2 ≤ sizeLine; decide, [.int i tk, u], .cons ⟨_, rfl⟩ (.cons ru .nil), ⟨_, hT2, rfl, _, rfl⟩⟩
    have I1 : Inv X pins σ (upd H s.heap.objs.size (.tup [.int (i : Nat), x])) { s with heap := h2, toks := tk + 1 } :=
      I.turnedNew (ch := [e, it]) (fun b ob hb q => (sb.2 b (fun z => hb (by simp [z]))).trans (hk b ob (fun z => hb (by simp [z])) (fun z => hb (by simp [z])) q)) hf (Nat.le_refl _) new
    refine ⟨.ref s.heap.objs.size, _, I1, rfl, ⟨_, x, rfl, I.hok.fresh (Nat.le_refl _), rfl, fun zs hy => by rw [I.tuple_inj hy hq]; exact hx⟩, ⟨⟨u, ?_⟩, hst.1.at fun o q => (sb.2 it (Ne.symm nei)).trans q⟩, fun b hb => ?_⟩
    · rw [show ((i + 1 : Nat) : Int) = (i : Int) + 1 by omega]
      exact he2
    · have hb' : b < s.heap.objs.size := by
        rcases List.mem_cons.mp hb with z | z
        · rw [z]
          exact hel
        · rw [List.mem_singleton.mp z]
          exact hil
      rw [upd_ne (Nat.ne_of_lt hb')]
      exact (hf b hb).1
  done := by
    intro X hP hw hK hc i pins s σ H E I hf st hg
    subst hP hw hK
    obtain ⟨⟨old, he⟩, hit⟩ := st
    obtain ⟨ys, hq, hx⟩ := hg
    obtain ⟨its, ry, tp, hz⟩ := I.tuple hq
    obtain ⟨f0, f1, f2, f3, f4, f5⟩ := hf it (List.mem_cons_of_mem _ (List.mem_cons_self ..))
    have hn : its.toArray.size = i := by
      rw [List.size_toArray, ← ry.length]
      exact hx
    have hD := Draws.tuple (prog := X.prog) (w := X.w) (A := X.A.in1) (I.ok.hd hc) it a nit its.toArray
    exact wpAny_pyNext_enum_endD hD he ⟨by rw [hn]; exact hit, tp⟩ fun h' eb => ⟨rfl, I.turned (t' := s.toks) (fun b o hb q => eb b o hb q) f0 f1 f3 f4 f5⟩
  self A i s Q E st h := by
    obtain ⟨⟨_, he⟩, _⟩ := st
    exact wpAny_pyIter_enum he h
def iEnumT (K : PySem.W.Frag) (ta : TA) : TI := fun σ H R => ta σ H fun vs H1 => ∃ a xs, vs = [.ref a] ∧ SqT K H1 a xs ∧ R (IteT K a) H1
theorem pi_enumT {X : Cx} {e : Expr} {ta : TA} {p pos tpos : Pos} {elts : List Expr} {kk : Nat} (hg : Gl X "enumerate") (hm : X.mg "enumerate" = none) (ha : PA X [e] ta) (hs : starEach [e] X.env = [(false, eval e X.env)] := by rfl) :
    PI X (.Tuple elts kk tpos) (.Call (.Name "enumerate" p) [e] [] pos) (iEnumT X.K ta) := by
  refine ⟨fun pins s σ H R I h => ?_⟩
  refine Call_ (ld_blt I hg hm boot_enumerate (PyProof.Rows.callWith_type1 (thn (ha.run pos pins s σ H _ I h) fun us s1 ⟨vs, H1, I1, r1, a, xs, ev, hq, q⟩ => ?_) hs rfl))
  subst ev
  rw [Vals.ref1 r1]
  obtain ⟨its, ry, tp, hz⟩ := I1.tuple hq
  have hal : a < s1.heap.objs.size := by
    obtain ⟨o, ho, _⟩ := tp
    exact Heap.lt_size ho
  refine enum_call (begins_tuple a its.toArray) tp fun h' he hit hk => wpAny_pyIter_enum he ?_
  have I2 : Inv X pins σ H1 { s1 with heap := h' } := I1.kept (t' := s1.toks) hk
  refine ⟨s1.heap.objs.size + 1, [s1.heap.objs.size + 1, s1.heap.objs.size], _, _, H1, rfl, I2, turn_enumT a (s1.heap.objs.size + 1) s1.heap.objs.size (Nat.ne_of_lt hal) (Nat.ne_of_gt (Nat.lt_succ_of_lt hal)) (Nat.succ_ne_self _), ⟨⟨.none, he⟩, ⟨_, hit, rfl, rfl⟩⟩, fun b hb => ?_, q⟩
  have hle : s1.heap.objs.size ≤ b := by
    rcases List.mem_cons.mp hb with z | z
    · rw [z]
      exact Nat.le_succ _
    · rw [List.mem_singleton.mp z]
      exact Nat.le_refl _
  exact I1.fpOk hle (I1.hok.fresh hle)
open Evl
/-- the pairs (place, thing) -/
def enumD (ds : List PyData) : List PyData := (List.range ds.length).map fun (i : Nat) => PyData.tuple [.int (i : Int), ds.getD i .none]
theorem enumD_get {ds : List PyData} {i : Nat} {d : PyData} (h : ds[i]? = some d) : (enumD ds)[i]? = some (.tuple [.int (i : Int), d]) := by
  unfold enumD
  rw [List.getElem?_map, List.getElem?_range (List.getElem?_eq_some_iff.mp h).1]
  show some (PyData.tuple [.int (i : Int), ds.getD i .none]) = _
  rw [List.getD_eq_getElem?_getD, h]
  rfl
theorem ei_enumT {K : PySem.W.Frag} {σ : L2.St} {H : Hp} {te : TE} {ds : List PyData} (h : EvD K te σ H (.tuple ds)) : EvI K (iEnumT K (tCons te tNil)) σ H (enumD ds) := fun H1 e R q => h H1 e _ fun v H2 e2 hd => by
  obtain ⟨p, xs, rfl, hs, hxs⟩ := dp_tup hd
  refine ⟨p, xs, rfl, hs, q _ H2 e2 ?_⟩
  have hl : (enumD ds).length = xs.length := by
    unfold enumD
    rw [List.length_map, List.length_range, hxs.length]
  rw [hl]
  refine (walk_enumT (xs := xs)).mono (fun H3 e3 => ex_t e3 hs) fun i Ha x Hb hi e3 hy => ?_
  obtain ⟨T, x1, y1, rfl, nT, rfl, hx, hy⟩ := hy
  cases hx
  obtain ⟨dy, h3, h4⟩ := hxs.at hy
  exact ⟨Ex.new nT, _, enumD_get h3, .tup (.of upd_same) (.cons (.int _) (.cons (dp_same (e3.trans (Ex.new nT)) h4) .nil))⟩
theorem ei_enum {K : PySem.W.Frag} {σ : L2.St} {H : Hp} {te : TE} {ds : List PyData} (h : EvD K te σ H (.list ds)) : EvI K (iEnum K (tCons te tNil)) σ H (enumD ds) := fun H1 e R q => h H1 e _ fun v H2 e2 hd => by
  obtain ⟨p, xs, rfl, hs, hxs⟩ := dp_lst hd
  refine ⟨p, xs, rfl, hs, q _ H2 e2 ?_⟩
  have hl : (enumD ds).length = xs.length := by
    unfold enumD
    rw [List.length_map, List.length_range, hxs.length]
  rw [hl]
  refine (walk_enum (xs := xs)).mono (fun H3 e3 => ex_l e3 hs) fun i Ha x Hb hi e3 hy => ?_
  obtain ⟨T, x1, y1, rfl, nT, rfl, hx, hy⟩ := hy
  cases hx
  obtain ⟨dy, h3, h4⟩ := hxs.at hy
  exact ⟨Ex.new nT, _, enumD_get h3, .tup (.of upd_same) (.cons (.int _) (.cons (dp_same (e3.trans (Ex.new nT)) h4) .nil))⟩
end Ink
namespace Ink
open PySem PySem.Spec PyProof.Rows L2
/-! ### t * k, k any number of times from none on -/
theorem mul_once (l : Addr) (items : Array Value) (n : Nat) (dd : Option Addr) (sl : Array (Option Value)) (u : Tok) :
    Meets (Builtin.«tuple.__mul__» ⟨[.ref l, .int 1 u], []⟩) (fun _ R s => s.heap.get? l = some { cls := .type "tuple", dict := dd, data := .seq items n, slots := sl } ∧ R (.ok (.ret (Value.ref l))) s) :=
  .of_wp fun prog w A R s h => by
    obtain ⟨hp, g, d, tk, os⟩ := s
    obtain ⟨hl, h⟩ := h
    have f1 := AutoSeq1.idx_int
    wp_walk using AutoSeq1.wpAny_loadPart' hl
    repeat (first
      | (refine wpAny_ite_false (by decide) ?_; wp_walk using AutoSeq1.wpAny_loadPart' hl)
      | (refine wpAny_ite_true (by simp) ?_; wp_walk using AutoSeq1.wpAny_loadPart' hl))
    exact ⟨_, rfl, h⟩
theorem mul_none (l : Addr) (items : Array Value) (n : Nat) (dd : Option Addr) (sl : Array (Option Value)) (u : Tok) (hi : items.isEmpty = false) :
    Meets (Builtin.«tuple.__mul__» ⟨[.ref l, .int 0 u], []⟩) (fun _ R s => s.heap.get? l = some { cls := .type "tuple", dict := dd, data := .seq items n, slots := sl } ∧
      R (.ok (.ret (Value.ref s.heap.objs.size))) { s with heap := s.heap.push { cls := .type "tuple", data := .seq #[] } }) :=
  .of_wp fun prog w A R s h => by
    obtain ⟨hp, g, d, tk, os⟩ := s
    obtain ⟨hl, h⟩ := h
    have f1 := AutoSeq1.idx_int
    wp_walk using AutoSeq1.wpAny_loadPart' hl
    repeat (first
      | (refine wpAny_ite_false (by decide) ?_; wp_walk using AutoSeq1.wpAny_loadPart' hl)
      | (refine wpAny_ite_false (by rw [hi]; decide) ?_; wp_walk using AutoSeq1.wpAny_loadPart' hl)
      | (refine wpAny_ite_true (by decide) ?_; wp_walk using AutoSeq1.wpAny_loadPart' hl))
    exact ⟨_, rfl, h⟩
/-- (x,) * n -/
def rRep (K : PySem.W.Frag) : R2 := fun x y H Q => ∃ (l : Addr) (v : V) (n : Nat), x = .ref l ∧ y = .int (n : Int) ∧ SqT K H l [v] ∧ n ≤ 1000 ∧ (n = 1 → Q (.ref l) H) ∧ (n ≠ 1 → ∀ p, H p = none → Q (.ref p) (upd H p (.tup (List.replicate n v))))
theorem op_rep {X : Cx} : OpR X (binaryOp .Mult) (rRep X.K) := by
  intro pins s σ H x y v u Q I rx ry h
  obtain ⟨l, v0, n, rfl, rfl, hT, hn, q1, q2⟩ := h
  by_cases h2 : 2 ≤ n
  · refine op_repT pins s σ H _ _ v u Q I rx ry ⟨l, (n : Int), [v0], rfl, rfl, hT, by simp, by omega, by omega, by show 1 ≤ 1000; decide, fun p np => ?_⟩
    have e : (List.replicate (n : Int).toNat [v0]).flatten = List.replicate n v0 := by
      rw [Int.toNat_natCast]
      clear q1 q2 h2 hn ry
      induction n with
      | zero => rfl
      | succ n ih => rw [List.replicate_succ, List.flatten_cons, ih]; rfl
    rw [e]
    exact q2 (by omega) p np
  · cases rx
    obtain ⟨t, rfl⟩ := ry
    obtain ⟨its, r, ⟨⟨cls, dd, data, sl⟩, ho, hc, m, hd⟩, hs⟩ := I.tuple hT
    simp only at hc hd
    subst hc hd
    have hi : its.toArray.isEmpty = false := by
      cases r with
      | cons _ _ => rfl
    by_cases h1 : n = 1
    · subst h1
      exact wpAny_binaryOp_repeat_ref (T := "tuple") (U := "int") (by decide) ⟨_, ho, rfl⟩ (fun s' => typeIs_int s' _ t) noFill_tuple_mul F.fills_int_mul F.slot_int_rmul repeat_tuple F.slot_int_index.lookup
        (call_meets F.slot_int_rmul (typeIs_int s _ t) F.entry_int_rmul (F.args_int_rmul_2 _ _) (int_rmul_tuple _ t l its.toArray m dd sl)
          ⟨ho, rfl, ⟨_, ho, rfl⟩, call_meets F.slot_tuple_mul ⟨_, ho, rfl⟩ F.entry_tuple_mul (F.args_tuple_mul_2 _ _) (mul_once l its.toArray m dd sl t) ⟨ho, .ref l, H, I, rfl, q1 rfl⟩⟩)
    · obtain rfl : n = 0 := by omega
      exact wpAny_binaryOp_repeat_ref (T := "tuple") (U := "int") (by decide) ⟨_, ho, rfl⟩ (fun s' => typeIs_int s' _ t) noFill_tuple_mul F.fills_int_mul F.slot_int_rmul repeat_tuple F.slot_int_index.lookup
        (call_meets F.slot_int_rmul (typeIs_int s _ t) F.entry_int_rmul (F.args_int_rmul_2 _ _) (int_rmul_tuple _ t l its.toArray m dd sl)
          ⟨ho, rfl, ⟨_, ho, rfl⟩, call_meets F.slot_tuple_mul ⟨_, ho, rfl⟩ F.entry_tuple_mul (F.args_tuple_mul_2 _ _) (mul_none l its.toArray m dd sl t hi)
            ⟨ho, .ref s.heap.objs.size, _, I.laid (t' := s.toks) (o := .tup []) (fun b ob q => Heap.get?_push_of_some _ q) (Nat.le_refl _) ⟨Nat.zero_le _, [], .nil, IsTup.new _ _⟩, rfl, q2 (by omega) _ (I.hok.fresh (Nat.le_refl _))⟩⟩)
open Evl
theorem dps_rep {K : PySem.W.Frag} {H : Hp} {v : V} {d : PyData} (h : Dp K H v d) : ∀ n, DpAll K H (List.replicate n v) (List.replicate n d)
  | 0 => .nil
  | n + 1 => .cons h (dps_rep h n)
theorem ed_rep {K : PySem.W.Frag} {σ : L2.St} {H : Hp} {ta tb : TE} {d : PyData} {n : Nat} (ha : EvD K ta σ H (.tuple [d])) (hb : Ev tb σ H (.int (n : Int))) (hn : n ≤ 1000) : EvD K (tOp (rRep K) ta tb) σ H (.tuple (List.replicate n d)) := fun H1 e Q q =>
  ha H1 e _ fun v H2 e2 hv => hb H2 (e.trans e2) _ fun H3 e3 => by
    obtain ⟨p, xs, rfl, hs, hxs⟩ := dp_tup (dp_same e3 hv)
    obtain ⟨v1, rfl, h1⟩ := dps1 hxs
    refine ⟨p, v1, n, rfl, rfl, hs, hn, fun hn1 => ?_, fun _ p' np => ?_⟩
    · subst hn1
      exact q _ H3 (e2.trans e3) (.tup hs hxs)
    · refine q _ _ ((e2.trans e3).trans (Ex.new np)) (.tup (.of upd_same) ?_)
      have h2 := dp_same (Ex.new (o := .tup (List.replicate n v1)) np) h1
      exact dps_rep h2 n
end Ink
namespace Ink
open PySem PySem.Spec PyProof.Rows L2 Evl
section
variable {K : PySem.W.Frag} {σ : L2.St} {H H' : Hp} {ta tb te tc : TE} {t : TT} {d d1 d2 : PyData} {ds es : List PyData} {v : V} {i : Nat}
/-! ### more of data: tuples joined, cut, starred; lists of numbers and of bools -/
theorem ed_catA (ha : EvD K ta σ H (.tuple ds)) (hb : EvD K tb σ H (.tuple es)) (hz : ds.length + es.length ≤ 100000) : EvD K (tOp (rCatA K) ta tb) σ H (.tuple (ds ++ es)) := fun H1 e Q q =>
  ha H1 e _ fun v H2 e2 hv => hb H2 (e.trans e2) _ fun w H3 e3 hw => by
    obtain ⟨p, xs, rfl, hs, hxs⟩ := dp_tup (dp_same e3 hv)
    obtain ⟨p', ys, rfl, hs', hys⟩ := dp_tup hw
    have l1 := hxs.length
    have l2 := hys.length
    refine ⟨p, p', xs, ys, rfl, rfl, hs, hs', sz_of (by omega), fun h0 => ?_, fun h0 h1 => ?_, fun h0 h1 p2 np => ?_⟩
    · subst h0
      cases hxs
      exact q _ H3 (e2.trans e3) (.tup hs' hys)
    · subst h1
      cases hys
      refine q _ H3 (e2.trans e3) (.tup hs ?_)
      rw [List.append_nil]
      exact hxs
    · exact q _ _ ((e2.trans e3).trans (Ex.new np)) (.tup (.of upd_same) (dps_same (Ex.new np) (hxs.app hys)))
/-- to a list that may change: a new one, or a known one -/
def EvM (K : PySem.W.Frag) (te : TE) (σ : L2.St) (H : Hp) (ds : List PyData) : Prop := ∀ H1, Ex H H1 → ∀ Q : VK, (∀ p vs H2, Ex H1 H2 → H2 p = some (.lst vs) → DpAll K H2 vs ds → Q (.ref p) H2) → te σ H1 Q
theorem EvN.m (h : EvN K te σ H ds) : EvM K te σ H ds := fun H1 e Q q => h H1 e Q fun p vs H2 _ e2 hp hd => q p vs H2 e2 hp hd
theorem em_var {p : Addr} {xs : List V} (hs : σ[i]? = some (some (.ref p))) (hp : H p = some (.lst xs)) (hd : DpAll K H xs ds) : EvM K (tVar i) σ H ds := fun H1 e Q q => ⟨.ref p, hs, q p xs H1 (Ex.refl H1) (e _ _ hp) (dps_same e hd)⟩
theorem en_cat (ha : EvM K ta σ H ds) (hb : EvM K tb σ H es) (hz : ds.length + es.length ≤ 100000) : EvN K (tOp rCat ta tb) σ H (ds ++ es) := fun H1 e Q q =>
  ha H1 e _ fun p xs H2 e2 hp hxs => hb H2 (e.trans e2) _ fun p' ys H3 e3 hp' hys => by
    have l1 := hxs.length
    have l2 := hys.length
    exact ⟨p, p', xs, ys, rfl, rfl, e3 _ _ hp, hp', sz_of (by omega), fun p2 np => q p2 _ _ (fresh_back (e2.trans e3) np) ((e2.trans e3).trans (Ex.new np)) upd_same (dps_same (Ex.new np) ((dps_same e3 hxs).app hys))⟩
theorem vcut_to (xs : List V) (k : Nat) : cutV xs none (some (k : Int)) = xs.take k := by
  unfold cutV
  rw [HT.sIx_none, HT.sIx_nat, List.drop_zero, Nat.sub_zero]
  by_cases h : k ≤ xs.length
  · rw [Nat.min_eq_left h]
  · rw [Nat.min_eq_right (by omega), List.take_of_length_le (Nat.le_refl _), List.take_of_length_le (by omega)]
theorem vcut_from (xs : List V) (k : Nat) : cutV xs (some (k : Int)) none = xs.drop k := by
  unfold cutV
  rw [HT.sIx_none, HT.sIx_nat]
  by_cases h : k ≤ xs.length
  · rw [Nat.min_eq_left h, List.take_of_length_le (by rw [List.length_drop]; exact Nat.le_refl _)]
  · rw [Nat.min_eq_right (by omega), List.drop_of_length_le (Nat.le_refl _), List.drop_of_length_le (by omega), List.take_nil]
theorem ed_slTo {k : Nat} (h : EvD K te σ H (.tuple ds)) (hk : Ev tb σ H (.int (k : Int))) : EvD K (tSl (rSlA K) te tNoPart (tPart tb)) σ H (.tuple (ds.take k)) := fun H1 e Q q =>
  h H1 e _ fun v H2 e2 hv => hk H2 (e.trans e2) _ fun H3 e3 => ⟨(k : Int), rfl, by
    obtain ⟨p, xs, rfl, hs, hxs⟩ := dp_tup (dp_same e3 hv)
    have l1 := hxs.length
    refine ⟨p, xs, rfl, hs, fun h0 => ?_, fun h0 p2 np => ?_⟩
    · have h1 := h0.2
      rw [HT.sIx_nat] at h1
      exact q _ H3 (e2.trans e3) (.tup hs (by rw [List.take_of_length_le (by omega)]; exact hxs))
    · rw [vcut_to]
      exact q _ _ ((e2.trans e3).trans (Ex.new np)) (.tup (.of upd_same) (dps_same (Ex.new np) (hxs.take k)))⟩
theorem ed_slFrom {k : Nat} (h : EvD K te σ H (.tuple ds)) (hk : Ev tb σ H (.int (k : Int))) : EvD K (tSl (rSlA K) te (tPart tb) tNoPart) σ H (.tuple (ds.drop k)) := fun H1 e Q q =>
  h H1 e _ fun v H2 e2 hv => hk H2 (e.trans e2) _ fun H3 e3 => ⟨(k : Int), rfl, by
    obtain ⟨p, xs, rfl, hs, hxs⟩ := dp_tup (dp_same e3 hv)
    have l1 := hxs.length
    refine ⟨p, xs, rfl, hs, fun h0 => ?_, fun h0 p2 np => ?_⟩
    · have h1 := h0.1
      rw [HT.sIx_nat] at h1
      by_cases hk0 : k = 0
      · exact q _ H3 (e2.trans e3) (.tup hs (by rw [hk0, List.drop_zero]; exact hxs))
      · have : xs.length = 0 := by omega
        have : ds = [] := List.eq_nil_of_length_eq_zero (by omega)
        subst this
        exact q _ H3 (e2.trans e3) (.tup hs (by rw [List.drop_nil]; exact hxs))
    · rw [vcut_from]
      exact q _ _ ((e2.trans e3).trans (Ex.new np)) (.tup (.of upd_same) (dps_same (Ex.new np) (hxs.drop k)))⟩
theorem eds_star {tr : TA} (h : EvD K te σ H (.tuple ds)) (hr : EvDs K tr σ H es) : EvDs K (StX.tStar K te tr) σ H (ds ++ es) := fun H1 e Q q =>
  h H1 e _ fun v H2 e2 hv => by
    obtain ⟨p, xs, rfl, hs, hxs⟩ := dp_tup hv
    exact ⟨p, xs, rfl, .inl hs, hr H2 (e.trans e2) _ fun vs H3 e3 hds => q _ H3 (e2.trans e3) ((dps_same e3 hxs).app hds)⟩
theorem ed_tuple (h : EvD K te σ H (.list ds)) : EvD K (tCB (fun xs H Q => ∃ p ys, xs = [.ref p] ∧ ((SqL K H p ys ∧ ∀ l, H l = none → Q (.ref l) (upd H l (.tup ys))) ∨ (SqT K H p ys ∧ Q (.ref p) H))) (tCons te tNil)) σ H (.tuple ds) := fun H1 e Q q =>
  h H1 e _ fun v H2 e2 hv => by
    obtain ⟨p, xs, rfl, hs, hxs⟩ := dp_lst hv
    exact ⟨p, xs, rfl, .inl ⟨hs, fun l nl => q _ _ (e2.trans (Ex.new nl)) (.tup (.of upd_same) (dps_same (Ex.new nl) hxs))⟩⟩
theorem ed_tupleT (h : EvD K te σ H (.tuple ds)) : EvD K (tCB (fun xs H Q => ∃ p ys, xs = [.ref p] ∧ ((SqL K H p ys ∧ ∀ l, H l = none → Q (.ref l) (upd H l (.tup ys))) ∨ (SqT K H p ys ∧ Q (.ref p) H))) (tCons te tNil)) σ H (.tuple ds) := fun H1 e Q q =>
  h H1 e _ fun v H2 e2 hv => by
    obtain ⟨p, xs, rfl, hs, hxs⟩ := dp_tup hv
    exact ⟨p, xs, rfl, .inr ⟨hs, q _ _ e2 (.tup hs hxs)⟩⟩
theorem en_list (h : EvD K te σ H d) (hd : d = .list ds ∨ d = .tuple ds) : EvN K (tCB (fun xs H Q => ∃ p ys, xs = [.ref p] ∧ (SqL K H p ys ∨ SqT K H p ys) ∧ ∀ l, H l = none → Q (.ref l) (upd H l (.lst ys))) (tCons te tNil)) σ H ds := fun H1 e Q q =>
  h H1 e _ fun v H2 e2 hv => by
    rcases hd with rfl | rfl
    · obtain ⟨p, xs, rfl, hs, hxs⟩ := dp_lst hv
      exact ⟨p, xs, rfl, .inl hs, fun l nl => q l xs _ (fresh_back e2 nl) (e2.trans (Ex.new nl)) upd_same (dps_same (Ex.new nl) hxs)⟩
    · obtain ⟨p, xs, rfl, hs, hxs⟩ := dp_tup hv
      exact ⟨p, xs, rfl, .inr hs, fun l nl => q l xs _ (fresh_back e2 nl) (e2.trans (Ex.new nl)) upd_same (dps_same (Ex.new nl) hxs)⟩
theorem dps_bool : ∀ {vs : List V} {bs : List Bool}, DpAll K H vs (bs.map PyData.bool) → vs = bs.map V.bl
  | _, [], h => by cases h; rfl
  | _, b :: bs, h => by
    cases h with
    | cons h t =>
      rw [dp_bl h, dps_bool t]
      rfl
theorem ev_allD {bs : List Bool} (h : EvD K te σ H (.list (bs.map PyData.bool))) : Ev (tCB (rAll K) (tCons te tNil)) σ H (.bl (bs.all id)) := fun H1 e Q q =>
  h H1 e _ fun v H2 e2 hv => by
    obtain ⟨p, xs, rfl, hs, hxs⟩ := dp_lst hv
    rw [dps_bool hxs] at hs
    exact ⟨p, bs, rfl, hs, q H2 e2⟩
theorem ev_anyD {bs : List Bool} (h : EvD K te σ H (.list (bs.map PyData.bool))) : Ev (tCB (rAny K) (tCons te tNil)) σ H (.bl (bs.any id)) := fun H1 e Q q =>
  h H1 e _ fun v H2 e2 hv => by
    obtain ⟨p, xs, rfl, hs, hxs⟩ := dp_lst hv
    rw [dps_bool hxs] at hs
    exact ⟨p, bs, rfl, hs, q H2 e2⟩
theorem inV_ints (n : Int) : ∀ ns : List Int, inV (.int n) (ns.map V.int) = decide (n ∈ ns)
  | [] => rfl
  | m :: ns => by
    have ih := inV_ints n ns
    unfold inV at ih ⊢
    rw [List.map_cons, List.any_cons, ih]
    show ((m == n) || decide (n ∈ ns)) = decide (n ∈ m :: ns)
    rw [Bool.eq_iff_iff]
    simp only [Bool.or_eq_true, beq_iff_eq, decide_eq_true_eq, List.mem_cons]
    exact or_congr ⟨Eq.symm, Eq.symm⟩ Iff.rfl
theorem ev_inI {n : Int} {ns : List Int} {neg : Bool} (ha : Ev ta σ H (.int n)) (hb : EvD K tb σ H d) (hd : d = .list (ns.map PyData.int) ∨ d = .tuple (ns.map PyData.int)) : Ev (tOp (rIn K neg) ta tb) σ H (.bl (if neg then !decide (n ∈ ns) else decide (n ∈ ns))) := fun H1 e Q q =>
  ha H1 e _ fun H2 e2 => hb H2 (e.trans e2) _ fun v H3 e3 hv => by
    have fl : (ns.map V.int).all flatV = true := List.all_eq_true.mpr fun x hx => by
      obtain ⟨m, _, rfl⟩ := List.mem_map.mp hx
      rfl
    rcases hd with rfl | rfl
    · obtain ⟨p, xs, rfl, hs, hxs⟩ := dp_lst hv
      rw [dps_int hxs] at hs
      exact ⟨p, _, rfl, .inl hs, rfl, fl, by rw [inV_ints]; exact q H3 (e2.trans e3)⟩
    · obtain ⟨p, xs, rfl, hs, hxs⟩ := dp_tup hv
      rw [dps_int hxs] at hs
      exact ⟨p, _, rfl, .inr hs, rfl, fl, by rw [inV_ints]; exact q H3 (e2.trans e3)⟩
/-- int(b) -/
theorem ev_intB {b : Bool} (h : Ev te σ H (.bl b)) : Ev (tCB (fun xs H Q => (∃ i, xs = [.int i] ∧ Q (.int i) H) ∨ ∃ k, xs = [.bl k] ∧ Q (.int (if k then 1 else 0)) H) (tCons te tNil)) σ H (.int (if b then 1 else 0)) := fun H1 e Q q =>
  h H1 e _ fun H2 e2 => .inr ⟨b, rfl, q H2 e2⟩
/-- a list that is known by its place grows -/
theorem sd_app {D : Ends} {p : Addr} {xs : List V} (hs : σ[i]? = some (some (.ref p))) (hp : H p = some (.lst xs)) (h : EvD K te σ H d) (hz : xs.length < 100000) (k : ∀ v H1, Ex H H1 → Dp K H1 v d → D.nx σ (upd H1 p (.lst (xs ++ [v])))) :
    tDrop (tBM K "list" rAppend (tVar i) (tCons te tNil)) D σ H := ⟨.ref p, hs, .inl ⟨rfl, xs, .of hp⟩, h H (Ex.refl H) _ fun v H1 e hv => ⟨p, xs, v, rfl, rfl, e _ _ hp, sz_lt hz, k v H1 e hv⟩⟩
theorem sd_ext {D : Ends} {p : Addr} {xs : List V} (hs : σ[i]? = some (some (.ref p))) (hp : H p = some (.lst xs)) (h : EvN K te σ H ds) (hz : xs.length + ds.length ≤ 100000) (k : ∀ vs H1, Ex H H1 → DpAll K H1 vs ds → D.nx σ (upd H1 p (.lst (xs ++ vs)))) :
    tDrop (tBM K "list" rExtend (tVar i) (tCons te tNil)) D σ H := ⟨.ref p, hs, .inl ⟨rfl, xs, .of hp⟩, h H (Ex.refl H) _ fun q vs H1 nq e hq hv => ⟨p, q, xs, vs, rfl, rfl, e _ _ hp, hq, sz_of (by rw [hv.length]; exact hz), k vs H1 e hv⟩⟩
theorem sd_if {D : Ends} {b : Bool} {tu tw : TS} (h : EvT t σ H b) (h1 : b = true → ∀ H1, Ex H H1 → tu D σ H1) (h2 : b = false → ∀ H1, Ex H H1 → tw D σ H1) : tIfS t tu tw D σ H := s_if h h1 h2
end
end Ink
namespace Ink
open PySem PySem.Spec PyProof.Rows L2 Evl
theorem hu9 {k : Nat} {A : Around} (hr : Room k A) : A.units + 100 < cLine := by
  have := hr.un
  omega
abbrev rLenV (K : PySem.W.Frag) : List V → Hp → VK → Prop := fun xs H Q => ∃ x n, xs = [x] ∧ LenV K x H n ∧ Q (.int n) H
/-- a method of the class at C -/
def MetC (P : Program) (w : World) (K : PySem.W.Frag) (mg : Str → Option Value) (base : Heap) (k : Nat) (C : Addr) (m : Str) (ps : List Str) (sp : Sp) : Prop :=
  ∃ f fd, FnOk P w K mg base CX0 k f fd ps sp ∧ Meth K C m f ∧ Cls K C ∧ Binds K fd ps []
/-- the class at C, called by its name with these values behind those that are written -/
def MakC (P : Program) (w : World) (K : PySem.W.Frag) (mg : Str → Option Value) (base : Heap) (k : Nat) (x : Str) (C : Addr) (ps : List Str) (dvs : List V) (sp : Sp) : Prop :=
  ∃ f fd ds, FnOk P w K mg base CX0 k f fd ps sp ∧ Mk K C f ∧ mg x = some (.ref C) ∧ Binds K fd ps ds ∧ Vals dvs ds
section
variable {X : Cx} {k : Nat} {C : Addr} {x m : Str} {ps : List Str} {dvs : List V} {sp : Sp} {p pos apos : Pos} {o e : Expr} {es : List Expr} {ta : TE} {t : TA}
theorem pe_methC {pl : Sem Bool} (he : PE X o ta) (c : MetC X.prog X.w X.K X.mg X.base k C m ps sp) (hr : Room k X.A) (ha : PA X (e :: es) t)
    (hst : starEach (e :: es) X.env = (false, eval e X.env) :: starEach es X.env := by rfl) (hpl : (backTo pos (starEach es X.env)).any (·.1) = false := by rfl)
    (ht : eval (.Call (.Attribute o m apos) (e :: es) [] pos) X.env = (do
      let ov ← eval o X.env
      standAt apos.atName
      let (f, first) ← holding [ov] (getMethod ov m pl)
      callWith pos f first (backTo pos (starEach (e :: es) X.env)) (backToKw pos (keywordEach [] X.env))) := by rfl)
    (hp : ∀ f fd, FnOk X.prog X.w X.K X.mg X.base CX0 k f fd ps sp → Passes CX0 X E0 := by exact fun _ _ _ => pass0) : PE X (.Call (.Attribute o m apos) (e :: es) [] pos) (tMeth C m sp [] E0 ta t) := by
  obtain ⟨f, fd, G, hm, hc, b⟩ := c
  exact pe_meth he hc hm G hr b .nil pass0 ha hst hpl ht
theorem pe_methC0 {pl : Sem Bool} (he : PE X o ta) (c : MetC X.prog X.w X.K X.mg X.base k C m ps sp) (hr : Room k X.A)
    (ht : eval (.Call (.Attribute o m apos) [] [] pos) X.env = (do
      let ov ← eval o X.env
      standAt apos.atName
      let (f, first) ← holding [ov] (getMethod ov m pl)
      callWith pos f first (backTo pos (starEach [] X.env)) (backToKw pos (keywordEach [] X.env))) := by rfl) : PE X (.Call (.Attribute o m apos) [] [] pos) (tMeth C m sp [] E0 ta tNil) := by
  obtain ⟨f, fd, G, hm, hc, b⟩ := c
  exact pe_meth0 he hc hm G hr b .nil pass0 ht
theorem pe_makeC (c : MakC X.prog X.w X.K X.mg X.base k x C ps dvs sp) (hr : Room (k + 1) X.A) (hg : Gl X x) (ha : PA X (e :: es) t) (hdb : (x == ("__debug__" : Str)) = false := by decide)
    (he : starEach (e :: es) X.env = (false, eval e X.env) :: starEach es X.env := by rfl) (hpl : (backTo pos (starEach es X.env)).any (·.1) = false := by rfl) : PE X (.Call (.Name x p) (e :: es) [] pos) (tMake C sp dvs E0 t) := by
  obtain ⟨f, fd, ds, G, M, g, b, hd⟩ := c
  exact pe_make M G hr hg g b hd pass0 ha hdb he hpl
theorem pe_makeC0 (c : MakC X.prog X.w X.K X.mg X.base k x C ps dvs sp) (hr : Room (k + 1) X.A) (hg : Gl X x) (hdb : (x == ("__debug__" : Str)) = false := by decide) : PE X (.Call (.Name x p) [] [] pos) (tMake C sp dvs E0 tNil) := by
  obtain ⟨f, fd, ds, G, M, g, b, hd⟩ := c
  exact pe_make0 M G hr hg g b hd pass0 hdb
end
/-- a constant of the module that is a tuple -/
def GlobT (K : PySem.W.Frag) (mg : Str → Option Value) (x : Str) (d : PyData) : Prop := ∃ a, mg x = some (.ref a) ∧ ∀ H, Dp K H (.ref a) d
def tGlobT (K : PySem.W.Frag) (d : PyData) : TE := fun _ H Q => ∀ a, (∀ H', Dp K H' (.ref a) d) → Q (.ref a) H
theorem pe_globT {X : Cx} {x : Str} {d : PyData} {pos : Pos} (hg : Gl X x) (hm : GlobT X.K X.mg x d) (hd : (x == ("__debug__" : Str)) = false := by decide) : PE X (.Name x pos) (tGlobT X.K d) := by
  obtain ⟨a, e, h⟩ := hm
  have p := pe_glob (X := X) (x := x) (pos := pos) (v := .ref a) hg e rfl hd
  exact ⟨fun pins s σ H Q I hq => p.run pins s σ H Q I (hq a h)⟩
theorem ed_globT {K : PySem.W.Frag} {σ : L2.St} {H : Hp} {d : PyData} : EvD K (tGlobT K d) σ H d := fun H1 e Q q a h => q (.ref a) H1 (Ex.refl H1) (h H1)
end Ink
namespace Ink
open PySem PySem.Spec PyProof.Rows L2 Evl
section
variable {K : PySem.W.Frag} {σ : L2.St} {H : Hp} {te : TE} {t : TT} {d1 d2 d3 : PyData} {x : V}
theorem tg2 {n1 n2 : Nat} {Q : L2.St → Hp → Prop} (hd : Dp K H x (.tuple [d1, d2])) (k : ∀ v1 v2, Dp K H v1 d1 → Dp K H v2 d2 → Q ((σ.set n1 (some v1)).set n2 (some v2)) H) : gTup K 2 (gCons (gName n1) (gCons (gName n2) gNil)) x σ H Q := by
  obtain ⟨p, xs, rfl, hs, hxs⟩ := dp_tup hd
  obtain ⟨v1, v2, rfl, h1, h2⟩ := dps2 hxs
  exact ⟨p, _, rfl, hs, rfl, _, _, rfl, _, _, rfl, rfl, k v1 v2 h1 h2⟩
theorem tg3 {n1 n2 n3 : Nat} {Q : L2.St → Hp → Prop} (hd : Dp K H x (.tuple [d1, d2, d3])) (k : ∀ v1 v2 v3, Dp K H v1 d1 → Dp K H v2 d2 → Dp K H v3 d3 → Q (((σ.set n1 (some v1)).set n2 (some v2)).set n3 (some v3)) H) : gTup K 3 (gCons (gName n1) (gCons (gName n2) (gCons (gName n3) gNil))) x σ H Q := by
  obtain ⟨p, xs, rfl, hs, hxs⟩ := dp_tup hd
  obtain ⟨v1, v2, v3, rfl, h1, h2, h3⟩ := dps3 hxs
  exact ⟨p, _, rfl, hs, rfl, _, _, rfl, _, _, rfl, _, _, rfl, rfl, k v1 v2 v3 h1 h2 h3⟩
theorem en_map {α : Type} {ti : TI} {g : TG} {vs : List Nat} (xs : List α) (enc : α → PyData) (f : α → PyData) (hi : EvI K ti σ H (xs.map enc)) (hz : xs.length ≤ 40000) (hf : ∀ a ∈ xs, fz (f a) = true)
    (ht : ∀ (i : Nat) (a : α) (H1 : Hp) (x : V), xs[i]? = some a → Ex H H1 → Dp K H1 x (enc a) → ∀ R : L2.St → Hp → Prop, (∀ σ2, wipe σ2 vs = wipe σ vs → EvD K te σ2 H1 (f a) → R σ2 H1) → g x (wipe σ vs) H1 R) :
    EvN K (tLc ti g tYes te vs) σ H (xs.map f) := by
  have h := en_lc (K := K) (t := tYes) (te := te) (σ := σ) (H := H) (ti := ti) (g := g) (vs := vs) xs enc (fun _ => true) f hi hz hf fun i a H1 x hx e hd R k => ht i a H1 x hx e hd R fun σ2 hw he => k σ2 hw et_yes fun _ => he
  rw [show xs.filter (fun _ => true) = xs from List.filter_eq_self.mpr fun _ _ => rfl] at h
  exact h
end
end Ink
namespace Ink
open PySem PySem.Spec PyProof.Rows L2 Evl
/-! ### loops over tuples that stand while lists change -/
def TupK (K : PySem.W.Frag) (H H' : Hp) : Prop := ∀ c xs, SqT K H c xs → SqT K H' c xs
theorem TupK.refl {K : PySem.W.Frag} (H : Hp) : TupK K H H := fun _ _ h => h
theorem TupK.trans {K : PySem.W.Frag} {H H1 H2 : Hp} (a : TupK K H H1) (b : TupK K H1 H2) : TupK K H H2 := fun c xs h => b c xs (a c xs h)
theorem TupK.of {K : PySem.W.Frag} {H H' : Hp} (e : Ex H H') : TupK K H H' := fun _ _ h => ex_t e h
/-- what is no tuple changes -/
theorem TupK.upd {K : PySem.W.Frag} {H : Hp} {a : Addr} {o o' : HO} (h : H a = some o) (n1 : ∀ xs, o ≠ .tup xs) (n2 : ∀ ob xs, o ≠ .frz ob (.tup xs)) : TupK K H (upd H a o') := fun c xs hc => by
  rcases hc with (hc | ⟨ob, hc⟩) | hc
  · exact .inl (.inl (by rw [upd_ne (ne_of hc h (fun z => n1 _ z.symm))]; exact hc))
  · exact .inl (.inr ⟨ob, by rw [upd_ne (ne_of hc h (fun z => n2 _ _ z.symm))]; exact hc⟩)
  · exact .inr hc
theorem TupK.lst {K : PySem.W.Frag} {H : Hp} {a : Addr} {xs : List V} {o' : HO} (h : H a = some (.lst xs)) : TupK K H (L2.upd H a o') := .upd h (fun _ z => by cases z) (fun _ _ z => by cases z)
theorem TupK.mut {K : PySem.W.Frag} {H H' : Hp} {a : Addr} {o' : HO} (k : TupK K H H') (h : H' a = none) : TupK K H (L2.upd H' a o') := k.trans (.of (Ex.new h))
theorem TupK.keep {K : PySem.W.Frag} {H H' : Hp} {a l : Addr} (b : BagAt H a l) (k : Keep a H H') : TupK K H H' := keep_t b k
section
variable {K : PySem.W.Frag} {σ : L2.St} {H H' : Hp} {te : TE} {ds : List PyData} {d : PyData} {v : V} {vs : List V} {D : Ends} {tu : TS} {ti : TI} {g : TG}
theorem dp_tk (k : TupK K H H') (f : fz d = true) (h : Dp K H v d) : Dp K H' v d := dp_fz k d v f h
theorem dps_tk (k : TupK K H H') (f : fzAll ds = true) (h : DpAll K H vs ds) : DpAll K H' vs ds := dps_fz k ds vs f h
/-- what is walked gives ds, as long as the tuples stand -/
def EvJ (K : PySem.W.Frag) (ti : TI) (σ : L2.St) (H : Hp) (ds : List PyData) : Prop := ∀ H1, Ex H H1 → ∀ R : It → Hp → Prop, (∀ J H2, Ex H1 H2 → Walk J ds.length (fun H' => TupK K H2 H') (fun i Ha x Hb => Ex Ha Hb ∧ ∃ d, ds[i]? = some d ∧ Dp K Hb x d) → R J H2) → ti σ H1 R
theorem ej_tup (h : EvD K te σ H (.tuple ds)) (f : fzAll ds = true) : EvJ K (iTup K te) σ H ds := fun H1 e R q => h H1 e _ fun v H2 e2 hd => by
  obtain ⟨p, xs, rfl, hs, hxs⟩ := dp_tup hd
  refine ⟨p, rfl, ⟨xs, hs⟩, q _ H2 e2 ?_⟩
  rw [← hxs.length]
  refine (walk_tup (xs := xs)).mono (fun H3 k3 => k3 _ _ hs) fun i Ha x Hb hi k3 hy => ?_
  obtain ⟨rfl, hx⟩ := hy
  obtain ⟨dx, h1, h2⟩ := hxs.at hx
  exact ⟨Ex.refl _, dx, h1, dp_tk k3 (fzAll_iff.mp f dx (List.mem_of_getElem? h1)) h2⟩
theorem ej_enumT (h : EvD K te σ H (.tuple ds)) (f : fzAll ds = true) : EvJ K (iEnumT K (tCons te tNil)) σ H (enumD ds) := fun H1 e R q => h H1 e _ fun v H2 e2 hd => by
  obtain ⟨p, xs, rfl, hs, hxs⟩ := dp_tup hd
  refine ⟨p, xs, rfl, hs, q _ H2 e2 ?_⟩
  have hl : (enumD ds).length = xs.length := by
    unfold enumD
    rw [List.length_map, List.length_range, hxs.length]
  rw [hl]
  refine (walk_enumT (xs := xs)).mono (fun H3 k3 => k3 _ _ hs) fun i Ha x Hb hi k3 hy => ?_
  obtain ⟨T, x1, y1, rfl, nT, rfl, hx, hy⟩ := hy
  cases hx
  obtain ⟨dy, h3, h4⟩ := hxs.at hy
  exact ⟨Ex.new nT, _, enumD_get h3, .tup (.of upd_same) (.cons (.int _) (.cons (dp_tk (k3.mut nT) (fzAll_iff.mp f dy (List.mem_of_getElem? h3)) h4) .nil))⟩
theorem ej_range {ta : TA} {n : Nat} (h : EvA ta σ H [.int (n : Int)]) (hn : n ≤ 100000) : EvJ K (iRng1 ta) σ H ((List.range n).map fun (i : Nat) => PyData.int (i : Int)) := fun H1 e R q => h H1 e _ fun H2 e2 => ⟨(n : Int), rfl, by omega, by omega, q _ H2 e2 (by
  rw [List.length_map, List.length_range, Int.toNat_natCast]
  refine walk_range0.mono (fun _ _ => True.intro) fun i Ha x Hb hi e3 hy => ?_
  obtain ⟨rfl, rfl⟩ := hy
  refine ⟨Ex.refl _, .int (i : Int), ?_, .int _⟩
  rw [List.getElem?_map, List.getElem?_range hi]
  rfl)⟩
theorem sd_for (hi : EvJ K ti σ H ds) (Pv : Hp → Nat → L2.St → Hp → Prop) (h0 : ∀ H2, Ex H H2 → Pv H2 0 σ H2) (hT : ∀ H2 i σ' H', Pv H2 i σ' H' → TupK K H2 H')
    (hs : ∀ H2 i d x σ' H' H'', Ex H H2 → ds[i]? = some d → Pv H2 i σ' H' → Ex H' H'' → Dp K H'' x d → g x σ' H'' fun σ2 H3 => tu { D with nx := Pv H2 (i + 1), ct := Pv H2 (i + 1), bk := D.nx } σ2 H3)
    (hd : ∀ H2 σ' H', Ex H H2 → Pv H2 ds.length σ' H' → D.nx σ' H') : tFor ti g tu D σ H :=
  hi H (Ex.refl H) _ fun J H2 e2 W => for_it W (Pv H2) (h0 H2 e2) (fun i σ' H' _ hP => hT H2 i σ' H' hP) (fun i x σ' Ha Hb hi hP hy => by
    obtain ⟨e3, d, h1, h2⟩ := hy
    exact hs H2 i d x σ' Ha Hb e2 h1 hP e3 h2) (fun σ' H' hP => hd H2 σ' H' e2 hP)
end
end Ink
namespace Ink
open PySem PySem.Spec PyProof.Rows L2
/-! ### companies: what the defs reckon -/
/-- a writer; a stand: places, waits, who wrote last, how many -/
abbrev Wr := Str × List Arw × Int × Int
abbrev Std := List Int × List Int × Int × Int
def dA (x : Arw) : PyData := .tuple [.int x.1, .str x.2.1, .int x.2.2]
def dW (w : Wr) : PyData := .tuple [.str w.1, .tuple (w.2.1.map dA), .int w.2.2.1, .int w.2.2.2]
def dMt (m : List Wr) : PyData := .tuple (m.map dW)
def dMl (m : List Wr) : PyData := .list (m.map dW)
def dI (ns : List Int) : PyData := .tuple (ns.map PyData.int)
def dS (s : Std) : PyData := .tuple [dI s.1, dI s.2.1, .tuple [.int s.2.2.1, .int s.2.2.2]]
def dStep (x : Str × Str × Std) : PyData := .tuple [.str x.1, .str x.2.1, dS x.2.2]
def wr (m : List Wr) (k : Nat) : Wr := m.getD k (Str.empty, [], 0, 0)
def pl (s : Std) (k : Nat) : Int := s.1.getD k 0
def wt (s : Std) (k : Nat) : Int := s.2.1.getD k 0
structure GoodM (m : List Wr) : Prop where
  len : m.length ≤ 3
  wr : ∀ w ∈ m, GoodW w.1 w.2.1 w.2.2.1 w.2.2.2
  nd : (m.map (·.1)).Nodup
/-- that writer has a patience and isn't done -/
def minds (m : List Wr) (s : Std) (k : Nat) : Bool := !decide (V.int (wr m k).2.2.1 = V.int 0) && decide (pl s k ∈ (wr m k).2.1.map (·.1))
def mayW (m : List Wr) (s : Std) (k : Nat) : Bool :=
  if (!decide (V.int (wr m k).2.2.2 = V.int 0) && (decide (V.int s.2.2.1 = V.int (k : Int)) && decide (s.2.2.2 ≥ (wr m k).2.2.2))) = true then false
  else (((List.range m.length).filter fun (j : Nat) => !decide (V.int (j : Int) = V.int (k : Int)) && minds m s j).map fun (j : Nat) => decide (wt s j < (wr m j).2.2.1)).all id
def behind (m : List Wr) (s : Std) (k : Nat) (to : Int) : Std :=
  (s.1.take k ++ to :: s.1.drop (k + 1), (List.range s.2.1.length).map (fun (j : Nat) => if (!decide (V.int (j : Int) = V.int (k : Int)) && minds m s j) = true then wt s j + 1 else 0),
    if V.int (wr m k).2.2.2 = V.int 0 then (-1, 0) else ((k : Int), if V.int s.2.2.1 = V.int (k : Int) then s.2.2.2 + 1 else 1))
/-- a sign, by whom, whereto -/
abbrev Mv := Str × Nat × Int
def dMv (x : Mv) : PyData := .tuple [.str x.1, .int (x.2.1 : Int), .int x.2.2]
def movesAt (m : List Wr) (s : Std) (k : Nat) : List Mv := if mayW m s k = true then ((wr m k).2.1.filter fun x => decide (V.int x.1 = V.int (pl s k))).map fun x => (x.2.1, k, x.2.2) else []
def moves (m : List Wr) (s : Std) : List Mv := (List.range m.length).flatMap (movesAt m s)
def leMv (a b : Mv) : Bool := PySem.W.dataLe false id (dMv a) (dMv b)
def stepsOf (m : List Wr) (s : Std) : List (Str × Str × Std) := ((moves m s).mergeSort leMv).map fun x => (x.1, (wr m x.2.1).1, behind m s x.2.1 x.2.2)
/-- as many places and waits as writers -/
structure Fits (m : List Wr) (s : Std) : Prop where
  l1 : s.1.length = m.length
  l2 : s.2.1.length = m.length
theorem GoodM.at {m : List Wr} (g : GoodM m) {k : Nat} (h : k < m.length) : GoodW (Ink.wr m k).1 (Ink.wr m k).2.1 (Ink.wr m k).2.2.1 (Ink.wr m k).2.2.2 := by
  unfold Ink.wr
  rw [List.getD_eq_getElem?_getD, List.getElem?_eq_getElem h]
  exact g.wr _ (List.getElem_mem h)
theorem wr_get {m : List Wr} {k : Nat} (h : k < m.length) : m[k]? = some (wr m k) := by
  unfold wr
  rw [List.getD_eq_getElem?_getD, List.getElem?_eq_getElem h]
  rfl
theorem getD_get {ns : List Int} {k : Nat} (h : k < ns.length) : ns[k]? = some (ns.getD k 0) := by
  rw [List.getD_eq_getElem?_getD, List.getElem?_eq_getElem h]
  rfl
theorem dW_get {m : List Wr} {k : Nat} (h : k < m.length) : (m.map dW)[(k : Int).toNat]? = some (dW (wr m k)) := by
  rw [Int.toNat_natCast, List.getElem?_map, wr_get h]
  rfl
theorem dI_get {ns : List Int} {k : Nat} (h : k < ns.length) : (ns.map PyData.int)[(k : Int).toNat]? = some (.int (ns.getD k 0)) := by
  rw [Int.toNat_natCast, List.getElem?_map, getD_get h]
  rfl
/-! frozen, of bounded depth -/
theorem fz_dI (ns : List Int) : fz (dI ns) = true := by
  unfold dI fz
  exact fz_map fun _ _ => by unfold fz; rfl
theorem fz_dA (x : Arw) : fz (dA x) = true := by
  unfold dA fz fzAll fzAll fzAll fzAll fz
  rfl
theorem fz_dS (s : Std) : fz (dS s) = true := by
  have h1 := fz_dI s.1
  have h2 := fz_dI s.2.1
  unfold dS
  simp only [fz, fzAll, h1, h2, Bool.and_true]
theorem fz_dW (w : Wr) : fz (dW w) = true := by
  have h : fzAll (w.2.1.map dA) = true := fz_map fun x _ => fz_dA x
  unfold dW
  simp only [fz, fzAll, h, Bool.and_true]
theorem fz_dStep (x : Str × Str × Std) : fz (dStep x) = true := by
  have h := fz_dS x.2.2
  unfold dStep
  simp only [fz, fzAll, h, Bool.and_true]
theorem fz_dMt (m : List Wr) : fz (dMt m) = true := by
  unfold dMt fz
  exact fz_map fun x _ => fz_dW x
theorem fz_dMv (x : Mv) : fz (dMv x) = true := by
  unfold dMv
  simp only [fz, fzAll, Bool.and_true]
theorem moves_len {m : List Wr} (g : GoodM m) (s : Std) : (moves m s).length ≤ 27 := by
  unfold moves
  have h : ∀ k ∈ List.range m.length, (movesAt m s k).length ≤ 9 := fun k hk => by
    unfold movesAt
    split
    · rw [List.length_map]
      have h1 := List.length_filter_le (fun x : Arw => decide (V.int x.1 = V.int (pl s k))) (wr m k).2.1
      have h2 := (g.at (List.mem_range.mp hk)).len
      omega
    · exact Nat.zero_le _
  have hs : ∀ l : List Nat, (∀ k ∈ l, (movesAt m s k).length ≤ 9) → (l.flatMap (movesAt m s)).length ≤ 9 * l.length := fun l => by
    induction l with
    | nil => intro _; exact Nat.le_refl _
    | cons k l ih =>
      intro hl
      rw [List.flatMap_cons, List.length_append, List.length_cons]
      have := hl k (List.mem_cons_self ..)
      have := ih fun j hj => hl j (List.mem_cons_of_mem _ hj)
      omega
  have := hs _ h
  rw [List.length_range] at this
  have := g.len
  omega
end Ink
namespace Ink
open PySem PySem.Spec PyProof.Rows L2 Evl
/-! ### companies: the program's defs -/
def RMinds : List PyData → PyData → Prop := fun ds d => ∃ m s, ∃ k : Nat, GoodM m ∧ Fits m s ∧ k < m.length ∧ ds = [dMt m, dS s, .int (k : Int)] ∧ d = .bool (minds m s k)
def RMay : List PyData → PyData → Prop := fun ds d => ∃ m s, ∃ k : Nat, GoodM m ∧ Fits m s ∧ k < m.length ∧ ds = [dMt m, dS s, .int (k : Int)] ∧ d = .bool (mayW m s k)
def RBehind : List PyData → PyData → Prop := fun ds d => ∃ m s, ∃ k : Nat, ∃ to, GoodM m ∧ Fits m s ∧ k < m.length ∧ ds = [dMt m, dS s, .int (k : Int), .int to] ∧ d = dS (behind m s k to)
def RSteps : List PyData → PyData → Prop := fun ds d => ∃ m s, GoodM m ∧ Fits m s ∧ ds = [dMt m, dS s] ∧ d = .list ((stepsOf m s).map dStep)
section
variable {P : Program} {w : World} {K : PySem.W.Frag} {mg : Str → Option Value} {base : Heap}
theorem places_in (ar : List Arw) : (ar.map fun x => PyData.int x.1) = (ar.map (·.1)).map PyData.int := by
  rw [List.map_map]
  rfl
theorem ok_minds {f : Addr} {fd : FuncData} {k : Nat} (F : Fun K "_minds" "_minds" sMinds f fd) : FnOk P w K mg base CX0 (k + 1) f fd ["writers", "stand", "at"] (spP K RMinds) := by
  refine F.ok sc__minds (fun vs H Q E h => ?_) (fun cdv A outer s H vs Q E hr h => ?_)
  · obtain ⟨ds, d, hd, ⟨m, s, k, _, _, _, rfl, _⟩, _⟩ := h
    exact hd.length
  · obtain ⟨ds, d, hd, ⟨m, st, k, g, ft, hk, rfl, rfl⟩, q⟩ := h
    obtain ⟨v0, v1, v2, rfl, h0, h1, h2⟩ := dps3 hd
    obtain rfl := dp_int h2
    refine ⟨_, (pss_cons (ps_asg (pe_ix ix_tup (pv 0) (pv 2) (fun _ _ => rfl)) (pg_tup rfl (pgs_cons (pg_name (i := 3) sc__minds.nd rfl (.inl rfl)) (pgs_cons (pg_name (i := 4) sc__minds.nd rfl (.inl rfl)) (pgs_cons (pg_name (i := 5) sc__minds.nd rfl (.inl rfl)) (pgs_cons (pg_name (i := 3) sc__minds.nd rfl (.inl rfl)) pgs_nil))))))
    (pss_one (ps_ret (pe_and (pe_cmpR op_ne (pv 5) pe_int (nomark _)) (pe_one (pe_cmpR (show OpR _ _ (rIn K false) from op_in_seq) (pe_ix ix_tup (pe_ix ix_tup (pv 1) pe_int (fun _ _ => rfl)) (pv 2) (fun _ _ => rfl)) (pe_lc (own := [("place", 6), ("_", 3)]) (g := (gTup K 3 (gCons (gName 6) (gCons (gName 3) (gCons (gName 3) gNil))))) (by rfl) sc__minds.nd (pi_tup (pv 4)) (blkOk_by (own := [("place", 6), ("_", 3)]) (N := ["writers", "stand", "at", "_", "arrows", "patience", "place"]) (sc := defScope sMinds) (by decide +kernel)) (fun _ _ _ _ _ => (pg_tup rfl (pgs_cons (pg_name (i := 6) sc__minds.nd rfl (.inl rfl)) (pgs_cons (pg_name (i := 3) sc__minds.nd rfl (.inl rfl)) (pgs_cons (pg_name (i := 3) sc__minds.nd rfl (.inl rfl)) pgs_nil))))) (fun _ _ _ _ _ => pts_nil) (fun _ _ _ _ _ => (pv 6))) (by rfl))))))), ?_⟩
    refine sd_un4 (ed_ixT (ed_var rfl h0) (ev_var rfl) (by omega) (dW_get hk)) fun w0 w1 w2 w3 H1 e1 g0 g1 g2 g3 => ?_
    obtain rfl := dp_int g2
    have h1 := dp_same e1 h1
    refine sd_ret (ed_bl (ev_andV (ev_op (ev_var rfl) ev_c (rv_ne rfl)) fun _ => ev_inI (neg := false) (ns := (wr m k).2.1.map (·.1)) (ev_int (ed_ixT (ed_ixT (ed_var rfl h1) ev_c (by decide) rfl) (ev_var rfl) (by omega) (dI_get (by rw [ft.l1]; exact hk)))) (EvN.list ?_) (.inl rfl))) fun v H2 e2 hv => q v H2 (e1.trans e2) hv
    rw [← places_in]
    exact en_map _ dA _ (ei_tup (ed_var rfl g1)) (by have := (g.at hk).len; omega) (fun _ _ => by unfold fz; rfl) fun i a H3 x hx e3 hdx R kk => tg3 hdx fun u1 u2 u3 a1 a2 a3 => kk _ rfl (ed_var rfl a1)
theorem m_le {m : List Wr} (g : GoodM m) {n : Nat} (h : 3 ≤ n) : m.length ≤ n := Nat.le_trans g.len h
theorem ok_may {f : Addr} {fd : FuncData} {k : Nat} (F : Fun K "_may_write" "_may_write" sMayWrite f fd) (T : Txt mg) (C__minds : Cal P w K mg base k "_minds" ["writers", "stand", "at"] (spP K RMinds)) : FnOk P w K mg base CX0 (k + 1) f fd ["writers", "stand", "at"] (spP K RMay) := by
  refine F.ok sc__may_write (fun vs H Q E h => ?_) (fun cdv A outer s H vs Q E hr h => ?_)
  · obtain ⟨ds, d, hd, ⟨m, s, k, _, _, _, rfl, _⟩, _⟩ := h
    exact hd.length
  · obtain ⟨ds, d, hd, ⟨m, st, k, g, ft, hk, rfl, rfl⟩, q⟩ := h
    obtain ⟨v0, v1, v2, rfl, h0, h1, h2⟩ := dps3 hd
    obtain rfl := dp_int h2
    refine ⟨_, (pss_cons (ps_asg (pv 1) (pg_tup rfl (pgs_cons (pg_name (i := 3) sc__may_write.nd rfl (.inl rfl)) (pgs_cons (pg_name (i := 4) sc__may_write.nd rfl (.inr rfl)) (pgs_cons (pg_name (i := 5) sc__may_write.nd rfl (.inl rfl)) pgs_nil)))))
    (pss_cons (ps_set (i := 6) sc__may_write.nd rfl (.inl rfl) (pe_ix ix_tup (pe_ix ix_tup (pv 0) (pv 2) (fun _ _ => rfl)) pe_int (fun _ _ => rfl)))
    (pss_cons (ps_if (PW.pt (pw_and (pt_cmpR op_ne (pv 6) pe_int (nomark _)) (pw_and (pt_cmpR op_eq (pe_ix ix_tup (pv 5) pe_int (fun _ _ => rfl)) (pv 2) (nomark _)) (pw_and1 (pt_cmpR op_ge (pe_ix ix_tup (pv 5) pe_int (fun _ _ => rfl)) (pv 6) (nomark _))))))
    (pss_one (ps_ret pe_bl)) pss_nil)
    (pss_cons (ps_setLc (i := 7) (own := [("k", 8)]) (g := (gName 8)) (by rfl) sc__may_write.nd rfl rfl (sw_true rfl rfl rfl (by decide +kernel)) (pi_range1 (by rfl) T.m_range (pa_cons (pe_callB call_len (by rfl) T.m_len PySem.boot_len (pa_cons (pv 0) pa_nil)) pa_nil)) (blkOk_by (own := [("k", 8)]) (N := ["writers", "stand", "at", "_", "waits", "run", "cap", "others", "k"]) (sc := defScope sMayWrite) (by decide +kernel)) (fun _ _ _ _ _ => (pg_name (i := 8) sc__may_write.nd rfl (Or.inl rfl))) (fun _ _ _ _ _ => pts_one (PW.pt (pw_and (pt_cmpR op_ne (pv 8) (pv 2) (nomark _)) (pw_and1 (pt_val (pe_callC C__minds hr (by rfl) (pa_cons (pv 0) (pa_cons (pv 1) (pa_cons (pv 8) pa_nil))))))))) (fun _ _ _ _ _ => (pv 8)))
    (pss_one (ps_ret (pe_callB (cr_all rfl) (by rfl) T.m_all (by decide +kernel) (pa_cons (pe_lc (own := [("k", 8)]) (g := (gName 8)) (by rfl) sc__may_write.nd (pi_list (pv 7)) (blkOk_by (own := [("k", 8)]) (N := ["writers", "stand", "at", "_", "waits", "run", "cap", "others", "k"]) (sc := defScope sMayWrite) (by decide +kernel)) (fun _ _ _ _ _ => (pg_name (i := 8) sc__may_write.nd rfl (Or.inl rfl))) (fun _ _ _ _ _ => pts_nil) (fun _ _ _ _ _ => (pe_cmpR op_lt (pe_ix (show IxR _ (rIxT K) from ix_tup) (pv 4) (pv 8) (fun _ _ => rfl)) (pe_ix (show IxR _ (rIxT K) from ix_tup) (pe_ix (show IxR _ (rIxT K) from ix_tup) (pv 0) (pv 8) (fun _ _ => rfl)) pe_int (fun _ _ => rfl)) (nomark _)))) pa_nil)))))))), ?_⟩
    refine sd_un3 (ed_var rfl h1) fun w0 w1 w2 H1 e1 g0 g1 g2 => ?_
    have h0 := dp_same e1 h0
    have h1 := dp_same e1 h1
    refine sd_asg (ed_ixT (ed_ixT (ed_var rfl h0) (ev_var rfl) (by omega) (dW_get hk)) ev_c (by decide) rfl) fun w3 H2 e2 g3 => ?_
    obtain rfl := dp_int g3
    have h0 := dp_same e2 h0
    have h1 := dp_same e2 h1
    have g1 := dp_same e2 g1
    have g2 := dp_same e2 g2
    have e12 := e1.trans e2
    refine Evl.q_when (b := !decide (V.int (wr m k).2.2.2 = V.int 0) && (decide (V.int st.2.2.1 = V.int (k : Int)) && decide (st.2.2.2 ≥ (wr m k).2.2.2))) (et_and (et_test (ev_op (ev_var rfl) ev_c (rv_ne rfl))) fun _ => et_and (et_test (ev_op (ev_int (ed_ixT (ed_var rfl g2) ev_c (by decide) rfl)) (ev_var rfl) (rv_eq rfl))) fun _ =>
      et_test (ev_op (ev_int (ed_ixT (ed_var rfl g2) ev_c (by decide) rfl)) (ev_var rfl) rv_I0)) (fun hb H3 e3 => ?_) fun hb H3 e3 => ?_
    · refine q (.bl false) H3 (e12.trans e3) ?_
      unfold mayW
      rw [if_pos hb]
      exact .bl false
    · have h0 := dp_same e3 h0
      have h1 := dp_same e3 h1
      have g1 := dp_same e3 g1
      have e13 := e12.trans e3
      refine sd_asg (K := K) (EvN.list (en_lc (List.range m.length) (fun j : Nat => PyData.int (j : Int)) (fun j : Nat => !decide (V.int (j : Int) = V.int (k : Int)) && minds m st j) (fun j : Nat => PyData.int (j : Int)) (ei_range (ea_cons (ev_is (ev_lenD (ed_var rfl h0) (.inr rfl)) (by rw [List.length_map])) ea_nil) (m_le g (by decide))) (by rw [List.length_range]; exact m_le g (by decide)) (fun _ _ => by unfold fz; rfl) fun i a H4 x hx e4 hdx R kk => ?_)) fun w4 H4 e4 g4 => ?_
      · obtain rfl := dp_int hdx
        have ha : a < m.length := by
          have := List.mem_of_getElem? hx
          exact List.mem_range.mp this
        refine kk _ rfl (et_and (et_test (ev_op (ev_var rfl) (ev_var rfl) (rv_ne rfl))) fun _ => et_B (ev_bl (ed_call (eds_cons (ed_var rfl (dp_same e4 h0)) (eds_cons (ed_var rfl (dp_same e4 h1)) (eds_cons (ed_var rfl (.int _)) eds_nil))) ⟨m, st, a, g, ft, ha, rfl, rfl⟩))) fun _ => ed_var rfl (.int _)
      · have h0 := dp_same e4 h0
        have g1 := dp_same e4 g1
        dsimp only
        refine sd_ret (K := K) (ed_bl (ev_allD (bs := ((List.range m.length).filter fun (j : Nat) => !decide (V.int (j : Int) = V.int (k : Int)) && minds m st j).map fun (j : Nat) => decide (wt st j < (wr m j).2.2.1)) (EvN.list ?_))) fun v H5 e5 hv => ?_
        · rw [List.map_map]
          refine en_map _ (fun j : Nat => PyData.int (j : Int)) _ (ei_lst (ed_var rfl g4)) ?_ (fun _ _ => by show fz (PyData.bool _) = true; unfold fz; rfl) fun i a H6 x hx e6 hdx R kk => ?_
          · have h1 := List.length_filter_le (fun j : Nat => !decide (V.int (j : Int) = V.int (k : Int)) && minds m st j) (List.range m.length)
            rw [List.length_range] at h1
            exact Nat.le_trans h1 (m_le g (by decide))
          · obtain rfl := dp_int hdx
            have ha : a < m.length := List.mem_range.mp (List.mem_filter.mp (List.mem_of_getElem? hx)).1
            exact kk _ rfl (ed_bl (ev_op (ev_int (ed_ixT (ed_var rfl (dp_same e6 g1)) (ev_var rfl) (by omega) (dI_get (by rw [ft.l2]; exact ha)))) (ev_int (ed_ixT (ed_ixT (ed_var rfl (dp_same e6 h0)) (ev_var rfl) (by omega) (dW_get ha)) ev_c (by decide) rfl)) rv_I0))
        · refine q v H5 (e13.trans (e4.trans e5)) ?_
          unfold mayW
          rw [if_neg (by rw [hb]; exact Bool.false_ne_true)]
          exact hv
end
end Ink
namespace Ink
open PySem PySem.Spec PyProof.Rows L2 Evl
section
variable {P : Program} {w : World} {K : PySem.W.Frag} {mg : Str → Option Value} {base : Heap}
theorem enum_range (ns : List Int) : enumD (ns.map PyData.int) = (List.range ns.length).map fun j : Nat => PyData.tuple [.int (j : Int), .int (ns.getD j 0)] := by
  unfold enumD
  rw [List.length_map]
  refine List.map_congr_left fun j hj => ?_
  have hj := List.mem_range.mp hj
  rw [List.getD_eq_getElem?_getD, List.getElem?_map, getD_get hj]
  rfl
theorem ok_behind {f : Addr} {fd : FuncData} {k : Nat} (F : Fun K "_behind" "_behind" sBehind f fd) (T : Txt mg) (G__NO_RUN : GlobT K mg "_NO_RUN" (.tuple [.int (-1), .int 0])) (C__minds : Cal P w K mg base k "_minds" ["writers", "stand", "at"] (spP K RMinds)) : FnOk P w K mg base CX0 (k + 1) f fd ["writers", "stand", "at", "to"] (spP K RBehind) := by
  refine F.ok sc__behind (fun vs H Q E h => ?_) (fun cdv A outer s H vs Q E hr h => ?_)
  · obtain ⟨ds, d, hd, ⟨m, s, k, to, _, _, _, rfl, _⟩, _⟩ := h
    exact hd.length
  · obtain ⟨ds, d, hd, ⟨m, st, k, to, g, ft, hk, rfl, rfl⟩, q⟩ := h
    obtain ⟨v0, v1, v2, v3, rfl, h0, h1, h2, h3⟩ := dps4 hd
    obtain rfl := dp_int h2
    obtain rfl := dp_int h3
    refine ⟨_, (pss_cons (ps_asg (pv 1) (pg_tup rfl (pgs_cons (pg_name (i := 4) sc__behind.nd rfl (.inl rfl)) (pgs_cons (pg_name (i := 5) sc__behind.nd rfl (.inl rfl)) (pgs_cons (pg_name (i := 6) sc__behind.nd rfl (.inl rfl)) pgs_nil)))))
    (pss_cons (ps_set (i := 7) sc__behind.nd rfl (.inl rfl) (pe_tup (StX.pa_star (pe_slice sl_tupA (pv 4) po_none (po_some (pv 2))) (pa_cons (pv 3) (StX.pa_star (pe_slice sl_tupA (pv 4) (po_some (pe_op op_add (pv 2) pe_int)) po_none) pa_nil)))))
    (pss_cons (ps_setLc (i := 8) (own := [("k", 10), ("wait", 11)]) (g := (gTup K 2 (gCons (gName 10) (gCons (gName 11) gNil)))) (by rfl) sc__behind.nd rfl rfl (sw_true rfl rfl rfl (by decide +kernel)) (pi_enumT (by rfl) T.m_enumerate (pa_cons (pv 5) pa_nil)) (blkOk_by (own := [("k", 10), ("wait", 11)]) (N := ["writers", "stand", "at", "to", "places", "waits", "run", "then", "kept", "many", "k", "wait"]) (sc := defScope sBehind) (by decide +kernel)) (fun _ _ _ _ _ => (pg_tup rfl (pgs_cons (pg_name (i := 10) sc__behind.nd rfl (.inl rfl)) (pgs_cons (pg_name (i := 11) sc__behind.nd rfl (.inl rfl)) pgs_nil)))) (fun _ _ _ _ _ => pts_nil) (fun _ _ _ _ _ => (pe_ifExp (PW.pt (pw_and (pt_cmpR op_ne (pv 10) (pv 2) (nomark _)) (pw_and1 (pt_val (pe_callC C__minds hr (by rfl) (pa_cons (pv 0) (pa_cons (pv 1) (pa_cons (pv 10) pa_nil)))))))) (pe_op op_add (pv 11) pe_int) pe_int)))
    (pss_cons (ps_if (pt_cmpR op_eq (pe_ix ix_tup (pe_ix ix_tup (pv 0) (pv 2) (fun _ _ => rfl)) pe_int (fun _ _ => rfl)) pe_int (nomark _))
    (pss_one (ps_ret (pe_tup (pa_cons (pv 7) (pa_cons (pe_callTy call_tuple_of (by rfl) T.m_tuple (by decide +kernel) (pa_cons (pv 8) pa_nil)) (pa_cons (pe_globT (by rfl) G__NO_RUN) pa_nil)))))) pss_nil)
    (pss_cons (ps_set (i := 9) sc__behind.nd rfl (.inl rfl) (pe_ifExp (pt_cmpR op_eq (pe_ix ix_tup (pv 6) pe_int (fun _ _ => rfl)) (pv 2) (nomark _)) (pe_op op_add (pe_ix ix_tup (pv 6) pe_int (fun _ _ => rfl)) pe_int) pe_int))
    (pss_one (ps_ret (pe_tup (pa_cons (pv 7) (pa_cons (pe_callTy call_tuple_of (by rfl) T.m_tuple (by decide +kernel) (pa_cons (pv 8) pa_nil)) (pa_cons (pe_tup (pa_cons (pv 2) (pa_cons (pv 9) pa_nil))) pa_nil))))))))))), ?_⟩
    refine sd_un3 (ed_var rfl h1) fun w0 w1 w2 H1 e1 g0 g1 g2 => ?_
    have h0 := dp_same e1 h0
    have h1 := dp_same e1 h1
    refine sd_asg (d := dI (st.1.take k ++ to :: st.1.drop (k + 1))) (ed_is (ed_tup (eds_star (ed_slTo (ed_var rfl g0) (ev_var rfl)) (eds_cons (ed_int (ev_var rfl)) (eds_star (ed_slFrom (k := k + 1) (ed_var rfl g0) (ev_op (ev_var rfl) ev_c rv_I0)) eds_nil))) ?_) ?_) fun w3 H2 e2 g3 => ?_
    · have := g.len
      have := ft.l1
      simp only [List.length_append, List.length_cons, List.length_take, List.length_drop, List.length_map, List.length_nil]
      omega
    · unfold dI
      rw [List.append_nil, List.map_append, List.map_take, List.map_cons, List.map_drop]
    have h0 := dp_same e2 h0
    have h1 := dp_same e2 h1
    have g1 := dp_same e2 g1
    have g2 := dp_same e2 g2
    have e12 := e1.trans e2
    let kept : List Int := (List.range st.2.1.length).map fun (j : Nat) => if (!decide (V.int (j : Int) = V.int (k : Int)) && minds m st j) = true then wt st j + 1 else 0
    have hl2 : st.2.1.length ≤ 40000 := by rw [ft.l2]; exact m_le g (by decide)
    dsimp only
    refine sd_asg (K := K) (EvN.list (ds := kept.map PyData.int) ?_) fun w4 H3 e3 g4 => ?_
    · rw [show kept.map PyData.int = (List.range st.2.1.length).map fun (j : Nat) => PyData.int (if (!decide (V.int (j : Int) = V.int (k : Int)) && minds m st j) = true then wt st j + 1 else 0) from List.map_map]
      refine en_map _ (fun j : Nat => PyData.tuple [.int (j : Int), .int (st.2.1.getD j 0)]) _ (enum_range st.2.1 ▸ ei_enumT (ed_var rfl g1)) (by rw [List.length_range]; exact hl2) (fun _ _ => by show fz (PyData.int _) = true; unfold fz; rfl) fun i a H6 x hx e6 hdx R kk => tg2 hdx fun u1 u2 a1 a2 => ?_
      obtain rfl := dp_int a1
      obtain rfl := dp_int a2
      have ha : a < m.length := by
        rw [← ft.l2]
        exact List.mem_range.mp (List.mem_of_getElem? hx)
      refine kk _ rfl (ed_if (b := !decide (V.int (a : Int) = V.int (k : Int)) && minds m st a) (et_and (et_test (ev_op (ev_var rfl) (ev_var rfl) (rv_ne rfl))) fun _ => et_B (ev_bl (ed_call (eds_cons (ed_var rfl (dp_same e6 h0)) (eds_cons (ed_var rfl (dp_same e6 h1)) (eds_cons (ed_var rfl (.int _)) eds_nil))) ⟨m, st, a, g, ft, ha, rfl, rfl⟩))) (fun hb => ?_) fun hb => ?_)
      · rw [if_pos hb]
        exact ed_int (ev_op (ev_var rfl) ev_c rv_I0)
      · rw [if_neg (by rw [hb]; exact Bool.false_ne_true)]
        exact ed_int ev_c
    · dsimp only
      have h0 := dp_same e3 h0
      have g2 := dp_same e3 g2
      have g3 := dp_same e3 g3
      have e13 := e12.trans e3
      refine Evl.q_when (b := decide (V.int (wr m k).2.2.2 = V.int 0)) (et_test (ev_op (ev_int (ed_ixT (ed_ixT (ed_var rfl h0) (ev_var rfl) (by omega) (dW_get hk)) ev_c (by decide) rfl)) ev_c (rv_eq rfl))) (fun hb H4 e4 => ?_) fun hb H4 e4 => ?_
      · refine sd_ret (K := K) (ed_tup (eds_cons (ed_var rfl (dp_same e4 g3)) (eds_cons (ed_tuple (ed_var rfl (dp_same e4 g4))) (eds_cons ed_globT eds_nil))) (by show 3 ≤ 100000; decide)) fun v H5 e5 hv => ?_
        refine q v H5 (e13.trans (e4.trans e5)) ?_
        unfold behind
        rw [if_pos (of_decide_eq_true hb)]
        exact hv
      · have g2 := dp_same e4 g2
        have g3 := dp_same e4 g3
        have g4 := dp_same e4 g4
        refine sd_asg (K := K) (d := .int (if V.int st.2.2.1 = V.int (k : Int) then st.2.2.2 + 1 else 1)) (ed_if (b := decide (V.int st.2.2.1 = V.int (k : Int))) (et_test (ev_op (ev_int (ed_ixT (ed_var rfl g2) ev_c (by decide) rfl)) (ev_var rfl) (rv_eq rfl))) (fun hm => ?_) fun hm => ?_) fun w5 H5 e5 g5 => ?_
        · rw [if_pos (of_decide_eq_true hm)]
          exact ed_int (ev_op (ev_int (ed_ixT (ed_var rfl g2) ev_c (by decide) rfl)) ev_c rv_I0)
        · rw [if_neg (of_decide_eq_false hm)]
          exact ed_int ev_c
        · dsimp only
          refine sd_ret (K := K) (ed_tup (eds_cons (ed_var rfl (dp_same e5 g3)) (eds_cons (ed_tuple (ed_var rfl (dp_same e5 g4))) (eds_cons (ed_tup (eds_cons (ed_int (ev_var rfl)) (eds_cons (ed_var rfl g5) eds_nil)) (by show 2 ≤ 100000; decide)) eds_nil))) (by show 3 ≤ 100000; decide)) fun v H6 e6 hv => ?_
          refine q v H6 (e13.trans (e4.trans (e5.trans e6))) ?_
          unfold behind
          rw [if_neg (of_decide_eq_false hb)]
          exact hv
end
end Ink
namespace Ink
open PySem PySem.Spec PyProof.Rows L2 Evl
section
variable {P : Program} {w : World} {K : PySem.W.Frag} {mg : Str → Option Value} {base : Heap}
theorem alike_mv (a b : Mv) : PySem.W.alike (dMv a) (dMv b) = true := by
  unfold dMv
  simp only [PySem.W.alike, PySem.W.alikeAll, Bool.and_true]
theorem depth_mv (a : Mv) : (dMv a).depth ≤ 64 := by
  unfold dMv
  simp only [PyData.depth, PyData.depthAll]
  decide
theorem sort_mv (l : List Mv) : (l.map dMv).mergeSort (PySem.W.dataLe false id) = (l.mergeSort leMv).map dMv := by
  have z := List.map_mergeSort (r := leMv) (s := PySem.W.dataLe false id) (f := dMv) (l := l) (fun a _ b _ => rfl)
  exact z.symm
theorem enum_w (m : List Wr) {i : Nat} {d : PyData} (h : (enumD (m.map dW))[i]? = some d) : i < m.length ∧ d = .tuple [.int (i : Int), dW (wr m i)] := by
  have hi : i < m.length := by
    have := (List.getElem?_eq_some_iff.mp h).1
    unfold enumD at this
    rw [List.length_map, List.length_range, List.length_map] at this
    exact this
  have e : (m.map dW)[i]? = some (dW (wr m i)) := by
    rw [List.getElem?_map, wr_get hi]
    rfl
  rw [enumD_get e] at h
  exact ⟨hi, (Option.some.inj h).symm⟩
theorem enum_len (ds : List PyData) : (enumD ds).length = ds.length := by
  unfold enumD
  rw [List.length_map, List.length_range]
theorem ok_steps_of {f : Addr} {fd : FuncData} {k : Nat} (F : Fun K "_steps_of" "_steps_of" sStepsOf f fd) (T : Txt mg) (C__may_write : Cal P w K mg base k "_may_write" ["writers", "stand", "at"] (spP K RMay)) (C__behind : Cal P w K mg base k "_behind" ["writers", "stand", "at", "to"] (spP K RBehind)) :
    FnOk P w K mg base CX0 (k + 1) f fd ["writers", "stand"] (spP K RSteps) := by
  refine F.ok sc__steps_of (fun vs H Q E h => ?_) (fun cdv A outer s H vs Q E hr h => ?_)
  · obtain ⟨ds, d, hd, ⟨m, s, _, _, rfl, _⟩, _⟩ := h
    exact hd.length
  · obtain ⟨ds, d, hd, ⟨m, st, g, ft, rfl, rfl⟩, q⟩ := h
    obtain ⟨v0, v1, rfl, h0, h1⟩ := dps2 hd
    refine ⟨_, (pss_cons (ps_set (i := 2) sc__steps_of.nd rfl (.inl rfl) (pe_lst pa_nil))
    (pss_cons (ps_for PassesOwn.never rfl (pi_enumT (by rfl) T.m_enumerate (pa_cons (pv 0) pa_nil)) (pg_tup rfl (pgs_cons (pg_name (i := 3) sc__steps_of.nd rfl (.inr rfl)) (pgs_cons (pg_name (i := 4) sc__steps_of.nd rfl (.inl rfl)) pgs_nil)))
    (pss_one (ps_if (pt_val (pe_callC C__may_write hr (by rfl) (pa_cons (pv 0) (pa_cons (pv 1) (pa_cons (pv 3) pa_nil)))))
    (pss_one (ps_expr (pe_bm PySem.F.plainAttrs_list PySem.F.slot_list_extend PySem.F.type_list_extend mt_extend (pv 2) (pa_cons (pe_lc (own := [("place", 5), ("sign", 6), ("to", 7)]) (g := (gTup K 3 (gCons (gName 5) (gCons (gName 6) (gCons (gName 7) gNil))))) (by rfl) sc__steps_of.nd (pi_tup (pe_ix ix_tup (pv 4) pe_int (fun _ _ => rfl))) (blkOk_by (own := [("place", 5), ("sign", 6), ("to", 7)]) (N := ["writers", "stand", "moves", "at", "writer", "place", "sign", "to"]) (sc := defScope sStepsOf) (by decide +kernel)) (fun _ _ _ _ _ => (pg_tup rfl (pgs_cons (pg_name (i := 5) sc__steps_of.nd rfl (.inl rfl)) (pgs_cons (pg_name (i := 6) sc__steps_of.nd rfl (.inl rfl)) (pgs_cons (pg_name (i := 7) sc__steps_of.nd rfl (.inl rfl)) pgs_nil))))) (fun _ _ _ _ _ => pts_one (pt_cmpR op_eq (pv 5) (pe_ix (show IxR _ (rIxT K) from ix_tup) (pe_ix (show IxR _ (rIxT K) from ix_tup) (pv 1) pe_int (fun _ _ => rfl)) (pv 3) (fun _ _ => rfl)) (nomark _))) (fun _ _ _ _ _ => (pe_tup (pa_cons (pv 6) (pa_cons (pv 3) (pa_cons (pv 7) pa_nil)))))) pa_nil)))) pss_nil)))
    (pss_one (ps_ret (pe_lc (own := [("sign", 6), ("at", 3), ("to", 7)]) (g := (gTup K 3 (gCons (gName 6) (gCons (gName 3) (gCons (gName 7) gNil))))) (by rfl) sc__steps_of.nd (pi_list (pe_callB (cr_sortedD (hu9 hr)) (by rfl) T.m_sorted (by decide +kernel) (pa_cons (pv 2) pa_nil))) (blkOk_by (own := [("sign", 6), ("at", 3), ("to", 7)]) (N := ["writers", "stand", "moves", "at", "writer", "place", "sign", "to"]) (sc := defScope sStepsOf) (by decide +kernel)) (fun _ _ _ _ _ => (pg_tup rfl (pgs_cons (pg_name (i := 6) sc__steps_of.nd rfl (.inl rfl)) (pgs_cons (pg_name (i := 3) sc__steps_of.nd rfl (.inl rfl)) (pgs_cons (pg_name (i := 7) sc__steps_of.nd rfl (.inl rfl)) pgs_nil))))) (fun _ _ _ _ _ => pts_nil) (fun _ _ _ _ _ => (pe_tup (pa_cons (pv 6) (pa_cons (pe_ix (show IxR _ (rIxT K) from ix_tup) (pe_ix (show IxR _ (rIxT K) from ix_tup) (pv 0) (pv 3) (fun _ _ => rfl)) pe_int (fun _ _ => rfl)) (pa_cons (pe_callC C__behind hr (by rfl) (pa_cons (pv 0) (pa_cons (pv 1) (pa_cons (pv 3) (pa_cons (pv 7) pa_nil))))) pa_nil)))))))))), ?_⟩
    refine sd_asgN (K := K) (en_lst eds_nil (by decide)) fun p vs H1 np e1 hp hvs => ?_
    cases hvs
    dsimp only
    have h0 := dp_same e1 h0
    have h1 := dp_same e1 h1
    have ml := moves_len g st
    refine sd_for (K := K) (ej_enumT (ed_var rfl h0) (fz_map fun x _ => fz_dW x)) (fun H2 i σ' H' => (∃ y3 y4, σ' = [some v0, some v1, some (.ref p), y3, y4, none, none, none]) ∧ TupK K H2 H' ∧ Ex H H' ∧ ∃ vs, H' p = some (.lst vs) ∧ DpAll K H' vs (((List.range i).flatMap (movesAt m st)).map dMv)) (fun H2 e2 => ⟨⟨none, none, rfl⟩, .refl _, e1.trans e2, [], e2 _ _ hp, .nil⟩) (fun H2 i σ' H' hP => hP.2.1) (fun H2 i d x σ' Ha Hb e2 hd hP eab hx => ?_) (fun H2 σ' H' e2 hP => ?_)
    · obtain ⟨⟨y3, y4, rfl⟩, tk, eH, vs, hpa, hvs⟩ := hP
      obtain ⟨hi, rfl⟩ := enum_w m hd
      refine tg2 hx fun u1 u2 a1 a2 => ?_
      obtain rfl := dp_int a1
      have tk1 : TupK K H1 Hb := ((TupK.of e2).trans tk).trans (.of eab)
      have h0 := dp_tk tk1 (fz_dMt m) h0
      have h1 := dp_tk tk1 (fz_dS st) h1
      have hpb := eab _ _ hpa
      have hvs := dps_same eab hvs
      have ef : (List.range (i + 1)).flatMap (movesAt m st) = (List.range i).flatMap (movesAt m st) ++ movesAt m st i := by
        rw [List.range_succ, List.flatMap_append, List.flatMap_cons, List.flatMap_nil, List.append_nil]
      have lb : ((List.range i).flatMap (movesAt m st)).length ≤ 27 := by
        refine Nat.le_trans ?_ ml
        unfold moves
        have : (List.range m.length) = List.range i ++ (List.range (m.length - i)).map (i + ·) := by
          rw [← List.range_add]
          congr 1
          omega
        rw [this, List.flatMap_append, List.length_append]
        omega
      refine s_if (b := mayW m st i) (et_B (ev_bl (ed_call (eds_cons (ed_var rfl h0) (eds_cons (ed_var rfl h1) (eds_cons (ed_var rfl (.int _)) eds_nil))) ⟨m, st, i, g, ft, hi, rfl, rfl⟩))) (fun hb H3 e3 => ?_) fun hb H3 e3 => ?_
      · have h1 := dp_same e3 h1
        have a2 := dp_same e3 a2
        have hl : vs.length ≤ 27 := by
          rw [hvs.length, List.length_map]
          exact lb
        have h9 := (g.at hi).len
        have emv : movesAt m st i = ((wr m i).2.1.filter fun x => decide (V.int x.1 = V.int (pl st i))).map fun x => (x.2.1, i, x.2.2) := by
          unfold movesAt
          rw [if_pos hb]
        refine sd_ext (K := K) (p := p) rfl (e3 _ _ hpb) (ds := (movesAt m st i).map dMv) ?_ (by rw [List.length_map, emv, List.length_map]; have := List.length_filter_le (fun x : Arw => decide (V.int x.1 = V.int (pl st i))) (wr m i).2.1; omega) fun ws H4 e4 hws => ?_
        · rw [emv, List.map_map]
          refine en_lc (wr m i).2.1 dA (fun x => decide (V.int x.1 = V.int (pl st i))) _ (ei_tup (ed_ixT (ed_var rfl a2) ev_c (by decide) rfl)) (by omega) (fun x _ => fz_dMv (x.2.1, i, x.2.2)) fun j a H5 x hx e5 hdx R kk => tg3 hdx fun u1 u2 u3 b1 b2 b3 => ?_
          obtain rfl := dp_int b1
          exact kk _ rfl (et_test (ev_op (ev_var rfl) (ev_int (ed_ixT (ed_ixT (ed_var rfl (dp_same e5 h1)) ev_c (by decide) rfl) (ev_var rfl) (by omega) (dI_get (by rw [ft.l1]; exact hi)))) (rv_eq rfl))) fun _ => ed_tup (eds_cons (ed_var rfl b2) (eds_cons (ed_int (ev_var rfl)) (eds_cons (ed_var rfl b3) eds_nil))) (by show 3 ≤ 100000; decide)
        · have hp4 := e4 _ _ (e3 _ _ hpb)
          have t4 : TupK K H4 (upd H4 p (.lst (vs ++ ws))) := .lst hp4
          refine ⟨⟨_, _, rfl⟩, ((tk.trans (.of eab)).trans (.of (e3.trans e4))).trans t4, Ex.mut (((eH.trans eab).trans e3).trans e4) np, vs ++ ws, upd_same, ?_⟩
          rw [ef, List.map_append]
          exact (dps_tk t4 (fz_map fun x _ => fz_dMv x) (dps_same (e3.trans e4) hvs)).app (dps_tk t4 (fz_map fun x _ => fz_dMv x) hws)
      · refine ⟨⟨_, _, rfl⟩, (tk.trans (.of eab)).trans (.of e3), (eH.trans eab).trans e3, vs, e3 _ _ hpb, ?_⟩
        have emv : movesAt m st i = [] := by
          unfold movesAt
          rw [if_neg (by rw [hb]; exact Bool.false_ne_true)]
        rw [ef, emv, List.append_nil]
        exact dps_same e3 hvs
    · obtain ⟨⟨y3, y4, rfl⟩, tk, eH, vs, hpa, hvs⟩ := hP
      rw [enum_len, List.length_map] at hvs
      have hvs : DpAll K H' vs ((moves m st).map dMv) := hvs
      have tk1 : TupK K H1 H' := (TupK.of e2).trans tk
      have h0 := dp_tk tk1 (fz_dMt m) h0
      have h1 := dp_tk tk1 (fz_dS st) h1
      dsimp only
      refine sd_ret (K := K) (EvN.list (ds := (stepsOf m st).map dStep) ?_) fun v H3 e3 hv => q v H3 (eH.trans e3) hv
      unfold stepsOf
      rw [List.map_map]
      refine en_map ((moves m st).mergeSort leMv) dMv _ ?_ (by rw [List.length_mergeSort]; omega) (fun x _ => fz_dStep (x.1, (wr m x.2.1).1, behind m st x.2.1 x.2.2)) fun j a H5 x hx e5 hdx R kk => tg3 hdx fun u1 u2 u3 b1 b2 b3 => ?_
      · rw [← sort_mv]
        exact ei_lst (EvN.list (en_sorted (ed_var rfl (.lst (.of hpa) hvs)) (PySem.W.AllAlike.of alike_mv) (PySem.W.Sortable.tuples fun b => ⟨_, _, rfl⟩) (fun d hd => by
          obtain ⟨a, _, rfl⟩ := List.mem_map.mp hd
          exact depth_mv a)))
      · obtain rfl := dp_int b2
        have ha : a.2.1 < m.length := by
          have hm := List.mem_of_getElem? hx
          rw [List.mem_mergeSort] at hm
          unfold moves at hm
          obtain ⟨j, hj, hmj⟩ := List.mem_flatMap.mp hm
          unfold movesAt at hmj
          split at hmj
          · obtain ⟨y, _, rfl⟩ := List.mem_map.mp hmj
            exact List.mem_range.mp hj
          · cases hmj
        exact kk _ rfl (ed_tup (eds_cons (ed_var rfl b1) (eds_cons (ed_ixT (ed_ixT (ed_var rfl (dp_same e5 h0)) (ev_var rfl) (by omega) (dW_get ha)) ev_c (by decide) rfl) (eds_cons (ed_call (eds_cons (ed_var rfl (dp_same e5 h0)) (eds_cons (ed_var rfl (dp_same e5 h1)) (eds_cons (ed_var rfl (.int _)) (eds_cons (ed_var rfl b3) eds_nil)))) ⟨m, st, a.2.1, a.2.2, g, ft, ha, rfl, rfl⟩) eds_nil))) (by show 3 ≤ 100000; decide))
end
end Ink
namespace Ink
open PySem PySem.Spec PyProof.Rows L2
/-! ### a drawn writer is one -/
theorem good_okA {x : Arw} (h : goodA x) : okA x = true := by
  obtain ⟨h1, h2, ⟨c, hc, e⟩, h3, h4⟩ := h
  unfold okA within
  rw [e, show isSign (single c) = decide (c ∈ lets) from sign_one c, decide_eq_true hc, decide_eq_true h1, decide_eq_true h2, decide_eq_true h3, decide_eq_true h4]
  rfl
theorem less_lt {x y : Arw} (hx : goodA x) (hy : goodA y) (h : lessA x y) : ltIS x.1 x.2.1 y.1 y.2.1 = true := by
  unfold ltIS
  rcases h with h | ⟨e, h⟩
  · rw [if_neg (by omega)]
    exact decide_eq_true h
  · rw [if_pos e]
    by_cases e2 : x.2.1 = y.2.1
    · rw [e2] at h
      exact absurd h (List.lt_irrefl _)
    · rw [if_neg e2]
      exact decide_eq_true h
theorem good_rise {ar : List Arw} (hg : ∀ x ∈ ar, goodA x) (hr : ar.Pairwise lessA) : riseB ar = true := by
  unfold riseB
  rw [List.all_map]
  refine List.all_eq_true.mpr fun k hk => ?_
  have hk := List.mem_range.mp hk
  show ltAt ar k = true
  have h1 : k < ar.length := by omega
  have h2 : k + 1 < ar.length := by omega
  unfold ltAt
  rw [List.getElem?_eq_getElem h1, List.getElem?_eq_getElem h2]
  exact less_lt (hg _ (List.getElem_mem h1)) (hg _ (List.getElem_mem h2)) ((List.pairwise_iff_getElem.mp hr) k (k + 1) h1 h2 (by omega))
theorem GoodW.is {z : Str} {ar : List Arw} {p c : Int} (g : GoodW z ar p c) : isWr z ar p c = true := by
  unfold isWr areArr within
  have hl := g.len
  rw [name_eq, g.name.is, if_neg (by omega), if_neg (by
    rw [show (ar.map okA).all id = true from by
      rw [List.all_map]
      exact List.all_eq_true.mpr fun x hx => good_okA (g.each x hx)]
    exact fun e => nomatch e), good_rise g.each g.rise, decide_eq_true g.p0, decide_eq_true g.p3, decide_eq_true g.c0, decide_eq_true g.c3]
  rfl
theorem GoodW.short {z : Str} {ar : List Arw} {p c : Int} (g : GoodW z ar p c) : ShortA ar := ⟨by have := g.len; omega, fun x hx => by
  obtain ⟨_, _, ⟨c, _, e⟩, _⟩ := g.each x hx
  rw [e]
  show 1 ≤ 1000
  decide⟩
end Ink
namespace Ink
open PySem PySem.Spec PyProof.Rows L2 Evl
/-! ### writers looked at, as data -/
def dH (x : Arw) : PyData := .tuple [.int x.1, .str x.2.1]
def RAre : List PyData → PyData → Prop := fun ds d => ∃ ar, ShortA ar ∧ ds = [.tuple (ar.map dA)] ∧ d = .bool (areArr ar)
def RIsW : List PyData → PyData → Prop := fun ds d => ∃ w : Wr, ShortA w.2.1 ∧ w.1.length ≤ 1000 ∧ ds = [dW w] ∧ d = .bool (isWr w.1 w.2.1 w.2.2.1 w.2.2.2)
theorem fz_dH (x : Arw) : fz (dH x) = true := by
  unfold dH fz fzAll fzAll fzAll fz
  rfl
def ltP (p : Arw × Arw) : Bool := ltIS p.1.1 p.1.2.1 p.2.1 p.2.2.1
theorem rise_zip (ar : List Arw) : riseB ar = ((ar.zip (ar.drop 1)).map ltP).all id := by
  unfold riseB
  congr 1
  refine List.ext_getElem? fun i => ?_
  rw [List.getElem?_map, List.getElem?_map]
  by_cases h : i < ar.length - 1
  · have h1 : i < ar.length := by omega
    have h2 : i + 1 < ar.length := by omega
    have z : (ar.zip (ar.drop 1))[i]? = some (ar[i], ar[i + 1]) := by
      rw [List.getElem?_zip_eq_some]
      refine ⟨List.getElem?_eq_getElem h1, ?_⟩
      rw [List.getElem?_drop, Nat.add_comm]
      exact List.getElem?_eq_getElem h2
    rw [z, List.getElem?_range h]
    show some (ltAt ar i) = some _
    unfold ltAt
    rw [List.getElem?_eq_getElem h1, List.getElem?_eq_getElem h2]
    rfl
  · rw [List.getElem?_eq_none (by rw [List.length_range]; omega), List.getElem?_eq_none (by rw [List.length_zip, List.length_drop]; omega)]
    rfl
theorem zip_heads (ar : List Arw) : (((ar.map dH).zip ((ar.map dH).drop 1)).map fun p => PyData.tuple [p.1, p.2]) = (ar.zip (ar.drop 1)).map fun p => .tuple [dH p.1, dH p.2] := by
  rw [← List.map_drop, List.zip_map, List.map_map]
  rfl
section
variable {K : PySem.W.Frag} {σ : L2.St} {H : Hp} {ta tb te : TE} {ds : List PyData}
theorem ev_ltISD {i j : Int} {x y : Str} (ha : EvD K ta σ H (.tuple [.int i, .str x])) (hb : EvD K tb σ H (.tuple [.int j, .str y])) : Ev (tOp (rLtIS K) ta tb) σ H (.bl (ltIS i x j y)) := fun H1 e Q q =>
  ha H1 e _ fun v H2 e2 hv => hb H2 (e.trans e2) _ fun u H3 e3 hu => by
    obtain ⟨p, xs, rfl, hs, hxs⟩ := dp_tup (dp_same e3 hv)
    obtain ⟨p', ys, rfl, hs', hys⟩ := dp_tup hu
    obtain ⟨v1, v2, rfl, h1, h2⟩ := dps2 hxs
    obtain ⟨u1, u2, rfl, g1, g2⟩ := dps2 hys
    rw [dp_int h1, dp_str h2] at hs
    rw [dp_int g1, dp_str g2] at hs'
    exact ⟨p, p', i, x, j, y, rfl, rfl, hs, hs', q H3 (e2.trans e3)⟩
theorem en_slFromL {k : Nat} (h : EvD K te σ H (.list ds)) (hk : Ev tb σ H (.int (k : Int))) : EvN K (tSl (rSlL K) te (tPart tb) tNoPart) σ H (ds.drop k) := fun H1 e Q q =>
  h H1 e _ fun v H2 e2 hv => hk H2 (e.trans e2) _ fun H3 e3 => ⟨(k : Int), rfl, by
    obtain ⟨p, xs, rfl, hs, hxs⟩ := dp_lst (dp_same e3 hv)
    refine ⟨p, xs, rfl, hs, fun p2 np => ?_⟩
    rw [vcut_from]
    exact q _ _ _ (fresh_back (e2.trans e3) np) ((e2.trans e3).trans (Ex.new np)) upd_same (dps_same (Ex.new np) (hxs.drop k))⟩
theorem en_slToL {k : Nat} (h : EvD K te σ H (.list ds)) (hk : Ev tb σ H (.int (k : Int))) : EvN K (tSl (rSlL K) te tNoPart (tPart tb)) σ H (ds.take k) := fun H1 e Q q =>
  h H1 e _ fun v H2 e2 hv => hk H2 (e.trans e2) _ fun H3 e3 => ⟨(k : Int), rfl, by
    obtain ⟨p, xs, rfl, hs, hxs⟩ := dp_lst (dp_same e3 hv)
    refine ⟨p, xs, rfl, hs, fun p2 np => ?_⟩
    rw [vcut_to]
    exact q _ _ _ (fresh_back (e2.trans e3) np) ((e2.trans e3).trans (Ex.new np)) upd_same (dps_same (Ex.new np) (hxs.take k))⟩
end
section
variable {P : Program} {w : World} {K : PySem.W.Frag} {mg : Str → Option Value} {base : Heap}
theorem ok_areD {f : Addr} {fd : FuncData} {k : Nat} (F : Fun K "_are_arrows" "_are_arrows" sAreArrows f fd) (T : Txt mg)
    (C__is_place : Cal P w K mg base k "_is_place" ["number"] spPlace) (C_is_sign : Cal P w K mg base k "is_sign" ["text"] spSign) : FnOk P w K mg base CX0 (k + 1) f fd ["arrows"] (spP K RAre) := by
  refine F.ok sc__are_arrows (fun vs H Q E h => ?_) (fun cdv A outer s H vs Q E hr h => ?_)
  · obtain ⟨ds, d, hd, ⟨ar, _, rfl, _⟩, _⟩ := h
    exact hd.length
  · obtain ⟨ds, d, hd, ⟨ar, hsh, rfl, rfl⟩, q⟩ := h
    obtain ⟨v0, rfl, h0⟩ := dps1 hd
    have hz : ar.length ≤ 40000 := by have := hsh.1; omega
    refine ⟨_, (pss_cons (ps_if (pt_cmpR op_gt (pe_callB call_len (by rfl) T.m_len PySem.boot_len (pa_cons (pv 0) pa_nil)) (pe_globI (by rfl) T.e_MOST_ARROWS) (nomark _))
    (pss_one (ps_ret pe_bl)) pss_nil)
    (pss_cons (ps_if (pt_not (pt_val (pe_callB (cr_all rfl) (by rfl) T.m_all (by decide +kernel) (pa_cons (pe_lc (own := [("place", 2), ("sign", 3), ("to", 4)]) (g := (gTup K 3 (gCons (gName 2) (gCons (gName 3) (gCons (gName 4) gNil))))) (by rfl) sc__are_arrows.nd (pi_tup (pv 0)) (blkOk_by (own := [("place", 2), ("sign", 3), ("to", 4)]) (N := ["arrows", "heads", "place", "sign", "to", "_", "head", "following"]) (sc := defScope sAreArrows) (by decide +kernel)) (fun _ _ _ _ _ => (pg_tup rfl (pgs_cons (pg_name (i := 2) sc__are_arrows.nd rfl (.inl rfl)) (pgs_cons (pg_name (i := 3) sc__are_arrows.nd rfl (.inl rfl)) (pgs_cons (pg_name (i := 4) sc__are_arrows.nd rfl (.inl rfl)) pgs_nil))))) (fun _ _ _ _ _ => pts_nil) (fun _ _ _ _ _ => (pe_and (pe_callC C__is_place hr (by rfl) (pa_cons (pv 2) pa_nil)) (pe_and (pe_callC C_is_sign hr (by rfl) (pa_cons (pv 3) pa_nil)) (pe_one (pe_callC C__is_place hr (by rfl) (pa_cons (pv 4) pa_nil))))))) pa_nil))))
    (pss_one (ps_ret pe_bl)) pss_nil)
    (pss_cons (ps_setLc (i := 1) (own := [("place", 2), ("sign", 3), ("_", 5)]) (g := (gTup K 3 (gCons (gName 2) (gCons (gName 3) (gCons (gName 5) gNil))))) (by rfl) sc__are_arrows.nd rfl rfl (sw_true rfl rfl rfl (by decide +kernel)) (pi_tup (pv 0)) (blkOk_by (own := [("place", 2), ("sign", 3), ("_", 5)]) (N := ["arrows", "heads", "place", "sign", "to", "_", "head", "following"]) (sc := defScope sAreArrows) (by decide +kernel)) (fun _ _ _ _ _ => (pg_tup rfl (pgs_cons (pg_name (i := 2) sc__are_arrows.nd rfl (.inl rfl)) (pgs_cons (pg_name (i := 3) sc__are_arrows.nd rfl (.inl rfl)) (pgs_cons (pg_name (i := 5) sc__are_arrows.nd rfl (.inl rfl)) pgs_nil))))) (fun _ _ _ _ _ => pts_nil) (fun _ _ _ _ _ => (pe_tup (pa_cons (pv 2) (pa_cons (pv 3) pa_nil)))))
    (pss_one (ps_ret (pe_callB (cr_all rfl) (by rfl) T.m_all (by decide +kernel) (pa_cons (pe_lc (own := [("head", 6), ("following", 7)]) (g := (gTup K 2 (gCons (gName 6) (gCons (gName 7) gNil)))) (by rfl) sc__are_arrows.nd (pi_zip (by rfl) T.m_zip (pa_cons (pv 1) (pa_cons (pe_slice sl_list (pv 1) (po_some pe_int) po_none) pa_nil))) (blkOk_by (own := [("head", 6), ("following", 7)]) (N := ["arrows", "heads", "place", "sign", "to", "_", "head", "following"]) (sc := defScope sAreArrows) (by decide +kernel)) (fun _ _ _ _ _ => (pg_tup rfl (pgs_cons (pg_name (i := 6) sc__are_arrows.nd rfl (.inl rfl)) (pgs_cons (pg_name (i := 7) sc__are_arrows.nd rfl (.inl rfl)) pgs_nil)))) (fun _ _ _ _ _ => pts_nil) (fun _ _ _ _ _ => (pe_cmpR (show OpR _ _ (rLtIS K) from op_ltIS hr.units0) (pv 6) (pv 7) (nomark _)))) pa_nil))))))), ?_⟩
    refine Evl.q_when (b := decide (((ar.length : Nat) : Int) > 9)) (et_test (ev_op (ev_is (ev_lenD (ed_var rfl h0) (.inr rfl)) (by rw [List.length_map])) ev_c rv_I0)) (fun hb H1 e1 => ?_) fun hb H1 e1 => ?_
    · refine q (.bl false) H1 e1 ?_
      unfold areArr
      rw [if_pos (of_decide_eq_true hb)]
      exact .bl false
    · have h0 := dp_same e1 h0
      have hb : ¬ (9 : Int) < (ar.length : Nat) := of_decide_eq_false hb
      refine Evl.q_when (b := !(ar.map okA).all id) (et_not (et_B (ev_allD (bs := ar.map okA) (EvN.list ?_)))) (fun hb2 H2 e2 => ?_) fun hb2 H2 e2 => ?_
      · rw [List.map_map]
        refine en_map ar dA _ (ei_tup (ed_var rfl h0)) hz (fun x _ => by show fz (PyData.bool _) = true; unfold fz; rfl) fun i x H5 y hx e5 hdx R kk => tg3 hdx fun u1 u2 u3 a1 a2 a3 => ?_
        obtain rfl := dp_int a1
        obtain rfl := dp_str a2
        obtain rfl := dp_int a3
        exact kk _ rfl (ed_bl (ev_andV (ev_call (ea_cons (ev_var rfl) ea_nil) fun H2 Q2 _ q2 => ⟨_, rfl, q2⟩) fun _ => ev_andV (ev_call (ea_cons (ev_var rfl) ea_nil) fun H2 Q2 _ q2 => ⟨_, rfl, hsh.2 x (List.mem_of_getElem? hx), q2⟩) fun _ => ev_call (ea_cons (ev_var rfl) ea_nil) fun H2 Q2 _ q2 => ⟨_, rfl, q2⟩))
      · have hb3 : (ar.map okA).all id = false := Bool.not_eq_true' _ ▸ hb2
        refine q (.bl false) H2 (e1.trans e2) ?_
        unfold areArr
        rw [if_neg hb, if_pos hb3]
        exact .bl false
      · have hb3 : ¬ (ar.map okA).all id = false := fun z => by
          rw [z] at hb2
          cases hb2
        have h0 := dp_same e2 h0
        refine sd_asg (K := K) (EvN.list (ds := ar.map dH) (en_map ar dA dH (ei_tup (ed_var rfl h0)) hz (fun x _ => fz_dH x) fun i x H5 y hx e5 hdx R kk => tg3 hdx fun u1 u2 u3 a1 a2 a3 => ?_)) fun w1 H3 e3 g1 => ?_
        · exact kk _ rfl (ed_tup (eds_cons (ed_var rfl a1) (eds_cons (ed_var rfl a2) eds_nil)) (by show 2 ≤ 100000; decide))
        · dsimp only
          refine sd_ret (K := K) (ed_bl (ev_allD (bs := (ar.zip (ar.drop 1)).map ltP) (EvN.list ?_))) fun v H4 e4 hv => ?_
          · rw [List.map_map]
            refine en_map (ar.zip (ar.drop 1)) (fun p => .tuple [dH p.1, dH p.2]) _ ?_ (by rw [List.length_zip]; omega) (fun x _ => by show fz (PyData.bool _) = true; unfold fz; rfl) fun i x H5 y hx e5 hdx R kk => tg2 hdx fun u1 u2 a1 a2 => ?_
            · rw [← zip_heads]
              exact ei_zip (tx := tNil) (ed_var rfl g1) (en_slFromL (k := 1) (ed_var rfl g1) ev_c).list (.inr trivial)
            · exact kk _ rfl (ed_bl (ev_ltISD (ed_var rfl a1) (ed_var rfl a2)))
          · refine q v H4 (((e1.trans e2).trans e3).trans e4) ?_
            unfold areArr
            rw [if_neg hb, if_neg hb3, rise_zip]
            exact hv
theorem ok_is_writerD {f : Addr} {fd : FuncData} {k : Nat} (F : Fun K "is_writer" "is_writer" sIsWriter f fd) (T : Txt mg) (C_is_name : Cal P w K mg base k "is_name" ["text"] spName)
    (C__are_arrows : Cal P w K mg base k "_are_arrows" ["arrows"] (spP K RAre)) (C__is_count : Cal P w K mg base k "_is_count" ["number"] spCount) : FnOk P w K mg base CX0 (k + 1) f fd ["thing"] (spP K RIsW) := by
  refine F.ok sc_is_writer (fun vs H Q E h => ?_) (fun cdv A outer s H vs Q E hr h => ?_)
  · obtain ⟨ds, d, hd, ⟨w, _, _, rfl, _⟩, _⟩ := h
    exact hd.length
  · obtain ⟨ds, d, hd, ⟨w, hsh, hz, rfl, rfl⟩, q⟩ := h
    obtain ⟨v0, rfl, h0⟩ := dps1 hd
    refine ⟨_, (pss_cons (ps_if (pt_cmpR op_ne (pe_callB call_len (by rfl) T.m_len PySem.boot_len (pa_cons (pv 0) pa_nil)) pe_int (nomark _))
    (pss_one (ps_ret pe_bl)) pss_nil)
    (pss_cons (ps_asg (pv 0) (pg_tup rfl (pgs_cons (pg_name (i := 1) sc_is_writer.nd rfl (.inl rfl)) (pgs_cons (pg_name (i := 2) sc_is_writer.nd rfl (.inl rfl)) (pgs_cons (pg_name (i := 3) sc_is_writer.nd rfl (.inl rfl)) (pgs_cons (pg_name (i := 4) sc_is_writer.nd rfl (.inl rfl)) pgs_nil))))))
    (pss_one (ps_ret (pe_and (pe_callC C_is_name hr (by rfl) (pa_cons (pv 1) pa_nil)) (pe_and (pe_callC C__are_arrows hr (by rfl) (pa_cons (pv 2) pa_nil)) (pe_and (pe_callC C__is_count hr (by rfl) (pa_cons (pv 3) pa_nil)) (pe_one (pe_callC C__is_count hr (by rfl) (pa_cons (pv 4) pa_nil)))))))))), ?_⟩
    refine Evl.q_when (b := !decide (V.int (([PyData.str w.1, .tuple (w.2.1.map dA), .int w.2.2.1, .int w.2.2.2].length : Nat) : Int) = V.int 4)) (et_test (ev_op (ev_lenD (ed_var rfl h0) (.inr rfl)) ev_c (rv_ne rfl))) (fun hb H1 e1 => ?_) fun hb H1 e1 => ?_
    · cases hb
    · have h0 := dp_same e1 h0
      refine sd_un4 (ed_var rfl h0) fun w0 w1 w2 w3 H2 e2 g0 g1 g2 g3 => ?_
      obtain rfl := dp_str g0
      obtain rfl := dp_int g2
      obtain rfl := dp_int g3
      dsimp only
      refine sd_ret (K := K) (ed_bl (ev_andV (ev_call (ea_cons (ev_var rfl) ea_nil) fun H2 Q2 _ q2 => ⟨_, rfl, hz, q2⟩) fun _ => ev_andV (ev_bl (ed_call (eds_cons (ed_var rfl g1) eds_nil) ⟨w.2.1, hsh, rfl, rfl⟩)) fun _ => ev_andV (ev_call (ea_cons (ev_var rfl) ea_nil) fun H2 Q2 _ q2 => ⟨_, rfl, q2⟩) fun _ => ev_call (ea_cons (ev_var rfl) ea_nil) fun H2 Q2 _ q2 => ⟨_, rfl, q2⟩)) fun v H3 e3 hv => q v H3 ((e1.trans e2).trans e3) hv
end
end Ink
namespace Ink
open PySem PySem.Spec PyProof.Rows L2 Evl
/-! ### companies as objects -/
/-- all but lists stay -/
def Fr (H H' : Hp) : Prop := ∀ b o, H b = some o → (∀ xs, o ≠ .lst xs) → H' b = some o
theorem Fr.refl (H : Hp) : Fr H H := fun _ _ e _ => e
theorem Fr.trans {H H1 H2 : Hp} (a : Fr H H1) (b : Fr H1 H2) : Fr H H2 := fun c o e n => b c o (a c o e n) n
theorem Fr.of {H H' : Hp} (e : Same H H') : Fr H H' := fun b o h _ => e b o h
theorem Fr.keep {a l : Addr} {H H' : Hp} (b : BagAt H a l) (k : Keep a H H') : Fr H H' := fun c o e n => k c o (fun z => by
  obtain ⟨ns, p, h, s, h1, _⟩ := b
  rw [z, h1] at e
  exact n _ (Option.some.inj e).symm) e
theorem Fr.lst {H : Hp} {p : Addr} {xs : List V} {o : HO} (h : H p = some (.lst xs)) : Fr H (upd H p o) := fun c o' e n => by
  rw [upd_ne (fun z => by rw [z, h] at e; exact n _ (Option.some.inj e).symm)]
  exact e
theorem Fr.tk {K : PySem.W.Frag} {H H' : Hp} (f : Fr H H') : TupK K H H' := fun b xs h => by
  rcases h with (h | ⟨o, h⟩) | h
  · exact .inl (.inl (f _ _ h fun _ z => by cases z))
  · exact .inl (.inr ⟨o, f _ _ h fun _ z => by cases z⟩)
  · exact .inr h
/-- all but what is kept of dicts stays -/
def KX (H H' : Hp) : Prop := ∀ b o, H b = some o → (∀ f, o ≠ .ext f) → H' b = some o
theorem KX.refl (H : Hp) : KX H H := fun _ _ e _ => e
theorem KX.trans {H H1 H2 : Hp} (a : KX H H1) (b : KX H1 H2) : KX H H2 := fun c o e n => b c o (a c o e n) n
theorem KX.of {H H' : Hp} (e : Same H H') : KX H H' := fun b o h _ => e b o h
theorem KX.l {K : PySem.W.Frag} {H H' : Hp} (f : KX H H') : ∀ b xs, SqL K H b xs → SqL K H' b xs := fun b xs h => by
  rcases h with (h | ⟨o, h⟩) | h
  · exact .inl (.inl (f _ _ h fun _ z => by cases z))
  · exact .inl (.inr ⟨o, f _ _ h fun _ z => by cases z⟩)
  · exact .inr h
theorem KX.t {K : PySem.W.Frag} {H H' : Hp} (f : KX H H') : ∀ b xs, SqT K H b xs → SqT K H' b xs := fun b xs h => by
  rcases h with (h | ⟨o, h⟩) | h
  · exact .inl (.inl (f _ _ h fun _ z => by cases z))
  · exact .inl (.inr ⟨o, f _ _ h fun _ z => by cases z⟩)
  · exact .inr h
theorem KX.dp {K : PySem.W.Frag} {H H' : Hp} {v : V} {d : PyData} (f : KX H H') (h : Dp K H v d) : Dp K H' v d := dp_up f.l f.t d v h
theorem KX.dps {K : PySem.W.Frag} {H H' : Hp} {vs : List V} {ds : List PyData} (f : KX H H') (h : DpAll K H vs ds) : DpAll K H' vs ds := dps_up f.l f.t ds vs h
theorem KX.lst {H H' : Hp} {p : Addr} {xs : List V} (f : KX H H') (h : H p = some (.lst xs)) : H' p = some (.lst xs) := f _ _ h fun _ z => by cases z
theorem KX.bag {H H' : Hp} {a l : Addr} (f : KX H H') (b : BagAt H a l) : BagAt H' a l := by
  obtain ⟨ns, p, h, s, h1, h2, r⟩ := b
  exact ⟨ns, p, h, s, f.lst h1, f.lst h2, r⟩
structure CoC (K : PySem.W.Frag) (C : Addr) : Prop where
  cl : Cls K C
  nW : NoAttr K C "_writers"
  nF : NoAttr K C "_found"
theorem kwf : ¬ (("_writers" : Str) = "_found") := by decide +kernel
def coF (tw d : Addr) : List (Str × V) := putF "_found" (.ref d) (putF "_writers" (.ref tw) [])
theorem coF_eq (tw d : Addr) : coF tw d = ([("_writers", V.ref tw), ("_found", V.ref d)] : List (Str × V)) := by
  show (if ("_writers" : Str) = "_found" then [(("_writers" : Str), V.ref d)] else (("_writers" : Str), V.ref tw) :: putF "_found" (V.ref d) []) = _
  rw [if_neg kwf]
  rfl
theorem coF_w (tw d : Addr) : (coF tw d).lookup ("_writers" : Str) = some (.ref tw) := by
  unfold coF
  rw [lookup_putF, if_neg kwf, lookup_putF, if_pos rfl]
theorem coF_f (tw d : Addr) : (coF tw d).lookup ("_found" : Str) = some (.ref d) := by
  unfold coF
  rw [lookup_putF, if_pos rfl]
theorem coF_no (tw d : Addr) {m : Str} (h1 : ¬ m = "_found") (h2 : ¬ m = "_writers") : (coF tw d).lookup m = none := by
  unfold coF
  rw [lookup_putF, if_neg h1, lookup_putF, if_neg h2]
  rfl
/-- a stand as a key -/
def kS (s : Std) : NK := .tup [.tup (s.1.map .num), .tup (s.2.1.map .num), .tup [.num s.2.2.1, .num s.2.2.2]]
theorem datas_num : ∀ ns : List Int, NestedKey.datas (ns.map .num) = ns.map PyData.int
  | [] => by
    simp only [List.map_nil]
    unfold NestedKey.datas
    rfl
  | n :: ns => by
    simp only [List.map_cons]
    unfold NestedKey.datas NestedKey.data
    rw [datas_num ns]
theorem depth_num : ∀ ns : List Int, NestedKey.depthAll (ns.map .num) ≤ 1
  | [] => by
    simp only [List.map_nil, NestedKey.depthAll]
    decide
  | n :: ns => by
    have := depth_num ns
    simp only [List.map_cons, NestedKey.depthAll, NestedKey.depth]
    omega
theorem kS_data (s : Std) : (kS s).data = dS s := by
  unfold kS dS dI
  simp only [NestedKey.data, NestedKey.datas, datas_num]
theorem kS_depth (s : Std) : (kS s).depth ≤ 8 := by
  have h1 := depth_num s.1
  have h2 := depth_num s.2.1
  unfold kS
  simp only [NestedKey.depth, NestedKey.depthAll]
  omega
theorem num_inj : ∀ {a b : List Int}, a.map NestedKey.num = b.map NestedKey.num → a = b
  | [], [], _ => rfl
  | [], _ :: _, h => by cases h
  | _ :: _, [], h => by cases h
  | x :: a, y :: b, h => by
    rw [List.map_cons, List.map_cons] at h
    injection h with h1 h2
    injection h1 with h1
    rw [h1, num_inj h2]
theorem kS_inj {s s' : Std} (h : kS s = kS s') : s = s' := by
  obtain ⟨p, q, r, t⟩ := s
  obtain ⟨p', q', r', t'⟩ := s'
  unfold kS at h
  injection h with h
  injection h with h1 h
  injection h with h2 h
  injection h with h3 _
  injection h1 with h1
  injection h2 with h2
  injection h3 with h3
  injection h3 with h3 h4
  injection h4 with h4 _
  injection h3 with h3
  injection h4 with h4
  have h1 := num_inj h1
  have h2 := num_inj h2
  subst h1 h2 h3 h4
  rfl
theorem key_at {K : PySem.W.Frag} {H : Hp} {v : V} {s : Std} (h : Dp K H v (dS s)) : KeyAt K H v (kS s) := ⟨by rw [kS_data]; exact h, kS_depth s, _, rfl⟩
/-- what it keeps are steps of stands -/
def Cached (K : PySem.W.Frag) (H : Hp) (m : List Wr) (kvs : List (NK × V)) : Prop := ∀ kv ∈ kvs, ∃ s, kv.1 = kS s ∧ Dp K H kv.2 (.tuple ((stepsOf m s).map dStep))
theorem fz_steps (m : List Wr) (s : Std) : fz (.tuple ((stepsOf m s).map dStep)) = true := by
  unfold fz
  exact fz_map fun x _ => fz_dStep x
theorem Cached.up {K : PySem.W.Frag} {H H' : Hp} {m : List Wr} {kvs : List (NK × V)} (t : TupK K H H') (h : Cached K H m kvs) : Cached K H' m kvs := fun kv hk => by
  obtain ⟨s, e, hd⟩ := h kv hk
  exact ⟨s, e, dp_tk t (fz_steps m s) hd⟩
def CoAt (P : Program) (w : World) (K : PySem.W.Frag) (C : Addr) (H : Hp) (c : Addr) (m : List Wr) (n : Nat) : Prop :=
  ∃ dx tw d kvs, H c = some (.ins C dx (coF tw d)) ∧ Dp K H (.ref tw) (dMt m) ∧ DicAt P w K H d kvs ∧ Cached K H m kvs ∧ kvs.length ≤ n
theorem CoAt.fr {P : Program} {w : World} {K : PySem.W.Frag} {C : Addr} {H H' : Hp} {c : Addr} {m : List Wr} {n : Nat} (f : Fr H H') (h : CoAt P w K C H c m n) : CoAt P w K C H' c m n := by
  obtain ⟨dx, tw, d, kvs, h1, h2, h3, h4, h5⟩ := h
  refine ⟨dx, tw, d, kvs, f _ _ h1 (fun _ z => by cases z), dp_tk f.tk (fz_dMt m) h2, h3.up ?_ f.tk, h4.up f.tk, h5⟩
  obtain ⟨xs, e, _⟩ := h3
  rw [e]
  exact f _ _ e dicO_ne.1
theorem look_new {kvs : List (NK × V)} {k : NK} {v : V} (h : lookN kvs k = none) : putN kvs k v = kvs ++ [(k, v)] ∧ lookN (putN kvs k v) k = some v := by
  have e : putN kvs k v = kvs ++ [(k, v)] := by
    unfold putN
    rw [h]
    rfl
  refine ⟨e, ?_⟩
  rw [e]
  unfold lookN at h ⊢
  rw [List.find?_append]
  cases hf : kvs.find? (fun kv => decide (kv.1 = k)) with
  | some x =>
    rw [hf] at h
    cases h
  | none => simp
theorem look_in {kvs : List (NK × V)} {k : NK} {v : V} (h : lookN kvs k = some v) : (k, v) ∈ kvs := by
  unfold lookN at h
  cases hf : kvs.find? (fun kv => decide (kv.1 = k)) with
  | none =>
    rw [hf] at h
    cases h
  | some x =>
    rw [hf] at h
    have e := Option.some.inj h
    have e1 := of_decide_eq_true (List.find?_some (p := fun kv : NK × V => decide (kv.1 = k)) hf)
    have e2 := List.mem_of_find?_eq_some hf
    have z : x = (k, v) := by
      obtain ⟨x1, x2⟩ := x
      exact Prod.ext e1 e
    rw [← z]
    exact e2
/-! ### readings with fields -/
section
variable {P : Program} {w : World} {K : PySem.W.Frag} {σ : L2.St} {H : Hp} {ta tb te : TE} {v : V} {ds : List PyData}
theorem ev_fld {c C dx : Addr} {fs : List (Str × V)} {f : Str} (ha : Ev ta σ H (.ref c)) (hc : H c = some (.ins C dx fs)) (cl : Cls K C) (no : NoAttr K C f) (l : fs.lookup f = some v) : Ev (tFld K ta f) σ H v := fun H1 e Q q =>
  ha H1 e _ fun H2 e2 => ⟨c, C, dx, fs, v, rfl, e2 _ _ (e _ _ hc), cl, no, l, q H2 e2⟩
theorem ev_notinN {d : Addr} {kvs : List (NK × V)} {k : NK} (ha : Ev ta σ H v) (hv : KeyAt K H v k) (hb : Ev tb σ H (.ref d)) (hd : DicAt P w K H d kvs) : Ev (tOp (rInN P w K true) ta tb) σ H (.bl (!(lookN kvs k).isSome)) := fun H1 e Q q =>
  ha H1 e _ fun H2 e2 => hb H2 (e.trans e2) _ fun H3 e3 => ⟨k, d, kvs, rfl, hv.up fun _ _ h => ex_t ((e.trans e2).trans e3) h, hd.same ((e.trans e2).trans e3), q H3 (e2.trans e3)⟩
theorem ev_dget {d : Addr} {kvs : List (NK × V)} {k : NK} {u : V} (hb : Ev tb σ H (.ref d)) (hd : DicAt P w K H d kvs) (ha : Ev ta σ H v) (hv : KeyAt K H v k) (l : lookN kvs k = some u) : Ev (tDGetN P w K tb ta) σ H u := fun H1 e Q q =>
  hb H1 e _ fun H2 e2 => ha H2 (e.trans e2) _ fun H3 e3 => ⟨d, kvs, k, u, rfl, hd.same ((e.trans e2).trans e3), hv.up fun _ _ h => ex_t ((e.trans e2).trans e3) h, l, q H3 (e2.trans e3)⟩
theorem inV_strs (z : Str) : ∀ zs : List Str, inV (.str z) (zs.map V.str) = decide (z ∈ zs)
  | [] => rfl
  | y :: zs => by
    have ih := inV_strs z zs
    unfold inV at ih ⊢
    rw [List.map_cons, List.any_cons, ih]
    show ((y == z) || decide (z ∈ zs)) = decide (z ∈ y :: zs)
    rw [Bool.eq_iff_iff]
    simp only [Bool.or_eq_true, beq_iff_eq, decide_eq_true_eq, List.mem_cons]
    exact or_congr ⟨Eq.symm, Eq.symm⟩ Iff.rfl
theorem dps_str : ∀ {vs : List V} {zs : List Str}, DpAll K H vs (zs.map PyData.str) → vs = zs.map V.str
  | _, [], h => by cases h; rfl
  | _, z :: zs, h => by
    cases h with
    | cons h t =>
      rw [dp_str h, dps_str t]
      rfl
theorem ev_inS {z : Str} {zs : List Str} {neg : Bool} {d : PyData} (ha : Ev ta σ H (.str z)) (hb : EvD K tb σ H d) (hd : d = .list (zs.map PyData.str) ∨ d = .tuple (zs.map PyData.str)) : Ev (tOp (rIn K neg) ta tb) σ H (.bl (if neg then !decide (z ∈ zs) else decide (z ∈ zs))) := fun H1 e Q q =>
  ha H1 e _ fun H2 e2 => hb H2 (e.trans e2) _ fun v H3 e3 hv => by
    have fl : (zs.map V.str).all flatV = true := List.all_eq_true.mpr fun x hx => by
      obtain ⟨m, _, rfl⟩ := List.mem_map.mp hx
      rfl
    rcases hd with rfl | rfl
    · obtain ⟨p, xs, rfl, hs, hxs⟩ := dp_lst hv
      rw [dps_str hxs] at hs
      exact ⟨p, _, rfl, .inl hs, rfl, fl, by rw [inV_strs]; exact q H3 (e2.trans e3)⟩
    · obtain ⟨p, xs, rfl, hs, hxs⟩ := dp_tup hv
      rw [dps_str hxs] at hs
      exact ⟨p, _, rfl, .inr hs, rfl, fl, by rw [inV_strs]; exact q H3 (e2.trans e3)⟩
/-- a loop that leaves all as it stands -/
theorem sd_forS {D : Ends} {tu : TS} {ti : TI} {g : TG} (hi : EvI K ti σ H ds) (Pv : Hp → Nat → L2.St → Hp → Prop) (h0 : ∀ H2, Ex H H2 → Pv H2 0 σ H2) (hT : ∀ H2 i σ' H', Pv H2 i σ' H' → Ex H2 H')
    (hs : ∀ H2 i d x σ' H' H'', Ex H H2 → ds[i]? = some d → Pv H2 i σ' H' → Ex H' H'' → Dp K H'' x d → g x σ' H'' fun σ2 H3 => tu { D with nx := Pv H2 (i + 1), ct := Pv H2 (i + 1), bk := D.nx } σ2 H3)
    (hd : ∀ H2 σ' H', Ex H H2 → Pv H2 ds.length σ' H' → D.nx σ' H') : tFor ti g tu D σ H :=
  hi H (Ex.refl H) _ fun J H2 e2 W => for_it W (Pv H2) (h0 H2 e2) (fun i σ' H' _ hP => hT H2 i σ' H' hP) (fun i x σ' Ha Hb hi hP hy => by
    obtain ⟨e3, d, h1, h2⟩ := hy
    exact hs H2 i d x σ' Ha Hb e2 h1 hP e3 h2) (fun σ' H' hP => hd H2 σ' H' e2 hP)
end
end Ink
namespace Ink
open PySem PySem.Spec PyProof.Rows L2 Evl
def RNeed (c : List PyData → PyData) : List PyData → PyData → Prop := fun ds d => ∃ m, GoodM m ∧ ds = [c (m.map dW)] ∧ d = .none
def beginS (m : List Wr) : Std := (List.replicate m.length 0, List.replicate m.length 0, -1, 0)
def spInit (P : Program) (w : World) (K : PySem.W.Frag) (C : Addr) (c : List PyData → PyData) : Sp := fun vs H Q _ => ∃ p dx v m, vs = [.ref p, v] ∧ H p = some (.ins C dx []) ∧ Dp K H v (c (m.map dW)) ∧ GoodM m ∧
  ∀ H', (∀ b o, H b = some o → b ≠ p → H' b = some o) → CoAt P w K C H' p m 0 → Q .non H'
def spBegin (P : Program) (w : World) (K : PySem.W.Frag) (C : Addr) : Sp := fun vs H Q _ => ∃ c m n, vs = [.ref c] ∧ CoAt P w K C H c m n ∧ m.length ≤ 3 ∧ ∀ v H', Same H H' → Dp K H' v (dS (beginS m)) → Q v H'
def spSteps (P : Program) (w : World) (K : PySem.W.Frag) (C : Addr) : Sp := fun vs H Q _ => ∃ c m n v s, vs = [.ref c, v] ∧ CoAt P w K C H c m n ∧ n < 90000 ∧ GoodM m ∧ Fits m s ∧ Dp K H v (dS s) ∧
  ∀ p vs H', H p = none → KX H H' → CoAt P w K C H' c m (n + 1) → H' p = some (.lst vs) → DpAll K H' vs ((stepsOf m s).map dStep) → Q (.ref p) H'
theorem sd_fld {K : PySem.W.Frag} {σ : L2.St} {H : Hp} {ta tv : TE} {f : Str} {d : PyData} {D : Ends} (h : EvD K tv σ H d)
    (k : ∀ y H1, Ex H H1 → Dp K H1 y d → ta σ H1 fun x H2 => ∃ a C dx fs, x = .ref a ∧ H2 a = some (.ins C dx fs) ∧ Cls K C ∧ NoAttr K C f ∧ fs.length < 1000 ∧ D.nx σ (upd H2 a (.ins C dx (putF f y fs)))) : sFld K ta tv f D σ H := h H (.refl H) _ k
theorem GoodM.isw {m : List Wr} (g : GoodM m) {x : Wr} (h : x ∈ m) : ShortA x.2.1 ∧ x.1.length ≤ 1000 ∧ isWr x.1 x.2.1 x.2.2.1 x.2.2.2 = true := by
  have w := g.wr x h
  refine ⟨w.short, ?_, w.is⟩
  have := w.name.2.1
  omega
theorem names_get {m : List Wr} {i : Nat} {d : PyData} (h : (enumD ((m.map (·.1)).map PyData.str))[i]? = some d) : i < m.length ∧ d = .tuple [.int (i : Int), .str (wr m i).1] := by
  have hi : i < m.length := by
    have := (List.getElem?_eq_some_iff.mp h).1
    rw [enum_len, List.length_map, List.length_map] at this
    exact this
  have e : ((m.map (·.1)).map PyData.str)[i]? = some (.str (wr m i).1) := by
    rw [List.getElem?_map, List.getElem?_map, wr_get hi]
    rfl
  rw [enumD_get e] at h
  exact ⟨hi, (Option.some.inj h).symm⟩
theorem name_not {m : List Wr} (g : GoodM m) {i : Nat} (hi : i < m.length) : (wr m i).1 ∉ (m.map (·.1)).take i := by
  have nd := g.nd
  have e : (m.map (·.1))[i]? = some (wr m i).1 := by
    rw [List.getElem?_map, wr_get hi]
    rfl
  obtain ⟨h1, h2⟩ := List.getElem?_eq_some_iff.mp e
  intro hm
  obtain ⟨j, hj, ej⟩ := List.mem_take_iff_getElem.mp hm
  rw [← h2] at ej
  exact (List.pairwise_iff_getElem.mp nd) j i (by omega) h1 (by omega) ej
section
variable {P : Program} {w : World} {K : PySem.W.Frag} {mg : Str → Option Value} {base : Heap}
theorem ok_needL {f : Addr} {fd : FuncData} {k : Nat} (F : Fun K "_need_company" "_need_company" sNeedCompany f fd) (T : Txt mg) (C_is_writer : Cal P w K mg base k "is_writer" ["thing"] (spP K RIsW)) : FnOk P w K mg base CX0 (k + 1) f fd ["writers"] (spP K (RNeed .list)) := by
  refine F.ok sc__need_company (fun vs H Q E h => ?_) (fun cdv A outer s H vs Q E hr h => ?_)
  · obtain ⟨ds, d, hd, ⟨m, _, rfl, _⟩, _⟩ := h
    exact hd.length
  · obtain ⟨ds, d, hd, ⟨m, g, rfl, rfl⟩, q⟩ := h
    obtain ⟨v0, rfl, h0⟩ := dps1 hd
    have l3 := g.len
    refine ⟨_, (pss_cons (ps_for PassesOwn.never rfl (pi_enum (by rfl) T.m_enumerate (pa_cons (pv 0) pa_nil)) (pg_tup rfl (pgs_cons (pg_name (i := 1) sc__need_company.nd rfl (.inl rfl)) (pgs_cons (pg_name (i := 2) sc__need_company.nd rfl (.inl rfl)) pgs_nil)))
    (pss_one (ps_if (pt_not (pt_val (pe_callC C_is_writer hr (by rfl) (pa_cons (pv 2) pa_nil))))
    (pss_one ps_never) pss_nil)))
    (pss_cons (ps_setLc (i := 3) (own := [("writer", 2)]) (g := (gName 2)) (by rfl) sc__need_company.nd rfl rfl (sw_true rfl rfl rfl (by decide +kernel)) (pi_list (pv 0)) (blkOk_by (own := [("writer", 2)]) (N := ["writers", "at", "writer", "names", "name"]) (sc := defScope sNeedCompany) (by decide +kernel)) (fun _ _ _ _ _ => (pg_name (i := 2) sc__need_company.nd rfl (Or.inl rfl))) (fun _ _ _ _ _ => pts_nil) (fun _ _ _ _ _ => (pe_ix (show IxR _ (rIxT K) from ix_tup) (pv 2) pe_int (fun _ _ => rfl))))
    (pss_cons (ps_for PassesOwn.never rfl (pi_enum (by rfl) T.m_enumerate (pa_cons (pv 3) pa_nil)) (pg_tup rfl (pgs_cons (pg_name (i := 1) sc__need_company.nd rfl (.inl rfl)) (pgs_cons (pg_name (i := 4) sc__need_company.nd rfl (.inl rfl)) pgs_nil)))
    (pss_one (ps_if (pt_cmpR (show OpR _ _ (rIn K false) from op_in_seq) (pv 4) (pe_slice sl_list (pv 3) po_none (po_some (pv 1))) (by rfl))
    (pss_one ps_never) pss_nil)))
    (pss_one (ps_if (pt_cmpR op_gt (pe_callB call_len (by rfl) T.m_len PySem.boot_len (pa_cons (pv 0) pa_nil)) (pe_globI (by rfl) T.e_MOST_WRITERS) (nomark _))
    (pss_one ps_never) pss_nil))))), ?_⟩
    refine sd_forS (K := K) (ei_enum (ed_var rfl h0)) (fun H2 i σ' H' => (∃ y1 y2, σ' = [some v0, y1, y2, none, none]) ∧ Ex H2 H') (fun H2 e2 => ⟨⟨none, none, rfl⟩, .refl _⟩) (fun H2 i σ' H' hP => hP.2) (fun H2 i d x σ' Ha Hb e2 hd hP eab hx => ?_) (fun H2 σ' H' e2 hP => ?_)
    · obtain ⟨⟨y1, y2, rfl⟩, ex⟩ := hP
      obtain ⟨hi, rfl⟩ := enum_w m hd
      obtain ⟨i1, i2, i3⟩ := g.isw (List.mem_of_getElem? (wr_get hi))
      refine tg2 hx fun u1 u2 a1 a2 => ?_
      refine Evl.s_when (b := !isWr (wr m i).1 (wr m i).2.1 (wr m i).2.2.1 (wr m i).2.2.2) (et_not (et_B (ev_bl (ed_call (eds_cons (ed_var rfl a2) eds_nil) ⟨wr m i, i1, i2, rfl, rfl⟩)))) (fun hb => ?_) fun hb H3 e3 => ⟨⟨_, _, rfl⟩, ex.trans (eab.trans e3)⟩
      rw [i3] at hb
      cases hb
    · obtain ⟨⟨y1, y2, rfl⟩, ex⟩ := hP
      have e1 := e2.trans ex
      have h0 := dp_same e1 h0
      dsimp only
      refine sd_asg (K := K) (EvN.list (ds := (m.map (·.1)).map PyData.str) ?_) fun w1 H3 e3 g1 => ?_
      · rw [List.map_map]
        refine en_map m dW _ (ei_lst (ed_var rfl h0)) (m_le g (by decide)) (fun x _ => by show fz (PyData.str _) = true; unfold fz; rfl) fun j x H5 y hx e5 hdx R kk => ?_
        exact kk _ rfl (ed_ixT (ed_var rfl hdx) ev_c (by decide) rfl)
      · dsimp only
        have e13 := e1.trans e3
        have h0 := dp_same e3 h0
        refine sd_forS (K := K) (ei_enum (ed_var rfl g1)) (fun H2 i σ' H' => (∃ y1 y2 y4, σ' = [some v0, y1, y2, some w1, y4]) ∧ Ex H2 H') (fun H2 e2 => ⟨⟨_, _, _, rfl⟩, .refl _⟩) (fun H2 i σ' H' hP => hP.2) (fun H4 i d x σ' Ha Hb e4 hd hP eab hx => ?_) (fun H4 σ' H5 e4 hP => ?_)
        · obtain ⟨⟨y1, y2, y4, rfl⟩, ex⟩ := hP
          obtain ⟨hi, rfl⟩ := names_get hd
          refine tg2 hx fun u1 u2 a1 a2 => ?_
          obtain rfl := dp_int a1
          obtain rfl := dp_str a2
          have g1 := dp_same ((e4.trans ex).trans eab) g1
          refine Evl.s_when (b := decide ((wr m i).1 ∈ (m.map (·.1)).take i)) (et_test (ev_inS (neg := false) (zs := (m.map (·.1)).take i) (ev_var rfl) (en_slToL (k := i) (ed_var rfl g1) (ev_var rfl)).list (.inl (by rw [List.map_take])))) (fun hb => ?_) fun hb H6 e6 => ⟨⟨_, _, _, rfl⟩, ex.trans (eab.trans e6)⟩
          exact absurd (of_decide_eq_true hb) (name_not g hi)
        · obtain ⟨⟨y1, y2, y4, rfl⟩, ex⟩ := hP
          have e15 := e13.trans (e4.trans ex)
          have h0 := dp_same (e4.trans ex) h0
          refine Evl.s_when (b := decide (((m.length : Nat) : Int) > 3)) (et_test (ev_op (ev_is (ev_lenD (ed_var rfl h0) (.inl rfl)) (by rw [List.length_map])) ev_c rv_I0)) (fun hb => ?_) fun hb H6 e6 => q .non H6 (e15.trans e6) .non
          have := of_decide_eq_true hb
          omega
theorem ok_needT {f : Addr} {fd : FuncData} {k : Nat} (F : Fun K "_need_company" "_need_company" sNeedCompany f fd) (T : Txt mg) (C_is_writer : Cal P w K mg base k "is_writer" ["thing"] (spP K RIsW)) : FnOk P w K mg base CX0 (k + 1) f fd ["writers"] (spP K (RNeed .tuple)) := by
  refine F.ok sc__need_company (fun vs H Q E h => ?_) (fun cdv A outer s H vs Q E hr h => ?_)
  · obtain ⟨ds, d, hd, ⟨m, _, rfl, _⟩, _⟩ := h
    exact hd.length
  · obtain ⟨ds, d, hd, ⟨m, g, rfl, rfl⟩, q⟩ := h
    obtain ⟨v0, rfl, h0⟩ := dps1 hd
    have l3 := g.len
    refine ⟨_, (pss_cons (ps_for PassesOwn.never rfl (pi_enumT (by rfl) T.m_enumerate (pa_cons (pv 0) pa_nil)) (pg_tup rfl (pgs_cons (pg_name (i := 1) sc__need_company.nd rfl (.inl rfl)) (pgs_cons (pg_name (i := 2) sc__need_company.nd rfl (.inl rfl)) pgs_nil)))
    (pss_one (ps_if (pt_not (pt_val (pe_callC C_is_writer hr (by rfl) (pa_cons (pv 2) pa_nil))))
    (pss_one ps_never) pss_nil)))
    (pss_cons (ps_setLc (i := 3) (own := [("writer", 2)]) (g := (gName 2)) (by rfl) sc__need_company.nd rfl rfl (sw_true rfl rfl rfl (by decide +kernel)) (pi_tup (pv 0)) (blkOk_by (own := [("writer", 2)]) (N := ["writers", "at", "writer", "names", "name"]) (sc := defScope sNeedCompany) (by decide +kernel)) (fun _ _ _ _ _ => (pg_name (i := 2) sc__need_company.nd rfl (Or.inl rfl))) (fun _ _ _ _ _ => pts_nil) (fun _ _ _ _ _ => (pe_ix (show IxR _ (rIxT K) from ix_tup) (pv 2) pe_int (fun _ _ => rfl))))
    (pss_cons (ps_for PassesOwn.never rfl (pi_enum (by rfl) T.m_enumerate (pa_cons (pv 3) pa_nil)) (pg_tup rfl (pgs_cons (pg_name (i := 1) sc__need_company.nd rfl (.inl rfl)) (pgs_cons (pg_name (i := 4) sc__need_company.nd rfl (.inl rfl)) pgs_nil)))
    (pss_one (ps_if (pt_cmpR (show OpR _ _ (rIn K false) from op_in_seq) (pv 4) (pe_slice sl_list (pv 3) po_none (po_some (pv 1))) (by rfl))
    (pss_one ps_never) pss_nil)))
    (pss_one (ps_if (pt_cmpR op_gt (pe_callB call_len (by rfl) T.m_len PySem.boot_len (pa_cons (pv 0) pa_nil)) (pe_globI (by rfl) T.e_MOST_WRITERS) (nomark _))
    (pss_one ps_never) pss_nil))))), ?_⟩
    refine sd_forS (K := K) (ei_enumT (ed_var rfl h0)) (fun H2 i σ' H' => (∃ y1 y2, σ' = [some v0, y1, y2, none, none]) ∧ Ex H2 H') (fun H2 e2 => ⟨⟨none, none, rfl⟩, .refl _⟩) (fun H2 i σ' H' hP => hP.2) (fun H2 i d x σ' Ha Hb e2 hd hP eab hx => ?_) (fun H2 σ' H' e2 hP => ?_)
    · obtain ⟨⟨y1, y2, rfl⟩, ex⟩ := hP
      obtain ⟨hi, rfl⟩ := enum_w m hd
      obtain ⟨i1, i2, i3⟩ := g.isw (List.mem_of_getElem? (wr_get hi))
      refine tg2 hx fun u1 u2 a1 a2 => ?_
      refine Evl.s_when (b := !isWr (wr m i).1 (wr m i).2.1 (wr m i).2.2.1 (wr m i).2.2.2) (et_not (et_B (ev_bl (ed_call (eds_cons (ed_var rfl a2) eds_nil) ⟨wr m i, i1, i2, rfl, rfl⟩)))) (fun hb => ?_) fun hb H3 e3 => ⟨⟨_, _, rfl⟩, ex.trans (eab.trans e3)⟩
      rw [i3] at hb
      cases hb
    · obtain ⟨⟨y1, y2, rfl⟩, ex⟩ := hP
      have e1 := e2.trans ex
      have h0 := dp_same e1 h0
      dsimp only
      refine sd_asg (K := K) (EvN.list (ds := (m.map (·.1)).map PyData.str) ?_) fun w1 H3 e3 g1 => ?_
      · rw [List.map_map]
        refine en_map m dW _ (ei_tup (ed_var rfl h0)) (m_le g (by decide)) (fun x _ => by show fz (PyData.str _) = true; unfold fz; rfl) fun j x H5 y hx e5 hdx R kk => ?_
        exact kk _ rfl (ed_ixT (ed_var rfl hdx) ev_c (by decide) rfl)
      · dsimp only
        have e13 := e1.trans e3
        have h0 := dp_same e3 h0
        refine sd_forS (K := K) (ei_enum (ed_var rfl g1)) (fun H2 i σ' H' => (∃ y1 y2 y4, σ' = [some v0, y1, y2, some w1, y4]) ∧ Ex H2 H') (fun H2 e2 => ⟨⟨_, _, _, rfl⟩, .refl _⟩) (fun H2 i σ' H' hP => hP.2) (fun H4 i d x σ' Ha Hb e4 hd hP eab hx => ?_) (fun H4 σ' H5 e4 hP => ?_)
        · obtain ⟨⟨y1, y2, y4, rfl⟩, ex⟩ := hP
          obtain ⟨hi, rfl⟩ := names_get hd
          refine tg2 hx fun u1 u2 a1 a2 => ?_
          obtain rfl := dp_int a1
          obtain rfl := dp_str a2
          have g1 := dp_same ((e4.trans ex).trans eab) g1
          refine Evl.s_when (b := decide ((wr m i).1 ∈ (m.map (·.1)).take i)) (et_test (ev_inS (neg := false) (zs := (m.map (·.1)).take i) (ev_var rfl) (en_slToL (k := i) (ed_var rfl g1) (ev_var rfl)).list (.inl (by rw [List.map_take])))) (fun hb => ?_) fun hb H6 e6 => ⟨⟨_, _, _, rfl⟩, ex.trans (eab.trans e6)⟩
          exact absurd (of_decide_eq_true hb) (name_not g hi)
        · obtain ⟨⟨y1, y2, y4, rfl⟩, ex⟩ := hP
          have e15 := e13.trans (e4.trans ex)
          have h0 := dp_same (e4.trans ex) h0
          refine Evl.s_when (b := decide (((m.length : Nat) : Int) > 3)) (et_test (ev_op (ev_is (ev_lenD (ed_var rfl h0) (.inr rfl)) (by rw [List.length_map])) ev_c rv_I0)) (fun hb => ?_) fun hb H6 e6 => q .non H6 (e15.trans e6) .non
          have := of_decide_eq_true hb
          omega
theorem ok_init {f C : Addr} {fd : FuncData} {k : Nat} {c : List PyData → PyData} {df : List V} (F : FunD K "__init__" "Company.__init__" (defArgs sCompanyInit) (defBody sCompanyInit) (defScope sCompanyInit) df [] f fd) (T : Txt mg) (Z : CoC K C) (hc : c = .list ∨ c = .tuple)
    (C__need_company : Cal P w K mg base k "_need_company" ["writers"] (spP K (RNeed c))) : FnOk P w K mg base CX0 (k + 1) f fd ["self", "writers"] (spInit P w K C c) := by
  refine F.ok sc_Company___init__ (fun vs H Q E h => ?_) (fun cdv A outer s H vs Q E hr h => ?_)
  · obtain ⟨p, dx, v, m, rfl, _⟩ := h
    rfl
  · obtain ⟨p, dx, v, m, rfl, hp, hv, g, q⟩ := h
    refine ⟨_, (pss_cons (ps_expr (pe_callC C__need_company hr (by rfl) (pa_cons (pv 1) pa_nil)))
    (pss_cons (ps_fld (pv 0) (pe_callTy call_tuple_of (by rfl) T.m_tuple (by decide +kernel) (pa_cons (pv 1) pa_nil)) rfl)
    (pss_one (ps_fld (pv 0) pe_dnewN rfl)))), ?_⟩
    refine (ed_call (K := K) (d := .none) (eds_cons (ed_var rfl hv) eds_nil) ⟨m, g, rfl, rfl⟩) H (.refl H) _ fun _ H1 e1 _ => ?_
    have hv := dp_same e1 hv
    have hw : EvD K (tCB (fun xs H Q => ∃ p ys, xs = [.ref p] ∧ ((SqL K H p ys ∧ ∀ l, H l = none → Q (.ref l) (upd H l (.tup ys))) ∨ (SqT K H p ys ∧ Q (.ref p) H))) (tCons (tVar 1) tNil)) [some (.ref p), some v] H1 (dMt m) := by
      rcases hc with rfl | rfl
      · exact ed_tuple (ed_var rfl hv)
      · exact ed_tupleT (ed_var rfl hv)
    refine sd_fld hw fun u H2 e2 hu => ?_
    obtain ⟨tw, xs, rfl, htw, hxs⟩ := dp_tup hu
    have hp2 := e2 _ _ (e1 _ _ hp)
    refine ⟨.ref p, rfl, p, C, dx, [], rfl, hp2, Z.cl, Z.nW, (by show 0 < 1000; decide), ?_⟩
    intro d H3 nd hb hd
    have pd : p ≠ d := ne_of_none (upd_same (H := H2) (a := p) (o := .ins C dx (putF "_writers" (.ref tw) []))) nd
    refine ⟨.ref p, rfl, p, C, dx, _, rfl, (hb p pd).trans upd_same, Z.cl, Z.nF, (by show 1 < 1000; decide), ?_⟩
    have t3 : ∀ b o, H2 b = some o → b ≠ p → upd H3 p (.ins C dx (coF tw d)) b = some o := fun b o e nb => by
      have nbd : b ≠ d := ne_of_none (by rw [upd_ne nb]; exact e) nd
      rw [upd_ne nb, hb b nbd, upd_ne nb]
      exact e
    have tk : TupK K H2 (upd H3 p (.ins C dx (coF tw d))) := fun b xs h => by
      rcases h with (h | ⟨o, h⟩) | h
      · exact .inl (.inl (t3 _ _ h (ne_of h hp2 (by intro z; cases z))))
      · exact .inl (.inr ⟨o, t3 _ _ h (ne_of h hp2 (by intro z; cases z))⟩)
      · exact .inr h
    refine q _ (fun b o e nb => t3 b o (e2 _ _ (e1 _ _ e)) nb) ⟨dx, tw, d, [], upd_same, dp_tk tk (fz_dMt m) (.tup htw hxs), hd.up (upd_ne pd.symm) ?_, fun kv hk => (by cases hk), Nat.le_refl _⟩
    exact TupK.upd ((hb p pd).trans upd_same) (fun _ z => by cases z) fun _ _ z => by cases z
theorem ok_begin {f C : Addr} {fd : FuncData} {k : Nat} (F : Fun K "begin" "Company.begin" sCompanyBegin f fd) (T : Txt mg) (Z : CoC K C) (G__NO_RUN : GlobT K mg "_NO_RUN" (.tuple [.int (-1), .int 0])) : FnOk P w K mg base CX0 (k + 1) f fd ["self"] (spBegin P w K C) := by
  refine F.ok sc_Company_begin (fun vs H Q E h => ?_) (fun cdv A outer s H vs Q E hr h => ?_)
  · obtain ⟨c, m, n, rfl, _⟩ := h
    rfl
  · obtain ⟨c, m, n, rfl, ⟨dx, tw, d, kvs, hc, hw, _⟩, hl, q⟩ := h
    refine ⟨_, (pss_cons (ps_set (i := 1) sc_Company_begin.nd rfl (.inl rfl) (pe_op op_rep (pe_tup (pa_cons pe_int pa_nil)) (pe_callB call_len (by rfl) T.m_len PySem.boot_len (pa_cons (pe_fld (pv 0) rfl) pa_nil))))
    (pss_one (ps_ret (pe_tup (pa_cons (pv 1) (pa_cons (pv 1) (pa_cons (pe_globT (by rfl) G__NO_RUN) pa_nil))))))), ?_⟩
    refine sd_asg (K := K) (d := .tuple (List.replicate m.length (.int 0))) (ed_rep (ed_tup (eds_cons (ed_int ev_c) eds_nil) (by show 1 ≤ 100000; decide)) (ev_is (ev_lenD (ed_of (ev_fld (ev_var rfl) hc Z.cl Z.nW (coF_w _ _)) hw) (.inr rfl)) (by rw [List.length_map])) (by omega)) fun v1 H1 e1 g1 => ?_
    dsimp only
    refine sd_ret (K := K) (ed_tup (eds_cons (ed_var rfl g1) (eds_cons (ed_var rfl g1) (eds_cons ed_globT eds_nil))) (by show 3 ≤ 100000; decide)) fun v H2 e2 hv => q v H2 (e1.trans e2) ?_
    unfold dS dI beginS
    dsimp only
    rw [List.map_replicate]
    exact hv
theorem ok_steps {f C : Addr} {fd : FuncData} {k : Nat} (F : Fun K "steps" "Company.steps" sCompanySteps f fd) (T : Txt mg) (Z : CoC K C) (C__steps_of : Cal P w K mg base k "_steps_of" ["writers", "stand"] (spP K RSteps)) : FnOk P w K mg base CX0 (k + 1) f fd ["self", "stand"] (spSteps P w K C) := by
  refine F.ok sc_Company_steps (fun vs H Q E h => ?_) (fun cdv A outer s H vs Q E hr h => ?_)
  · obtain ⟨c, m, n, v, s, rfl, _⟩ := h
    rfl
  · obtain ⟨c, m, n, v, st, rfl, ⟨dx, tw, d, kvs, hc, hw, hd, hch, hl⟩, hn, g, ft, hv, q⟩ := h
    refine ⟨_, (Evl.pss_cut (ps_if (pt_cmpR (op_notinN (hu9 hr)) (pv 1) (pe_fld (pv 0) rfl) (by rfl))
    (pss_one (ps_asg (pe_callTy call_tuple_of (by rfl) T.m_tuple (by decide +kernel) (pa_cons (pe_callC C__steps_of hr (by rfl) (pa_cons (pe_fld (pv 0) rfl) (pa_cons (pv 1) pa_nil))) pa_nil)) (pg_sub (pe_fld (pv 0) rfl) (pv 1) (set_dicN (hu9 hr))))) pss_nil)
    (pss_one (ps_ret (pe_callTy call_list_of (by rfl) T.m_list (by decide +kernel) (pa_cons (pe_dgetN (hu9 hr) (pe_fld (pv 0) rfl) (pv 1) (fun _ _ => rfl)) pa_nil))))), ?_⟩
    refine Evl.q_cut (M := fun σ' H1 => σ' = [some (.ref c), some v] ∧ ∃ kvs1 u, KX H H1 ∧ (∀ b, H1 b = none → H b = none) ∧ H1 c = some (.ins C dx (coF tw d)) ∧ DicAt P w K H1 d kvs1 ∧ Cached K H1 m kvs1 ∧ kvs1.length ≤ n + 1 ∧ lookN kvs1 (kS st) = some u) ?_ fun σ' H1 hM => ?_
    · refine s_if (b := !(lookN kvs (kS st)).isSome) (et_test (ev_notinN (ev_var rfl) (key_at hv) (ev_fld (ev_var rfl) hc Z.cl Z.nF (coF_f _ _)) hd)) (fun hb H1 e1 => ?_) fun hb H1 e1 => ?_
      · have lk : lookN kvs (kS st) = none := by
          cases e : lookN kvs (kS st) with
          | none => rfl
          | some u =>
            rw [e] at hb
            cases hb
        have hc1 := e1 _ _ hc
        refine ed_tuple (K := K) (ds := (stepsOf m st).map dStep) (ed_call (eds_cons (ed_of (ev_fld (ev_var rfl) hc1 Z.cl Z.nW (coF_w _ _)) (dp_same e1 hw)) (eds_cons (ed_var rfl (dp_same e1 hv)) eds_nil)) ⟨m, st, g, ft, rfl, rfl⟩) H1 (.refl H1) _ fun u H2 e2 hu => ?_
        have e12 := e1.trans e2
        have hc2 := e2 _ _ hc1
        have hd2 := hd.same e12
        refine ⟨.ref c, rfl, c, C, dx, _, .ref d, rfl, hc2, Z.cl, Z.nF, coF_f _ _, v, rfl, d, kvs, kS st, rfl, hd2, key_at (dp_same e12 hv), by omega, fun H3 hd3 h3 => ?_⟩
        obtain ⟨n1, n2⟩ := look_new (v := u) lk
        have kx : KX H2 H3 := fun b o e no => by
          obtain ⟨xs, ed, _⟩ := hd2
          have nb : b ≠ d := fun z => by
            rw [z, ed] at e
            exact no _ (Option.some.inj e).symm
          rw [h3 b nb]
          exact e
        have tk : TupK K H2 H3 := kx.t
        refine ⟨rfl, _, u, (KX.of e12).trans kx, fun b hb => ?_, kx _ _ hc2 (fun _ z => by cases z), hd3, fun kv hk => ?_, ?_, n2⟩
        · refine Same.free e12 ?_
          by_cases hbd : b = d
          · obtain ⟨xs, ed, _⟩ := hd3
            rw [hbd, ed] at hb
            cases hb
          · rw [← h3 b hbd]
            exact hb
        · rw [n1] at hk
          rcases List.mem_append.mp hk with hk | hk
          · exact (hch.up ((TupK.of e12).trans tk)) kv hk
          · rw [List.mem_singleton] at hk
            subst hk
            exact ⟨st, rfl, kx.dp hu⟩
        · have := putN_len (kvs := kvs) (k := kS st) (v := u)
          omega
      · obtain ⟨u, lk⟩ : ∃ u, lookN kvs (kS st) = some u := by
          cases e : lookN kvs (kS st) with
          | none =>
            rw [e] at hb
            cases hb
          | some u => exact ⟨u, rfl⟩
        exact ⟨rfl, kvs, u, .of e1, fun b hb => Same.free e1 hb, e1 _ _ hc, hd.same e1, hch.up (.of e1), by omega, lk⟩
    · obtain ⟨rfl, kvs1, u, kx, fr, hc1, hd1, hch1, hl1, lk⟩ := hM
      obtain ⟨s', e, hu⟩ := hch1 _ (look_in lk)
      obtain rfl := kS_inj e
      refine en_list (K := K) (ds := (stepsOf m st).map dStep) (ed_of (ev_dget (ev_fld (ev_var rfl) hc1 Z.cl Z.nF (coF_f _ _)) hd1 (ev_var rfl) (key_at (kx.dp hv)) lk) hu) (.inr rfl) H1 (.refl H1) _ fun p vs H2 np e2 hp hvs => ?_
      exact q p vs H2 (fr _ np) (kx.trans (.of e2)) ⟨dx, tw, d, kvs1, e2 _ _ hc1, dp_same e2 (kx.dp hw), hd1.same e2, hch1.up (.of e2), hl1⟩ hp hvs
end
end Ink
namespace Ink
open PySem PySem.Spec PyProof.Rows L2 Evl
/-! ### the law's own steps -/
def dP (x : Arw) : PyData := .tuple [.str x.2.1, .int x.2.2]
def arrsAt (w : Wr) (p : Int) : List Arw := w.2.1.filter fun x => decide (V.int x.1 = V.int p)
def RArrs : List PyData → PyData → Prop := fun ds d => ∃ (w : Wr) (p : Int), w.2.1.length ≤ 9 ∧ ds = [dW w, .int p] ∧ d = .list ((arrsAt w p).map dP)
def RBegin : List PyData → PyData → Prop := fun ds d => ∃ m, m.length ≤ 3 ∧ ds = [dMl m] ∧ d = dS (beginS m)
def RCounts : List PyData → PyData → Prop := fun ds d => ∃ m s, ∃ k : Nat, GoodM m ∧ s.1.length = m.length ∧ k < m.length ∧ ds = [dMl m, dI s.1, .int (k : Int)] ∧ d = .bool (minds m s k)
/-- a stand as steps lead to it: who does not wait has waited no time, who wrote last has not written more than is let -/
structure Okay (m : List Wr) (s : Std) : Prop extends Fits m s where
  w0 : ∀ j, j < m.length → minds m s j = false → wt s j = 0
  run : s.2.2 = (-1, 0) ∨ ∃ k : Nat, k < m.length ∧ s.2.2.1 = (k : Int) ∧ (wr m k).2.2.2 ≠ 0 ∧ s.2.2.2 ≤ (wr m k).2.2.2
def RCan : List PyData → PyData → Prop := fun ds d => ∃ m s, ∃ k : Nat, GoodM m ∧ Okay m s ∧ k < m.length ∧ ds = [dMl m, dS s, .int (k : Int)] ∧ d = .bool (mayW m s k)
def RAfter : List PyData → PyData → Prop := fun ds d => ∃ m s, ∃ k : Nat, ∃ to, GoodM m ∧ Okay m s ∧ k < m.length ∧ ds = [dMl m, dS s, .int (k : Int), .int to] ∧ d = dS (behind m s k to)
def RLSteps : List PyData → PyData → Prop := fun ds d => ∃ m s, GoodM m ∧ Okay m s ∧ ds = [dMl m, dS s] ∧ d = .list ((stepsOf m s).map dStep)
theorem fz_dP (x : Arw) : fz (dP x) = true := by
  unfold dP fz fzAll fzAll fzAll fz
  rfl
theorem lets_ok : ∀ c ∈ lets, PyData.strOk (single c) = true := by decide +kernel
theorem dP_lay {x : Arw} (h : goodA x) : (dP x).canLay0 = true := by
  obtain ⟨_, _, ⟨c, hc, e⟩, _⟩ := h
  unfold dP
  simp only [PyData.canLay0, PyData.canLayAll0, e, lets_ok c hc, Bool.and_true]
theorem dP_depth (x : Arw) : (dP x).depth ≤ 3 := by
  unfold dP
  simp only [PyData.depth, PyData.depthAll]
  decide
theorem lay_map {α : Type} {f : α → PyData} : ∀ {l : List α}, (∀ x ∈ l, (f x).canLay0 = true) → PyData.canLayAll0 (l.map f) = true
  | [], _ => by simp only [List.map_nil, PyData.canLayAll0]
  | x :: l, h => by
    simp only [List.map_cons, PyData.canLayAll0, h x (List.mem_cons_self ..), Bool.true_and]
    exact lay_map fun y hy => h y (List.mem_cons_of_mem _ hy)
theorem depth_map {α : Type} {f : α → PyData} {n : Nat} : ∀ {l : List α}, (∀ x ∈ l, (f x).depth ≤ n) → PyData.depthAll (l.map f) ≤ n
  | [], _ => by simp only [List.map_nil, PyData.depthAll]; omega
  | x :: l, h => by
    have h1 := h x (List.mem_cons_self ..)
    have h2 := depth_map (f := f) (l := l) fun y hy => h y (List.mem_cons_of_mem _ hy)
    simp only [List.map_cons, PyData.depthAll]
    omega
theorem arrs_shaped {w : Wr} (h : ∀ x ∈ w.2.1, goodA x) (p : Int) : SeqAt.shaped (.list ((arrsAt w p).map dP)) = true := by
  have hm : ∀ x ∈ arrsAt w p, goodA x := fun x hx => h x (List.mem_filter.mp hx).1
  have h1 := lay_map fun x hx => dP_lay (hm x hx)
  have h2 := depth_map (f := dP) (l := arrsAt w p) fun x _ => dP_depth x
  unfold SeqAt.shaped
  rw [Bool.and_eq_true, decide_eq_true_eq]
  refine ⟨by simp only [PyData.canLay0]; exact h1, ?_⟩
  simp only [PyData.depth]
  omega
theorem eqv_nil {α : Type} (l : List α) (f : α → PyData) : PyData.eqv (.list (l.map f)) (.list []) = l.isEmpty := by
  cases l with
  | nil => simp only [List.map_nil, PyData.eqv, PyData.eqvAll, List.isEmpty_nil]
  | cons x l => simp only [List.map_cons, PyData.eqv, PyData.eqvAll, List.isEmpty_cons]
/-- the law's look is the program's -/
theorem counts_eq {m : List Wr} (g : GoodM m) {s : Std} {k : Nat} (hk : k < m.length) : (decide ((wr m k).2.2.1 > 0) && !(arrsAt (wr m k) (pl s k)).isEmpty) = minds m s k := by
  unfold minds
  have h0 := (g.at hk).p0
  have e1 : decide ((wr m k).2.2.1 > 0) = !decide (V.int (wr m k).2.2.1 = V.int 0) := by
    rw [← decide_not]
    refine decide_eq_decide.mpr ⟨fun h e => ?_, fun h => ?_⟩
    · injection e with e
      omega
    · have : (wr m k).2.2.1 ≠ 0 := fun e => h (by rw [e])
      omega
  have e2 : (!(arrsAt (wr m k) (pl s k)).isEmpty) = decide (pl s k ∈ (wr m k).2.1.map (·.1)) := by
    rw [Bool.eq_iff_iff, Bool.not_eq_true', List.isEmpty_eq_false_iff_exists_mem, decide_eq_true_eq, List.mem_map]
    constructor
    · rintro ⟨x, hx⟩
      obtain ⟨h1, h2⟩ := List.mem_filter.mp hx
      have h2 := of_decide_eq_true h2
      injection h2 with h2
      exact ⟨x, h1, h2⟩
    · rintro ⟨x, h1, h2⟩
      exact ⟨x, List.mem_filter.mpr ⟨h1, by rw [h2]; exact decide_eq_true rfl⟩⟩
  rw [e1, e2]
section
variable {P : Program} {w : World} {K : PySem.W.Frag} {mg : Str → Option Value} {base : Heap}
theorem ok_arrs {f : Addr} {fd : FuncData} {k : Nat} (F : Fun K "_law_arrows" "_law_arrows" sLArrows f fd) : FnOk P w K mg base CX0 (k + 1) f fd ["_law_writer_here", "_law_place"] (spP K RArrs) := by
  refine F.ok sc__law_arrows (fun vs H Q E h => ?_) (fun cdv A outer s H vs Q E hr h => ?_)
  · obtain ⟨ds, d, hd, ⟨w, p, _, rfl, _⟩, _⟩ := h
    exact hd.length
  · obtain ⟨ds, d, hd, ⟨w, p, h9, rfl, rfl⟩, q⟩ := h
    obtain ⟨v0, v1, rfl, h0, h1⟩ := dps2 hd
    obtain rfl := dp_int h1
    refine ⟨_, (pss_one (ps_ret (pe_lc (own := [("_law_at", 2), ("_law_sign", 3), ("_law_to", 4)]) (g := (gTup K 3 (gCons (gName 2) (gCons (gName 3) (gCons (gName 4) gNil))))) (by rfl) sc__law_arrows.nd (pi_tup (pe_ix ix_tup (pv 0) pe_int (fun _ _ => rfl))) (blkOk_by (own := [("_law_at", 2), ("_law_sign", 3), ("_law_to", 4)]) (N := ["_law_writer_here", "_law_place", "_law_at", "_law_sign", "_law_to"]) (sc := defScope sLArrows) (by decide +kernel)) (fun _ _ _ _ _ => (pg_tup rfl (pgs_cons (pg_name (i := 2) sc__law_arrows.nd rfl (.inl rfl)) (pgs_cons (pg_name (i := 3) sc__law_arrows.nd rfl (.inl rfl)) (pgs_cons (pg_name (i := 4) sc__law_arrows.nd rfl (.inl rfl)) pgs_nil))))) (fun _ _ _ _ _ => pts_one (pt_cmpR op_eq (pv 2) (pv 1) (nomark _))) (fun _ _ _ _ _ => (pe_tup (pa_cons (pv 3) (pa_cons (pv 4) pa_nil))))))), ?_⟩
    refine sd_ret (K := K) (EvN.list (ds := (arrsAt w p).map dP) ?_) q
    refine en_lc w.2.1 dA (fun x => decide (V.int x.1 = V.int p)) dP (ei_tup (ed_ixT (ed_var rfl h0) ev_c (by decide) rfl)) (by omega) (fun x _ => fz_dP x) fun j a H5 x hx e5 hdx R kk => tg3 hdx fun u1 u2 u3 b1 b2 b3 => ?_
    obtain rfl := dp_int b1
    exact kk _ rfl (et_test (ev_op (ev_var rfl) (ev_var rfl) (rv_eq rfl))) fun _ => ed_tup (eds_cons (ed_var rfl b2) (eds_cons (ed_var rfl b3) eds_nil)) (by show 2 ≤ 100000; decide)
theorem ok_lbegin {f : Addr} {fd : FuncData} {k : Nat} (F : Fun K "_law_begin" "_law_begin" sLBegin f fd) (T : Txt mg) : FnOk P w K mg base CX0 (k + 1) f fd ["_law_m"] (spP K RBegin) := by
  refine F.ok sc__law_begin (fun vs H Q E h => ?_) (fun cdv A outer s H vs Q E hr h => ?_)
  · obtain ⟨ds, d, hd, ⟨m, _, rfl, _⟩, _⟩ := h
    exact hd.length
  · obtain ⟨ds, d, hd, ⟨m, hl, rfl, rfl⟩, q⟩ := h
    obtain ⟨v0, rfl, h0⟩ := dps1 hd
    refine ⟨_, (pss_one (ps_ret (pe_tup (pa_cons (pe_op op_rep (pe_tup (pa_cons pe_int pa_nil)) (pe_callB call_len (by rfl) T.m_len PySem.boot_len (pa_cons (pv 0) pa_nil))) (pa_cons (pe_op op_rep (pe_tup (pa_cons pe_int pa_nil)) (pe_callB call_len (by rfl) T.m_len PySem.boot_len (pa_cons (pv 0) pa_nil))) (pa_cons (pe_tup (pa_cons (pe_un un_neg pe_int) (pa_cons pe_int pa_nil))) pa_nil)))))), ?_⟩
    have hrep : EvD K (tOp (rRep K) (tTup (tCons (tC (.int 0)) tNil)) (tCB (rLenV K) (tCons (tVar 0) tNil))) [some v0] H (dI (List.replicate m.length 0)) := by
      have := ed_rep (K := K) (n := m.length) (ta := tTup (tCons (tC (.int 0)) tNil)) (d := .int 0) (ed_tup (eds_cons (ed_int ev_c) eds_nil) (by show 1 ≤ 100000; decide)) (ev_is (ev_lenD (ed_var (i := 0) (σ := [some v0]) rfl h0) (.inl rfl)) (by rw [List.length_map])) (by omega)
      unfold dI
      rw [List.map_replicate]
      exact this
    exact sd_ret (K := K) (d := dS (beginS m)) (ed_tup (eds_cons hrep (eds_cons hrep (eds_cons (ed_tup (eds_cons (ed_int (ev_un ev_c ru_neg)) (eds_cons (ed_int ev_c) eds_nil)) (by show 2 ≤ 100000; decide)) eds_nil))) (by show 3 ≤ 100000; decide)) q
theorem ok_counts {f : Addr} {fd : FuncData} {k : Nat} (F : Fun K "_law_waits_count" "_law_waits_count" sLWaitsCount f fd) (C__law_arrows : Cal P w K mg base k "_law_arrows" ["_law_writer_here", "_law_place"] (spP K RArrs)) : FnOk P w K mg base CX0 (k + 1) f fd ["_law_m", "_law_places", "_law_at"] (spP K RCounts) := by
  refine F.ok sc__law_waits_count (fun vs H Q E h => ?_) (fun cdv A outer s H vs Q E hr h => ?_)
  · obtain ⟨ds, d, hd, ⟨m, s, k, _, _, _, rfl, _⟩, _⟩ := h
    exact hd.length
  · obtain ⟨ds, d, hd, ⟨m, st, k, g, hl, hk, rfl, rfl⟩, q⟩ := h
    obtain ⟨v0, v1, v2, rfl, h0, h1, h2⟩ := dps3 hd
    obtain rfl := dp_int h2
    have gk := g.at hk
    refine ⟨_, (pss_one (ps_ret (pe_and (pe_cmpR op_gt (pe_ix ix_tup (pe_ix ix_list (pv 0) (pv 2) (fun _ _ => rfl)) pe_int (fun _ _ => rfl)) pe_int (nomark _)) (pe_one (pe_cmpR (show OpR _ _ (rNeD K) from op_neD hr.units) (pe_callC C__law_arrows hr (by rfl) (pa_cons (pe_ix ix_list (pv 0) (pv 2) (fun _ _ => rfl)) (pa_cons (pe_ix ix_tup (pv 1) (pv 2) (fun _ _ => rfl)) pa_nil))) (pe_lst pa_nil) (nomark _)))))), ?_⟩
    refine sd_ret (K := K) (ed_bl (ev_andV (ev_op (ev_int (ed_ixT (ed_ixL (ed_var rfl h0) (ev_var rfl) (by omega) (dW_get hk)) ev_c (by decide) rfl)) ev_c rv_I0) fun _ => ev_is (ev_neD (d1 := .list ((arrsAt (wr m k) (pl st k)).map dP)) (d2 := .list []) (ed_call (eds_cons (ed_ixL (ed_var rfl h0) (ev_var rfl) (by omega) (dW_get hk)) (eds_cons (ed_ixT (ed_var rfl h1) (ev_var rfl) (by omega) (dI_get (by rw [hl]; exact hk))) eds_nil)) ⟨wr m k, pl st k, gk.len, rfl, rfl⟩) (en_lst eds_nil (by decide)).list (arrs_shaped gk.each _) rfl) (by rw [eqv_nil]))) fun v H1 e1 hv => q v H1 e1 ?_
    rw [← counts_eq g hk]
    exact hv
end
end Ink
namespace Ink
open PySem PySem.Spec PyProof.Rows L2 Evl
theorem run_eq {m : List Wr} (g : GoodM m) {s : Std} (o : Okay m s) {k : Nat} (hk : k < m.length) : (decide ((wr m k).2.2.2 > 0) && PyData.eqv (.tuple [.int s.2.2.1, .int s.2.2.2]) (.tuple [.int (k : Int), .int (wr m k).2.2.2])) = (!decide (V.int (wr m k).2.2.2 = V.int 0) && (decide (V.int s.2.2.1 = V.int (k : Int)) && decide (s.2.2.2 ≥ (wr m k).2.2.2))) := by
  have h0 := (g.at hk).c0
  simp only [PyData.eqv, PyData.eqvAll, Bool.and_true]
  rw [Bool.eq_iff_iff]
  simp only [Bool.and_eq_true, Bool.not_eq_true', decide_eq_true_eq, decide_eq_false_iff_not, beq_iff_eq, V.int.injEq]
  constructor
  · rintro ⟨h1, h2, h3⟩
    exact ⟨by omega, h2, by omega⟩
  · rintro ⟨h1, h2, h3⟩
    refine ⟨by omega, h2, ?_⟩
    rcases o.run with e | ⟨j, hj, e1, e2, e3⟩
    · rw [e] at h2
      have : (-1 : Int) = k := h2
      omega
    · have : j = k := by omega
      subst this
      omega
theorem later_eq {m : List Wr} {s : Std} (o : Okay m s) {k : Nat} (hk : k < m.length) : ((List.range s.2.1.length).map fun (j : Nat) => wt s j + (if minds m s j then 1 else 0)).set k 0 = (List.range s.2.1.length).map fun (j : Nat) => if (!decide (V.int (j : Int) = V.int (k : Int)) && minds m s j) = true then wt s j + 1 else 0 := by
  refine List.ext_getElem? fun j => ?_
  have hl := o.l2
  by_cases hj : j < s.2.1.length
  · rw [List.getElem?_set, List.getElem?_map, List.getElem?_map, List.getElem?_range hj]
    have hl2 : k < ((List.range s.2.1.length).map fun (j : Nat) => wt s j + (if minds m s j then 1 else 0)).length := by
      rw [List.length_map, List.length_range]
      omega
    by_cases e : k = j
    · subst e
      rw [if_pos rfl, if_pos hl2]
      show some 0 = some (if (!decide (V.int (k : Int) = V.int (k : Int)) && minds m s k) = true then wt s k + 1 else 0)
      rw [decide_eq_true rfl]
      rfl
    · rw [if_neg e]
      show some (wt s j + (if minds m s j = true then 1 else 0)) = some (if (!decide (V.int (j : Int) = V.int (k : Int)) && minds m s j) = true then wt s j + 1 else 0)
      rw [decide_eq_false (show ¬ V.int (j : Int) = V.int (k : Int) from fun z => by injection z with z; omega)]
      show some (wt s j + (if minds m s j = true then 1 else 0)) = some (if minds m s j = true then wt s j + 1 else 0)
      cases hm : minds m s j with
      | true => rfl
      | false =>
        rw [o.w0 j (by omega) hm]
        rfl
  · rw [List.getElem?_eq_none (by rw [List.length_set, List.length_map, List.length_range]; omega), List.getElem?_eq_none (by rw [List.length_map, List.length_range]; omega)]
theorem ixN_nat {n k : Nat} (h : k < n) : ixN n (k : Int) = some k := by
  unfold ixN
  rw [if_pos (by omega), if_pos (by omega), Int.toNat_natCast]
section
variable {P : Program} {w : World} {K : PySem.W.Frag} {mg : Str → Option Value} {base : Heap}
theorem ok_can {f : Addr} {fd : FuncData} {k : Nat} (F : Fun K "_law_can" "_law_can" sLCan f fd) (T : Txt mg) (C__law_waits_count : Cal P w K mg base k "_law_waits_count" ["_law_m", "_law_places", "_law_at"] (spP K RCounts)) : FnOk P w K mg base CX0 (k + 1) f fd ["_law_m", "_law_stand", "_law_spot"] (spP K RCan) := by
  refine F.ok sc__law_can (fun vs H Q E h => ?_) (fun cdv A outer s H vs Q E hr h => ?_)
  · obtain ⟨ds, d, hd, ⟨m, s, k, _, _, _, rfl, _⟩, _⟩ := h
    exact hd.length
  · obtain ⟨ds, d, hd, ⟨m, st, k, g, ft, hk, rfl, rfl⟩, q⟩ := h
    obtain ⟨v0, v1, v2, rfl, h0, h1, h2⟩ := dps3 hd
    obtain rfl := dp_int h2
    refine ⟨_, (pss_cons (ps_asg (pv 1) (pg_tup rfl (pgs_cons (pg_name (i := 3) sc__law_can.nd rfl (.inr rfl)) (pgs_cons (pg_name (i := 4) sc__law_can.nd rfl (.inr rfl)) (pgs_cons (pg_name (i := 5) sc__law_can.nd rfl (.inl rfl)) pgs_nil)))))
    (pss_cons (ps_if (PW.pt (pw_and (pt_cmpR op_gt (pe_ix ix_tup (pe_ix ix_list (pv 0) (pv 2) (fun _ _ => rfl)) pe_int (fun _ _ => rfl)) pe_int (nomark _)) (pw_and1 (pt_cmpR (show OpR _ _ (rEqD K) from op_eqD hr.units) (pv 5) (pe_tup (pa_cons (pv 2) (pa_cons (pe_ix ix_tup (pe_ix ix_list (pv 0) (pv 2) (fun _ _ => rfl)) pe_int (fun _ _ => rfl)) pa_nil))) (nomark _)))))
    (pss_one (ps_ret pe_bl)) pss_nil)
    (pss_cons (ps_setLc (i := 6) (own := [("_law_at", 7)]) (g := (gName 7)) (by rfl) sc__law_can.nd rfl rfl (sw_true rfl rfl rfl (by decide +kernel)) (pi_range1 (by rfl) T.m_range (pa_cons (pe_callB call_len (by rfl) T.m_len PySem.boot_len (pa_cons (pv 0) pa_nil)) pa_nil)) (blkOk_by (own := [("_law_at", 7)]) (N := ["_law_m", "_law_stand", "_law_spot", "_law_places", "_law_waits", "_law_run", "_law_others", "_law_at"]) (sc := defScope sLCan) (by decide +kernel)) (fun _ _ _ _ _ => (pg_name (i := 7) sc__law_can.nd rfl (Or.inl rfl))) (fun _ _ _ _ _ => pts_one (PW.pt (pw_and (pt_cmpR op_ne (pv 7) (pv 2) (nomark _)) (pw_and1 (pt_val (pe_callC C__law_waits_count hr (by rfl) (pa_cons (pv 0) (pa_cons (pv 3) (pa_cons (pv 7) pa_nil))))))))) (fun _ _ _ _ _ => (pv 7)))
    (pss_one (ps_ret (pe_callB (cr_all rfl) (by rfl) T.m_all (by decide +kernel) (pa_cons (pe_lc (own := [("_law_at", 7)]) (g := (gName 7)) (by rfl) sc__law_can.nd (pi_list (pv 6)) (blkOk_by (own := [("_law_at", 7)]) (N := ["_law_m", "_law_stand", "_law_spot", "_law_places", "_law_waits", "_law_run", "_law_others", "_law_at"]) (sc := defScope sLCan) (by decide +kernel)) (fun _ _ _ _ _ => (pg_name (i := 7) sc__law_can.nd rfl (Or.inl rfl))) (fun _ _ _ _ _ => pts_nil) (fun _ _ _ _ _ => (pe_cmpR op_lt (pe_ix (show IxR _ (rIxT K) from ix_tup) (pv 4) (pv 7) (fun _ _ => rfl)) (pe_ix (show IxR _ (rIxT K) from ix_tup) (pe_ix (show IxR _ (rIxL K) from ix_list) (pv 0) (pv 7) (fun _ _ => rfl)) pe_int (fun _ _ => rfl)) (nomark _)))) pa_nil))))))), ?_⟩
    refine sd_un3 (ed_var rfl h1) fun w0 w1 w2 H1 e1 g0 g1 g2 => ?_
    have h0 := dp_same e1 h0
    dsimp only
    refine Evl.q_when (b := !decide (V.int (wr m k).2.2.2 = V.int 0) && (decide (V.int st.2.2.1 = V.int (k : Int)) && decide (st.2.2.2 ≥ (wr m k).2.2.2))) ?_ (fun hb H3 e3 => ?_) fun hb H3 e3 => ?_
    · rw [← run_eq g ft hk]
      exact et_and (et_test (ev_op (ev_int (ed_ixT (ed_ixL (ed_var rfl h0) (ev_var rfl) (by omega) (dW_get hk)) ev_c (by decide) rfl)) ev_c rv_I0)) fun _ => et_test (ev_eqD (ed_var rfl g2) (ed_tup (eds_cons (ed_int (ev_var rfl)) (eds_cons (ed_ixT (ed_ixL (ed_var rfl h0) (ev_var rfl) (by omega) (dW_get hk)) ev_c (by decide) rfl) eds_nil)) (by show 2 ≤ 100000; decide)) rfl rfl)
    · refine q (.bl false) H3 (e1.trans e3) ?_
      unfold mayW
      rw [if_pos hb]
      exact .bl false
    · have h0 := dp_same e3 h0
      have g0 := dp_same e3 g0
      have g1 := dp_same e3 g1
      have e13 := e1.trans e3
      refine sd_asg (K := K) (EvN.list (en_lc (List.range m.length) (fun j : Nat => PyData.int (j : Int)) (fun j : Nat => !decide (V.int (j : Int) = V.int (k : Int)) && minds m st j) (fun j : Nat => PyData.int (j : Int)) (ei_range (ea_cons (ev_is (ev_lenD (ed_var rfl h0) (.inl rfl)) (by rw [List.length_map])) ea_nil) (m_le g (by decide))) (by rw [List.length_range]; exact m_le g (by decide)) (fun _ _ => by unfold fz; rfl) fun i a H4 x hx e4 hdx R kk => ?_)) fun w4 H4 e4 g4 => ?_
      · obtain rfl := dp_int hdx
        have ha : a < m.length := List.mem_range.mp (List.mem_of_getElem? hx)
        refine kk _ rfl (et_and (et_test (ev_op (ev_var rfl) (ev_var rfl) (rv_ne rfl))) fun _ => et_B (ev_bl (ed_call (eds_cons (ed_var rfl (dp_same e4 h0)) (eds_cons (ed_var rfl (dp_same e4 g0)) (eds_cons (ed_var rfl (.int _)) eds_nil))) ⟨m, st, a, g, ft.l1, ha, rfl, rfl⟩))) fun _ => ed_var rfl (.int _)
      · have h0 := dp_same e4 h0
        have g1 := dp_same e4 g1
        dsimp only
        refine sd_ret (K := K) (ed_bl (ev_allD (bs := ((List.range m.length).filter fun (j : Nat) => !decide (V.int (j : Int) = V.int (k : Int)) && minds m st j).map fun (j : Nat) => decide (wt st j < (wr m j).2.2.1)) (EvN.list ?_))) fun v H5 e5 hv => ?_
        · rw [List.map_map]
          refine en_map _ (fun j : Nat => PyData.int (j : Int)) _ (ei_lst (ed_var rfl g4)) ?_ (fun _ _ => by show fz (PyData.bool _) = true; unfold fz; rfl) fun i a H6 x hx e6 hdx R kk => ?_
          · have h1 := List.length_filter_le (fun j : Nat => !decide (V.int (j : Int) = V.int (k : Int)) && minds m st j) (List.range m.length)
            rw [List.length_range] at h1
            exact Nat.le_trans h1 (m_le g (by decide))
          · obtain rfl := dp_int hdx
            have ha : a < m.length := List.mem_range.mp (List.mem_filter.mp (List.mem_of_getElem? hx)).1
            exact kk _ rfl (ed_bl (ev_op (ev_int (ed_ixT (ed_var rfl (dp_same e6 g1)) (ev_var rfl) (by omega) (dI_get (by rw [ft.l2]; exact ha)))) (ev_int (ed_ixT (ed_ixL (ed_var rfl (dp_same e6 h0)) (ev_var rfl) (by omega) (dW_get ha)) ev_c (by decide) rfl)) rv_I0))
        · refine q v H5 (e13.trans (e4.trans e5)) ?_
          unfold mayW
          rw [if_neg (by rw [hb]; exact Bool.false_ne_true)]
          exact hv
theorem ok_after {f : Addr} {fd : FuncData} {k : Nat} (F : Fun K "_law_after" "_law_after" sLAfter f fd) (T : Txt mg) (C__law_waits_count : Cal P w K mg base k "_law_waits_count" ["_law_m", "_law_places", "_law_at"] (spP K RCounts)) : FnOk P w K mg base CX0 (k + 1) f fd ["_law_m", "_law_stand", "_law_spot", "_law_to"] (spP K RAfter) := by
  refine F.ok sc__law_after (fun vs H Q E h => ?_) (fun cdv A outer s H vs Q E hr h => ?_)
  · obtain ⟨ds, d, hd, ⟨m, s, k, to, _, _, _, rfl, _⟩, _⟩ := h
    exact hd.length
  · obtain ⟨ds, d, hd, ⟨m, st, k, to, g, ft, hk, rfl, rfl⟩, q⟩ := h
    obtain ⟨v0, v1, v2, v3, rfl, h0, h1, h2, h3⟩ := dps4 hd
    obtain rfl := dp_int h2
    obtain rfl := dp_int h3
    refine ⟨_, (pss_cons (ps_asg (pv 1) (pg_tup rfl (pgs_cons (pg_name (i := 4) sc__law_after.nd rfl (.inr rfl)) (pgs_cons (pg_name (i := 5) sc__law_after.nd rfl (.inl rfl)) (pgs_cons (pg_name (i := 6) sc__law_after.nd rfl (.inl rfl)) pgs_nil)))))
    (pss_cons (ps_setLc (i := 7) (own := [("_law_at", 10), ("_law_wait", 11)]) (g := (gTup K 2 (gCons (gName 10) (gCons (gName 11) gNil)))) (by rfl) sc__law_after.nd rfl rfl (sw_true rfl rfl rfl (by decide +kernel)) (pi_enumT (by rfl) T.m_enumerate (pa_cons (pv 5) pa_nil)) (blkOk_by (own := [("_law_at", 10), ("_law_wait", 11)]) (N := ["_law_m", "_law_stand", "_law_spot", "_law_to", "_law_places", "_law_waits", "_law_run", "_law_later", "_law_many", "_law_fresh", "_law_at", "_law_wait"]) (sc := defScope sLAfter) (by decide +kernel)) (fun _ _ _ _ _ => (pg_tup rfl (pgs_cons (pg_name (i := 10) sc__law_after.nd rfl (.inl rfl)) (pgs_cons (pg_name (i := 11) sc__law_after.nd rfl (.inl rfl)) pgs_nil)))) (fun _ _ _ _ _ => pts_nil) (fun _ _ _ _ _ => (pe_op op_add (pv 11) (pe_callTy call_int1 (by rfl) T.m_int (by decide +kernel) (pa_cons (pe_callC C__law_waits_count hr (by rfl) (pa_cons (pv 0) (pa_cons (pv 4) (pa_cons (pv 10) pa_nil)))) pa_nil)))))
    (pss_cons (ps_asg pe_int (pg_sub (pv 7) (pv 2) set_list))
    (pss_cons (ps_set (i := 8) sc__law_after.nd rfl (.inl rfl) (pe_ifExp (pt_cmpR op_eq (pe_ix ix_tup (pv 6) pe_int (fun _ _ => rfl)) (pv 2) (nomark _)) (pe_op op_add (pe_ix ix_tup (pv 6) pe_int (fun _ _ => rfl)) pe_int) pe_int))
    (pss_cons (ps_set (i := 9) sc__law_after.nd rfl (.inl rfl) (pe_ifExp (pt_cmpR op_gt (pe_ix ix_tup (pe_ix ix_list (pv 0) (pv 2) (fun _ _ => rfl)) pe_int (fun _ _ => rfl)) pe_int (nomark _)) (pe_tup (pa_cons (pv 2) (pa_cons (pv 8) pa_nil))) (pe_tup (pa_cons (pe_un un_neg pe_int) (pa_cons pe_int pa_nil)))))
    (pss_one (ps_ret (pe_tup (pa_cons (pe_op op_catA (pe_op op_catA (pe_slice sl_tupA (pv 4) po_none (po_some (pv 2))) (pe_tup (pa_cons (pv 3) pa_nil))) (pe_slice sl_tupA (pv 4) (po_some (pe_op op_add (pv 2) pe_int)) po_none)) (pa_cons (pe_callTy call_tuple_of (by rfl) T.m_tuple (by decide +kernel) (pa_cons (pv 7) pa_nil)) (pa_cons (pv 9) pa_nil))))))))))), ?_⟩
    refine sd_un3 (ed_var rfl h1) fun w0 w1 w2 H1 e1 g0 g1 g2 => ?_
    have h0 := dp_same e1 h0
    have hl2 : st.2.1.length ≤ 40000 := by rw [ft.l2]; exact m_le g (by decide)
    have hk2 : k < st.2.1.length := by rw [ft.l2]; exact hk
    let ns : List Int := (List.range st.2.1.length).map fun (j : Nat) => wt st j + (if minds m st j then 1 else 0)
    dsimp only
    refine sd_asgN (K := K) (ds := ns.map PyData.int) ?_ fun p vs H2 np e2 hp hvs => ?_
    · rw [show ns.map PyData.int = (List.range st.2.1.length).map fun (j : Nat) => PyData.int (wt st j + (if minds m st j then 1 else 0)) from List.map_map]
      refine en_map _ (fun j : Nat => PyData.tuple [.int (j : Int), .int (st.2.1.getD j 0)]) _ (enum_range st.2.1 ▸ ei_enumT (ed_var rfl g1)) (by rw [List.length_range]; exact hl2) (fun _ _ => by show fz (PyData.int _) = true; unfold fz; rfl) fun i a H6 x hx e6 hdx R kk => tg2 hdx fun u1 u2 a1 a2 => ?_
      obtain rfl := dp_int a1
      obtain rfl := dp_int a2
      have ha : a < m.length := by
        rw [← ft.l2]
        exact List.mem_range.mp (List.mem_of_getElem? hx)
      exact kk _ rfl (ed_int (ev_op (ev_var rfl) (ev_intB (ev_bl (ed_call (eds_cons (ed_var rfl (dp_same e6 h0)) (eds_cons (ed_var rfl (dp_same e6 g0)) (eds_cons (ed_var rfl (.int _)) eds_nil))) ⟨m, st, a, g, ft.l1, ha, rfl, rfl⟩))) rv_I0))
    · have hvs := dps_int hvs
      subst hvs
      have nsl : (ns.map V.int).length = st.2.1.length := by
        rw [List.length_map, List.length_map, List.length_range]
      refine ⟨.ref p, rfl, .int (k : Int), rfl, p, _, (k : Int), k, rfl, rfl, hp, ixN_nat (by rw [nsl]; exact hk2), ?_⟩
      have eset : (ns.map V.int).set k (.int 0) = ((List.range st.2.1.length).map fun (j : Nat) => if (!decide (V.int (j : Int) = V.int (k : Int)) && minds m st j) = true then wt st j + 1 else 0).map V.int := by
        rw [← later_eq ft hk, List.map_set]
      rw [eset]
      generalize hL : ((List.range st.2.1.length).map fun (j : Nat) => if (!decide (V.int (j : Int) = V.int (k : Int)) && minds m st j) = true then wt st j + 1 else 0) = L
      have e0 : Ex H1 (upd H2 p (.lst (L.map V.int))) := Ex.mut e2 np
      have h0 := dp_same e0 h0
      have g0 := dp_same e0 g0
      have g2 := dp_same e0 g2
      have gL : Dp K (upd H2 p (.lst (L.map V.int))) (.ref p) (.list (L.map PyData.int)) := .lst (.of upd_same) (dps_ints L)
      generalize upd H2 p (.lst (L.map V.int)) = H3 at e0 h0 g0 g2 gL
      refine sd_asg (K := K) (d := .int (if V.int st.2.2.1 = V.int (k : Int) then st.2.2.2 + 1 else 1)) (ed_if (b := decide (V.int st.2.2.1 = V.int (k : Int))) (et_test (ev_op (ev_int (ed_ixT (ed_var rfl g2) ev_c (by decide) rfl)) (ev_var rfl) (rv_eq rfl))) (fun hm => ?_) fun hm => ?_) fun w5 H5 e5 g5 => ?_
      · rw [if_pos (of_decide_eq_true hm)]
        exact ed_int (ev_op (ev_int (ed_ixT (ed_var rfl g2) ev_c (by decide) rfl)) ev_c rv_I0)
      · rw [if_neg (of_decide_eq_false hm)]
        exact ed_int ev_c
      · dsimp only
        have h0 := dp_same e5 h0
        have c0 := (g.at hk).c0
        refine sd_asg (K := K) (d := .tuple [.int (behind m st k to).2.2.1, .int (behind m st k to).2.2.2]) (ed_if (b := decide ((wr m k).2.2.2 > 0)) (et_test (ev_op (ev_int (ed_ixT (ed_ixL (ed_var rfl h0) (ev_var rfl) (by omega) (dW_get hk)) ev_c (by decide) rfl)) ev_c rv_I0)) (fun hm => ?_) fun hm => ?_) fun w6 H6 e6 g6 => ?_
        · have hm := of_decide_eq_true hm
          unfold behind
          rw [if_neg (show ¬ V.int (wr m k).2.2.2 = V.int 0 from fun z => by injection z with z; omega)]
          exact ed_tup (eds_cons (ed_int (ev_var rfl)) (eds_cons (ed_var rfl g5) eds_nil)) (by show 2 ≤ 100000; decide)
        · have hm := of_decide_eq_false hm
          unfold behind
          rw [if_pos (show V.int (wr m k).2.2.2 = V.int 0 by congr 1; omega)]
          exact ed_tup (eds_cons (ed_int (ev_un ev_c ru_neg)) (eds_cons (ed_int ev_c) eds_nil)) (by show 2 ≤ 100000; decide)
        · dsimp only
          have e36 := e5.trans e6
          have g0 := dp_same e36 g0
          have gL := dp_same e36 gL
          have l1 := ft.l1
          have l3 := g.len
          refine sd_ret (K := K) (d := dS (behind m st k to)) (ed_tup (eds_cons (d := dI (behind m st k to).1) (ed_is (ed_catA (ed_catA (ed_slTo (ed_var rfl g0) (ev_var rfl)) (ed_tup (eds_cons (ed_int (ev_var rfl)) eds_nil) (by show 1 ≤ 100000; decide)) ?_) (ed_slFrom (k := k + 1) (ed_var rfl g0) (ev_op (ev_var rfl) ev_c rv_I0)) ?_) ?_) (eds_cons (d := dI (behind m st k to).2.1) (ed_is (ed_tuple (ed_var rfl gL)) ?_) (eds_cons (ed_var rfl g6) eds_nil))) (by show 3 ≤ 100000; decide)) fun v H7 e7 hv => q v H7 (((e1.trans e0).trans e36).trans e7) hv
          · simp only [List.length_take, List.length_map, List.length_cons, List.length_nil]
            omega
          · simp only [List.length_append, List.length_take, List.length_drop, List.length_map, List.length_cons, List.length_nil]
            omega
          · unfold behind dI
            rw [List.append_assoc, List.map_append, List.map_take, List.map_cons, List.map_drop]
            rfl
          · rw [← hL]
            rfl
end
end Ink
namespace Ink
open PySem PySem.Spec PyProof.Rows L2 Evl
/-! ### the law's steps are sorted like the program's -/
def dL (m : List Wr) (s : Std) (x : Mv) : PyData := .tuple [.str x.1, .int (x.2.1 : Int), dS (behind m s x.2.1 x.2.2)]
theorem fz_dL (m : List Wr) (s : Std) (x : Mv) : fz (dL m s x) = true := by
  have h := fz_dS (behind m s x.2.1 x.2.2)
  unfold dL
  simp only [fz, fzAll, h, Bool.and_true]
theorem alike_ints : ∀ a b : List Int, PySem.W.alikeAll (a.map PyData.int) (b.map PyData.int) = true
  | [], _ => by simp only [List.map_nil, PySem.W.alikeAll]
  | _ :: _, [] => by simp only [List.map_cons, List.map_nil, PySem.W.alikeAll]
  | x :: a, y :: b => by simp only [List.map_cons, PySem.W.alikeAll, PySem.W.alike, alike_ints a b, Bool.and_self]
theorem alike_dS (a b : Std) : PySem.W.alike (dS a) (dS b) = true := by
  unfold dS dI
  simp only [PySem.W.alike, PySem.W.alikeAll, alike_ints, Bool.and_self]
theorem alike_dL (m : List Wr) (s : Std) (a b : Mv) : PySem.W.alike (dL m s a) (dL m s b) = true := by
  unfold dL
  simp only [PySem.W.alike, PySem.W.alikeAll, alike_dS, Bool.and_self]
theorem depth_dI (a : List Int) : (dI a).depth ≤ 2 := by
  have := depth_map (f := PyData.int) (n := 1) (l := a) fun x _ => by simp only [PyData.depth]; omega
  unfold dI
  simp only [PyData.depth]
  omega
theorem depth_dS (a : Std) : (dS a).depth ≤ 6 := by
  have h1 := depth_dI a.1
  have h2 := depth_dI a.2.1
  unfold dS
  simp only [PyData.depth, PyData.depthAll]
  omega
theorem depth_dL (m : List Wr) (s : Std) (a : Mv) : (dL m s a).depth ≤ 64 := by
  have h1 := depth_dS (behind m s a.2.1 a.2.2)
  unfold dL
  simp only [PyData.depth, PyData.depthAll]
  omega
theorem lex_tok (x x' : List Nat) (n n' : Int) (r r' : List (Int ⊕ List Nat)) (h : x ≠ x' ∨ n ≠ n') : PyProof.Rows.lexLt PyProof.Rows.itemOrd (.inl 1 :: .inr x :: .inl 1 :: .inl n :: r) (.inl 1 :: .inr x' :: .inl 1 :: .inl n' :: r') = PyProof.Rows.lexLt PyProof.Rows.itemOrd ([.inl 1, .inr x, .inl 1, .inl n] : List (Int ⊕ List Nat)) [.inl 1, .inr x', .inl 1, .inl n'] := by
  rw [PyProof.Rows.lex_self, PyProof.Rows.lex_self]
  by_cases e : x = x'
  · subst e
    have hn : n ≠ n' := h.elim (fun z => absurd rfl z) id
    rw [PyProof.Rows.lex_self, PyProof.Rows.lex_self, PyProof.Rows.lex_self, PyProof.Rows.lex_self]
    have hne : (Sum.inl n : Int ⊕ List Nat) ≠ Sum.inl n' := fun z => hn (by injection z)
    exact PySem.W.lex_atom hne _ _
  · have hne : (Sum.inr x : Int ⊕ List Nat) ≠ Sum.inr x' := fun z => e (by injection z)
    rw [PySem.W.lex_atom hne, PySem.W.lex_atom hne [.inl 1, .inl n]]
theorem toks_mv (a : Mv) : ∃ r, PySem.W.keyToks (dMv a) = .inl 1 :: .inr a.1.cps.toList :: .inl 1 :: .inl (a.2.1 : Int) :: r := by
  unfold dMv
  simp only [PySem.W.keyToks, PySem.W.keyToksAll, List.cons_append, List.nil_append]
  exact ⟨_, rfl⟩
theorem toks_dL (m : List Wr) (s : Std) (a : Mv) : ∃ r, PySem.W.keyToks (dL m s a) = .inl 1 :: .inr a.1.cps.toList :: .inl 1 :: .inl (a.2.1 : Int) :: r := by
  unfold dL
  simp only [PySem.W.keyToks, PySem.W.keyToksAll, List.cons_append, List.nil_append]
  exact ⟨_, rfl⟩
theorem le_tok (x y : PyData) : PySem.W.dataLe false id x y = !PyProof.Rows.lexLt PyProof.Rows.itemOrd (PySem.W.keyToks y) (PySem.W.keyToks x) := rfl
theorem moves_uniq {m : List Wr} (g : GoodM m) {s : Std} {a b : Mv} (ha : a ∈ moves m s) (hb : b ∈ moves m s) (h1 : a.1 = b.1) (h2 : a.2.1 = b.2.1) : a = b := by
  unfold moves at ha hb
  obtain ⟨i, hi, hai⟩ := List.mem_flatMap.mp ha
  obtain ⟨j, hj, hbj⟩ := List.mem_flatMap.mp hb
  unfold movesAt at hai hbj
  split at hai
  · split at hbj
    · obtain ⟨x, hx, rfl⟩ := List.mem_map.mp hai
      obtain ⟨y, hy, rfl⟩ := List.mem_map.mp hbj
      have e : i = j := h2
      subst e
      obtain ⟨x1, x2⟩ := List.mem_filter.mp hx
      obtain ⟨y1, y2⟩ := List.mem_filter.mp hy
      have x2 := of_decide_eq_true x2
      have y2 := of_decide_eq_true y2
      injection x2 with x2
      injection y2 with y2
      have h1 : x.2.1 = y.2.1 := h1
      have no : ∀ u v : Arw, u.1 = v.1 → u.2.1 = v.2.1 → ¬ lessA u v := fun u v e1 e2 h => by
        rcases h with h | ⟨_, h⟩
        · omega
        · rw [e2] at h
          exact List.lt_irrefl _ h
      have rise := (g.at (List.mem_range.mp hi)).rise
      obtain ⟨p, hp, ep⟩ := List.mem_iff_getElem.mp x1
      obtain ⟨q, hq, eq⟩ := List.mem_iff_getElem.mp y1
      have exy : x = y := by
        rcases Nat.lt_trichotomy p q with h | h | h
        · have := (List.pairwise_iff_getElem.mp rise) p q hp hq h
          rw [ep, eq] at this
          exact absurd this (no x y (by omega) h1)
        · subst h
          exact ep.symm.trans eq
        · have := (List.pairwise_iff_getElem.mp rise) q p hq hp h
          rw [ep, eq] at this
          exact absurd this (no y x (by omega) h1.symm)
      rw [exy]
    · cases hbj
  · cases hai
theorem le_same {m : List Wr} (g : GoodM m) {s : Std} {a b : Mv} (ha : a ∈ moves m s) (hb : b ∈ moves m s) : leMv a b = PySem.W.dataLe false id (dL m s a) (dL m s b) := by
  unfold leMv
  rw [le_tok, le_tok]
  by_cases h : a = b
  · subst h
    rw [PyProof.Rows.lex_irrefl, PyProof.Rows.lex_irrefl]
  · obtain ⟨r1, e1⟩ := toks_mv a
    obtain ⟨r2, e2⟩ := toks_mv b
    obtain ⟨r3, e3⟩ := toks_dL m s a
    obtain ⟨r4, e4⟩ := toks_dL m s b
    have hne : b.1.cps.toList ≠ a.1.cps.toList ∨ (b.2.1 : Int) ≠ (a.2.1 : Int) := by
      by_cases h1 : b.1.cps.toList = a.1.cps.toList
      · refine .inr fun h2 => h (moves_uniq g ha hb (PySem.W.str_of_cps h1).symm ?_)
        omega
      · exact .inl h1
    rw [e1, e2, e3, e4, lex_tok _ _ _ _ _ _ hne, lex_tok _ _ _ _ r4 r3 hne]
theorem sort_dL {m : List Wr} (g : GoodM m) (s : Std) : ((moves m s).map (dL m s)).mergeSort (PySem.W.dataLe false id) = ((moves m s).mergeSort leMv).map (dL m s) :=
  (List.map_mergeSort (r := leMv) (s := PySem.W.dataLe false id) (f := dL m s) (l := moves m s) fun a ha b hb => le_same g ha hb).symm
theorem moves_at {m : List Wr} {s : Std} {a : Mv} (h : a ∈ moves m s) : a.2.1 < m.length := by
  unfold moves at h
  obtain ⟨j, hj, hmj⟩ := List.mem_flatMap.mp h
  unfold movesAt at hmj
  split at hmj
  · obtain ⟨y, _, rfl⟩ := List.mem_map.mp hmj
    exact List.mem_range.mp hj
  · cases hmj
theorem movesAt_len {m : List Wr} (g : GoodM m) (s : Std) {i : Nat} (h : i < m.length) : (movesAt m s i).length ≤ 9 := by
  unfold movesAt
  split
  · rw [List.length_map]
    have h1 := List.length_filter_le (fun x : Arw => decide (V.int x.1 = V.int (pl s i))) (wr m i).2.1
    have h2 := (g.at h).len
    omega
  · exact Nat.zero_le _
theorem moves_part {m : List Wr} (g : GoodM m) (s : Std) {i : Nat} (h : i ≤ m.length) : ((List.range i).flatMap (movesAt m s)).length ≤ 27 := by
  refine Nat.le_trans ?_ (moves_len g s)
  unfold moves
  have : (List.range m.length) = List.range i ++ (List.range (m.length - i)).map (i + ·) := by
    rw [← List.range_add]
    congr 1
    omega
  rw [this, List.flatMap_append, List.length_append]
  omega
section
variable {P : Program} {w : World} {K : PySem.W.Frag} {mg : Str → Option Value} {base : Heap}
theorem range_get {n i : Nat} {d : PyData} (h : ((List.range n).map fun (i : Nat) => PyData.int (i : Int))[i]? = some d) : i < n ∧ d = .int (i : Int) := by
  have hi : i < n := by
    have := (List.getElem?_eq_some_iff.mp h).1
    rw [List.length_map, List.length_range] at this
    exact this
  rw [List.getElem?_map, List.getElem?_range hi] at h
  exact ⟨hi, (Option.some.inj h).symm⟩
/-- a contract of data alone, told in a new list -/
def spN (K : PySem.W.Frag) (R : List PyData → List PyData → Prop) : Sp := fun vs H Q _ => ∃ ds es, DpAll K H vs ds ∧ R ds es ∧ ∀ p us H', H p = none → Same H H' → H' p = some (.lst us) → DpAll K H' us es → Q (.ref p) H'
theorem en_call {σ : L2.St} {H : Hp} {R : List PyData → List PyData → Prop} {E : XK} {ta : TA} {ds es : List PyData} (h : EvDs K ta σ H ds) (hR : R ds es) : EvN K (tCall (spN K R) [] E ta) σ H es := fun H1 e Q q =>
  h H1 e _ fun vs H2 e2 hds => by
    show spN K R (vs ++ []) H2 Q E
    rw [List.append_nil]
    exact ⟨ds, es, hds, hR, fun p us H3 np s3 hp hd => q p us H3 (fresh_back e2 np) (e2.trans s3) hp hd⟩
theorem sd_retN {σ : L2.St} {H : Hp} {te : TE} {D : Ends} {ds : List PyData} (h : EvN K te σ H ds) (k : ∀ p vs H1, H p = none → Ex H H1 → H1 p = some (.lst vs) → DpAll K H1 vs ds → D.rt (.ref p) H1) : tRet te D σ H := h H (.refl H) _ k
def RLN : List PyData → List PyData → Prop := fun ds es => ∃ m s, GoodM m ∧ Okay m s ∧ ds = [dMl m, dS s] ∧ es = (stepsOf m s).map dStep
theorem ok_lsteps {f : Addr} {fd : FuncData} {k : Nat} (F : Fun K "_law_steps" "_law_steps" sLSteps f fd) (T : Txt mg) (C__law_can : Cal P w K mg base k "_law_can" ["_law_m", "_law_stand", "_law_spot"] (spP K RCan))
    (C__law_arrows : Cal P w K mg base k "_law_arrows" ["_law_writer_here", "_law_place"] (spP K RArrs)) (C__law_after : Cal P w K mg base k "_law_after" ["_law_m", "_law_stand", "_law_spot", "_law_to"] (spP K RAfter)) : FnOk P w K mg base CX0 (k + 1) f fd ["_law_m", "_law_stand"] (spN K RLN) := by
  refine F.ok sc__law_steps (fun vs H Q E h => ?_) (fun cdv A outer s H vs Q E hr h => ?_)
  · obtain ⟨ds, d, hd, ⟨m, s, _, _, rfl, _⟩, _⟩ := h
    exact hd.length
  · obtain ⟨ds, d, hd, ⟨m, st, g, ft, rfl, rfl⟩, q⟩ := h
    obtain ⟨v0, v1, rfl, h0, h1⟩ := dps2 hd
    refine ⟨_, (pss_cons (ps_set (i := 2) sc__law_steps.nd rfl (.inl rfl) (pe_lst pa_nil))
    (pss_cons (ps_for PassesOwn.never rfl (pi_range1 (by rfl) T.m_range (pa_cons (pe_callB call_len (by rfl) T.m_len PySem.boot_len (pa_cons (pv 0) pa_nil)) pa_nil)) (pg_name (i := 3) sc__law_steps.nd rfl (.inr rfl))
    (pss_one (ps_if (pt_val (pe_callC C__law_can hr (by rfl) (pa_cons (pv 0) (pa_cons (pv 1) (pa_cons (pv 3) pa_nil)))))
    (pss_cons (ps_set (i := 4) sc__law_steps.nd rfl (.inl rfl) (pe_callC C__law_arrows hr (by rfl) (pa_cons (pe_ix ix_list (pv 0) (pv 3) (fun _ _ => rfl)) (pa_cons (pe_ix ix_tup (pe_ix ix_tup (pv 1) pe_int (fun _ _ => rfl)) (pv 3) (fun _ _ => rfl)) pa_nil))))
    (pss_one (ps_set (i := 2) sc__law_steps.nd rfl (.inl rfl) (pe_op op_cat (pv 2) (pe_lc (own := [("_law_sign", 5), ("_law_to", 6)]) (g := (gTup K 2 (gCons (gName 5) (gCons (gName 6) gNil)))) (by rfl) sc__law_steps.nd (pi_list (pv 4)) (blkOk_by (own := [("_law_sign", 5), ("_law_to", 6)]) (N := ["_law_m", "_law_stand", "_law_found", "_law_spot", "_law_some", "_law_sign", "_law_to", "_law_later"]) (sc := defScope sLSteps) (by decide +kernel)) (fun _ _ _ _ _ => (pg_tup rfl (pgs_cons (pg_name (i := 5) sc__law_steps.nd rfl (.inl rfl)) (pgs_cons (pg_name (i := 6) sc__law_steps.nd rfl (.inl rfl)) pgs_nil)))) (fun _ _ _ _ _ => pts_nil) (fun _ _ _ _ _ => (pe_tup (pa_cons (pv 5) (pa_cons (pv 3) (pa_cons (pe_callC C__law_after hr (by rfl) (pa_cons (pv 0) (pa_cons (pv 1) (pa_cons (pv 3) (pa_cons (pv 6) pa_nil))))) pa_nil)))))))))) pss_nil)))
    (pss_one (ps_ret (pe_lc (own := [("_law_sign", 5), ("_law_spot", 3), ("_law_later", 7)]) (g := (gTup K 3 (gCons (gName 5) (gCons (gName 3) (gCons (gName 7) gNil))))) (by rfl) sc__law_steps.nd (pi_list (pe_callB (cr_sortedD (hu9 hr)) (by rfl) T.m_sorted (by decide +kernel) (pa_cons (pv 2) pa_nil))) (blkOk_by (own := [("_law_sign", 5), ("_law_spot", 3), ("_law_later", 7)]) (N := ["_law_m", "_law_stand", "_law_found", "_law_spot", "_law_some", "_law_sign", "_law_to", "_law_later"]) (sc := defScope sLSteps) (by decide +kernel)) (fun _ _ _ _ _ => (pg_tup rfl (pgs_cons (pg_name (i := 5) sc__law_steps.nd rfl (.inl rfl)) (pgs_cons (pg_name (i := 3) sc__law_steps.nd rfl (.inl rfl)) (pgs_cons (pg_name (i := 7) sc__law_steps.nd rfl (.inl rfl)) pgs_nil))))) (fun _ _ _ _ _ => pts_nil) (fun _ _ _ _ _ => (pe_tup (pa_cons (pv 5) (pa_cons (pe_ix (show IxR _ (rIxT K) from ix_tup) (pe_ix (show IxR _ (rIxL K) from ix_list) (pv 0) (pv 3) (fun _ _ => rfl)) pe_int (fun _ _ => rfl)) (pa_cons (pv 7) pa_nil)))))))))), ?_⟩
    refine sd_asgN (K := K) (en_lst eds_nil (by decide)) fun p vs H1 np e1 hp hvs => ?_
    cases hvs
    dsimp only
    have h0 := dp_same e1 h0
    have h1 := dp_same e1 h1
    have ml := moves_len g st
    refine sd_forS (K := K) (ei_range (ea_cons (ev_is (ev_lenD (ed_var rfl h0) (.inl rfl)) (by rw [List.length_map])) ea_nil) (m_le g (by decide))) (fun H2 i σ' H' => ∃ y3 y4 fp vs, σ' = [some v0, some v1, some (.ref fp), y3, y4, none, none, none] ∧ Ex H2 H' ∧ H' fp = some (.lst vs) ∧ DpAll K H' vs (((List.range i).flatMap (movesAt m st)).map (dL m st)))
      (fun H2 e2 => ⟨none, none, p, [], rfl, .refl _, e2 _ _ hp, .nil⟩) (fun H2 i σ' H' hP => by obtain ⟨_, _, _, _, _, e, _⟩ := hP; exact e) (fun H2 i d x σ' Ha Hb e2 hd hP eab hx => ?_) (fun H2 σ' H' e2 hP => ?_)
    · obtain ⟨y3, y4, fp, vs, rfl, ex, hfp, hvs⟩ := hP
      obtain ⟨hi, rfl⟩ := range_get hd
      obtain rfl := dp_int hx
      have e12 : Ex H1 Hb := (e2.trans ex).trans eab
      have h0 := dp_same e12 h0
      have h1 := dp_same e12 h1
      have hfp := eab _ _ hfp
      have hvs := dps_same eab hvs
      have ef : (List.range (i + 1)).flatMap (movesAt m st) = (List.range i).flatMap (movesAt m st) ++ movesAt m st i := by
        rw [List.range_succ, List.flatMap_append, List.flatMap_cons, List.flatMap_nil, List.append_nil]
      have lb := moves_part g st (Nat.le_of_lt hi)
      have l9 := movesAt_len g st hi
      refine s_if (b := mayW m st i) (et_B (ev_bl (ed_call (eds_cons (ed_var rfl h0) (eds_cons (ed_var rfl h1) (eds_cons (ed_var rfl (.int _)) eds_nil))) ⟨m, st, i, g, ft, hi, rfl, rfl⟩))) (fun hb H3 e3 => ?_) fun hb H3 e3 => ?_
      · have h0 := dp_same e3 h0
        have h1 := dp_same e3 h1
        have emv : movesAt m st i = (arrsAt (wr m i) (pl st i)).map fun x => (x.2.1, i, x.2.2) := by
          unfold movesAt arrsAt
          rw [if_pos hb]
        have hgi := g.at hi
        refine sd_asg (K := K) (d := .list ((arrsAt (wr m i) (pl st i)).map dP)) (ed_call (eds_cons (ed_ixL (ed_var rfl h0) (ev_var rfl) (by omega) (dW_get hi)) (eds_cons (ed_ixT (ed_ixT (ed_var rfl h1) ev_c (by decide) rfl) (ev_var rfl) (by omega) (dI_get (by rw [ft.l1]; exact hi))) eds_nil)) ⟨wr m i, pl st i, hgi.len, rfl, rfl⟩) fun w4 H4 e4 g4 => ?_
        have h0 := dp_same e4 h0
        have h1 := dp_same e4 h1
        dsimp only
        refine sd_asgN (K := K) (en_cat (ds := ((List.range i).flatMap (movesAt m st)).map (dL m st)) (es := (movesAt m st i).map (dL m st)) (em_var rfl ((e3.trans e4) _ _ hfp) (dps_same (e3.trans e4) hvs)) (EvN.m ?_) ?_) fun fp2 vs2 H5 np5 e5 hp5 hvs5 => ?_
        · rw [emv, List.map_map]
          rw [emv, List.length_map] at l9
          refine en_map (arrsAt (wr m i) (pl st i)) dP _ (ei_lst (ed_var rfl g4)) (by omega) (fun x _ => fz_dL m st (x.2.1, i, x.2.2)) fun j a H6 x hx e6 hdx R kk => tg2 hdx fun u1 u2 b1 b2 => ?_
          exact kk _ rfl (ed_tup (eds_cons (ed_var rfl b1) (eds_cons (ed_int (ev_var rfl)) (eds_cons (ed_call (eds_cons (ed_var rfl (dp_same e6 h0)) (eds_cons (ed_var rfl (dp_same e6 h1)) (eds_cons (ed_var rfl (.int _)) (eds_cons (ed_var rfl b2) eds_nil)))) ⟨m, st, i, a.2.2, g, ft, hi, rfl, rfl⟩) eds_nil))) (by show 3 ≤ 100000; decide))
        · rw [List.length_map, List.length_map]
          omega
        · refine ⟨_, _, fp2, vs2, rfl, ((ex.trans eab).trans (e3.trans e4)).trans e5, hp5, ?_⟩
          rw [ef, List.map_append]
          exact hvs5
      · have emv : movesAt m st i = [] := by
          unfold movesAt
          rw [if_neg (by rw [hb]; exact Bool.false_ne_true)]
        refine ⟨_, _, fp, vs, rfl, (ex.trans eab).trans e3, e3 _ _ hfp, ?_⟩
        rw [ef, emv, List.append_nil]
        exact dps_same e3 hvs
    · obtain ⟨y3, y4, fp, vs, rfl, ex, hfp, hvs⟩ := hP
      rw [List.length_map, List.length_range] at hvs
      have hvs : DpAll K H' vs ((moves m st).map (dL m st)) := hvs
      have h0 := dp_same (e2.trans ex) h0
      dsimp only
      refine sd_retN (K := K) (ds := (stepsOf m st).map dStep) ?_ fun p2 us H3 np3 e3 hp3 hus => q p2 us H3 (Same.free ((e1.trans e2).trans ex) np3) (((e1.trans e2).trans ex).trans e3) hp3 hus
      unfold stepsOf
      rw [List.map_map]
      refine en_map ((moves m st).mergeSort leMv) (dL m st) _ ?_ (by rw [List.length_mergeSort]; omega) (fun x _ => fz_dStep (x.1, (wr m x.2.1).1, behind m st x.2.1 x.2.2)) fun j a H5 x hx e5 hdx R kk => tg3 hdx fun u1 u2 u3 b1 b2 b3 => ?_
      · rw [← sort_dL g]
        exact ei_lst (EvN.list (en_sorted (ed_var rfl (.lst (.of hfp) hvs)) (PySem.W.AllAlike.of (alike_dL m st)) (PySem.W.Sortable.tuples fun b => ⟨_, _, rfl⟩) (fun d hd => by
          obtain ⟨a, _, rfl⟩ := List.mem_map.mp hd
          exact depth_dL m st a)))
      · obtain rfl := dp_int b2
        have ha : a.2.1 < m.length := by
          have hm := List.mem_of_getElem? hx
          rw [List.mem_mergeSort] at hm
          exact moves_at hm
        exact kk _ rfl (ed_tup (eds_cons (ed_var rfl b1) (eds_cons (ed_ixT (ed_ixL (ed_var rfl (dp_same e5 h0)) (ev_var rfl) (by omega) (dW_get ha)) ev_c (by decide) rfl) (eds_cons (ed_var rfl b3) eds_nil))) (by show 3 ≤ 100000; decide))
end
end Ink
namespace Ink
open PySem PySem.Spec PyProof.Rows L2 Evl
/-! ### the law's draws of companies and stands -/
def MAt (K : PySem.W.Frag) (H : Hp) (a p : Addr) (m : List Wr) : Prop := ∃ vs, H p = some (.lst vs) ∧ DpAll K H vs (m.map dW) ∧ p ≠ a
theorem fz_dWs (m : List Wr) : fzAll (m.map dW) = true := fz_map fun x _ => fz_dW x
theorem MAt.keep {K : PySem.W.Frag} {H H' : Hp} {a l p : Addr} {m : List Wr} (b : BagAt H a l) (k : Keep a H H') (h : MAt K H a p m) : MAt K H' a p m := by
  obtain ⟨vs, h1, h2, h3⟩ := h
  exact ⟨vs, k p _ h3 h1, dps_keep b k (fz_dWs m) h2, h3⟩
theorem MAt.same {K : PySem.W.Frag} {H H' : Hp} {a p : Addr} {m : List Wr} (e : Same H H') (h : MAt K H a p m) : MAt K H' a p m := by
  obtain ⟨vs, h1, h2, h3⟩ := h
  exact ⟨vs, e _ _ h1, dps_same e h2, h3⟩
theorem MAt.kx {K : PySem.W.Frag} {H H' : Hp} {a p : Addr} {m : List Wr} (e : KX H H') (h : MAt K H a p m) : MAt K H' a p m := by
  obtain ⟨vs, h1, h2, h3⟩ := h
  exact ⟨vs, e.lst h1, e.dps h2, h3⟩
theorem MAt.dp {K : PySem.W.Frag} {H : Hp} {a p : Addr} {m : List Wr} (h : MAt K H a p m) : Dp K H (.ref p) (dMl m) := by
  obtain ⟨vs, h1, h2, h3⟩ := h
  exact .lst (.of h1) h2
/-- other lists change -/
theorem MAt.upd {K : PySem.W.Frag} {H : Hp} {a p q : Addr} {m : List Wr} {xs : List V} {o : HO} (n : p ≠ q) (hq : H q = some (.lst xs)) (h : MAt K H a p m) : MAt K (upd H q o) a p m := by
  obtain ⟨vs, h1, h2, h3⟩ := h
  exact ⟨vs, by rw [upd_ne n]; exact h1, dps_tk (.lst hq) (fz_dWs m) h2, h3⟩
theorem wr_dp {K : PySem.W.Frag} {H : Hp} {W : Addr} {z : Str} {ar : List Arw} {p c : Int} (h : WrAt H W z ar p c) : Dp K H (.ref W) (dW (z, ar, p, c)) := by
  obtain ⟨tp, ps, h1, h2, h3⟩ := h
  have : DpAll K H (ps.map V.ref) (ar.map dA) := by
    unfold ArsAt at h3
    clear h1 h2
    induction h3 with
    | nil => exact .nil
    | @cons p x ps ar r t ih =>
      unfold ArwAt at r
      exact .cons (.tup (.of r) (.cons (.int _) (.cons (.str _) (.cons (.int _) .nil)))) ih
  exact .tup (.of h1) (.cons (.str z) (.cons (.tup (.of h2) this) (.cons (.int p) (.cons (.int c) .nil))))
def spComp (K : PySem.W.Frag) : Sp := fun vs H Q _ => ∃ (a l sp : Addr) (m : Int) (cs : List Nat), vs = [.ref a, .int m, .ref sp] ∧ BagAt H a l ∧ 1 ≤ m ∧ m ≤ 3 ∧ H sp = some (.lst ((cs.map single).map V.str)) ∧ sp ≠ a ∧ (∀ c ∈ cs, c ∈ lets) ∧ cs.Pairwise (· < ·) ∧
  ∀ p ms H', H p = none → GoodM ms → 1 ≤ ms.length → MAt K H' a p ms → BagAt H' a l → Keep a H H' → Q (.ref p) H'
def spAny (K : PySem.W.Frag) : Sp := fun vs H Q _ => ∃ (a l p : Addr) (m : List Wr), vs = [.ref a, .ref p] ∧ BagAt H a l ∧ MAt K H a p m ∧ GoodM m ∧ ∀ v s H', Okay m s → Dp K H' v (dS s) → BagAt H' a l → Keep a H H' → Q v H'
section
variable {P : Program} {w : World} {K : PySem.W.Frag} {mg : Str → Option Value} {base : Heap}
theorem thick_of {v : V} (h : v ∈ [V.int 3, V.int 5, V.int 7, V.int 8]) : ∃ t : Int, v = .int t := by
  simp only [List.mem_cons, List.not_mem_nil, or_false] at h
  rcases h with rfl | rfl | rfl | rfl <;> exact ⟨_, rfl⟩
theorem ok_company {f : Addr} {fd : FuncData} {k : Nat} (F : Fun K "_law_company" "_law_company" sLCompany f fd) (T : Txt mg)
    (C__law_pull : Cal P w K mg base k "_law_pull" ["_law_bag_here", "_law_many"] spPull) (C__law_of : Cal P w K mg base k "_law_of" ["_law_bag_here", "_law_things"] (spOf K))
    (C__law_names : Cal P w K mg base k "_law_names" ["_law_bag_here", "_law_many"] spNames) (C__law_writer : Cal P w K mg base k "_law_writer" ["_law_bag_here", "_law_name", "_law_places", "_law_signs_here", "_law_thick"] spWriter) :
    FnOk P w K mg base CX0 (k + 1) f fd ["_law_bag_here", "_law_limit", "_law_signs_here"] (spComp K) := by
  refine F.ok sc__law_company (fun vs H Q E h => ?_) (fun cdv A outer s H vs Q E hr h => ?_)
  · obtain ⟨a, l, sp, m, cs, rfl, _⟩ := h
    rfl
  · obtain ⟨a, l, sp, m, cs, rfl, hB, m1, m3, hsp, nsp, hcs, hrise, q⟩ := h
    refine ⟨_, (pss_cons (ps_par (i := 3) (j := 4) (by rfl) sc__law_company.nd rfl rfl (by decide) rfl rfl (pa_cons (pe_callC C__law_of hr (by rfl) (pa_cons (pv 0) (pa_cons (pe_lst (pa_cons pe_int (pa_cons pe_int (pa_cons pe_int (pa_cons pe_int pa_nil))))) pa_nil))) (pa_cons (pe_lst pa_nil) pa_nil)) (by rfl))
    (pss_cons (ps_for PassesOwn.never rfl (pi_list (pe_callC C__law_names hr (by rfl) (pa_cons (pv 0) (pa_cons (pe_op op_add pe_int (pe_callC C__law_pull hr (by rfl) (pa_cons (pv 0) (pa_cons (pv 1) pa_nil)))) pa_nil)))) (pg_name (i := 5) sc__law_company.nd rfl (.inl rfl))
    (pss_one (ps_expr (pe_bm PySem.F.plainAttrs_list PySem.F.slot_list_append PySem.F.type_list_append mt_append (pv 4) (pa_cons (pe_callC C__law_writer hr (by rfl) (pa_cons (pv 0) (pa_cons (pv 5) (pa_cons (pe_op op_add pe_int (pe_callC C__law_pull hr (by rfl) (pa_cons (pv 0) (pa_cons pe_int pa_nil)))) (pa_cons (pv 2) (pa_cons (pv 3) pa_nil)))))) pa_nil)))))
    (pss_one (ps_ret (pv 4))))), ?_⟩
    refine ⟨.ref a, rfl, by show 4 ≤ sizeLine; decide, fun p2 np2 => ?_⟩
    refine ⟨a, l, _, _, rfl, hB.upd (hB.ne np2), .inl ⟨p2, rfl, (hB.ne np2).1.symm, .inl (.of upd_same)⟩, by decide, by decide, fun v H1 hv hB1 k1 => ?_⟩
    obtain ⟨t, rfl⟩ := thick_of hv
    have k1 : Keep a H H1 := (Keep.of_same (same_new np2)).trans k1
    refine ⟨by show 0 ≤ sizeLine; decide, fun fp nfp => ?_⟩
    have k2 := k1.trans (Keep.of_same (same_new (o := .lst ([] : List V)) nfp))
    have hB2 := hB1.upd (o := .lst ([] : List V)) (hB1.ne nfp)
    have nl := hB1.ne nfp
    have nfa : fp ≠ a := nl.1.symm
    have hfp : (upd H1 fp (.lst ([] : List V))) fp = some (.lst []) := upd_same
    have hsp2 := k2 _ _ nsp hsp
    have nfsp : sp ≠ fp := ne_of_none (k1 _ _ nsp hsp) nfp
    generalize upd H1 fp (.lst ([] : List V)) = H2 at k2 hB2 hfp hsp2
    refine ⟨_, _, rfl, ?_⟩
    refine ⟨.ref a, rfl, .ref a, rfl, .int m, rfl, a, l, m, rfl, hB2, by omega, by omega, fun r H3 r0 r1 hB3 k3 => ⟨1, r, rfl, rfl, ?_⟩⟩
    refine ⟨a, l, 1 + r, rfl, hB3, by omega, by omega, fun np zs H4 nnp hlen hz hnd hnp hB4 k4 => ?_⟩
    have hnfp : np ≠ fp := fun z => by
      have := k3 _ _ nfa hfp
      rw [z, this] at nnp
      cases nnp
    have nnpa : np ≠ a := fun z => by
      obtain ⟨_, _, _, _, e, _⟩ := hB3
      rw [z, e] at nnp
      cases nnp
    have nfpH : H fp = none := Keep.free k1 nfa.symm nfp
    have k24 := k3.trans k4
    refine ⟨np, rfl, ⟨_, .of hnp⟩, for_it (walk_list (K := K) (xs := zs.map V.str)) (fun i σ' H' => (∃ y5, σ' = [some (.ref a), some (.int m), some (.ref sp), some (.int t), some (.ref fp), y5]) ∧ BagAt H' a l ∧ Keep a H H' ∧ H' np = some (.lst (zs.map V.str)) ∧
      ∃ vs ms, H' fp = some (.lst vs) ∧ DpAll K H' vs (ms.map dW) ∧ ms.map (·.1) = zs.take i ∧ ∀ w ∈ ms, GoodW w.1 w.2.1 w.2.2.1 w.2.2.2) ⟨⟨none, rfl⟩, hB4, k2.trans k24, hnp, [], [], k24 _ _ nfa hfp, .nil, rfl, fun _ h => (by cases h)⟩ (fun i σ' H' _ hP => .of hP.2.2.2.1) (fun i x σ' Ha Hb hi hP hy => ?_) (fun σ' H' hP => ?_)⟩
    · obtain ⟨⟨y5, rfl⟩, hB5, k5, hnp5, vs, ms, hfp5, hvs, hns, hgs⟩ := hP
      obtain ⟨rfl, hx⟩ := hy
      rw [List.getElem?_map] at hx
      rw [List.length_map] at hi
      rw [List.getElem?_eq_getElem hi] at hx
      obtain rfl := (Option.some.inj hx).symm
      have hzi := hz _ (List.getElem_mem hi)
      have hvl : vs.length ≤ 20 := by
        have h1 := hvs.length
        have h2 := congrArg List.length hns
        rw [List.length_map] at h1 h2
        rw [List.length_take] at h2
        omega
      refine ⟨.ref fp, rfl, .inl ⟨rfl, _, .of hfp5⟩, ?_⟩
      refine ⟨.ref a, rfl, .str _, rfl, .ref a, rfl, a, l, 3, rfl, hB5, by decide, by decide, fun r' H6 r0' r1' hB6 k6 => ⟨1, r', rfl, rfl, ?_⟩⟩
      refine ⟨.ref sp, rfl, .int t, rfl, a, l, zs[i], 1 + r', sp, cs, t, rfl, hB6, hzi, by omega, by omega, k6 _ _ nsp (k5 _ _ nsp hsp), nsp, hcs, hrise, fun W ar p c H7 nW hW hG hB7 k7 => ?_⟩
      have k67 := k6.trans k7
      have hfp7 := k67 _ _ nfa hfp5
      have hvs7 := dps_keep hB5 k67 (fz_dWs ms) hvs
      refine ⟨fp, vs, .ref W, rfl, rfl, hfp7, small_lt (by omega), ⟨_, rfl⟩, hB7.upd nl, Keep.mut (k5.trans k67) nfpH, by rw [upd_ne hnfp]; exact k67 _ _ nnpa hnp5, _, ms ++ [(zs[i], ar, p, c)], upd_same, ?_, ?_, ?_⟩
      · rw [List.map_append]
        exact (dps_tk (.lst hfp7) (fz_dWs ms) hvs7).app (.one (dp_tk (.lst hfp7) (fz_dW _) (wr_dp hW)))
      · rw [List.map_append, hns, take_snoc (List.getElem?_eq_getElem hi)]
        rfl
      · intro w hw
        rcases List.mem_append.mp hw with hw | hw
        · exact hgs w hw
        · rw [List.mem_singleton.mp hw]
          exact hG
    · obtain ⟨⟨y5, rfl⟩, hB5, k5, hnp5, vs, ms, hfp5, hvs, hns, hgs⟩ := hP
      rw [List.length_map, List.take_length] at hns
      have hl := congrArg List.length hns
      rw [List.length_map] at hl
      exact ⟨.ref fp, rfl, q fp ms H' nfpH ⟨by omega, hgs, by rw [hns]; exact hnd⟩ (by omega) ⟨vs, hfp5, hvs, nfa⟩ hB5 k5⟩
def iFix (J : It) : TI := fun _ H R => R J H
theorem rng_use {σ : L2.St} {H : Hp} {ta : TA} {n : Nat} {rT : List V → Hp → VK → Prop} {g gn : TG} {tt : TT} {te : TE} {vs : List Nat} {D : Ends} (h : EvA ta σ H [.int (n : Int)]) (hn : n ≤ 100000)
    (k : ∀ H1, Ex H H1 → tAsg (tCB rT (tCons (tLc (iFix (Itr 0 (n : Int).toNat)) g tt te vs) tNil)) gn D σ H1) : tAsg (tCB rT (tCons (tLc (iRng1 ta) g tt te vs) tNil)) gn D σ H := h H (.refl H) _ fun H1 e => ⟨(n : Int), rfl, by omega, by omega, k H1 e⟩
theorem ints_shaped (ns : List Int) : SeqAt.shaped (.list (ns.map PyData.int)) = true := by
  have h1 : PyData.canLayAll0 (ns.map PyData.int) = true := lay_map fun x _ => by simp only [PyData.canLay0]
  have h2 := depth_map (f := PyData.int) (n := 1) (l := ns) fun x _ => by simp only [PyData.depth]; omega
  unfold SeqAt.shaped
  rw [Bool.and_eq_true, decide_eq_true_eq]
  refine ⟨by simp only [PyData.canLay0]; exact h1, ?_⟩
  simp only [PyData.depth]
  omega
theorem q_ifOr {σ : L2.St} {H : Hp} {t u : TT} {tu tz : TS} {D : Ends} {b : Bool} (h : EvT t σ H b) (h1 : b = true → ∀ H1, Ex H H1 → tu { D with nx := tz D } σ H1) (h2 : b = false → ∀ H1, Ex H H1 → tSeq (tIfS u tu tNext) tz D σ H1) : tSeq (tIfS (tOr t u) tu tNext) tz D σ H := h H (.refl H) _ fun H1 e => by
  cases b with
  | true => exact h1 rfl H1 e
  | false => exact h2 rfl H1 e
theorem minds_p (m : List Wr) (s s' : Std) (k : Nat) (h : s.1 = s'.1) : minds m s k = minds m s' k := by
  unfold minds pl
  rw [h]
end
end Ink
namespace Ink
open PySem PySem.Spec PyProof.Rows L2 Evl
/-! ### told alike -/
def okD : Nat → PyData → Prop
  | 0, _ => False
  | n + 1, .list ds => ds.length ≤ 100000 ∧ ∀ d ∈ ds, okD n d
  | n + 1, .tuple ds => ds.length ≤ 100000 ∧ ∀ d ∈ ds, okD n d
  | _ + 1, .dict _ => False
  | _ + 1, .none => True
  | _ + 1, .bool _ => True
  | _ + 1, .int _ => True
  | _ + 1, .str _ => True
theorem lk_dp {K : PySem.W.Frag} {H : Hp} : ∀ (n : Nat) (d : PyData) (v w : V), okD n d → Dp K H v d → Dp K H w d → Lk K H n v w
  | 0, _, _, _, h, _, _ => h.elim
  | n + 1, .none, _, _, _, h1, h2 => by rw [dp_non h1, dp_non h2]; exact .inl ⟨rfl, rfl⟩
  | n + 1, .bool _, _, _, _, h1, h2 => by rw [dp_bl h1, dp_bl h2]; exact .inl ⟨rfl, rfl⟩
  | n + 1, .int _, _, _, _, h1, h2 => by rw [dp_int h1, dp_int h2]; exact .inl ⟨rfl, rfl⟩
  | n + 1, .str _, _, _, _, h1, h2 => by rw [dp_str h1, dp_str h2]; exact .inl ⟨rfl, rfl⟩
  | n + 1, .list ds, _, _, h, h1, h2 => by
    obtain ⟨p, xs, rfl, hp, hxs⟩ := dp_lst h1
    obtain ⟨q, ys, rfl, hq, hys⟩ := dp_lst h2
    have l1 := hxs.length
    have l2 := hys.length
    have h0 := h.1
    refine .inr ⟨p, q, xs, ys, rfl, rfl, .inl ⟨hp, hq⟩, by omega, by omega, fun i x y hx hy => ?_⟩
    obtain ⟨d1, e1, g1⟩ := hxs.at hx
    obtain ⟨d2, e2, g2⟩ := hys.at hy
    rw [e1] at e2
    obtain rfl := Option.some.inj e2
    exact lk_dp n d1 x y (h.2 d1 (List.mem_of_getElem? e1)) g1 g2
  | n + 1, .tuple ds, _, _, h, h1, h2 => by
    obtain ⟨p, xs, rfl, hp, hxs⟩ := dp_tup h1
    obtain ⟨q, ys, rfl, hq, hys⟩ := dp_tup h2
    have l1 := hxs.length
    have l2 := hys.length
    have h0 := h.1
    refine .inr ⟨p, q, xs, ys, rfl, rfl, .inr ⟨hp, hq⟩, by omega, by omega, fun i x y hx hy => ?_⟩
    obtain ⟨d1, e1, g1⟩ := hxs.at hx
    obtain ⟨d2, e2, g2⟩ := hys.at hy
    rw [e1] at e2
    obtain rfl := Option.some.inj e2
    exact lk_dp n d1 x y (h.2 d1 (List.mem_of_getElem? e1)) g1 g2
theorem ok_dI {n : Nat} (ns : List Int) (h : ns.length ≤ 100000) : okD (n + 2) (dI ns) := ⟨by rw [List.length_map]; exact h, fun d hd => by
  obtain ⟨x, _, rfl⟩ := List.mem_map.mp hd
  exact True.intro⟩
theorem ok_dS {n : Nat} (s : Std) (h1 : s.1.length ≤ 100000) (h2 : s.2.1.length ≤ 100000) : okD (n + 3) (dS s) := ⟨by show 3 ≤ 100000; decide, fun d hd => by
  simp only [List.mem_cons, List.not_mem_nil, or_false] at hd
  rcases hd with rfl | rfl | rfl
  · exact ok_dI _ h1
  · exact ok_dI _ h2
  · exact ⟨by show 2 ≤ 100000; decide, fun d hd => by
      simp only [List.mem_cons, List.not_mem_nil, or_false] at hd
      rcases hd with rfl | rfl <;> exact True.intro⟩⟩
theorem ok_dStep {n : Nat} (x : Str × Str × Std) (h1 : x.2.2.1.length ≤ 100000) (h2 : x.2.2.2.1.length ≤ 100000) : okD (n + 4) (dStep x) := ⟨by show 3 ≤ 100000; decide, fun d hd => by
  simp only [List.mem_cons, List.not_mem_nil, or_false] at hd
  rcases hd with rfl | rfl | rfl
  · exact True.intro
  · exact True.intro
  · exact ok_dS _ h1 h2⟩
theorem steps_in {m : List Wr} {s : Std} {x : Str × Str × Std} (h : x ∈ stepsOf m s) : ∃ k to, k < m.length ∧ mayW m s k = true ∧ x = (x.1, (wr m k).1, behind m s k to) ∧ ∃ y ∈ (wr m k).2.1, x.1 = y.2.1 := by
  unfold stepsOf at h
  obtain ⟨y, hy, rfl⟩ := List.mem_map.mp h
  rw [List.mem_mergeSort] at hy
  have hk := moves_at hy
  unfold moves at hy
  obtain ⟨j, hj, hmj⟩ := List.mem_flatMap.mp hy
  unfold movesAt at hmj
  split at hmj
  · obtain ⟨z, hz, rfl⟩ := List.mem_map.mp hmj
    exact ⟨j, z.2.2, hk, ‹_›, rfl, z, (List.mem_filter.mp hz).1, rfl⟩
  · cases hmj
theorem behind_fits {m : List Wr} {s : Std} (f : Fits m s) {k : Nat} (hk : k < m.length) (to : Int) : Fits m (behind m s k to) := by
  have l1 := f.l1
  have l2 := f.l2
  refine ⟨?_, ?_⟩
  · unfold behind
    simp only [List.length_append, List.length_cons, List.length_take, List.length_drop]
    omega
  · unfold behind
    simp only [List.length_map, List.length_range]
    exact l2
theorem ok_steps_data {m : List Wr} (g : GoodM m) {s : Std} (f : Fits m s) : okD 5 (.list ((stepsOf m s).map dStep)) := by
  have ml := moves_len g s
  refine ⟨?_, fun d hd => ?_⟩
  · rw [List.length_map]
    unfold stepsOf
    rw [List.length_map, List.length_mergeSort]
    omega
  · obtain ⟨x, hx, rfl⟩ := List.mem_map.mp hd
    obtain ⟨k, to, hk, _, e, _⟩ := steps_in hx
    have l3 := g.len
    have f2 := behind_fits f hk to
    rw [e]
    refine ok_dStep _ ?_ ?_
    · have := f2.l1
      show (behind m s k to).1.length ≤ 100000
      omega
    · have := f2.l2
      show (behind m s k to).2.1.length ≤ 100000
      omega
theorem CoAt.more {P : Program} {w : World} {K : PySem.W.Frag} {C : Addr} {H : Hp} {c : Addr} {m : List Wr} {n n' : Nat} (h : CoAt P w K C H c m n) (hn : n ≤ n') : CoAt P w K C H c m n' := by
  obtain ⟨dx, tw, d, kvs, h1, h2, h3, h4, h5⟩ := h
  exact ⟨dx, tw, d, kvs, h1, h2, h3, h4, Nat.le_trans h5 hn⟩
section
variable {P : Program} {w : World} {K : PySem.W.Frag} {mg : Str → Option Value} {base : Heap}
theorem nsteps1 : ¬ (("steps" : Str) = "_found") := by decide +kernel
theorem nsteps2 : ¬ (("steps" : Str) = "_writers") := by decide +kernel
theorem nbegin1 : ¬ (("begin" : Str) = "_found") := by decide +kernel
theorem nbegin2 : ¬ (("begin" : Str) = "_writers") := by decide +kernel
end
end Ink
namespace Ink
open PySem PySem.Spec PyProof.Rows L2 Evl
theorem KX.mut {H H' : Hp} {p : Addr} {o : HO} (k : KX H H') (h : H p = none) : KX H (upd H' p o) := fun b u e n => by
  have nb : b ≠ p := fun z => by
    rw [z, h] at e
    cases e
  rw [upd_ne nb]
  exact k b u e n
theorem KX.mut2 {H H1 H2 : Hp} {p : Addr} {o : HO} (k1 : KX H H1) (n : H1 p = none) (k2 : KX H1 H2) : KX H (upd H2 p o) := fun b u e ne => by
  have e1 := k1 b u e ne
  have nb : b ≠ p := fun z => by
    rw [z, n] at e1
    cases e1
  rw [upd_ne nb]
  exact k2 b u e1 ne
theorem okay_begin {m : List Wr} : Okay m (beginS m) := ⟨⟨List.length_replicate, List.length_replicate⟩, fun j hj _ => by
  unfold wt beginS
  rw [List.getD_eq_getElem?_getD, List.getElem?_replicate, if_pos hj]
  rfl, .inl rfl⟩
theorem pl_behind {m : List Wr} {s : Std} (f : Fits m s) {k j : Nat} (hk : k < m.length) (hj : j < m.length) (h : j ≠ k) (to : Int) : pl (behind m s k to) j = pl s j := by
  have l1 := f.l1
  unfold pl behind
  rw [List.getD_eq_getElem?_getD, List.getD_eq_getElem?_getD]
  congr 1
  by_cases hjk : j < k
  · rw [List.getElem?_append_left (by rw [List.length_take]; omega), List.getElem?_take, if_pos hjk]
  · rw [List.getElem?_append_right (by rw [List.length_take]; omega), List.length_take, Nat.min_eq_left (by omega)]
    obtain ⟨d, hd⟩ : ∃ d, j - k = d + 1 := ⟨j - k - 1, by omega⟩
    rw [hd, List.getElem?_cons_succ, List.getElem?_drop]
    congr 1
    omega
theorem wt_behind {m : List Wr} {s : Std} {k j : Nat} (hj : j < s.2.1.length) (to : Int) : wt (behind m s k to) j = if (!decide (V.int (j : Int) = V.int (k : Int)) && minds m s j) = true then wt s j + 1 else 0 := by
  unfold behind
  show List.getD (List.map _ _) j 0 = _
  rw [List.getD_eq_getElem?_getD, List.getElem?_map, List.getElem?_range hj]
  rfl
theorem okay_behind {m : List Wr} (g : GoodM m) {s : Std} (o : Okay m s) {k : Nat} (hk : k < m.length) (hw : mayW m s k = true) (to : Int) : Okay m (behind m s k to) := by
  refine ⟨behind_fits o.toFits hk to, fun j hj hm => ?_, ?_⟩
  · have l2 := o.l2
    rw [wt_behind (by omega)]
    by_cases e : j = k
    · subst e
      rw [decide_eq_true rfl]
      rfl
    · have : minds m s j = false := by
        rw [← hm]
        unfold minds
        rw [pl_behind o.toFits hk hj e to]
      rw [this, Bool.and_false]
      rfl
  · have c0 := (g.at hk).c0
    unfold behind
    by_cases h : V.int (wr m k).2.2.2 = V.int 0
    · rw [if_pos h]
      exact .inl rfl
    · rw [if_neg h]
      have h0 : (wr m k).2.2.2 ≠ 0 := fun z => h (by rw [z])
      refine .inr ⟨k, hk, rfl, h0, ?_⟩
      show (if V.int s.2.2.1 = V.int (k : Int) then s.2.2.2 + 1 else 1) ≤ (wr m k).2.2.2
      by_cases h1 : V.int s.2.2.1 = V.int (k : Int)
      · rw [if_pos h1]
        unfold mayW at hw
        split at hw
        · cases hw
        · rename_i hn
          have : ¬ s.2.2.2 ≥ (wr m k).2.2.2 := fun hge => hn (by rw [decide_eq_false h, decide_eq_true h1, decide_eq_true hge]; rfl)
          omega
      · rw [if_neg h1]
        omega
theorem str_ok {z : Str} (h : ∀ c ∈ z.cps.toList, c ∈ lets) : PyData.strOk z = true := by
  unfold PyData.strOk
  rw [Array.all_eq_true_iff_forall_mem]
  intro c hc
  have := (lets_iff c).mp (h c (by simpa using hc))
  exact decide_eq_true (by omega)
theorem ints_lay (ns : List Int) : (dI ns).canLay0 = true := by
  unfold dI
  simp only [PyData.canLay0]
  exact lay_map fun x _ => by simp only [PyData.canLay0]
theorem dS_lay (s : Std) : (dS s).canLay0 = true := by
  unfold dS
  simp only [PyData.canLay0, PyData.canLayAll0, ints_lay, Bool.and_self]
theorem steps_shaped {m : List Wr} (g : GoodM m) (s : Std) : SeqAt.shaped (.list ((stepsOf m s).map dStep)) = true := by
  have h1 : PyData.canLayAll0 ((stepsOf m s).map dStep) = true := lay_map fun x hx => by
    obtain ⟨k, to, hk, _, e, y, hy, e2⟩ := steps_in hx
    have gk := g.at hk
    obtain ⟨_, _, ⟨c, hc, ec⟩, _⟩ := gk.each y hy
    have z1 : PyData.strOk x.1 = true := by
      rw [e2, ec]
      exact lets_ok c hc
    have z2 : PyData.strOk x.2.1 = true := by
      rw [e]
      exact str_ok gk.name.2.2
    unfold dStep
    simp only [PyData.canLay0, PyData.canLayAll0, dS_lay, z1, z2, Bool.and_self]
  have h2 := depth_map (f := dStep) (n := 10) (l := stepsOf m s) fun x _ => by
    have := depth_dS x.2.2
    unfold dStep
    simp only [PyData.depth, PyData.depthAll]
    omega
  unfold SeqAt.shaped
  rw [Bool.and_eq_true, decide_eq_true_eq]
  refine ⟨by simp only [PyData.canLay0]; exact h1, ?_⟩
  simp only [PyData.depth]
  omega
end Ink
namespace Ink
open PySem PySem.Spec PyProof.Rows L2 Evl
theorem hu65 {k : Nat} {A : Around} (hr : Room k A) : A.units + 65 < cLine := by
  have := hu9 hr
  omega
section
variable {X : Cx} {K : PySem.W.Frag} {o e : Expr} {es : List Expr} {to : TE} {t : TA} {name : Str} {apos cpos : Pos} {T id : String} {r : V → List V → Hp → VK → Prop}
theorem pe_bmK (hK : X.K = K) (pa : PlainAttrs T) (slot : Slot T name id) (hty : typeOf (.builtin id) = pure (.type "method_descriptor")) (hm : MtR X id r) (ho : PE X o to) (ha : PA X (e :: es) t)
    (hbase : attributeBase o name X.env (eval o X.env) = eval o X.env := by rfl)
    (hfew : ((backTo cpos (starEach (e :: es) X.env)).all (fun x => !x.1) && (backToKw cpos (keywordEach [] X.env)).all (fun x => x.1.isSome)
      && decide ((e :: es).length + ([] : List Keyword).length + (if ([] : List Keyword).isEmpty then 0 else 1) < 30)) = true := by rfl)
    (hline : (apos.endLine == cpos.line) = true := by rfl) (hs : starEach (e :: es) X.env = (false, eval e X.env) :: starEach es X.env := by rfl) (hplain : (backTo cpos (starEach es X.env)).any (·.1) = false := by rfl) :
    PE X (.Call (.Attribute o name apos) (e :: es) [] cpos) (tBM K T r to t) := by
  subst hK
  exact pe_bm pa slot hty hm ho ha hbase hfew hline hs hplain
end
section
variable {K : PySem.W.Frag} {σ : L2.St} {H : Hp} {ta tb te : TE} {ds : List PyData} {d : PyData}
theorem ev_inD (ha : EvD K ta σ H d) (hb : EvD K tb σ H (.list ds)) (h1 : SeqAt.shaped d = true) (h2 : SeqAt.shaped (.list ds) = true) : Ev (tOp (rInD K) ta tb) σ H (.bl (ds.any fun z => PyData.eqv z d)) := fun H1 e Q q =>
  ha H1 e _ fun v H2 e2 hv => hb H2 (e.trans e2) _ fun w H3 e3 hw => ⟨d, ds, dp_same e3 hv, hw, h1, h2, q H3 (e2.trans e3)⟩
theorem ev_indexD {j : Nat} {z : PyData} (ha : EvD K ta σ H (.list ds)) (hb : EvD K te σ H d) (h1 : SeqAt.shaped (.list ds) = true) (h2 : SeqAt.shaped d = true) (hz : ds[j]? = some z) (he : PyData.eqv z d = true)
    (hn : ∀ (m : Nat) (z' : PyData), m < j → ds[m]? = some z' → PyData.eqv z' d = false) : Ev (tBM K "list" (rIndexD K) ta (tCons te tNil)) σ H (.int (j : Nat)) := fun H1 e Q q =>
  ha H1 e _ fun v H2 e2 hv => by
    obtain ⟨p, xs, rfl, hs, hxs⟩ := dp_lst hv
    exact ⟨.inl ⟨rfl, xs, hs⟩, hb H2 (e.trans e2) _ fun u H3 e3 hu => ⟨p, u, d, ds, j, z, rfl, rfl, .lst (ex_l e3 hs) (dps_same e3 hxs), hu, h1, h2, hz, he, hn, q H3 (e2.trans e3)⟩⟩
theorem ev_index {j : Nat} {z y : V} {ys : List V} (ha : EvD K ta σ H (.list ds)) (hy : ∀ (H' : Hp) (vs : List V), DpAll K H' vs ds → vs = ys) (hb : Ev te σ H y) (f1 : flatV y = true) (f2 : ys.all flatV = true) (hz : ys[j]? = some z) (he : eqV z y = true)
    (hn : ∀ (m : Nat) (z' : V), m < j → ys[m]? = some z' → eqV z' y = false) : Ev (tBM K "list" (rIndex K) ta (tCons te tNil)) σ H (.int (j : Nat)) := fun H1 e Q q =>
  ha H1 e _ fun v H2 e2 hv => by
    obtain ⟨p, xs, rfl, hs, hxs⟩ := dp_lst hv
    obtain rfl := hy _ _ hxs
    exact ⟨.inl ⟨rfl, xs, hs⟩, hb H2 (e.trans e2) _ fun H3 e3 => ⟨p, xs, y, j, z, rfl, rfl, ex_l e3 hs, f1, f2, hz, he, hn, q H3 (e2.trans e3)⟩⟩
end
end Ink
namespace Ink
open PySem PySem.Spec PyProof.Rows L2 Evl
/-! ### stands carried over: the model -/
def ixW (m : List Wr) (x : Wr) : Option Nat := m.findIdx? fun y => decide (y = x)
def keptW (m m2 : List Wr) : List (Option Nat) := m2.map (ixW m)
def isR (r : Int) : Option Nat → Bool
  | some k => decide ((k : Int) = r)
  | none => false
def ixR (ks : List (Option Nat)) (r : Int) : Option Nat := ks.findIdx? (isR r)
def orN (f : Nat → Int) : Option Nat → Int
  | some k => f k
  | none => 0
def carS (m m2 : List Wr) (s : Std) : Std := ((keptW m m2).map (orN (pl s)), (keptW m m2).map (orN (wt s)), match ixR (keptW m m2) s.2.2.1 with
  | some j => ((j : Int), s.2.2.2)
  | none => (-1, 0))
def dK (n : PyData) : Option Nat → PyData
  | some k => .int (k : Int)
  | none => n
def vK (n : V) : Option Nat → V
  | some k => .int (k : Int)
  | none => n
/-! equality of writers -/
theorem eqv_dA (a b : Arw) : PyData.eqv (dA a) (dA b) = decide (a = b) := by
  obtain ⟨p, s, t⟩ := a
  obtain ⟨p', s', t'⟩ := b
  unfold dA
  simp only [PyData.eqv, PyData.eqvAll, Bool.and_true]
  rw [Bool.eq_iff_iff]
  simp only [Bool.and_eq_true, beq_iff_eq, decide_eq_true_eq, Prod.mk.injEq]
theorem eqv_map {α : Type} [DecidableEq α] {f : α → PyData} (h : ∀ a b, PyData.eqv (f a) (f b) = decide (a = b)) : ∀ xs ys : List α, PyData.eqvAll (xs.map f) (ys.map f) = decide (xs = ys)
  | [], [] => by simp only [List.map_nil, PyData.eqvAll]; rfl
  | [], _ :: _ => by simp only [List.map_nil, List.map_cons, PyData.eqvAll]; rfl
  | _ :: _, [] => by simp only [List.map_nil, List.map_cons, PyData.eqvAll]; rfl
  | x :: xs, y :: ys => by
    simp only [List.map_cons, PyData.eqvAll, h, eqv_map h xs ys]
    rw [Bool.eq_iff_iff]
    simp only [Bool.and_eq_true, decide_eq_true_eq, List.cons.injEq]
theorem eqv_dW (a b : Wr) : PyData.eqv (dW a) (dW b) = decide (a = b) := by
  obtain ⟨n, ar, p, c⟩ := a
  obtain ⟨n', ar', p', c'⟩ := b
  unfold dW
  simp only [PyData.eqv, PyData.eqvAll, Bool.and_true, eqv_map eqv_dA]
  rw [Bool.eq_iff_iff]
  simp only [Bool.and_eq_true, beq_iff_eq, decide_eq_true_eq, Prod.mk.injEq]
theorem any_W (m : List Wr) (x : Wr) : ((m.map dW).any fun z => PyData.eqv z (dW x)) = (ixW m x).isSome := by
  unfold ixW
  rw [List.any_map, List.findIdx?_isSome]
  congr 1
  funext y
  exact eqv_dW y x
theorem ixW_some {m : List Wr} {x : Wr} {j : Nat} (h : ixW m x = some j) : j < m.length ∧ (m.map dW)[j]? = some (dW x) ∧ ∀ (i : Nat) (z' : PyData), i < j → (m.map dW)[i]? = some z' → PyData.eqv z' (dW x) = false := by
  unfold ixW at h
  obtain ⟨h1, h2, h3⟩ := List.findIdx?_eq_some_iff_getElem.mp h
  have h2 := of_decide_eq_true h2
  refine ⟨h1, ?_, fun i z' hi hz => ?_⟩
  · rw [List.getElem?_map, List.getElem?_eq_getElem h1, h2]
    rfl
  · have hil : i < m.length := by omega
    rw [List.getElem?_map, List.getElem?_eq_getElem hil] at hz
    obtain rfl := Option.some.inj hz
    rw [eqv_dW]
    have := h3 i hi
    simpa using this
theorem dA_lay {x : Arw} (h : goodA x) : (dA x).canLay0 = true := by
  obtain ⟨_, _, ⟨c, hc, e⟩, _⟩ := h
  unfold dA
  simp only [PyData.canLay0, PyData.canLayAll0, e, lets_ok c hc, Bool.and_true]
theorem dA_depth (x : Arw) : (dA x).depth ≤ 3 := by
  unfold dA
  simp only [PyData.depth, PyData.depthAll]
  decide
theorem dW_lay {x : Wr} (g : GoodW x.1 x.2.1 x.2.2.1 x.2.2.2) : (dW x).canLay0 = true := by
  have h1 : PyData.canLayAll0 (x.2.1.map dA) = true := lay_map fun y hy => dA_lay (g.each y hy)
  have h2 := str_ok g.name.2.2
  unfold dW
  simp only [PyData.canLay0, PyData.canLayAll0, h1, h2, Bool.and_true]
theorem dW_depth (x : Wr) : (dW x).depth ≤ 8 := by
  have h1 := depth_map (f := dA) (n := 3) (l := x.2.1) fun y _ => dA_depth y
  unfold dW
  simp only [PyData.depth, PyData.depthAll]
  omega
theorem dW_shaped {x : Wr} (g : GoodW x.1 x.2.1 x.2.2.1 x.2.2.2) : SeqAt.shaped (dW x) = true := by
  have h1 := dW_lay g
  have h2 := dW_depth x
  unfold SeqAt.shaped
  rw [Bool.and_eq_true, decide_eq_true_eq]
  exact ⟨h1, by omega⟩
theorem dWs_shaped {m : List Wr} (g : GoodM m) : SeqAt.shaped (.list (m.map dW)) = true := by
  have h1 : PyData.canLayAll0 (m.map dW) = true := lay_map fun y hy => dW_lay (g.wr y hy)
  have h2 := depth_map (f := dW) (n := 8) (l := m) fun y _ => dW_depth y
  unfold SeqAt.shaped
  rw [Bool.and_eq_true, decide_eq_true_eq]
  refine ⟨by simp only [PyData.canLay0]; exact h1, ?_⟩
  simp only [PyData.depth]
  omega
/-! numbers of writers, and none -/
theorem eqV_k {n : V} {r : Int} (hn : eqV n (.int r) = false) (o : Option Nat) : eqV (vK n o) (.int r) = isR r o := by
  cases o with
  | none => exact hn
  | some k => rfl
theorem inV_k {n : V} {r : Int} (hn : eqV n (.int r) = false) (ks : List (Option Nat)) : inV (.int r) (ks.map (vK n)) = (ixR ks r).isSome := by
  unfold inV ixR
  rw [List.any_map, List.findIdx?_isSome]
  congr 1
  funext o
  exact eqV_k hn o
theorem ixR_some {n : V} {r : Int} (hn : eqV n (.int r) = false) {ks : List (Option Nat)} {j : Nat} (h : ixR ks r = some j) : j < ks.length ∧ (ks.map (vK n))[j]? = some (.int r) ∧ ∀ (i : Nat) (z' : V), i < j → (ks.map (vK n))[i]? = some z' → eqV z' (.int r) = false := by
  unfold ixR at h
  obtain ⟨h1, h2, h3⟩ := List.findIdx?_eq_some_iff_getElem.mp h
  refine ⟨h1, ?_, fun i z' hi hz => ?_⟩
  · rw [List.getElem?_map, List.getElem?_eq_getElem h1]
    cases e : ks[j] with
    | none =>
      rw [e] at h2
      cases h2
    | some k =>
      rw [e] at h2
      have h2 : (k : Int) = r := of_decide_eq_true h2
      show some (V.int (k : Int)) = _
      rw [h2]
  · have hil : i < ks.length := by omega
    rw [List.getElem?_map, List.getElem?_eq_getElem hil] at hz
    obtain rfl := Option.some.inj hz
    rw [eqV_k hn _]
    have := h3 i hi
    simpa using this
theorem ixR_neg {ks : List (Option Nat)} {r : Int} (h : r < 0) : ixR ks r = none := by
  unfold ixR
  rw [List.findIdx?_eq_none_iff]
  intro o _
  cases o with
  | none => rfl
  | some k => exact decide_eq_false (by omega)
theorem fz_dK {n : PyData} (h : fz n = true) (o : Option Nat) : fz (dK n o) = true := by
  cases o with
  | none => exact h
  | some k => unfold dK fz; rfl
theorem dps_k {K : PySem.W.Frag} {H : Hp} {n : PyData} {n' : V} (h : ∀ v, Dp K H v n → v = n') : ∀ {vs : List V} {ks : List (Option Nat)}, DpAll K H vs (ks.map (dK n)) → vs = ks.map (vK n')
  | _, [], z => by cases z; rfl
  | _, o :: ks, z => by
    cases z with
    | cons z t =>
      rw [dps_k h t]
      cases o with
      | none => rw [h _ z]; rfl
      | some k => rw [dp_int z]; rfl
theorem flat_k {n : V} (h : flatV n = true) (ks : List (Option Nat)) : (ks.map (vK n)).all flatV = true := List.all_eq_true.mpr fun x hx => by
  obtain ⟨o, _, rfl⟩ := List.mem_map.mp hx
  cases o with
  | none => exact h
  | some k => rfl
theorem kept_in {m m2 : List Wr} {j k : Nat} (h : (keptW m m2)[j]? = some (some k)) : k < m.length := by
  unfold keptW at h
  rw [List.getElem?_map] at h
  cases e : m2[j]? with
  | none =>
    rw [e] at h
    cases h
  | some x =>
    rw [e] at h
    exact (ixW_some (Option.some.inj h)).1
/-- carried to the same company a stand is as it was -/
theorem car_self {m : List Wr} (g : GoodM m) {s : Std} (o : Okay m s) : carS m m s = s := by
  have hk : keptW m m = (List.range m.length).map some := by
    refine List.ext_getElem? fun j => ?_
    unfold keptW
    rw [List.getElem?_map, List.getElem?_map]
    by_cases hj : j < m.length
    · rw [List.getElem?_eq_getElem hj, List.getElem?_range hj]
      show some (ixW m m[j]) = some (some j)
      congr 1
      unfold ixW
      rw [List.findIdx?_eq_some_iff_getElem]
      refine ⟨hj, decide_eq_true rfl, fun i hi => ?_⟩
      have hil : i < m.length := by omega
      have nd := (List.pairwise_iff_getElem.mp g.nd) i j (by rw [List.length_map]; exact hil) (by rw [List.length_map]; exact hj) hi
      rw [List.getElem_map, List.getElem_map] at nd
      rw [Bool.not_eq_true, decide_eq_false_iff_not]
      exact fun z => nd (by rw [z])
    · rw [List.getElem?_eq_none (by omega), List.getElem?_eq_none (by rw [List.length_range]; omega)]
      rfl
  have hm : ∀ (ns : List Int), ns.length = m.length → ((List.range m.length).map some).map (orN fun k => ns.getD k 0) = ns := fun ns hl => by
    rw [List.map_map]
    refine List.ext_getElem? fun j => ?_
    rw [List.getElem?_map]
    by_cases hj : j < m.length
    · rw [List.getElem?_range hj]
      show some (ns.getD j 0) = ns[j]?
      exact (getD_get (by omega)).symm
    · rw [List.getElem?_eq_none (by rw [List.length_range]; omega), List.getElem?_eq_none (by omega)]
      rfl
  obtain ⟨p, q, r, t⟩ := s
  have e1 := hm p o.l1
  have e2 := hm q o.l2
  unfold carS
  rw [hk]
  have e1 : ((List.range m.length).map some).map (orN (pl (p, q, r, t))) = p := e1
  have e2 : ((List.range m.length).map some).map (orN (wt (p, q, r, t))) = q := e2
  rw [e1, e2]
  congr 2
  rcases o.run with e | ⟨k, hk1, e3, _⟩
  · have e : (r, t) = ((-1, 0) : Int × Int) := e
    injection e with e4 e5
    subst e4 e5
    rw [ixR_neg (show (-1 : Int) < 0 by decide)]
  · have e3 : r = (k : Int) := e3
    subst e3
    have : ixR ((List.range m.length).map some) (k : Int) = some k := by
      unfold ixR
      rw [List.findIdx?_eq_some_iff_getElem]
      refine ⟨by rw [List.length_map, List.length_range]; exact hk1, ?_, fun i hi => ?_⟩
      · rw [List.getElem_map, List.getElem_range]
        exact decide_eq_true rfl
      · rw [List.getElem_map, List.getElem_range]
        show ¬ decide ((i : Int) = (k : Int)) = true
        rw [decide_eq_true_eq]
        omega
    rw [this]
theorem car_fits (m m2 : List Wr) (s : Std) : Fits m2 (carS m m2 s) := ⟨by unfold carS keptW; simp only [List.length_map], by unfold carS keptW; simp only [List.length_map]⟩
end Ink
namespace Ink
open PySem PySem.Spec PyProof.Rows L2 Evl
def spWriters (P : Program) (w : World) (K : PySem.W.Frag) (C : Addr) : Sp := fun vs H Q _ => ∃ c m n, vs = [.ref c] ∧ CoAt P w K C H c m n ∧ ∀ p us H', H p = none → Same H H' → H' p = some (.lst us) → DpAll K H' us (m.map dW) → Q (.ref p) H'
def spCar (P : Program) (w : World) (K : PySem.W.Frag) (C : Addr) : Sp := fun vs H Q _ => ∃ c c2 m m2 n n2 v s, vs = [.ref c, .ref c2, v] ∧ CoAt P w K C H c m n ∧ CoAt P w K C H c2 m2 n2 ∧ GoodM m ∧ GoodM m2 ∧ Fits m s ∧ Dp K H v (dS s) ∧ ∀ u H', Same H H' → Dp K H' u (dS (carS m m2 s)) → Q u H'
def RLCar : List PyData → PyData → Prop := fun ds d => ∃ m m2 s, GoodM m ∧ GoodM m2 ∧ Fits m s ∧ ds = [dMl m, dMl m2, dS s] ∧ d = dS (carS m m2 s)
theorem nwri1 : ¬ (("writers" : Str) = "_found") := by decide +kernel
theorem nwri2 : ¬ (("writers" : Str) = "_writers") := by decide +kernel
theorem not_some {α : Type} {o : Option α} (h : o.isSome = false) : o = none := by
  cases o with
  | none => rfl
  | some _ => cases h
section
variable {P : Program} {w : World} {K : PySem.W.Frag} {mg : Str → Option Value} {base : Heap}
theorem en_writers {C c : Addr} {m : List Wr} {n : Nat} {σ : L2.St} {H : Hp} {ta : TE} (ha : Ev ta σ H (.ref c)) (hc : CoAt P w K C H c m n) : EvN K (tMeth C "writers" (spWriters P w K C) [] E0 ta tNil) σ H (m.map dW) := fun H1 e Q q =>
  ha H1 e _ fun H2 e2 => by
    have hc2 := hc.fr (.of (e.trans e2))
    obtain ⟨dx, tw, d, kvs, h1, _⟩ := id hc2
    exact ⟨c, dx, _, rfl, h1, coF_no _ _ nwri1 nwri2, c, m, n, rfl, hc2, fun p us H3 np s3 hp hus => q p us H3 (fresh_back e2 np) (e2.trans s3) hp hus⟩
theorem ev_isN {σ : L2.St} {H : Hp} {ta : TE} {x : V} (ha : Ev ta σ H x) : Ev (tOp (fun x y H Q => y = .non ∧ Q (.bl (decide (x = .non))) H) ta (tC .non)) σ H (.bl (decide (x = .non))) := ev_op ha ev_c fun H1 _ _ q => ⟨rfl, q H1 (.refl H1)⟩
theorem ev_inK {σ : L2.St} {H : Hp} {ta tb : TE} {ks : List (Option Nat)} {n : PyData} {n' : V} {r : Int} (hn : ∀ (H : Hp) v, Dp K H v n → v = n') (hf : flatV n' = true) (hr : eqV n' (.int r) = false) (ha : Ev ta σ H (.int r)) (hb : EvD K tb σ H (.list (ks.map (dK n)))) : Ev (tOp (rIn K false) ta tb) σ H (.bl (ixR ks r).isSome) := fun H1 e Q q =>
  ha H1 e _ fun H2 e2 => hb H2 (e.trans e2) _ fun v H3 e3 hv => by
    obtain ⟨p, xs, rfl, hs, hxs⟩ := dp_lst hv
    rw [dps_k (hn _) hxs] at hs
    exact ⟨p, _, rfl, .inl hs, rfl, flat_k hf ks, by rw [inV_k hr]; exact q H3 (e2.trans e3)⟩
theorem ev_indexK {σ : L2.St} {H : Hp} {ta te : TE} {ks : List (Option Nat)} {n : PyData} {n' : V} {r : Int} {j : Nat} (hn : ∀ (H : Hp) v, Dp K H v n → v = n') (hf : flatV n' = true) (hr : eqV n' (.int r) = false) (ha : EvD K ta σ H (.list (ks.map (dK n)))) (hb : Ev te σ H (.int r)) (h : ixR ks r = some j) : Ev (tBM K "list" (rIndex K) ta (tCons te tNil)) σ H (.int (j : Nat)) := by
  obtain ⟨_, h2, h3⟩ := ixR_some hr h
  exact ev_index ha (fun H' vs hv => dps_k (hn _) hv) hb rfl (flat_k hf ks) h2 (by show (r == r) = true; exact beq_self_eq_true r) h3
end
end Ink
namespace Ink
open PySem PySem.Spec PyProof.Rows L2 Evl
section
variable {P : Program} {w : World} {K : PySem.W.Frag} {mg : Str → Option Value} {base : Heap}
theorem isR_neg {ks : List (Option Nat)} {r : Int} : (decide (r ≥ 0) && (ixR ks r).isSome) = (ixR ks r).isSome := by
  by_cases h : r ≥ 0
  · rw [decide_eq_true h]
    rfl
  · rw [ixR_neg (by omega)]
    exact Bool.and_false _
/-! ### a name that nobody bears -/
def six : List Str := ["q", "qq", "qqq", "qqqq", "qqqqq", "qqqqqq"]
theorem six_ok : ∀ z ∈ six, NameZ z := by
  unfold six NameZ
  decide +kernel
theorem six_nd : six.Nodup := by
  unfold six
  decide +kernel
theorem nodup_le {α : Type} [BEq α] [LawfulBEq α] : ∀ (l zs : List α), l.Nodup → (∀ x ∈ l, x ∈ zs) → l.length ≤ zs.length
  | [], _, _, _ => Nat.zero_le _
  | x :: l, zs, nd, h => by
    have hx := h x (List.mem_cons_self ..)
    have nd := List.nodup_cons.mp nd
    have ih := nodup_le l (zs.erase x) nd.2 fun y hy => (List.mem_erase_of_ne (fun z : y = x => nd.1 (z ▸ hy))).mpr (h y (List.mem_cons_of_mem _ hy))
    rw [List.length_erase_of_mem hx] at ih
    have := List.length_pos_of_mem hx
    rw [List.length_cons]
    omega
def RFresh : List PyData → PyData → Prop := fun ds d => ∃ zs : List Str, ∃ z, zs.length ≤ 3 ∧ ds = [.list (zs.map PyData.str)] ∧ (six.filter fun y => !decide (y ∈ zs))[0]? = some z ∧ d = .str z
theorem fresh_some {zs : List Str} (h : zs.length ≤ 3) : ∃ z, (six.filter fun y => !decide (y ∈ zs))[0]? = some z ∧ NameZ z ∧ z ∉ zs := by
  cases e : six.filter (fun y => !decide (y ∈ zs)) with
  | nil =>
    have := nodup_le six zs six_nd fun x hx => by
      have := List.filter_eq_nil_iff.mp e x hx
      simpa using this
    have h6 : six.length = 6 := rfl
    omega
  | cons z r =>
    have hz : z ∈ six.filter (fun y => !decide (y ∈ zs)) := by rw [e]; exact List.mem_cons_self ..
    obtain ⟨h1, h2⟩ := List.mem_filter.mp hz
    exact ⟨z, rfl, six_ok z h1, by simpa using h2⟩
end
end Ink
namespace Ink
open PySem PySem.Spec PyProof.Rows L2 Evl
/-! ### the law's other crew -/
def spCrew (K : PySem.W.Frag) : Sp := fun vs H Q _ => ∃ (a l p : Addr) (m : List Wr), vs = [.ref a, .ref p] ∧ BagAt H a l ∧ MAt K H a p m ∧ GoodM m ∧ ∀ p2 m2 H', H p2 = none → GoodM m2 → MAt K H' a p2 m2 → BagAt H' a l → Keep a H H' → Q (.ref p2) H'
theorem ins_perm {α : Type} (l : List α) (x : α) (i : Nat) : (l.take i ++ [x] ++ l.drop i).Perm (x :: l) := by
  rw [List.append_assoc]
  refine (List.perm_middle (a := x) (l₁ := l.take i) (l₂ := l.drop i)).trans ?_
  rw [List.take_append_drop]
theorem pick4 {r : Int} (h0 : 0 ≤ r) : r % 4 = 0 ∨ r % 4 = 1 ∨ r % 4 = 2 ∨ r % 4 = 3 := by omega
theorem bent_ok {x : Wr} (g : GoodW x.1 x.2.1 x.2.2.1 x.2.2.2) {r : Int} (h0 : 0 ≤ r) : ∃ y : Wr, [dW x, dW x, dW (x.1, x.2.1, 3 - x.2.2.1, x.2.2.2), dW (x.1, x.2.1, x.2.2.1, (x.2.2.2 + 1) % 4)][(r % 4).toNat]? = some (dW y) ∧ GoodW y.1 y.2.1 y.2.2.1 y.2.2.2 ∧ y.1 = x.1 := by
  have p0 := g.p0
  have p3 := g.p3
  rcases pick4 h0 with h | h | h | h <;> rw [h]
  · exact ⟨x, rfl, g, rfl⟩
  · exact ⟨x, rfl, g, rfl⟩
  · exact ⟨_, rfl, ⟨g.name, g.len, g.each, g.rise, by show 0 ≤ 3 - x.2.2.1; omega, by show 3 - x.2.2.1 ≤ 3; omega, g.c0, g.c3⟩, rfl⟩
  · exact ⟨_, rfl, ⟨g.name, g.len, g.each, g.rise, g.p0, g.p3, by show 0 ≤ (x.2.2.2 + 1) % 4; omega, by show (x.2.2.2 + 1) % 4 ≤ 3; omega⟩, rfl⟩
theorem fresh_good {z : Str} (h : NameZ z) : GoodW z [((0 : Int), (Str.ofString "a"), (0 : Int))] 1 2 := ⟨h, by decide, fun x hx => by
  rw [List.mem_singleton] at hx
  subst hx
  exact ⟨by decide, by decide, ⟨97, by decide, by decide +kernel⟩, by decide, by decide⟩, List.pairwise_singleton _ _, by decide, by decide, by decide, by decide⟩
/-- a crew in the making: at fp a list of good writers with unlike names out of ns -/
structure Crew (K : PySem.W.Frag) (H : Hp) (fp : Addr) (ms : List Wr) : Prop where
  at_ : ∃ vs, H fp = some (.lst vs) ∧ DpAll K H vs (ms.map dW)
  good : ∀ w ∈ ms, GoodW w.1 w.2.1 w.2.2.1 w.2.2.2
  nd : (ms.map (·.1)).Nodup
theorem crew_ins {K : PySem.W.Frag} {H : Hp} {vs : List V} {u : V} {ms : List Wr} {y : Wr} (hv : DpAll K H vs (ms.map dW)) (hu : Dp K H u (dW y)) (n : Nat) : DpAll K H (vs.take n ++ [u] ++ vs.drop n) ((ms.take n ++ [y] ++ ms.drop n).map dW) := by
  rw [List.map_append, List.map_append, List.map_take, List.map_drop]
  exact ((hv.take n).app (.one hu)).app (hv.drop n)
theorem s_ifAnd {σ : L2.St} {H : Hp} {t u : TT} {tu tw : TS} {D : Ends} {b : Bool} (h : EvT t σ H b) (h1 : b = true → ∀ H1, Ex H H1 → tIfS u tu tw D σ H1) (h2 : b = false → ∀ H1, Ex H H1 → tw D σ H1) : tIfS (tAnd t u) tu tw D σ H := h H (.refl H) _ fun H1 e => by
  cases b with
  | true => exact h1 rfl H1 e
  | false => exact h2 rfl H1 e
section
variable {P : Program} {w : World} {K : PySem.W.Frag} {mg : Str → Option Value} {base : Heap}
end
end Ink
namespace Ink
open PySem PySem.Spec PyProof.Rows L2
theorem g_go {i : Nat} {v : V} {σ : L2.St} {H : Hp} {Q : L2.St → Hp → Prop} (h : Q (σ.set i (some v)) H) : gName i v σ H Q := h
end Ink
namespace Ink
open PySem PySem.Spec PyProof.Rows L2
/-! ### the stands that companies of at most three come to are few -/
structure Tiny (s : Std) : Prop where
  l1 : s.1.length ≤ 3
  l2 : s.2.1.length = s.1.length
  p : ∀ x ∈ s.1, 0 ≤ x ∧ x ≤ 2
  w : ∀ x ∈ s.2.1, 0 ≤ x ∧ x ≤ 3
  z : s.1.length = 3 → ∃ k, k < 3 ∧ wt s k = 0
  r : s.2.2 = (-1, 0) ∨ ∃ k, k < s.1.length ∧ s.2.2.1 = (k : Int) ∧ 1 ≤ s.2.2.2 ∧ s.2.2.2 ≤ 3 ∧ wt s k = 0
/-- all lists of n of these -/
def allOf {α : Type} (xs : List α) : Nat → List (List α)
  | 0 => [[]]
  | n + 1 => xs.flatMap fun x => (allOf xs n).map (x :: ·)
theorem mem_allOf {α : Type} {xs : List α} : ∀ {n : Nat} {l : List α}, l.length = n → (∀ x ∈ l, x ∈ xs) → l ∈ allOf xs n
  | 0, [], _, _ => List.mem_singleton.mpr rfl
  | n + 1, x :: l, h, hx => by
    unfold allOf
    refine List.mem_flatMap.mpr ⟨x, hx x List.mem_cons_self, List.mem_map.mpr ⟨l, mem_allOf (by simpa using h) fun y hy => hx y (List.mem_cons_of_mem _ hy), rfl⟩⟩
def runsT (n : Nat) (ws : List Int) : List (Int × Int) := (-1, 0) :: List.flatMap (fun k : Nat => [(Int.ofNat k, (1 : Int)), (Int.ofNat k, 2), (Int.ofNat k, 3)]) (List.filter (fun k : Nat => ws.getD k 0 == 0) (List.range n))
def waitsT (n : Nat) : List (List Int) := (allOf [(0 : Int), 1, 2, 3] n).filter fun ws => n != 3 || (List.range 3).any fun k => ws.getD k 0 == 0
def tinies (n : Nat) : List Std := (allOf [(0 : Int), 1, 2] n).flatMap fun ps => (waitsT n).flatMap fun ws => (runsT n ws).map fun r => (ps, ws, r)
theorem tinies_len : (tinies 0).length ≤ 4887 ∧ (tinies 1).length ≤ 4887 ∧ (tinies 2).length ≤ 4887 ∧ (tinies 3).length ≤ 4887 := by decide +kernel
theorem mem_tinies {s : Std} (h : Tiny s) : s ∈ tinies s.1.length := by
  obtain ⟨ps, ws, r1, r2⟩ := s
  have l2 : ws.length = ps.length := h.l2
  unfold tinies
  refine List.mem_flatMap.mpr ⟨ps, mem_allOf rfl fun x hx => ?_, List.mem_flatMap.mpr ⟨ws, List.mem_filter.mpr ⟨mem_allOf l2 fun x hx => ?_, ?_⟩, List.mem_map.mpr ⟨(r1, r2), ?_, rfl⟩⟩⟩
  · have := h.p x hx
    have : x = 0 ∨ x = 1 ∨ x = 2 := by omega
    simpa using this
  · have := h.w x hx
    have : x = 0 ∨ x = 1 ∨ x = 2 ∨ x = 3 := by omega
    simpa using this
  · by_cases c : ps.length = 3
    · obtain ⟨k, hk, e⟩ := h.z c
      rw [Bool.or_eq_true]
      exact .inr (List.any_eq_true.mpr ⟨k, List.mem_range.mpr hk, beq_iff_eq.mpr e⟩)
    · rw [Bool.or_eq_true]
      exact .inl (bne_iff_ne.mpr c)
  · show (r1, r2) ∈ runsT ps.length ws
    unfold runsT
    rcases h.r with e | ⟨k, hk, e1, e2, e3, e4⟩
    · have e : (r1, r2) = ((-1 : Int), (0 : Int)) := e
      rw [e]
      exact List.mem_cons_self
    · have e1 : r1 = (k : Int) := e1
      have e2 : 1 ≤ r2 := e2
      have e3 : r2 ≤ 3 := e3
      refine List.mem_cons_of_mem _ (List.mem_flatMap.mpr ⟨k, List.mem_filter.mpr ⟨List.mem_range.mpr hk, beq_iff_eq.mpr e4⟩, ?_⟩)
      have : r2 = 1 ∨ r2 = 2 ∨ r2 = 3 := by omega
      rw [e1]
      show (Int.ofNat k, r2) ∈ _
      rcases this with z | z | z <;> rw [z] <;> simp
theorem tny_le {α : Type} [DecidableEq α] : ∀ {l D : List α}, l.Nodup → (∀ x ∈ l, x ∈ D) → l.length ≤ D.length
  | [], _, _, _ => Nat.zero_le _
  | x :: l, D, hn, hs => by
    obtain ⟨n1, n2⟩ := List.nodup_cons.mp hn
    have hx := hs x List.mem_cons_self
    have ih := tny_le (D := D.erase x) n2 fun y hy => (List.mem_erase_of_ne (fun (e : y = x) => n1 (by rw [← e]; exact hy))).mpr (hs y (List.mem_cons_of_mem _ hy))
    rw [List.length_erase_of_mem hx] at ih
    have := List.length_pos_of_mem hx
    rw [List.length_cons]
    omega
/-- stands of one company -/
theorem tiny_few {l : List Std} {n : Nat} (hn : l.Nodup) (h : ∀ s ∈ l, Tiny s ∧ s.1.length = n) : l.length ≤ 4887 := by
  cases l with
  | nil => exact Nat.zero_le _
  | cons x l =>
    have n3 : n ≤ 3 := by
      have := h x List.mem_cons_self
      rw [← this.2]
      exact this.1.l1
    have z := tny_le (D := tinies n) hn fun s hs => by
      have := mem_tinies (h s hs).1
      rwa [(h s hs).2] at this
    obtain ⟨t0, t1, t2, t3⟩ := tinies_len
    have : n = 0 ∨ n = 1 ∨ n = 2 ∨ n = 3 := by omega
    rcases this with e | e | e | e <;> subst e <;> exact Nat.le_trans z (by assumption)
/-- of whatever companies -/
theorem tiny_many {l : List Std} (hn : l.Nodup) (h : ∀ s ∈ l, Tiny s) : l.length ≤ 19548 := by
  have z := tny_le (D := tinies 0 ++ tinies 1 ++ tinies 2 ++ tinies 3) hn fun s hs => by
    have a := mem_tinies (h s hs)
    have b := (h s hs).l1
    have : s.1.length = 0 ∨ s.1.length = 1 ∨ s.1.length = 2 ∨ s.1.length = 3 := by omega
    simp only [List.mem_append]
    rcases this with e | e | e | e <;> rw [e] at a
    · exact .inl (.inl (.inl a))
    · exact .inl (.inl (.inr a))
    · exact .inl (.inr a)
    · exact .inr a
  obtain ⟨t0, t1, t2, t3⟩ := tinies_len
  simp only [List.length_append] at z
  omega
end Ink
namespace Ink
open PySem PySem.Spec PyProof.Rows L2 Evl
/-- all but what stands at d stays -/
def KD (d : Addr) (H H' : Hp) : Prop := ∀ b o, H b = some o → b ≠ d → H' b = some o
/-- only stands of companies of at most three are kept -/
def AllTiny (kvs : List (NK × V)) : Prop := ∀ kv ∈ kvs, ∃ s, kv.1 = kS s ∧ Tiny s
/-- a company whose dict stands at d -/
def CoAtD (P : Program) (w : World) (K : PySem.W.Frag) (C : Addr) (H : Hp) (c : Addr) (m : List Wr) (n : Nat) (d : Addr) : Prop :=
  ∃ dx tw kvs, H c = some (.ins C dx (coF tw d)) ∧ Dp K H (.ref tw) (dMt m) ∧ DicAt P w K H d kvs ∧ Cached K H m kvs ∧ kvs.length ≤ n ∧ AllTiny kvs
theorem CoAt.d {P : Program} {w : World} {K : PySem.W.Frag} {C : Addr} {H : Hp} {c : Addr} {m : List Wr} (h : CoAt P w K C H c m 0) : ∃ d, CoAtD P w K C H c m 0 d := by
  obtain ⟨dx, tw, d, kvs, h1, h2, h3, h4, h5⟩ := h
  exact ⟨d, dx, tw, kvs, h1, h2, h3, h4, h5, fun kv hk => by rw [List.eq_nil_of_length_eq_zero (Nat.le_zero.mp h5)] at hk; cases hk⟩
/-- however often it was asked, it keeps no more than that -/
theorem CoAtD.cap {P : Program} {w : World} {K : PySem.W.Frag} {C : Addr} {H : Hp} {c : Addr} {m : List Wr} {n : Nat} {d : Addr} (h : CoAtD P w K C H c m n d) : CoAtD P w K C H c m 20000 d := by
  obtain ⟨dx, tw, kvs, h1, h2, h3, h4, h5, h6⟩ := h
  refine ⟨dx, tw, kvs, h1, h2, h3, h4, ?_, h6⟩
  obtain ⟨xs, _, p, _, nd, _⟩ := h3
  have key : ∀ (kvs : List (NK × V)) (ys : List (NK × Addr × Value)), Paired PairN kvs ys → AllTiny kvs → ∃ l : List Std, l.map kS = ys.map (·.1) ∧ ∀ s ∈ l, Tiny s := fun kvs ys p => by
    induction p with
    | nil => exact fun _ => ⟨[], rfl, fun s hs => (by cases hs)⟩
    | @cons a b as bs r p ih =>
      intro t
      obtain ⟨l, e, hl⟩ := ih fun kv hk => t kv (List.mem_cons_of_mem _ hk)
      obtain ⟨s, es, ts⟩ := t a List.mem_cons_self
      refine ⟨s :: l, by rw [List.map_cons, List.map_cons, e, ← es, r.1], fun x hx => ?_⟩
      rcases List.mem_cons.mp hx with z | z
      · rw [z]
        exact ts
      · exact hl x z
  obtain ⟨l, e, hl⟩ := key _ _ p h6
  rw [← e] at nd
  have lz := congrArg List.length e
  rw [List.length_map, List.length_map, ← Paired.length p] at lz
  have := tiny_many (List.Pairwise.of_map kS (fun a b hab z => hab (congrArg kS z)) nd) hl
  omega
theorem CoAtD.co {P : Program} {w : World} {K : PySem.W.Frag} {C : Addr} {H : Hp} {c : Addr} {m : List Wr} {n : Nat} {d : Addr} (h : CoAtD P w K C H c m n d) : CoAt P w K C H c m n := by
  obtain ⟨dx, tw, kvs, h1, h2, h3, h4, h5, _⟩ := h
  exact ⟨dx, tw, d, kvs, h1, h2, h3, h4, h5⟩
theorem CoAtD.ext {P : Program} {w : World} {K : PySem.W.Frag} {C : Addr} {H : Hp} {c : Addr} {m : List Wr} {n : Nat} {d : Addr} (h : CoAtD P w K C H c m n d) : ∃ xs, H d = some (DicO P w d xs) := by
  obtain ⟨dx, tw, kvs, _, _, ⟨xs, e, _⟩, _⟩ := h
  exact ⟨xs, e⟩
theorem CoAtD.keep {P : Program} {w : World} {K : PySem.W.Frag} {C : Addr} {H H' : Hp} {c : Addr} {m : List Wr} {n : Nat} {d : Addr} (h : CoAtD P w K C H c m n d) (hd : H' d = H d) (hc : ∀ o, H c = some o → H' c = some o) (ht : TupK K H H') : CoAtD P w K C H' c m n d := by
  obtain ⟨dx, tw, kvs, h1, h2, h3, h4, h5, h6⟩ := h
  exact ⟨dx, tw, kvs, hc _ h1, dp_tk ht (fz_dMt m) h2, h3.up hd ht, h4.up ht, h5, h6⟩
theorem KD.tk {P : Program} {w : World} {K : PySem.W.Frag} {d : Addr} {H H' : Hp} {xs : DX} (k : KD d H H') (e : H d = some (DicO P w d xs)) : TupK K H H' := fun b ys h => by
  rcases h with (h | ⟨o, h⟩) | h
  · exact .inl (.inl (k _ _ h fun z => by rw [z, e] at h; exact dicO_ne.2 _ (Option.some.inj h)))
  · exact .inl (.inr ⟨o, k _ _ h fun z => by rw [z, e] at h; unfold DicO at h; cases h⟩)
  · exact .inr h
def spStepsD (P : Program) (w : World) (K : PySem.W.Frag) (C : Addr) : Sp := fun vs H Q _ => ∃ c m n v s d, vs = [.ref c, v] ∧ CoAtD P w K C H c m n d ∧ n < 90000 ∧ GoodM m ∧ Fits m s ∧ Tiny s ∧ Dp K H v (dS s) ∧
  ∀ p vs H', H p = none → KD d H H' → CoAtD P w K C H' c m (n + 1) d → H' p = some (.lst vs) → DpAll K H' vs ((stepsOf m s).map dStep) → Q (.ref p) H'
section
variable {P : Program} {w : World} {K : PySem.W.Frag} {mg : Str → Option Value} {base : Heap}
theorem ok_stepsD {f C : Addr} {fd : FuncData} {k : Nat} (F : Fun K "steps" "Company.steps" sCompanySteps f fd) (T : Txt mg) (Z : CoC K C) (C__steps_of : Cal P w K mg base k "_steps_of" ["writers", "stand"] (spP K RSteps)) : FnOk P w K mg base CX0 (k + 1) f fd ["self", "stand"] (spStepsD P w K C) := by
  refine F.ok sc_Company_steps (fun vs H Q E h => ?_) (fun cdv A outer s H vs Q E hr h => ?_)
  · obtain ⟨c, m, n, v, s, d, rfl, _⟩ := h
    rfl
  · obtain ⟨c, m, n, v, st, d, rfl, ⟨dx, tw, kvs, hc, hw, hd, hch, hl, hty⟩, hn, g, ft, ty, hv, q⟩ := h
    refine ⟨_, (Evl.pss_cut (ps_if (pt_cmpR (op_notinN (hu9 hr)) (pv 1) (pe_fld (pv 0) rfl) (by rfl))
    (pss_one (ps_asg (pe_callTy call_tuple_of (by rfl) T.m_tuple (by decide +kernel) (pa_cons (pe_callC C__steps_of hr (by rfl) (pa_cons (pe_fld (pv 0) rfl) (pa_cons (pv 1) pa_nil))) pa_nil)) (pg_sub (pe_fld (pv 0) rfl) (pv 1) (set_dicN (hu9 hr))))) pss_nil)
    (pss_one (ps_ret (pe_callTy call_list_of (by rfl) T.m_list (by decide +kernel) (pa_cons (pe_dgetN (hu9 hr) (pe_fld (pv 0) rfl) (pv 1) (fun _ _ => rfl)) pa_nil))))), ?_⟩
    refine Evl.q_cut (M := fun σ' H1 => σ' = [some (.ref c), some v] ∧ ∃ kvs1 u, KX H H1 ∧ KD d H H1 ∧ (∀ b, H1 b = none → H b = none) ∧ H1 c = some (.ins C dx (coF tw d)) ∧ DicAt P w K H1 d kvs1 ∧ Cached K H1 m kvs1 ∧ kvs1.length ≤ n + 1 ∧ AllTiny kvs1 ∧ lookN kvs1 (kS st) = some u) ?_ fun σ' H1 hM => ?_
    · refine s_if (b := !(lookN kvs (kS st)).isSome) (et_test (ev_notinN (ev_var rfl) (key_at hv) (ev_fld (ev_var rfl) hc Z.cl Z.nF (coF_f _ _)) hd)) (fun hb H1 e1 => ?_) fun hb H1 e1 => ?_
      · have lk : lookN kvs (kS st) = none := by
          cases e : lookN kvs (kS st) with
          | none => rfl
          | some u =>
            rw [e] at hb
            cases hb
        have hc1 := e1 _ _ hc
        refine ed_tuple (K := K) (ds := (stepsOf m st).map dStep) (ed_call (eds_cons (ed_of (ev_fld (ev_var rfl) hc1 Z.cl Z.nW (coF_w _ _)) (dp_same e1 hw)) (eds_cons (ed_var rfl (dp_same e1 hv)) eds_nil)) ⟨m, st, g, ft, rfl, rfl⟩) H1 (.refl H1) _ fun u H2 e2 hu => ?_
        have e12 := e1.trans e2
        have hc2 := e2 _ _ hc1
        have hd2 := hd.same e12
        refine ⟨.ref c, rfl, c, C, dx, _, .ref d, rfl, hc2, Z.cl, Z.nF, coF_f _ _, v, rfl, d, kvs, kS st, rfl, hd2, key_at (dp_same e12 hv), by omega, fun H3 hd3 h3 => ?_⟩
        obtain ⟨n1, n2⟩ := look_new (v := u) lk
        have kx : KX H2 H3 := fun b o e no => by
          obtain ⟨xs, ed, _⟩ := hd2
          have nb : b ≠ d := fun z => by
            rw [z, ed] at e
            exact no _ (Option.some.inj e).symm
          rw [h3 b nb]
          exact e
        have tk : TupK K H2 H3 := kx.t
        refine ⟨rfl, _, u, (KX.of e12).trans kx, fun b o e n => (h3 b n).trans (e12 b o e), fun b hb => ?_, kx _ _ hc2 (fun _ z => by cases z), hd3, fun kv hk => ?_, ?_, fun kv hk => ?_, n2⟩
        · refine Same.free e12 ?_
          by_cases hbd : b = d
          · obtain ⟨xs, ed, _⟩ := hd3
            rw [hbd, ed] at hb
            cases hb
          · rw [← h3 b hbd]
            exact hb
        · rw [n1] at hk
          rcases List.mem_append.mp hk with hk | hk
          · exact (hch.up ((TupK.of e12).trans tk)) kv hk
          · rw [List.mem_singleton] at hk
            subst hk
            exact ⟨st, rfl, kx.dp hu⟩
        · have := putN_len (kvs := kvs) (k := kS st) (v := u)
          omega
        · rw [n1] at hk
          rcases List.mem_append.mp hk with hk | hk
          · exact hty kv hk
          · rw [List.mem_singleton] at hk
            subst hk
            exact ⟨st, rfl, ty⟩
      · obtain ⟨u, lk⟩ : ∃ u, lookN kvs (kS st) = some u := by
          cases e : lookN kvs (kS st) with
          | none =>
            rw [e] at hb
            cases hb
          | some u => exact ⟨u, rfl⟩
        exact ⟨rfl, kvs, u, .of e1, fun b o e _ => e1 b o e, fun b hb => Same.free e1 hb, e1 _ _ hc, hd.same e1, hch.up (.of e1), by omega, hty, lk⟩
    · obtain ⟨rfl, kvs1, u, kx, kd, fr, hc1, hd1, hch1, hl1, hty1, lk⟩ := hM
      obtain ⟨s', e, hu⟩ := hch1 _ (look_in lk)
      obtain rfl := kS_inj e
      refine en_list (K := K) (ds := (stepsOf m st).map dStep) (ed_of (ev_dget (ev_fld (ev_var rfl) hc1 Z.cl Z.nF (coF_f _ _)) hd1 (ev_var rfl) (key_at (kx.dp hv)) lk) hu) (.inr rfl) H1 (.refl H1) _ fun p vs H2 np e2 hp hvs => ?_
      exact q p vs H2 (fr _ np) (fun b o e n => e2 b o (kd b o e n)) ⟨dx, tw, kvs1, e2 _ _ hc1, dp_same e2 (kx.dp hw), hd1.same e2, hch1.up (.of e2), hl1, hty1⟩ hp hvs
end
end Ink
namespace Ink
open PySem PySem.Spec PyProof.Rows L2 Evl
/-! ### data that cannot be the bag: it outlives what is drawn -/
def bagLike : List PyData → Bool
  | _ :: .int _ :: _ => true
  | _ => false
mutual
def nb : PyData → Bool
  | .list ds => !bagLike ds && nbAll ds
  | .tuple ds => nbAll ds
  | .dict _ => false
  | .none => true
  | .bool _ => true
  | .int _ => true
  | .str _ => true
def nbAll : List PyData → Bool
  | [] => true
  | d :: ds => nb d && nbAll ds
end
theorem nbAll_iff : ∀ {ds : List PyData}, nbAll ds = true ↔ ∀ d ∈ ds, nb d = true
  | [] => by unfold nbAll; exact ⟨fun _ _ h => (by cases h), fun _ => rfl⟩
  | d :: ds => by
    unfold nbAll
    rw [Bool.and_eq_true, nbAll_iff]
    exact ⟨fun h e he => (List.mem_cons.mp he).elim (fun z => z ▸ h.1) (h.2 e), fun h => ⟨h d (List.mem_cons_self ..), fun e he => h e (List.mem_cons_of_mem _ he)⟩⟩
theorem nb_map {α : Type} {e : α → PyData} {xs : List α} (h : ∀ x ∈ xs, nb (e x) = true) : nbAll (xs.map e) = true := nbAll_iff.mpr fun d hd => by
  obtain ⟨x, hx, rfl⟩ := List.mem_map.mp hd
  exact h x hx
mutual
theorem nb_fz : ∀ d : PyData, fz d = true → nb d = true
  | .none, _ => by unfold nb; rfl
  | .bool _, _ => by unfold nb; rfl
  | .int _, _ => by unfold nb; rfl
  | .str _, _ => by unfold nb; rfl
  | .list _, h => by unfold fz at h; cases h
  | .dict _, h => by unfold fz at h; cases h
  | .tuple ds, h => by
    unfold fz at h
    unfold nb
    exact nbs_fz ds h
theorem nbs_fz : ∀ ds : List PyData, fzAll ds = true → nbAll ds = true
  | [], _ => by unfold nbAll; rfl
  | d :: ds, h => by
    unfold fzAll at h
    rw [Bool.and_eq_true] at h
    unfold nbAll
    rw [nb_fz d h.1, nbs_fz ds h.2]
    rfl
end
/-- a list of which no item is a number -/
theorem nb_list {ds : List PyData} (h1 : ∀ d ∈ ds, ∀ i, d ≠ .int i) (h2 : nbAll ds = true) : nb (.list ds) = true := by
  unfold nb
  rw [h2, Bool.and_true]
  match ds, h1 with
  | a :: .int i :: r, h1 => exact absurd rfl (h1 (.int i) (by simp) i)
  | [], _ => rfl
  | [_], _ => rfl
  | _ :: .none :: _, _ => rfl
  | _ :: .bool _ :: _, _ => rfl
  | _ :: .str _ :: _, _ => rfl
  | _ :: .list _ :: _, _ => rfl
  | _ :: .tuple _ :: _, _ => rfl
  | _ :: .dict _ :: _, _ => rfl
theorem bag_data {K : PySem.W.Frag} {H H0 : Hp} {p q s l : V} {i : Int} {ds : List PyData} (h : DpAll K H [p, .int i, q, s] ds) : bagLike ds = true := by
  cases h with
  | cons h1 t =>
    cases t with
    | cons h2 t =>
      cases t with
      | cons h3 t =>
        cases t with
        | cons h4 t =>
          cases t
          cases h2
          rfl
mutual
theorem dp_nb {K : PySem.W.Frag} {H H' : Hp} {a l : Addr} (b : BagAt H a l) (k : Keep a H H') : ∀ (d : PyData) (v : V), nb d = true → Dp K H v d → Dp K H' v d
  | .none, _, _, h => by cases h; exact .non
  | .bool b, _, _, h => by cases h; exact .bl b
  | .int i, _, _, h => by cases h; exact .int i
  | .str x, _, _, h => by cases h; exact .str x
  | .dict _, _, _, h => by cases h
  | .tuple ds, _, f, h => by
    cases h with
    | tup hs ha => exact .tup (keep_t b k _ _ hs) (dps_nb b k ds _ (by unfold nb at f; exact f) ha)
  | .list ds, _, f, h => by
    cases h with
    | @lst p xs _ hs ha =>
      unfold nb at f
      rw [Bool.and_eq_true] at f
      obtain ⟨ns, q, t, s, h1, _⟩ := id b
      refine .lst ?_ (dps_nb b k ds _ f.2 ha)
      rcases hs with (h | ⟨o, h⟩) | h
      · refine .inl (.inl (k _ _ (fun z => ?_) h))
        rw [z, h1] at h
        injection h with h
        injection h with h
        rw [← h] at ha
        have := bag_data (l := .non) (H0 := H) ha
        rw [this] at f
        exact nomatch f.1
      · exact .inl (.inr ⟨o, k _ _ (fun z => by rw [z, h1] at h; cases h) h⟩)
      · exact .inr h
theorem dps_nb {K : PySem.W.Frag} {H H' : Hp} {a l : Addr} (b : BagAt H a l) (k : Keep a H H') : ∀ (ds : List PyData) (vs : List V), nbAll ds = true → DpAll K H vs ds → DpAll K H' vs ds
  | [], _, _, h => by cases h; exact .nil
  | d :: ds, _, f, h => by
    unfold nbAll at f
    rw [Bool.and_eq_true] at f
    cases h with
    | cons h1 h2 => exact .cons (dp_nb b k d _ f.1 h1) (dps_nb b k ds _ f.2 h2)
end
/-- a list of such things is not the bag's -/
theorem lst_ne {K : PySem.W.Frag} {H : Hp} {a l p : Addr} {vs : List V} {ds : List PyData} (b : BagAt H a l) (h : H p = some (.lst vs)) (hd : DpAll K H vs ds) (n : nb (.list ds) = true) : p ≠ a := fun z => by
  obtain ⟨ns, q, t, s, h1, _⟩ := b
  rw [z, h1] at h
  injection h with h
  injection h with h
  rw [← h] at hd
  unfold nb at n
  rw [bag_data (l := .non) (H0 := H) hd] at n
  cases n
end Ink
namespace Ink
open PySem PySem.Spec PyProof.Rows L2 Evl
/-! ### scrolls: the model -/
abbrev Sd := Int × Str × Bool
def dSd (x : Sd) : PyData := .tuple [.int x.1, .str x.2.1, .bool x.2.2]
/-- a step: a sign, or a company's writers -/
inductive Stp where
  | sg (z : Str)
  | cr (m : List Wr)
def dSL : Stp → PyData
  | .sg z => .str z
  | .cr m => dMl m
def dST : Stp → PyData
  | .sg z => .str z
  | .cr m => dMt m
def sgOf : Stp → Option Str
  | .sg z => some z
  | .cr _ => none
def sigsOf (tr : List Stp) : List Str := tr.filterMap sgOf
abbrev Crews := List (List (List Wr))
def lastC (cs : Crews) : List Wr := (cs.getLastD []).getLastD []
def stepC (cs : Crews) : Stp → Crews
  | .sg _ => cs ++ [[lastC cs]]
  | .cr m => cs.dropLast ++ [cs.getLastD [] ++ [m]]
def crewsOf (m : List Wr) (tr : List Stp) : Crews := tr.foldl stepC [[m]]
structure GoodStp (x : Stp) : Prop where
  sg : ∀ z, x = .sg z → ∃ c ∈ lets, z = single c
  cr : ∀ m, x = .cr m → GoodM m
/-- of each sign, and behind all: the company that was, and those that come ahead of it -/
structure GoodC (cs : Crews) : Prop where
  pos : cs ≠ []
  ne : ∀ ch ∈ cs, ch ≠ []
  good : ∀ ch ∈ cs, ∀ m ∈ ch, GoodM m
  link : ∀ (j : Nat) ch ch', cs[j]? = some ch → cs[j + 1]? = some ch' → ch'.head? = ch.getLast?
theorem last_of {cs : Crews} (h : cs ≠ []) : ∃ pre ch, cs = pre ++ [ch] := ⟨cs.dropLast, cs.getLast h, (List.dropLast_concat_getLast h).symm⟩
theorem lastD_app {α : Type} (pre : List α) (x d : α) : (pre ++ [x]).getLastD d = x := by
  rw [List.getLastD_concat]
theorem GoodC.step {cs : Crews} (g : GoodC cs) {x : Stp} (hx : GoodStp x) : GoodC (stepC cs x) := by
  obtain ⟨pre, ch, rfl⟩ := last_of g.pos
  have hch := g.ne ch (by simp)
  obtain ⟨p2, m0, rfl⟩ : ∃ p2 m0, ch = p2 ++ [m0] := ⟨ch.dropLast, ch.getLast hch, (List.dropLast_concat_getLast hch).symm⟩
  have gm0 := g.good (p2 ++ [m0]) (by simp) m0 (by simp)
  cases x with
  | sg z =>
    have e : stepC (pre ++ [p2 ++ [m0]]) (.sg z) = (pre ++ [p2 ++ [m0]]) ++ [[m0]] := by
      unfold stepC lastC
      rw [lastD_app, lastD_app]
    rw [e]
    refine ⟨by simp, fun c hc => ?_, fun c hc m hm => ?_, fun j c c' h1 h2 => ?_⟩
    · rcases List.mem_append.mp hc with hc | hc
      · exact g.ne c hc
      · rw [List.mem_singleton.mp hc]
        simp
    · rcases List.mem_append.mp hc with hc | hc
      · exact g.good c hc m hm
      · rw [List.mem_singleton.mp hc, List.mem_singleton] at hm
        rw [hm]
        exact gm0
    · by_cases hj : j + 1 < (pre ++ [p2 ++ [m0]]).length
      · rw [List.getElem?_append_left hj] at h2
        rw [List.getElem?_append_left (by omega)] at h1
        exact g.link j c c' h1 h2
      · have hl : j + 1 = (pre ++ [p2 ++ [m0]]).length := by
          have := (List.getElem?_eq_some_iff.mp h2).1
          rw [List.length_append, List.length_singleton] at this
          omega
        rw [hl, List.getElem?_append_right (Nat.le_refl _), Nat.sub_self] at h2
        have h2 := Option.some.inj h2
        rw [List.length_append, List.length_singleton] at hl
        rw [List.getElem?_append_left (by rw [List.length_append, List.length_singleton]; omega), show j = pre.length by omega, List.getElem?_append_right (Nat.le_refl _), Nat.sub_self] at h1
        have h1 := Option.some.inj h1
        rw [← h1, ← h2, List.getLast?_concat]
        rfl
  | cr m =>
    have e : stepC (pre ++ [p2 ++ [m0]]) (.cr m) = pre ++ [(p2 ++ [m0]) ++ [m]] := by
      unfold stepC
      rw [lastD_app, List.dropLast_concat]
    rw [e]
    have gm := hx.cr m rfl
    refine ⟨by simp, fun c hc => ?_, fun c hc m' hm => ?_, fun j c c' h1 h2 => ?_⟩
    · rcases List.mem_append.mp hc with hc | hc
      · exact g.ne c (List.mem_append_left _ hc)
      · rw [List.mem_singleton.mp hc]
        simp
    · rcases List.mem_append.mp hc with hc | hc
      · exact g.good c (List.mem_append_left _ hc) m' hm
      · rw [List.mem_singleton.mp hc] at hm
        rcases List.mem_append.mp hm with hm | hm
        · exact g.good _ (by simp) m' hm
        · rw [List.mem_singleton.mp hm]
          exact gm
    · by_cases hj : j + 1 < pre.length
      · rw [List.getElem?_append_left hj] at h2
        rw [List.getElem?_append_left (by omega)] at h1
        exact g.link j c c' (by rw [List.getElem?_append_left (by omega)]; exact h1) (by rw [List.getElem?_append_left hj]; exact h2)
      · have hl : j + 1 = pre.length := by
          have := (List.getElem?_eq_some_iff.mp h2).1
          rw [List.length_append, List.length_singleton] at this
          omega
        rw [hl, List.getElem?_append_right (Nat.le_refl _), Nat.sub_self] at h2
        have h2 := Option.some.inj h2
        rw [List.getElem?_append_left (by omega)] at h1
        have := g.link j c (p2 ++ [m0]) (by rw [List.getElem?_append_left (by omega)]; exact h1) (by rw [hl, List.getElem?_append_right (Nat.le_refl _), Nat.sub_self]; rfl)
        rw [← this, ← h2]
        cases p2 <;> rfl
theorem GoodC.one {m : List Wr} (g : GoodM m) : GoodC [[m]] := ⟨by simp, fun c hc => by rw [List.mem_singleton.mp hc]; simp, fun c hc m' hm => by rw [List.mem_singleton.mp hc, List.mem_singleton] at hm; rw [hm]; exact g, fun j c c' _ h => by cases h⟩
theorem GoodC.fold {tr : List Stp} (h : ∀ x ∈ tr, GoodStp x) : ∀ {cs : Crews}, GoodC cs → GoodC (tr.foldl stepC cs) := by
  induction tr with
  | nil => exact fun g => g
  | cons x tr ih => exact fun g => ih (fun y hy => h y (List.mem_cons_of_mem _ hy)) (g.step (h x (List.mem_cons_self ..)))
theorem stepC_len {cs : Crews} (h : cs ≠ []) (x : Stp) : (stepC cs x).length = cs.length + (sigsOf [x]).length ∧ stepC cs x ≠ [] := by
  have hp : 0 < cs.length := List.length_pos_iff.mpr h
  cases x with
  | sg z =>
    refine ⟨?_, by unfold stepC; simp⟩
    unfold stepC
    rw [List.length_append]
    rfl
  | cr m =>
    refine ⟨?_, by unfold stepC; simp⟩
    unfold stepC
    rw [List.length_append, List.length_dropLast, List.length_singleton]
    show cs.length - 1 + 1 = cs.length + 0
    omega
theorem fold_len : ∀ (tr : List Stp) {cs : Crews}, cs ≠ [] → (tr.foldl stepC cs).length = cs.length + (sigsOf tr).length
  | [], _, _ => rfl
  | x :: tr, cs, h => by
    rw [List.foldl_cons, fold_len tr (stepC_len h x).2, (stepC_len h x).1]
    unfold sigsOf
    cases x with
    | sg z =>
      show cs.length + 1 + _ = cs.length + (z :: tr.filterMap sgOf).length
      rw [List.length_cons]
      omega
    | cr m => rfl
theorem crews_len (m : List Wr) (tr : List Stp) : (crewsOf m tr).length = (sigsOf tr).length + 1 := by
  unfold crewsOf
  rw [fold_len tr (by simp)]
  show 1 + _ = _
  omega
/-! stands, carried through -/
def atC (ch : List (List Wr)) (i : Nat) : List Wr := ch.getD i []
def turnN (ch : List (List Wr)) : Nat → Std → Std
  | 0, s => s
  | i + 1, s => carS (atC ch i) (atC ch (i + 1)) (turnN ch i s)
def turnS (ch : List (List Wr)) (s : Std) : Std := turnN ch (ch.length - 1) s
/-- how many confessions of that sign break with the name -/
def brokenM (talk : List Sd) (at' : Int) (name : Str) : Nat := (talk.filter fun x => decide (V.int x.1 = V.int at') && !decide (V.bl (decide (V.str x.2.1 = V.str name)) = V.bl x.2.2)).length
def letsM (talk : List Sd) (at' : Int) (name : Str) : Bool := ((talk.filter fun x => decide (V.int x.1 = V.int at')).map fun x => decide (V.bl x.2.2 = V.bl (decide (V.str name = V.str x.2.1)))).all id
theorem lets_broken (talk : List Sd) (at' : Int) (name : Str) : letsM talk at' name = decide (V.int ((brokenM talk at' name : Nat) : Int) = V.int 0) := by
  unfold letsM brokenM
  rw [Bool.eq_iff_iff, decide_eq_true_eq]
  have key : ∀ x : Sd, decide (V.bl x.2.2 = V.bl (decide (V.str name = V.str x.2.1))) = decide (V.bl (decide (V.str x.2.1 = V.str name)) = V.bl x.2.2) := fun x => by
    have e : decide (V.str name = V.str x.2.1) = decide (V.str x.2.1 = V.str name) := decide_eq_decide.mpr ⟨Eq.symm, Eq.symm⟩
    rw [e]
    exact decide_eq_decide.mpr ⟨Eq.symm, Eq.symm⟩
  constructor
  · intro h
    congr 1
    have : (talk.filter fun x => decide (V.int x.1 = V.int at') && !decide (V.bl (decide (V.str x.2.1 = V.str name)) = V.bl x.2.2)) = [] := List.filter_eq_nil_iff.mpr fun x hx hc => by
      rw [Bool.and_eq_true] at hc
      have := List.all_eq_true.mp h _ (List.mem_map_of_mem (List.mem_filter.mpr ⟨hx, hc.1⟩))
      rw [id, key x] at this
      rw [this] at hc
      exact nomatch hc.2
    rw [this]
    rfl
  · intro h
    injection h with h
    have h0 : (talk.filter fun x => decide (V.int x.1 = V.int at') && !decide (V.bl (decide (V.str x.2.1 = V.str name)) = V.bl x.2.2)) = [] := List.eq_nil_of_length_eq_zero (by omega)
    refine List.all_eq_true.mpr fun b hb => ?_
    obtain ⟨x, hx, rfl⟩ := List.mem_map.mp hb
    obtain ⟨h1, h2⟩ := List.mem_filter.mp hx
    have := List.filter_eq_nil_iff.mp h0 x h1
    rw [h2, Bool.true_and] at this
    rw [id, key x]
    simpa using this
abbrev Row3 := List Str × Crews × List Sd
def dCh (ch : List (List Wr)) : PyData := .list (ch.map dMl)
def dRow (r : Row3) : PyData := .tuple [.list (r.1.map .str), .list (r.2.1.map dCh), .list (r.2.2.map dSd)]
def chAt' (r : Row3) (j : Nat) : List (List Wr) := r.2.1.getD j []
def lastW (r : Row3) (at' : Nat) : List Wr := (r.2.1.getD at' []).getLastD []
def okStep (r : Row3) (at' : Nat) (bound : Bool) (x : Str × Str × Std) : Bool := decide (V.str x.1 = V.str (r.1.getD at' Str.empty)) && (!bound || letsM r.2.2 at' x.2.1)
/-- who writes that sign, and the stand at the next one -/
def onM (r : Row3) (at' : Nat) (s : Std) (bound : Bool) : List (Str × Std) := ((stepsOf (lastW r at') s).filter (okStep r at' bound)).map fun x => (x.2.1, turnS (chAt' r (at' + 1)) x.2.2)
def dGo (x : Str × Std) : PyData := .tuple [.str x.1, dS x.2]
theorem fz_dGo (x : Str × Std) : fz (dGo x) = true := by
  have h := fz_dS x.2
  unfold dGo
  simp only [fz, fzAll, h, Bool.and_true]
theorem fz_dSd (x : Sd) : fz (dSd x) = true := by
  unfold dSd
  simp only [fz, fzAll, Bool.and_true]
theorem nb_strs (zs : List Str) : nb (.list (zs.map .str)) = true := nb_list (fun d hd i h => by
  obtain ⟨z, _, rfl⟩ := List.mem_map.mp hd
  cases h) (nb_map fun z _ => by unfold nb; rfl)
theorem nb_dMl (m : List Wr) : nb (dMl m) = true := nb_list (fun d hd i h => by
  obtain ⟨z, _, rfl⟩ := List.mem_map.mp hd
  cases h) (nb_map fun z _ => nb_fz _ (fz_dW z))
theorem nb_dCh (ch : List (List Wr)) : nb (dCh ch) = true := nb_list (fun d hd i h => by
  obtain ⟨z, _, rfl⟩ := List.mem_map.mp hd
  cases h) (nb_map fun z _ => nb_dMl z)
theorem nb_sds (t : List Sd) : nb (.list (t.map dSd)) = true := nb_list (fun d hd i h => by
  obtain ⟨z, _, rfl⟩ := List.mem_map.mp hd
  cases h) (nb_map fun z _ => nb_fz _ (fz_dSd z))
theorem nb_crews (cs : Crews) : nb (.list (cs.map dCh)) = true := nb_list (fun d hd i h => by
  obtain ⟨z, _, rfl⟩ := List.mem_map.mp hd
  cases h) (nb_map fun z _ => nb_dCh z)
theorem nb_dSL (x : Stp) : nb (dSL x) = true := by
  cases x with
  | sg z => unfold dSL nb; rfl
  | cr m => exact nb_dMl m
theorem nb_track (tr : List Stp) : nb (.list (tr.map dSL)) = true := nb_list (fun d hd i h => by
  obtain ⟨z, _, rfl⟩ := List.mem_map.mp hd
  cases z <;> cases h) (nb_map fun z _ => nb_dSL z)
theorem nb_dRow (r : Row3) : nb (dRow r) = true := by
  unfold dRow
  simp only [nb, nbAll, Bool.and_true, Bool.and_eq_true]
  have h1 := nb_strs r.1
  have h2 := nb_crews r.2.1
  have h3 := nb_sds r.2.2
  unfold nb at h1 h2 h3
  simp only [Bool.and_eq_true] at h1 h2 h3
  exact ⟨h1, h2, h3⟩
/-! what is carried is as it must be -/
theorem kept_some {m m2 : List Wr} {j k : Nat} (h : (keptW m m2)[j]? = some (some k)) : k < m.length ∧ j < m2.length ∧ wr m k = wr m2 j := by
  unfold keptW at h
  rw [List.getElem?_map] at h
  cases e : m2[j]? with
  | none =>
    rw [e] at h
    cases h
  | some x =>
    rw [e] at h
    have h := Option.some.inj h
    have hj := (List.getElem?_eq_some_iff.mp e).1
    have ej : wr m2 j = x := by
      unfold wr
      rw [List.getD_eq_getElem?_getD, e]
      rfl
    unfold ixW at h
    rw [List.findIdx?_eq_some_iff_getElem] at h
    obtain ⟨hk, h1, _⟩ := h
    refine ⟨hk, hj, ?_⟩
    rw [ej]
    unfold wr
    rw [List.getD_eq_getElem?_getD, List.getElem?_eq_getElem hk]
    exact of_decide_eq_true h1
theorem car_at (m m2 : List Wr) (s : Std) {j : Nat} (hj : j < m2.length) : ∃ o, (keptW m m2)[j]? = some o ∧ pl (carS m m2 s) j = orN (pl s) o ∧ wt (carS m m2 s) j = orN (wt s) o := by
  have hl : (keptW m m2).length = m2.length := by unfold keptW; rw [List.length_map]
  refine ⟨_, List.getElem?_eq_getElem (by rw [hl]; exact hj), ?_, ?_⟩
  · unfold pl carS
    rw [List.getD_eq_getElem?_getD, List.getElem?_map, List.getElem?_eq_getElem (by rw [hl]; exact hj)]
    rfl
  · unfold wt carS
    rw [List.getD_eq_getElem?_getD, List.getElem?_map, List.getElem?_eq_getElem (by rw [hl]; exact hj)]
    rfl
theorem okay_car {m m2 : List Wr} {s : Std} (o : Okay m s) : Okay m2 (carS m m2 s) := by
  refine ⟨car_fits m m2 s, fun j hj hm => ?_, ?_⟩
  · obtain ⟨k, hk, e1, e2⟩ := car_at m m2 s hj
    rw [e2]
    cases k with
    | none => rfl
    | some k =>
      obtain ⟨h1, h2, h3⟩ := kept_some hk
      refine o.w0 k h1 ?_
      rw [← hm]
      unfold minds
      rw [h3, e1]
      rfl
  · show (match ixR (keptW m m2) s.2.2.1 with | some j => ((j : Int), s.2.2.2) | none => (-1, 0)) = (-1, 0) ∨ _
    cases e : ixR (keptW m m2) s.2.2.1 with
    | none => exact .inl rfl
    | some j =>
      refine .inr ⟨j, ?_⟩
      have e0 := e
      unfold ixR at e
      rw [List.findIdx?_eq_some_iff_getElem] at e
      obtain ⟨hj, h1, _⟩ := e
      have hl : (keptW m m2).length = m2.length := by unfold keptW; rw [List.length_map]
      cases ek : (keptW m m2)[j] with
      | none =>
        rw [ek] at h1
        cases h1
      | some k =>
        rw [ek] at h1
        have h1 : ((k : Nat) : Int) = s.2.2.1 := of_decide_eq_true h1
        obtain ⟨hk, hj2, hw⟩ := kept_some (m := m) (m2 := m2) (j := j) (k := k) (by rw [List.getElem?_eq_getElem hj, ek])
        have e2 : (carS m m2 s).2.2 = ((j : Int), s.2.2.2) := by
          unfold carS
          show (match ixR (keptW m m2) s.2.2.1 with | some j => ((j : Int), s.2.2.2) | none => (-1, 0)) = _
          rw [e0]
        rw [e2]
        rcases o.run with h | ⟨k', hk', h2, h3, h4⟩
        · rw [h] at h1
          have h1 : ((k : Nat) : Int) = -1 := h1
          omega
        · have : k' = k := by omega
          subst this
          exact ⟨hj2, rfl, by rw [← hw]; exact h3, by rw [← hw]; exact h4⟩
theorem turn_okay {ch : List (List Wr)} {s : Std} (o : Okay (atC ch 0) s) : ∀ i, Okay (atC ch i) (turnN ch i s)
  | 0 => o
  | i + 1 => okay_car (turn_okay o i)
theorem turn_fits {ch : List (List Wr)} {s : Std} (o : Fits (atC ch 0) s) : ∀ i, Fits (atC ch i) (turnN ch i s)
  | 0 => o
  | i + 1 => car_fits _ _ _
theorem car_begin (m m2 : List Wr) : carS m m2 (beginS m) = beginS m2 := by
  have key : ∀ (f : Nat → Int), (∀ k, f k = 0) → (keptW m m2).map (orN f) = List.replicate m2.length 0 := fun f hf => by
    refine List.eq_replicate_iff.mpr ⟨by unfold keptW; rw [List.length_map, List.length_map], fun b hb => ?_⟩
    obtain ⟨o, _, rfl⟩ := List.mem_map.mp hb
    cases o with
    | none => rfl
    | some k => exact hf k
  have z : ∀ (n : Nat) (k : Nat), (List.replicate n (0 : Int)).getD k 0 = 0 := fun n k => by
    rw [List.getD_eq_getElem?_getD, List.getElem?_replicate]
    split <;> rfl
  have r : ixR (keptW m m2) (-1) = none := by
    unfold ixR
    rw [List.findIdx?_eq_none_iff]
    intro x _
    cases x with
    | none => rfl
    | some k =>
      show decide ((k : Int) = -1) = false
      exact decide_eq_false (by omega)
  unfold carS beginS
  show ((keptW m m2).map (orN (pl (beginS m))), (keptW m m2).map (orN (wt (beginS m))), match ixR (keptW m m2) (-1) with | some j => ((j : Int), (0 : Int)) | none => (-1, 0)) = _
  rw [r, key (pl (beginS m)) (fun k => z m.length k), key (wt (beginS m)) (fun k => z m.length k)]
theorem turn_begin (ch : List (List Wr)) : ∀ i, turnN ch i (beginS (atC ch 0)) = beginS (atC ch i)
  | 0 => rfl
  | i + 1 => by
    show carS (atC ch i) (atC ch (i + 1)) (turnN ch i (beginS (atC ch 0))) = _
    rw [turn_begin ch i, car_begin]
theorem lastD_at {ch : List (List Wr)} (h : ch ≠ []) : ch.getLastD [] = atC ch (ch.length - 1) := by
  obtain ⟨p, x, rfl⟩ : ∃ p x, ch = p ++ [x] := ⟨ch.dropLast, ch.getLast h, (List.dropLast_concat_getLast h).symm⟩
  unfold atC
  rw [lastD_app, List.length_append, List.length_singleton, Nat.add_sub_cancel, List.getD_eq_getElem?_getD, List.getElem?_append_right (Nat.le_refl _), Nat.sub_self]
  rfl
/-- a row of companies and confessions in its form -/
structure GoodR (r : Row3) : Prop where
  c : GoodC r.2.1
  len : r.2.1.length = r.1.length + 1
  n1 : r.1.length ≤ 900
  n2 : ∀ ch ∈ r.2.1, ch.length ≤ 900
  n3 : r.2.2.length ≤ 900
abbrev chAt := chAt'
theorem GoodR.ch {r : Row3} (g : GoodR r) {j : Nat} (h : j ≤ r.1.length) : r.2.1[j]? = some (chAt r j) ∧ chAt r j ≠ [] ∧ (∀ m ∈ chAt r j, GoodM m) ∧ (chAt r j).length ≤ 900 := by
  have hl := g.len
  have e : r.2.1[j]? = some (chAt r j) := by
    unfold chAt chAt'
    rw [List.getD_eq_getElem?_getD, List.getElem?_eq_getElem (show j < r.2.1.length by omega)]
    rfl
  have hm := List.mem_of_getElem? e
  exact ⟨e, g.c.ne _ hm, g.c.good _ hm, g.n2 _ hm⟩
theorem lastW_is (r : Row3) (j : Nat) : lastW r j = (chAt r j).getLastD [] := rfl
theorem GoodR.last {r : Row3} (g : GoodR r) {j : Nat} (h : j ≤ r.1.length) : lastW r j = atC (chAt r j) ((chAt r j).length - 1) ∧ GoodM (lastW r j) ∧ (chAt r j).getLast? = some (lastW r j) := by
  obtain ⟨_, h2, h3, _⟩ := g.ch h
  have e := lastD_at h2
  obtain ⟨p, x, hx⟩ : ∃ p x, chAt r j = p ++ [x] := ⟨(chAt r j).dropLast, (chAt r j).getLast h2, (List.dropLast_concat_getLast h2).symm⟩
  have ex : lastW r j = x := by rw [lastW_is, hx, lastD_app]
  exact ⟨e, by rw [ex]; exact h3 x (by rw [hx]; simp), by rw [ex, hx, List.getLast?_concat]⟩
theorem GoodR.link {r : Row3} (g : GoodR r) {j : Nat} (h : j + 1 ≤ r.1.length) : atC (chAt r (j + 1)) 0 = lastW r j := by
  have h1 := (g.ch (show j ≤ r.1.length by omega)).1
  have h2 := (g.ch h).1
  have l := g.c.link j _ _ h1 h2
  rw [(g.last (show j ≤ r.1.length by omega)).2.2] at l
  unfold atC
  cases e : chAt r (j + 1) with
  | nil =>
    rw [e] at l
    cases l
  | cons x y =>
    rw [e] at l
    exact Option.some.inj l
theorem on_okay {r : Row3} (g : GoodR r) {j : Nat} (h : j < r.1.length) {s : Std} (o : Okay (lastW r j) s) {b : Bool} {x : Str × Std} (hx : x ∈ onM r j s b) : Okay (lastW r (j + 1)) x.2 := by
  obtain ⟨y, hy, rfl⟩ := List.mem_map.mp hx
  have hy := (List.mem_filter.mp hy).1
  obtain ⟨k, to, hk, hm, e, _⟩ := steps_in hy
  have e2 : y.2.2 = behind (lastW r j) s k to := congrArg (fun z => z.2.2) e
  have ok := okay_behind (g.last (show j ≤ r.1.length by omega)).2.1 o hk hm to
  rw [(g.last (show j + 1 ≤ r.1.length by omega)).1]
  show Okay _ (turnN (chAt r (j + 1)) ((chAt r (j + 1)).length - 1) y.2.2)
  refine turn_okay ?_ _
  rw [g.link h, e2]
  exact ok
theorem on_len {r : Row3} (g : GoodR r) {j : Nat} (h : j ≤ r.1.length) (s : Std) (b : Bool) : (onM r j s b).length ≤ 27 := by
  unfold onM
  rw [List.length_map]
  refine Nat.le_trans (List.length_filter_le _ _) ?_
  unfold stepsOf
  rw [List.length_map, List.length_mergeSort]
  exact moves_len (g.last h).2.1 s
def firstS (r : Row3) : Std := beginS (lastW r 0)
/-- whether the names go on from there -/
def walkM (r : Row3) : List Str → Nat → Std → Bool
  | [], _, _ => true
  | z :: zs, j, s => match (onM r j s true).filter (fun x => decide (V.str x.1 = V.str z)) with
    | [] => false
    | x :: _ => walkM r zs (j + 1) x.2
def telM (r : Row3) (row : List Str) : Bool := decide (row.length = r.1.length) && walkM r row 0 (firstS r)
end Ink
namespace Ink
open PySem PySem.Spec PyProof.Rows L2 Evl
/-! ### scrolls: the law's own defs -/
def RTurn : List PyData → PyData → Prop := fun ds d => ∃ ch s, ch ≠ [] ∧ (∀ m ∈ ch, GoodM m) ∧ ch.length ≤ 900 ∧ Fits (atC ch 0) s ∧ ds = [dCh ch, dS s] ∧ d = dS (turnS ch s)
def RFirst : List PyData → PyData → Prop := fun ds d => ∃ r, GoodR r ∧ ds = [dRow r] ∧ d = dS (firstS r)
def RBroken : List PyData → PyData → Prop := fun ds d => ∃ (talk : List Sd) (at' : Int) (name : Str), talk.length ≤ 900 ∧ ds = [.list (talk.map dSd), .int at', .str name] ∧ d = .int ((brokenM talk at' name : Nat) : Int)
def ROn : List PyData → List PyData → Prop := fun ds d => ∃ (r : Row3) (j : Nat) (s : Std) (b : Bool), GoodR r ∧ j < r.1.length ∧ Okay (lastW r j) s ∧ ds = [dRow r, .int (j : Int), dS s, .bool b] ∧ d = (onM r j s b).map dGo
def RTel : List PyData → PyData → Prop := fun ds d => ∃ (r : Row3) (row : List Str), GoodR r ∧ row.length ≤ 1000 ∧ ds = [dRow r, .list (row.map .str)] ∧ d = .bool (telM r row)
theorem vcut_m1 (xs : List V) : cutV xs none (some (-1)) = xs.dropLast := by
  unfold cutV
  rw [HT.sIx_none, List.drop_zero, Nat.sub_zero, List.dropLast_eq_take]
  congr 1
  show (if (-1 : Int) < 0 then (-1 + (xs.length : Int)).toNat else min (-1 : Int).toNat xs.length) = _
  rw [if_pos (by decide)]
  omega
section
variable {K : PySem.W.Frag} {σ : L2.St} {H : Hp} {ta tb te : TE} {ds : List PyData}
theorem dps_dropLast {vs : List V} (h : DpAll K H vs ds) : DpAll K H vs.dropLast ds.dropLast := by
  rw [List.dropLast_eq_take, List.dropLast_eq_take, h.length]
  exact h.take _
theorem en_slM1 (h : EvD K te σ H (.list ds)) (hk : Ev tb σ H (.int (-1))) : EvN K (tSl (rSlL K) te tNoPart (tPart tb)) σ H ds.dropLast := fun H1 e Q q =>
  h H1 e _ fun v H2 e2 hv => hk H2 (e.trans e2) _ fun H3 e3 => ⟨-1, rfl, by
    obtain ⟨p, xs, rfl, hs, hxs⟩ := dp_lst (dp_same e3 hv)
    refine ⟨p, xs, rfl, hs, fun p2 np => ?_⟩
    rw [vcut_m1]
    exact q p2 _ _ (fresh_back (e2.trans e3) np) ((e2.trans e3).trans (Ex.new np)) upd_same (dps_same (Ex.new np) (dps_dropLast hxs))⟩
/-- the last of a list -/
theorem ed_ixLast {d : PyData} (ha : EvD K ta σ H (.list ds)) (hb : Ev tb σ H (.int (-1))) (hd : ds.getLast? = some d) : EvD K (tOp (rIxL K) ta tb) σ H d := fun H1 e Q q =>
  ha H1 e _ fun v H2 e2 hv => hb H2 (e.trans e2) _ fun H3 e3 => by
    obtain ⟨p, xs, rfl, hs, hxs⟩ := dp_lst (dp_same e3 hv)
    obtain ⟨ys, rfl⟩ : ∃ ys, ds = ys ++ [d] := List.getLast?_eq_some_iff.mp hd
    have hl := hxs.length
    rw [List.length_append, List.length_singleton] at hl
    obtain ⟨v, hv, hdv⟩ := hxs.get (i := ys.length) (d := d) (by rw [List.getElem?_append_right (Nat.le_refl _), Nat.sub_self]; rfl)
    have hx : xs = xs.take ys.length ++ [v] := by
      have h1 := (List.take_append_drop ys.length xs).symm
      rw [List.drop_eq_getElem_cons (by omega), List.drop_of_length_le (by omega)] at h1
      rw [List.getElem?_eq_getElem (by omega)] at hv
      rw [Option.some.inj hv] at h1
      exact h1
    exact ⟨p, xs, -1, v, rfl, rfl, hs, by rw [hx]; exact atI_last _ _, q v H3 (e2.trans e3) hdv⟩
def iOn (J : It) : TI := fun _ H R => R J H
/-- a walk over a list just made -/
theorem for_newL {g : TG} {tu : TS} {D : Ends} (h : EvN K te σ H ds) (k : ∀ p vs H1, H p = none → Ex H H1 → H1 p = some (.lst vs) → DpAll K H1 vs ds → tFor (iOn (Itl K p)) g tu D σ H1) : tFor (iList K te) g tu D σ H := h H (.refl H) _ fun p vs H1 np e hp hd => ⟨p, rfl, ⟨vs, .of hp⟩, k p vs H1 np e hp hd⟩
end
theorem zip_at {ch : List (List Wr)} {i : Nat} {d : PyData} (h : (((ch.map dMl).dropLast.zip ((ch.map dMl).drop 1)).map fun p => PyData.tuple [p.1, p.2])[i]? = some d) : i + 1 < ch.length ∧ d = .tuple [dMl (atC ch i), dMl (atC ch (i + 1))] := by
  rw [List.getElem?_map, Option.map_eq_some_iff] at h
  obtain ⟨⟨a, b⟩, hp, rfl⟩ := h
  rw [List.getElem?_zip_eq_some] at hp
  obtain ⟨h1, h2⟩ := hp
  rw [List.getElem?_dropLast] at h1
  rw [List.getElem?_drop] at h2
  rw [List.getElem?_map] at h1 h2
  have hi : i + 1 < ch.length := by
    rw [Nat.add_comm, Option.map_eq_some_iff] at h2
    obtain ⟨x, hx, _⟩ := h2
    exact (List.getElem?_eq_some_iff.mp hx).1
  refine ⟨hi, ?_⟩
  rw [if_pos (by rw [List.length_map]; omega), List.getElem?_eq_getElem (by omega)] at h1
  rw [Nat.add_comm, List.getElem?_eq_getElem hi] at h2
  unfold atC
  rw [List.getD_eq_getElem?_getD, List.getD_eq_getElem?_getD, List.getElem?_eq_getElem (show i < ch.length by omega), List.getElem?_eq_getElem hi]
  rw [← Option.some.inj h1, ← Option.some.inj h2]
  rfl
theorem zip_len (ch : List (List Wr)) : (((ch.map dMl).dropLast.zip ((ch.map dMl).drop 1)).map fun p => PyData.tuple [p.1, p.2]).length = ch.length - 1 := by
  rw [List.length_map, List.length_zip, List.length_dropLast, List.length_drop, List.length_map, Nat.min_self]
theorem atC_mem {ch : List (List Wr)} {i : Nat} (h : i < ch.length) : atC ch i ∈ ch := by
  unfold atC
  rw [List.getD_eq_getElem?_getD, List.getElem?_eq_getElem h]
  exact List.getElem_mem h
theorem atC_get {ch : List (List Wr)} {i : Nat} (h : i < ch.length) : (ch.map dMl)[i]? = some (dMl (atC ch i)) := by
  unfold atC
  rw [List.getElem?_map, List.getD_eq_getElem?_getD, List.getElem?_eq_getElem h]
  rfl
theorem GoodR.dch {r : Row3} (g : GoodR r) {j : Nat} (h : j ≤ r.1.length) : (r.2.1.map dCh)[j]? = some (dCh (chAt r j)) := by
  rw [List.getElem?_map, (g.ch h).1]
  rfl
theorem dCh_last {ch : List (List Wr)} {m : List Wr} (h : ch.getLast? = some m) : (ch.map dMl).getLast? = some (dMl m) := by
  rw [List.getLast?_map, h]
  rfl
theorem dps1' {K : PySem.W.Frag} {H : Hp} {vs : List V} {d : PyData} (h : DpAll K H vs [d]) : ∃ v, vs = [v] ∧ Dp K H v d := dps1 h
section
variable {P : Program} {w : World} {K : PySem.W.Frag} {mg : Str → Option Value} {base : Heap}
theorem enum_str {row : List Str} {i : Nat} {d : PyData} (h : (enumD (row.map PyData.str))[i]? = some d) : ∃ z, row[i]? = some z ∧ d = .tuple [.int (i : Int), .str z] := by
  have hl : i < row.length := by
    have := (List.getElem?_eq_some_iff.mp h).1
    rwa [enum_len, List.length_map] at this
  have e : (row.map PyData.str)[i]? = some (.str row[i]) := by
    rw [List.getElem?_map, List.getElem?_eq_getElem hl]
    rfl
  rw [enumD_get e] at h
  exact ⟨row[i], List.getElem?_eq_getElem hl, (Option.some.inj h).symm⟩
theorem stands_shaped (l : List Std) : SeqAt.shaped (.list (l.map dS)) = true := by
  have h1 : PyData.canLayAll0 (l.map dS) = true := lay_map fun x _ => dS_lay x
  have h2 := depth_map (f := dS) (n := 10) (l := l) fun x _ => by
    have := depth_dS x
    omega
  unfold SeqAt.shaped
  rw [Bool.and_eq_true, decide_eq_true_eq]
  refine ⟨by simp only [PyData.canLay0]; exact h1, ?_⟩
  simp only [PyData.depth]
  omega
theorem drop_at {α : Type} {l : List α} {i : Nat} {x : α} (h : l[i]? = some x) : l.drop i = x :: l.drop (i + 1) := by
  obtain ⟨h1, h2⟩ := List.getElem?_eq_some_iff.mp h
  rw [List.drop_eq_getElem_cons h1, h2]
end
end Ink
namespace Ink
open PySem PySem.Spec PyProof.Rows L2
theorem nd_get {α : Type} {l : List α} (h : l.Nodup) {i j : Nat} {x : α} (h1 : l[i]? = some x) (h2 : l[j]? = some x) : i = j := by
  obtain ⟨a1, b1⟩ := List.getElem?_eq_some_iff.mp h1
  obtain ⟨a2, b2⟩ := List.getElem?_eq_some_iff.mp h2
  have z := List.pairwise_iff_getElem.mp h
  rcases Nat.lt_trichotomy i j with c | c | c
  · exact absurd (b1.trans b2.symm) (z i j a1 a2 c)
  · exact c
  · exact absurd (b2.trans b1.symm) (z j i a2 a1 c)
theorem tiny_begin {m : List Wr} (h : m.length ≤ 3) : Tiny (beginS m) := by
  have z : ∀ {x : Int}, x ∈ List.replicate m.length (0 : Int) → x = 0 := fun hx => (List.mem_replicate.mp hx).2
  refine ⟨by unfold beginS; rw [List.length_replicate]; exact h, rfl, fun x hx => ?_, fun x hx => ?_, fun e => ⟨0, by decide, ?_⟩, .inl rfl⟩
  · rw [z hx]
    decide
  · rw [z hx]
    decide
  · unfold wt beginS
    rw [List.getD_eq_getElem?_getD, List.getElem?_replicate]
    split <;> rfl
theorem tiny_behind {m : List Wr} (g : GoodM m) {s : Std} (f : Fits m s) (t : Tiny s) {k : Nat} (hk : k < m.length) (hw : mayW m s k = true) {to : Int} (h0 : 0 ≤ to) (h2 : to ≤ 2) : Tiny (behind m s k to) := by
  have l1 := f.l1
  have l2 := f.l2
  have g3 := g.len
  have hl1 : (behind m s k to).1.length = m.length := (behind_fits f hk to).l1
  have hl2 : (behind m s k to).2.1.length = m.length := (behind_fits f hk to).l2
  have wk : wt (behind m s k to) k = 0 := by
    rw [wt_behind (by omega), decide_eq_true rfl]
    rfl
  refine ⟨by omega, by omega, fun x hx => ?_, fun x hx => ?_, fun e => ⟨k, by omega, wk⟩, ?_⟩
  · have hx : x ∈ s.1.take k ++ to :: s.1.drop (k + 1) := hx
    rcases List.mem_append.mp hx with z | z
    · exact t.p x (List.mem_of_mem_take z)
    · rcases List.mem_cons.mp z with z | z
      · rw [z]
        exact ⟨h0, h2⟩
      · exact t.p x (List.mem_of_mem_drop z)
  · obtain ⟨j, hj, rfl⟩ := List.mem_map.mp hx
    have hj := List.mem_range.mp hj
    have hjm : j < m.length := by omega
    split
    · rename_i c
      rw [Bool.and_eq_true] at c
      have wj := t.w (wt s j) (by
        unfold wt
        rw [List.getD_eq_getElem?_getD, List.getElem?_eq_getElem hj]
        exact List.getElem_mem hj)
      have pj := (g.at hjm).p3
      have lt : wt s j < (wr m j).2.2.1 := by
        unfold mayW at hw
        split at hw
        · cases hw
        · rw [List.all_map] at hw
          have := List.all_eq_true.mp hw j (List.mem_filter.mpr ⟨List.mem_range.mpr hjm, by rw [Bool.and_eq_true]; exact c⟩)
          exact of_decide_eq_true this
      omega
    · decide
  · unfold behind
    by_cases h : V.int (wr m k).2.2.2 = V.int 0
    · rw [if_pos h]
      exact .inl rfl
    · rw [if_neg h]
      have h0 : (wr m k).2.2.2 ≠ 0 := fun z => h (by rw [z])
      have c3 := (g.at hk).c3
      refine .inr ⟨k, by show k < (behind m s k to).1.length; omega, rfl, ?_, ?_, wk⟩
      · show 1 ≤ (if V.int s.2.2.1 = V.int (k : Int) then s.2.2.2 + 1 else 1)
        split
        · rename_i e
          injection e with e
          rcases t.r with z | ⟨j, _, _, z, _⟩
          · have : s.2.2.1 = -1 := by rw [z]
            omega
          · omega
        · decide
      · show (if V.int s.2.2.1 = V.int (k : Int) then s.2.2.2 + 1 else 1) ≤ 3
        split
        · rename_i e
          unfold mayW at hw
          split at hw
          · cases hw
          · rename_i hn
            have : ¬ s.2.2.2 ≥ (wr m k).2.2.2 := fun hge => hn (by rw [decide_eq_false h, decide_eq_true e, decide_eq_true hge]; rfl)
            omega
        · decide
theorem tiny_steps {m : List Wr} (g : GoodM m) {s : Std} (f : Fits m s) (t : Tiny s) {x : Str × Str × Std} (h : x ∈ stepsOf m s) : Tiny x.2.2 := by
  unfold stepsOf at h
  obtain ⟨y, hy, rfl⟩ := List.mem_map.mp h
  rw [List.mem_mergeSort] at hy
  obtain ⟨k, hk, hy⟩ := List.mem_flatMap.mp hy
  have hk := List.mem_range.mp hk
  unfold movesAt at hy
  split at hy
  · rename_i hw
    obtain ⟨a, ha, rfl⟩ := List.mem_map.mp hy
    have ga := (g.at hk).each a (List.mem_filter.mp ha).1
    exact tiny_behind g f t hk hw ga.2.2.2.1 ga.2.2.2.2
  · cases hy
theorem tiny_car {m m2 : List Wr} {s : Std} (f : Fits m s) (t : Tiny s) (g : m.length ≤ 3) (g2 : GoodM m2) : Tiny (carS m m2 s) := by
  have k2 := g2.len
  have lk : (keptW m m2).length = m2.length := List.length_map _
  have pt : ∀ (o : Option Nat), o ∈ keptW m m2 → o = none ∨ ∃ k, o = some k ∧ k < m.length := fun o ho => by
    obtain ⟨j, hj⟩ := List.mem_iff_getElem?.mp ho
    cases o with
    | none => exact .inl rfl
    | some k => exact .inr ⟨k, rfl, (kept_some hj).1⟩
  have l1 := f.l1
  have l2 := f.l2
  have gd : ∀ (ns : List Int) (k : Nat), k < ns.length → ns.getD k 0 ∈ ns := fun ns k h => by
    rw [List.getD_eq_getElem?_getD, List.getElem?_eq_getElem h]
    exact List.getElem_mem h
  refine ⟨by show ((keptW m m2).map _).length ≤ 3; rw [List.length_map, lk]; exact k2, by show ((keptW m m2).map _).length = ((keptW m m2).map _).length; rw [List.length_map, List.length_map], fun x hx => ?_, fun x hx => ?_, fun e => ?_, ?_⟩
  · obtain ⟨o, ho, rfl⟩ := List.mem_map.mp hx
    rcases pt o ho with rfl | ⟨k, rfl, hk⟩
    · exact ⟨Int.le_refl 0, (by decide : (0 : Int) ≤ 2)⟩
    · exact t.p _ (gd s.1 k (by omega))
  · obtain ⟨o, ho, rfl⟩ := List.mem_map.mp hx
    rcases pt o ho with rfl | ⟨k, rfl, hk⟩
    · exact ⟨Int.le_refl 0, (by decide : (0 : Int) ≤ 3)⟩
    · exact t.w _ (gd s.2.1 k (by omega))
  · have e : ((keptW m m2).map (orN (pl s))).length = 3 := e
    rw [List.length_map, lk] at e
    obtain ⟨o0, a0, _, b0⟩ := car_at m m2 s (show 0 < m2.length by omega)
    obtain ⟨o1, a1, _, b1⟩ := car_at m m2 s (show 1 < m2.length by omega)
    obtain ⟨o2, a2, _, b2⟩ := car_at m m2 s (show 2 < m2.length by omega)
    have nd : ∀ {i j k : Nat}, i ≠ j → (keptW m m2)[i]? = some (some k) → (keptW m m2)[j]? = some (some k) → False := fun {i j k} hij h1 h2 => by
      obtain ⟨_, hi, e1⟩ := kept_some h1
      obtain ⟨_, hj, e2⟩ := kept_some h2
      have q1 : (m2.map (·.1))[i]? = some (wr m2 i).1 := by
        rw [List.getElem?_map, wr_get hi]
        rfl
      have q2 : (m2.map (·.1))[j]? = some (wr m2 j).1 := by
        rw [List.getElem?_map, wr_get hj]
        rfl
      rw [← e2, e1] at q2
      exact hij (nd_get g2.nd q1 q2)
    cases o0 with
    | none => exact ⟨0, by decide, b0⟩
    | some k0 =>
      cases o1 with
      | none => exact ⟨1, by decide, b1⟩
      | some k1 =>
        cases o2 with
        | none => exact ⟨2, by decide, b2⟩
        | some k2 =>
          have h0 := (kept_some a0).1
          have h1 := (kept_some a1).1
          have h2 := (kept_some a2).1
          have n01 : k0 ≠ k1 := fun z => nd (by decide) a0 (z ▸ a1)
          have n02 : k0 ≠ k2 := fun z => nd (by decide) a0 (z ▸ a2)
          have n12 : k1 ≠ k2 := fun z => nd (by decide) a1 (z ▸ a2)
          obtain ⟨k, hk, ek⟩ := t.z (by omega)
          have : k = k0 ∨ k = k1 ∨ k = k2 := by omega
          rcases this with z | z | z
          · exact ⟨0, by decide, by rw [b0, ← z]; exact ek⟩
          · exact ⟨1, by decide, by rw [b1, ← z]; exact ek⟩
          · exact ⟨2, by decide, by rw [b2, ← z]; exact ek⟩
  · have er : (carS m m2 s).2.2 = match ixR (keptW m m2) s.2.2.1 with
      | some j => ((j : Int), s.2.2.2)
      | none => (-1, 0) := rfl
    cases hx : ixR (keptW m m2) s.2.2.1 with
    | none =>
      rw [hx] at er
      exact .inl er
    | some j =>
      rw [hx] at er
      unfold ixR at hx
      obtain ⟨hj, q1, _⟩ := List.findIdx?_eq_some_iff_getElem.mp hx
      have hj2 : j < m2.length := by omega
      obtain ⟨o, ho, _, bo⟩ := car_at m m2 s hj2
      rw [List.getElem?_eq_getElem hj] at ho
      obtain rfl := Option.some.inj ho
      cases ek : (keptW m m2)[j] with
      | none =>
        rw [ek] at q1
        cases q1
      | some k =>
        rw [ek] at q1 bo
        have q1 : (k : Int) = s.2.2.1 := of_decide_eq_true q1
        rcases t.r with z | ⟨k', h1, h2, h3, h4, h5⟩
        · have : s.2.2.1 = -1 := by rw [z]
          omega
        · have : k' = k := by omega
          subst this
          refine .inr ⟨j, ?_, by rw [er], by rw [er]; exact h3, by rw [er]; exact h4, by rw [bo]; exact h5⟩
          show j < ((keptW m m2).map _).length
          rw [List.length_map]
          exact hj
theorem tiny_turn {ch : List (List Wr)} (g : ∀ m ∈ ch, GoodM m) {s : Std} (f : Fits (atC ch 0) s) (t : Tiny s) : ∀ i, i < ch.length → Tiny (turnN ch i s)
  | 0, _ => t
  | i + 1, h => tiny_car (turn_fits f i) (tiny_turn g f t i (by omega)) (g _ (atC_mem (by omega))).len (g _ (atC_mem h))
theorem tiny_on {r : Row3} (g : GoodR r) {j : Nat} (h : j < r.1.length) {s : Std} (f : Fits (lastW r j) s) (t : Tiny s) {b : Bool} {x : Str × Std} (hx : x ∈ onM r j s b) : Tiny x.2 := by
  unfold onM at hx
  obtain ⟨y, hy, rfl⟩ := List.mem_map.mp hx
  have hy := (List.mem_filter.mp hy).1
  have gl := g.last (show j ≤ r.1.length by omega)
  obtain ⟨_, gne, gch, _⟩ := g.ch (show j + 1 ≤ r.1.length by omega)
  have ty := tiny_steps gl.2.1 f t hy
  have fy : Fits (atC (chAt r (j + 1)) 0) y.2.2 := by
    obtain ⟨k, to, hk, _, e, _⟩ := steps_in hy
    have e2 : y.2.2 = behind (lastW r j) s k to := congrArg (fun z => z.2.2) e
    rw [g.link (show j + 1 ≤ r.1.length by omega), e2]
    exact behind_fits f hk to
  exact tiny_turn gch fy ty ((chAt r (j + 1)).length - 1) (by have := List.length_pos_iff.mpr gne; omega)
end Ink
namespace Ink
open PySem PySem.Spec PyProof.Rows L2 Evl
/-! ### chains: at q a list of lists, each of which grows at its end -/
abbrev Chs (β : Type) := List (Addr × List (Addr × β))
structure Surv {β : Type} (I : Hp → Addr → β → Prop) : Prop where
  ex : ∀ {H c b}, I H c b → ∃ o, H c = some o
  same : ∀ {H H' c b}, Ex H H' → I H c b → I H' c b
  upd : ∀ {H a xs o c b}, H a = some (.lst xs) → c ≠ a → I H c b → I (upd H a (.lst o)) c b
structure ChsAt {β : Type} (I : Hp → Addr → β → Prop) (H : Hp) (q : Addr) (ps : Chs β) : Prop where
  hq : H q = some (.lst (ps.map fun x => .ref x.1))
  at_ : ∀ x ∈ ps, H x.1 = some (.lst (x.2.map fun y => .ref y.1))
  inn : ∀ x ∈ ps, ∀ y ∈ x.2, I H y.1 y.2
  nd : (ps.map (·.1)).Nodup
  nq : ∀ x ∈ ps, x.1 ≠ q
  off : ∀ x ∈ ps, ∀ y ∈ x.2, y.1 ≠ q ∧ ∀ z ∈ ps, z.1 ≠ y.1
def crW {β : Type} (ps : Chs β) : List (List β) := ps.map fun x => x.2.map (·.2)
section
variable {β : Type} {I : Hp → Addr → β → Prop} {H H0 : Hp} {q p : Addr} {ps : Chs β}
theorem ChsAt.same (S : Surv I) (e : Ex H0 H) (c : ChsAt I H0 q ps) : ChsAt I H q ps := ⟨e _ _ c.hq, fun x hx => e _ _ (c.at_ x hx), fun x hx y hy => S.same e (c.inn x hx y hy), c.nd, c.nq, c.off⟩
theorem ChsAt.one (y : Addr × β) (hy : I H y.1 y.2) (hp : H p = some (.lst [.ref y.1])) (hq : H q = some (.lst [.ref p])) (n1 : p ≠ q) (n2 : y.1 ≠ q) (n3 : p ≠ y.1) : ChsAt I H q [(p, [y])] :=
  ⟨hq, fun x hx => by rw [List.mem_singleton.mp hx]; exact hp, fun x hx z hz => by
    rw [List.mem_singleton.mp hx] at hz
    rw [List.mem_singleton.mp hz]
    exact hy, by simp, fun x hx => by rw [List.mem_singleton.mp hx]; exact n1, fun x hx z hz => by
    rw [List.mem_singleton.mp hx] at hz
    rw [List.mem_singleton.mp hz]
    exact ⟨n2, fun u hu => by rw [List.mem_singleton.mp hu]; exact n3⟩⟩
theorem ChsAt.push (S : Surv I) (c : ChsAt I H0 q ps) (e : Ex H0 H) (np : H0 p = none) {x : Addr × List (Addr × β)} {y : Addr × β} (hx : x ∈ ps) (hy : y ∈ x.2) (hp : H p = some (.lst [.ref y.1])) :
    ChsAt I (upd H q (.lst ((ps.map fun x => V.ref x.1) ++ [.ref p]))) q (ps ++ [(p, [y])]) := by
  have c1 := c.same S e
  have ne : ∀ {a : Addr} {o : HO}, H0 a = some o → a ≠ p := fun h => ne_of_none h np
  have npq : p ≠ q := (ne c.hq).symm
  have nyp : ∀ x ∈ ps, ∀ y ∈ x.2, y.1 ≠ p := fun x hx y hy => by
    obtain ⟨o, ho⟩ := S.ex (c.inn x hx y hy)
    exact ne ho
  refine ⟨by rw [upd_same, List.map_append]; rfl, fun z hz => ?_, fun z hz u hu => ?_, ?_, fun z hz => ?_, fun z hz u hu => ?_⟩
  · rcases List.mem_append.mp hz with hz | hz
    · rw [upd_ne (c.nq z hz)]
      exact c1.at_ z hz
    · rw [List.mem_singleton.mp hz, upd_ne npq]
      exact hp
  · rcases List.mem_append.mp hz with hz | hz
    · exact S.upd c1.hq (c.off z hz u hu).1 (c1.inn z hz u hu)
    · rw [List.mem_singleton.mp hz] at hu
      rw [List.mem_singleton.mp hu]
      exact S.upd c1.hq (c.off x hx y hy).1 (c1.inn x hx y hy)
  · rw [List.map_append, List.nodup_append]
    refine ⟨c.nd, by simp, fun a ha b hb => ?_⟩
    obtain ⟨z, hz, rfl⟩ := List.mem_map.mp ha
    rw [List.map_singleton, List.mem_singleton] at hb
    rw [hb]
    exact ne (c.at_ z hz)
  · rcases List.mem_append.mp hz with hz | hz
    · exact c.nq z hz
    · rw [List.mem_singleton.mp hz]
      exact npq
  · have key : ∀ x ∈ ps, ∀ y ∈ x.2, y.1 ≠ q ∧ ∀ z ∈ ps ++ [(p, [y])], z.1 ≠ y.1 := fun x hx y hy => ⟨(c.off x hx y hy).1, fun z hz => by
      rcases List.mem_append.mp hz with hz | hz
      · exact (c.off x hx y hy).2 z hz
      · rw [List.mem_singleton.mp hz]
        exact (nyp x hx y hy).symm⟩
    have key2 : ∀ x ∈ ps, ∀ u ∈ x.2, u.1 ≠ q ∧ ∀ z ∈ ps ++ [(p, [y])], z.1 ≠ u.1 := fun x hx u hu => ⟨(c.off x hx u hu).1, fun z hz => by
      rcases List.mem_append.mp hz with hz | hz
      · exact (c.off x hx u hu).2 z hz
      · rw [List.mem_singleton.mp hz]
        exact (nyp x hx u hu).symm⟩
    rcases List.mem_append.mp hz with hz | hz
    · exact key2 z hz u hu
    · rw [List.mem_singleton.mp hz] at hu
      rw [List.mem_singleton.mp hu]
      exact key2 x hx y hy
theorem ChsAt.more (S : Surv I) {x : Addr × List (Addr × β)} {y : Addr × β} (c : ChsAt I H0 q (ps ++ [x])) (e : Ex H0 H) (ny : H0 y.1 = none) (hy : I H y.1 y.2) :
    ChsAt I (upd H x.1 (.lst ((x.2.map fun y => V.ref y.1) ++ [.ref y.1]))) q (ps ++ [(x.1, x.2 ++ [y])]) := by
  have c1 := c.same S e
  have hxm : x ∈ ps ++ [x] := by simp
  have ne : ∀ {a : Addr} {o : HO}, H0 a = some o → a ≠ y.1 := fun h => ne_of_none h ny
  have nd := c.nd
  rw [List.map_append, List.nodup_append] at nd
  have nx : ∀ z ∈ ps, z.1 ≠ x.1 := fun z hz => nd.2.2 _ (List.mem_map_of_mem hz) _ (by simp)
  have hx1 := c1.at_ x hxm
  refine ⟨?_, fun z hz => ?_, fun z hz u hu => ?_, ?_, fun z hz => ?_, fun z hz u hu => ?_⟩
  · rw [upd_ne (c.nq x hxm).symm, c1.hq, List.map_append, List.map_append]
    rfl
  · rcases List.mem_append.mp hz with hz | hz
    · rw [upd_ne (nx z hz)]
      exact c1.at_ z (List.mem_append_left _ hz)
    · rw [List.mem_singleton.mp hz]
      show upd H x.1 _ x.1 = _
      rw [upd_same, List.map_append]
      rfl
  · have old : ∀ z ∈ ps ++ [x], ∀ u ∈ z.2, I (upd H x.1 (.lst ((x.2.map fun y => V.ref y.1) ++ [.ref y.1]))) u.1 u.2 := fun z hz u hu => S.upd hx1 ((c.off z hz u hu).2 x hxm).symm (c1.inn z hz u hu)
    rcases List.mem_append.mp hz with hz | hz
    · exact old z (List.mem_append_left _ hz) u hu
    · rw [List.mem_singleton.mp hz] at hu
      rcases List.mem_append.mp hu with hu | hu
      · exact old x hxm u hu
      · rw [List.mem_singleton.mp hu]
        exact S.upd hx1 (ne (c.at_ x hxm)).symm hy
  · have := c.nd
    rw [List.map_append] at this ⊢
    exact this
  · rcases List.mem_append.mp hz with hz | hz
    · exact c.nq z (List.mem_append_left _ hz)
    · rw [List.mem_singleton.mp hz]
      exact c.nq x hxm
  · have hall : ∀ {u : Addr}, (∀ z ∈ ps ++ [x], z.1 ≠ u) → ∀ z ∈ ps ++ [(x.1, x.2 ++ [y])], z.1 ≠ u := fun h z hz => by
      rcases List.mem_append.mp hz with hz | hz
      · exact h z (List.mem_append_left _ hz)
      · rw [List.mem_singleton.mp hz]
        exact h x hxm
    have old : ∀ z ∈ ps ++ [x], ∀ u ∈ z.2, u.1 ≠ q ∧ ∀ v ∈ ps ++ [(x.1, x.2 ++ [y])], v.1 ≠ u.1 := fun z hz u hu => ⟨(c.off z hz u hu).1, hall (c.off z hz u hu).2⟩
    rcases List.mem_append.mp hz with hz | hz
    · exact old z (List.mem_append_left _ hz) u hu
    · rw [List.mem_singleton.mp hz] at hu
      rcases List.mem_append.mp hu with hu | hu
      · exact old x hxm u hu
      · rw [List.mem_singleton.mp hu]
        exact ⟨(ne c.hq).symm, hall fun z hz => ne (c.at_ z hz)⟩
theorem chs_last {ps : Chs β} (h : crW ps ≠ []) (h2 : ∀ ch ∈ crW ps, ch ≠ []) : ∃ pre a p2 y, ps = pre ++ [(a, p2 ++ [y])] := by
  have hp : ps ≠ [] := fun z => h (by rw [z]; rfl)
  obtain ⟨pre, x, rfl⟩ : ∃ pre x, ps = pre ++ [x] := ⟨ps.dropLast, ps.getLast hp, (List.dropLast_concat_getLast hp).symm⟩
  have hx : x.2 ≠ [] := fun z => h2 (x.2.map (·.2)) (List.mem_map.mpr ⟨x, by simp, rfl⟩) (by rw [z]; rfl)
  exact ⟨pre, x.1, x.2.dropLast, x.2.getLast hx, by rw [List.dropLast_concat_getLast hx]⟩
end
theorem crW_sg {pre : Chs (List Wr)} {a p : Addr} {p2 : List (Addr × List Wr)} {y : Addr × List Wr} (z : Str) : crW (pre ++ [(a, p2 ++ [y])] ++ [(p, [y])]) = stepC (crW (pre ++ [(a, p2 ++ [y])])) (.sg z) := by
  have e : crW (pre ++ [(a, p2 ++ [y])]) = crW pre ++ [p2.map (·.2) ++ [y.2]] := by
    unfold crW
    rw [List.map_append, List.map_singleton, List.map_append, List.map_singleton]
  show crW ((pre ++ [(a, p2 ++ [y])]) ++ [(p, [y])]) = _
  have e2 : crW ((pre ++ [(a, p2 ++ [y])]) ++ [(p, [y])]) = crW (pre ++ [(a, p2 ++ [y])]) ++ [[y.2]] := by
    unfold crW
    rw [List.map_append, List.map_singleton]
    rfl
  rw [e2, e]
  unfold stepC lastC
  rw [lastD_app, lastD_app]
theorem crW_cr {pre : Chs (List Wr)} {x : Addr × List (Addr × List Wr)} {y : Addr × List Wr} : crW (pre ++ [(x.1, x.2 ++ [y])]) = stepC (crW (pre ++ [x])) (.cr y.2) := by
  have e : ∀ x : Addr × List (Addr × List Wr), crW (pre ++ [x]) = crW pre ++ [x.2.map (·.2)] := fun x => by
    unfold crW
    rw [List.map_append, List.map_singleton]
  rw [e, e, List.map_append, List.map_singleton]
  unfold stepC
  rw [lastD_app, List.dropLast_concat]
/-- a list of writers at its place -/
def WsAt (K : PySem.W.Frag) (H : Hp) (b : Addr) (m : List Wr) : Prop := ∃ ws, H b = some (.lst ws) ∧ DpAll K H ws (m.map dW)
theorem ws_surv {K : PySem.W.Frag} : Surv (WsAt K) := ⟨fun ⟨ws, h, _⟩ => ⟨_, h⟩, fun e ⟨ws, h, d⟩ => ⟨ws, e _ _ h, dps_same e d⟩, fun ha n ⟨ws, h, d⟩ => ⟨ws, by rw [upd_ne n]; exact h, dps_tk (.lst ha) (fz_dWs _) d⟩⟩
theorem dpAll_map {α : Type} {K : PySem.W.Frag} {H : Hp} {f : α → V} {g : α → PyData} : ∀ {xs : List α}, (∀ x ∈ xs, Dp K H (f x) (g x)) → DpAll K H (xs.map f) (xs.map g)
  | [], _ => .nil
  | x :: xs, h => .cons (h x (List.mem_cons_self ..)) (dpAll_map fun y hy => h y (List.mem_cons_of_mem _ hy))
theorem ChsAt.dp {K : PySem.W.Frag} {H : Hp} {q : Addr} {ps : Chs (List Wr)} (c : ChsAt (WsAt K) H q ps) : Dp K H (.ref q) (.list ((crW ps).map dCh)) := by
  refine .lst (.of c.hq) ?_
  unfold crW
  rw [List.map_map]
  refine dpAll_map fun x hx => ?_
  show Dp K H (.ref x.1) (.list ((x.2.map (·.2)).map dMl))
  refine .lst (.of (c.at_ x hx)) ?_
  rw [List.map_map]
  refine dpAll_map fun y hy => ?_
  obtain ⟨ws, h, d⟩ := c.inn x hx y hy
  exact .lst (.of h) d
theorem dps_strs {K : PySem.W.Frag} {H : Hp} : ∀ (zs : List Str), DpAll K H (zs.map V.str) (zs.map .str)
  | [] => .nil
  | z :: zs => .cons (.str z) (dps_strs zs)
def RParts : List PyData → PyData → Prop := fun ds d => ∃ (m : List Wr) (tr : List Stp), GoodM m ∧ (∀ x ∈ tr, GoodStp x) ∧ tr.length ≤ 900 ∧ ds = [dMl m, .list (tr.map dSL)] ∧ d = .tuple [.list ((sigsOf tr).map .str), .list ((crewsOf m tr).map dCh)]
section
variable {K : PySem.W.Frag} {σ : L2.St} {H : Hp} {ta tb te to : TE}
/-- a list that an expression names grows -/
theorem sd_appX {D : Ends} {p : Addr} {xs : List V} (ho : Ev to σ H (.ref p)) (hp : H p = some (.lst xs)) (hz : xs.length < 100000) (h : ∀ H1, Ex H H1 → ∀ Q : VK, (∀ v H2, H2 p = some (.lst xs) → D.nx σ (upd H2 p (.lst (xs ++ [v]))) → Q v H2) → te σ H1 Q) : tDrop (tBM K "list" rAppend to (tCons te tNil)) D σ H :=
  ho H (.refl H) _ fun H1 e1 => ⟨.inl ⟨rfl, xs, .of (e1 _ _ hp)⟩, h H1 e1 _ fun v H2 h2 q => ⟨p, xs, v, rfl, rfl, h2, sz_lt hz, q⟩⟩
/-- the last of a list of references -/
theorem ev_ixLastV {p : Addr} {xs : List V} {v : V} (ha : Ev ta σ H (.ref p)) (hb : Ev tb σ H (.int (-1))) (hp : H p = some (.lst (xs ++ [v]))) : Ev (tOp (rIxL K) ta tb) σ H v := ev_op ha hb (rv_ixL (.of hp) (atI_last xs v))
end
theorem isi_sl {K : PySem.W.Frag} {σ : L2.St} {H : Hp} {te : TE} {x : Stp} {d : PyData} (h : EvD K te σ H d) (hd : d = dSL x ∨ d = dST x) : Ev (tCB (rIsi K) (tCons te (tCons (tC (.ty "str")) tNil))) σ H (.bl (sgOf x).isSome) := fun H1 e Q q => h H1 e _ fun v H2 e2 hv => by
  cases x with
  | sg z =>
    have : d = .str z := hd.elim id id
    subst this
    obtain rfl := dp_str hv
    exact ⟨.str z, .ty "str", .type "str", .type "str", true, rfl, .ty _, tyx_f rfl, kt (by decide +kernel), q H2 e2⟩
  | cr m =>
    rcases hd with rfl | rfl
    · obtain ⟨p, xs, rfl, hs, hxs⟩ := dp_lst hv
      exact ⟨.ref p, .ty "str", .type "list", .type "str", false, rfl, .ty _, tyx_l hs, kt (by decide +kernel), q H2 e2⟩
    · obtain ⟨p, xs, rfl, hs, hxs⟩ := dp_tup hv
      exact ⟨.ref p, .ty "str", .type "tuple", .type "str", false, rfl, .ty _, tyx_t hs, kt (by decide +kernel), q H2 e2⟩
theorem ChsAt.updOff {β : Type} {I : Hp → Addr → β → Prop} {H : Hp} {q a : Addr} {ps : Chs β} {xs o : List V} (S : Surv I) (c : ChsAt I H q ps) (ha : H a = some (.lst xs)) (n : a ≠ q) (n1 : ∀ x ∈ ps, x.1 ≠ a) (n2 : ∀ x ∈ ps, ∀ y ∈ x.2, y.1 ≠ a) : ChsAt I (upd H a (.lst o)) q ps :=
  ⟨by rw [upd_ne n.symm]; exact c.hq, fun x hx => by rw [upd_ne (n1 x hx)]; exact c.at_ x hx, fun x hx y hy => S.upd ha (n2 x hx y hy) (c.inn x hx y hy), c.nd, c.nq, c.off⟩
theorem crews_bound : ∀ (tr : List Stp) {cs : Crews} {n : Nat}, (∀ ch ∈ cs, ch.length ≤ n) → 1 ≤ n → ∀ ch ∈ tr.foldl stepC cs, ch.length ≤ n + tr.length
  | [], _, _, h, _ => h
  | x :: tr, cs, n, h, h1 => by
    rw [List.foldl_cons, List.length_cons]
    intro ch hch
    have key : ∀ ch ∈ stepC cs x, ch.length ≤ n + 1 := fun ch hch => by
      have hl : (cs.getLastD []).length ≤ n := by
        cases cs with
        | nil => exact Nat.zero_le _
        | cons a l =>
          rw [List.getLastD_cons]
          have : l.getLastD a ∈ a :: l := by
            cases l with
            | nil => simp
            | cons b l =>
              rw [List.getLastD_eq_getLast?, List.getLast?_eq_some_getLast (by simp)]
              exact List.mem_cons_of_mem _ (List.getLast_mem _)
          exact h _ this
      cases x with
      | sg z =>
        rcases List.mem_append.mp hch with hch | hch
        · exact Nat.le_succ_of_le (h ch hch)
        · rw [List.mem_singleton.mp hch, List.length_singleton]
          omega
      | cr m =>
        rcases List.mem_append.mp hch with hch | hch
        · exact Nat.le_succ_of_le (h ch ((List.dropLast_sublist cs).subset hch))
        · rw [List.mem_singleton.mp hch, List.length_append, List.length_singleton]
          omega
    have := crews_bound tr (cs := stepC cs x) (n := n + 1) key (by omega) ch hch
    omega
theorem crews_le (m : List Wr) (tr : List Stp) : ∀ ch ∈ crewsOf m tr, ch.length ≤ 1 + tr.length := crews_bound tr (fun ch h => by rw [List.mem_singleton.mp h]; exact Nat.le_refl _) (Nat.le_refl _)
theorem crews_snoc {m : List Wr} {tr : List Stp} {i : Nat} {x : Stp} (h : tr[i]? = some x) : crewsOf m (tr.take (i + 1)) = stepC (crewsOf m (tr.take i)) x := by
  unfold crewsOf
  rw [take_snoc h, List.foldl_append]
  rfl
theorem sigs_snoc {tr : List Stp} {i : Nat} {x : Stp} (h : tr[i]? = some x) : sigsOf (tr.take (i + 1)) = sigsOf (tr.take i) ++ sigsOf [x] := by
  unfold sigsOf
  rw [take_snoc h, List.filterMap_append]
theorem good_take {tr : List Stp} (h : ∀ x ∈ tr, GoodStp x) (i : Nat) : ∀ x ∈ tr.take i, GoodStp x := fun x hx => h x (List.mem_of_mem_take hx)
theorem sigs_le (tr : List Stp) : (sigsOf tr).length ≤ tr.length := List.length_filterMap_le _ _
section
variable {P : Program} {w : World} {K : PySem.W.Frag} {mg : Str → Option Value} {base : Heap}
end
end Ink
namespace Ink
open PySem PySem.Spec PyProof.Rows L2 Evl
/-! ### what the law draws of a scroll -/
structure GoodT (many : Int) (t : List Sd) : Prop where
  len : t.length ≤ 20
  each : ∀ x ∈ t, 0 ≤ x.1 ∧ x.1 < many ∧ NameZ x.2.1
def spSaid (K : PySem.W.Frag) : Sp := fun vs H Q _ => ∃ (a l np : Addr) (many lim : Int) (zs : List Str), vs = [.ref a, .int many, .ref np, .int lim] ∧ BagAt H a l ∧ 0 ≤ many ∧ many ≤ 1000 ∧ 0 ≤ lim ∧ lim ≤ 10 ∧ H np = some (.lst (zs.map V.str)) ∧ np ≠ a ∧ zs.length ≤ 20 ∧ (∀ z ∈ zs, NameZ z) ∧
  ∀ u (t : List Sd) H', GoodT many t → Dp K H' u (.list (t.map dSd)) → BagAt H' a l → Keep a H H' → Q u H'
def spStepsDr (K : PySem.W.Frag) : Sp := fun vs H Q _ => ∃ (a l p sp : Addr) (m : List Wr) (cs : List Nat) (lim : Int), vs = [.ref a, .ref p, .ref sp, .int lim] ∧ BagAt H a l ∧ MAt K H a p m ∧ GoodM m ∧ H sp = some (.lst ((cs.map single).map V.str)) ∧ sp ≠ a ∧ 1 ≤ cs.length ∧ cs.length ≤ 20 ∧ (∀ c ∈ cs, c ∈ lets) ∧ 0 ≤ lim ∧ lim ≤ 20 ∧
  ∀ u (tr : List Stp) H', tr.length ≤ 20 → (∀ x ∈ tr, GoodStp x) → Dp K H' u (.list (tr.map dSL)) → BagAt H' a l → Keep a H H' → Q u H'
theorem nobody_ok {r : Int} (h0 : 0 ≤ r) (h1 : r < 6) : NameZ (cutS "nobody" none (some (1 + r))) := by
  have h : r = 0 ∨ r = 1 ∨ r = 2 ∨ r = 3 ∨ r = 4 ∨ r = 5 := by omega
  unfold NameZ
  rcases h with rfl | rfl | rfl | rfl | rfl | rfl <;> decide +kernel
theorem nm_of {zs : List Str} {z : Str} {v : V} (hz : ∀ z ∈ zs, NameZ z) (h : NameZ z) (hv : v ∈ zs.map V.str ++ [.str z]) : ∃ y, v = .str y ∧ NameZ y := by
  rcases List.mem_append.mp hv with hv | hv
  · obtain ⟨y, hy, rfl⟩ := List.mem_map.mp hv
    exact ⟨y, rfl, hz y hy⟩
  · rw [List.mem_singleton.mp hv]
    exact ⟨z, rfl, h⟩
theorem WsAt.keep {K : PySem.W.Frag} {H H' : Hp} {a l b : Addr} {m : List Wr} (B : BagAt H a l) (k : Keep a H H') (h : WsAt K H b m) : WsAt K H' b m := by
  obtain ⟨ws, h1, h2⟩ := h
  exact ⟨ws, k _ _ (lst_ne B h1 h2 (nb_dMl m)) h1, dps_keep B k (fz_dWs m) h2⟩
/-- a step at its place; what is a list is apart from p -/
def StAt (K : PySem.W.Frag) (H : Hp) (p : Addr) (v : V) : Stp → Prop
  | .sg z => v = .str z
  | .cr m => ∃ b, v = .ref b ∧ WsAt K H b m ∧ b ≠ p
theorem StAt.keep {K : PySem.W.Frag} {H H' : Hp} {a l p : Addr} {v : V} {x : Stp} (B : BagAt H a l) (k : Keep a H H') (h : StAt K H p v x) : StAt K H' p v x := by
  cases x with
  | sg z => exact h
  | cr m =>
    obtain ⟨b, e, h1, h2⟩ := h
    exact ⟨b, e, h1.keep B k, h2⟩
theorem StAt.same {K : PySem.W.Frag} {H H' : Hp} {p : Addr} {v : V} {x : Stp} (k : Ex H H') (h : StAt K H p v x) : StAt K H' p v x := by
  cases x with
  | sg z => exact h
  | cr m =>
    obtain ⟨b, e, h1, h2⟩ := h
    exact ⟨b, e, ws_surv.same k h1, h2⟩
theorem StAt.upd {K : PySem.W.Frag} {H : Hp} {p : Addr} {v : V} {x : Stp} {xs o : List V} (hp : H p = some (.lst xs)) (h : StAt K H p v x) : StAt K (upd H p (.lst o)) p v x := by
  cases x with
  | sg z => exact h
  | cr m =>
    obtain ⟨b, e, h1, h2⟩ := h
    exact ⟨b, e, ws_surv.upd hp h2 h1, h2⟩
theorem StAt.dp {K : PySem.W.Frag} {H : Hp} {p : Addr} {v : V} {x : Stp} (h : StAt K H p v x) : Dp K H v (dSL x) := by
  cases x with
  | sg z =>
    rw [show v = .str z from h]
    exact .str z
  | cr m =>
    obtain ⟨b, rfl, ⟨ws, h1, h2⟩, _⟩ := h
    exact .lst (.of h1) h2
section
variable {K : PySem.W.Frag} {σ : L2.St} {H : Hp} {ta tm tx : TE} {a l : Addr}
theorem q_pull {m : Int} {Q : VK} (ha : Ev ta σ H (.ref a)) (hm : Ev tm σ H (.int m)) (hB : BagAt H a l) (h0 : 0 < m) (h1 : m < 1073741824) (k : ∀ r H', 0 ≤ r → r < m → BagAt H' a l → Keep a H H' → Q (.int r) H') : tCall spPull [] E0 (tCons ta (tCons tm tNil)) σ H Q :=
  ha H (.refl H) _ fun H1 e1 => hm H1 e1 _ fun H2 e2 => ⟨a, l, m, rfl, hB.same (e1.trans e2), h0, h1, fun r H' r0 r1 hB' k' => k r H' r0 r1 hB' ((Keep.of_same (e1.trans e2)).trans k')⟩
/-- one of a list that stands apart from the bag -/
theorem q_of {p : Addr} {xs : List V} {Q : VK} (ha : Ev ta σ H (.ref a)) (hx : Ev tx σ H (.ref p)) (hp : H p = some (.lst xs)) (n : p ≠ a) (hB : BagAt H a l) (h0 : 0 < xs.length) (h1 : xs.length ≤ 1000) (k : ∀ v H', v ∈ xs → BagAt H' a l → Keep a H H' → Q v H') : tCall (spOf K) [] E0 (tCons ta (tCons tx tNil)) σ H Q :=
  ha H (.refl H) _ fun H1 e1 => hx H1 e1 _ fun H2 e2 => ⟨a, l, .ref p, xs, rfl, hB.same (e1.trans e2), .inl ⟨p, rfl, n, .inl (.of ((e1.trans e2) _ _ hp))⟩, h0, h1, fun v H' hv hB' k' => k v H' hv hB' ((Keep.of_same (e1.trans e2)).trans k')⟩
end
section
variable {P : Program} {w : World} {K : PySem.W.Frag} {mg : Str → Option Value} {base : Heap}
end
end Ink
namespace Ink
open PySem PySem.Spec PyProof.Rows L2 Evl
theorem q_par3 {t1 t2 t3 : TE} {tz : TS} {i j l : Nat} {D : Ends} {σ : L2.St} {H : Hp} (h : t1 σ H fun u H1 => t2 σ H1 fun v H2 => t3 σ H2 fun w H3 => ∃ a b c, [u, v, w] = [a, b, c] ∧ tz D (((σ.set i (some a)).set j (some b)).set l (some c)) H3) : tSeq (tPar3 i j l (tCons t1 (tCons t2 (tCons t3 tNil)))) tz D σ H := h
theorem q_parS {t1 t2 : TE} {tz : TS} {i j : Nat} {D : Ends} {σ : L2.St} {H : Hp} (h : t1 σ H fun u H1 => t2 σ H1 fun v H2 => ∃ a b, [u, v] = [a, b] ∧ tz D ((σ.set i (some a)).set j (some b)) H2) : tSeq (tPar i j (tCons t1 (tCons t2 tNil))) tz D σ H := h
section
variable {K : PySem.W.Frag} {σ : L2.St} {H : Hp} {ta tm : TE} {a l : Addr} {D : Ends} {tu tw : TS}
theorem s_ifPull {m : Int} {j : Nat} {full : Bool} (ha : Ev ta σ H (.ref a)) (hm : Ev tm σ H (.int m)) (hB : BagAt H a l) (h0 : 0 < m) (h1 : m < 1073741824) (hj : σ[j]? = some (some (.bl full))) (k1 : ∀ H', BagAt H' a l → Keep a H H' → tu D σ H') (k2 : ∀ H', BagAt H' a l → Keep a H H' → tw D σ H') :
    tIfS (tAnd (tTest (tOp rEq (tCall spPull [] E0 (tCons ta (tCons tm tNil))) (tC (.int 0)))) (tNot (tB (tVar j)))) tu tw D σ H :=
  q_pull ha hm hB h0 h1 fun r H' r0 r1 hB' k' => ⟨rfl, _, rfl, ite2 (fun _ => ⟨.bl full, hj, full, rfl, ite2 (fun _ => k1 H' hB' k') fun _ => k2 H' hB' k'⟩) fun _ => k2 H' hB' k'⟩
theorem s_ifPull2 {m : Int} {t : TT} {b : Bool} {g : Int → Int → V} (h : EvT t σ H b) (ha : Ev ta σ H (.ref a)) (hm : Ev tm σ H (.int m)) (hB : BagAt H a l) (h0 : 0 < m) (h1 : m < 1073741824) (hg : ∀ i j, ∃ c, g i j = .bl c) (k1 : b = true → ∀ H', BagAt H' a l → Keep a H H' → tu D σ H') (k2 : ∀ H', BagAt H' a l → Keep a H H' → tw D σ H') :
    tIfS (tAnd t (tTest (tOp (rI0 g) (tCall spPull [] E0 (tCons ta (tCons tm tNil))) (tC (.int 0))))) tu tw D σ H :=
  s_ifAnd h (fun hb H1 e1 => q_pull (fun H2 e2 => ha H2 (e1.trans e2)) (fun H2 e2 => hm H2 (e1.trans e2)) (hB.same e1) h0 h1 fun r H' r0 r1 hB' k' => ⟨r, 0, rfl, rfl, by
    obtain ⟨c, hc⟩ := hg r 0
    exact ⟨c, hc, ite2 (fun _ => k1 hb H' hB' ((Keep.of_same e1).trans k')) fun _ => k2 H' hB' ((Keep.of_same e1).trans k')⟩⟩) fun _ H1 e1 => k2 H1 (hB.same e1) (Keep.of_same e1)
end
section
variable {P : Program} {w : World} {K : PySem.W.Frag} {mg : Str → Option Value} {base : Heap}
end
end Ink
namespace Ink
open PySem PySem.Spec PyProof.Rows L2 Evl
def dDr (m : List Wr) (tr : List Stp) (t : List Sd) : PyData := .tuple [dMl m, .list (tr.map dSL), .list (t.map dSd), dRow (sigsOf tr, crewsOf m tr, t)]
structure GoodDr (m : List Wr) (tr : List Stp) (t : List Sd) : Prop where
  g : GoodM m
  one : 1 ≤ m.length
  st : ∀ x ∈ tr, GoodStp x
  len : tr.length ≤ 20
  t : GoodT ((sigsOf tr).length : Nat) t
theorem GoodDr.row {m : List Wr} {tr : List Stp} {t : List Sd} (d : GoodDr m tr t) : GoodR (sigsOf tr, crewsOf m tr, t) := ⟨GoodC.fold d.st (.one d.g), crews_len m tr, by
  have := sigs_le tr
  have := d.len
  show (sigsOf tr).length ≤ 900
  omega, fun ch h => by
  have := crews_le m tr ch h
  have := d.len
  omega, by
  have := d.t.len
  show t.length ≤ 900
  omega⟩
theorem nb_dDr (m : List Wr) (tr : List Stp) (t : List Sd) : nb (dDr m tr t) = true := by
  have h1 := nb_dMl m
  have h2 := nb_track tr
  have h3 := nb_sds t
  have h4 := nb_dRow (sigsOf tr, crewsOf m tr, t)
  unfold dDr
  unfold nb nbAll nbAll nbAll nbAll nbAll
  rw [h1, h2, h3, h4]
  rfl
theorem nb_parts (tr : List Stp) (m : List Wr) : nb (.tuple [.list ((sigsOf tr).map .str), .list ((crewsOf m tr).map dCh)]) = true := by
  unfold nb nbAll nbAll nbAll
  rw [nb_strs, nb_crews]
  rfl
def spDrawn (K : PySem.W.Frag) : Sp := fun vs H Q _ => ∃ (a l : Addr) (gm sm dm : Int), vs = [.ref a, .int gm, .int sm, .int dm] ∧ BagAt H a l ∧ 1 ≤ gm ∧ gm ≤ 20 ∧ 0 ≤ sm ∧ sm ≤ 20 ∧ 0 ≤ dm ∧ dm ≤ 10 ∧ ∀ u m tr t H', GoodDr m tr t → Dp K H' u (dDr m tr t) → BagAt H' a l → Keep a H H' → Q u H'
def spDrawn2 (K : PySem.W.Frag) : Sp := fun vs H Q _ => ∃ (a l : Addr) (sm dm : Int), vs = [.ref a, .int sm, .int dm] ∧ BagAt H a l ∧ 0 ≤ sm ∧ sm ≤ 20 ∧ 0 ≤ dm ∧ dm ≤ 10 ∧ ∀ u m tr t H', GoodDr m tr t → Dp K H' u (dDr m tr t) → BagAt H' a l → Keep a H H' → Q u H'
section
variable {K : PySem.W.Frag} {σ : L2.St} {H : Hp} {ta tm tn tl : TE} {a l : Addr}
theorem q_said {many lim : Int} {zs : List Str} {Q : VK} (ha : Ev ta σ H (.ref a)) (hm : Ev tm σ H (.int many)) (hn : EvN K tn σ H (zs.map .str)) (hl : Ev tl σ H (.int lim)) (hB : BagAt H a l) (m0 : 0 ≤ many) (m1 : many ≤ 1000) (l0 : 0 ≤ lim) (l1 : lim ≤ 10) (zl : zs.length ≤ 20) (hz : ∀ z ∈ zs, NameZ z)
    (k : ∀ u t H', GoodT many t → Dp K H' u (.list (t.map dSd)) → BagAt H' a l → Keep a H H' → Q u H') : tCall (spSaid K) [] E0 (tCons ta (tCons tm (tCons tn (tCons tl tNil)))) σ H Q :=
  ha H (.refl H) _ fun H1 e1 => hm H1 e1 _ fun H2 e2 => hn H2 (e1.trans e2) _ fun np vs H3 nn e3 hp hvs => hl H3 ((e1.trans e2).trans e3) _ fun H4 e4 =>
    ⟨a, l, np, many, lim, zs, rfl, hB.same (((e1.trans e2).trans e3).trans e4), m0, m1, l0, l1, by rw [← dps_str hvs]; exact e4 _ _ hp, ((hB.same (e1.trans e2)).ne nn).1.symm, zl, hz, fun u t H' g d b k' => k u t H' g d b ((Keep.of_same (((e1.trans e2).trans e3).trans e4)).trans k')⟩
theorem q_saidV {many lim : Int} {zs : List Str} {np : Addr} {Q : VK} (ha : Ev ta σ H (.ref a)) (hm : Ev tm σ H (.int many)) (hn : Ev tn σ H (.ref np)) (hnp : H np = some (.lst (zs.map V.str))) (npa : np ≠ a) (hl : Ev tl σ H (.int lim)) (hB : BagAt H a l) (m0 : 0 ≤ many) (m1 : many ≤ 1000) (l0 : 0 ≤ lim) (l1 : lim ≤ 10) (zl : zs.length ≤ 20) (hz : ∀ z ∈ zs, NameZ z)
    (k : ∀ u t H', GoodT many t → Dp K H' u (.list (t.map dSd)) → BagAt H' a l → Keep a H H' → Q u H') : tCall (spSaid K) [] E0 (tCons ta (tCons tm (tCons tn (tCons tl tNil)))) σ H Q :=
  ha H (.refl H) _ fun H1 e1 => hm H1 e1 _ fun H2 e2 => hn H2 (e1.trans e2) _ fun H3 e3 => hl H3 ((e1.trans e2).trans e3) _ fun H4 e4 =>
    have e := ((e1.trans e2).trans e3).trans e4
    ⟨a, l, np, many, lim, zs, rfl, hB.same e, m0, m1, l0, l1, e _ _ hnp, npa, zl, hz, fun u t H' g d b k' => k u t H' g d b ((Keep.of_same e).trans k')⟩
/-- the tuple that is handed back -/
theorem ed_drawn {m : List Wr} {tr : List Stp} {t : List Sd} {i1 i2 i3 i4 : Nat} {v1 v2 v3 v4 : V} (s1 : σ[i1]? = some (some v1)) (s2 : σ[i2]? = some (some v2)) (s3 : σ[i3]? = some (some v3)) (s4 : σ[i4]? = some (some v4)) (h1 : Dp K H v1 (dMl m)) (h2 : Dp K H v2 (.list (tr.map dSL))) (h3 : Dp K H v3 (.list (t.map dSd))) (h4 : Dp K H v4 (.tuple [.list ((sigsOf tr).map .str), .list ((crewsOf m tr).map dCh)])) :
    EvD K (tTup (tCons (tVar i1) (tCons (tVar i2) (tCons (tVar i3) (tCons (tTup (tCons (tOp (rIxT K) (tVar i4) (tC (.int 0))) (tCons (tOp (rIxT K) (tVar i4) (tC (.int 1))) (tCons (tVar i3) tNil)))) tNil))))) σ H (dDr m tr t) :=
  ed_tup (eds_cons (ed_var s1 h1) (eds_cons (ed_var s2 h2) (eds_cons (ed_var s3 h3) (eds_cons (ed_tup (eds_cons (ed_ixT (ed_var s4 h4) ev_c (by decide) rfl) (eds_cons (ed_ixT (ed_var s4 h4) ev_c (by decide) rfl) (eds_cons (ed_var s3 h3) eds_nil))) (by show 3 ≤ 100000; decide)) eds_nil)))) (by show 4 ≤ 100000; decide)
end
section
variable {P : Program} {w : World} {K : PySem.W.Frag} {mg : Str → Option Value} {base : Heap}
end
end Ink
namespace Ink
open PySem PySem.Spec PyProof.Rows L2 Evl
def spRow (K : PySem.W.Frag) : Sp := fun vs H Q _ => ∃ (a l np : Addr) (v : V) (r : Row3) (zs : List Str), vs = [.ref a, v, .ref np] ∧ BagAt H a l ∧ GoodR r ∧ Dp K H v (dRow r) ∧ H np = some (.lst (zs.map V.str)) ∧ np ≠ a ∧ 1 ≤ zs.length ∧ zs.length ≤ 20 ∧ (∀ z ∈ zs, NameZ z) ∧
  ∀ p (row : List Str) H', H p = none → row.length = r.1.length → (∀ z ∈ row, NameZ z) → H' p = some (.lst (row.map V.str)) → BagAt H' a l → Keep a H H' → Q (.ref p) H'
def spBentR : Sp := fun vs H Q _ => ∃ (a l p np : Addr) (row zs : List Str), vs = [.ref a, .ref p, .ref np] ∧ BagAt H a l ∧ H p = some (.lst (row.map V.str)) ∧ p ≠ a ∧ row.length ≤ 900 ∧ (∀ z ∈ row, NameZ z) ∧ H np = some (.lst (zs.map V.str)) ∧ np ≠ a ∧ 1 ≤ zs.length ∧ zs.length ≤ 20 ∧ (∀ z ∈ zs, NameZ z) ∧
  ∀ p2 (row2 : List Str) H', H p2 = none → row2.length ≤ row.length + 1 → (∀ z ∈ row2, NameZ z) → H' p2 = some (.lst (row2.map V.str)) → BagAt H' a l → Keep a H H' → Q (.ref p2) H'
theorem go_shaped {r : Row3} (g : GoodR r) {j : Nat} (h : j ≤ r.1.length) (s : Std) (b : Bool) : SeqAt.shaped (.list ((onM r j s b).map dGo)) = true := by
  have hz : ∀ x ∈ onM r j s b, PyData.strOk x.1 = true := fun x hx => by
    obtain ⟨y, hy, rfl⟩ := List.mem_map.mp hx
    obtain ⟨k, to, hk, _, e, _⟩ := steps_in (List.mem_filter.mp hy).1
    have e1 : y.2.1 = (wr (lastW r j) k).1 := congrArg (fun z => z.2.1) e
    show PyData.strOk y.2.1 = true
    rw [e1]
    exact str_ok ((g.last h).2.1.at hk).name.2.2
  have h1 : PyData.canLayAll0 ((onM r j s b).map dGo) = true := lay_map fun x hx => by
    unfold dGo
    simp only [PyData.canLay0, PyData.canLayAll0, dS_lay, hz x hx, Bool.and_self]
  have h2 := depth_map (f := dGo) (n := 20) (l := onM r j s b) fun x _ => by
    have := depth_dS x.2
    unfold dGo
    simp only [PyData.depth, PyData.depthAll]
    omega
  unfold SeqAt.shaped
  rw [Bool.and_eq_true, decide_eq_true_eq]
  refine ⟨by simp only [PyData.canLay0]; exact h1, ?_⟩
  simp only [PyData.depth]
  omega
theorem on_name {r : Row3} (g : GoodR r) {j : Nat} (h : j ≤ r.1.length) {s : Std} {b : Bool} {x : Str × Std} (hx : x ∈ onM r j s b) : NameZ x.1 := by
  obtain ⟨y, hy, rfl⟩ := List.mem_map.mp hx
  obtain ⟨k, to, hk, _, e, _⟩ := steps_in (List.mem_filter.mp hy).1
  have e1 : y.2.1 = (wr (lastW r j) k).1 := congrArg (fun z => z.2.1) e
  show NameZ y.2.1
  rw [e1]
  exact ((g.last h).2.1.at hk).name
section
variable {K : PySem.W.Frag} {σ : L2.St} {H : Hp} {ta tb te to tn t1 t2 : TE} {D : Ends} {g : TG} {tu : TS}
theorem q_asgTup2 (h : t1 σ H fun u H1 => t2 σ H1 fun v H2 => [u, v].length ≤ sizeLine ∧ ∀ p, H2 p = none → g (.ref p) σ (upd H2 p (.tup [u, v])) D.nx) : tAsg (tTup (tCons t1 (tCons t2 tNil))) g D σ H := h
theorem for_rng {n : Nat} (h : Ev tn σ H (.int (n : Int))) (hn : n ≤ 100000) (k : ∀ H1, Ex H H1 → tFor (iOn (Itr 0 n)) g tu D σ H1) : tFor (iRng1 (tCons tn tNil)) g tu D σ H := h H (.refl H) _ fun H1 e => ⟨(n : Int), rfl, by omega, by omega, by rw [Int.toNat_natCast]; exact k H1 e⟩
theorem q_op {R : R2} {Q : VK} (h : ta σ H fun x H1 => tb σ H1 fun y H2 => R x y H2 Q) : tOp R ta tb σ H Q := h
theorem q_ret (h : te σ H D.rt) : tRet te D σ H := h
theorem q_if {t : TT} {b : Bool} {Q : VK} (h : EvT t σ H b) (h1 : b = true → ∀ H1, Ex H H1 → ta σ H1 Q) (h2 : b = false → ∀ H1, Ex H H1 → tb σ H1 Q) : tIf t ta tb σ H Q := h H (.refl H) _ fun H1 e => by
  cases b with
  | true => exact h1 rfl H1 e
  | false => exact h2 rfl H1 e
theorem sd_appY {p : Addr} {xs : List V} (R : V → Hp → Prop) (ho : Ev to σ H (.ref p)) (hp : H p = some (.lst xs)) (hz : xs.length < 100000) (h : ∀ H1, Ex H H1 → ∀ Q : VK, (∀ v H2, R v H2 → Q v H2) → te σ H1 Q) (hk : ∀ v H2, R v H2 → H2 p = some (.lst xs) ∧ D.nx σ (upd H2 p (.lst (xs ++ [v])))) : tDrop (tBM K "list" rAppend to (tCons te tNil)) D σ H :=
  ho H (.refl H) _ fun H1 e1 => ⟨.inl ⟨rfl, xs, .of (e1 _ _ hp)⟩, h H1 e1 _ fun v H2 r => ⟨p, xs, v, rfl, rfl, (hk v H2 r).1, sz_lt hz, (hk v H2 r).2⟩⟩
end
section
variable {P : Program} {w : World} {K : PySem.W.Frag} {mg : Str → Option Value} {base : Heap}
end
end Ink
namespace Ink
open PySem PySem.Spec PyProof.Rows L2 Evl
section
variable {P : Program} {w : World} {K : PySem.W.Frag} {mg : Str → Option Value} {base : Heap}
theorem strs_map (zs : List Str) : (zs.map V.str).length = zs.length := List.length_map ..
end
end Ink
namespace Ink
open PySem PySem.Spec PyProof.Rows L2 Evl
abbrev rTupOf (K : PySem.W.Frag) : List V → Hp → VK → Prop := fun xs H Q => ∃ p ys, xs = [.ref p] ∧ ((SqL K H p ys ∧ ∀ l, H l = none → Q (.ref l) (upd H l (.tup ys))) ∨ (SqT K H p ys ∧ Q (.ref p) H))
/-! ### a company made, its dict new -/
def spInitD (P : Program) (w : World) (K : PySem.W.Frag) (C : Addr) (c : List PyData → PyData) : Sp := fun vs H Q _ => ∃ p dx v m, vs = [.ref p, v] ∧ H p = some (.ins C dx []) ∧ Dp K H v (c (m.map dW)) ∧ GoodM m ∧
  ∀ d H', H d = none → (∀ b o, H b = some o → b ≠ p → H' b = some o) → CoAtD P w K C H' p m 0 d → Q .non H'
section
variable {P : Program} {w : World} {K : PySem.W.Frag} {mg : Str → Option Value} {base : Heap}
theorem ok_initD {f C : Addr} {fd : FuncData} {k : Nat} {c : List PyData → PyData} {df : List V} (F : FunD K "__init__" "Company.__init__" (defArgs sCompanyInit) (defBody sCompanyInit) (defScope sCompanyInit) df [] f fd) (T : Txt mg) (Z : CoC K C) (hc : c = .list ∨ c = .tuple)
    (C__need_company : Cal P w K mg base k "_need_company" ["writers"] (spP K (RNeed c))) : FnOk P w K mg base CX0 (k + 1) f fd ["self", "writers"] (spInitD P w K C c) := by
  refine F.ok sc_Company___init__ (fun vs H Q E h => ?_) (fun cdv A outer s H vs Q E hr h => ?_)
  · obtain ⟨p, dx, v, m, rfl, _⟩ := h
    rfl
  · obtain ⟨p, dx, v, m, rfl, hp, hv, g, q⟩ := h
    refine ⟨_, (pss_cons (ps_expr (pe_callC C__need_company hr (by rfl) (pa_cons (pv 1) pa_nil)))
    (pss_cons (ps_fld (pv 0) (pe_callTy call_tuple_of (by rfl) T.m_tuple (by decide +kernel) (pa_cons (pv 1) pa_nil)) rfl)
    (pss_one (ps_fld (pv 0) pe_dnewN rfl)))), ?_⟩
    refine (ed_call (K := K) (d := .none) (eds_cons (ed_var rfl hv) eds_nil) ⟨m, g, rfl, rfl⟩) H (.refl H) _ fun _ H1 e1 _ => ?_
    have hv := dp_same e1 hv
    have hw : EvD K (tCB (fun xs H Q => ∃ p ys, xs = [.ref p] ∧ ((SqL K H p ys ∧ ∀ l, H l = none → Q (.ref l) (upd H l (.tup ys))) ∨ (SqT K H p ys ∧ Q (.ref p) H))) (tCons (tVar 1) tNil)) [some (.ref p), some v] H1 (dMt m) := by
      rcases hc with rfl | rfl
      · exact ed_tuple (ed_var rfl hv)
      · exact ed_tupleT (ed_var rfl hv)
    refine sd_fld hw fun u H2 e2 hu => ?_
    obtain ⟨tw, xs, rfl, htw, hxs⟩ := dp_tup hu
    have hp2 := e2 _ _ (e1 _ _ hp)
    refine ⟨.ref p, rfl, p, C, dx, [], rfl, hp2, Z.cl, Z.nW, (by show 0 < 1000; decide), ?_⟩
    intro d H3 nd hb hd
    have pd : p ≠ d := ne_of_none (upd_same (H := H2) (a := p) (o := .ins C dx (putF "_writers" (.ref tw) []))) nd
    refine ⟨.ref p, rfl, p, C, dx, _, rfl, (hb p pd).trans upd_same, Z.cl, Z.nF, (by show 1 < 1000; decide), ?_⟩
    have t3 : ∀ b o, H2 b = some o → b ≠ p → upd H3 p (.ins C dx (coF tw d)) b = some o := fun b o e nb => by
      have nbd : b ≠ d := ne_of_none (by rw [upd_ne nb]; exact e) nd
      rw [upd_ne nb, hb b nbd, upd_ne nb]
      exact e
    have tk : TupK K H2 (upd H3 p (.ins C dx (coF tw d))) := fun b xs h => by
      rcases h with (h | ⟨o, h⟩) | h
      · exact .inl (.inl (t3 _ _ h (ne_of h hp2 (by intro z; cases z))))
      · exact .inl (.inr ⟨o, t3 _ _ h (ne_of h hp2 (by intro z; cases z))⟩)
      · exact .inr h
    have nd2 : H2 d = none := by
      rw [upd_ne pd.symm] at nd
      exact nd
    refine q d _ (Same.free (e1.trans e2) nd2) (fun b o e nb => t3 b o (e2 _ _ (e1 _ _ e)) nb) ⟨dx, tw, [], upd_same, dp_tk tk (fz_dMt m) (.tup htw hxs), hd.up (upd_ne pd.symm) ?_, fun kv hk => (by cases hk), Nat.le_refl _, fun kv hk => (by cases hk)⟩
    exact TupK.upd ((hb p pd).trans upd_same) (fun _ z => by cases z) fun _ _ z => by cases z
end
end Ink
namespace Ink
open PySem PySem.Spec PyProof.Rows L2 Evl
section
variable {K : PySem.W.Frag} {σ : L2.St} {H : Hp} {ta tb : TE}
/-- two that read as the same data are alike -/
theorem ev_like1 {n : Nat} {d : PyData} (ha : EvD K ta σ H d) (hb : EvD K tb σ H d) (h : okD n d) : Ev (tCall (spLike K n) [] E0 (tCons ta (tCons tb tNil))) σ H (.bl true) := fun H1 e Q q =>
  ha H1 e _ fun v H2 e2 hv => hb H2 (e.trans e2) _ fun u H3 e3 hu => ⟨v, u, rfl, lk_dp n d v u h (dp_same e3 hv) hu, fun H4 s4 => q H4 ((e2.trans e3).trans s4)⟩
end
theorem okD_two (b : Bool) : okD 5 (.list [.bool b, .bool b]) := ⟨by show 2 ≤ 100000; decide, fun d hd => by
  simp only [List.mem_cons, List.not_mem_nil, or_false] at hd
  rcases hd with rfl | rfl <;> trivial⟩
end Ink
namespace Ink
open PySem PySem.Spec PyProof.Rows L2
/-! ### tables of sets of any size: the way through a table of 2 ^ k places meets each place -/
/-- 1 + 5 + 25 + .. -/
def gsum : Nat → Nat
  | 0 => 0
  | n + 1 => gsum n * 5 + 1
theorem five_pow : ∀ n, 5 ^ n = gsum n * 4 + 1
  | 0 => rfl
  | n + 1 => by
    have ih := five_pow n
    rw [Nat.pow_succ, ih]
    show (gsum n * 4 + 1) * 5 = (gsum n * 5 + 1) * 4 + 1
    omega
theorem gsum_add (n : Nat) : ∀ k, gsum (n + k) = gsum n * 5 ^ k + gsum k
  | 0 => by
    show gsum n = gsum n * 1 + 0
    omega
  | k + 1 => by
    have ih := gsum_add n k
    show gsum (n + k) * 5 + 1 = gsum n * 5 ^ (k + 1) + (gsum k * 5 + 1)
    rw [ih, Nat.pow_succ, Nat.add_mul, Nat.mul_assoc]
    omega
theorem odd_mul (a b : Nat) : (2 * a + 1) * (2 * b + 1) = 2 * (2 * (a * b) + a + b) + 1 := by
  rw [Nat.add_mul, Nat.mul_add, Nat.mul_mul_mul_comm]
  omega
theorem gsum_two : ∀ k, ∃ u, gsum (2 ^ k) = 2 ^ k * (2 * u + 1)
  | 0 => ⟨0, rfl⟩
  | k + 1 => by
    obtain ⟨u, hu⟩ := gsum_two k
    refine ⟨2 * (u * gsum (2 ^ k)) + u + gsum (2 ^ k), ?_⟩
    have e : (2 : Nat) ^ (k + 1) = 2 ^ k + 2 ^ k := by rw [Nat.pow_succ]; omega
    rw [e, gsum_add, five_pow, ← odd_mul]
    generalize hg : gsum (2 ^ k) = g at hu
    have e1 : g * (g * 4 + 1) + g = g * 2 * (2 * g + 1) := by
      rw [Nat.mul_assoc, ← Nat.mul_add_one]
      congr 1
      omega
    have e2 : (2 ^ k + 2 ^ k) * ((2 * u + 1) * (2 * g + 1)) = 2 ^ k * (2 * u + 1) * 2 * (2 * g + 1) := by
      rw [← Nat.two_mul, Nat.mul_comm 2 (2 ^ k), ← Nat.mul_assoc, Nat.mul_right_comm (2 ^ k) 2 (2 * u + 1)]
    rw [e1, e2, ← hu]
theorem two_res {M x : Nat} (h : x < 2 * M) : x = x % M ∨ x = x % M + M := by
  by_cases c : x < M
  · exact .inl (Nat.mod_eq_of_lt c).symm
  · right
    rw [Nat.mod_eq_sub_mod (by omega), Nat.mod_eq_of_lt (by omega)]
    omega
theorem gsum_onto : ∀ k j, j < 2 ^ k → ∃ n, n < 2 ^ k ∧ gsum n % 2 ^ k = j
  | 0, j, h => ⟨0, Nat.one_pos, by
    have : j = 0 := by
      have : j < 1 := h
      omega
    rw [this]
    rfl⟩
  | k + 1, j, h => by
    have eM : (2 : Nat) ^ (k + 1) = 2 * 2 ^ k := by rw [Nat.pow_succ]; omega
    obtain ⟨u, hu⟩ := gsum_two k
    have hM : 0 < (2 : Nat) ^ k := Nat.pow_pos (by decide)
    obtain ⟨n, hn, e⟩ := gsum_onto k (j % 2 ^ k) (Nat.mod_lt _ hM)
    have hs : gsum (n + 2 ^ k) = gsum n + 2 ^ k + 2 * 2 ^ k * (2 * (u * (2 * gsum n)) + u + 2 * gsum n) := by
      have z := odd_mul u (2 * gsum n)
      have h1 : gsum n * (gsum (2 ^ k) * 4 + 1) + gsum (2 ^ k) = gsum n + gsum (2 ^ k) * (2 * (2 * gsum n) + 1) := by
        rw [Nat.mul_add, Nat.mul_add, ← Nat.mul_assoc, Nat.mul_comm (gsum n) (gsum (2 ^ k))]
        have : gsum (2 ^ k) * (2 * (2 * gsum n)) = gsum (2 ^ k) * gsum n * 4 := by
          rw [Nat.mul_assoc]
          congr 1
          omega
        omega
      rw [gsum_add, five_pow, h1, hu, Nat.mul_assoc, z, Nat.mul_add, Nat.mul_one, ← Nat.mul_assoc, Nat.mul_comm (2 ^ k) 2]
      omega
    rw [eM] at h ⊢
    generalize (2 : Nat) ^ k = M at *
    generalize hv : 2 * (u * (2 * gsum n)) + u + 2 * gsum n = v at hs
    have hq : gsum n % (2 * M) < 2 * M := Nat.mod_lt _ (by omega)
    have r1 : gsum n % (2 * M) % M = j % M := by
      rw [Nat.mod_mul_left_mod, e]
    by_cases c : gsum n % (2 * M) = j
    · exact ⟨n, by omega, c⟩
    · refine ⟨n + M, by omega, ?_⟩
      rw [hs, Nat.add_mul_mod_self_left, Nat.add_mod, Nat.mod_eq_of_lt (show M < 2 * M by omega)]
      have t1 := two_res hq
      have t2 := two_res h
      rw [r1] at t1
      rcases t1 with t1 | t1 <;> rcases t2 with t2 | t2
      · exact absurd (t1.trans t2.symm) c
      · rw [t1, ← t2]
        exact Nat.mod_eq_of_lt h
      · have e3 : gsum n % (2 * M) + M = j + 2 * M := by omega
        rw [e3, Nat.add_mod_right]
        exact Nat.mod_eq_of_lt h
      · exact absurd (t1.trans t2.symm) c
theorem lcgN_gsum (m : Nat) : ∀ n, lcgN m n = gsum n % (m + 1)
  | 0 => (Nat.zero_mod _).symm
  | n + 1 => by
    show (lcgN m n * 5 + 1) % (m + 1) = (gsum n * 5 + 1) % (m + 1)
    rw [lcgN_gsum m n, Nat.add_mod, Nat.mod_mul_mod, ← Nat.add_mod]
theorem lcg_back {m k : Nat} (h : m + 1 = 2 ^ k) (b : Nat) : lcgN m (m + 1 + b) = lcgN m b := by
  obtain ⟨u, hu⟩ := gsum_two k
  rw [lcgN_gsum, lcgN_gsum, h, gsum_add, hu, Nat.mul_assoc, Nat.mul_add_mod]
theorem lcg_from {m k : Nat} (h : m + 1 = 2 ^ k) {i j : Nat} (hi : i ≤ m) (hj : j ≤ m) : ∃ n, n ≤ m ∧ lcgI m i n = j := by
  obtain ⟨a, ha, ea⟩ := gsum_onto k i (by omega)
  obtain ⟨b, hb, eb⟩ := gsum_onto k j (by omega)
  rw [← h, ← lcgN_gsum] at ea eb
  rw [← ea]
  by_cases c : a ≤ b
  · refine ⟨b - a, by omega, ?_⟩
    rw [lcgN_add, show a + (b - a) = b by omega, eb]
  · refine ⟨b + (m + 1) - a, by omega, ?_⟩
    rw [lcgN_add, show a + (b + (m + 1) - a) = m + 1 + b by omega, lcg_back h, eb]
/-- the sizes that tables come to, each four times the one before -/
def MaskG (m : Nat) : Prop := m = 7 ∨ m = 31 ∨ m = 127 ∨ m = 511 ∨ m = 2047 ∨ m = 8191
theorem MaskG.pow {m : Nat} (h : MaskG m) : ∃ k, m + 1 = 2 ^ k := by
  rcases h with h | h | h | h | h | h <;> subst h
  · exact ⟨3, rfl⟩
  · exact ⟨5, rfl⟩
  · exact ⟨7, rfl⟩
  · exact ⟨9, rfl⟩
  · exact ⟨11, rfl⟩
  · exact ⟨13, rfl⟩
theorem MaskG.le {m : Nat} (h : MaskG m) : m ≤ 8191 ∧ m % 2 = 1 := by
  rcases h with h | h | h | h | h | h <;> subst h <;> decide
theorem runG {m : Nat} (hm : MaskG m) (h : Int) {j : Nat} (hj : j ≤ m) : ∃ n, n ≤ m + 12 ∧ runI m (SetTable.bits h) n = j := by
  obtain ⟨k, hk⟩ := hm.pow
  obtain ⟨n, hn, e⟩ := lcg_from hk (runI_le m (SetTable.bits h) 12) hj
  refine ⟨12 + n, by omega, ?_⟩
  rw [runI_tail (bits_lt h), e]
theorem meetG {m : Nat} (hm : MaskG m) (h : Int) {j : Nat} (hj : j ≤ m) : ∃ k, k < 10 * SetTable.turns m ∧ way m h k = j := by
  obtain ⟨n, hn, e⟩ := runG hm h hj
  obtain ⟨k, hk, e2⟩ := run_nth m (SetTable.bits h) n
  refine ⟨k, ?_, ?_⟩
  · unfold SetTable.turns
    omega
  · show (nth m (runAt m (SetTable.bits h % (m + 1)) (SetTable.bits h)) k).j = j
    rw [e2]
    exact e
theorem wayG (m : Nat) (h : Int) (k : Nat) : way m h k ≤ m := by
  have hi : SetTable.bits h % (m + 1) ≤ m := Nat.le_of_lt_succ (Nat.mod_lt _ (Nat.succ_pos _))
  obtain ⟨r1, r2, _⟩ := runEnd_bd hi
  have q := nth_in (m := m) k (runAt m (SetTable.bits h % (m + 1)) (SetTable.bits h)) (by
    unfold runAt
    dsimp only
    omega)
  exact Nat.le_trans (Nat.le_add_right _ _) q
/-- a table from which each hash is found again -/
structure TabN (t : SetTable) (hs : List Int) : Prop where
  ris : Ris t.place.toList
  dm : t.dummies = #[]
  sz : t.place.size = hs.length
  mok : MaskG t.mask
  bd : ∀ x ∈ t.place.toList, x ≤ t.mask
  back : ∀ (i : Nat) (h : Int) (j : Nat), hs[i]? = some h → t.place.toList[i]? = some j → ∃ k, way t.mask h k = j ∧ ∀ c, c < k → way t.mask h c ∈ t.place.toList
theorem TabN.gap {t : SetTable} {hs : List Int} (T : TabN t hs) (hl : hs.length ≤ t.mask) (h : Int) : ∃ K, K < 10 * SetTable.turns t.mask ∧ way t.mask h K ∉ t.place.toList ∧ ∀ c, c < K → way t.mask h c ∈ t.place.toList := by
  have z := T.sz
  obtain ⟨j, hj, hn⟩ := st_missing t.place.toList (t.mask + 1) (by rw [Array.length_toList]; omega)
  obtain ⟨k, hk, e⟩ := meetG T.mok h (Nat.le_of_lt_succ hj)
  obtain ⟨K, h1, h2, h3⟩ := st_least (p := fun c => way t.mask h c ∉ t.place.toList) k (by
    show ¬ (way t.mask h k ∈ _)
    rw [e]
    exact hn)
  exact ⟨K, Nat.lt_of_le_of_lt h1 hk, h2, fun c hc => Classical.byContradiction fun no => h3 c hc no⟩
theorem TabN.ahead {t : SetTable} {hs : List Int} (T : TabN t hs) {h : Int} {K i j : Nat} (hK : way t.mask h K ∉ t.place.toList) (hi : hs[i]? = some h) (hj : t.place.toList[i]? = some j) : ∃ k, k < K ∧ way t.mask h k = j := by
  obtain ⟨k, e, hb⟩ := T.back i h j hi hj
  have nk : k ≠ K := fun z => hK (by rw [← z, e]; exact List.mem_of_getElem? hj)
  have nl : ¬ K < k := fun z => hK (hb K z)
  exact ⟨k, by omega, e⟩
theorem TabN.put {t : SetTable} {hs : List Int} (T : TabN t hs) {h : Int} {K p : Nat} (hK : way t.mask h K ∉ t.place.toList) (hb : ∀ c, c < K → way t.mask h c ∈ t.place.toList) (hp : SetTable.below t.place (way t.mask h K) = p) :
    p ≤ hs.length ∧ TabN (t.put (way t.mask h K)).1 (hs.take p ++ h :: hs.drop p) ∧ (t.put (way t.mask h K)).1.fill = hs.length + 1 := by
  have hjm := wayG t.mask h K
  generalize hj : way t.mask h K = j at *
  have c1 := (below_cut T.ris j).1
  rw [hp] at c1
  have hsz := T.sz
  have l1 : t.place.toList.length = hs.length := by rw [Array.length_toList]; exact hsz
  have no : t.place[SetTable.below t.place j]? ≠ some j := fun e => hK (List.mem_of_getElem? (by rw [Array.getElem?_toList]; exact e))
  have epl : (t.put j).1.place.toList = t.place.toList.take p ++ j :: t.place.toList.drop p := by
    rw [put_place, hp]
  have esz : (t.put j).1.place.size = hs.length + 1 := by
    rw [← Array.length_toList, epl, len_ins _ (by rw [l1]; omega), l1]
  have up : ∀ {x : Nat}, x ∈ t.place.toList → x ∈ (t.put j).1.place.toList := fun hx => by
    rw [epl]
    exact mem_ins.2 (.inr hx)
  refine ⟨by omega, ⟨ris_insert T.ris no, put_dm T.dm j, ?_, T.mok, fun x hx => ?_, fun i h' j' q1 q2 => ?_⟩, ?_⟩
  · rw [esz, len_ins _ (by omega)]
  · rw [epl] at hx
    rcases mem_ins.1 hx with z | z
    · subst z
      exact hjm
    · exact T.bd x z
  · rw [tins_get hs (by omega)] at q1
    rw [epl, tins_get _ (by rw [l1]; omega)] at q2
    show ∃ k, way t.mask h' k = j' ∧ ∀ c, c < k → way t.mask h' c ∈ (t.put j).1.place.toList
    by_cases c : i = p
    · subst c
      rw [if_neg (Nat.lt_irrefl _), if_pos rfl] at q1 q2
      cases q1
      cases q2
      exact ⟨K, hj, fun c hc => up (hb c hc)⟩
    · have old : ∀ i', hs[i']? = some h' → t.place.toList[i']? = some j' → ∃ k, way t.mask h' k = j' ∧ ∀ c, c < k → way t.mask h' c ∈ (t.put j).1.place.toList := fun i' z1 z2 => by
        obtain ⟨k, e, y⟩ := T.back i' h' j' z1 z2
        exact ⟨k, e, fun c hc => up (y c hc)⟩
      by_cases d : i < p
      · rw [if_pos d] at q1 q2
        exact old i q1 q2
      · rw [if_neg d, if_neg c] at q1 q2
        exact old (i - 1) q1 q2
  · show (t.put j).1.place.size + (t.put j).1.dummies.size = hs.length + 1
    rw [esz, put_dm T.dm j]
    rfl
end Ink
namespace Ink
open PySem PySem.Spec PyProof.Rows L2
/-! ### a table laid anew, whatever its size -/
theorem freeG {m : Nat} (hm : MaskG m) (ow : Array (Option Nat)) (h : Int) {j : Nat} (hj : j ≤ m) (hf : oAt ow j = none) :
    ∃ K, SetTable.layClean.free m ow (SetTable.turns m) (SetTable.bits h % (m + 1)) (SetTable.bits h) = some (way m h K) ∧ oAt ow (way m h K) = none ∧ ∀ c, c < K → oAt ow (way m h c) ≠ none := by
  obtain ⟨n, hn, e⟩ := runG hm h hj
  generalize hb : SetTable.bits h = b at *
  have ew : ∀ k, way m h k = (nth m (runAt m (b % (m + 1)) b) k).j := fun k => by rw [← hb]
  have hw : way m h (off m (b % (m + 1)) b n) = j := by
    rw [ew, nth_off, itL_run]
    exact e
  obtain ⟨K, k1, k2, k3⟩ := st_least (p := fun c => oAt ow (way m h c) = none) (off m (b % (m + 1)) b n) (by
    show oAt ow (way m h _) = none
    rw [hw]
    exact hf)
  refine ⟨K, ?_, k2, k3⟩
  rw [ew] at k2 ⊢
  refine free_spec m ow _ n _ b K (by unfold SetTable.turns; omega) k1 (fun c hc => ?_) (by rw [k2]; rfl)
  have q := k3 c hc
  rw [ew] at q
  generalize oAt ow _ = x at q
  cases x with
  | none => exact absurd rfl q
  | some _ => rfl
/-- who sits where, behind some hashes -/
structure Seats (m : Nat) (done : List Int) (ow : Array (Option Nat)) : Prop where
  sz : ow.size = m + 1
  who : ∀ j k, j ≤ m → oAt ow j = some k → ∃ h K, done[k]? = some h ∧ way m h K = j ∧ ∀ c, c < K → oAt ow (way m h c) ≠ none
  all : ∀ k, k < done.length → ∃ j, j ≤ m ∧ oAt ow j = some k
  few : ∃ ps : List Nat, ps.length = done.length ∧ ∀ j, j ≤ m → oAt ow j ≠ none → j ∈ ps
theorem Seats.sit {m : Nat} (hm : MaskG m) {done : List Int} {ow : Array (Option Nat)} (W : Seats m done ow) (hl : done.length ≤ m) (h : Int) :
    ∃ j, SetTable.layClean.free m ow (SetTable.turns m) (SetTable.bits h % (m + 1)) (SetTable.bits h) = some j ∧ Seats m (done ++ [h]) (ow.setIfInBounds j (some done.length)) := by
  obtain ⟨ps, hps, hin⟩ := W.few
  obtain ⟨j0, h0, n0⟩ := st_missing ps (m + 1) (by omega)
  have f0 : oAt ow j0 = none := Classical.byContradiction fun z => n0 (hin j0 (by omega) z)
  obtain ⟨K, e1, e2, e3⟩ := freeG hm ow h (Nat.le_of_lt_succ h0) f0
  have hjm := wayG m h K
  refine ⟨way m h K, e1, ?_⟩
  generalize hJ : way m h K = J at *
  have self := oAt_set_self (owner := ow) (some done.length) (show J < ow.size by rw [W.sz]; omega)
  have grow : ∀ {i : Nat}, oAt ow i ≠ none → oAt (ow.setIfInBounds J (some done.length)) i ≠ none := fun {i} hi => by
    by_cases c : i = J
    · rw [c, self]
      exact fun z => nomatch z
    · rwa [oAt_set_ne _ c]
  refine ⟨by rw [Array.size_setIfInBounds, W.sz], fun j k hj e => ?_, fun k hk => ?_, J :: ps, by simp [hps], fun j hj e => ?_⟩
  · by_cases c : j = J
    · rw [c, self] at e
      cases e
      exact ⟨h, K, by simp, by rw [hJ, c], fun i hi => grow (e3 i hi)⟩
    · rw [oAt_set_ne _ c] at e
      obtain ⟨h', K', a1, a2, a3⟩ := W.who j k hj e
      exact ⟨h', K', by rw [List.getElem?_append_left (List.getElem?_eq_some_iff.mp a1).1]; exact a1, a2, fun i hi => grow (a3 i hi)⟩
  · by_cases c : k < done.length
    · obtain ⟨j, hj, e⟩ := W.all k c
      refine ⟨j, hj, ?_⟩
      rw [oAt_set_ne _ fun z => ?_]
      · exact e
      · rw [z, e2] at e
        cases e
    · have : k = done.length := by
        rw [List.length_append, List.length_singleton] at hk
        omega
      exact ⟨J, hjm, by rw [this]; exact self⟩
  · by_cases c : j = J
    · rw [c]
      exact List.mem_cons_self
    · rw [oAt_set_ne _ c] at e
      exact List.mem_cons_of_mem _ (hin j hj e)
theorem Seats.fold {m : Nat} (hm : MaskG m) : ∀ (rest done : List Int) (ow : Array (Option Nat)), Seats m done ow → done.length + rest.length ≤ m →
    ∃ ow', rest.foldl (stepF m) (some (ow, done.length)) = some (ow', (done ++ rest).length) ∧ Seats m (done ++ rest) ow'
  | [], done, ow, W, _ => ⟨ow, by rw [List.append_nil]; rfl, by rw [List.append_nil]; exact W⟩
  | h :: rest, done, ow, W, hl => by
    rw [List.length_cons] at hl
    obtain ⟨j, e, W1⟩ := W.sit hm (by omega) h
    have l1 : (done ++ [h]).length = done.length + 1 := by simp
    obtain ⟨ow', f, W2⟩ := Seats.fold hm rest (done ++ [h]) _ W1 (by omega)
    have ea : done ++ [h] ++ rest = done ++ h :: rest := by simp
    rw [ea] at W2 f
    rw [l1] at f
    exact ⟨ow', by rw [List.foldl_cons, stepF_some e, f], W2⟩
theorem Seats.none_yet (m : Nat) : Seats m [] (Array.replicate (m + 1) none) :=
  ⟨by simp, fun j k hj e => (by rw [oAt_init hj] at e; cases e), fun k hk => absurd hk (Nat.not_lt_zero _), [], rfl, fun j hj e => absurd (oAt_init hj) e⟩
theorem cleanG {m : Nat} (hm : MaskG m) {hs : Array Int} (hn : hs.size ≤ m) : ∃ ow, SetTable.layClean m hs = some ow ∧ Seats m hs.toList ow := by
  obtain ⟨ow, f, W⟩ := Seats.fold hm hs.toList [] _ (Seats.none_yet m) (by have z : hs.toList.length = hs.size := Array.length_toList; have y : ([] : List Int).length = 0 := rfl; omega)
  rw [List.nil_append] at W f
  refine ⟨ow, ?_, W⟩
  have f1 : hs.toList.foldl (stepF m) (some (Array.replicate (m + 1) none, 0)) = some (ow, hs.toList.length) := f
  rw [layClean_eq, f1]
  rfl
theorem relaidG (t : SetTable) {hs : Array Int} {wanted M : Nat} (hw : SetTable.sizeAbove wanted - 1 = M) (hM : MaskG M) (hn : hs.size ≤ M) :
    ∃ t' order, t.relaid hs wanted = some (t', order) ∧ order.toList.Perm (List.range hs.size) ∧ TabN t' (order.toList.map fun i => hs.getD i 0) ∧ t'.mask = M ∧ t'.led = t.led ∧ t'.plain = t.plain ∧ t'.dummies = #[] := by
  obtain ⟨ow, e, W⟩ := cleanG hM hn
  obtain ⟨v1, v2⟩ := ris_live (fun j => ow.getD j none) (List.range (M + 1)) List.pairwise_lt_range
  have live := @mem_live M ow W.sz
  have d1 : Ris ((liveOf M ow).map (·.1)) := v1
  have d2 : ∀ x ∈ (liveOf M ow).map (·.1), x ∈ List.range (M + 1) := v2
  have each : ∀ k, k < hs.size → k ∈ (liveOf M ow).map (·.2) := fun k hk => by
    obtain ⟨j, b1, b2⟩ := W.all k (by rw [Array.length_toList]; exact hk)
    exact List.mem_map.mpr ⟨(j, k), live.2 ⟨b1, b2⟩, rfl⟩
  have nd1 : ((liveOf M ow).map (·.1)).Nodup := List.Pairwise.imp (fun z => Nat.ne_of_lt z) d1
  have hlen : (liveOf M ow).length = hs.size := by
    obtain ⟨ps, p1, p2⟩ := W.few
    have p1 : ps.length = hs.size := p1.trans Array.length_toList
    have a := nat_nodup_len ((liveOf M ow).map (·.1)) ps nd1 fun x hx => by
      obtain ⟨⟨y, k⟩, hq, rfl⟩ := List.mem_map.mp hx
      obtain ⟨b1, b2⟩ := live.1 hq
      refine p2 y b1 ?_
      rw [b2]
      exact fun z => nomatch z
    have b := nat_nodup_len (List.range hs.size) ((liveOf M ow).map (·.2)) List.nodup_range fun k hk => each k (List.mem_range.mp hk)
    rw [List.length_map] at a b
    rw [List.length_range] at b
    omega
  refine ⟨tabOf t M ow, ((liveOf M ow).map (·.2)).toArray, by rw [relaid_eq, hw, e]; rfl, perm_range hs.size _ (by simp [hlen]) each, ⟨d1, rfl, ?_, hM, fun x hx => Nat.le_of_lt_succ (List.mem_range.mp (d2 x hx)), fun i h j q1 q2 => ?_⟩, rfl, rfl, rfl, rfl⟩
  · show ((liveOf M ow).map (·.1)).toArray.size = _
    simp
  · have q2 : ((liveOf M ow).map (·.1))[i]? = some j := q2
    have q1 : (((liveOf M ow).map (·.2)).map fun i => hs.getD i 0)[i]? = some h := q1
    rw [List.getElem?_map] at q2
    rw [List.getElem?_map, List.getElem?_map] at q1
    cases hq : (liveOf M ow)[i]? with
    | none =>
      rw [hq] at q2
      cases q2
    | some q =>
      rw [hq] at q1 q2
      obtain ⟨y, k⟩ := q
      have ej : y = j := Option.some.inj q2
      have eh : hs.getD k 0 = h := Option.some.inj q1
      obtain ⟨b1, b2⟩ := live.1 (List.mem_of_getElem? hq)
      obtain ⟨h0, K, a1, a2, a3⟩ := W.who y k b1 b2
      have e0 : h0 = h := by
        rw [← eh, Array.getD_eq_getD_getElem?, ← Array.getElem?_toList, a1]
        rfl
      rw [← e0, ← ej]
      refine ⟨K, a2, fun c hc => ?_⟩
      show way M h0 c ∈ (liveOf M ow).map (·.1)
      have z := a3 c hc
      cases hz : oAt ow (way M h0 c) with
      | none => exact absurd hz z
      | some k2 => exact List.mem_map.mpr ⟨(_, k2), live.2 ⟨wayG M h0 c, hz⟩, rfl⟩
/-- how tables grow -/
def NextG (m n M : Nat) : Prop := SetTable.sizeAbove (SetTable.grown n) - 1 = M ∧ MaskG M ∧ SetTable.sizeAbove (SetTable.grown n) ≤ 8192 ∧ n * 5 < M * 3
theorem growG {m n : Nat} (hm : MaskG m) (h1 : n * 5 < m * 3) (h2 : (n + 1) * 5 ≥ m * 3) (hn : n + 1 < 4915) : ∃ M, NextG m (n + 1) M := by
  have one : ∀ (N M : Nat), n + 1 = N → SetTable.sizeAbove (SetTable.grown N) = M + 1 → MaskG M → M + 1 ≤ 8192 → N * 5 < M * 3 → ∃ M, NextG m (n + 1) M := fun N M e e1 g l f => by
    subst e
    exact ⟨M, by rw [e1]; rfl, g, by rw [e1]; exact l, f⟩
  rcases hm with h | h | h | h | h | h <;> subst h
  · exact one 5 31 (by omega) (by decide +kernel) (.inr (.inl rfl)) (by decide) (by decide)
  · exact one 19 127 (by omega) (by decide +kernel) (.inr (.inr (.inl rfl))) (by decide) (by decide)
  · exact one 77 511 (by omega) (by decide +kernel) (.inr (.inr (.inr (.inl rfl)))) (by decide) (by decide)
  · exact one 307 2047 (by omega) (by decide +kernel) (.inr (.inr (.inr (.inr (.inl rfl))))) (by decide) (by decide)
  · exact one 1229 8191 (by omega) (by decide +kernel) (.inr (.inr (.inr (.inr (.inr rfl))))) (by decide) (by decide)
  · exact absurd h2 (by omega)
end Ink
namespace Ink
open PySem PySem.Spec PyProof.Rows L2
/-! ### small questions asked of keys -/
/-- the hash of None and of numbers does not depend on where they stand -/
def solid : NestedKey → Bool
  | .none => true
  | .num _ => true
  | .text _ => false
  | .tup ks => solids ks
where solids : List NestedKey → Bool
  | [] => true
  | k :: ks => solid k && solids ks
section
variable {P : Program} {w : World} {E : Value → Shared → Prop}
mutual
theorem byval_key : ∀ (k : NestedKey) (v : Value) (A : Around) (n : Nat) (s : Shared) (Q : Bool → Shared → Prop), NestedIs s.heap k v → k.depth ≤ n → solid k = true → Q true s → wpAny (model P w) A (hashByValue n v) Q E s
  | .none, _, A, n, s, Q, x, _, _, h => by
    cases x
    cases n <;> exact wpAny_pure h
  | .num i, _, A, n, s, Q, x, _, _, h => by
    cases x <;> cases n <;> exact wpAny_pure h
  | .text y, _, _, _, _, _, _, _, hs, _ => by
    unfold solid at hs
    cases hs
  | .tup ks, _, A, n, s, Q, x, hn, hs, h => by
    cases x with
    | @tup a o vs m _ eo ec ed ek =>
      unfold NestedKey.depth at hn
      unfold solid at hs
      cases n with
      | zero => omega
      | succ n =>
        unfold hashByValue
        refine wpAny_bind (wpAny_specialOf (T := "tuple") ⟨o, eo, ec⟩ F.slot_tuple_hash.lookup ?_)
        show wpAny _ _ (seqItems? (.ref a) >>= _) _ _ s
        refine wpAny_bind (wpAny_seqItems eo ed (wpAny_bind ?_))
        show wpAny _ _ (forIn vs _ _) _ _ s
        rw [← Array.forIn_toList]
        refine byval_keys ks vs.toList A n s _ ek (by omega) hs ?_
        exact wpAny_pure h
theorem byval_keys : ∀ (ks : List NestedKey) (vs : List Value) (A : Around) (n : Nat) (s : Shared) (Q : Option Bool × Unit → Shared → Prop), NestedAll s.heap ks vs → NestedKey.depthAll ks ≤ n → solid.solids ks = true → Q (none, ()) s →
    wpAny (model P w) A (forIn vs ((none, ()) : Option Bool × Unit) fun x _ => do
      let b ← hashByValue n x
      if (!b) = true then pure (ForInStep.done (some false, ())) else pure (ForInStep.yield (none, ()))) Q E s
  | [], _, A, n, s, Q, x, _, _, h => by
    cases x
    exact wpAny_pure h
  | k :: ks, _, A, n, s, Q, x, hn, hs, h => by
    cases x with
    | cons x1 x2 =>
      unfold NestedKey.depthAll at hn
      unfold solid.solids at hs
      rw [Bool.and_eq_true] at hs
      rw [List.forIn_cons]
      refine wpAny_bind (wpAny_bind (byval_key k _ A n s _ x1 (by omega) hs.1 (wp_if_neg (by decide) (wpAny_pure ?_))))
      exact byval_keys ks _ A n s Q x2 (by omega) hs.2 h
end
mutual
theorem nocls_key : ∀ (k : NestedKey) (v : Value) (A : Around) (n : Nat) (s : Shared) (Q : Bool → Shared → Prop), NestedIs s.heap k v → k.depth ≤ n → Q false s → wpAny (model P w) A (ofAClassStatement n v) Q E s
  | .none, _, A, n, s, Q, x, _, h => by
    cases x
    cases n <;> exact wpAny_pure h
  | .num i, _, A, n, s, Q, x, _, h => by
    cases x <;> cases n <;> exact wpAny_pure h
  | .text y, _, A, n, s, Q, x, _, h => by
    cases x
    cases n <;> exact wpAny_pure h
  | .tup ks, _, A, n, s, Q, x, hn, h => by
    cases x with
    | @tup a o vs m _ eo ec ed ek =>
      unfold NestedKey.depth at hn
      cases n with
      | zero => omega
      | succ n =>
        unfold ofAClassStatement
        refine wpAny_bind (wpAny_typeOf (T := "tuple") ⟨o, eo, ec⟩ ?_)
        have e : (("tuple" : String) == "tuple") = true := by decide
        dsimp only
        simp only [e, if_true, Bool.not_true, Bool.false_eq_true, if_false]
        try refine wpAny_bind (wpAny_pure ?_)
        try simp only [Bool.not_true, Bool.false_eq_true, if_false]
        show wpAny _ _ (seqItems? (.ref a) >>= _) _ _ s
        refine wpAny_bind (wpAny_seqItems eo ed ?_)
        dsimp only
        refine wpAny_bind ?_
        show wpAny _ _ (forIn vs _ _) _ _ s
        rw [← Array.forIn_toList]
        refine nocls_keys ks vs.toList A n s _ ek (by omega) ?_
        exact wpAny_pure h
theorem nocls_keys : ∀ (ks : List NestedKey) (vs : List Value) (A : Around) (n : Nat) (s : Shared) (Q : Option Bool × Unit → Shared → Prop), NestedAll s.heap ks vs → NestedKey.depthAll ks ≤ n → Q (none, ()) s →
    wpAny (model P w) A (forIn vs ((none, ()) : Option Bool × Unit) fun x _ => do
      let b ← ofAClassStatement n x
      if b = true then pure (ForInStep.done (some true, ())) else pure (ForInStep.yield (none, ()))) Q E s
  | [], _, A, n, s, Q, x, _, h => by
    cases x
    exact wpAny_pure h
  | k :: ks, _, A, n, s, Q, x, hn, h => by
    cases x with
    | cons x1 x2 =>
      unfold NestedKey.depthAll at hn
      rw [List.forIn_cons]
      refine wpAny_bind (wpAny_bind (nocls_key k _ A n s _ x1 (by omega) (wp_if_neg (by decide) (wpAny_pure ?_))))
      exact nocls_keys ks _ A n s Q x2 (by omega) h
end
/-- looking for a key among keys shows nothing -/
theorem unseen_key {A : Around} {s : Shared} {k : NestedKey} {b : Addr} {Q : Bool → Shared → Prop} (hk : (nestedKind P w).is s.heap k b) {ys : List Value} (hy : ∀ y ∈ ys, ∃ k' c, y = Value.ref c ∧ (nestedKind P w).is s.heap k' c) (h : Q false s) :
    wpAny (model P w) A (searchCouldBeSeen (.ref b) ys) Q E s := by
  unfold searchCouldBeSeen
  refine wpAny_bind (wpAny_forIn_list _ (fun more r s' => r.1 = none ∧ s' = s ∧ ∀ y ∈ more, y ∈ ys) _ ?_ ?_ _ _ ⟨rfl, rfl, fun y z => z⟩)
  · rintro v more r s' ⟨hr, rfl, hall⟩
    have on : ∀ y ∈ more, y ∈ ys := fun y hm => hall y (List.mem_cons_of_mem _ hm)
    obtain ⟨k', c, rfl, hc⟩ := hy v (hall v List.mem_cons_self)
    dsimp only
    by_cases same : (b == c || (carriedByValue (.ref b) && carriedByValue (.ref c))) = true
    · exact wp_if_pos same (wpAny_pure ⟨rfl, rfl, on⟩)
    · refine wp_if_neg same (wpAny_bind ((nestedKind P w).quiet hk ?_))
      simp only [Bool.not_true, Bool.false_eq_true, if_false]
      refine wpAny_bind ((nestedKind P w).quiet hc ?_)
      simp only [Bool.not_true, Bool.false_eq_true, if_false]
      refine wpAny_bind (nocls_key k _ A 8 s' _ hk.1 hk.2 ?_)
      simp only [Bool.false_eq_true, if_false]
      refine wpAny_bind (nocls_key k' _ A 8 s' _ hc.1 hc.2 ?_)
      simp only [Bool.false_eq_true, if_false]
      exact wpAny_pure ⟨rfl, rfl, on⟩
  · rintro ⟨r1, r2⟩ s' ⟨hr, rfl, _⟩
    have hr : r1 = none := hr
    subst hr
    exact wpAny_pure h
end
end Ink
namespace Ink
open PySem PySem.Spec PyProof.Rows L2
/-! ### sets whose members are nested tuples of numbers, below 4915 members -/
abbrev KAs := List (NestedKey × Addr)
def rowsN (w : World) (L : KAs) : List (Int × Value) := L.map fun p => (p.1.hash w, Value.ref p.2)
def hashN (w : World) (L : KAs) : List Int := L.map fun p => p.1.hash w
/-- the set at a, the tuples themselves left out -/
structure SetSh (w : World) (h : Heap) (a : Addr) (L : KAs) (es : Array (Int × Value)) (ep : Nat) (t : SetTable) : Prop where
  ob : ∃ o, h.get? a = some o ∧ o.ExactSet ∧ o.data = .set es ep t
  rows : es.toList = rowsN w L
  tab : TabN t (hashN w L)
  nd : (L.map (·.1)).Nodup
  plain : t.plain = true
  led : w.params.followText "set-order" = true ∨ t.led = true
  room : L.length * 5 < t.mask * 3
  few : L.length < 4915
section
variable {P : Program} {w : World} {A : Around} {E : Value → Shared → Prop} {s : Shared} {a : Addr} {L : KAs} {es : Array (Int × Value)} {ep : Nat} {t : SetTable}
def AllThere (P : Program) (w : World) (h : Heap) (L : KAs) : Prop := ∀ p ∈ L, (nestedKind P w).is h p.1 p.2
theorem SetSh.size (R : SetSh w s.heap a L es ep t) : es.size = L.length := by
  have h := congrArg List.length R.rows
  unfold rowsN at h
  rwa [Array.length_toList, List.length_map] at h
theorem SetSh.fits (R : SetSh w s.heap a L es ep t) : t.fits es.size = true := by
  have h1 := R.tab.sz
  unfold hashN at h1
  rw [List.length_map] at h1
  have h2 := R.size
  have h3 := R.room
  unfold SetTable.fits SetTable.fill
  rw [R.tab.dm, Bool.and_eq_true, beq_iff_eq, decide_eq_true_eq]
  refine ⟨by omega, ?_⟩
  show t.place.size + 0 ≤ t.mask
  omega
theorem SetSh.entry (R : SetSh w s.heap a L es ep t) {i : Nat} {p : NestedKey × Addr} (h : L[i]? = some p) : es[i]? = some (p.1.hash w, Value.ref p.2) := by
  rw [← Array.getElem?_toList, R.rows]
  unfold rowsN
  rw [List.getElem?_map, h]
  rfl
theorem SetSh.stays (R : SetSh w s.heap a L es ep t) : ¬ t.gaveWay = true := by
  unfold SetTable.gaveWay
  rw [R.tab.mok.le.2]
  decide
theorem memory_same (t : SetTable) : t.sameMemory t.moves t.mask = some true := by
  unfold SetTable.sameMemory
  rw [if_pos (beq_self_eq_true _)]
/-- the search from the c-th place of the way on -/
theorem seekN (R : SetSh w s.heap a L es ep t) (T : AllThere P w s.heap L) {x : Addr} {k : NestedKey} (hx : (nestedKind P w).is s.heap k x) (hu : A.units + 8 < cLine) {hk : Int} (ek : hk = k.hash w) {K : Nat} (hKf : K < 10 * SetTable.turns t.mask)
    (hK : way t.mask hk K ∉ t.place.toList) (hKb : ∀ c, c < K → way t.mask hk c ∈ t.place.toList) {Q : SetFound → Shared → Prop}
    (hin : k ∈ L.map (·.1) → Q (.there none) s) (hout : k ∉ L.map (·.1) → Q (.free (way t.mask hk K) false) s) :
    ∀ (f c : Nat) (stand : Option SetTable.Probe), stand.getD (t.probeStart hk) = nth t.mask (runAt t.mask (SetTable.bits hk % (t.mask + 1)) (SetTable.bits hk)) c → c ≤ K → K - c < f →
      (∀ (i : Nat) p, L[i]? = some p → p.1 = k → ∃ c', c ≤ c' ∧ c' < K ∧ t.place.toList[i]? = some (way t.mask hk c')) →
      wpAny (model P w) A (setSearchFrom a (.ref x) hk true f stand) Q E s
  | 0, c, stand, _, _, hf, _ => absurd hf (Nat.not_lt_zero _)
  | f + 1, c, stand, hst, hc, hf, hre => by
    obtain ⟨o, eo, _, ed⟩ := R.ob
    rw [setSearchFrom_succ]
    refine wpAny_bind (wpAny_setState_of eo ed R.fits ?_)
    dsimp only
    refine wp_if_neg R.stays ?_
    try refine wpAny_bind (wpAny_pure ?_)
    generalize hp0 : runAt t.mask (SetTable.bits hk % (t.mask + 1)) (SetTable.bits hk) = p0 at *
    have ew : ∀ q, way t.mask hk q = (nth t.mask p0 q).j := fun q => by rw [← hp0]
    have nodum : ∀ (n : Nat) (p : SetTable.Probe), p.dummy = none → (nth t.mask p n).dummy = none := fun n => by
      induction n with
      | zero => exact fun p z => z
      | succ n ih =>
        refine fun p z => ih (adv t.mask p) ?_
        unfold adv
        split <;> exact z
    have d0 : (nth t.mask p0 c).dummy = none := nodum c p0 (by rw [← hp0]; rfl)
    have sh : ∀ q, nth t.mask (nth t.mask p0 c) q = nth t.mask p0 (c + q) := fun q => (nth_add t.mask c p0 q).symm
    have hashAt : ∀ (i : Nat) p, L[i]? = some p → (es[i]?.map (·.1)).getD 0 = p.1.hash w := fun i p z => by
      rw [R.entry z]
      rfl
    rcases go_spec t R.tab.ris R.tab.dm (fun i => (es[i]?.map (·.1)).getD 0) hk (10 * SetTable.turns t.mask) (K - c) _ d0 (by omega)
      (fun q hq => by rw [sh, ← ew]; exact hKb _ (by omega)) (by rw [sh, ← ew, show c + (K - c) = K by omega]; exact hK) with ⟨q, i, hq, hi, hh, hno, hpr⟩ | ⟨hno, hpr⟩
    · -- one of that hash
      rw [sh, sh, ← ew] at hpr
      rw [sh, ← ew] at hi
      have met : t.probe (fun i => (es[i]?.map (·.1)).getD 0) hk (stand.getD (t.probeStart hk)) = some (.candidate (way t.mask hk (c + q)) i (nth t.mask p0 (c + (q + 1)))) := by
        rw [hst]
        exact hpr
      rw [met]
      dsimp only
      have hil : i < L.length := by
        have h1 := (List.getElem?_eq_some_iff.mp hi).1
        have h2 := R.tab.sz
        unfold hashN at h2
        rw [List.length_map] at h2
        rw [Array.length_toList] at h1
        omega
      obtain ⟨p, ep'⟩ : ∃ p, L[i]? = some p := ⟨_, List.getElem?_eq_getElem hil⟩
      have pm : p ∈ L := List.mem_of_getElem? ep'
      have more : wpAny (model P w) A (searchRest a (.ref x) hk true f es t (way t.mask hk (c + q)) i (nth t.mask p0 (c + (q + 1)))) Q E s := by
        unfold searchRest
        rw [R.entry ep']
        dsimp only
        refine wpAny_bind (wpAny_holding ((nestedKind P w).eqBool hu (T p pm) hx ?_))
        refine wpAny_bind (wpAny_setState_of eo ed R.fits ?_)
        dsimp only
        by_cases hkk : p.1 = k
        · exact wp_if_pos (by simp [hkk]) (wpAny_pure (hin (List.mem_map.mpr ⟨p, pm, hkk⟩)))
        · refine wp_if_neg (by simp [hkk]) ?_
          try refine wpAny_bind (wpAny_pure ?_)
          rw [memory_same]
          dsimp only
          have sl : t.slot (way t.mask hk (c + q)) = .live i := slot_live R.tab.ris hi
          simp only [if_true, sl, R.entry ep']
          refine wpAny_bind (wpAny_isSame_ref_self (wpAny_bind (wpAny_pure ?_)))
          simp only [if_true]
          refine wp_if_neg (by simp [hkk]) ?_
          refine seekN R T hx hu ek hKf hK hKb hin hout f (c + (q + 1)) _ (by rw [hp0]; rfl) (by omega) (by omega) fun i0 p1 e1 k1 => ?_
          obtain ⟨c', a1, a2, a3⟩ := hre i0 p1 e1 k1
          refine ⟨c', ?_, a2, a3⟩
          have n1 : ¬ c' < c + q := fun z => by
            refine hno (c' - c) i0 (by omega) (by rw [sh, ← ew, show c + (c' - c) = c' by omega]; exact a3) ?_
            rw [ek, ← k1]
            exact hashAt i0 p1 e1
          have n2 : c' ≠ c + q := fun z => by
            rw [z] at a3
            have s0 := slot_live R.tab.ris a3
            rw [sl] at s0
            injection s0 with s0
            rw [← s0, ep'] at e1
            cases e1
            exact hkk k1
          omega
      by_cases hl : t.led = true
      · refine wp_if_neg (by simp [hl]) ?_
        try refine wpAny_bind (wpAny_pure ?_)
        exact more
      · refine wp_if_pos (by simp [hl]) (wpAny_bind (unseen_key hx (fun y hy => ?_) ?_))
        · obtain ⟨e, he, rfl⟩ := List.mem_map.mp hy
          have he1 : e ∈ es ∧ e.1 = hk := by simpa using he
          have he2 : e ∈ es.toList := by simpa using he1.1
          rw [R.rows] at he2
          obtain ⟨p2, hp2, rfl⟩ := List.mem_map.mp he2
          exact ⟨p2.1, p2.2, rfl, T p2 hp2⟩
        · refine wp_if_neg (by decide) ?_
          try refine wpAny_bind (wpAny_pure ?_)
          exact more
    · -- none
      rw [sh, ← ew, show c + (K - c) = K by omega] at hpr
      have met : t.probe (fun i => (es[i]?.map (·.1)).getD 0) hk (stand.getD (t.probeStart hk)) = some (.empty (way t.mask hk K) none) := by
        rw [hst]
        exact hpr
      rw [met]
      refine wpAny_pure (hout fun hm => ?_)
      obtain ⟨p1, m1, k1⟩ := List.mem_map.mp hm
      obtain ⟨i0, e1⟩ := List.mem_iff_getElem?.mp m1
      obtain ⟨c', a1, a2, a3⟩ := hre i0 p1 e1 k1
      refine hno (c' - c) i0 (by omega) (by rw [sh, ← ew, show c + (c' - c) = c' by omega]; exact a3) ?_
      rw [ek, ← k1]
      exact hashAt i0 p1 e1
/-- the search that adding begins with -/
theorem searchN (R : SetSh w s.heap a L es ep t) (T : AllThere P w s.heap L) {x : Addr} {k : NestedKey} (hx : (nestedKind P w).is s.heap k x) (hu : A.units + 8 < cLine) {hk : Int} (ek : hk = k.hash w) {Q : SetFound → Shared → Prop}
    (hin : k ∈ L.map (·.1) → Q (.there none) s)
    (hout : ∀ K, k ∉ L.map (·.1) → way t.mask hk K ∉ t.place.toList → (∀ c, c < K → way t.mask hk c ∈ t.place.toList) → Q (.free (way t.mask hk K) false) s) :
    wpAny (model P w) A (setSearch a (.ref x) hk true) Q E s := by
  have hr := R.room
  have hz : (hashN w L).length = L.length := List.length_map _
  obtain ⟨K, hKf, hK, hKb⟩ := R.tab.gap (by omega) hk
  have big := R.tab.mok.le.1
  have hK2 : K < 100000 := by
    unfold SetTable.turns at hKf
    omega
  unfold setSearch
  refine seekN R T hx hu ek hKf hK hKb hin (fun no => hout K no hK hKb) 100000 0 none rfl (Nat.zero_le _) (by omega) fun i p e1 k1 => ?_
  have hi : (hashN w L)[i]? = some hk := by
    unfold hashN
    rw [List.getElem?_map, e1, ek, ← k1]
    rfl
  have hil : i < t.place.toList.length := by
    have h1 := (List.getElem?_eq_some_iff.mp e1).1
    have h2 := R.tab.sz
    rw [Array.length_toList]
    omega
  have hj := List.getElem?_eq_getElem hil
  obtain ⟨c, hc, e⟩ := R.tab.ahead hK hi hj
  exact ⟨c, Nat.zero_le _, hc, by rw [hj, e]⟩
theorem there_still {h h' : Heap} {k : NestedKey} {a b : Addr} {o : Obj} (x : (nestedKind P w).is h k b) (eo : h.get? a = some o) (ed : o.data = .set es ep t) (hs : Heap.SameBut a h h') : (nestedKind P w).is h' k b := by
  refine ⟨NestedIs.at (fun c u vs n e d => ?_) k _ x.1, x.2⟩
  by_cases z : c = a
  · subst z
    rw [eo] at e
    cases e
    rw [ed] at d
    cases d
  · exact (hs.2 c z).trans e
theorem order_rowsN (L : KAs) (es : Array (Int × Value)) (ord : Array Nat) (hr : es.toList = rowsN w L) (hp : ord.toList.Perm (List.range L.length)) :
    ∃ L2 : KAs, (ord.filterMap (es[·]?)).toList = rowsN w L2 ∧ L2.Perm L ∧ hashN w L2 = ord.toList.map fun i => (es.map (·.1)).getD i 0 := by
  have ent : ∀ (i : Nat) (p : NestedKey × Addr), L[i]? = some p → es[i]? = some (p.1.hash w, Value.ref p.2) := fun i p e => by
    rw [← Array.getElem?_toList, hr]
    unfold rowsN
    rw [List.getElem?_map, e]
    rfl
  have key : ∀ l : List Nat, (∀ i ∈ l, i < L.length) → l.filterMap (fun i => es[i]?) = rowsN w (l.filterMap (fun i => L[i]?)) ∧ hashN w (l.filterMap (fun i => L[i]?)) = l.map fun i => (es.map (·.1)).getD i 0 := fun l => by
    induction l with
    | nil => exact fun _ => ⟨rfl, rfl⟩
    | cons i l ih =>
      intro hl
      obtain ⟨e1, e2⟩ := ih fun j hj => hl j (List.mem_cons_of_mem _ hj)
      obtain ⟨p, ep⟩ : ∃ p, L[i]? = some p := ⟨_, List.getElem?_eq_getElem (hl i List.mem_cons_self)⟩
      rw [List.filterMap_cons_some (ent i p ep), List.filterMap_cons_some ep]
      refine ⟨by rw [e1]; rfl, ?_⟩
      have e4 : (es.map (·.1)).getD i 0 = p.1.hash w := by
        rw [Array.getD_eq_getD_getElem?, Array.getElem?_map, ent i p ep]
        rfl
      rw [List.map_cons, ← e2, e4]
      rfl
  obtain ⟨k1, k2⟩ := key ord.toList fun i hi => List.mem_range.mp (hp.mem_iff.mp hi)
  refine ⟨ord.toList.filterMap (fun i => L[i]?), by simpa using k1, ?_, k2⟩
  have h2 : ∀ n, n ≤ L.length → (List.range n).filterMap (fun i => L[i]?) = L.take n := fun n => by
    induction n with
    | zero => exact fun _ => rfl
    | succ n ih =>
      intro hn
      have e := List.getElem?_eq_getElem hn
      rw [List.range_succ, List.filterMap_append, ih (Nat.le_of_lt hn), List.take_succ, e, List.filterMap_cons_some e]
      rfl
  have z := h2 L.length (Nat.le_refl _)
  rw [List.take_length] at z
  have y := hp.filterMap (fun i => L[i]?)
  rwa [z] at y
end
end Ink
namespace Ink
open PySem PySem.Spec PyProof.Rows L2
section
variable {P : Program} {w : World} {A : Around} {E : Value → Shared → Prop} {s : Shared} {a : Addr} {L : KAs} {es : Array (Int × Value)} {ep : Nat} {t : SetTable}
/-- a greater table is laid -/
theorem relayN {o : Obj} (eo : s.heap.get? a = some o) (hex : o.ExactSet) (ed : o.data = .set es ep t) (hrows : es.toList = rowsN w L) (hsz : t.place.size = es.size) (hdm : t.dummies = #[]) (hfl : es.size ≤ t.mask)
    (nd : (L.map (·.1)).Nodup) (T : AllThere P w s.heap L) (pl : t.plain = true) (ld : w.params.followText "set-order" = true ∨ t.led = true) (few : L.length < 4915) {n M : Nat}
    (N : NextG t.mask n M) (hn : L.length = n) {Q : Unit → Shared → Prop}
    (hQ : ∀ h' L' es' ep' t', Heap.SameBut a s.heap h' → SetSh w h' a L' es' ep' t' → AllThere P w h' L' → L'.Perm L → Q () { s with heap := h' }) : wpAny (model P w) A (setRelay a (SetTable.grown n)) Q E s := by
  obtain ⟨hw, hM, hw2, hroom⟩ := N
  have hsl : es.size = L.length := by
    have h := congrArg List.length hrows
    unfold rowsN at h
    rwa [Array.length_toList, List.length_map] at h
  have hfits : t.fits es.size = true := by
    unfold SetTable.fits SetTable.fill
    rw [hdm, Bool.and_eq_true, beq_iff_eq, decide_eq_true_eq]
    refine ⟨hsz, ?_⟩
    show t.place.size + 0 ≤ t.mask
    omega
  have hms : (es.map (·.1)).size = es.size := Array.size_map ..
  obtain ⟨t', ord, e, hp, T1, em, el, ep1, ed1⟩ := relaidG t (hs := es.map (·.1)) (wanted := SetTable.grown n) hw hM (by omega)
  rw [hms, hsl] at hp
  obtain ⟨L2, r1, r2, r3⟩ := order_rowsN L es ord hrows hp
  rw [← r3] at T1
  have hs2 : (ord.filterMap (es[·]?)).size = es.size := by
    have h := congrArg List.length r1
    unfold rowsN at h
    rw [Array.length_toList, List.length_map, r2.length_eq] at h
    omega
  rw [setRelay_eq]
  refine wpAny_bind (wpAny_setState_of eo ed hfits ?_)
  dsimp only
  refine wp_if_neg (by rw [sizeLine_eq]; omega) ?_
  try refine wpAny_bind (wpAny_pure ?_)
  rw [e]
  dsimp only
  refine wpAny_bind (wp_if_neg (by rw [hs2]; simp) ?_)
  try refine wpAny_bind (wpAny_pure ?_)
  refine wpAny_pure ?_
  dsimp only
  refine wpAny_storeSet_of eo ed ?_ (by rw [hs2, hsl, sizeLine_eq]; omega)
  have sb : Heap.SameBut a s.heap (s.heap.update a (Obj.putSet (ord.filterMap (es[·]?)) t')) := Heap.SameBut.update ..
  refine hQ _ L2 _ (ep + 1) t' sb ⟨⟨_, store_at eo ed, ⟨hex.1, hex.2.1, hex.2.2⟩, rfl⟩, r1, T1, (r2.map (·.1)).nodup_iff.mpr nd, ep1.trans pl, ?_, ?_, ?_⟩ (fun p pm => there_still (T p (r2.mem_iff.mp pm)) eo ed sb) r2
  · rw [el]
    exact ld
  · rw [r2.length_eq, em, hn]
    exact hroom
  · rw [r2.length_eq]
    exact few
theorem put_rows (L : KAs) (p : Nat) (k : NestedKey) (x : Addr) : rowsN w (L.take p ++ (k, x) :: L.drop p) = (rowsN w L).take p ++ (k.hash w, Value.ref x) :: (rowsN w L).drop p := by
  unfold rowsN
  rw [List.map_append, List.map_cons, List.map_take, List.map_drop]
theorem put_hash (L : KAs) (p : Nat) (k : NestedKey) (x : Addr) : hashN w (L.take p ++ (k, x) :: L.drop p) = (hashN w L).take p ++ k.hash w :: (hashN w L).drop p := by
  unfold hashN
  rw [List.map_append, List.map_cons, List.map_take, List.map_drop]
theorem mid_perm {α : Type} (l : List α) (p : Nat) (x : α) : (l.take p ++ x :: l.drop p).Perm (x :: l) := by
  have z : (l.take p ++ x :: l.drop p).Perm (x :: (l.take p ++ l.drop p)) := List.perm_middle
  rwa [List.take_append_drop] at z
/-- one more member -/
theorem addN (R : SetSh w s.heap a L es ep t) (T : AllThere P w s.heap L) {x : Addr} {k : NestedKey} (hx : (nestedKind P w).is s.heap k x) (hsol : solid k = true) (hu : A.units + 8 < cLine) (hfew : L.length + 1 < 4915) {Q : Bool → Shared → Prop}
    (hQ : ∀ b h' L' es' ep' t', Heap.SameBut a s.heap h' → SetSh w h' a L' es' ep' t' → AllThere P w h' L' → (k ∈ L.map (·.1) → L' = L) → (k ∉ L.map (·.1) → L'.Perm ((k, x) :: L)) → Q b { s with heap := h' }) :
    wpAny (model P w) A (setAddHashed a (.ref x) (k.hash w)) Q E s := by
  obtain ⟨o, eo, hex, ed⟩ := R.ob
  have hsl := R.size
  have hroom := R.room
  unfold setAddHashed
  refine wpAny_holding ?_
  rw [show (100000 : Nat) = 99999 + 1 from rfl, setAddHashedIn_succ]
  refine wpAny_bind (wpAny_setState_of eo ed R.fits ?_)
  dsimp only
  refine wp_if_neg (by simp [byScan, Value.scannable]) ?_
  try refine wpAny_bind (wpAny_pure ?_)
  refine wpAny_bind (searchN R T hx hu rfl (fun hm => ?_) fun K hm hK hb => ?_)
  · exact wpAny_pure (hQ false s.heap L es ep t (Heap.SameBut.refl a s.heap) R T (fun _ => rfl) fun z => absurd hm z)
  · dsimp only
    refine wpAny_bind (wpAny_setState_of eo ed R.fits ?_)
    dsimp only
    obtain ⟨p, hp⟩ : ∃ p, SetTable.below t.place (way t.mask (k.hash w) K) = p := ⟨_, rfl⟩
    obtain ⟨q2, q3, q9⟩ := R.tab.put hK hb hp
    have q1 : (t.put (way t.mask (k.hash w) K)).2 = p := hp
    have q4 : (t.put (way t.mask (k.hash w) K)).1.mask = t.mask := rfl
    have q5 : (t.put (way t.mask (k.hash w) K)).1.led = t.led := rfl
    have q6 : (t.put (way t.mask (k.hash w) K)).1.plain = true := R.plain
    generalize hpt : t.put (way t.mask (k.hash w) K) = pt at q1 q3 q4 q5 q6 q9 ⊢
    obtain ⟨t1, p'⟩ := pt
    dsimp only at q1 q3 q4 q5 q6 q9 ⊢
    subst q1
    first
      | (refine wpAny_bind ?_; refine wp_if_pos q6 ?_; refine byval_key k _ A 8 _ _ hx.1 hx.2 hsol ?_)
      | refine wp_if_pos q6 (wpAny_bind (byval_key k _ A 8 _ _ hx.1 hx.2 hsol ?_))
    simp only [if_true]
    have hin : (SetTable.insertAt es p' (k.hash w, Value.ref x)).toList = rowsN w (L.take p' ++ (k, x) :: L.drop p') := by
      rw [SetTable.toList_insertAt, put_rows, R.rows]
    rw [← put_hash L p' k x] at q3
    have pm := mid_perm L p' (k, x)
    have hlen := pm.length_eq
    rw [List.length_cons] at hlen
    have nd1 : ((L.take p' ++ (k, x) :: L.drop p').map (·.1)).Nodup := (pm.map (·.1)).nodup_iff.mpr (List.nodup_cons.mpr ⟨hm, R.nd⟩)
    have hes : (SetTable.insertAt es p' (k.hash w, Value.ref x)).size = L.length + 1 := by
      have h := congrArg List.length hin
      unfold rowsN at h
      rwa [Array.length_toList, List.length_map, hlen] at h
    generalize SetTable.insertAt es p' (k.hash w, Value.ref x) = es1 at hin hes ⊢
    generalize L.take p' ++ (k, x) :: L.drop p' = L1 at pm hlen q3 nd1 hin
    refine wpAny_bind (wpAny_storeSet_of eo ed ?_ (by rw [hes, sizeLine_eq]; omega))
    have sb : Heap.SameBut a s.heap (s.heap.update a (Obj.putSet es1 t1)) := Heap.SameBut.update ..
    have eo1 := store_at (es' := es1) (t' := t1) eo ed
    generalize s.heap.update a (Obj.putSet es1 t1) = h1 at sb eo1 ⊢
    have T1 : AllThere P w h1 L1 := fun q hq => by
      rcases List.mem_cons.mp (pm.mem_iff.mp hq) with e | e
      · rw [e]
        exact there_still hx eo ed sb
      · exact there_still (T q e) eo ed sb
    have ld1 : w.params.followText "set-order" = true ∨ t1.led = true := by
      rw [q5]
      exact R.led
    have hz : (hashN w L).length = L.length := List.length_map _
    rw [hz] at q9
    by_cases hf : t1.tooFull = true
    · first
        | (refine wpAny_bind ?_; refine wp_if_pos (by simp [hf]) ?_)
        | (refine wp_if_pos (by simp [hf]) ?_; refine wpAny_bind ?_)
      have full : (L.length + 1) * 5 ≥ t.mask * 3 := by
        have h := hf
        unfold SetTable.tooFull at h
        rwa [decide_eq_true_eq, q9, q4] at h
      rw [hsl]
      have hsz1 : t1.place.size = es1.size := by
        have h := q3.sz
        unfold hashN at h
        rw [List.length_map, hlen] at h
        omega
      obtain ⟨M, N⟩ := growG R.tab.mok hroom full hfew
      have big := R.tab.mok.le.1
      refine relayN (P := P) (s := { s with heap := h1 }) eo1 ⟨hex.1, hex.2.1, hex.2.2⟩ rfl hin hsz1 q3.dm ?_ nd1 T1 q6 ld1 (by omega) (n := L.length + 1) (M := M) N hlen ?_
      · have := q3.sz
        have hm7 : 7 ≤ t.mask := by
          rcases R.tab.mok with e | e | e | e | e | e <;> omega
        rw [q4]
        omega
      · intro h2 L2 es2 ep2 t2 sb2 R2 T2 pm2
        exact wpAny_pure (hQ true h2 L2 es2 ep2 t2 (sb.trans sb2) R2 T2 (fun z => absurd z hm) fun _ => pm2.trans pm)
    · first
        | refine wp_if_neg (by simp [hf]) ?_
        | (refine wpAny_bind ?_; refine wp_if_neg (by simp [hf]) ?_; refine wpAny_pure ?_)
      have h := hf
      unfold SetTable.tooFull at h
      rw [decide_eq_true_eq, q9] at h
      exact wpAny_pure (hQ true h1 L1 es1 (ep + 1) t1 sb ⟨⟨_, eo1, ⟨hex.1, hex.2.1, hex.2.2⟩, rfl⟩, hin, q3, nd1, q6, ld1, by omega, by omega⟩ T1 (fun z => absurd z hm) fun _ => pm)
/-- s.add(x) -/
theorem call_addN (R : SetSh w s.heap a L es ep t) (T : AllThere P w s.heap L) {x : Addr} {k : NestedKey} (hx : (nestedKind P w).is s.heap k x) (hsol : solid k = true) (hu : A.units + 16 < cLine) (hfew : L.length + 1 < 4915) {Q : Value → Shared → Prop}
    (hQ : ∀ h' L' es' ep' t', Heap.SameBut a s.heap h' → SetSh w h' a L' es' ep' t' → AllThere P w h' L' → (k ∈ L.map (·.1) → L' = L) → (k ∉ L.map (·.1) → L'.Perm ((k, x) :: L)) → Q .none { s with heap := h', toks := s.toks + k.draws }) :
    wpAny (model P w) A (call (.builtin "set.add") [.ref a, .ref x]) Q E s := by
  obtain ⟨o, eo, hex, ed⟩ := id R.ob
  refine wpAny_call_entry F.slot_set_add ⟨o, eo, hex.1⟩ F.entry_set_add ?_ (F.args_set_add_2 _ _)
  unfold Builtin.«set.add» Builtin.Frozenset.oneOther
  simp only [List.isEmpty_nil, bind_assoc]
  unfold Builtin.Frozenset.addrOf setAdd
  refine wpAny_bind (wpAny_pure ?_)
  try dsimp only
  refine wpAny_bind (wpAny_pure ?_)
  try dsimp only
  refine wpAny_bind (wpAny_holding (wpAny_bind ((nestedKind P w).pyHash (show _ + 8 < cLine from ?_) hx ?_)))
  · simp only [Around.in1_units]
    omega
  refine addN (s := { s with toks := s.toks + k.draws }) R T hx hsol ?_ hfew fun b h' L' es' ep' t' sb R' T' z1 z2 => ?_
  · simp only [Around.in1_units]
    omega
  show wpAny _ _ (ret Value.none) _ _ _
  exact wpAny_pure ⟨_, rfl, hQ h' L' es' ep' t' sb R' T' z1 z2⟩
/-- a new one -/
theorem freshN {h : Heap} {a : Addr} (eo : h.get? a = some { cls := .type "set", dict := none, data := .set #[] 0 (.fresh 0 0 (!w.params.followText "set-order")) }) : SetSh w h a [] #[] 0 (.fresh 0 0 (!w.params.followText "set-order")) := by
  refine ⟨⟨_, eo, ⟨rfl, rfl, rfl⟩, rfl⟩, rfl, ⟨List.Pairwise.nil, rfl, rfl, .inl rfl, fun x hx => (by cases hx), fun i h j hi => (by simp [hashN] at hi)⟩, List.nodup_nil, rfl, ?_, by show 0 * 5 < 7 * 3; decide, by decide⟩
  show _ ∨ (!w.params.followText "set-order") = true
  cases w.params.followText "set-order"
  · exact .inr rfl
  · exact .inl rfl
end
end Ink
namespace Ink
open PySem PySem.Spec PyProof.Rows L2
/-! ### what stands in a set, gathered (no bound on how many but the line's) -/
section
variable {P : Program} {w : World} {A : Around} {E : Value → Shared → Prop} {s : Shared} {a : Addr} {es : Array (Int × Value)} {ep : Nat} {t : SetTable}
theorem iterN {Q : Value → Shared → Prop} (ha : SetAt s.heap a es ep t) (hf : t.fits es.size = true) (hp : t.plain = true) (r : Ris t.place.toList)
    (hl : w.params.followText "set-order" = true ∨ t.led = true) (hQ : ∀ s₂ I, SetIt P w s a es s₂ I → Q (.ref I) s₂) : wpAny (model P w) A (pyIter (.ref a)) Q E s := by
  obtain ⟨o, eo, ec, ed⟩ := id ha
  have hlt : a < s.heap.objs.size := Heap.lt_size eo
  have hne : a ≠ s.heap.objs.size := Nat.ne_of_lt hlt
  have nd : (!t.plain && decide (es.size > 1)) = false := by rw [hp]; rfl
  refine wpAny_pyIter_slot (T := "set") ⟨o, eo, ec⟩ F.slot_set_iter (wpAny_call_entry F.slot_set_iter ⟨o, eo, ec⟩ entry_s_iter ?_ (F.args_set_iter_1 _))
  unfold Builtin.«frozenset.__iter__»
  refine wpAny_bind (m := Builtin.Frozenset.slot0 "__iter__" _) (wpAny_of_eq (a := a) (by rfl) (wpAny_bind (m := Builtin.Frozenset.sizeOf a) ?_))
  unfold Builtin.Frozenset.sizeOf
  refine wpAny_bind (wpAny_setEntries_of eo ed hf (wpAny_pure ?_))
  have fin : ∀ {fp : List Addr} {b : Bool}, b = false → (∀ p ∈ [s.heap.objs.size, a], p = a ∨ s.heap.objs.size ≤ p) := fun _ p hp => by
    rcases List.mem_cons.mp hp with z | z
    · exact .inr (Nat.le_of_eq z.symm)
    · exact .inl (List.mem_singleton.mp z)
  have old : ∀ (oo : Obj) b u, s.heap.get? b = some u → (s.heap.push oo).get? b = some u := fun oo b u e => Heap.get?_push_of_some _ e
  first | refine wpAny_bind (setDrawn_at ha hf ?_) | refine wpAny_bind (wpAny_bind (setDrawn_at ha hf ?_))
  rw [nd, Bool.and_false]
  refine wp_if_neg Bool.false_ne_true ?_
  first | refine wpAny_bind (wpAny_pure ?_) | refine wpAny_pure ?_
  refine wpAny_bind (wpAny_setEpoch_of eo ed hf (wpAny_bind (wpAny_newObj_type (wpAny_pure ⟨_, rfl, "set_iterator", _, ⟨_, Heap.get?_push_size _ rfl, rfl⟩, slot_si_next.lookup, ?_⟩))))
  cases hb : w.params.followText "set-order" with
  | true =>
    refine hQ _ _ (SetIt.of (fun A' hA' => walks_text (P := P) (ep := ep) hA' hne hf hb) (out := (pickOrder (w.params.setOrder a ep) es).toList.map (·.2)) (by simp) (old _) rfl rfl rfl (Nat.le_refl _) (fin (fp := []) rfl)
      ((pick_perm (w.params.setOrder a ep) es).map _) (fun j v q => ?_) ⟨⟨_, Heap.get?_push_size _ rfl, rfl, rfl⟩, ha.at fun u e => old _ _ _ e⟩)
    rw [List.getElem?_map, Array.getElem?_toList]
    exact q
  | false =>
    refine hQ _ _ (SetIt.of (fun A' hA' => walks_led (P := P) (ep := ep) hA' hne hf r hb nd (hl.resolve_left (by rw [hb]; exact Bool.false_ne_true))) (out := es.toList.map (·.2)) (by simp) (old _) rfl rfl rfl (Nat.le_refl _) (fin (fp := []) rfl)
      (List.Perm.refl _) (fun j v q => ?_) ⟨⟨_, Heap.get?_push_size _ rfl, rfl, rfl⟩, ha.at fun u e => old _ _ _ e⟩)
    rw [List.getElem?_map, Array.getElem?_toList]
    exact q
theorem gatherN {Q : List Value → Shared → Prop} (hh : A.handled = none) (ha : SetAt s.heap a es ep t) (hf : t.fits es.size = true) (hp : t.plain = true) (hz : es.size ≤ sizeLine) (r : Ris t.place.toList)
    (hl : w.params.followText "set-order" = true ∨ t.led = true)
    (hQ : ∀ s' out, (∀ b o, s.heap.get? b = some o → s'.heap.get? b = some o) → s.heap.objs.size ≤ s'.heap.objs.size → s'.gens = s.gens → s'.os = s.os → out.Perm (es.toList.map (·.2)) → Q out s') :
    wpAny (model P w) A (collect (.ref a)) Q E s := by
  obtain ⟨o, eo, ec, ed⟩ := id ha
  have hlt : a < s.heap.objs.size := Heap.lt_size eo
  obtain ⟨N, hN⟩ : ∃ N, s.heap.objs.size = N := ⟨_, rfl⟩
  have hNa : N ≠ a := by rw [← hN]; exact Nat.ne_of_gt hlt
  unfold collect
  refine wpAny_bind (wpAny_runValue (codeAny_builtin F.entry_proto_collect ?_))
  rw [Around.under_plainId F.plain_proto_collect _]
  show wpAny _ A.in1 (newList [] >>= fun l => again (.builtin "list.__iadd__" ⟨[l, .ref a], []⟩)) _ _ s
  refine wpAny_bind (wpAny_newObj_type (wpAny_pure ⟨plainId_quiet F.plain_list_iadd _, codeAny_builtin F.entry_list_iadd ?_⟩))
  rw [Around.under_plainId F.plain_list_iadd _]
  have e0 : (s.heap.push { cls := .type "list", data := .seq ([] : List Value).toArray }).get? s.heap.objs.size = some { cls := .type "list", data := .seq ([] : List Value).toArray } := Heap.get?_push_size _ rfl
  have z0 : (s.heap.push { cls := .type "list", data := .seq ([] : List Value).toArray }).objs.size = s.heap.objs.size + 1 := size_push' _ _
  have old : ∀ b u, s.heap.get? b = some u → (s.heap.push { cls := .type "list", data := .seq ([] : List Value).toArray }).get? b = some u := fun b u e => Heap.get?_push_of_some _ e
  rw [hN] at e0 z0 ⊢
  generalize hh0 : s.heap.push { cls := .type "list", data := .seq ([] : List Value).toArray } = h0 at e0 z0 old ⊢
  show wpAny _ A.in1 (Builtin.List.listExtendWith (.ref N) (.ref a) (.ref N)) _ _ _
  unfold Builtin.List.listExtendWith
  refine wpAny_bind (wpAny_typeOf (T := "set") ⟨o, old _ _ eo, ec⟩ ?_)
  have c1 : Builtin.List.listSameRef (.ref N) (.ref a) = false := by simp [Builtin.List.listSameRef, hNa]
  have c2 : (Value.type "set" == Value.type "list") = false := by decide
  have c3 : (Value.type "set" == Value.type "tuple") = false := by decide
  simp only [c1, c2, c3, Bool.or_false, Bool.false_eq_true, if_false]
  refine wpAny_bind (iterN (s := { s with heap := h0 }) (ha.at fun u e => old _ _ e) hf hp r hl fun s₂ I hit => ?_)
  obtain ⟨fp, St, out, Pv, k2, g2, o2, t2, hI, hfp, pm, hW, hPv, hst⟩ := hit
  have hI : N + 1 ≤ I := by rw [← z0]; exact hI
  have hNf : N ∉ fp := fun hm => by
    rcases hfp _ hm with z | z
    · exact hNa z
    · have z : h0.objs.size ≤ N := z
      omega
  have eo2 := k2 a o (old _ _ eo)
  have hT2 : s₂.TypeIs (.ref a) "set" := ⟨o, eo2, ec⟩
  refine wpAny_bind (wpAny_holding ?_)
  unfold Builtin.List.listLengthHint
  refine wpAny_bind (wpAny_specialOf hT2 F.slot_set_len.lookup ?_)
  (generalize hid : ("set.__len__" : String) = id0; (fail_if_success (clear hid id0)); wp_delta; rw [show splitId id0 = some ("set", "__len__") from by subst hid; decide +kernel]; subst hid)
  refine wpAny_bind (wpAny_isInstance (b := true) hT2 sub_set_self ?_)
  show wpAny _ A.in1 (typeOf (.ref a) >>= _) _ _ _
  refine wpAny_bind (wpAny_typeOf hT2 (wpAny_pure ?_))
  show wpAny _ A.in1 (rule "list.extend.makes-room" >>= fun _ => Builtin.List.listTouch (.ref N) >>= fun _ =>
    again (.builtin "list.extend.loop" ⟨[.ref N, .ref I, .ref N], []⟩)) _ _ _
  refine wpAny_bind (wpAny_rule (wpAny_bind ?_))
  have eN := k2 _ _ e0
  show wpAny _ A.in1 (updateSeq N (·.push .none) >>= fun _ => updateSeq N (·.pop)) _ _ _
  refine wpAny_bind (wpAny_updateSeq eN rfl ?_)
  have eN2 := Heap.get?_update_self (Obj.mapSeq (·.push Value.none)) eN rfl
  refine wpAny_updateSeq eN2 rfl ?_
  have eN3 := Heap.get?_update_self (Obj.mapSeq (·.pop)) eN2 rfl
  have oth : ∀ b u, b ≠ N → s₂.heap.get? b = some u → ((s₂.heap.update N (Obj.mapSeq (·.push Value.none))).update N (Obj.mapSeq (·.pop))).get? b = some u :=
    fun b u nb e => (Heap.get?_update_other _ _ (Ne.symm nb)).trans ((Heap.get?_update_other _ _ (Ne.symm nb)).trans e)
  have hn : out.length ≤ sizeLine := by
    rw [pm.length_eq, List.length_map]
    exact hz
  have W := hW A.in1 hh
  have st3 := W.frame 0 _ _ hst fun b hb u e => oth b u (fun z => hNf (z ▸ hb)) e
  refine wpAny_pure ⟨plainId_quiet F.plain_extend_loop _, codeAny_extend_loopS W.toS hn _ hNf _ out.length 0 _ _ _ rfl (Nat.zero_le _) st3 eN3 (ItemsOf.nil Pv) fun s' acc' c' hm hS' hacc => ?_⟩
  show wpAny _ A (load N >>= _) _ _ s'
  refine wpAny_bind (wpAny_load hS' (wpAny_pure ?_))
  show Q acc'.toList s'
  rw [items_out hacc hPv]
  have hNs : N < s'.heap.objs.size := Heap.lt_size hS'
  refine hQ s' out (fun b u e => ?_) (by omega) (Eq.trans hm.gens g2) (Eq.trans hm.os o2) pm
  have hbl : b < N := by rw [← hN]; exact Heap.lt_size e
  refine hm.heap b u (fun z => ?_) (oth b u (Nat.ne_of_lt hbl) (k2 b u (old _ _ e)))
  rcases List.mem_cons.mp z with z | z
  · rw [z] at hbl
    exact Nat.lt_irrefl _ hbl
  · rw [List.mem_singleton.mp z] at hbl
    exact Nat.lt_irrefl _ (Nat.lt_of_lt_of_le hbl (Nat.le_of_succ_le hI))
end
end Ink
namespace Ink
open PySem PySem.Spec PyProof.Rows L2
/-! ### sets of nested tuples, as the reading sees them -/
mutual
theorem dep_key : ∀ k : NestedKey, k.data.depth ≤ k.depth
  | .none => by simp only [NestedKey.data, PyData.depth]; exact Nat.zero_le _
  | .num _ => by simp only [NestedKey.data, PyData.depth]; exact Nat.zero_le _
  | .text _ => by simp only [NestedKey.data, PyData.depth]; exact Nat.zero_le _
  | .tup ks => by
    have := dep_keys ks
    simp only [NestedKey.data, PyData.depth, NestedKey.depth]
    omega
theorem dep_keys : ∀ ks : List NestedKey, PyData.depthAll (NestedKey.datas ks) ≤ NestedKey.depthAll ks
  | [] => by simp only [NestedKey.datas, PyData.depthAll]; exact Nat.zero_le _
  | k :: ks => by
    have := dep_key k
    have := dep_keys ks
    simp only [NestedKey.datas, PyData.depthAll, NestedKey.depthAll]
    omega
end
def intsOnly : NestedKey → Bool
  | .num _ => true
  | .none => false
  | .text _ => false
  | .tup ks => intsAll ks
where intsAll : List NestedKey → Bool
  | [] => true
  | k :: ks => intsOnly k && intsAll ks
mutual
theorem solid_of : ∀ k : NestedKey, intsOnly k = true → solid k = true
  | .none, _ => rfl
  | .num _, _ => rfl
  | .text _, h => by
    unfold intsOnly at h
    cases h
  | .tup ks, h => by
    unfold solid
    unfold intsOnly at h
    exact solids_of ks h
theorem solids_of : ∀ ks : List NestedKey, intsOnly.intsAll ks = true → solid.solids ks = true
  | [], _ => rfl
  | k :: ks, h => by
    unfold intsOnly.intsAll at h
    rw [Bool.and_eq_true] at h
    unfold solid.solids
    rw [solid_of k h.1, solids_of ks h.2]
    rfl
end
mutual
/-- a key of data, read without any list -/
theorem key_reads {X : Cx} {pins : List (Addr × Obj)} {σ : L2.St} {H : Hp} {s : Shared} (I : Inv X pins σ H s) : ∀ (k : NestedKey) (v : V) (u : Value), Dp X.K H v k.data → RelV v u → Reads s.heap u k.data []
  | .none, _, _, h, r => by
    have h : Dp X.K H _ .none := h
    cases h
    cases r
    exact .none
  | .num i, _, _, h, r => by
    have h : Dp X.K H _ (.int i) := h
    cases h
    obtain ⟨t, rfl⟩ := r
    exact .int i t
  | .text x, _, _, h, r => by
    have h : Dp X.K H _ (.str x) := h
    cases h
    obtain ⟨t, rfl⟩ := r
    exact .str x t
  | .tup ks, v, u, h, r => by
    unfold NestedKey.data at h ⊢
    cases h with
    | tup hs ha =>
      cases r
      obtain ⟨its, rv, ⟨o, ho, hc, n, hd⟩, _⟩ := I.tuple hs
      exact .tuple ho hc hd (keys_read I ks _ its ha rv)
theorem keys_read {X : Cx} {pins : List (Addr × Obj)} {σ : L2.St} {H : Hp} {s : Shared} (I : Inv X pins σ H s) : ∀ (ks : List NestedKey) (vs : List V) (us : List Value), DpAll X.K H vs (NestedKey.datas ks) → Vals vs us → ReadsAll s.heap us (NestedKey.datas ks) []
  | [], _, _, h, r => by
    unfold NestedKey.datas at h ⊢
    cases h
    cases r
    exact .nil
  | k :: ks, _, _, h, r => by
    unfold NestedKey.datas at h ⊢
    cases h with
    | cons h1 h2 =>
      cases r with
      | cons r1 r2 => exact .cons (as := []) (bs := []) (key_reads I k _ _ h1 r1) (keys_read I ks _ _ h2 r2)
end
def SetNO (w : World) (a : Addr) (L : KAs) : HO := .ext fun h => ∃ es ep t, SetSh w h a L es ep t
theorem setNO_ne {w : World} {a : Addr} {L : KAs} : (∀ ys, SetNO w a L ≠ .lst ys) ∧ (∀ ys, SetNO w a L ≠ .tup ys) ∧ ∀ u v, SetNO w a L ≠ .frz u v := ⟨fun ys z => (by unfold SetNO at z; cases z), fun ys z => (by unfold SetNO at z; cases z), fun u v z => (by unfold SetNO at z; cases z)⟩
/-- at a stands a set with just these members (each once, in whatever order) -/
def SetAtN (w : World) (K : PySem.W.Frag) (H : Hp) (a : Addr) (S : List NestedKey) : Prop :=
  ∃ L : KAs, H a = some (SetNO w a L) ∧ (∀ p ∈ L, KeyAt K H (.ref p.2) p.1) ∧ (L.map (·.1)).Perm S
def insN (S : List NestedKey) (k : NestedKey) : List NestedKey := if k ∈ S then S else k :: S
section
variable {w : World} {K : PySem.W.Frag} {H H' : Hp} {a : Addr} {S : List NestedKey}
theorem setNO_ok {P : Program} {w : World} {H : Hp} {h : Heap} {a : Addr} {L : KAs} {es : Array (Int × Value)} {ep : Nat} {t : SetTable} (R : SetSh w h a L es ep t) : ObjOk P w H h a (SetNO w a L) := by
  obtain ⟨o, eo, _⟩ := id R.ob
  refine ⟨⟨es, ep, t, R⟩, ⟨o, eo⟩, fun h1 h2 z k => ?_⟩
  obtain ⟨es', ep', t', R'⟩ := (show ∃ es ep t, SetSh w h1 a L es ep t from z)
  obtain ⟨o', eo', r'⟩ := R'.ob
  exact ⟨es', ep', t', ⟨o', k o' eo', r'⟩, R'.rows, R'.tab, R'.nd, R'.plain, R'.led, R'.room, R'.few⟩
theorem SetAtN.up (hd : H' a = H a) (ht : ∀ b xs, SqT K H b xs → SqT K H' b xs) (h : SetAtN w K H a S) : SetAtN w K H' a S := by
  obtain ⟨L, e, hk, p⟩ := h
  exact ⟨L, hd.trans e, fun x hx => (hk x hx).up ht, p⟩
theorem SetAtN.same (e : Evl.Ex H H') (h : SetAtN w K H a S) : SetAtN w K H' a S := by
  obtain ⟨L, ea, hk, p⟩ := h
  exact ⟨L, e _ _ ea, fun x hx => (hk x hx).up fun _ _ => Evl.ex_t e, p⟩
theorem SetAtN.nodup {X : Cx} {pins : List (Addr × Obj)} {σ : L2.St} {s : Shared} (I : Inv X pins σ H s) (h : SetAtN X.w K H a S) : S.Nodup ∧ S.length < 4915 := by
  obtain ⟨L, e, _, p⟩ := h
  obtain ⟨es, ep, t, R⟩ := (show ∃ es ep t, SetSh X.w s.heap a L es ep t from (I.hok a _ e).1)
  have z := p.length_eq
  rw [List.length_map] at z
  exact ⟨p.nodup_iff.mp R.nd, by rw [← z]; exact R.few⟩
end
section
variable {X : Cx} {pins : List (Addr × Obj)} {σ : L2.St} {H : Hp} {s : Shared} {a : Addr} {S : List NestedKey}
theorem isN_of {X : Cx} {pins : List (Addr × Obj)} {σ : L2.St} {H : Hp} {s : Shared} (I : Inv X pins σ H s) {b : Addr} {k : NestedKey} (h : KeyAt X.K H (.ref b) k) : (nestedKind X.prog X.w).is s.heap k b := by
  obtain ⟨c, e1, e2, z⟩ := key_is (u := .ref b) I h rfl
  cases e1
  exact z
/-- s.add(x) -/
theorem setN_add {E : Value → Shared → Prop} {v : V} {u : Value} {k : NestedKey} {Q : Value → Shared → Prop} (hu : X.A.units + 100 < cLine) (I : Inv X pins σ H s) (h : SetAtN X.w X.K H a S) (hk : KeyAt X.K H v k) (r : RelV v u) (sol : intsOnly k = true) (few : S.length + 1 < 4915)
    (hQ : ∀ s' H', Inv X pins σ H' s' → SetAtN X.w X.K H' a (insN S k) → (∀ b, b ≠ a → H' b = H b) → Q .none s') : wpAny (model X.prog X.w) X.A (call (.builtin "set.add") [.ref a, u]) Q E s := by
  obtain ⟨L, e, hL, p⟩ := h
  obtain ⟨b, rfl, rfl, hb⟩ := key_is I hk r
  obtain ⟨es, ep, t, R⟩ := (show ∃ es ep t, SetSh X.w s.heap a L es ep t from (I.hok a _ e).1)
  have T : AllThere X.prog X.w s.heap L := fun q hq => isN_of I (hL q hq)
  have zl := p.length_eq
  rw [List.length_map] at zl
  refine call_addN R T hb (solid_of k sol) (by omega) (by omega) fun h' L' es' ep' t' sb R' T' c1 c2 => ?_
  obtain ⟨o', eo', _⟩ := id R'.ob
  have ok : ObjOk X.prog X.w (upd H a (SetNO X.w a L')) h' a (SetNO X.w a L') := setNO_ok R'
  have I' := I.write (e := a) (t' := s.toks + k.draws) (by rw [e]; trivial) (.inl rfl) (fun c w hc hw => (sb.2 c hc).trans hw) ⟨o', eo'⟩ ok
  have ht : ∀ c xs', SqT X.K H c xs' → SqT X.K (upd H a (SetNO X.w a L')) c xs' := fun c xs' hc => by
    rcases hc with (hc | ⟨oo, hc⟩) | hc
    · exact .inl (.inl (by rw [upd_ne (ne_of hc e (fun z => setNO_ne.2.1 _ z.symm))]; exact hc))
    · exact .inl (.inr ⟨oo, by rw [upd_ne (ne_of hc e (fun z => setNO_ne.2.2 _ _ z.symm))]; exact hc⟩)
    · exact .inr hc
  refine hQ _ _ I' ⟨L', upd_same, fun q hq => ?_, ?_⟩ fun c hc => upd_ne hc
  · by_cases m : k ∈ L.map (·.1)
    · rw [c1 m] at hq
      exact (hL q hq).up ht
    · rcases List.mem_cons.mp ((c2 m).mem_iff.mp hq) with z | z
      · rw [z]
        exact hk.up ht
      · exact (hL q z).up ht
  · unfold insN
    by_cases m : k ∈ L.map (·.1)
    · rw [if_pos (p.mem_iff.mp m), c1 m]
      exact p
    · rw [if_neg fun z => m (p.mem_iff.mpr z)]
      exact ((c2 m).map Prod.fst).trans (p.cons k)
theorem perm_map {α β : Type} (f : α → β) : ∀ {xs ys : List β}, xs.Perm ys → ∀ l : List α, xs = l.map f → ∃ l', l.Perm l' ∧ ys = l'.map f := by
  intro xs ys p
  induction p with
  | nil =>
    intro l e
    cases l with
    | nil => exact ⟨[], .nil, rfl⟩
    | cons x l => cases e
  | cons x p ih =>
    intro l e
    cases l with
    | nil => cases e
    | cons y l =>
      rw [List.map_cons] at e
      injection e with e1 e2
      obtain ⟨l', p', e'⟩ := ih l e2
      exact ⟨y :: l', p'.cons y, by rw [List.map_cons, e1, e']⟩
  | swap x y l0 =>
    intro l e
    match l, e with
    | a :: b :: l, e =>
      rw [List.map_cons, List.map_cons] at e
      injection e with e1 e2
      injection e2 with e2 e3
      exact ⟨b :: a :: l, .swap b a l, by rw [List.map_cons, List.map_cons, e1, e2, e3]⟩
  | trans p1 p2 ih1 ih2 =>
    intro l e
    obtain ⟨l1, q1, e1⟩ := ih1 l e
    obtain ⟨l2, q2, e2⟩ := ih2 l1 e1
    exact ⟨l2, q1.trans q2, e2⟩
theorem each_of {α : Type} {R : Value → α → Prop} {f : α → Value} : ∀ {l : List α}, (∀ x ∈ l, R (f x) x) → PySem.W.EachIs R (l.map f) l
  | [], _ => .nil
  | x :: l, h => .cons (h x List.mem_cons_self) (each_of fun y hy => h y (List.mem_cons_of_mem _ hy))
/-- sorted(a set): the order of what stands in it left open -/
def rSortedZ (w : World) (K : PySem.W.Frag) : List V → Hp → VK → Prop := fun vs H Q => ∃ (a : Addr) (S : List NestedKey), vs = [.ref a] ∧ SetAtN w K H a S ∧ PySem.W.AllAlike (S.map NestedKey.data) ∧ PySem.W.Sortable (S.map NestedKey.data) ∧
  ∀ (S' : List NestedKey) p ws, S'.Perm S → S.Nodup → H p = none → DpAll K H ws ((S'.map NestedKey.data).mergeSort (PySem.W.dataLe false id)) → Q (.ref p) (upd H p (.lst ws))
theorem cr_sortedZ (hc : X.calm = true) (hu : X.A.units + 100 < cLine) : CallR X (.builtin "sorted") (rSortedZ X.w X.K) := by
  intro pins s σ H vs us Q I r h
  obtain ⟨a, S, rfl, hS, hal, hso, q⟩ := h
  obtain ⟨ndS, fewS⟩ := hS.nodup I
  obtain ⟨L, e, hL, p⟩ := hS
  obtain ⟨es, ep, t, R⟩ := (show ∃ es ep t, SetSh X.w s.heap a L es ep t from (I.hok a _ e).1)
  rw [Vals.ref1 r]
  obtain ⟨o, eo, hex, ed⟩ := id R.ob
  have hsz := R.size
  have hfew := R.few
  refine Calls.call_function_entry kind_sorted plain_sorted entry_sorted (args_sorted1 _) ?_
  unfold Builtin.«sorted»
  refine wpAny_bind (m := checkCount "sorted" 1 1 _) (wpAny_pure ?_)
  refine wpAny_bind (gatherN (A := X.A.in1) (I.ok.hd hc) ⟨o, eo, hex.1, ed⟩ R.fits R.plain (by rw [hsz, sizeLine_eq]; omega) R.tab.ris R.led fun s1 out1 k1 hz g1 o1 pm => ?_)
  have ees : es.toList.map (·.2) = L.map fun q => Value.ref q.2 := by
    rw [R.rows]
    unfold rowsN
    rw [List.map_map]
    rfl
  rw [ees] at pm
  obtain ⟨L1, p1, rfl⟩ := perm_map (fun q : NestedKey × Addr => Value.ref q.2) pm.symm L rfl
  refine wpAny_bind (wpAny_newList ?_ (by rw [List.length_map, ← p1.length_eq, sizeLine_eq]; omega))
  have eN : (s1.heap.push (seqObj "list" (L1.map fun q => Value.ref q.2).toArray 0)).get? s1.heap.objs.size = some (seqObj "list" (L1.map fun q => Value.ref q.2).toArray 0) := Heap.get?_push_size _ rfl
  have keep1 : ∀ b u, s.heap.get? b = some u → (s1.heap.push (seqObj "list" (L1.map fun q => Value.ref q.2).toArray 0)).get? b = some u := fun b u z => Heap.get?_push_of_some _ (k1 b u z)
  have kd : (L1.map fun q => q.1.data) = (L1.map (·.1)).map NestedKey.data := by rw [List.map_map]; rfl
  have pS : (L1.map (·.1)).Perm S := (p1.symm.map _).trans p
  have mS : ∀ d ∈ (L1.map fun q => q.1.data), d ∈ S.map NestedKey.data := fun d hd => by
    rw [kd] at hd
    exact (pS.map _).mem_iff.mp hd
  have hk1 : ∀ q ∈ L1, KeyAt X.K H (.ref q.2) q.1 := fun q hq => hL q (p1.mem_iff.mpr hq)
  have each : PySem.W.EachIs (fun u (q : NestedKey × Addr) => u = Value.ref q.2 ∧ KeyAt X.K H (.ref q.2) q.1) (L1.map fun q => Value.ref q.2) L1 := each_of fun q hq => ⟨rfl, hk1 q hq⟩
  have each2 : PySem.W.EachIs (fun u (q : NestedKey × Addr) => ∃ as, Reads (s1.heap.push (seqObj "list" (L1.map fun q => Value.ref q.2).toArray 0)) u q.1.data as ∧ s1.heap.objs.size ∉ as) (L1.map fun q => Value.ref q.2) L1 :=
    each_of fun q hq => ⟨[], PyProof.Rows.Reads.keeps (fun b u z => keep1 b u z) (key_reads I q.1 (.ref q.2) _ (hk1 q hq).1 rfl), fun z => nomatch z⟩
  refine wpAny_bind (wpAny_holding (PySem.W.list_sort_data (enc := fun q : NestedKey × Addr => q.1.data) (s := { s1 with heap := s1.heap.push (seqObj "list" (L1.map fun q => Value.ref q.2).toArray 0) }) eN each each2 (fun d hd d' hd' => hal d (mS d hd) d' (mS d' hd')) ?_ (by rw [← p1.length_eq, sizeLine_eq]; omega) (fun q hq => ?_) fun out ho hout => ?_))
  · rcases hso with z | z
    · exact .inl fun d hd => z d (mS d hd)
    · exact .inr fun d hd => z d (mS d hd)
  · have := (hk1 q hq).2.1
    have z : (q.1.data).depth ≤ q.1.depth := dep_key q.1
    simp only [Around.in1_units]
    omega
  · refine wpAny_pure ⟨_, rfl, ?_⟩
    obtain ⟨c, hcl⟩ := sortedHeap_at (vs := L1.map fun q => Value.ref q.2) (out := out.toArray) eN
    generalize hf : sortedHeap (s1.heap.push (seqObj "list" (L1.map fun q => Value.ref q.2).toArray 0)) s1.heap.objs.size (L1.map fun q => Value.ref q.2) out.toArray = hF at hcl
    have keepF : ∀ b u, s.heap.get? b = some u → hF.get? b = some u := fun b u z => by
      have y := k1 b u z
      have hlt := Heap.lt_size y
      rw [← hf, sortedHeap_old (Nat.ne_of_lt hlt) (by rw [size_push']; exact Nat.lt_succ_of_lt hlt)]
      exact Heap.get?_push_of_some _ y
    obtain ⟨ws, v1, d1⟩ : ∃ ws, Vals ws out ∧ DpAll X.K H ws (((L1.map (·.1)).map NestedKey.data).mergeSort (PySem.W.dataLe false id)) := by
      have em : (L1.mergeSort (PySem.W.dataLe false fun q : NestedKey × Addr => q.1.data)).map (fun q => q.1.data) = ((L1.map (·.1)).map NestedKey.data).mergeSort (PySem.W.dataLe false id) := by
        rw [← kd]
        exact List.map_mergeSort (r := PySem.W.dataLe false fun q : NestedKey × Addr => q.1.data) (s := PySem.W.dataLe false id) (f := fun q : NestedKey × Addr => q.1.data) (l := L1) fun a _ b _ => rfl
      rw [← em]
      clear em ho hcl hf
      have go : ∀ (bs : List (NestedKey × Addr)) (out : List Value), PySem.W.EachIs (fun u (q : NestedKey × Addr) => u = Value.ref q.2 ∧ KeyAt X.K H (.ref q.2) q.1) out bs → ∃ ws, Vals ws out ∧ DpAll X.K H ws (bs.map fun q => q.1.data) := fun bs => by
        induction bs with
        | nil =>
          intro out z
          cases z
          exact ⟨[], .nil, .nil⟩
        | cons b bs ih =>
          intro out z
          cases z with
          | cons z1 z2 =>
            obtain ⟨ws, y1, y2⟩ := ih _ z2
            obtain ⟨rfl, z1⟩ := z1
            exact ⟨.ref b.2 :: ws, .cons rfl y1, .cons z1.1 y2⟩
      exact go _ _ hout
    have hn : H s1.heap.objs.size = none := I.hok.fresh hz
    have hwl : ws.length ≤ sizeLine := by
      have := v1.length
      have := p1.length_eq
      rw [sizeLine_eq]
      omega
    have J : Inv X pins σ (upd H s1.heap.objs.size (.lst ws)) { s with heap := hF, gens := s1.gens, drawn := s1.drawn, toks := s1.toks } :=
      I.call (ch := []) (Un.laid keepF hz hn) (I.hok.laid keepF hz ⟨hwl, out, c, v1, hcl⟩) (by rw [g1]; exact I.bare) (fun _ z => nomatch z)
    have es' : ({ s1 with heap := hF } : Shared) = { s with heap := hF, gens := s1.gens, drawn := s1.drawn, toks := s1.toks } := by
      cases s1
      cases s
      cases o1
      rfl
    rw [es']
    exact ⟨.ref _, _, J, rfl, q _ _ ws pS ndS hn d1⟩
end
end Ink
namespace Ink
open PySem PySem.Spec PyProof.Rows L2
/-! ### set comprehensions of one and of two clauses -/
section
variable {prog : Program} {w : World} {A : Around} {R : Result → Shared → Prop} {s : Shared} {elt t0 i0 t1 i1 : Expr} {ifs0 ifs1 : List Expr} {scope : Scope} {pos : Pos} {it acc : Value} {env : Env}
abbrev sc2E (elt t0 i0 t1 i1 : Expr) (ifs0 ifs1 : List Expr) (scope : Scope) (pos : Pos) : Expr := .SetComp elt [⟨t0, i0, ifs0, 0⟩, ⟨t1, i1, ifs1, 0⟩] scope pos
/-- the tests of a clause, one behind another -/
abbrev testsB (ifs : List Expr) (env : Env) : Sem Bool := forIn ifs true fun c r => if r = true then do let ok ← isTrue c env (eval c env); pure (ForInStep.yield ok) else pure (ForInStep.yield r)
theorem sc2_turn0 : compTurn (sc2E elt t0 i0 t1 i1 ifs0 ifs1 scope pos) 0 it acc env = (do
      standAt i0.pos
      match ← pyNext it with
      | none => pure (.done .next)
      | some x =>
        letOwnedTupleGo t0 it x
        assign t0 env x
        let mut good := true
        for c in ifs0 do
          if good then good ← isTrue c env (eval c env)
        if good then
          let y ← eval i1 env
          standAt i1.pos
          let y ← foldedSetIterable i1 env y
          let _ ← runOwn (.compStart (sc2E elt t0 i0 t1 i1 ifs0 ifs1 scope pos) 1 (← holding [y] (pyIter y)) acc env) env
        again (.compLoop (sc2E elt t0 i0 t1 i1 ifs0 ifs1 scope pos) 0 it acc env)) := by rfl
theorem sc2_turn1 : compTurn (sc2E elt t0 i0 t1 i1 ifs0 ifs1 scope pos) 1 it acc env = (do
      standAt i1.pos
      match ← pyNext it with
      | none => pure (.done .next)
      | some x =>
        letOwnedTupleGo t1 it x
        assign t1 env x
        let mut good := true
        for c in ifs1 do
          if good then good ← isTrue c env (eval c env)
        if good then
          (do let y ← eval elt env; standAt elt.pos; let _ ← call (.builtin "set.add") [acc, y])
        again (.compLoop (sc2E elt t0 i0 t1 i1 ifs0 ifs1 scope pos) 1 it acc env)) := by rfl
theorem sc2_loop0 (hs : ∀ x, foldedSetIterable i1 env x = pure x) (J : Nat → Shared → Prop)
    (turn : ∀ n s, J n s → wpAny (model prog w) A (pyNext it) (fun r z1 => match r with
      | none => R (.ok .next) z1
      | some x => wpAny (model prog w) A (letOwnedTupleGo t0 it x) (fun _ z2 => wpAny (model prog w) A (assign t0 env x) (fun _ z3 => wpAny (model prog w) A (testsB ifs0 env) (fun good z4 =>
            if good = true then wpAny (model prog w) A (eval i1 env) (fun y z5 => wpAny (model prog w) A (pyIter y) (fun it1 z6 =>
              codeAny (model prog w) A (.compStart (sc2E elt t0 i0 t1 i1 ifs0 ifs1 scope pos) 1 it1 acc env) (fun r z => match r with
                | .ok _ => ∃ m, m < n ∧ J m z
                | .error _ => False) z6) (fun _ _ => False) z5) (fun _ _ => False) z4
            else ∃ m, m < n ∧ J m z4) (fun _ _ => False) z3) (fun _ _ => False) z2) (fun _ _ => False) z1) (fun _ _ => False) s)
    (n : Nat) (h : J n s) : codeAny (model prog w) A (.compLoop (sc2E elt t0 i0 t1 i1 ifs0 ifs1 scope pos) 0 it acc env) R s := by
  refine codeAny_loop rfl J (fun n s hJ => ?_) n h
  show wpAny _ A ((compTurn (sc2E elt t0 i0 t1 i1 ifs0 ifs1 scope pos) 0 it acc env).onRaise (fun x => do noteFrame x env; theTreesLotGoes x)) _ _ s
  refine wpAny_noted ?_
  rw [sc2_turn0]
  refine wpAny_bind (wpAny_standAt (wpAny_bind (thnF (turn n s hJ) fun r z1 q1 => ?_)))
  cases r with
  | none => exact wpAny_pure q1
  | some x =>
    refine wpAny_bind (thnF q1 fun _ z2 q2 => wpAny_bind (thnF q2 fun _ z3 q3 => wpAny_bind (thnF q3 fun good z4 q4 => ?_)))
    cases good with
    | false => exact wpAny_pure ⟨rfl, q4⟩
    | true =>
      refine wpAny_bind (thnF q4 fun y z5 q5 => wpAny_bind (wpAny_standAt (wpAny_bind (wpAny_of_eq (hs y) (wpAny_bind (wpAny_holding (thnF q5 fun it1 z6 q6 => ?_)))))))
      refine wpAny_bind (wpAny_runOwn ?_)
      rw [Around.mark_none]
      refine codeAny_mono q6 fun r z hr => ?_
      cases r with
      | ok f => first | exact wpAny_pure ⟨rfl, hr⟩ | exact wpAny_bind (wpAny_pure (wpAny_pure ⟨rfl, hr⟩))
      | error e => exact hr.elim
theorem sc2_loop1 (J : Nat → Shared → Prop)
    (turn : ∀ n s, J n s → wpAny (model prog w) A (pyNext it) (fun r z1 => match r with
      | none => R (.ok .next) z1
      | some x => wpAny (model prog w) A (letOwnedTupleGo t1 it x) (fun _ z2 => wpAny (model prog w) A (assign t1 env x) (fun _ z3 => wpAny (model prog w) A (testsB ifs1 env) (fun good z4 =>
            if good = true then wpAny (model prog w) A (eval elt env) (fun y z5 => wpAny (model prog w) A (call (.builtin "set.add") [acc, y]) (fun _ z6 => ∃ m, m < n ∧ J m z6) (fun _ _ => False) z5) (fun _ _ => False) z4
            else ∃ m, m < n ∧ J m z4) (fun _ _ => False) z3) (fun _ _ => False) z2) (fun _ _ => False) z1) (fun _ _ => False) s)
    (n : Nat) (h : J n s) : codeAny (model prog w) A (.compLoop (sc2E elt t0 i0 t1 i1 ifs0 ifs1 scope pos) 1 it acc env) R s := by
  refine codeAny_loop rfl J (fun n s hJ => ?_) n h
  show wpAny _ A ((compTurn (sc2E elt t0 i0 t1 i1 ifs0 ifs1 scope pos) 1 it acc env).onRaise (fun x => do noteFrame x env; theTreesLotGoes x)) _ _ s
  refine wpAny_noted ?_
  rw [sc2_turn1]
  refine wpAny_bind (wpAny_standAt (wpAny_bind (thnF (turn n s hJ) fun r z1 q1 => ?_)))
  cases r with
  | none => exact wpAny_pure q1
  | some x =>
    refine wpAny_bind (thnF q1 fun _ z2 q2 => wpAny_bind (thnF q2 fun _ z3 q3 => wpAny_bind (thnF q3 fun good z4 q4 => ?_)))
    cases good with
    | false => exact wpAny_pure ⟨rfl, q4⟩
    | true => exact wpAny_bind (wpAny_bind (thnF q4 fun y z5 q5 => wpAny_bind (wpAny_standAt (wpAny_bind (thnF q5 fun _ z6 q6 => wpAny_pure (wpAny_pure ⟨rfl, q6⟩))))))
theorem sc2_start0 (h : codeAny (model prog w) A (.compLoop (sc2E elt t0 i0 t1 i1 ifs0 ifs1 scope pos) 0 it acc env) R s)
    (h2 : wpAny (model prog w) A (pyIter it) (fun it' z => codeAny (model prog w) A (.compLoop (sc2E elt t0 i0 t1 i1 ifs0 ifs1 scope pos) 0 it' acc env) R z) (notedBy (model prog w) A env fun x z => R (.error x) z) s) :
    codeAny (model prog w) A (.compStart (sc2E elt t0 i0 t1 i1 ifs0 ifs1 scope pos) 0 it acc env) R s := codeAny_compStart_set h h2
theorem sc2_start1 (h : codeAny (model prog w) A (.compLoop (sc2E elt t0 i0 t1 i1 ifs0 ifs1 scope pos) 1 it acc env) R s)
    (h2 : wpAny (model prog w) A (pyIter it) (fun it' z => codeAny (model prog w) A (.compLoop (sc2E elt t0 i0 t1 i1 ifs0 ifs1 scope pos) 1 it' acc env) R z) (notedBy (model prog w) A env fun x z => R (.error x) z) s) :
    codeAny (model prog w) A (.compStart (sc2E elt t0 i0 t1 i1 ifs0 ifs1 scope pos) 1 it acc env) R s := by
  refine codeAny_of_tree ?_
  show wpAny _ A ((compStart (sc2E elt t0 i0 t1 i1 ifs0 ifs1 scope pos) 1 it acc env).onRaise (fun x => do noteFrame x env; standAt theWindowsPlace)) _ _ s
  refine wpAny_notedAt ?_
  unfold compStart
  show wpAny _ A (ask >>= _) _ _ s
  refine wpAny_bind (wpAny_askSetting (wpAny_ite ?_))
  have yes : ∀ z, codeAny (model prog w) A (.compLoop (sc2E elt t0 i0 t1 i1 ifs0 ifs1 scope pos) 1 it acc env) R z → codeAny (model prog w) A (.compLoop (sc2E elt t0 i0 t1 i1 ifs0 ifs1 scope pos) 1 it acc env) R z := fun _ q => q
  split
  · first
      | exact wpAny_bind (wpAny_pure (wpAny_pure (And.intro rfl h)))
      | exact wpAny_pure (And.intro rfl h)
  · first
      | exact wpAny_bind (wpAny_rule (wpAny_bind (wpAny_standAt (wpAny_bind (wpAny_mono h2 (fun it' z q => wpAny_pure (And.intro rfl q)) fun _ _ x => x)))))
      | (refine wpAny_bind (wpAny_rule ?_); show wpAny _ _ (standAt i1.pos >>= _) _ _ s; exact wpAny_bind (wpAny_standAt (wpAny_bind (wpAny_mono h2 (fun it' z q => wpAny_pure (And.intro rfl q)) fun _ _ x => x))))
end
/-! what a kind of sets owes: its new one, and one more member -/
def freshSet (w : World) : Obj := { cls := .type "set", dict := none, data := .set #[] 0 (.fresh 0 0 (!w.params.followText "set-order")) }
abbrev Adds := Addr → V → Hp → (Hp → Prop) → Prop
def AddOk (X : Cx) (Ad : Adds) : Prop := ∀ (pins : List (Addr × Obj)) (σ : L2.St) (H : Hp) (s : Shared) (D : Addr) (y : V) (u : Value) (Nx : Hp → Prop), Inv X pins σ H s → RelV y u → Ad D y H Nx →
  wpAny (model X.prog X.w) X.A (call (.builtin "set.add") [.ref D, u]) (fun _ s' => ∃ H', Inv X pins σ H' s' ∧ Nx H') (fun _ _ => False) s
def NewOk (X : Cx) (Nw : Addr → HO) : Prop := ∀ (H : Hp) (h : Heap) (D : Addr), h.get? D = some (freshSet X.w) → ObjOk X.prog X.w H h D (Nw D)
section
variable {X : Cx}
/-- {elt for tg in iter if .. for tg1 in iter1 if ..}, by the turns of both clauses; vs: the block's names, vs1: those of the second target -/
def tSc2 (Nw : Addr → HO) (Ad : Adds) (wi : TI) (g : TG) (tt : TT) (wi1 : TI) (g1 : TG) (tt1 : TT) (te : TE) (vs vs1 : List Nat) : TE := fun σ H Q => wi σ H fun J H1 => ∀ D, H1 D = none → ∃ W : Nat → Nat → Hp → Prop, (∃ m, W 0 m (upd H1 D (Nw D))) ∧ ∀ i m H, W i m H →
  (J.stop i H ∧ Q (.ref D) H) ∨ (J.go i H ∧ ∃ Nx : Hp → Prop, (∀ H', Nx H' → ∃ m', m' < m ∧ W (i + 1) m' H') ∧ ∀ x H', J.yld i H x H' → g x (wipe σ vs) H' fun σ2 H2 => wipe σ2 vs = wipe σ vs ∧ tt σ2 H2 fun b H3 =>
    if b = true then wi1 σ2 H3 fun J1 H4 => ∃ W1 : Nat → Nat → Hp → Prop, (∃ m, W1 0 m H4) ∧ ∀ j k H, W1 j k H →
      (J1.stop j H ∧ Nx H) ∨ (J1.go j H ∧ ∃ Nx1 : Hp → Prop, (∀ H', Nx1 H' → ∃ k', k' < k ∧ W1 (j + 1) k' H') ∧ ∀ x H', J1.yld j H x H' → g1 x (wipe σ2 vs1) H' fun σ3 H5 => wipe σ3 vs1 = wipe σ2 vs1 ∧ tt1 σ3 H5 fun b H6 =>
        if b = true then te σ3 H6 fun y H7 => Ad D y H7 Nx1 else Nx1 H6)
    else Nx H3)
theorem sc2_core {pins : List (Addr × Obj)} {s : Shared} {σ : L2.St} {H : Hp} {Q : VK} {elt tg iter tg1 iter1 : Expr} {ifs ifs1 : List Expr} {scope : Scope} {own : List (Str × Nat)} {vs1 : List Nat} {pos pos' : Pos} {wi wi1 : TI} {g g1 : TG} {tt tt1 : TT} {te : TE} {Qf : Value → Shared → Prop} {Nw : Addr → HO} {Ad : Adds}
    (hc : X.calm = true) (hN : X.N.Nodup) (I : Inv X pins σ H s) (hi : PI X tg iter wi) (ok : BlkOk X.N X.env.scope scope own) (hv : ∀ i ∈ vs1, i ∈ own.map (·.2)) (hnw : NewOk X Nw)
    (had : ∀ (s : Shared) (H : Hp) (C : Addr) (cl : List (Str × Addr)) (fp : List Addr), AddOk (X.blk s H scope (compEnvC scope cl C X.env) fp) Ad)
    (hg : ∀ (s : Shared) (H : Hp) (C : Addr) (cl : List (Str × Addr)) (fp : List Addr), PG (X.blk s H scope (compEnvC scope cl C X.env) fp) tg g) (ht : ∀ (s : Shared) (H : Hp) (C : Addr) (cl : List (Str × Addr)) (fp : List Addr), PTs (X.blk s H scope (compEnvC scope cl C X.env) fp) ifs tt)
    (he : ∀ (s : Shared) (H : Hp) (C : Addr) (cl : List (Str × Addr)) (fp : List Addr), PE (X.blk s H scope (compEnvC scope cl C X.env) fp) elt te) (hs : ∀ x, foldedSetIterable iter X.env x = pure x)
    (hi1 : ∀ (s : Shared) (H : Hp) (C : Addr) (cl : List (Str × Addr)) (fp : List Addr), PI (X.blk s H scope (compEnvC scope cl C X.env) fp) tg1 iter1 wi1)
    (hg1 : ∀ (s : Shared) (H : Hp) (C : Addr) (cl : List (Str × Addr)) (fp : List Addr), PG (X.blk s H scope (compEnvC scope cl C X.env) fp) tg1 g1)
    (ht1 : ∀ (s : Shared) (H : Hp) (C : Addr) (cl : List (Str × Addr)) (fp : List Addr), PTs (X.blk s H scope (compEnvC scope cl C X.env) fp) ifs1 tt1)
    (hs1 : ∀ env x, foldedSetIterable iter1 env x = pure x)
    (h : tSc2 Nw Ad wi g tt wi1 g1 tt1 te (own.map (·.2)) vs1 σ H Q)
    (back : ∀ D C s' m H', Inv X pins σ H' s' → Q (.ref D) H' → s'.heap.Ns C m → FpOk X pins H' C → compPost (model X.prog X.w) X.A X.xe none Qf (.ref D) C (.ok .next) s') :
    wpAny (model X.prog X.w) X.A (comprehension (sc2E elt tg iter tg1 iter1 ifs ifs1 scope pos) scope X.env pos' (newSet (.type "set")) false (eval iter X.env) none) Qf X.xe s := by
  have hfree : ∀ y ∈ scope.names, y.2 = .free → ∃ c, X.env.cells.lookup y.1 = some c := fun y hy e => (ok.free y hy e).elim (fun k => I.ok.has _ (.inl k)) (fun k => I.ok.has _ (.inr k))
  refine wpAny_comprehension_free (use := none) rfl hs (closure_ok hfree) ok.kind (fun y hy e => by rw [ok.uniq y hy, e])
    (thn (hi.run pins s σ H _ I h) fun xv s1 hx => thn hx fun itv s2 h2 => ?_)
  obtain ⟨it, fp, tn, J, H2, rfl, I2, T, st2, f2, q⟩ := h2
  refine wpAny_newSet_raw fun led hled => newEnv_comp ?_
  subst hled
  obtain ⟨D, hD⟩ : ∃ D, s2.heap.objs.size = D := ⟨_, rfl⟩
  obtain ⟨W, ⟨m0, w0⟩, turn⟩ := q D (I2.hok.fresh (Nat.le_of_eq hD))
  -- the new set
  show codeAny _ _ (.compStart (sc2E elt tg iter tg1 iter1 ifs ifs1 scope pos) 0 (.ref it) (.ref s2.heap.objs.size) (compEnvC scope (cellsFrom (({ s2 with heap := s2.heap.push (freshSet X.w) } : Shared).heap.objs.size + 1) scope.names (cloFrom X.env.cells scope.names [])) ({ s2 with heap := s2.heap.push (freshSet X.w) } : Shared).heap.objs.size X.env)) (compPost (model X.prog X.w) X.A X.xe none Qf (.ref s2.heap.objs.size) ({ s2 with heap := s2.heap.push (freshSet X.w) } : Shared).heap.objs.size) { ({ s2 with heap := s2.heap.push (freshSet X.w) } : Shared) with heap := pushCells (({ s2 with heap := s2.heap.push (freshSet X.w) } : Shared).heap.push { cls := .type "dict", data := .dict #[] }) scope.names }
  rw [hD]
  generalize hs3 : ({ s2 with heap := s2.heap.push (freshSet X.w) } : Shared) = s3
  have h3 : s3.heap = s2.heap.push (freshSet X.w) := by rw [← hs3]
  have I3 : Inv X pins σ (upd H2 D (Nw D)) s3 := by
    rw [← hs3]
    refine I2.laid (t' := s2.toks) (fun b o e => Heap.get?_push_of_some _ e) (Nat.le_of_eq hD) (hnw _ _ _ ?_)
    rw [← hD]
    exact Heap.get?_push_size _ rfl
  have f3 : ∀ b ∈ fp, FpOk X pins (upd H2 D (Nw D)) b ∧ b < s3.heap.objs.size := fun b hb => by
    obtain ⟨o, e, _⟩ := T.obj _ _ st2 b hb
    have hlt := Heap.lt_size e
    refine ⟨⟨?_, (f2 b hb).2⟩, by rw [h3, Heap.size_push]; exact Nat.lt_succ_of_lt hlt⟩
    rw [upd_ne (by rw [← hD]; exact Nat.ne_of_lt hlt)]
    exact (f2 b hb).1
  have st3 : tn 0 s3.heap := T.keep _ _ _ st2 fun b _ o e => by rw [h3]; exact Heap.get?_push_of_some _ e
  have I4 := block_start I3 ok hN f3
  have pg := hg s3 (upd H2 D (Nw D)) s3.heap.objs.size (cellsFrom (s3.heap.objs.size + 1) scope.names (cloFrom X.env.cells scope.names [])) fp
  have pt := ht s3 (upd H2 D (Nw D)) s3.heap.objs.size (cellsFrom (s3.heap.objs.size + 1) scope.names (cloFrom X.env.cells scope.names [])) fp
  have pe := he s3 (upd H2 D (Nw D)) s3.heap.objs.size (cellsFrom (s3.heap.objs.size + 1) scope.names (cloFrom X.env.cells scope.names [])) fp
  have pad := had s3 (upd H2 D (Nw D)) s3.heap.objs.size (cellsFrom (s3.heap.objs.size + 1) scope.names (cloFrom X.env.cells scope.names [])) fp
  have pi1 := hi1 s3 (upd H2 D (Nw D)) s3.heap.objs.size (cellsFrom (s3.heap.objs.size + 1) scope.names (cloFrom X.env.cells scope.names [])) fp
  have pg1 := hg1 s3 (upd H2 D (Nw D)) s3.heap.objs.size (cellsFrom (s3.heap.objs.size + 1) scope.names (cloFrom X.env.cells scope.names [])) fp
  have pt1 := ht1 s3 (upd H2 D (Nw D)) s3.heap.objs.size (cellsFrom (s3.heap.objs.size + 1) scope.names (cloFrom X.env.cells scope.names [])) fp
  have nfp : ∀ b ∈ fp, (upd H2 D (Nw D)) b = none := fun b hb => (f3 b hb).1.1
  obtain ⟨ce, hce⟩ : ∃ ce, compEnvC scope (cellsFrom (s3.heap.objs.size + 1) scope.names (cloFrom X.env.cells scope.names [])) s3.heap.objs.size X.env = ce := ⟨_, rfl⟩
  have cL : ce.locals = s3.heap.objs.size := by rw [← hce]; rfl
  rw [hce] at I4 pg pt pe pad pi1 pg1 pt1 ⊢
  generalize upd H2 D (Nw D) = H3 at I3 I4 pg pt pe pad pi1 pg1 pt1 w0 nfp f3
  obtain ⟨s4, hs4⟩ : ∃ s4 : Shared, { s3 with heap := pushCells (s3.heap.push { cls := .type "dict", data := .dict #[] }) scope.names } = s4 := ⟨_, rfl⟩
  rw [hs4] at I4 ⊢
  have st4 : tn 0 s4.heap := T.keep _ _ _ st3 fun b _ o e => by rw [← hs4]; exact pushCells_keeps _ _ _ _ (Heap.get?_push_of_some _ e)
  obtain ⟨B, hB⟩ : ∃ B, X.blk s3 H3 scope ce fp = B := ⟨_, rfl⟩
  have stat : ∀ {σ' : L2.St} {H' : Hp} {s' : Shared}, Inv (X.blk s3 H3 scope ce fp) [] σ' H' s' → (∀ b ∈ fp, H' b = none) → ∀ b ∈ fp, FpOk (X.blk s3 H3 scope ce fp) [] H' b := fun {σ' H' s'} I' hn b hb =>
    ⟨hn b hb, (I'.ok.exf b hb).1, I'.ok.exfs b hb, .inl hb, fun x c e => (I'.ok.exf b hb).2 x c e, fun p hp => absurd (show p ∈ ([] : List (Addr × Obj)) ++ [] from hp) (by simp)⟩
  -- what the outer turns keep
  let KO : Nat → Shared → Prop := fun n s' => ∃ i H', Inv (X.blk s3 H3 scope ce fp) [] (wipe σ (own.map (·.2))) H' s' ∧ tn i s'.heap ∧ (∀ b ∈ fp, H' b = none) ∧ W i n H'
  have loop : codeAny (model X.prog X.w) X.A (.compLoop (sc2E elt tg iter tg1 iter1 ifs ifs1 scope pos) 0 (.ref it) (.ref D) ce) (compPost (model X.prog X.w) X.A X.xe none Qf (.ref D) s3.heap.objs.size) s4 := by
    refine sc2_loop0 (hs1 ce) KO ?_ m0 ⟨0, H3, I4, st4, nfp, w0⟩
    rintro n s5 ⟨i, H5, I5, st5, n5, w5⟩
    rcases turn i n H5 w5 with ⟨stop, qq⟩ | ⟨go, Nx, hNx, step⟩
    · refine thnF (T.done (X.blk s3 H3 scope ce fp) rfl rfl rfl hc i [] s5 _ H5 (fun _ _ => False) I5 (stat I5 n5) st5 stop) fun r s6 ⟨hr, I6⟩ => ?_
      subst hr
      have I7 : Inv X pins σ H5 s6 := I3.call' (ch := fp) I6.os I6.base I6.hok I6.bare fun b hb => ⟨(f3 b hb).1.2.2.2.1, (f3 b hb).1.2.1, (f3 b hb).1.2.2.2.2.1, (f3 b hb).1.2.2.2.2.2⟩
      have nC : H5 s3.heap.objs.size = none := by
        rw [← cL]
        exact I6.free
      obtain ⟨m, hn, _⟩ := I6.loc
      have hn : s6.heap.Ns s3.heap.objs.size m := by
        rw [← cL]
        exact hn
      exact back D s3.heap.objs.size s6 m H5 I7 qq hn (I3.fpOk (Nat.le_refl _) nC)
    · refine thnF (T.item (X.blk s3 H3 scope ce fp) rfl rfl rfl hc i [] s5 _ H5 (fun _ _ => False) I5 (stat I5 n5) st5 go) fun r s6 ⟨u, hr, h6⟩ => ?_
      subst hr
      refine thnF h6 fun _ s7 ⟨x, H7, I7, r7, y7, st7, n7⟩ => ?_
      have I7' := I7.pinned (stat I7 n7) (T.obj _ _ st7)
      refine thnF (pg.run _ s7 _ H7 x u _ I7' r7 (step x H7 y7)) fun _ s8 ⟨σ8, H8, I8, hw8, q8⟩ => thnF (pt.run _ s8 σ8 H8 _ I8 q8) fun b s9 ⟨H9, I9, q9⟩ => ?_
      -- whatever a turn's slots know more is forgotten
      have fin : ∀ {σ9 : L2.St} {s' : Shared} {H' : Hp}, Inv (X.blk s3 H3 scope ce fp) ([] ++ pinsAt fp s7.heap) σ9 H' s' → (wipe σ (own.map (·.2))).length = σ9.length → (∀ (j : Nat) v, (wipe σ (own.map (·.2)))[j]? = some (some v) → σ9[j]? = some (some v)) → Nx H' → ∃ m, m < n ∧ KO m s' := fun {σ9 s' H'} I' hl hk nx => by
        obtain ⟨m', hm, w'⟩ := hNx H' nx
        have pin' : ∀ b ∈ fp, ∀ o, s7.heap.get? b = some o → s'.heap.get? b = some o ∧ H' b = none := fun b hb o e =>
          let z := I'.pin (b, o) (List.mem_append_right _ (List.mem_append_right _ (mem_pinsAt hb e)))
          ⟨z.1, z.2.1⟩
        refine ⟨m', hm, i + 1, H', (I'.unpinned (pins := [])).weak hl hk, T.keep _ _ _ st7 fun b hb o e => (pin' b hb o e).1, fun b hb => ?_, w'⟩
        obtain ⟨o, e, _⟩ := T.obj _ _ st7 b hb
        exact (pin' b hb o e).2
      have hl8 : (wipe σ (own.map (·.2))).length = σ8.length := by rw [← hw8, wipe_length]
      have hk8 : ∀ (j : Nat) v, (wipe σ (own.map (·.2)))[j]? = some (some v) → (σ8[j]? = some (some v) ∧ (wipe σ8 vs1)[j]? = some (some v)) := fun j v e => by
        rw [← hw8] at e
        obtain ⟨e1, e2⟩ := wipe_some e
        refine ⟨e1, ?_⟩
        rw [wipe_out fun z => e2 (hv j z)]
        exact e1
      cases b with
      | false =>
        simp only [Bool.false_eq_true, if_false] at q9 ⊢
        exact fin I9 hl8 (fun j v e => (hk8 j v e).1) q9
      | true =>
        simp only [if_true] at q9 ⊢
        refine thnF (pi1.run _ s9 σ8 H9 _ I9 q9) fun xv s10 hx => thnF hx fun itv s11 h11 => ?_
        obtain ⟨it1, fp1, tn1, J1, H11, rfl, I11, T1, st11, f11, W1, ⟨m1, w1⟩, turn1⟩ := h11
        have stat1 : ∀ {H' : Hp}, (∀ b ∈ fp1, H' b = none) → ∀ b ∈ fp1, FpOk (X.blk s3 H3 scope ce fp) ([] ++ pinsAt fp s7.heap) H' b := fun hn b hb => ⟨hn b hb, (f11 b hb).2⟩
        let KI : Nat → Shared → Prop := fun k s' => ∃ j H', Inv (X.blk s3 H3 scope ce fp) ([] ++ pinsAt fp s7.heap) (wipe σ8 vs1) H' s' ∧ tn1 j s'.heap ∧ (∀ b ∈ fp1, H' b = none) ∧ W1 j k H'
        have loop1 : codeAny (model X.prog X.w) X.A (.compLoop (sc2E elt tg iter tg1 iter1 ifs ifs1 scope pos) 1 (.ref it1) (.ref D) ce) (fun r s' => match r with
              | .ok _ => ∃ m, m < n ∧ KO m s'
              | .error _ => False) s11 := by
          refine sc2_loop1 KI ?_ m1 ⟨0, H11, I11.weak (wipe_length _ _) (fun j v e => (wipe_some e).1), st11, fun b hb => (f11 b hb).1, w1⟩
          rintro k s12 ⟨j, H12, I12, st12, n12, w12⟩
          rcases turn1 j k H12 w12 with ⟨stop1, nx1⟩ | ⟨go1, Nx1, hNx1, step1⟩
          · refine thnF (T1.done (X.blk s3 H3 scope ce fp) rfl rfl rfl hc j _ s12 (wipe σ8 vs1) H12 (fun _ _ => False) I12 (stat1 n12) st12 stop1) fun r s13 ⟨hr, I13⟩ => ?_
            subst hr
            exact fin I13 (hl8.trans (wipe_length σ8 vs1).symm) (fun j v e => (hk8 j v e).2) nx1
          · refine thnF (T1.item (X.blk s3 H3 scope ce fp) rfl rfl rfl hc j _ s12 (wipe σ8 vs1) H12 (fun _ _ => False) I12 (stat1 n12) st12 go1) fun r s13 ⟨u1, hr, h13⟩ => ?_
            subst hr
            refine thnF h13 fun _ s14 ⟨x1, H14, I14, r14, y14, st14, n14⟩ => ?_
            have I14' := I14.pinned (stat1 n14) (T1.obj _ _ st14)
            refine thnF (pg1.run _ s14 (wipe σ8 vs1) H14 x1 u1 _ I14' r14 (step1 x1 H14 y14)) fun _ s15 ⟨σ15, H15, I15, hw15, q15⟩ => thnF (pt1.run _ s15 σ15 H15 _ I15 q15) fun b1 s16 ⟨H16, I16, q16⟩ => ?_
            have fin1 : ∀ {s' : Shared} {H' : Hp}, Inv (X.blk s3 H3 scope ce fp) (([] ++ pinsAt fp s7.heap) ++ pinsAt fp1 s14.heap) σ15 H' s' → Nx1 H' → ∃ m, m < k ∧ KI m s' := fun {s' H'} I' nx => by
              obtain ⟨m', hm, w'⟩ := hNx1 H' nx
              have pin' : ∀ b ∈ fp1, ∀ o, s14.heap.get? b = some o → s'.heap.get? b = some o ∧ H' b = none := fun b hb o e =>
                let z := I'.pin (b, o) (List.mem_append_right _ (List.mem_append_right _ (mem_pinsAt hb e)))
                ⟨z.1, z.2.1⟩
              refine ⟨m', hm, j + 1, H', I'.unpinned.weak (by rw [← hw15, wipe_length]) (fun j v e => by rw [← hw15] at e; exact (wipe_some e).1), T1.keep _ _ _ st14 fun b hb o e => (pin' b hb o e).1, fun b hb => ?_, w'⟩
              obtain ⟨o, e, _⟩ := T1.obj _ _ st14 b hb
              exact (pin' b hb o e).2
            cases b1 with
            | false =>
              simp only [Bool.false_eq_true, if_false] at q16 ⊢
              exact fin1 I16 q16
            | true =>
              simp only [if_true] at q16 ⊢
              exact thnF (pe.run _ s16 σ15 H16 _ I16 q16) fun z s17 ⟨yv, H17, I17, r17, nx⟩ => thnF (pad _ _ _ _ _ _ _ _ I17 r17 nx) fun _ s18 ⟨H18, I18, nx18⟩ => fin1 I18 nx18
        exact sc2_start1 loop1 (T1.self X.A 0 _ _ _ st11 loop1)
  exact sc2_start0 loop (T.self X.A 0 _ _ _ st4 loop)
theorem pe_sc2 {elt tg iter tg1 iter1 : Expr} {ifs ifs1 : List Expr} {scope : Scope} {own : List (Str × Nat)} {vs1 : List Nat} {pos : Pos} {wi wi1 : TI} {g g1 : TG} {tt tt1 : TT} {te : TE} {Nw : Addr → HO} {Ad : Adds} (hc : X.calm = true) (hN : X.N.Nodup) (hi : PI X tg iter wi) (ok : BlkOk X.N X.env.scope scope own) (hv : ∀ i ∈ vs1, i ∈ own.map (·.2)) (hnw : NewOk X Nw)
    (had : ∀ (s : Shared) (H : Hp) (C : Addr) (cl : List (Str × Addr)) (fp : List Addr), AddOk (X.blk s H scope (compEnvC scope cl C X.env) fp) Ad)
    (hg : ∀ (s : Shared) (H : Hp) (C : Addr) (cl : List (Str × Addr)) (fp : List Addr), PG (X.blk s H scope (compEnvC scope cl C X.env) fp) tg g) (ht : ∀ (s : Shared) (H : Hp) (C : Addr) (cl : List (Str × Addr)) (fp : List Addr), PTs (X.blk s H scope (compEnvC scope cl C X.env) fp) ifs tt)
    (hi1 : ∀ (s : Shared) (H : Hp) (C : Addr) (cl : List (Str × Addr)) (fp : List Addr), PI (X.blk s H scope (compEnvC scope cl C X.env) fp) tg1 iter1 wi1)
    (hg1 : ∀ (s : Shared) (H : Hp) (C : Addr) (cl : List (Str × Addr)) (fp : List Addr), PG (X.blk s H scope (compEnvC scope cl C X.env) fp) tg1 g1) (ht1 : ∀ (s : Shared) (H : Hp) (C : Addr) (cl : List (Str × Addr)) (fp : List Addr), PTs (X.blk s H scope (compEnvC scope cl C X.env) fp) ifs1 tt1)
    (he : ∀ (s : Shared) (H : Hp) (C : Addr) (cl : List (Str × Addr)) (fp : List Addr), PE (X.blk s H scope (compEnvC scope cl C X.env) fp) elt te) (hs : ∀ x, foldedSetIterable iter X.env x = pure x := by intro _; rfl) (hs1 : ∀ env x, foldedSetIterable iter1 env x = pure x := by intro _ _; rfl) :
    PE X (sc2E elt tg iter tg1 iter1 ifs ifs1 scope pos) (tSc2 Nw Ad wi g tt wi1 g1 tt1 te (own.map (·.2)) vs1) := by
  refine ⟨fun pins s σ H Q I h => ?_⟩
  rw [arm_eval_SetComp]
  refine sc2_core hc hN I hi ok hv hnw had hg ht he hs hi1 hg1 ht1 hs1 h fun D C s' m H' I' q hn f => ⟨m, hn, fun h'' sb => ?_⟩
  obtain ⟨f0, f1, f2, f3, f4, f5⟩ := f
  exact ⟨.ref D, H', I'.turned (t' := s'.toks) (fun b o hb e => (sb.2 b hb).trans e) f0 f1 f3 f4 f5, rfl, q⟩
/-! nested tuples as members -/
def NwN (w : World) : Addr → HO := fun D => SetNO w D []
def AdN (w : World) (K : PySem.W.Frag) : Adds := fun D y H Nx => ∃ S k, SetAtN w K H D S ∧ KeyAt K H y k ∧ intsOnly k = true ∧ S.length + 1 < 4915 ∧ ∀ H', SetAtN w K H' D (insN S k) → (∀ b, b ≠ D → H' b = H b) → Nx H'
theorem newN_ok : NewOk X (NwN X.w) := fun H h D e => setNO_ok (freshN e)
theorem addN_ok (hu : X.A.units + 100 < cLine) : AddOk X (AdN X.w X.K) := fun pins σ H s D y u Nx I r h => by
  obtain ⟨S, k, hS, hk, sol, few, q⟩ := h
  exact setN_add hu I hS hk r sol few fun s' H' I' z1 z2 => ⟨H', I', q H' z1 z2⟩
end
end Ink
namespace Ink
open PySem PySem.Spec PyProof.Rows L2
/-! ### lots that go forth: the model -/
mutual
theorem toks_key : ∀ (a b : NestedKey) (l m : List (Int ⊕ List Nat)), PySem.W.alike a.data b.data = true → PySem.W.keyToks a.data ++ l = PySem.W.keyToks b.data ++ m → a = b ∧ l = m
  | .none, b, l, m, h, e => by
    cases b with
    | none => exact ⟨rfl, e⟩
    | num _ => exact absurd h (by simp [NestedKey.data, PySem.W.alike])
    | text _ => exact absurd h (by simp [NestedKey.data, PySem.W.alike])
    | tup _ => exact absurd h (by simp [NestedKey.data, PySem.W.alike])
  | .num i, b, l, m, h, e => by
    cases b with
    | num j =>
      simp only [NestedKey.data, PySem.W.keyToks, List.cons_append, List.nil_append, List.cons.injEq, Sum.inl.injEq] at e
      exact ⟨by rw [e.1], e.2⟩
    | none => exact absurd h (by simp [NestedKey.data, PySem.W.alike])
    | text _ => exact absurd h (by simp [NestedKey.data, PySem.W.alike])
    | tup _ => exact absurd h (by simp [NestedKey.data, PySem.W.alike])
  | .text x, b, l, m, h, e => by
    cases b with
    | text y =>
      simp only [NestedKey.data, PySem.W.keyToks, List.cons_append, List.nil_append, List.cons.injEq, Sum.inr.injEq] at e
      exact ⟨by rw [PySem.W.str_of_cps e.1], e.2⟩
    | none => exact absurd h (by simp [NestedKey.data, PySem.W.alike])
    | num _ => exact absurd h (by simp [NestedKey.data, PySem.W.alike])
    | tup _ => exact absurd h (by simp [NestedKey.data, PySem.W.alike])
  | .tup as, b, l, m, h, e => by
    cases b with
    | tup bs =>
      simp only [NestedKey.data, PySem.W.keyToks, PySem.W.alike] at h e
      obtain ⟨z, y⟩ := toks_keys as bs l m h e
      exact ⟨by rw [z], y⟩
    | none => exact absurd h (by simp [NestedKey.data, PySem.W.alike])
    | num _ => exact absurd h (by simp [NestedKey.data, PySem.W.alike])
    | text _ => exact absurd h (by simp [NestedKey.data, PySem.W.alike])
theorem toks_keys : ∀ (as bs : List NestedKey) (l m : List (Int ⊕ List Nat)), PySem.W.alikeAll (NestedKey.datas as) (NestedKey.datas bs) = true → PySem.W.keyToksAll (NestedKey.datas as) ++ l = PySem.W.keyToksAll (NestedKey.datas bs) ++ m → as = bs ∧ l = m
  | [], [], l, m, _, e => by
    simp only [NestedKey.datas, PySem.W.keyToksAll, List.cons_append, List.nil_append, List.cons.injEq] at e
    exact ⟨rfl, e.2⟩
  | [], b :: bs, l, m, _, e => by
    simp only [NestedKey.datas, PySem.W.keyToksAll, List.cons_append, List.nil_append, List.cons.injEq] at e
    exact absurd e.1 (by simp)
  | a :: as, [], l, m, _, e => by
    simp only [NestedKey.datas, PySem.W.keyToksAll, List.cons_append, List.nil_append, List.cons.injEq] at e
    exact absurd e.1 (by simp)
  | a :: as, b :: bs, l, m, h, e => by
    simp only [NestedKey.datas, PySem.W.alikeAll, Bool.and_eq_true] at h
    simp only [NestedKey.datas, PySem.W.keyToksAll, List.cons_append, List.append_assoc, List.cons.injEq] at e
    obtain ⟨z1, e1⟩ := toks_key a b _ _ h.1 e.2
    obtain ⟨z2, e2⟩ := toks_keys as bs l m h.2 e1
    exact ⟨by rw [z1, z2], e2⟩
end
/-- in whatever order keys are handed in, sorted they stand alike -/
theorem sort_keys {A B : List NestedKey} (h : A.Perm B) (al : PySem.W.AllAlike (A.map NestedKey.data)) : (A.map NestedKey.data).mergeSort (PySem.W.dataLe false id) = (B.map NestedKey.data).mergeSort (PySem.W.dataLe false id) := by
  have tl := PySem.W.sortLe_total (listOrd itemOrd) false (fun b : PyData => PySem.W.keyToks b)
  have srt : ∀ l : List PyData, (l.mergeSort (PySem.W.dataLe false id)).Pairwise (fun a b => PySem.W.dataLe false id a b = true) := fun l => List.pairwise_mergeSort tl.trans (fun a b => by rw [Bool.or_eq_true]; exact tl.total a b) l
  refine List.Perm.eq_of_pairwise (le := fun a b => PySem.W.dataLe false id a b = true) (fun a b ha hb h1 h2 => ?_) (srt _) (srt _) ((List.mergeSort_perm _ _).trans ((h.map _).trans (List.mergeSort_perm _ _).symm))
  rw [List.mem_mergeSort] at ha hb
  have hb' := (h.map NestedKey.data).mem_iff.mpr hb
  have alk := al a ha b hb'
  obtain ⟨k1, _, rfl⟩ := List.mem_map.mp ha
  obtain ⟨k2, _, rfl⟩ := List.mem_map.mp hb
  have e1 : (!(listOrd itemOrd).blt (PySem.W.keyToks k2.data) (PySem.W.keyToks k1.data)) = true := h1
  have e2 : (!(listOrd itemOrd).blt (PySem.W.keyToks k1.data) (PySem.W.keyToks k2.data)) = true := h2
  have e := (listOrd itemOrd).total (PySem.W.keyToks k1.data) (PySem.W.keyToks k2.data) (by simpa using e2) (by simpa using e1)
  rw [(toks_key k1 k2 [] [] alk (by rw [List.append_nil, List.append_nil]; exact e)).1]
abbrev rLstOf (K : PySem.W.Frag) : List V → Hp → VK → Prop := fun xs H Q => ∃ p ys, xs = [.ref p] ∧ (SqL K H p ys ∨ SqT K H p ys) ∧ ∀ l, H l = none → Q (.ref l) (upd H l (.lst ys))
/-! lots -/
def stdLe (a b : Std) : Bool := PySem.W.dataLe false id (dS a) (dS b)
theorem stds_sort (l : List Std) : (l.map dS).mergeSort (PySem.W.dataLe false id) = (l.mergeSort stdLe).map dS := (List.map_mergeSort (r := stdLe) (s := PySem.W.dataLe false id) (f := dS) (l := l) fun _ _ _ _ => rfl).symm
theorem kS_datas (l : List Std) : (l.map kS).map NestedKey.data = l.map dS := by
  rw [List.map_map]
  exact List.map_congr_left fun s _ => kS_data s
/-- each once, as they came -/
def ddS (l : List Std) : List Std := l.foldl (fun acc x => if x ∈ acc then acc else acc ++ [x]) []
theorem dd_fold : ∀ (l acc : List Std), acc.Nodup → (l.foldl (fun acc x => if x ∈ acc then acc else acc ++ [x]) acc).Nodup ∧ ∀ t, t ∈ l.foldl (fun acc x => if x ∈ acc then acc else acc ++ [x]) acc ↔ t ∈ acc ∨ t ∈ l
  | [], acc, h => ⟨h, fun t => by simp⟩
  | x :: l, acc, h => by
    rw [List.foldl_cons]
    by_cases c : x ∈ acc
    · rw [if_pos c]
      obtain ⟨a, b⟩ := dd_fold l acc h
      refine ⟨a, fun t => ?_⟩
      rw [b, List.mem_cons]
      exact ⟨fun z => z.elim .inl (.inr ∘ .inr), fun z => z.elim .inl fun z => z.elim (fun e => .inl (e ▸ c)) .inr⟩
    · rw [if_neg c]
      have h' : (acc ++ [x]).Nodup := List.nodup_append.mpr ⟨h, List.nodup_cons.mpr ⟨by simp, List.nodup_nil⟩, fun a ha b hb => by
        rw [List.mem_singleton.mp hb]
        exact fun e => c (e ▸ ha)⟩
      obtain ⟨a, b⟩ := dd_fold l (acc ++ [x]) h'
      refine ⟨a, fun t => ?_⟩
      rw [b, List.mem_append, List.mem_singleton, List.mem_cons, or_assoc]
theorem dd_nodup (l : List Std) : (ddS l).Nodup := (dd_fold l [] List.nodup_nil).1
theorem dd_mem (l : List Std) (t : Std) : t ∈ ddS l ↔ t ∈ l := by
  have := (dd_fold l [] List.nodup_nil).2 t
  unfold ddS
  rw [this]
  simp
theorem dd_snoc (l : List Std) (x : Std) : ddS (l ++ [x]) = if x ∈ ddS l then ddS l else ddS l ++ [x] := by
  unfold ddS
  rw [List.foldl_append]
  rfl
def sortS (l : List Std) : List Std := (ddS l).mergeSort stdLe
theorem sortS_mem (l : List Std) (t : Std) : t ∈ sortS l ↔ t ∈ l := by
  unfold sortS
  rw [List.mem_mergeSort, dd_mem]
theorem sortS_nodup (l : List Std) : (sortS l).Nodup := (List.mergeSort_perm _ _).nodup_iff.mpr (dd_nodup l)
theorem kS_nodup {l : List Std} (h : l.Nodup) : (l.map kS).Nodup := List.Pairwise.map kS (fun a b hab e => hab (kS_inj e)) h
theorem alike_stds (l : List Std) : PySem.W.AllAlike (l.map dS) := fun d hd d' hd' => by
  obtain ⟨a, _, rfl⟩ := List.mem_map.mp hd
  obtain ⟨b, _, rfl⟩ := List.mem_map.mp hd'
  exact alike_dS a b
theorem sortable_stds (l : List Std) : PySem.W.Sortable (l.map dS) := .inl fun d hd => by
  obtain ⟨a, _, rfl⟩ := List.mem_map.mp hd
  exact ⟨_, _, rfl⟩
/-- of whatever order: members that are just these -/
theorem sort_set {S : List NestedKey} {l : List Std} (nd : S.Nodup) (h : ∀ k, k ∈ S ↔ ∃ t ∈ l, k = kS t) : (S.map NestedKey.data).mergeSort (PySem.W.dataLe false id) = (sortS l).map dS := by
  have p : ((ddS l).map kS).Perm S := (List.perm_ext_iff_of_nodup (kS_nodup (dd_nodup l)) nd).mpr fun k => by
    rw [h, List.mem_map]
    exact ⟨fun ⟨t, ht, e⟩ => ⟨t, (dd_mem l t).mp ht, e.symm⟩, fun ⟨t, ht, e⟩ => ⟨t, (dd_mem l t).mpr ht, e.symm⟩⟩
  rw [← sort_keys p (by rw [kS_datas]; exact alike_stds _), kS_datas, stds_sort]
  rfl
def goS (r : Row3) (j : Nat) (lot : List Std) : List Std := lot.flatMap fun s => (onM r j s true).map (·.2)
theorem mem_goS {r : Row3} {j : Nat} {lot : List Std} {t : Std} : t ∈ goS r j lot ↔ ∃ s ∈ lot, ∃ x ∈ onM r j s true, x.2 = t := by
  unfold goS
  rw [List.mem_flatMap]
  exact ⟨fun ⟨s, hs, h⟩ => ⟨s, hs, List.mem_map.mp h⟩, fun ⟨s, hs, h⟩ => ⟨s, hs, List.mem_map.mpr h⟩⟩
def lotN (r : Row3) : Nat → List Std
  | 0 => [firstS r]
  | j + 1 => sortS (goS r j (lotN r j))
def forthM (r : Row3) : List (List Std) := (List.range (r.1.length + 1)).map (lotN r)
def dLot (l : List Std) : PyData := .list (l.map dS)
theorem fits_len {m : List Wr} {s : Std} (f : Fits m s) : s.1.length = m.length := f.l1
structure InLot (r : Row3) (j : Nat) (s : Std) : Prop where
  ok : Okay (lastW r j) s
  ty : Tiny s
theorem lot_in {r : Row3} (g : GoodR r) : ∀ {j : Nat}, j ≤ r.1.length → ∀ s ∈ lotN r j, InLot r j s
  | 0, _, s, hs => by
    have hs : s ∈ [firstS r] := hs
    rw [List.mem_singleton.mp hs]
    exact ⟨okay_begin, tiny_begin (g.last (Nat.zero_le _)).2.1.len⟩
  | j + 1, h, s, hs => by
    have hs : s ∈ sortS (goS r j (lotN r j)) := hs
    rw [sortS_mem, mem_goS] at hs
    obtain ⟨t, ht, x, hx, rfl⟩ := hs
    have i := lot_in g (Nat.le_of_lt h) t ht
    exact ⟨on_okay g h i.ok hx, tiny_on g h i.ok.toFits i.ty hx⟩
theorem lot_nodup (r : Row3) : ∀ j, (lotN r j).Nodup
  | 0 => List.nodup_cons.mpr ⟨by simp, List.nodup_nil⟩
  | j + 1 => sortS_nodup _
theorem few_in {r : Row3} {j : Nat} {l : List Std} (nd : l.Nodup) (h : ∀ s ∈ l, InLot r j s) : l.length ≤ 4887 := tiny_few nd fun s hs => ⟨(h s hs).ty, (h s hs).ok.toFits.l1⟩
theorem lot_len {r : Row3} (g : GoodR r) {j : Nat} (h : j ≤ r.1.length) : (lotN r j).length ≤ 4887 := few_in (lot_nodup r j) (lot_in g h)
theorem go_in {r : Row3} (g : GoodR r) {j : Nat} (h : j < r.1.length) {lot : List Std} (hl : ∀ s ∈ lot, InLot r j s) : ∀ s ∈ goS r j lot, InLot r (j + 1) s := fun s hs => by
  obtain ⟨t, ht, x, hx, rfl⟩ := mem_goS.mp hs
  exact ⟨on_okay g h (hl t ht).ok hx, tiny_on g h (hl t ht).ok.toFits (hl t ht).ty hx⟩
end Ink
namespace Ink
open PySem PySem.Spec PyProof.Rows L2
/-! ### {k: v}, len(d), sorted(d): dicts whose keys are nested tuples -/
/-- {k: v} -/
def tDOneN (P : Program) (w : World) (K : PySem.W.Frag) (tk tv : TE) : TE := fun σ H Q => ∀ p H0, H p = none → (∀ b, b ≠ p → H0 b = H b) → DicAt P w K H0 p [] →
  tk σ H0 fun x H1 => tv σ H1 fun y H2 => ∃ k, KeyAt K H2 x k ∧ DicAt P w K H2 p [] ∧ ∀ H3, DicAt P w K H3 p [(k, y)] → (∀ b, b ≠ p → H3 b = H2 b) → Q (.ref p) H3
theorem nest_room {P : Program} {w : World} {A : Around} (hu : A.units + 100 < cLine) : (nestedKind P w).room A := by
  show A.units + 8 < cLine
  omega
theorem pe_done {X : Cx} {ke ve : Expr} {tk tv : TE} {pos : Pos} (hu : X.A.units + 100 < cLine) (hk : PE X ke tk) (hv : PE X ve tv)
    (hsh : (evalEachOpt [some ke] X.env).zip ((evalEach [ve] X.env).map fun v => do let x ← v; standAt pos; pure x) = [(some (eval ke X.env), do let x ← eval ve X.env; standAt pos; pure x)] := by rfl) : PE X (.Dict [some ke] [ve] pos) (tDOneN X.prog X.w X.K tk tv) := by
  refine ⟨fun pins s σ H Q I h => ?_⟩
  rw [PySem.arm_eval_Dict, hsh]
  have e0 := dictDisplay_pairs [(eval ke X.env, (do let x ← eval ve X.env; standAt pos; pure x : Sem Value))] (fun z => by cases z) (show 1 < 17 by decide)
  rw [show dictDisplay [(some (eval ke X.env), (do let x ← eval ve X.env; standAt pos; pure x : Sem Value))] = _ from e0]
  have hs : (s.heap.objs.size == sysModules) = false := beq_eq_false_iff_ne.mpr (Ne.symm (Nat.ne_of_lt I.big))
  have ok : ObjOk X.prog X.w (upd H s.heap.objs.size (DicO X.prog X.w s.heap.objs.size ([], { cls := .type "dict", data := .dict #[] }))) (s.heap.push { cls := .type "dict", data := .dict #[] }) s.heap.objs.size (DicO X.prog X.w s.heap.objs.size ([], { cls := .type "dict", data := .dict #[] })) :=
    ⟨⟨hs, #[], 0, Heap.get?_push_size _ rfl, ⟨rfl, rfl, rfl⟩, rfl, rfl⟩, ⟨_, Heap.get?_push_size _ rfl⟩, fun g1 g2 ⟨z, es, ep, e1, r⟩ st => ⟨z, es, ep, st _ e1, r⟩⟩
  have I0 : Inv X pins σ (upd H s.heap.objs.size (DicO X.prog X.w s.heap.objs.size ([], { cls := .type "dict", data := .dict #[] }))) { s with heap := s.heap.push { cls := .type "dict", data := .dict #[] } } := I.laid (a := s.heap.objs.size) (t' := s.toks) (fun _ _ q => Heap.get?_push_of_some _ q) (Nat.le_refl _) ok
  have q := h _ _ (I.hok.fresh (Nat.le_refl _)) (fun b hb => upd_ne hb) ⟨([], { cls := .type "dict", data := .dict #[] }), upd_same, .nil, fun x hx => (by cases hx), List.nodup_nil, Nat.zero_le _⟩
  refine wpAny_bind (wpAny_standAt (wpAny_bind (wpAny_subDictH (knd := nestedKind X.prog X.w) (nest_room hu) (show 1 ≤ 15 by decide) ?_)))
  unfold evalPairs
  refine wpAny_bind (thn (hk.run pins _ σ _ _ I0 q) fun kv s1 ⟨x, H1, I1, rx, q1⟩ => wpAny_bind (wpAny_holding (wpAny_bind (thn (hv.run pins s1 σ H1 _ I1 q1) fun vv s2 ⟨y, H2, I2, ry, k, hk2, hd, q2⟩ => wpAny_bind (wpAny_standAt (wpAny_pure ?_))))))
  unfold evalPairs
  refine wpAny_bind (wpAny_holding (wpAny_pure (wpAny_pure ?_)))
  obtain ⟨a, rfl, ea, ha⟩ := key_is I2 hk2 rx
  obtain ⟨xs, ob, hm, hs', e, p, hks⟩ := hd.raw I2
  cases p
  refine ⟨[(k, a, vv)], ⟨rfl, rfl, ha, trivial⟩, hm, fun h' tk hm' sb => ?_⟩
  have hst : storedAllH ([] : List (NK × Addr × Value)) [(k, a, vv)] = [(k, a, vv)] := rfl
  rw [hst] at hm'
  obtain ⟨o', es, ep, h1, h2, h3, h4, h5, h6⟩ := hm'
  have okw : ObjOk X.prog X.w (upd H2 s.heap.objs.size (DicO X.prog X.w s.heap.objs.size ([(k, a, vv)], o'))) h' s.heap.objs.size (DicO X.prog X.w s.heap.objs.size ([(k, a, vv)], o')) := ⟨⟨hs, es, ep, h1, h2, h3, h4⟩, ⟨o', h1⟩, fun g1 g2 ⟨z, es, ep, e1, r⟩ st => ⟨z, es, ep, st _ e1, r⟩⟩
  have I3 := I2.write (e := s.heap.objs.size) (t' := tk) (by rw [e]; trivial) (.inl rfl) (fun b w hb hw => (sb.2 b hb).trans hw) ⟨o', h1⟩ okw
  have ht : ∀ b ys, SqT X.K H2 b ys → SqT X.K (upd H2 s.heap.objs.size (DicO X.prog X.w s.heap.objs.size ([(k, a, vv)], o'))) b ys := fun b ys hb => by
    rcases hb with (hb | ⟨oo, hb⟩) | hb
    · exact .inl (.inl (by rw [upd_ne (ne_of hb e (fun z => dicO_ne.2 _ z.symm))]; exact hb))
    · exact .inl (.inr ⟨oo, by rw [upd_ne (ne_of hb e (fun z => by unfold DicO at z; cases z))]; exact hb⟩)
    · exact .inr hb
  refine wpAny_pure ⟨.ref s.heap.objs.size, _, I3, rfl, q2 _ ⟨([(k, a, vv)], o'), upd_same, .cons ⟨rfl, ry⟩ .nil, fun z hz => ?_, h6, (by show 1 ≤ 100000; decide)⟩ fun b hb => upd_ne hb⟩
  rw [List.mem_singleton] at hz
  subst hz
  rw [← ea]
  exact hk2.up ht
/-- len(d) -/
def rLenN (P : Program) (w : World) (K : PySem.W.Frag) : List V → Hp → VK → Prop := fun xs H Q => ∃ (d : Addr) (kvs : List (NK × V)), xs = [.ref d] ∧ DicAt P w K H d kvs ∧ Q (.int (kvs.length : Nat)) H
/-- sorted(d) -/
def rSortN (P : Program) (w : World) (K : PySem.W.Frag) : List V → Hp → VK → Prop := fun xs H Q => ∃ (d : Addr) (kvs : List (NK × V)), xs = [.ref d] ∧ DicAt P w K H d kvs ∧ PySem.W.AllAlike (kvs.map fun kv => kv.1.data) ∧ PySem.W.Sortable (kvs.map fun kv => kv.1.data) ∧ (∀ kv ∈ kvs, kv.1.data.depth ≤ 64) ∧
  ∀ p ws, H p = none → DpAll K H ws ((kvs.map fun kv => kv.1.data).mergeSort (PySem.W.dataLe false id)) → Q (.ref p) (upd H p (.lst ws))
section
variable {X : Cx}
theorem cr_lenN : CallR X (.builtin "len") (rLenN X.prog X.w X.K) := by
  intro pins s σ H vs us Q I r h
  obtain ⟨d, kvs, rfl, hd, q⟩ := h
  rw [Vals.ref1 r]
  have hz : kvs.length ≤ 100000 := by
    obtain ⟨_, _, _, _, _, z⟩ := hd
    exact z
  obtain ⟨xs, ob, hm, hs, e, p, _⟩ := hd.raw I
  have hl : xs.length = kvs.length := (Paired.length p).symm
  refine call_len_dictH (knd := nestedKind X.prog X.w) hs hm (by omega) ?_
  rw [hl]
  exact ⟨.int ((kvs.length : Nat) : Int), H, I.tok _, ⟨_, rfl⟩, q⟩
theorem refs_vals : ∀ (xs : List (NK × Addr × Value)), Vals (xs.map fun x => V.ref x.2.1) (xs.map fun x => Value.ref x.2.1)
  | [] => .nil
  | _ :: xs => .cons rfl (refs_vals xs)
theorem keys_dps {K : PySem.W.Frag} {H : Hp} : ∀ {kvs : List (NK × V)} {xs : List (NK × Addr × Value)}, Paired PairN kvs xs → (∀ x ∈ xs, KeyAt K H (.ref x.2.1) x.1) → DpAll K H (xs.map fun x => V.ref x.2.1) (kvs.map fun kv => kv.1.data)
  | _, _, .nil, _ => .nil
  | _, _, .cons (a := p) (b := x) r t, h => .cons (by show Dp K H (V.ref x.2.1) p.1.data; rw [r.1]; exact (h x (List.mem_cons_self ..)).1) (keys_dps t fun y hy => h y (List.mem_cons_of_mem _ hy))
theorem unit_small {A : Around} {n : Nat} (hu : A.units + 100 < cLine) (h : n ≤ 64) : A.in1.in1.units + n < cLine := by
  show A.units + 1 + 1 + n < cLine
  omega
theorem cr_sortedN (hc : X.calm = true) (hu : X.A.units + 100 < cLine) : CallR X (.builtin "sorted") (rSortN X.prog X.w X.K) := by
  intro pins s σ H vs us Q I r h
  obtain ⟨d, kvs, rfl, hd, hal, hk, hdp, q⟩ := h
  rw [Vals.ref1 r]
  have hz : kvs.length ≤ 100000 := by
    obtain ⟨_, _, _, _, _, z⟩ := hd
    exact z
  obtain ⟨xs, ob, hm, hs, e, p, hks⟩ := hd.raw I
  have hl : xs.length = kvs.length := (Paired.length p).symm
  obtain ⟨es, ep, hr, hes, hit⟩ := hm.raw
  have hn : es.size ≤ sizeLine := by
    rw [hes, hl, sizeLine_eq]
    omega
  refine Calls.call_function_entry (PyProof.Rows.kind_sorted) PyProof.Rows.plain_sorted PyProof.Rows.entry_sorted (PyProof.Rows.args_sorted1 _) ?_
  unfold Builtin.«sorted»
  refine wpAny_bind (m := checkCount "sorted" 1 1 _) (wpAny_pure (wpAny_bind (PySem.W.kdu_collect (A := X.A.in1) (KdlSrc.rawDict (d := d) (es := es) (ep := ep) hs) (I.ok.hd hc) hr hn fun h' tk acc hkp hacc => ?_)))
  have eacc : acc.toList = xs.map fun x => Value.ref x.2.1 := by
    refine List.ext_getElem? fun i => ?_
    rw [List.getElem?_map, Array.getElem?_toList]
    by_cases hi : i < es.size
    · have h1 : acc[i]? = some (acc[i]'(by rw [hacc.1]; exact hi)) := Array.getElem?_eq_getElem _
      obtain ⟨hi2, e2⟩ := hacc.2 i _ h1
      obtain ⟨y, hy, h3, _⟩ := hit i hi2
      rw [h1, hy, e2, h3]
      rfl
    · rw [Array.getElem?_eq_none (by rw [hacc.1]; omega), List.getElem?_eq_none (by rw [← hes]; omega)]
      rfl
  rw [eacc]
  have I1 : Inv X pins σ H { s with heap := h', toks := tk } := I.kept hkp
  have rv := refs_vals xs
  have hds := keys_dps p hks
  have hlen := hds.length
  have esnd : ((xs.map fun x => V.ref x.2.1).zip (kvs.map fun kv => kv.1.data)).map Prod.snd = kvs.map fun kv => kv.1.data := zip_snd hlen
  have ep1 := each_pairs rv hds
  generalize hvs : (xs.map fun x => Value.ref x.2.1) = us0 at rv ep1
  have hul : us0.length = kvs.length := by rw [← hvs, List.length_map, hl]
  refine wpAny_bind (wpAny_newList ?_ (by rw [hul, sizeLine_eq]; omega))
  have hoL : (h'.push (seqObj "list" us0.toArray 0)).get? h'.objs.size = some (seqObj "list" us0.toArray 0) := Heap.get?_push_size _ rfl
  have hup : ∀ b o, h'.get? b = some o → (PySem.W.sortingHeap (h'.push (seqObj "list" us0.toArray 0)) h'.objs.size us0).get? b = some o := fun b o e => PySem.W.sortingHeap_old (Nat.ne_of_lt (Heap.lt_size e)) (Heap.get?_push_of_some _ e)
  have er : PySem.W.EachIs (fun v (b : V × PyData) => ∃ as, Reads (PySem.W.sortingHeap (h'.push (seqObj "list" us0.toArray 0)) h'.objs.size us0) v b.2 as) us0 ((xs.map fun x => V.ref x.2.1).zip (kvs.map fun kv => kv.1.data)) :=
    each_imp (fun u b ⟨r, hb⟩ => by
      obtain ⟨as, ra⟩ := Dp.reads I1 b.2 b.1 u hb r
      exact ⟨as, PyProof.Rows.Reads.keeps hup ra⟩) ep1
  refine wpAny_bind (wpAny_holding (wpAny_call_entry PyProof.Rows.slot_list_sort ⟨_, hoL, rfl⟩ PyProof.Rows.entry_list_sort (PySem.W.list_sort_vals (s := { s with heap := h'.push (seqObj "list" us0.toArray 0), toks := tk }) hoL
    (PySem.W.SortsAt.data (s := { s with heap := PySem.W.sortingHeap (h'.push (seqObj "list" us0.toArray 0)) h'.objs.size us0, toks := tk }) (PySem.W.each_map (R := fun v d => ∃ as, Reads (PySem.W.sortingHeap (h'.push (seqObj "list" us0.toArray 0)) h'.objs.size us0) v d as) Prod.snd er) (by rw [esnd]; exact hal) (by rw [esnd]; exact hk) (PySem.W.bound_map fun b hb => ?_)) (by rw [hul, sizeLine_eq]; omega) ⟨_, rfl, ?_⟩) (PyProof.Rows.args_list_sort _)))
  · have : b.2 ∈ kvs.map fun kv => kv.1.data := by
      rw [← esnd]
      exact List.mem_map_of_mem hb
    obtain ⟨kv, hkv, e2⟩ := List.mem_map.mp this
    have := hdp kv hkv
    rw [← e2]
    exact unit_small hu this
  · obtain ⟨e', he'⟩ := PyProof.Rows.sortedHeap_at (vs := us0) (out := (PySem.W.sortVals (PySem.W.dataKind (PySem.W.sortingHeap (h'.push (seqObj "list" us0.toArray 0)) h'.objs.size us0) (((xs.map fun x => V.ref x.2.1).zip (kvs.map fun kv => kv.1.data)).map Prod.snd)) false us0 us0).toArray) hoL
    have hout := PySem.W.sortVals_data (R := fun u (b : V × PyData) => RelV b.1 u ∧ Dp X.K H b.1 b.2) (h' := PySem.W.sortingHeap (h'.push (seqObj "list" us0.toArray 0)) h'.objs.size us0) false ep1 er (by rw [esnd]; exact hal)
    obtain ⟨v1, d1⟩ := pairs_each hout
    have em : ((((xs.map fun x => V.ref x.2.1).zip (kvs.map fun kv => kv.1.data)).mergeSort (PySem.W.dataLe false Prod.snd)).map Prod.snd) = (kvs.map fun kv => kv.1.data).mergeSort (PySem.W.dataLe false id) := by
      have z := List.map_mergeSort (r := PySem.W.dataLe false (Prod.snd : V × PyData → PyData)) (s := PySem.W.dataLe false id) (f := Prod.snd) (l := (xs.map fun x => V.ref x.2.1).zip (kvs.map fun kv => kv.1.data)) (fun a _ b _ => rfl)
      rw [z, esnd]
    rw [em] at d1
    have hwl : ((((xs.map fun x => V.ref x.2.1).zip (kvs.map fun kv => kv.1.data)).mergeSort (PySem.W.dataLe false Prod.snd)).map Prod.fst).length ≤ sizeLine := by
      rw [List.length_map, List.length_mergeSort, List.length_zip, List.length_map, List.length_map, sizeLine_eq]
      omega
    refine wpAny_pure ⟨_, rfl, .ref h'.objs.size, upd H h'.objs.size (.lst _), I1.laid (t' := tk) (fun b u e => ?_) (Nat.le_refl _) (show ObjOk X.prog X.w _ _ _ (.lst _) from ⟨hwl, _, e', v1, he'⟩), rfl, q _ _ (I1.hok.fresh (Nat.le_refl _)) d1⟩
    have hb : b < h'.objs.size := Heap.lt_size e
    rw [PyProof.Rows.sortedHeap_old (Nat.ne_of_lt hb) (by rw [size_push']; exact Nat.lt_succ_of_lt hb)]
    exact Heap.get?_push_of_some _ e
end
end Ink
namespace Ink
open PySem PySem.Spec PyProof.Rows L2 Evl
section
variable {J : It} {n : Nat} {G : Hp → Prop} {Y : Nat → Hp → V → Hp → Prop}
/-- the turns of a comprehension's clause, by what is kept -/
theorem turns_it (w : Walk J n G Y) {Body : V → Hp → (Hp → Prop) → Prop} {H0 : Hp} {Qd : Hp → Prop} (Pv : Nat → Hp → Prop) (h0 : Pv 0 H0) (hG : ∀ i H, i ≤ n → Pv i H → G H)
    (hs : ∀ i x Ha Hb, i < n → Pv i Ha → Y i Ha x Hb → Body x Hb (Pv (i + 1))) (hd : ∀ H, Pv n H → Qd H) :
    ∃ W : Nat → Nat → Hp → Prop, (∃ m, W 0 m H0) ∧ ∀ i m H, W i m H → (J.stop i H ∧ Qd H) ∨ (J.go i H ∧ ∃ Nx : Hp → Prop, (∀ H', Nx H' → ∃ m', m' < m ∧ W (i + 1) m' H') ∧ ∀ x H', J.yld i H x H' → Body x H' Nx) := by
  refine ⟨fun i m H => m = n - i ∧ i ≤ n ∧ Pv i H, ⟨n, by simp, Nat.zero_le _, h0⟩, ?_⟩
  rintro i m H ⟨rfl, hi, p⟩
  have q := hG i H hi p
  by_cases hlt : i < n
  · exact .inr ⟨w.goes i H hlt q, Pv (i + 1), fun H' p' => ⟨n - (i + 1), by omega, rfl, hlt, p'⟩, fun x H' y => hs i x H H' hlt p (w.yields i H x H' hlt q y)⟩
  · have e : i = n := by omega
    subst e
    exact .inl ⟨w.stops H q, hd H p⟩
end
/-! a set of stands -/
theorem intsOnly_nums : ∀ ns : List Int, intsOnly.intsAll (ns.map NestedKey.num) = true
  | [] => rfl
  | n :: ns => by
    rw [List.map_cons]
    unfold intsOnly.intsAll
    rw [intsOnly_nums ns]
    rfl
theorem kS_ints (s : Std) : intsOnly (kS s) = true := by
  have h1 := intsOnly_nums s.1
  have h2 := intsOnly_nums s.2.1
  unfold kS
  simp [intsOnly, intsOnly.intsAll, h1, h2]
/-- each is a stand of these, and each of these is there -/
def SetOfS (S : List NestedKey) (l : List Std) : Prop := S.Nodup ∧ ∀ k, k ∈ S ↔ ∃ t ∈ l, k = kS t
theorem SetOfS.nil : SetOfS [] [] := ⟨List.nodup_nil, fun k => ⟨fun h => (by cases h), fun ⟨t, h, _⟩ => (by cases h)⟩⟩
theorem SetOfS.ins {S : List NestedKey} {l : List Std} (h : SetOfS S l) (s : Std) : SetOfS (insN S (kS s)) (l ++ [s]) := by
  unfold insN
  by_cases c : kS s ∈ S
  · rw [if_pos c]
    refine ⟨h.1, fun k => ?_⟩
    rw [h.2]
    constructor
    · rintro ⟨t, ht, e⟩
      exact ⟨t, List.mem_append_left _ ht, e⟩
    · rintro ⟨t, ht, e⟩
      rcases List.mem_append.mp ht with z | z
      · exact ⟨t, z, e⟩
      · obtain ⟨t', ht', e'⟩ := (h.2 (kS s)).mp c
        rw [List.mem_singleton.mp z] at e
        exact ⟨t', ht', e.trans e'⟩
  · rw [if_neg c]
    refine ⟨List.nodup_cons.mpr ⟨c, h.1⟩, fun k => ?_⟩
    rw [List.mem_cons, h.2]
    constructor
    · rintro (e | ⟨t, ht, e⟩)
      · exact ⟨s, List.mem_append_right _ (List.mem_singleton.mpr rfl), e⟩
      · exact ⟨t, List.mem_append_left _ ht, e⟩
    · rintro ⟨t, ht, e⟩
      rcases List.mem_append.mp ht with z | z
      · exact .inr ⟨t, z, e⟩
      · rw [List.mem_singleton.mp z] at e
        exact .inl e
theorem SetOfS.fewT {S : List NestedKey} {l : List Std} (h : SetOfS S l) {n : Nat} (hl : ∀ s ∈ l, Tiny s ∧ s.1.length = n) : S.length ≤ 4887 := by
  have p : ((ddS l).map kS).Perm S := (List.perm_ext_iff_of_nodup (kS_nodup (dd_nodup l)) h.1).mpr fun k => by
    rw [h.2, List.mem_map]
    exact ⟨fun ⟨t, ht, e⟩ => ⟨t, (dd_mem l t).mp ht, e.symm⟩, fun ⟨t, ht, e⟩ => ⟨t, (dd_mem l t).mpr ht, e.symm⟩⟩
  have e := p.length_eq
  rw [List.length_map] at e
  rw [← e]
  exact tiny_few (dd_nodup l) fun s hs => hl s ((dd_mem l s).mp hs)
theorem tk_set {w : World} {K : PySem.W.Frag} {H H' : Hp} {D : Addr} {S : List NestedKey} (h : SetAtN w K H D S) (only : ∀ b, b ≠ D → H' b = H b) : TupK K H H' := fun c xs hc => by
  obtain ⟨L, e, _⟩ := h
  rcases hc with (hc | ⟨o, hc⟩) | hc
  · exact .inl (.inl (by rw [only c (ne_of hc e (fun z => setNO_ne.2.1 _ z.symm))]; exact hc))
  · exact .inl (.inr ⟨o, by rw [only c (ne_of hc e (fun z => setNO_ne.2.2 _ _ z.symm))]; exact hc⟩)
  · exact .inr hc
theorem allalike_set {S : List NestedKey} {l : List Std} (h : SetOfS S l) : PySem.W.AllAlike (S.map NestedKey.data) ∧ PySem.W.Sortable (S.map NestedKey.data) := by
  have e : ∀ d ∈ S.map NestedKey.data, ∃ t, d = dS t := fun d hd => by
    obtain ⟨k, hk, rfl⟩ := List.mem_map.mp hd
    obtain ⟨t, _, rfl⟩ := (h.2 k).mp hk
    exact ⟨t, kS_data t⟩
  refine ⟨fun d hd d' hd' => ?_, .inl fun d hd => ?_⟩
  · obtain ⟨a, rfl⟩ := e d hd
    obtain ⟨b, rfl⟩ := e d' hd'
    exact alike_dS a b
  · obtain ⟨a, rfl⟩ := e d hd
    exact ⟨_, _, rfl⟩
end Ink
namespace Ink
open PySem PySem.Spec PyProof.Rows L2 Evl
/-! ### the stands behind a sign -/
theorem okay_of_step {m : List Wr} (g : GoodM m) {s : Std} (o : Okay m s) {x : Str × Str × Std} (h : x ∈ stepsOf m s) : Okay m x.2.2 := by
  obtain ⟨k, to, hk, hm, e, _⟩ := steps_in h
  have e := congrArg (fun z => z.2.2) e
  rw [show x.2.2 = behind m s k to from e]
  exact okay_behind g o hk hm to
theorem steps_len {m : List Wr} (g : GoodM m) (s : Std) : (stepsOf m s).length ≤ 27 := by
  unfold stepsOf
  rw [List.length_map, List.length_mergeSort]
  exact moves_len g s
def Led (m : List Wr) (L : Std → Prop) (sign : Str) : Std → Prop := fun t => ∃ s, L s ∧ ∃ x ∈ stepsOf m s, x.1 = sign ∧ x.2.2 = t
/-- a lot: stands, each once, in the order in which they came -/
def addT (l : List Std) (t : Std) : List Std := if t ∈ l then l else l ++ [t]
def ledIn (sign : Str) (l : List Std) (x : Str × Str × Std) : List Std := if x.1 = sign then addT l x.2.2 else l
def ledList (m : List Wr) (sign : Str) (L : List Std) : List Std := L.foldl (fun l s => (stepsOf m s).foldl (ledIn sign) l) []
theorem addT_mem {l : List Std} {t u : Std} : u ∈ addT l t ↔ u ∈ l ∨ u = t := by
  unfold addT
  split
  · rename_i h
    exact ⟨.inl, fun z => z.elim id fun e => e ▸ h⟩
  · rw [List.mem_append, List.mem_singleton]
theorem addT_nd {l : List Std} {t : Std} (h : l.Nodup) : (addT l t).Nodup := by
  unfold addT
  split
  · exact h
  · rename_i hn
    refine List.nodup_append.mpr ⟨h, by simp, fun a ha b hb => ?_⟩
    rw [List.mem_singleton] at hb
    subst hb
    exact fun z => hn (z ▸ ha)
theorem addT_len (l : List Std) (t : Std) : (addT l t).length ≤ l.length + 1 := by
  unfold addT
  split
  · exact Nat.le_succ _
  · rw [List.length_append]
    exact Nat.le_refl _
theorem in_mem {sign : Str} : ∀ (xs : List (Str × Str × Std)) (l : List Std) (u : Std), u ∈ xs.foldl (ledIn sign) l ↔ u ∈ l ∨ ∃ x ∈ xs, x.1 = sign ∧ x.2.2 = u
  | [], l, u => ⟨.inl, fun h => h.elim id fun ⟨x, hx, _⟩ => (by cases hx)⟩
  | x :: xs, l, u => by
    rw [List.foldl_cons, in_mem xs]
    unfold ledIn
    constructor
    · rintro (h | ⟨y, hy, e⟩)
      · split at h
        · rename_i hs
          rcases addT_mem.mp h with h | rfl
          · exact .inl h
          · exact .inr ⟨x, List.mem_cons_self .., hs, rfl⟩
        · exact .inl h
      · exact .inr ⟨y, List.mem_cons_of_mem _ hy, e⟩
    · rintro (h | ⟨y, hy, e1, e2⟩)
      · refine .inl ?_
        split
        · exact addT_mem.mpr (.inl h)
        · exact h
      · rcases List.mem_cons.mp hy with rfl | hy
        · refine .inl ?_
          rw [if_pos e1]
          exact addT_mem.mpr (.inr e2.symm)
        · exact .inr ⟨y, hy, e1, e2⟩
theorem in_nd {sign : Str} : ∀ (xs : List (Str × Str × Std)) (l : List Std), l.Nodup → (xs.foldl (ledIn sign) l).Nodup
  | [], _, h => h
  | x :: xs, l, h => by
    rw [List.foldl_cons]
    refine in_nd xs _ ?_
    unfold ledIn
    split
    · exact addT_nd h
    · exact h
theorem in_len {sign : Str} : ∀ (xs : List (Str × Str × Std)) (l : List Std), (xs.foldl (ledIn sign) l).length ≤ l.length + xs.length
  | [], _ => Nat.le_refl _
  | x :: xs, l => by
    rw [List.foldl_cons, List.length_cons]
    have h := in_len (sign := sign) xs (ledIn sign l x)
    have : (ledIn sign l x).length ≤ l.length + 1 := by
      unfold ledIn
      split
      · exact addT_len _ _
      · exact Nat.le_succ _
    omega
theorem led_fold {m : List Wr} {sign : Str} : ∀ (L : List Std) (l : List Std), l.Nodup → (L.foldl (fun l s => (stepsOf m s).foldl (ledIn sign) l) l).Nodup ∧ ∀ u, u ∈ L.foldl (fun l s => (stepsOf m s).foldl (ledIn sign) l) l ↔ u ∈ l ∨ ∃ s ∈ L, ∃ x ∈ stepsOf m s, x.1 = sign ∧ x.2.2 = u
  | [], l, h => ⟨h, fun u => ⟨.inl, fun z => z.elim id fun ⟨s, hs, _⟩ => (by cases hs)⟩⟩
  | s :: L, l, h => by
    rw [List.foldl_cons]
    obtain ⟨h1, h2⟩ := led_fold (m := m) (sign := sign) L _ (in_nd (sign := sign) (stepsOf m s) l h)
    refine ⟨h1, fun u => ?_⟩
    rw [h2, in_mem]
    constructor
    · rintro ((h | ⟨x, hx⟩) | ⟨t, ht, hx⟩)
      · exact .inl h
      · exact .inr ⟨s, List.mem_cons_self .., x, hx⟩
      · exact .inr ⟨t, List.mem_cons_of_mem _ ht, hx⟩
    · rintro (h | ⟨t, ht, x, hx⟩)
      · exact .inl (.inl h)
      · rcases List.mem_cons.mp ht with rfl | ht
        · exact .inl (.inr ⟨x, hx⟩)
        · exact .inr ⟨t, ht, x, hx⟩
theorem led_list {m : List Wr} {sign : Str} (L : List Std) : (ledList m sign L).Nodup ∧ ∀ u, u ∈ ledList m sign L ↔ Led m (· ∈ L) sign u := by
  obtain ⟨h1, h2⟩ := led_fold (m := m) (sign := sign) L [] List.nodup_nil
  refine ⟨h1, fun u => (h2 u).trans ⟨fun h => ?_, fun h => .inr h⟩⟩
  rcases h with h | h
  · cases h
  · exact h
theorem led_len {m : List Wr} (g : GoodM m) {sign : Str} : ∀ (L l : List Std), (L.foldl (fun l s => (stepsOf m s).foldl (ledIn sign) l) l).length ≤ l.length + 27 * L.length
  | [], _ => Nat.le_refl _
  | s :: L, l => by
    rw [List.foldl_cons, List.length_cons]
    have h := led_len g (sign := sign) L ((stepsOf m s).foldl (ledIn sign) l)
    have h2 := in_len (sign := sign) (stepsOf m s) l
    have h3 := steps_len g s
    omega
/-- a dict whose keys are these stands -/
def DicT (P : Program) (w : World) (K : PySem.W.Frag) (H : Hp) (d : Addr) (l : List Std) : Prop := ∃ kvs, DicAt P w K H d kvs ∧ kvs.map (·.1) = l.map kS
theorem look_std : ∀ {kvs : List (NK × V)} {l : List Std} (t : Std), kvs.map (·.1) = l.map kS → (lookN kvs (kS t)).isSome = decide (t ∈ l)
  | [], [], t, _ => by unfold lookN; simp
  | [], _ :: _, _, h => by simp at h
  | _ :: _, [], _, h => by simp at h
  | kv :: kvs, s :: l, t, h => by
    rw [List.map_cons, List.map_cons] at h
    injection h with h1 h2
    have ih := look_std t h2
    unfold lookN at ih ⊢
    rw [List.find?_cons]
    by_cases e : t = s
    · subst e
      rw [decide_eq_true h1]
      simp
    · have ne : ¬ kv.1 = kS t := fun z => e (kS_inj (z.symm.trans h1))
      rw [decide_eq_false ne]
      rw [ih]
      simp [e]
theorem put_std {kvs : List (NK × V)} {l : List Std} {t : Std} {v : V} (h : kvs.map (·.1) = l.map kS) : (putN kvs (kS t) v).map (·.1) = (addT l t).map kS := by
  have lk := look_std t h
  unfold putN addT
  by_cases ht : t ∈ l
  · rw [lk, decide_eq_true ht, if_pos ht]
    show (kvs.map fun kv => if kv.1 = kS t then (kv.1, v) else kv).map (·.1) = _
    rw [← h, List.map_map]
    refine List.map_congr_left fun kv _ => ?_
    show (if kv.1 = kS t then (kv.1, v) else kv).1 = kv.1
    split <;> rfl
  · rw [lk, decide_eq_false ht, if_neg ht]
    show (kvs ++ [(kS t, v)]).map (·.1) = _
    rw [List.map_append, List.map_append, h]
    rfl
theorem std_data {kvs : List (NK × V)} {l : List Std} (h : kvs.map (·.1) = l.map kS) : (kvs.map fun kv => kv.1.data) = l.map dS := by
  have e : (kvs.map fun kv => kv.1.data) = (kvs.map (·.1)).map fun k => k.data := by
    rw [List.map_map]
    rfl
  rw [e, h, List.map_map]
  refine List.map_congr_left fun s _ => ?_
  exact kS_data s
theorem dI_inj : ∀ {a b : List Int}, a.map PyData.int = b.map PyData.int → a = b
  | [], [], _ => rfl
  | [], _ :: _, h => by cases h
  | _ :: _, [], h => by cases h
  | x :: a, y :: b, h => by
    rw [List.map_cons, List.map_cons] at h
    injection h with h1 h2
    injection h1 with h1
    rw [h1, dI_inj h2]
theorem dS_inj {s s' : Std} (h : dS s = dS s') : s = s' := by
  obtain ⟨p, q, r, t⟩ := s
  obtain ⟨p', q', r', t'⟩ := s'
  unfold dS dI at h
  injection h with h
  injection h with h1 h
  injection h with h2 h
  injection h with h3 _
  injection h1 with h1
  injection h2 with h2
  injection h3 with h3
  injection h3 with h3 h4
  injection h4 with h4 _
  injection h3 with h3
  injection h4 with h4
  have h1 := dI_inj h1
  have h2 := dI_inj h2
  subst h1 h2 h3 h4
  rfl
/-- sorted stands are these stands -/
theorem std_sorted {l : List Std} (hn : l.Nodup) : ∃ l' : List Std, l'.Nodup ∧ (∀ t, t ∈ l' ↔ t ∈ l) ∧ (l.map dS).mergeSort (PySem.W.dataLe false id) = l'.map dS := by
  have pm : ((l.map dS).mergeSort (PySem.W.dataLe false id)).Perm (l.map dS) := List.mergeSort_perm _ _
  generalize (l.map dS).mergeSort (PySem.W.dataLe false id) = ys at pm
  have all : ∀ ys : List PyData, (∀ y ∈ ys, y ∈ l.map dS) → ∃ l' : List Std, ys = l'.map dS := by
    intro ys
    induction ys with
    | nil => exact fun _ => ⟨[], rfl⟩
    | cons y ys ih =>
      intro h
      obtain ⟨l', e⟩ := ih fun z hz => h z (List.mem_cons_of_mem _ hz)
      obtain ⟨s, _, rfl⟩ := List.mem_map.mp (h y (List.mem_cons_self ..))
      exact ⟨s :: l', by rw [e]; rfl⟩
  obtain ⟨l', rfl⟩ := all ys fun y hy => pm.mem_iff.mp hy
  have hmem : ∀ (a : List Std) (t : Std), dS t ∈ a.map dS ↔ t ∈ a := fun a t => ⟨fun h => by
    obtain ⟨s, hs, e⟩ := List.mem_map.mp h
    rw [← dS_inj e]
    exact hs, fun h => List.mem_map_of_mem h⟩
  refine ⟨l', ?_, fun t => ?_, rfl⟩
  · have nd : (l.map dS).Nodup := List.Pairwise.map dS (fun a b hab e => hab (dS_inj e)) hn
    have nd' : (l'.map dS).Nodup := pm.nodup_iff.mpr nd
    exact List.Pairwise.of_map dS (fun a b h e => h (by rw [e])) nd'
  · rw [← hmem l' t, ← hmem l t]
    exact pm.mem_iff
theorem tk_put {P : Program} {w : World} {K : PySem.W.Frag} {H H' : Hp} {d : Addr} {kvs : List (NK × V)} (hd : DicAt P w K H d kvs) (h : ∀ b, b ≠ d → H' b = H b) : TupK K H H' := fun b ys hb => by
  obtain ⟨xs, ed, _⟩ := hd
  rcases hb with (hb | ⟨oo, hb⟩) | hb
  · exact .inl (.inl (by rw [h b (fun z => by rw [z, ed] at hb; exact dicO_ne.2 _ (Option.some.inj hb))]; exact hb))
  · exact .inl (.inr ⟨oo, by rw [h b (fun z => by rw [z, ed] at hb; unfold DicO at hb; cases hb)]; exact hb⟩)
  · exact .inr hb
/-- stands of a company: as they come, and few of them -/
structure InM (m : List Wr) (s : Std) : Prop where
  ok : Okay m s
  ty : Tiny s
theorem few_m {m : List Wr} {l : List Std} (nd : l.Nodup) (h : ∀ s ∈ l, InM m s) : l.length ≤ 4887 := tiny_few nd fun s hs => ⟨(h s hs).ty, (h s hs).ok.toFits.l1⟩
theorem led_inM {m : List Wr} (g : GoodM m) {L : Std → Prop} (h : ∀ s, L s → InM m s) {sign : Str} {t : Std} (ht : Led m L sign t) : InM m t := by
  obtain ⟨s, hs, x, hx, _, rfl⟩ := ht
  exact ⟨okay_of_step g (h s hs).ok hx, tiny_steps g (h s hs).ok.toFits (h s hs).ty hx⟩
theorem begin_inM {m : List Wr} (g : GoodM m) : InM m (beginS m) := ⟨okay_begin, tiny_begin g.len⟩
/-- the stands behind a sign, as they come -/
def onBy (m : List Wr) (sign : Str) (s : Std) : List Std := ((stepsOf m s).filter fun x => decide (x.1 = sign)).map (·.2.2)
def ledG (m : List Wr) (sign : Str) (L : List Std) : List Std := L.flatMap (onBy m sign)
theorem mem_onBy {m : List Wr} {sign : Str} {s t : Std} : t ∈ onBy m sign s ↔ ∃ x ∈ stepsOf m s, x.1 = sign ∧ x.2.2 = t := by
  unfold onBy
  rw [List.mem_map]
  constructor
  · rintro ⟨x, hx, e⟩
    obtain ⟨h1, h2⟩ := List.mem_filter.mp hx
    exact ⟨x, h1, of_decide_eq_true h2, e⟩
  · rintro ⟨x, hx, h, e⟩
    exact ⟨x, List.mem_filter.mpr ⟨hx, decide_eq_true h⟩, e⟩
theorem mem_ledG {m : List Wr} {sign : Str} {L : List Std} {t : Std} : t ∈ ledG m sign L ↔ Led m (· ∈ L) sign t := by
  unfold ledG Led
  rw [List.mem_flatMap]
  exact ⟨fun ⟨s, hs, h⟩ => ⟨s, hs, mem_onBy.mp h⟩, fun ⟨s, hs, h⟩ => ⟨s, hs, mem_onBy.mpr h⟩⟩
/-- the program's lot behind a strip -/
def lotP (m : List Wr) (zs : List Str) : List Std := zs.foldl (fun l z => sortS (ledG m z l)) [beginS m]
theorem lotP_snoc {m : List Wr} {zs : List Str} {z : Str} : lotP m (zs ++ [z]) = sortS (ledG m z (lotP m zs)) := by
  unfold lotP
  rw [List.foldl_append]
  rfl
theorem lotP_in {m : List Wr} (g : GoodM m) (zs : List Str) : (∀ s ∈ lotP m zs, InM m s) ∧ (lotP m zs).Nodup := by
  suffices key : ∀ (zs : List Str) (l : List Std), (∀ s ∈ l, InM m s) → l.Nodup → (∀ s ∈ zs.foldl (fun l z => sortS (ledG m z l)) l, InM m s) ∧ (zs.foldl (fun l z => sortS (ledG m z l)) l).Nodup from
    key zs _ (fun s hs => by rw [List.mem_singleton.mp hs]; exact begin_inM g) (List.nodup_cons.mpr ⟨by simp, List.nodup_nil⟩)
  intro zs
  induction zs with
  | nil => exact fun l h nd => ⟨h, nd⟩
  | cons z zs ih =>
    intro l h nd
    rw [List.foldl_cons]
    exact ih _ (fun s hs => by rw [sortS_mem, mem_ledG] at hs; exact led_inM g (fun s hs => h s hs) hs) (sortS_nodup _)
end Ink
namespace Ink
open PySem PySem.Spec PyProof.Rows L2 Evl
/-! ### the lot behind a sign; strips left -/
theorem nco_2 : ¬ (("steps" : Str) = "_found") ∧ ¬ (("steps" : Str) = "_writers") ∧ ¬ (("begin" : Str) = "_found") ∧ ¬ (("begin" : Str) = "_writers") ∧ ¬ (("leaves" : Str) = "_found") ∧ ¬ (("leaves" : Str) = "_writers") := by decide +kernel
def spLotB (P : Program) (w : World) (K : PySem.W.Frag) (C : Addr) : Sp := fun vs H Q _ => ∃ (c d : Addr) (u : V) (m : List Wr) (n : Nat) (L : List Std) (sign : Str), vs = [.ref c, u, .str sign] ∧ CoAtD P w K C H c m n d ∧ GoodM m ∧ Dp K H u (.list (L.map dS)) ∧ (∀ s ∈ L, InM m s) ∧
  ∀ p us H', H p = none → KD d H H' → CoAtD P w K C H' c m 20000 d → H' p = some (.lst us) → DpAll K H' us ((sortS (ledG m sign L)).map dS) → Q (.ref p) H'
def spLeaves (P : Program) (w : World) (K : PySem.W.Frag) (C : Addr) : Sp := fun vs H Q _ => ∃ (c d sp : Addr) (m : List Wr) (n : Nat) (zs : List Str), vs = [.ref c, .ref sp] ∧ CoAtD P w K C H c m n d ∧ GoodM m ∧ (SqL K H sp (zs.map V.str) ∨ SqT K H sp (zs.map V.str)) ∧
  ∀ H', KD d H H' → CoAtD P w K C H' c m 20000 d → Q (.bl (decide (0 < (lotP m zs).length))) H'
theorem KD.refl (d : Addr) (H : Hp) : KD d H H := fun _ _ h _ => h
theorem KD.trans {d : Addr} {H H1 H2 : Hp} (a : KD d H H1) (b : KD d H1 H2) : KD d H H2 := fun c o h n => b c o (a c o h n) n
theorem KD.of {d : Addr} {H H' : Hp} (e : Ex H H') : KD d H H' := fun b o h _ => e b o h
theorem kd_kx {P : Program} {w : World} {H H' : Hp} {xs : DX} {d : Addr} (hd : H d = some (DicO P w d xs)) (k : KD d H H') : KX H H' := fun b o hb no => k b o hb fun z => by
  rw [z, hd] at hb
  exact no _ (Option.some.inj hb).symm
theorem KD.free {P : Program} {w : World} {K : PySem.W.Frag} {C c d : Addr} {m : List Wr} {n : Nat} {H H' : Hp} (k : KD d H H') (h : CoAtD P w K C H' c m n d) {b : Addr} (nb : H' b = none) : H b = none := by
  cases e : H b with
  | none => rfl
  | some o =>
    have : b ≠ d := fun z => by
      obtain ⟨xs, hd⟩ := CoAtD.ext h
      rw [z, hd] at nb
      cases nb
    rw [k b o e this] at nb
    cases nb
theorem CoAtD.same {P : Program} {w : World} {K : PySem.W.Frag} {C : Addr} {H H' : Hp} {c : Addr} {m : List Wr} {n : Nat} {d : Addr} (e : Ex H H') (h : CoAtD P w K C H c m n d) : CoAtD P w K C H' c m n d := by
  obtain ⟨xs, hd⟩ := CoAtD.ext h
  exact CoAtD.keep h ((e _ _ hd).trans hd.symm) (fun o ho => e _ _ ho) (.of e)
section
variable {P : Program} {w : World} {K : PySem.W.Frag} {mg : Str → Option Value} {base : Heap}
theorem ok_lotb {f C : Addr} {fd : FuncData} {k : Nat} (F : Fun K "lot_behind" "lot_behind" sLotBehind f fd) (T : Txt mg) (M_Company_steps : MetC P w K mg base k C "steps" ["self", "stand"] (spStepsD P w K C)) : FnOk P w K mg base CX0 (k + 1) f fd ["company", "lot", "sign"] (spLotB P w K C) := by
  refine F.ok sc_lot_behind (fun vs H Q E h => ?_) (fun cdv A outer s H vs Q E hr h => ?_)
  · obtain ⟨c, d, u, m, n, L, sign, rfl, _⟩ := h
    rfl
  · obtain ⟨c, d, u, m, n, L, sign, rfl, hc0, g, hu, hL, q⟩ := h
    refine ⟨_, (pss_one (ps_ret (pe_callB (cr_sortedZ rfl (hu9 hr)) (by rfl) T.m_sorted (by decide +kernel) (pa_cons (pe_sc2 (own := [("stand", 3), ("found", 4), ("_", 5), ("then", 6)]) (vs1 := [4, 5, 6]) (g := (gName 3)) (g1 := (gTup K 3 (gCons (gName 4) (gCons (gName 5) (gCons (gName 6) gNil))))) (Nw := (NwN w)) (Ad := (AdN w K)) (by rfl) sc_lot_behind.nd (pi_list (pv 1)) (blkOk_by (own := [("stand", 3), ("found", 4), ("_", 5), ("then", 6)]) (N := ["company", "lot", "sign", "stand", "found", "_", "then"]) (sc := defScope sLotBehind) (by decide +kernel)) (by decide) newN_ok (fun _ _ _ _ _ => addN_ok (hu9 hr)) (fun _ _ _ _ _ => (pg_name (i := 3) sc_lot_behind.nd rfl (Or.inl rfl))) (fun _ _ _ _ _ => pts_nil) (fun _ _ _ _ _ => (show PI _ _ _ (iList K _) from (pi_list (pe_methC (pv 0) M_Company_steps (hr.mono (by omega)) (pa_cons (pv 3) pa_nil))))) (fun _ _ _ _ _ => (pg_tup rfl (pgs_cons (pg_name (i := 4) sc_lot_behind.nd rfl (.inl rfl)) (pgs_cons (pg_name (i := 5) sc_lot_behind.nd rfl (.inl rfl)) (pgs_cons (pg_name (i := 6) sc_lot_behind.nd rfl (.inl rfl)) pgs_nil))))) (fun _ _ _ _ _ => pts_one (pt_cmpR op_eq (pv 4) (pv 2) (nomark _))) (fun _ _ _ _ _ => (pv 6))) pa_nil)))), ?_⟩
    obtain ⟨lp, us, rfl, hlp, hus⟩ := dp_lst hu
    have hc0 := CoAtD.cap hc0
    refine ⟨.ref lp, rfl, lp, rfl, ⟨us, hlp⟩, fun D nD => ?_⟩
    have hul := hus.length
    rw [List.length_map] at hul
    obtain ⟨xs0, hd0⟩ := CoAtD.ext hc0
    have dD : d ≠ D := ne_of_none hd0 nD
    have cD : ∀ {o}, H c = some o → c ≠ D := fun hc => ne_of_none hc nD
    obtain ⟨dx, tw, kvs0, hcc, _⟩ := id hc0
    refine turns_it (walk_list (K := K) (xs := us)) (fun i H9 => KD d H H9 ∧ CoAtD P w K C H9 c m 20000 d ∧ ∃ Sx, SetAtN w K H9 D Sx ∧ SetOfS Sx (ledG m sign (L.take i))) ⟨.of (Ex.new nD), hc0.same (Ex.new nD), [], ⟨[], upd_same, fun x hx => (by cases hx), .nil⟩, SetOfS.nil⟩ (fun i H9 _ hP => (kd_kx hd0 hP.1).l _ _ hlp) (fun i x Ha Hb hi hP hy => ?_) (fun H9 hP => ?_)
    · obtain ⟨kd9, hc9, Sx, hS, hSo⟩ := hP
      obtain ⟨rfl, hx⟩ := hy
      obtain ⟨dd, hd, hxd⟩ := ((kd_kx hd0 kd9).dps hus).at hx
      rw [List.getElem?_map, Option.map_eq_some_iff] at hd
      obtain ⟨st, hst, rfl⟩ := hd
      have il := hL st (List.mem_of_getElem? hst)
      have hcc9 := kd9 _ _ hcc (fun z => by rw [z, hd0] at hcc; unfold DicO at hcc; cases hcc)
      refine g_go ⟨rfl, ?_⟩
      refine ⟨.ref c, rfl, c, dx, _, rfl, hcc9, coF_no _ _ nco_2.1 nco_2.2.1, x, rfl, c, m, 20000, x, st, d, rfl, hc9, by decide, g, il.ok.toFits, il.ty, hxd, fun pd us2 H4 npd kd4 hc4 hpd hus2 => ⟨pd, rfl, ⟨us2, .of hpd⟩, ?_⟩⟩
      have hul2 := hus2.length
      rw [List.length_map] at hul2
      obtain ⟨xs9, hd9⟩ := CoAtD.ext hc9
      obtain ⟨L0, eD9, hL0, pL0⟩ := id hS
      have eD4 : H4 D = Hb D := by
        rw [eD9]
        exact kd4 _ _ eD9 dD.symm
      have hS4 : SetAtN w K H4 D Sx := hS.up eD4 (kd_kx hd9 kd4).t
      have pdD : pd ≠ D := fun e => by
        rw [e, eD4, eD9] at hpd
        exact setNO_ne.1 _ (Option.some.inj hpd)
      refine turns_it (walk_list (K := K) (xs := us2)) (fun i2 H5 => KD d H H5 ∧ CoAtD P w K C H5 c m 20000 d ∧ H5 pd = some (.lst us2) ∧ DpAll K H5 us2 ((stepsOf m st).map dStep) ∧ ∃ Sy, SetAtN w K H5 D Sy ∧ SetOfS Sy (ledG m sign (L.take i) ++ (((stepsOf m st).take i2).filter fun x => decide (x.1 = sign)).map (·.2.2))) ⟨kd9.trans kd4, hc4.cap, hpd, hus2, Sx, hS4, by rw [List.take_zero, List.filter_nil, List.map_nil, List.append_nil]; exact hSo⟩ (fun i2 H5 _ hP => .of hP.2.2.1) (fun i2 x2 Hc Hd hi2 hP hy => ?_) (fun H5 hP => ?_)
      · obtain ⟨kd5, hc5, hpd5, hus5, Sy, hSy, hSo5⟩ := hP
        obtain ⟨rfl, hx2⟩ := hy
        obtain ⟨d2, hd2, hxd2⟩ := hus5.at hx2
        rw [List.getElem?_map, Option.map_eq_some_iff] at hd2
        obtain ⟨gx, hgx, rfl⟩ := hd2
        have hsn := filter_snoc (fun x : Str × Str × Std => decide (x.1 = sign)) hgx
        refine tg3 hxd2 fun v1 v2 v3 a1 a2 a3 => ⟨rfl, ?_⟩
        obtain rfl := dp_str a1
        refine (et_test (b := decide (V.str gx.1 = V.str sign)) (ev_op (σ := [some (.ref c), some (.ref lp), some (.str sign), some x, some (.str gx.1), some v2, some v3]) (ev_var (i := 4) rfl) (ev_var (i := 2) rfl) (rv_eq rfl))) Hd (.refl Hd) _ fun H6 e6 => ?_
        have hc6 := hc5.same e6
        have kd6 : KD d H H6 := kd5.trans (.of e6)
        have hSy6 := hSy.up (H' := H6) (by obtain ⟨L1, e1, _⟩ := hSy; rw [e1]; exact e6 _ _ e1) (TupK.of e6)
        by_cases hs : gx.1 = sign
        · rw [show decide (V.str gx.1 = V.str sign) = true from decide_eq_true (by rw [hs])]
          rw [show decide (gx.1 = sign) = true from decide_eq_true hs, if_pos rfl] at hsn
          refine iteT ⟨v3, rfl, Sy, kS gx.2.2, hSy6, key_at (dp_same e6 a3), kS_ints _, ?_, fun H7 hS7 only => ?_⟩
          · have := hSo5.fewT (n := m.length) fun t ht => by
              have : InM m t := by
                rcases List.mem_append.mp ht with ht | ht
                · rw [mem_ledG] at ht
                  exact led_inM g (fun s hs => hL s (List.mem_of_mem_take hs)) ht
                · obtain ⟨y, hy, rfl⟩ := List.mem_map.mp ht
                  obtain ⟨hy1, hy2⟩ := List.mem_filter.mp hy
                  exact led_inM g (fun s hs => hL s hs) ⟨st, List.mem_of_getElem? hst, y, List.mem_of_mem_take hy1, of_decide_eq_true hy2, rfl⟩
              exact ⟨this.ty, this.ok.toFits.l1⟩
            omega
          · have tk := tk_set hSy6 only
            have hc7 : CoAtD P w K C H7 c m 20000 d := CoAtD.keep hc6 (only d dD) (fun o ho => by rw [only c (cD hcc)]; exact ho) tk
            refine ⟨fun b o hb nd => ?_, hc7, ?_, dps_tk tk (fz_map fun x _ => fz_dStep x) (dps_same e6 hus5), _, hS7, ?_⟩
            · rw [only b (ne_of_none hb nD)]
              exact kd6 b o hb nd
            · rw [only pd pdD]
              exact e6 _ _ hpd5
            · have := hSo5.ins gx.2.2
              rw [List.append_assoc] at this
              rw [hsn, List.map_append]
              exact this
        · rw [show decide (V.str gx.1 = V.str sign) = false from decide_eq_false fun z => hs (by injection z)]
          rw [show decide (gx.1 = sign) = false from decide_eq_false hs, if_neg (by decide), List.append_nil] at hsn
          refine iteF ⟨kd6, hc6, e6 _ _ hpd5, dps_same e6 hus5, Sy, hSy6, ?_⟩
          rw [hsn]
          exact hSo5
      · obtain ⟨kd5, hc5, _, _, Sy, hSy, hSo5⟩ := hP
        refine ⟨kd5, hc5, Sy, hSy, ?_⟩
        rw [hul2, List.take_length] at hSo5
        have : ledG m sign (L.take (i + 1)) = ledG m sign (L.take i) ++ onBy m sign st := by
          unfold ledG
          rw [List.take_succ, hst, List.flatMap_append]
          simp
        rw [this]
        exact hSo5
    · obtain ⟨kd9, hc9, Sx, hS, hSo⟩ := hP
      rw [hul, List.take_length] at hSo
      obtain ⟨al, so⟩ := allalike_set hSo
      refine ⟨D, Sx, rfl, hS, al, so, fun S' p5 ws pS _ np5 hws => ?_⟩
      rw [sort_set (pS.nodup_iff.mpr hSo.1) (fun k => by rw [pS.mem_iff]; exact hSo.2 k)] at hws
      have s10 := same_new (o := HO.lst ws) np5
      exact q p5 ws _ (KD.free kd9 hc9 np5) (kd9.trans (.of s10)) (hc9.same s10) upd_same (dps_same s10 hws)
theorem ok_leaves {f C : Addr} {fd : FuncData} {k : Nat} (F : Fun K "leaves" "Company.leaves" sCompanyLeaves f fd) (T : Txt mg) (M_Company_begin : MetC P w K mg base k C "begin" ["self"] (spBegin P w K C)) (C_lot_behind : Cal P w K mg base k "lot_behind" ["company", "lot", "sign"] (spLotB P w K C)) : FnOk P w K mg base CX0 (k + 1) f fd ["self", "strip"] (spLeaves P w K C) := by
  refine F.ok sc_Company_leaves (fun vs H Q E h => ?_) (fun cdv A outer s H vs Q E hr h => ?_)
  · obtain ⟨c, d, sp, m, n, zs, rfl, _⟩ := h
    rfl
  · obtain ⟨c, d, sp, m, n, zs, rfl, hc, g, hsp, q⟩ := h
    have hc := CoAtD.cap hc
    obtain ⟨dx, tw, kvs0, hcc, _⟩ := id hc
    obtain ⟨xs0, hd0⟩ := CoAtD.ext hc
    rcases hsp with hsp | hsp
    · refine ⟨_, (pss_cons (ps_set (i := 2) sc_Company_leaves.nd rfl (.inl rfl) (pe_lst (pa_cons (pe_methC0 (pv 0) M_Company_begin (hr.mono (by omega))) pa_nil)))
    (pss_cons (ps_for PassesOwn.never rfl (pi_list (pv 1)) (pg_name (i := 3) sc_Company_leaves.nd rfl (.inl rfl))
    (pss_one (ps_set (i := 2) sc_Company_leaves.nd rfl (.inl rfl) (pe_callC C_lot_behind hr (by rfl) (pa_cons (pv 0) (pa_cons (pv 2) (pa_cons (pv 3) pa_nil)))))))
    (pss_one (ps_ret (pe_cmpR op_gt (pe_callB call_len (by rfl) T.m_len PySem.boot_len (pa_cons (pv 2) pa_nil)) pe_int (nomark _)))))), ?_⟩
      refine ⟨.ref c, rfl, c, dx, _, rfl, hcc, coF_no _ _ nco_2.2.2.1 nco_2.2.2.2.1, c, m, 20000, rfl, CoAtD.co hc, g.len, fun v H1 e1 hv => ⟨by show 1 ≤ sizeLine; decide, fun lp nlp => g_go ?_⟩⟩
      have s2 := same_new (o := HO.lst [v]) nlp
      have e12 := e1.trans s2
      have hlp : Dp K (upd H1 lp (.lst [v])) (.ref lp) (.list ((lotP m []).map dS)) := .lst (.of upd_same) (.cons (dp_same s2 hv) .nil)
      generalize upd H1 lp (.lst [v]) = H2 at *
      dsimp only
      have kx2 := KX.of e12
      refine ⟨.ref sp, rfl, sp, rfl, ⟨_, kx2.l _ _ hsp⟩, for_it (walk_list (K := K) (xs := zs.map V.str)) (fun i σ' H' => (∃ u y3, σ' = [some (.ref c), some (.ref sp), some u, y3] ∧ Dp K H' u (.list ((lotP m (zs.take i)).map dS))) ∧ KD d H H' ∧ CoAtD P w K C H' c m 20000 d) ⟨⟨.ref lp, none, rfl, hlp⟩, .of e12, hc.same e12⟩ (fun i σ' H' _ hP => (kd_kx hd0 hP.2.1).l _ _ hsp) (fun i y σ' Ha Hb hi hP hy => ?_) (fun σ' H' hP => ?_)⟩
      · obtain ⟨⟨u, y3, rfl, hu⟩, kd, hcd⟩ := hP
        obtain ⟨rfl, hx⟩ := hy
        rw [List.getElem?_map, Option.map_eq_some_iff] at hx
        obtain ⟨zz, hz, rfl⟩ := hx
        refine g_go ?_
        dsimp only
        refine ⟨.ref c, rfl, u, rfl, .str zz, rfl, c, d, u, m, 20000, lotP m (zs.take i), zz, rfl, hcd, g, hu, (lotP_in g _).1, fun p us H' np kd' hc' hp hus => g_go ⟨⟨.ref p, _, rfl, .lst (.of hp) ?_⟩, kd.trans kd', hc'⟩⟩
        rw [List.take_succ, hz]
        show DpAll K H' us ((lotP m (zs.take i ++ [zz])).map dS)
        rw [lotP_snoc]
        exact hus
      · obtain ⟨⟨u, y3, rfl, hu⟩, kd, hcd⟩ := hP
        rw [List.length_map, List.take_length] at hu
        dsimp only
        refine (ev_op (ev_is (ev_lenD (K := K) (σ := [some (.ref c), some (.ref sp), some u, y3]) (ed_var (i := 2) rfl hu) (.inl rfl)) (by rw [List.length_map])) ev_c rv_I0) H' (.refl H') _ fun H5 e5 => ?_
        have qq := q H5 (kd.trans (.of e5)) (hcd.same e5)
        rw [show decide (0 < (lotP m zs).length) = decide ((0 : Int) < (((lotP m zs).length : Nat) : Int)) from decide_eq_decide.mpr (by omega)] at qq
        exact qq
    · refine ⟨_, (pss_cons (ps_set (i := 2) sc_Company_leaves.nd rfl (.inl rfl) (pe_lst (pa_cons (pe_methC0 (pv 0) M_Company_begin (hr.mono (by omega))) pa_nil)))
    (pss_cons (ps_for PassesOwn.never rfl (pi_tup (pv 1)) (pg_name (i := 3) sc_Company_leaves.nd rfl (.inl rfl))
    (pss_one (ps_set (i := 2) sc_Company_leaves.nd rfl (.inl rfl) (pe_callC C_lot_behind hr (by rfl) (pa_cons (pv 0) (pa_cons (pv 2) (pa_cons (pv 3) pa_nil)))))))
    (pss_one (ps_ret (pe_cmpR op_gt (pe_callB call_len (by rfl) T.m_len PySem.boot_len (pa_cons (pv 2) pa_nil)) pe_int (nomark _)))))), ?_⟩
      refine ⟨.ref c, rfl, c, dx, _, rfl, hcc, coF_no _ _ nco_2.2.2.1 nco_2.2.2.2.1, c, m, 20000, rfl, CoAtD.co hc, g.len, fun v H1 e1 hv => ⟨by show 1 ≤ sizeLine; decide, fun lp nlp => g_go ?_⟩⟩
      have s2 := same_new (o := HO.lst [v]) nlp
      have e12 := e1.trans s2
      have hlp : Dp K (upd H1 lp (.lst [v])) (.ref lp) (.list ((lotP m []).map dS)) := .lst (.of upd_same) (.cons (dp_same s2 hv) .nil)
      generalize upd H1 lp (.lst [v]) = H2 at *
      dsimp only
      have kx2 := KX.of e12
      refine ⟨.ref sp, rfl, sp, rfl, ⟨_, kx2.t _ _ hsp⟩, for_it (walk_tup (K := K) (xs := zs.map V.str)) (fun i σ' H' => (∃ u y3, σ' = [some (.ref c), some (.ref sp), some u, y3] ∧ Dp K H' u (.list ((lotP m (zs.take i)).map dS))) ∧ KD d H H' ∧ CoAtD P w K C H' c m 20000 d) ⟨⟨.ref lp, none, rfl, hlp⟩, .of e12, hc.same e12⟩ (fun i σ' H' _ hP => (kd_kx hd0 hP.2.1).t _ _ hsp) (fun i y σ' Ha Hb hi hP hy => ?_) (fun σ' H' hP => ?_)⟩
      · obtain ⟨⟨u, y3, rfl, hu⟩, kd, hcd⟩ := hP
        obtain ⟨rfl, hx⟩ := hy
        rw [List.getElem?_map, Option.map_eq_some_iff] at hx
        obtain ⟨zz, hz, rfl⟩ := hx
        refine g_go ?_
        dsimp only
        refine ⟨.ref c, rfl, u, rfl, .str zz, rfl, c, d, u, m, 20000, lotP m (zs.take i), zz, rfl, hcd, g, hu, (lotP_in g _).1, fun p us H' np kd' hc' hp hus => g_go ⟨⟨.ref p, _, rfl, .lst (.of hp) ?_⟩, kd.trans kd', hc'⟩⟩
        rw [List.take_succ, hz]
        show DpAll K H' us ((lotP m (zs.take i ++ [zz])).map dS)
        rw [lotP_snoc]
        exact hus
      · obtain ⟨⟨u, y3, rfl, hu⟩, kd, hcd⟩ := hP
        rw [List.length_map, List.take_length] at hu
        dsimp only
        refine (ev_op (ev_is (ev_lenD (K := K) (σ := [some (.ref c), some (.ref sp), some u, y3]) (ed_var (i := 2) rfl hu) (.inl rfl)) (by rw [List.length_map])) ev_c rv_I0) H' (.refl H') _ fun H5 e5 => ?_
        have qq := q H5 (kd.trans (.of e5)) (hcd.same e5)
        rw [show decide (0 < (lotP m zs).length) = decide ((0 : Int) < (((lotP m zs).length : Nat) : Int)) from decide_eq_decide.mpr (by omega)] at qq
        exact qq
end
end Ink
namespace Ink
open PySem PySem.Spec PyProof.Rows L2 Evl
/-! ### whole rows of names, by counting along them -/
def inRow (ns : List Str) (z : Str) : Nat := ns.foldl (fun k o => if V.str o = V.str z then k + 1 else 0) 0
def waitedM (ns : List Str) (z : Str) : Nat := ns.foldl (fun k o => if V.str o = V.str z then 0 else k + 1) 0
theorem inRow_snoc {ns : List Str} {o z : Str} : inRow (ns ++ [o]) z = if V.str o = V.str z then inRow ns z + 1 else 0 := by
  unfold inRow
  rw [List.foldl_append]
  rfl
theorem waitedM_snoc {ns : List Str} {o z : Str} : waitedM (ns ++ [o]) z = if V.str o = V.str z then 0 else waitedM ns z + 1 := by
  unfold waitedM
  rw [List.foldl_append]
  rfl
/-- the arrows out of a place by a sign -/
def outBy (w : Wr) (p : Int) (z : Str) : List Int := ((arrsAt w p).filter fun x => decide (V.str x.2.1 = V.str z)).map (·.2.2)
def plStep (w : Wr) (o : Option Int) (x : Str × Str) : Option Int := match o with
  | none => none
  | some p => if V.str x.2 = V.str w.1 then (outBy w p x.1)[0]? else some p
def placeM (w : Wr) (ss ns : List Str) : Option Int := (ss.zip ns).foldl (plStep w) (some 0)
theorem placeM_snoc {w : Wr} {ss ns : List Str} {z nm : Str} (h : ss.length = ns.length) : placeM w (ss ++ [z]) (ns ++ [nm]) = plStep w (placeM w ss ns) (z, nm) := by
  unfold placeM
  rw [List.zip_append h, List.foldl_append]
  rfl
/-- what a writer has against a row -/
def okFor (w : Wr) (ss ns : List Str) : Bool :=
  (placeM w ss ns).isSome && !(decide (w.2.2.2 > 0) && decide ((inRow ns w.1 : Int) > w.2.2.2)) &&
  !(decide (w.2.2.1 > 0) && (decide (ns.getLast? ≠ some w.1) && !(arrsAt w ((placeM w ss.dropLast ns.dropLast).getD 0)).isEmpty && decide ((waitedM ns w.1 : Int) > w.2.2.1)))
def rowGood (m : List Wr) (ss ns : List Str) : Bool := m.all fun w => okFor w ss ns
def rowsM (m : List Wr) (ss : List Str) : Nat → List (List Str)
  | 0 => [[]]
  | i + 1 => m.flatMap fun w => ((rowsM m ss i).map fun ns => ns ++ [w.1]).filter fun ns => rowGood m (ss.take (i + 1)) ns
/-! the stand behind a row -/
inductive Runs (m : List Wr) : List Str → List Str → Std → Prop
  | nil : Runs m [] [] (beginS m)
  | snoc {ss ns : List Str} {s : Std} {x : Str × Str × Std} : Runs m ss ns s → x ∈ stepsOf m s → Runs m (ss ++ [x.1]) (ns ++ [x.2.1]) x.2.2
theorem Runs.len {m : List Wr} {ss ns : List Str} {s : Std} (h : Runs m ss ns s) : ss.length = ns.length := by
  induction h with
  | nil => rfl
  | snoc _ _ ih => rw [List.length_append, List.length_append, ih]; rfl
theorem Runs.okay {m : List Wr} (g : GoodM m) {ss ns : List Str} {s : Std} (h : Runs m ss ns s) : Okay m s := by
  induction h with
  | nil => exact okay_begin
  | snoc _ hx ih => exact okay_of_step g ih hx
theorem lot_runs {m : List Wr} : ∀ (n : Nat) (ss : List Str), ss.length = n → ∀ t, t ∈ lotP m ss ↔ ∃ ns, Runs m ss ns t := by
  intro n
  induction n with
  | zero =>
    intro ss h t
    obtain rfl := List.eq_nil_of_length_eq_zero h
    constructor
    · intro ht
      have ht : t ∈ [beginS m] := ht
      rw [List.mem_singleton.mp ht]
      exact ⟨[], .nil⟩
    · rintro ⟨ns, hr⟩
      generalize es : ([] : List Str) = ss0 at hr
      cases hr with
      | nil => exact List.mem_singleton.mpr rfl
      | snoc _ _ => simp at es
  | succ n ih =>
    intro ss h t
    have hne : ss ≠ [] := fun z => by rw [z] at h; cases h
    obtain ⟨ss0, z, rfl⟩ : ∃ ss0 z, ss = ss0 ++ [z] := ⟨_, _, (List.dropLast_concat_getLast hne).symm⟩
    have h0 : ss0.length = n := by
      rw [List.length_append] at h
      exact Nat.succ.inj h
    rw [lotP_snoc, sortS_mem, mem_ledG]
    constructor
    · rintro ⟨s, hs, x, hx, rfl, rfl⟩
      obtain ⟨ns, hr⟩ := (ih ss0 h0 s).mp hs
      exact ⟨_, hr.snoc hx⟩
    · rintro ⟨ns, hr⟩
      generalize es : ss0 ++ [z] = ss1 at hr
      cases hr with
      | nil => simp at es
      | snoc hr' hx =>
        obtain ⟨e1, e2⟩ := List.append_inj' es rfl
        injection e2 with e2 _
        subst e1
        exact ⟨_, (ih _ h0 _).mpr ⟨_, hr'⟩, _, hx, e2.symm, rfl⟩
end Ink
namespace Ink
open PySem PySem.Spec PyProof.Rows L2 Evl
theorem vs_iff {a b : Str} : V.str a = V.str b ↔ a = b := ⟨fun h => by injection h, fun h => by rw [h]⟩
theorem vi_iff {a b : Int} : V.int a = V.int b ↔ a = b := ⟨fun h => by injection h, fun h => by rw [h]⟩
theorem name_k {m : List Wr} (g : GoodM m) {j k : Nat} (hj : j < m.length) (hk : k < m.length) (h : (wr m j).1 = (wr m k).1) : j = k := by
  have e1 : (m.map (·.1))[j]? = some (wr m j).1 := by rw [List.getElem?_map, wr_get hj]; rfl
  have e2 : (m.map (·.1))[k]? = some (wr m j).1 := by rw [List.getElem?_map, wr_get hk, h]; rfl
  exact nd_get g.nd e1 e2
theorem steps_full {m : List Wr} {s : Std} {x : Str × Str × Std} : x ∈ stepsOf m s ↔ ∃ k y, k < m.length ∧ mayW m s k = true ∧ y ∈ arrsAt (wr m k) (pl s k) ∧ x = (y.2.1, (wr m k).1, behind m s k y.2.2) := by
  unfold stepsOf
  rw [List.mem_map]
  constructor
  · rintro ⟨p, hp, rfl⟩
    rw [List.mem_mergeSort] at hp
    unfold moves at hp
    obtain ⟨k, hk, hp⟩ := List.mem_flatMap.mp hp
    unfold movesAt at hp
    split at hp
    · rename_i hw
      obtain ⟨y, hy, rfl⟩ := List.mem_map.mp hp
      exact ⟨k, y, List.mem_range.mp hk, hw, hy, rfl⟩
    · cases hp
  · rintro ⟨k, y, hk, hw, hy, rfl⟩
    refine ⟨(y.2.1, k, y.2.2), ?_, rfl⟩
    rw [List.mem_mergeSort]
    unfold moves
    refine List.mem_flatMap.mpr ⟨k, List.mem_range.mpr hk, ?_⟩
    unfold movesAt
    rw [if_pos hw]
    exact List.mem_map.mpr ⟨y, hy, rfl⟩
theorem move_in {m : List Wr} {s : Std} {k : Nat} (hk : k < m.length) (hw : mayW m s k = true) {y : Arw} (hy : y ∈ arrsAt (wr m k) (pl s k)) : (y.2.1, k, y.2.2) ∈ moves m s := by
  unfold moves
  refine List.mem_flatMap.mpr ⟨k, List.mem_range.mpr hk, ?_⟩
  unfold movesAt
  rw [if_pos hw]
  exact List.mem_map.mpr ⟨y, hy, rfl⟩
theorem out_first {m : List Wr} (g : GoodM m) {s : Std} {k : Nat} (hk : k < m.length) (hw : mayW m s k = true) {y : Arw} (hy : y ∈ arrsAt (wr m k) (pl s k)) : (outBy (wr m k) (pl s k) y.2.1)[0]? = some y.2.2 := by
  have hm : y ∈ (arrsAt (wr m k) (pl s k)).filter fun x => decide (V.str x.2.1 = V.str y.2.1) := List.mem_filter.mpr ⟨hy, decide_eq_true rfl⟩
  unfold outBy
  cases e : (arrsAt (wr m k) (pl s k)).filter fun x => decide (V.str x.2.1 = V.str y.2.1) with
  | nil =>
    rw [e] at hm
    cases hm
  | cons x xs =>
    have hx : x ∈ (arrsAt (wr m k) (pl s k)).filter fun x => decide (V.str x.2.1 = V.str y.2.1) := by rw [e]; exact List.mem_cons_self
    obtain ⟨x1, x2⟩ := List.mem_filter.mp hx
    have x2 := vs_iff.mp (of_decide_eq_true x2)
    have q := moves_uniq g (move_in hk hw x1) (move_in hk hw hy) x2 rfl
    show some x.2.2 = some y.2.2
    rw [show x.2.2 = y.2.2 from congrArg (fun z => z.2.2) q]
theorem pl_self {m : List Wr} {s : Std} (f : Fits m s) {k : Nat} (hk : k < m.length) (to : Int) : pl (behind m s k to) k = to := by
  have l1 := f.l1
  unfold pl behind
  rw [List.getD_eq_getElem?_getD, List.getElem?_append_right (by rw [List.length_take]; omega), List.length_take, Nat.min_eq_left (by omega), Nat.sub_self]
  rfl
theorem inRow_last {ns : List Str} {o z : Str} (h : ns.getLast? = some o) (n : o ≠ z) : inRow ns z = 0 := by
  obtain ⟨ys, rfl⟩ := List.getLast?_eq_some_iff.mp h
  rw [inRow_snoc, if_neg fun e => n (vs_iff.mp e)]
/-- a stand as counting along the row tells it -/
structure Cnt (m : List Wr) (ss ns : List Str) (s : Std) : Prop where
  place : ∀ k, k < m.length → placeM (wr m k) ss ns = some (pl s k)
  wait : ∀ k, k < m.length → minds m s k = true → wt s k = (waitedM ns (wr m k).1 : Int)
  run : (ns = [] ∧ s.2.2 = (-1, 0)) ∨ ∃ k : Nat, k < m.length ∧ ns.getLast? = some (wr m k).1 ∧ s.2.2 = if V.int (wr m k).2.2.2 = V.int 0 then (-1, 0) else ((k : Int), (inRow ns (wr m k).1 : Int))
theorem runs_cnt {m : List Wr} (g : GoodM m) {ss ns : List Str} {s : Std} (h : Runs m ss ns s) : Cnt m ss ns s := by
  induction h with
  | nil =>
    refine ⟨fun k hk => ?_, fun k hk _ => ?_, .inl ⟨rfl, rfl⟩⟩
    · unfold pl beginS
      rw [List.getD_eq_getElem?_getD, List.getElem?_replicate, if_pos hk]
      rfl
    · unfold wt beginS
      rw [List.getD_eq_getElem?_getD, List.getElem?_replicate, if_pos hk]
      rfl
  | @snoc ss ns s x hr hx ih =>
    have ok := hr.okay g
    have hl := hr.len
    obtain ⟨k, y, hk, hw, hy, rfl⟩ := steps_full.mp hx
    have l2 := ok.l2
    refine ⟨fun j hj => ?_, fun j hj hm => ?_, .inr ⟨k, hk, List.getLast?_concat .., ?_⟩⟩
    · rw [placeM_snoc hl, ih.place j hj]
      show (if V.str (wr m k).1 = V.str (wr m j).1 then (outBy (wr m j) (pl s j) y.2.1)[0]? else some (pl s j)) = some (pl (behind m s k y.2.2) j)
      by_cases e : j = k
      · subst e
        rw [if_pos rfl, out_first g hj hw hy, pl_self ok.toFits hj]
      · rw [if_neg fun z => e (name_k g hj hk (vs_iff.mp z).symm), pl_behind ok.toFits hk hj e]
    · show wt (behind m s k y.2.2) j = (waitedM (ns ++ [(wr m k).1]) (wr m j).1 : Int)
      rw [wt_behind (by omega), waitedM_snoc]
      by_cases e : j = k
      · subst e
        rw [decide_eq_true rfl, if_pos rfl]
        rfl
      · have hm' : minds m s j = true := by
          rw [← hm]
          unfold minds
          rw [pl_behind ok.toFits hk hj e]
        rw [decide_eq_false fun z => e (by have := vi_iff.mp z; omega), hm', if_neg fun z => e (name_k g hj hk (vs_iff.mp z).symm), ih.wait j hj hm']
        simp
    · show (if V.int (wr m k).2.2.2 = V.int 0 then ((-1 : Int), (0 : Int)) else ((k : Int), if V.int s.2.2.1 = V.int (k : Int) then s.2.2.2 + 1 else 1)) = _
      by_cases c : V.int (wr m k).2.2.2 = V.int 0
      · rw [if_pos c, if_pos c]
      · rw [if_neg c, if_neg c, inRow_snoc, if_pos rfl]
        congr 1
        rcases ih.run with ⟨rfl, hr0⟩ | ⟨k', hk', hlast, hr0⟩
        · rw [hr0, if_neg fun z => by have := vi_iff.mp z; omega]
          rfl
        · by_cases e : k' = k
          · subst e
            rw [if_neg c] at hr0
            rw [hr0, if_pos rfl]
            omega
          · have ne : ¬ V.int s.2.2.1 = V.int (k : Int) := fun z => by
              have z := vi_iff.mp z
              rw [hr0] at z
              split at z
              · omega
              · exact e (by have : (k' : Int) = (k : Int) := z; omega)
            rw [if_neg ne, inRow_last hlast fun z => e (name_k g hk' hk z)]
            rfl
/-- the next name keeps the row good just where that writer may write -/
theorem may_iff {m : List Wr} (g : GoodM m) {s : Std} (o : Okay m s) {ss ns : List Str} (c : Cnt m ss ns s) {k : Nat} (hk : k < m.length) :
    mayW m s k = true ↔ ¬ ((wr m k).2.2.2 > 0 ∧ (inRow ns (wr m k).1 : Int) ≥ (wr m k).2.2.2) ∧ ∀ j, j < m.length → j ≠ k → minds m s j = true → (waitedM ns (wr m j).1 : Int) < (wr m j).2.2.1 := by
  have c0 := (g.at hk).c0
  have runk : (!decide (V.int (wr m k).2.2.2 = V.int 0) && (decide (V.int s.2.2.1 = V.int (k : Int)) && decide (s.2.2.2 ≥ (wr m k).2.2.2))) = true ↔ ((wr m k).2.2.2 > 0 ∧ (inRow ns (wr m k).1 : Int) ≥ (wr m k).2.2.2) := by
    rw [Bool.and_eq_true, Bool.and_eq_true, Bool.not_eq_true', decide_eq_false_iff_not, decide_eq_true_iff, decide_eq_true_iff, vi_iff, vi_iff]
    rcases c.run with ⟨rfl, hr0⟩ | ⟨k', hk', hlast, hr0⟩
    · rw [hr0]
      have : inRow [] (wr m k).1 = 0 := rfl
      rw [this]
      constructor
      · rintro ⟨_, h, _⟩
        omega
      · rintro ⟨h1, h2⟩
        omega
    · by_cases e : k' = k
      · subst e
        rw [hr0]
        by_cases z : V.int (wr m k').2.2.2 = V.int 0
        · rw [if_pos z]
          have := vi_iff.mp z
          constructor
          · rintro ⟨h, _⟩
            exact absurd this h
          · rintro ⟨h, _⟩
            omega
        · rw [if_neg z]
          constructor
          · rintro ⟨h1, _, h3⟩
            exact ⟨by omega, h3⟩
          · rintro ⟨h1, h2⟩
            exact ⟨by omega, rfl, h2⟩
      · rw [inRow_last hlast fun z => e (name_k g hk' hk z), hr0]
        constructor
        · rintro ⟨h1, h2, _⟩
          exfalso
          split at h2
          · omega
          · exact e (by have : (k' : Int) = (k : Int) := h2; omega)
        · rintro ⟨h1, h2⟩
          omega
  unfold mayW
  by_cases h1 : (!decide (V.int (wr m k).2.2.2 = V.int 0) && (decide (V.int s.2.2.1 = V.int (k : Int)) && decide (s.2.2.2 ≥ (wr m k).2.2.2))) = true
  · rw [if_pos h1]
    exact ⟨fun z => (by cases z), fun z => absurd (runk.mp h1) z.1⟩
  · rw [if_neg h1]
    have n1 : ¬ ((wr m k).2.2.2 > 0 ∧ (inRow ns (wr m k).1 : Int) ≥ (wr m k).2.2.2) := fun z => h1 (runk.mpr z)
    rw [List.all_eq_true]
    constructor
    · intro h
      refine ⟨n1, fun j hj hjk hm => ?_⟩
      rw [← c.wait j hj hm]
      have := h (decide (wt s j < (wr m j).2.2.1)) (List.mem_map.mpr ⟨j, List.mem_filter.mpr ⟨List.mem_range.mpr hj, by rw [Bool.and_eq_true, Bool.not_eq_true', decide_eq_false_iff_not]; exact ⟨fun z => hjk (by have := vi_iff.mp z; omega), hm⟩⟩, rfl⟩)
      exact of_decide_eq_true this
    · rintro ⟨_, h⟩ b hb
      obtain ⟨j, hj, rfl⟩ := List.mem_map.mp hb
      obtain ⟨j1, j2⟩ := List.mem_filter.mp hj
      rw [Bool.and_eq_true, Bool.not_eq_true', decide_eq_false_iff_not] at j2
      have hjl := List.mem_range.mp j1
      refine decide_eq_true ?_
      rw [c.wait j hjl j2.2]
      exact h j hjl (fun e => j2.1 (by rw [e])) j2.2
end Ink
namespace Ink
open PySem PySem.Spec PyProof.Rows L2 Evl
theorem okFor_next {m : List Wr} (g : GoodM m) {s : Std} (o : Okay m s) {ss ns : List Str} (c : Cnt m ss ns s) (hl : ss.length = ns.length) {k : Nat} (hk : k < m.length) (z : Str) {j : Nat} (hj : j < m.length) :
    okFor (wr m j) (ss ++ [z]) (ns ++ [(wr m k).1]) = true ↔ if j = k then ((outBy (wr m k) (pl s k) z)[0]?).isSome = true ∧ ¬ ((wr m k).2.2.2 > 0 ∧ (inRow ns (wr m k).1 : Int) ≥ (wr m k).2.2.2)
      else (minds m s j = true → (waitedM ns (wr m j).1 : Int) < (wr m j).2.2.1) := by
  have p0 := (g.at hj).p0
  unfold okFor
  rw [placeM_snoc hl, c.place j hj, List.dropLast_concat, List.dropLast_concat, c.place j hj, List.getLast?_concat, inRow_snoc, waitedM_snoc]
  show ((if V.str (wr m k).1 = V.str (wr m j).1 then (outBy (wr m j) (pl s j) z)[0]? else some (pl s j)).isSome && _ && _) = true ↔ _
  by_cases e : j = k
  · subst e
    rw [if_pos rfl, if_pos rfl, if_pos rfl, if_pos rfl]
    rw [show decide (some (wr m j).1 ≠ some (wr m j).1) = false from decide_eq_false (fun z => z rfl)]
    simp only [Bool.false_and, Bool.and_false, Bool.not_false, Bool.and_true, Bool.and_eq_true, Bool.not_eq_true', Bool.and_eq_false_iff, decide_eq_false_iff_not]
    constructor
    · rintro ⟨h1, h2⟩
      refine ⟨h1, fun z => ?_⟩
      rcases h2 with h2 | h2
      · exact h2 z.1
      · exact h2 (by omega)
    · rintro ⟨h1, h2⟩
      refine ⟨h1, ?_⟩
      by_cases q : (wr m j).2.2.2 > 0
      · exact .inr fun z => h2 ⟨q, by omega⟩
      · exact .inl q
  · have ne : ¬ V.str (wr m k).1 = V.str (wr m j).1 := fun z => e (name_k g hj hk (vs_iff.mp z).symm)
    rw [if_neg ne, if_neg ne, if_neg ne, if_neg e]
    rw [show decide (some (wr m k).1 ≠ some (wr m j).1) = true from decide_eq_true fun z => e (name_k g hj hk (Option.some.inj z).symm)]
    have c0 := (g.at hj).c0
    have hz : (decide ((wr m j).2.2.2 > 0) && decide (((0 : Nat) : Int) > (wr m j).2.2.2)) = false := by
      rw [Bool.and_eq_false_iff, decide_eq_false_iff_not, decide_eq_false_iff_not]
      exact .inr (by omega)
    rw [hz]
    have em : (minds m s j = true) ↔ ((wr m j).2.2.1 > 0 ∧ (arrsAt (wr m j) (pl s j)).isEmpty = false) := by
      unfold minds
      rw [Bool.and_eq_true, Bool.not_eq_true', decide_eq_false_iff_not, decide_eq_true_iff, vi_iff]
      have : pl s j ∈ (wr m j).2.1.map (·.1) ↔ (arrsAt (wr m j) (pl s j)).isEmpty = false := by
        unfold arrsAt
        constructor
        · intro h
          obtain ⟨y, hy, e⟩ := List.mem_map.mp h
          have : y ∈ (wr m j).2.1.filter fun x => decide (V.int x.1 = V.int (pl s j)) := List.mem_filter.mpr ⟨hy, decide_eq_true (by rw [e])⟩
          cases q : (wr m j).2.1.filter fun x => decide (V.int x.1 = V.int (pl s j)) with
          | nil =>
            rw [q] at this
            cases this
          | cons _ _ => rfl
        · intro h
          cases q : (wr m j).2.1.filter fun x => decide (V.int x.1 = V.int (pl s j)) with
          | nil =>
            rw [q] at h
            cases h
          | cons y ys =>
            have hy : y ∈ (wr m j).2.1.filter fun x => decide (V.int x.1 = V.int (pl s j)) := by rw [q]; exact List.mem_cons_self
            obtain ⟨y1, y2⟩ := List.mem_filter.mp hy
            exact List.mem_map.mpr ⟨y, y1, vi_iff.mp (of_decide_eq_true y2)⟩
      rw [this]
      exact ⟨fun h => ⟨by omega, h.2⟩, fun h => ⟨by omega, h.2⟩⟩
    rw [em]
    show (true && !false && !(decide ((wr m j).2.2.1 > 0) && (true && !(arrsAt (wr m j) (pl s j)).isEmpty && decide (((waitedM ns (wr m j).1 + 1 : Nat) : Int) > (wr m j).2.2.1)))) = true ↔ _
    simp only [Bool.true_and, Bool.not_false, Bool.not_eq_true', Bool.and_eq_false_iff, decide_eq_false_iff_not, Bool.not_eq_false']
    constructor
    · rintro h ⟨h1, h2⟩
      rcases h with h | h | h
      · exact absurd h1 h
      · rw [h2] at h
        cases h
      · omega
    · intro h
      by_cases q1 : (wr m j).2.2.1 > 0
      · cases q2 : (arrsAt (wr m j) (pl s j)).isEmpty with
        | true => exact .inr (.inl rfl)
        | false => exact .inr (.inr (by have := h ⟨q1, q2⟩; omega))
      · exact .inl q1
theorem good_iff {m : List Wr} (g : GoodM m) {s : Std} (o : Okay m s) {ss ns : List Str} (c : Cnt m ss ns s) (hl : ss.length = ns.length) {k : Nat} (hk : k < m.length) (z : Str) :
    rowGood m (ss ++ [z]) (ns ++ [(wr m k).1]) = true ↔ ∃ y ∈ arrsAt (wr m k) (pl s k), y.2.1 = z ∧ mayW m s k = true := by
  have key : rowGood m (ss ++ [z]) (ns ++ [(wr m k).1]) = true ↔ ∀ j, j < m.length → okFor (wr m j) (ss ++ [z]) (ns ++ [(wr m k).1]) = true := by
    unfold rowGood
    rw [List.all_eq_true]
    constructor
    · intro h j hj
      exact h _ (List.mem_of_getElem? (wr_get hj))
    · intro h w hw
      obtain ⟨j, hj⟩ := List.mem_iff_getElem?.mp hw
      have hjl := (List.getElem?_eq_some_iff.mp hj).1
      have e : w = wr m j := Option.some.inj (hj.symm.trans (wr_get hjl))
      rw [e]
      exact h j hjl
  rw [key, may_iff g o c hk]
  constructor
  · intro h
    have hk1 := (okFor_next g o c hl hk z hk).mp (h k hk)
    rw [if_pos rfl] at hk1
    obtain ⟨t, ht⟩ := Option.isSome_iff_exists.mp hk1.1
    unfold outBy at ht
    rw [List.getElem?_map, Option.map_eq_some_iff] at ht
    obtain ⟨y, hy, _⟩ := ht
    obtain ⟨y1, y2⟩ := List.mem_filter.mp (List.mem_of_getElem? hy)
    refine ⟨y, y1, vs_iff.mp (of_decide_eq_true y2), hk1.2, fun j hj hjk hm => ?_⟩
    have := (okFor_next g o c hl hk z hj).mp (h j hj)
    rw [if_neg hjk] at this
    exact this hm
  · rintro ⟨y, hy, rfl, h1, h2⟩ j hj
    rw [okFor_next g o c hl hk _ hj]
    by_cases e : j = k
    · subst e
      rw [if_pos rfl]
      refine ⟨?_, h1⟩
      have hm : y ∈ (arrsAt (wr m j) (pl s j)).filter fun x => decide (V.str x.2.1 = V.str y.2.1) := List.mem_filter.mpr ⟨hy, decide_eq_true rfl⟩
      unfold outBy
      cases q : (arrsAt (wr m j) (pl s j)).filter fun x => decide (V.str x.2.1 = V.str y.2.1) with
      | nil =>
        rw [q] at hm
        cases hm
      | cons _ _ => rfl
    · rw [if_neg e]
      exact h2 j hj e
/-- the good rows are those along which the company can go -/
theorem rows_runs {m : List Wr} (g : GoodM m) (ss : List Str) : ∀ {i : Nat}, i ≤ ss.length → ∀ ns, ns ∈ rowsM m ss i ↔ ∃ s, Runs m (ss.take i) ns s
  | 0, _, ns => by
    rw [List.take_zero]
    constructor
    · intro h
      have h : ns ∈ [([] : List Str)] := h
      rw [List.mem_singleton.mp h]
      exact ⟨_, .nil⟩
    · rintro ⟨s, hr⟩
      have := hr.len
      obtain rfl := List.eq_nil_of_length_eq_zero this.symm
      exact List.mem_singleton.mpr rfl
  | i + 1, h, ns => by
    obtain ⟨z, hz⟩ : ∃ z, ss[i]? = some z := ⟨_, List.getElem?_eq_getElem h⟩
    have et : ss.take (i + 1) = ss.take i ++ [z] := by rw [List.take_succ, hz]; rfl
    show ns ∈ m.flatMap _ ↔ _
    rw [List.mem_flatMap, et]
    constructor
    · rintro ⟨w, hw, hn⟩
      obtain ⟨n1, n2⟩ := List.mem_filter.mp hn
      obtain ⟨n0, hn0, rfl⟩ := List.mem_map.mp n1
      obtain ⟨s, hr⟩ := (rows_runs g ss (Nat.le_of_lt h) n0).mp hn0
      obtain ⟨k, hk⟩ := List.mem_iff_getElem?.mp hw
      have hkl := (List.getElem?_eq_some_iff.mp hk).1
      obtain rfl : w = wr m k := Option.some.inj (hk.symm.trans (wr_get hkl))
      obtain ⟨y, hy, rfl, hmay⟩ := (good_iff g (hr.okay g) (runs_cnt g hr) hr.len hkl z).mp n2
      exact ⟨_, hr.snoc (steps_full.mpr ⟨k, y, hkl, hmay, hy, rfl⟩)⟩
    · rintro ⟨s, hr⟩
      generalize es : ss.take i ++ [z] = s1 at hr
      cases hr with
      | nil => simp at es
      | @snoc ss0 ns0 s0 x hr' hx =>
        obtain ⟨e1, e2⟩ := List.append_inj' es rfl
        injection e2 with e2 _
        obtain ⟨k, y, hk, hw, hy, rfl⟩ := steps_full.mp hx
        have e2 : z = y.2.1 := e2
        subst e1 e2
        refine ⟨wr m k, List.mem_of_getElem? (wr_get hk), List.mem_filter.mpr ⟨List.mem_map.mpr ⟨ns0, (rows_runs g ss (Nat.le_of_lt h) ns0).mpr ⟨_, hr'⟩, rfl⟩, ?_⟩⟩
        exact (good_iff g (hr'.okay g) (runs_cnt g hr') hr'.len hk y.2.1).mpr ⟨y, hy, rfl, hw⟩
theorem rows_lot {m : List Wr} (g : GoodM m) (ss : List Str) : rowsM m ss ss.length ≠ [] ↔ lotP m ss ≠ [] := by
  have e : ss.take ss.length = ss := List.take_length
  constructor
  · intro h
    obtain ⟨ns, hn⟩ := List.exists_mem_of_ne_nil _ h
    obtain ⟨s, hr⟩ := (rows_runs g ss (Nat.le_refl _) ns).mp hn
    rw [e] at hr
    have := (lot_runs _ ss rfl s).mpr ⟨ns, hr⟩
    exact List.ne_nil_of_mem this
  · intro h
    obtain ⟨s, hs⟩ := List.exists_mem_of_ne_nil _ h
    obtain ⟨ns, hr⟩ := (lot_runs _ ss rfl s).mp hs
    exact List.ne_nil_of_mem ((rows_runs g ss (Nat.le_refl _) ns).mpr ⟨s, by rw [e]; exact hr⟩)
end Ink
namespace Ink
open PySem PySem.Spec PyProof.Rows L2 Evl
/-! ### the law's counting along a row -/
def dOpt (o : Option Int) : PyData := match o with
  | none => .none
  | some p => .int p
def RInRow : List PyData → PyData → Prop := fun ds d => ∃ (ns : List Str) (z : Str), ns.length ≤ 1000 ∧ ds = [.tuple (ns.map .str), .str z] ∧ d = .int (inRow ns z : Nat)
def RWaited : List PyData → PyData → Prop := fun ds d => ∃ (ns : List Str) (z : Str), ns.length ≤ 1000 ∧ ds = [.tuple (ns.map .str), .str z] ∧ d = .int (waitedM ns z : Nat)
def RPlace : List PyData → PyData → Prop := fun ds d => ∃ (w : Wr) (ss ns : List Str), GoodW w.1 w.2.1 w.2.2.1 w.2.2.2 ∧ ds = [dW w, .tuple (ss.map .str), .tuple (ns.map .str)] ∧ d = dOpt (placeM w ss ns)
theorem walk_zipT2 {K : PySem.W.Frag} {a b : Addr} {xs ys : List V} : Walk (RZ.ItzT K a b) (min xs.length ys.length) (fun H => SqT K H a xs ∧ SqT K H b ys) (YPair (fun i => xs[i]?) (fun i => ys[i]?)) where
  goes i H hi q := by
    have h1 : i < xs.length := Nat.lt_of_lt_of_le hi (Nat.min_le_left ..)
    have h2 : i < ys.length := Nat.lt_of_lt_of_le hi (Nat.min_le_right ..)
    exact ⟨xs, ys, xs[i], ys[i], q.1, q.2, List.getElem?_eq_getElem h1, List.getElem?_eq_getElem h2⟩
  stops H q := ⟨xs, ys, q.1, q.2, by omega⟩
  yields i H v H' _ q y := by
    obtain ⟨T, x, y', e1, e2, e3, e4, e5⟩ := y
    exact ⟨T, x, y', e1, e2, e3, e4 _ q.1, e5 _ q.2⟩
theorem arrs_len (w : Wr) (p : Int) : (arrsAt w p).length ≤ w.2.1.length := List.length_filter_le ..
section
variable {P : Program} {w : World} {K : PySem.W.Frag} {mg : Str → Option Value} {base : Heap}
theorem ok_inrow {f : Addr} {fd : FuncData} {k : Nat} (F : Fun K "_law_in_a_row" "_law_in_a_row" sLInARow f fd) (T : Txt mg) : FnOk P w K mg base CX0 (k + 1) f fd ["_law_names_here", "_law_name"] (spP K RInRow) := by
  refine F.ok sc__law_in_a_row (fun vs H Q E h => ?_) (fun cdv A outer s H vs Q E hr h => ?_)
  · obtain ⟨ds, d, hd, ⟨ns, z, _, rfl, _⟩, _⟩ := h
    exact hd.length
  · obtain ⟨ds, d, hd, ⟨ns, z, ln, rfl, rfl⟩, q⟩ := h
    obtain ⟨v0, v1, rfl, h0, h1⟩ := dps2 hd
    obtain rfl := dp_str h1
    obtain ⟨na, xs, rfl, hna, hxs⟩ := dp_tup h0
    obtain rfl := dps_str hxs
    refine ⟨_, (pss_cons (ps_set (i := 2) sc__law_in_a_row.nd rfl (.inl rfl) pe_int)
    (pss_cons (ps_for PassesOwn.never rfl (pi_tup (pv 0)) (pg_name (i := 3) sc__law_in_a_row.nd rfl (.inl rfl))
    (pss_one (ps_set (i := 2) sc__law_in_a_row.nd rfl (.inl rfl) (pe_ifExp (pt_cmpR op_eq (pv 3) (pv 1) (nomark _)) (pe_op op_add (pv 2) pe_int) pe_int))))
    (pss_one (ps_ret (pv 2))))), ?_⟩
    refine ⟨.ref na, rfl, na, rfl, ⟨_, hna⟩, for_it (walk_tup (K := K) (xs := ns.map V.str)) (fun i σ' H' => (∃ y3, σ' = [some (.ref na), some (.str z), some (.int (inRow (ns.take i) z : Nat)), y3]) ∧ Ex H H') ⟨⟨none, rfl⟩, .refl _⟩ (fun i σ' H' _ hP => ex_t hP.2 hna) (fun i x σ' Ha Hb hi hP hy => ?_) (fun σ' H' hP => ?_)⟩
    · obtain ⟨⟨y3, rfl⟩, e⟩ := hP
      obtain ⟨rfl, hx⟩ := hy
      rw [List.getElem?_map, Option.map_eq_some_iff] at hx
      obtain ⟨o, ho, rfl⟩ := hx
      refine g_go ?_
      dsimp only
      refine sd_asg (K := K) (d := .int (inRow (ns.take (i + 1)) z : Nat)) (ed_if (b := decide (V.str o = V.str z)) (et_test (ev_op (ev_var rfl) (ev_var rfl) (rv_eq rfl))) (fun hb => ?_) (fun hb => ?_)) fun v H1 e1 hv => ?_
      · have hb := of_decide_eq_true hb
        refine ed_int (ev_is (ev_op (ev_var rfl) ev_c rv_I0) ?_)
        rw [List.take_succ, ho]
        show V.int ((inRow (ns.take i) z : Int) + 1) = V.int (inRow (ns.take i ++ [o]) z : Nat)
        rw [inRow_snoc, if_pos hb]
        rfl
      · have hb := of_decide_eq_false hb
        refine ed_int (ev_is ev_c ?_)
        rw [List.take_succ, ho]
        show V.int 0 = V.int (inRow (ns.take i ++ [o]) z : Nat)
        rw [inRow_snoc, if_neg hb]
        rfl
      · obtain rfl := dp_int hv
        exact ⟨⟨_, rfl⟩, e.trans e1⟩
    · obtain ⟨⟨y3, rfl⟩, e⟩ := hP
      rw [List.length_map, List.take_length]
      exact ⟨_, rfl, q _ H' e (.int _)⟩
theorem ok_waited {f : Addr} {fd : FuncData} {k : Nat} (F : Fun K "_law_waited" "_law_waited" sLWaited f fd) (T : Txt mg) : FnOk P w K mg base CX0 (k + 1) f fd ["_law_names_here", "_law_name"] (spP K RWaited) := by
  refine F.ok sc__law_waited (fun vs H Q E h => ?_) (fun cdv A outer s H vs Q E hr h => ?_)
  · obtain ⟨ds, d, hd, ⟨ns, z, _, rfl, _⟩, _⟩ := h
    exact hd.length
  · obtain ⟨ds, d, hd, ⟨ns, z, ln, rfl, rfl⟩, q⟩ := h
    obtain ⟨v0, v1, rfl, h0, h1⟩ := dps2 hd
    obtain rfl := dp_str h1
    obtain ⟨na, xs, rfl, hna, hxs⟩ := dp_tup h0
    obtain rfl := dps_str hxs
    refine ⟨_, (pss_cons (ps_set (i := 2) sc__law_waited.nd rfl (.inl rfl) pe_int)
    (pss_cons (ps_for PassesOwn.never rfl (pi_tup (pv 0)) (pg_name (i := 3) sc__law_waited.nd rfl (.inl rfl))
    (pss_one (ps_set (i := 2) sc__law_waited.nd rfl (.inl rfl) (pe_ifExp (pt_cmpR op_eq (pv 3) (pv 1) (nomark _)) pe_int (pe_op op_add (pv 2) pe_int)))))
    (pss_one (ps_ret (pv 2))))), ?_⟩
    refine ⟨.ref na, rfl, na, rfl, ⟨_, hna⟩, for_it (walk_tup (K := K) (xs := ns.map V.str)) (fun i σ' H' => (∃ y3, σ' = [some (.ref na), some (.str z), some (.int (waitedM (ns.take i) z : Nat)), y3]) ∧ Ex H H') ⟨⟨none, rfl⟩, .refl _⟩ (fun i σ' H' _ hP => ex_t hP.2 hna) (fun i x σ' Ha Hb hi hP hy => ?_) (fun σ' H' hP => ?_)⟩
    · obtain ⟨⟨y3, rfl⟩, e⟩ := hP
      obtain ⟨rfl, hx⟩ := hy
      rw [List.getElem?_map, Option.map_eq_some_iff] at hx
      obtain ⟨o, ho, rfl⟩ := hx
      refine g_go ?_
      dsimp only
      refine sd_asg (K := K) (d := .int (waitedM (ns.take (i + 1)) z : Nat)) (ed_if (b := decide (V.str o = V.str z)) (et_test (ev_op (ev_var rfl) (ev_var rfl) (rv_eq rfl))) (fun hb => ?_) (fun hb => ?_)) fun v H1 e1 hv => ?_
      · have hb := of_decide_eq_true hb
        refine ed_int (ev_is ev_c ?_)
        rw [List.take_succ, ho]
        show V.int 0 = V.int (waitedM (ns.take i ++ [o]) z : Nat)
        rw [waitedM_snoc, if_pos hb]
        rfl
      · have hb := of_decide_eq_false hb
        refine ed_int (ev_is (ev_op (ev_var rfl) ev_c rv_I0) ?_)
        rw [List.take_succ, ho]
        show V.int ((waitedM (ns.take i) z : Int) + 1) = V.int (waitedM (ns.take i ++ [o]) z : Nat)
        rw [waitedM_snoc, if_neg hb]
        rfl
      · obtain rfl := dp_int hv
        exact ⟨⟨_, rfl⟩, e.trans e1⟩
    · obtain ⟨⟨y3, rfl⟩, e⟩ := hP
      rw [List.length_map, List.take_length]
      exact ⟨_, rfl, q _ H' e (.int _)⟩
theorem plStep_none (w : Wr) : ∀ l : List (Str × Str), l.foldl (plStep w) none = none
  | [] => rfl
  | _ :: l => plStep_none w l
theorem ok_place8 {f : Addr} {fd : FuncData} {k : Nat} (F : Fun K "_law_place_at" "_law_place_at" sLPlaceAt f fd) (T : Txt mg) (C__law_arrows : Cal P w K mg base k "_law_arrows" ["_law_writer_here", "_law_place"] (spP K RArrs)) : FnOk P w K mg base CX0 (k + 1) f fd ["_law_writer_here", "_law_signs_here", "_law_names_here"] (spP K RPlace) := by
  refine F.ok sc__law_place_at (fun vs H Q E h => ?_) (fun cdv A outer s H vs Q E hr h => ?_)
  · obtain ⟨ds, d, hd, ⟨w, ss, ns, _, rfl, _⟩, _⟩ := h
    exact hd.length
  · obtain ⟨ds, d, hd, ⟨wt', ss, ns, gw, rfl, rfl⟩, q⟩ := h
    obtain ⟨v0, v1, v2, rfl, h0, h1, h2⟩ := dps3 hd
    obtain ⟨sa, xs, rfl, hsa, hxs⟩ := dp_tup h1
    obtain rfl := dps_str hxs
    obtain ⟨na, ys, rfl, hna, hys⟩ := dp_tup h2
    obtain rfl := dps_str hys
    have h0t : Dp K H v0 (.tuple [.str wt'.1, .tuple (wt'.2.1.map dA), .int wt'.2.2.1, .int wt'.2.2.2]) := h0
    refine ⟨_, (pss_cons (ps_set (i := 3) sc__law_place_at.nd rfl (.inl rfl) pe_int)
    (pss_cons (ps_for PassesOwn.never rfl (RZ.pi_zipA (by rfl) T.m_zip (pa_cons (pv 1) (pa_cons (pv 2) pa_nil))) (pg_tup rfl (pgs_cons (pg_name (i := 4) sc__law_place_at.nd rfl (.inr rfl)) (pgs_cons (pg_name (i := 5) sc__law_place_at.nd rfl (.inl rfl)) pgs_nil)))
    (pss_one (ps_if (pt_cmpR op_eq (pv 5) (pe_ix ix_tup (pv 0) pe_int (fun _ _ => rfl)) (nomark _))
    (pss_cons (ps_setLc (i := 6) (own := [("_law_mark", 7), ("_law_to", 8)]) (g := (gTup K 2 (gCons (gName 7) (gCons (gName 8) gNil)))) (by rfl) sc__law_place_at.nd rfl rfl (sw_true rfl rfl rfl (by decide +kernel)) (pi_list (pe_callC C__law_arrows hr (by rfl) (pa_cons (pv 0) (pa_cons (pv 3) pa_nil)))) (blkOk_by (own := [("_law_mark", 7), ("_law_to", 8)]) (N := ["_law_writer_here", "_law_signs_here", "_law_names_here", "_law_place", "_law_sign", "_law_name", "_law_some", "_law_mark", "_law_to"]) (sc := defScope sLPlaceAt) (by decide +kernel)) (fun _ _ _ _ _ => (pg_tup rfl (pgs_cons (pg_name (i := 7) sc__law_place_at.nd rfl (.inl rfl)) (pgs_cons (pg_name (i := 8) sc__law_place_at.nd rfl (.inl rfl)) pgs_nil)))) (fun _ _ _ _ _ => pts_one (pt_cmpR op_eq (pv 7) (pv 4) (nomark _))) (fun _ _ _ _ _ => (pv 8)))
    (pss_cons (ps_if (pt_cmpR (show OpR _ _ (rEqD K) from op_eqD hr.units) (pv 6) (pe_lst pa_nil) (nomark _))
    (pss_one (ps_ret pe_non)) pss_nil)
    (pss_one (ps_set (i := 3) sc__law_place_at.nd rfl (.inl rfl) (pe_ix ix_list (pv 6) pe_int (fun _ _ => rfl)))))) pss_nil)))
    (pss_one (ps_ret (pv 3))))), ?_⟩
    refine ⟨.ref sa, rfl, .ref na, rfl, sa, na, ss.map V.str, ns.map V.str, rfl, .inr ⟨hsa, hna, for_it walk_zipT2 (fun i σ' H' => (∃ p y4 y5 y6 y7 y8, σ' = [some v0, some (.ref sa), some (.ref na), some (.int p), y4, y5, y6, y7, y8] ∧ ((ss.zip ns).take i).foldl (plStep wt') (some 0) = some p) ∧ Ex H H') ⟨⟨0, none, none, none, none, none, rfl, rfl⟩, .refl _⟩ (fun i σ' H' _ hP => ⟨ex_t hP.2 hsa, ex_t hP.2 hna⟩) (fun i x σ' Ha Hb hi hP hy => ?_) (fun σ' H' hP => ?_)⟩⟩
    · obtain ⟨⟨p, y4, y5, y6, y7, y8, rfl, hp⟩, ea⟩ := hP
      obtain ⟨Tp, x1, x2, rfl, nT, rfl, h1', h2'⟩ := hy
      have h1' : (ss.map V.str)[i]? = some x1 := h1'
      have h2' : (ns.map V.str)[i]? = some x2 := h2'
      rw [List.getElem?_map, Option.map_eq_some_iff] at h1' h2'
      obtain ⟨z, hz, rfl⟩ := h1'
      obtain ⟨nm, hnm, rfl⟩ := h2'
      have sT := same_new (o := HO.tup [V.str z, V.str nm]) nT
      have eb := ea.trans sT
      have hd2 : Dp K (upd Ha Tp (.tup [V.str z, V.str nm])) (.ref Tp) (.tuple [.str z, .str nm]) := .tup (.of upd_same) (.cons (.str _) (.cons (.str _) .nil))
      generalize upd Ha Tp (.tup [V.str z, V.str nm]) = Hb at *
      have hzn : (ss.zip ns)[i]? = some (z, nm) := List.getElem?_zip_eq_some.mpr ⟨hz, hnm⟩
      have hnext : ((ss.zip ns).take (i + 1)).foldl (plStep wt') (some 0) = plStep wt' (some p) (z, nm) := by
        rw [List.take_succ, hzn, List.foldl_append, hp]
        rfl
      refine tg2 hd2 fun w1 w2 a1 a2 => ?_
      obtain rfl := dp_str a1
      obtain rfl := dp_str a2
      dsimp only
      refine s_if (b := decide (V.str nm = V.str wt'.1)) (et_test (ev_op (ev_var rfl) (ev_str (ed_ixT (K := K) (ed_var rfl (dp_same eb h0t)) ev_c (by decide) rfl)) (rv_eq rfl))) (fun hb H9 e9 => ?_) fun hb H9 e9 => ?_
      · have hb := of_decide_eq_true hb
        have e09 := eb.trans e9
        have al := arrs_len wt' p
        have gl := gw.len
        refine sd_asgN (K := K) (en_lc (arrsAt wt' p) dP (fun x => decide (V.str x.2.1 = V.str z)) (fun x => PyData.int x.2.2) (ei_lst (ed_call (eds_cons (ed_var (i := 0) rfl (dp_same e09 h0)) (eds_cons (ed_int (ev_var (i := 3) rfl)) eds_nil)) ⟨wt', p, gl, rfl, rfl⟩)) (by omega) (fun x _ => by unfold fz; rfl) fun i3 y H10 x9 hx9 e10 hd9 R kk => tg2 hd9 fun u1 u2 b1 b2 => ?_) fun fp us H11 nfp e11 hfp hus => ?_
        · obtain rfl := dp_str b1
          exact kk _ rfl (et_test (ev_op (ev_var rfl) (ev_var rfl) (rv_eq rfl))) fun _ => ed_var rfl b2
        · have hus : DpAll K H11 us ((outBy wt' p z).map PyData.int) := by
            unfold outBy
            rw [List.map_map]
            exact hus
          have hfd : Dp K H11 (.ref fp) (.list ((outBy wt' p z).map PyData.int)) := .lst (.of hfp) hus
          dsimp only
          refine Evl.q_when (b := PyData.eqv (.list ((outBy wt' p z).map PyData.int)) (.list [])) (et_test (ev_eqD (ed_var rfl hfd) (en_lst eds_nil (by show 0 ≤ 100000; decide)).list (ints_shaped _) rfl)) (fun hb2 H12 e12 => ?_) fun hb2 H12 e12 => ?_
          · rw [eqv_nil] at hb2
            have hnil := List.isEmpty_iff.mp hb2
            have hfin : placeM wt' ss ns = none := by
              unfold placeM
              rw [← List.take_append_drop (i + 1) (ss.zip ns), List.foldl_append, hnext]
              show List.foldl (plStep wt') (if V.str nm = V.str wt'.1 then (outBy wt' p z)[0]? else some p) _ = none
              rw [if_pos hb, hnil]
              exact plStep_none _ _
            rw [hfin] at q
            exact q .non H12 ((e09.trans e11).trans e12) .non
          · rw [eqv_nil] at hb2
            cases ho : outBy wt' p z with
            | nil =>
              rw [ho] at hb2
              cases hb2
            | cons t ts =>
              rw [ho] at hfd
              refine sd_asg (K := K) (d := .int t) (ed_ixL (n := 0) (ed_var rfl (dp_same e12 hfd)) ev_c (by decide) rfl) fun v H13 e13 hv => ?_
              obtain rfl := dp_int hv
              refine ⟨⟨t, _, _, _, _, _, rfl, ?_⟩, ((e09.trans e11).trans e12).trans e13⟩
              rw [hnext]
              show (if V.str nm = V.str wt'.1 then (outBy wt' p z)[0]? else some p) = some t
              rw [if_pos hb, ho]
              rfl
      · have hb := of_decide_eq_false hb
        refine ⟨⟨p, _, _, _, _, _, rfl, ?_⟩, eb.trans e9⟩
        rw [hnext]
        show (if V.str nm = V.str wt'.1 then (outBy wt' p z)[0]? else some p) = some p
        rw [if_neg hb]
    · obtain ⟨⟨p, y4, y5, y6, y7, y8, rfl, hp⟩, ea⟩ := hP
      rw [List.length_map, List.length_map, ← List.length_zip, List.take_length] at hp
      have hfin : placeM wt' ss ns = some p := hp
      rw [hfin] at q
      exact ⟨.int p, rfl, q _ H' ea (.int _)⟩
end
end Ink
namespace Ink
open PySem PySem.Spec PyProof.Rows L2 Evl
/-! ### whole rows judged; all good rows -/
theorem placeM_init {w : Wr} {ss ns : List Str} (h : ss.length = ns.length) {p : Int} (e : placeM w ss ns = some p) : ∃ q, placeM w ss.dropLast ns.dropLast = some q := by
  by_cases hz : ss = []
  · subst hz
    obtain rfl := List.eq_nil_of_length_eq_zero h.symm
    exact ⟨_, rfl⟩
  · have hn : ns ≠ [] := fun z => hz (List.eq_nil_of_length_eq_zero (by rw [h, z]; rfl))
    have l0 : ss.dropLast.length = ns.dropLast.length := by rw [List.length_dropLast, List.length_dropLast, h]
    rw [← List.dropLast_concat_getLast hz, ← List.dropLast_concat_getLast hn, placeM_snoc l0] at e
    cases q : placeM w ss.dropLast ns.dropLast with
    | none =>
      rw [q] at e
      cases e
    | some p0 => exact ⟨p0, rfl⟩
section
variable {K : PySem.W.Frag} {σ : L2.St} {H : Hp} {te tb : TE}
theorem sIx_m1 (n : Nat) : HT.sIx n n (some (-1)) = n - 1 ∧ HT.sIx n 0 (some (-1)) = n - 1 := by
  unfold HT.sIx
  simp only
  constructor <;> (try split) <;> omega
theorem ed_slM1T {ds : List PyData} (hne : ds ≠ []) (h : EvD K te σ H (.tuple ds)) (hk : Ev tb σ H (.int (-1))) : EvD K (tSl (rSlA K) te tNoPart (tPart tb)) σ H (.tuple ds.dropLast) := fun H1 e Q q =>
  h H1 e _ fun v H2 e2 hv => hk H2 (e.trans e2) _ fun H3 e3 => ⟨-1, rfl, by
    obtain ⟨p, xs, rfl, hs, hxs⟩ := dp_tup (dp_same e3 hv)
    have l1 := hxs.length
    have l0 := List.length_pos_iff.mpr hne
    refine ⟨p, xs, rfl, hs, fun h0 => ?_, fun h0 p2 np => ?_⟩
    · have := h0.2
      rw [(sIx_m1 _).1] at this
      omega
    · rw [vcut_m1]
      exact q _ _ ((e2.trans e3).trans (Ex.new np)) (.tup (.of upd_same) (dps_same (Ex.new np) (dps_dropLast hxs)))⟩
theorem ed_slL1T {ds : List PyData} {d : PyData} (hd : ds.getLast? = some d) (h : EvD K te σ H (.tuple ds)) (hk : Ev tb σ H (.int (-1))) : EvD K (tSl (rSlA K) te (tPart tb) tNoPart) σ H (.tuple [d]) := fun H1 e Q q =>
  h H1 e _ fun v H2 e2 hv => hk H2 (e.trans e2) _ fun H3 e3 => ⟨-1, rfl, by
    obtain ⟨p, xs, rfl, hs, hxs⟩ := dp_tup (dp_same e3 hv)
    have l1 := hxs.length
    obtain ⟨ys, rfl⟩ := List.getLast?_eq_some_iff.mp hd
    rw [List.length_append, List.length_singleton] at l1
    have hdr : DpAll K H3 (xs.drop ys.length) [d] := by
      have := hxs.drop ys.length
      rw [List.drop_left] at this
      exact this
    refine ⟨p, xs, rfl, hs, fun h0 => ?_, fun h0 p2 np => ?_⟩
    · have := h0.1
      rw [(sIx_m1 _).2] at this
      have y0 : ys.length = 0 := by omega
      rw [y0, List.drop_zero] at hdr
      exact q _ H3 (e2.trans e3) (.tup hs hdr)
    · have ec : cutV xs (some (-1)) none = xs.drop ys.length := by
        unfold cutV
        rw [(sIx_m1 _).2, l1]
        show (xs.drop _).take (HT.sIx (ys.length + 1) (ys.length + 1) none - _) = _
        rw [show ys.length + 1 - 1 = ys.length by omega]
        refine List.take_of_length_le ?_
        rw [List.length_drop]
        unfold HT.sIx
        simp only
        omega
      rw [ec]
      exact q _ _ ((e2.trans e3).trans (Ex.new np)) (.tup (.of upd_same) (dps_same (Ex.new np) hdr))⟩
end
theorem isN_ev {te : TE} {σ : L2.St} {H : Hp} {v : V} (h : Ev te σ H v) : EvT (tTest (tOp (fun x y H Q => y = .non ∧ Q (.bl (decide (x = .non))) H) te (tC .non))) σ H (decide (v = .non)) := fun H1 e Q q => h H1 e _ fun H2 e2 => ⟨rfl, _, rfl, q H2 e2⟩
theorem et_orB {t u : TT} {σ : L2.St} {H : Hp} {b c : Bool} (h1 : EvT t σ H b) (h2 : b = false → EvT u σ H c) : EvT (tOr t u) σ H (b || c) := fun H1 e Q q => h1 H1 e _ fun H2 e2 => by
  cases b with
  | true => exact q H2 e2
  | false => exact h2 rfl H2 (e.trans e2) Q fun H3 e3 => q H3 (e2.trans e3)
def RGood : List PyData → PyData → Prop := fun ds d => ∃ (m : List Wr) (ss ns : List Str), GoodM m ∧ ss.length = ns.length ∧ ns.length ≤ 1000 ∧ ns ≠ [] ∧ (∀ z ∈ ns, PyData.strOk z = true) ∧ ds = [dMl m, .tuple (ss.map .str), .tuple (ns.map .str)] ∧ d = .bool (rowGood m ss ns)
end Ink
namespace Ink
open PySem PySem.Spec PyProof.Rows L2 Evl
theorem str1_shaped {z : Str} (h : PyData.strOk z = true) : SeqAt.shaped (.tuple [.str z]) = true := by
  unfold SeqAt.shaped
  rw [Bool.and_eq_true, decide_eq_true_eq]
  constructor
  · simp only [PyData.canLay0, PyData.canLayAll0, h, Bool.and_self]
  · simp only [PyData.depth, PyData.depthAll]
    decide
theorem eqv_one (a b : Str) : (!PyData.eqv (.tuple [.str a]) (.tuple [.str b])) = decide (some a ≠ some b) := by
  simp only [PyData.eqv, PyData.eqvAll, Bool.and_true]
  by_cases h : a = b
  · subst h
    simp
  · simp [h]
section
variable {P : Program} {w : World} {K : PySem.W.Frag} {mg : Str → Option Value} {base : Heap}
theorem ok_good8 {f : Addr} {fd : FuncData} {k : Nat} (F : Fun K "_law_row_good" "_law_row_good" sLRowGood f fd) (T : Txt mg) (C__law_place_at : Cal P w K mg base k "_law_place_at" ["_law_writer_here", "_law_signs_here", "_law_names_here"] (spP K RPlace)) (C__law_in_a_row : Cal P w K mg base k "_law_in_a_row" ["_law_names_here", "_law_name"] (spP K RInRow))
    (C__law_waited : Cal P w K mg base k "_law_waited" ["_law_names_here", "_law_name"] (spP K RWaited)) (C__law_arrows : Cal P w K mg base k "_law_arrows" ["_law_writer_here", "_law_place"] (spP K RArrs)) : FnOk P w K mg base CX0 (k + 1) f fd ["_law_m", "_law_signs_here", "_law_names_here"] (spP K RGood) := by
  refine F.ok sc__law_row_good (fun vs H Q E h => ?_) (fun cdv A outer s H vs Q E hr h => ?_)
  · obtain ⟨ds, d, hd, ⟨m, ss, ns, _, _, _, _, _, rfl, _⟩, _⟩ := h
    exact hd.length
  · obtain ⟨ds, d, hd, ⟨m, ss, ns, g, hl, ln, hne, hst, rfl, rfl⟩, q⟩ := h
    obtain ⟨v0, v1, v2, rfl, h0, h1, h2⟩ := dps3 hd
    obtain ⟨ma, xs, rfl, hma, hxs⟩ := dp_lst h0
    have hxl := hxs.length
    rw [List.length_map] at hxl
    have h1' : ∀ {H' : Hp}, Ex H H' → Dp K H' v1 (.tuple (ss.map PyData.str)) := fun e => dp_same e h1
    have h2' : ∀ {H' : Hp}, Ex H H' → Dp K H' v2 (.tuple (ns.map PyData.str)) := fun e => dp_same e h2
    have sne : ss ≠ [] := fun z => hne (List.eq_nil_of_length_eq_zero (by rw [← hl, z]; rfl))
    obtain ⟨lo, hlo⟩ : ∃ lo, ns.getLast? = some lo := ⟨_, List.getLast?_eq_some_getLast hne⟩
    have hlom : lo ∈ ns := List.mem_of_getLast? hlo
    refine ⟨_, (pss_cons (ps_for PassesOwn.never rfl (pi_list (pv 0)) (pg_name (i := 3) sc__law_row_good.nd rfl (.inl rfl))
    (pss_cons (ps_set (i := 4) sc__law_row_good.nd rfl (.inl rfl) (pe_callC C__law_place_at hr (by rfl) (pa_cons (pv 3) (pa_cons (pv 1) (pa_cons (pv 2) pa_nil)))))
    (pss_cons (ps_if (PW.pt (pw_or (pt_cmpR op_isN (pv 4) pe_non (nomark _)) (pw_or1 (PW.pt (pw_and (pt_cmpR op_gt (pe_ix ix_tup (pv 3) pe_int (fun _ _ => rfl)) pe_int (nomark _)) (pw_and1 (pt_cmpR op_gt (pe_callC C__law_in_a_row hr (by rfl) (pa_cons (pv 2) (pa_cons (pe_ix ix_tup (pv 3) pe_int (fun _ _ => rfl)) pa_nil))) (pe_ix ix_tup (pv 3) pe_int (fun _ _ => rfl)) (nomark _))))))))
    (pss_one (ps_ret pe_bl)) pss_nil)
    (pss_cons (ps_set (i := 5) sc__law_row_good.nd rfl (.inl rfl) (pe_callC C__law_place_at hr (by rfl) (pa_cons (pv 3) (pa_cons (pe_slice sl_tupA (pv 1) po_none (po_some (pe_un un_neg pe_int))) (pa_cons (pe_slice sl_tupA (pv 2) po_none (po_some (pe_un un_neg pe_int))) pa_nil)))))
    (pss_cons (ps_set (i := 6) sc__law_row_good.nd rfl (.inl rfl) (pe_and (pe_cmpR (show OpR _ _ (rNeD K) from op_neD hr.units) (pe_slice sl_tupA (pv 2) (po_some (pe_un un_neg pe_int)) po_none) (pe_tup (pa_cons (pe_ix ix_tup (pv 3) pe_int (fun _ _ => rfl)) pa_nil)) (nomark _)) (pe_one (pe_cmpR (show OpR _ _ (rNeD K) from op_neD hr.units) (pe_callC C__law_arrows hr (by rfl) (pa_cons (pv 3) (pa_cons (pv 5) pa_nil))) (pe_lst pa_nil) (nomark _)))))
    (pss_one (ps_if (PW.pt (pw_and (pt_cmpR op_gt (pe_ix ix_tup (pv 3) pe_int (fun _ _ => rfl)) pe_int (nomark _)) (pw_and (pt_val (pv 6)) (pw_and1 (pt_cmpR op_gt (pe_callC C__law_waited hr (by rfl) (pa_cons (pv 2) (pa_cons (pe_ix ix_tup (pv 3) pe_int (fun _ _ => rfl)) pa_nil))) (pe_ix ix_tup (pv 3) pe_int (fun _ _ => rfl)) (nomark _))))))
    (pss_one (ps_ret pe_bl)) pss_nil)))))))
    (pss_one (ps_ret pe_bl))), ?_⟩
    refine ⟨.ref ma, rfl, ma, rfl, ⟨_, hma⟩, for_it (walk_list (K := K) (xs := xs)) (fun i σ' H' => (∃ y3 y4 y5 y6, σ' = [some (.ref ma), some v1, some v2, y3, y4, y5, y6]) ∧ Ex H H' ∧ ∀ w ∈ m.take i, okFor w ss ns = true) ⟨⟨none, none, none, none, rfl⟩, .refl _, fun w hw => by simp at hw⟩ (fun i σ' H' _ hP => ex_l hP.2.1 hma) (fun i x σ' Ha Hb hi hP hy => ?_) (fun σ' H' hP => ?_)⟩
    · obtain ⟨⟨y3, y4, y5, y6, rfl⟩, e, hall⟩ := hP
      obtain ⟨rfl, hx⟩ := hy
      obtain ⟨dx, hdx, hxd⟩ := (dps_same e hxs).at hx
      rw [List.getElem?_map, Option.map_eq_some_iff] at hdx
      obtain ⟨w, hw, rfl⟩ := hdx
      have hwm := List.mem_of_getElem? hw
      have gw := g.wr w hwm
      have hxt : Dp K Hb x (.tuple [.str w.1, .tuple (w.2.1.map dA), .int w.2.2.1, .int w.2.2.2]) := hxd
      have bad : okFor w ss ns = false → rowGood m ss ns = false := fun h => by
        unfold rowGood
        rw [List.all_eq_false]
        exact ⟨w, hwm, by rw [h]; decide⟩
      refine g_go ?_
      dsimp only
      refine sd_asg (K := K) (ed_call (eds_cons (ed_var (i := 3) rfl hxd) (eds_cons (ed_var (i := 1) rfl (h1' e)) (eds_cons (ed_var (i := 2) rfl (h2' e)) eds_nil))) ⟨w, ss, ns, gw, rfl, rfl⟩) fun v4 H9 e9 hv4 => ?_
      dsimp only
      cases hp : placeM w ss ns with
      | none =>
        rw [hp] at hv4
        have hv4 : Dp K H9 v4 .none := hv4
        cases hv4
        refine Evl.q_when (b := decide (V.non = V.non) || false) (et_orB (isN_ev (v := .non) (ev_var (i := 4) rfl)) fun h => by simp at h) (fun _ H10 e10 => ?_) fun h => by simp at h
        rw [bad (by unfold okFor; rw [hp]; rfl)] at q
        exact q (.bl false) H10 ((e.trans e9).trans e10) (.bl _)
      | some p =>
        rw [hp] at hv4
        obtain rfl := dp_int hv4
        have e09 := e.trans e9
        have hxt9 := dp_same e9 hxt
        refine Evl.q_when (b := decide (V.int p = V.non) || (decide (w.2.2.2 > 0) && decide ((inRow ns w.1 : Int) > w.2.2.2))) (et_orB (isN_ev (v := .int p) (ev_var (i := 4) rfl)) fun _ => et_and (et_test (ev_op (ev_int (ed_ixT (K := K) (ed_var (i := 3) rfl hxt9) ev_c (by decide) rfl)) ev_c rv_I0)) fun _ => et_test (ev_op (ev_int (ed_call (K := K) (eds_cons (ed_var (i := 2) rfl (h2' e09)) (eds_cons (ed_ixT (ed_var (i := 3) rfl hxt9) ev_c (by decide) rfl) eds_nil)) ⟨ns, w.1, ln, rfl, rfl⟩)) (ev_int (ed_ixT (K := K) (ed_var (i := 3) rfl hxt9) ev_c (by decide) rfl)) rv_I0)) (fun hb H10 e10 => ?_) fun hb H10 e10 => ?_
        · have hb : (decide (w.2.2.2 > 0) && decide ((inRow ns w.1 : Int) > w.2.2.2)) = true := by simpa using hb
          rw [bad (by unfold okFor; rw [hp, hb]; rfl)] at q
          exact q (.bl false) H10 (e09.trans e10) (.bl _)
        · have hb : (decide (w.2.2.2 > 0) && decide ((inRow ns w.1 : Int) > w.2.2.2)) = false := by
            rw [Bool.or_eq_false_iff] at hb
            exact hb.2
          obtain ⟨p0, hp0⟩ := placeM_init hl hp
          have e010 := e09.trans e10
          have hxt10 := dp_same e10 hxt9
          refine sd_asg (K := K) (ed_call (eds_cons (ed_var (i := 3) rfl (dp_same (e9.trans e10) hxd)) (eds_cons (ed_slM1T (by simpa using sne) (ed_var (i := 1) rfl (h1' e010)) (ev_un ev_c ru_neg)) (eds_cons (ed_slM1T (by simpa using hne) (ed_var (i := 2) rfl (h2' e010)) (ev_un ev_c ru_neg)) eds_nil))) ⟨w, ss.dropLast, ns.dropLast, gw, by rw [List.map_dropLast, List.map_dropLast], rfl⟩) fun v5 H11 e11 hv5 => ?_
          rw [hp0] at hv5
          obtain rfl := dp_int hv5
          dsimp only
          have e011 := e010.trans e11
          have hxt11 := dp_same e11 hxt10
          refine sd_asg (K := K) (d := .bool (decide (ns.getLast? ≠ some w.1) && !(arrsAt w p0).isEmpty)) (ed_bl (ev_is (ev_andV (ev_neD (ed_slL1T (d := .str lo) (by rw [List.getLast?_map, hlo]; rfl) (ed_var (i := 2) rfl (h2' e011)) (ev_un ev_c ru_neg)) (ed_tup (eds_cons (ed_ixT (d := .str w.1) (ed_var (i := 3) rfl hxt11) ev_c (by decide) rfl) eds_nil) (by show 1 ≤ 100000; decide)) (str1_shaped (hst lo hlom)) (str1_shaped (str_ok gw.name.2.2))) fun _ => ev_neD (ed_call (eds_cons (ed_var (i := 3) rfl (dp_same ((e9.trans e10).trans e11) hxd)) (eds_cons (ed_int (ev_var (i := 5) rfl)) eds_nil)) ⟨w, p0, gw.len, rfl, rfl⟩) (en_lst eds_nil (by show 0 ≤ 100000; decide)).list (arrs_shaped gw.each p0) rfl) ?_)) fun v6 H12 e12 hv6 => ?_
          · rw [eqv_one, eqv_nil, hlo]
          · obtain rfl := dp_bl hv6
            dsimp only
            have e012 := e011.trans e12
            have hxt12 := dp_same e12 hxt11
            have fin : okFor w ss ns = !(decide (w.2.2.1 > 0) && ((decide (ns.getLast? ≠ some w.1) && !(arrsAt w p0).isEmpty) && decide ((waitedM ns w.1 : Int) > w.2.2.1))) := by
              unfold okFor
              rw [hp, hp0, hb]
              rfl
            refine s_if (b := decide (w.2.2.1 > 0) && ((decide (ns.getLast? ≠ some w.1) && !(arrsAt w p0).isEmpty) && decide ((waitedM ns w.1 : Int) > w.2.2.1))) (et_and (et_test (ev_op (ev_int (ed_ixT (K := K) (ed_var (i := 3) rfl hxt12) ev_c (by decide) rfl)) ev_c rv_I0)) fun _ => et_and (et_B (ev_var (i := 6) rfl)) fun _ => et_test (ev_op (ev_int (ed_call (K := K) (eds_cons (ed_var (i := 2) rfl (h2' e012)) (eds_cons (ed_ixT (ed_var (i := 3) rfl hxt12) ev_c (by decide) rfl) eds_nil)) ⟨ns, w.1, ln, rfl, rfl⟩)) (ev_int (ed_ixT (K := K) (ed_var (i := 3) rfl hxt12) ev_c (by decide) rfl)) rv_I0)) (fun hb2 H13 e13 => ?_) fun hb2 H13 e13 => ?_
            · rw [bad (by rw [fin, hb2]; rfl)] at q
              exact q (.bl false) H13 (e012.trans e13) (.bl _)
            · refine ⟨⟨_, _, _, _, rfl⟩, e012.trans e13, fun w' hw' => ?_⟩
              rw [List.take_succ, hw] at hw'
              rcases List.mem_append.mp hw' with h | h
              · exact hall w' h
              · have : w' = w := by simpa using h
                rw [this, fin, hb2]
                rfl
    · obtain ⟨⟨y3, y4, y5, y6, rfl⟩, e, hall⟩ := hP
      rw [hxl, List.take_length] at hall
      have : rowGood m ss ns = true := List.all_eq_true.mpr hall
      rw [this] at q
      exact q (.bl true) H' e (.bl _)
end
end Ink
namespace Ink
open PySem PySem.Spec PyProof.Rows L2 Evl
def dNs (ns : List Str) : PyData := .tuple (ns.map .str)
theorem fz_strs : ∀ zs : List Str, fzAll (zs.map PyData.str) = true
  | [] => by unfold fzAll; rfl
  | z :: zs => by
    rw [List.map_cons]
    unfold fzAll
    rw [fz_strs zs]
    unfold fz
    rfl
theorem fz_dNs (ns : List Str) : fz (dNs ns) = true := by
  have := fz_strs ns
  unfold dNs
  simp only [fz, this]
theorem q_lst1n {K : PySem.W.Frag} {ta : TE} {g : TG} {ts : TS} {D : Ends} {σ : L2.St} {H : Hp} {d : PyData} (h : EvD K ta σ H d) (k : ∀ v H1, Ex H H1 → Dp K H1 v d → ∀ lp, H1 lp = none → g (.ref lp) σ (upd H1 lp (.lst [v])) fun σ2 H2 => ts D σ2 H2) :
    tSeq (tAsg (tLst (tCons ta tNil)) g) ts D σ H := h H (.refl H) _ fun v H1 h1 h2 => ⟨by show 1 ≤ sizeLine; decide, fun lp nlp => k v H1 h1 h2 lp nlp⟩
theorem ev_bl8 {K : PySem.W.Frag} {te : TE} {σ : L2.St} {H : Hp} {b : Bool} (h : EvD K te σ H (.bool b)) : Ev te σ H (.bl b) := fun H1 e Q q => h H1 e _ fun v H2 e2 hd => by rw [dp_bl hd]; exact q H2 e2
def nextR (m : List Wr) (ss : List Str) (i : Nat) (w : Wr) : List (List Str) := ((rowsM m ss i).map fun ns => ns ++ [w.1]).filter fun ns => rowGood m (ss.take (i + 1)) ns
theorem nextR_len (m : List Wr) (ss : List Str) (i : Nat) (l : List Wr) : (l.flatMap (nextR m ss i)).length ≤ l.length * (rowsM m ss i).length := by
  induction l with
  | nil => simp
  | cons x l ih =>
    rw [List.flatMap_cons, List.length_append, List.length_cons, Nat.succ_mul]
    have : (nextR m ss i x).length ≤ (rowsM m ss i).length := Nat.le_trans (List.length_filter_le _ _) (by rw [List.length_map]; exact Nat.le_refl _)
    omega
theorem rowsM_len {m : List Wr} (g : GoodM m) (ss : List Str) : ∀ i, (rowsM m ss i).length ≤ 3 ^ i
  | 0 => Nat.le_refl _
  | i + 1 => by
    have h := nextR_len m ss i m
    have ih := rowsM_len g ss i
    have g3 := g.len
    show (m.flatMap (nextR m ss i)).length ≤ _
    have : m.length * (rowsM m ss i).length ≤ 3 * 3 ^ i := Nat.mul_le_mul g3 ih
    rw [Nat.pow_succ]
    omega
theorem rowsM_ok {m : List Wr} (g : GoodM m) (ss : List Str) : ∀ i, ∀ ns ∈ rowsM m ss i, ns.length = i ∧ ∀ z ∈ ns, PyData.strOk z = true
  | 0, ns, h => by
    have h : ns ∈ [([] : List Str)] := h
    rw [List.mem_singleton.mp h]
    exact ⟨rfl, fun z hz => by cases hz⟩
  | i + 1, ns, h => by
    have h : ns ∈ m.flatMap (nextR m ss i) := h
    obtain ⟨w, hw, hn⟩ := List.mem_flatMap.mp h
    obtain ⟨n0, hn0, rfl⟩ := List.mem_map.mp (List.mem_filter.mp hn).1
    obtain ⟨h1, h2⟩ := rowsM_ok g ss i n0 hn0
    refine ⟨by rw [List.length_append, h1]; rfl, fun z hz => ?_⟩
    rcases List.mem_append.mp hz with hz | hz
    · exact h2 z hz
    · rw [List.mem_singleton.mp hz]
      exact str_ok (g.wr w hw).name.2.2
def RRows : List PyData → List PyData → Prop := fun ds es => ∃ (m : List Wr) (ss : List Str), GoodM m ∧ ss.length ≤ 6 ∧ ds = [dMl m, .tuple (ss.map .str)] ∧ es = (rowsM m ss ss.length).map dNs
section
variable {P : Program} {w : World} {K : PySem.W.Frag} {mg : Str → Option Value} {base : Heap}
theorem ok_rows8 {f : Addr} {fd : FuncData} {k : Nat} (F : Fun K "_law_rows_of" "_law_rows_of" sLRowsOf f fd) (T : Txt mg) (C__law_row_good : Cal P w K mg base k "_law_row_good" ["_law_m", "_law_signs_here", "_law_names_here"] (spP K RGood)) : FnOk P w K mg base CX0 (k + 1) f fd ["_law_m", "_law_signs_here"] (spN K RRows) := by
  refine F.ok sc__law_rows_of (fun vs H Q E h => ?_) (fun cdv A outer s H vs Q E hr h => ?_)
  · obtain ⟨ds, es, hd, ⟨m, ss, _, _, rfl, _⟩, _⟩ := h
    exact hd.length
  · obtain ⟨ds, es, hd, ⟨m, ss, g, sl, rfl, rfl⟩, q⟩ := h
    obtain ⟨v0, v1, rfl, h0, h1⟩ := dps2 hd
    obtain ⟨ma, xs, rfl, hma, hxs⟩ := dp_lst h0
    have hxl := hxs.length
    rw [List.length_map] at hxl
    have g3 := g.len
    refine ⟨_, (pss_cons (ps_set (i := 2) sc__law_rows_of.nd rfl (.inl rfl) (pe_lst (pa_cons (pe_tup pa_nil) pa_nil)))
    (pss_cons (ps_for PassesOwn.never rfl (pi_range1 (by rfl) T.m_range (pa_cons (pe_callB call_len (by rfl) T.m_len PySem.boot_len (pa_cons (pv 1) pa_nil)) pa_nil)) (pg_name (i := 3) sc__law_rows_of.nd rfl (.inr rfl))
    (pss_cons (ps_set (i := 4) sc__law_rows_of.nd rfl (.inl rfl) (pe_lst pa_nil))
    (pss_cons (ps_for PassesOwn.never rfl (pi_list (pv 0)) (pg_name (i := 5) sc__law_rows_of.nd rfl (.inr rfl))
    (pss_cons (ps_setLc (i := 6) (own := [("_law_row", 7)]) (g := (gName 7)) (by rfl) sc__law_rows_of.nd rfl rfl (sw_true rfl rfl rfl (by decide +kernel)) (pi_list (pv 2)) (blkOk_by (own := [("_law_row", 7)]) (N := ["_law_m", "_law_signs_here", "_law_found", "_law_at", "_law_longer", "_law_writer_here", "_law_rows", "_law_row"]) (sc := defScope sLRowsOf) (by decide +kernel)) (fun _ _ _ _ _ => (pg_name (i := 7) sc__law_rows_of.nd rfl (Or.inl rfl))) (fun _ _ _ _ _ => pts_nil) (fun _ _ _ _ _ => (pe_op (show OpR _ (binaryOp .Add) (rCatA K) from op_catA) (pv 7) (pe_tup (pa_cons (pe_ix (show IxR _ (rIxT K) from ix_tup) (pv 5) pe_int (fun _ _ => rfl)) pa_nil)))))
    (pss_one (ps_set (i := 4) sc__law_rows_of.nd rfl (.inl rfl) (pe_op op_cat (pv 4) (pe_lc (own := [("_law_row", 7)]) (g := (gName 7)) (by rfl) sc__law_rows_of.nd (pi_list (pv 6)) (blkOk_by (own := [("_law_row", 7)]) (N := ["_law_m", "_law_signs_here", "_law_found", "_law_at", "_law_longer", "_law_writer_here", "_law_rows", "_law_row"]) (sc := defScope sLRowsOf) (by decide +kernel)) (fun _ _ _ _ _ => (pg_name (i := 7) sc__law_rows_of.nd rfl (Or.inl rfl))) (fun _ _ _ _ _ => pts_one (pt_val (pe_callC C__law_row_good hr (by rfl) (pa_cons (pv 0) (pa_cons (pe_slice (show SlR _ (rSlA K) from sl_tupA) (pv 1) po_none (po_some (pe_op op_add (pv 3) pe_int))) (pa_cons (pv 7) pa_nil)))))) (fun _ _ _ _ _ => (pv 7))))))))
    (pss_one (ps_set (i := 2) sc__law_rows_of.nd rfl (.inl rfl) (pv 4))))))
    (pss_one (ps_ret (pv 2))))), ?_⟩
    refine q_lst1n (K := K) (σ := [some (.ref ma), some v1, none, none, none, none, none, none]) (d := dNs []) (ed_tup eds_nil (by show 0 ≤ 100000; decide)) fun v2 H1 e1 hv2 fp nfp => g_go ?_
    have s2 := same_new (o := HO.lst [v2]) nfp
    have hfp := upd_same (H := H1) (a := fp) (o := .lst [v2])
    have e12 := e1.trans s2
    have nfp' : H fp = none := Same.free e1 nfp
    have hus : DpAll K (upd H1 fp (.lst [v2])) [v2] ((rowsM m ss 0).map dNs) := .cons (dp_same s2 hv2) .nil
    generalize upd H1 fp (.lst [v2]) = H2 at *
    dsimp only
    have h1' : ∀ {H' : Hp}, Ex H H' → Dp K H' v1 (.tuple (ss.map PyData.str)) := fun e => dp_same e h1
    refine Evl.s_forR1 (n := (ss.length : Int)) (j := 3) (ea_cons (ev_is (ev_lenD (K := K) (ds := ss.map PyData.str) (ed_var (i := 1) rfl (h1' e12)) (.inr rfl)) (by rw [List.length_map])) ea_nil) (by omega)
      (fun i σ' H' => (∃ fp us y3 y4 y5 y6 y7, σ' = [some (.ref ma), some v1, some (.ref fp), y3, y4, y5, y6, y7] ∧ H fp = none ∧ H' fp = some (.lst us) ∧ DpAll K H' us ((rowsM m ss i).map dNs)) ∧ Ex H H')
      (fun H7 e7 => ⟨⟨fp, [v2], none, none, none, none, none, rfl, nfp', e7 _ _ hfp, dps_same e7 hus⟩, e12.trans e7⟩) (fun i σ' H7 hi hP => ?_) (fun σ' H7 hP => ?_)
    · obtain ⟨⟨fp, us, y3, y4, y5, y6, y7, rfl, nfp, hfp, hus⟩, e7⟩ := hP
      have hil : i < ss.length := by omega
      have rl := rowsM_len g ss i
      have r6 : 3 ^ i ≤ 3 ^ 5 := Nat.pow_le_pow_right (by decide) (by omega)
      have r7 : (rowsM m ss i).length ≤ 243 := Nat.le_trans rl r6
      dsimp only
      refine sd_asgN (K := K) (ds := []) (en_lst eds_nil (by show 0 ≤ 100000; decide)) fun pl vl H8 npl e8 hpl hvl => ?_
      dsimp only
      cases hvl
      have hfp8 := e8 _ _ hfp
      have hus8 := dps_same e8 hus
      refine ⟨.ref ma, rfl, ma, rfl, ⟨xs, ex_l (e7.trans e8) hma⟩, for_it (walk_list (K := K) (xs := xs)) (fun t σ' H' => (∃ pl ws y5 y6 y7, σ' = [some (.ref ma), some v1, some (.ref fp), some (.int (i : Int)), some (.ref pl), y5, y6, y7] ∧ H pl = none ∧ H' pl = some (.lst ws) ∧ DpAll K H' ws (((m.take t).flatMap (nextR m ss i)).map dNs)) ∧ Ex H8 H')
        ⟨⟨pl, [], y5, y6, y7, rfl, Same.free e7 npl, hpl, .nil⟩, .refl _⟩ (fun t σ' H' _ hP => ex_l ((e7.trans e8).trans hP.2) hma) (fun t x σ' Ha Hb ht hP hy => ?_) (fun σ' H' hP => ?_)⟩
      · obtain ⟨⟨pl, ws, y5, y6, y7, rfl, npl, hpl, hws⟩, e9⟩ := hP
        obtain ⟨rfl, hx⟩ := hy
        have e0b := (e7.trans e8).trans e9
        obtain ⟨dx, hdx, hxd⟩ := (dps_same e0b hxs).at hx
        rw [List.getElem?_map, Option.map_eq_some_iff] at hdx
        obtain ⟨w, hw, rfl⟩ := hdx
        have hxt : Dp K Hb x (.tuple [.str w.1, .tuple (w.2.1.map dA), .int w.2.2.1, .int w.2.2.2]) := hxd
        refine g_go ?_
        dsimp only
        refine sd_asgN (K := K) (en_map (rowsM m ss i) dNs (fun ns => dNs (ns ++ [w.1])) (ei_lst (ed_var (i := 2) rfl (.lst (.of (e9 _ _ hfp8)) (dps_same e9 hus8)))) (by omega) (fun ns _ => fz_dNs _) fun i3 ns H10 x9 hx9 e10 hd9 R kk => kk _ rfl (ed_is (d1 := .tuple (ns.map PyData.str ++ [PyData.str w.1])) (ed_catA (ed_var (i := 7) rfl hd9) (ed_tup (eds_cons (ed_ixT (K := K) (ed_var (i := 5) rfl (dp_same e10 hxt)) ev_c (by decide) rfl) eds_nil) (by show 1 ≤ 100000; decide)) (by rw [List.length_map, (rowsM_ok g ss i ns (List.mem_of_getElem? hx9)).1]; show i + 1 ≤ 100000; omega)) (by unfold dNs; rw [List.map_append]; rfl))) fun rp us2 H10 nrp e10 hrp hus2 => ?_
        dsimp only
        have hus2' : DpAll K H10 us2 ((((rowsM m ss i).map fun ns => ns ++ [w.1])).map dNs) := by rw [List.map_map]; exact hus2
        have nl := nextR_len m ss i (m.take t)
        have nl2 : (m.take t).length * (rowsM m ss i).length ≤ 3 * 243 := Nat.mul_le_mul (by rw [List.length_take]; omega) r7
        have e010 := e0b.trans e10
        refine sd_asgN (K := K) (en_cat (em_var (i := 4) rfl (e10 _ _ hpl) (dps_same e10 hws)) (EvN.m (en_lc (((rowsM m ss i).map fun ns => ns ++ [w.1])) dNs (fun ns => rowGood m (ss.take (i + 1)) ns) dNs (ei_lst (ed_var (i := 6) rfl (.lst (.of hrp) hus2'))) (by rw [List.length_map]; omega) (fun ns _ => fz_dNs _) fun i3 ns H11 x9 hx9 e11 hd9 R kk => kk _ rfl (et_B (ev_bl8 (ed_call (eds_cons (ed_var (i := 0) rfl (dp_same (e010.trans e11) h0)) (eds_cons (ed_slTo (k := i + 1) (ed_var (i := 1) rfl (h1' (e010.trans e11))) (ev_is (ev_op (ev_var (i := 3) rfl) ev_c rv_I0) rfl)) (eds_cons (ed_var (i := 7) rfl hd9) eds_nil))) ?_))) fun _ => ed_var (i := 7) rfl hd9)) (by rw [List.length_map, List.length_map]; have := List.length_filter_le (fun ns => rowGood m (ss.take (i + 1)) ns) ((rowsM m ss i).map fun ns => ns ++ [w.1]); rw [List.length_map] at this; omega)) fun p9 vs9 H12 np9 e12' hp9 hvs9 => ?_
        · have hmem := List.mem_of_getElem? hx9
          obtain ⟨n0, hn0, rfl⟩ := List.mem_map.mp hmem
          have ok0 := rowsM_ok g ss i n0 hn0
          refine ⟨m, ss.take (i + 1), n0 ++ [w.1], g, ?_, ?_, by simp, fun z hz => ?_, by rw [List.map_take]; rfl, rfl⟩
          · rw [List.length_take, List.length_append, ok0.1]
            show min (i + 1) ss.length = i + 1
            omega
          · rw [List.length_append, ok0.1]
            show i + 1 ≤ 1000
            omega
          · rcases List.mem_append.mp hz with hz | hz
            · exact ok0.2 z hz
            · rw [List.mem_singleton.mp hz]
              exact str_ok (g.wr w (List.mem_of_getElem? hw)).name.2.2
        · refine ⟨⟨p9, vs9, _, _, _, rfl, Same.free e010 np9, hp9, ?_⟩, (e9.trans e10).trans e12'⟩
          rw [List.take_succ, hw, List.flatMap_append, List.map_append]
          have : ((some w).toList.flatMap (nextR m ss i)) = nextR m ss i w := by simp
          rw [this]
          exact hvs9
      · obtain ⟨⟨pl, ws, y5, y6, y7, rfl, npl, hpl, hws⟩, e9⟩ := hP
        rw [hxl, List.take_length] at hws
        exact ⟨.ref pl, rfl, g_go ⟨⟨pl, ws, _, _, _, _, _, rfl, npl, hpl, hws⟩, (e7.trans e8).trans e9⟩⟩
    · obtain ⟨⟨fp, us, y3, y4, y5, y6, y7, rfl, nfp, hfp, hus⟩, e7⟩ := hP
      rw [Int.toNat_natCast] at hus
      exact ⟨.ref fp, rfl, q fp us H7 nfp e7 hfp hus⟩
end
end Ink
namespace Ink
open PySem PySem.Spec PyProof.Rows L2 Evl
/-! ### a short strip drawn -/
def Sg (z : Str) : Prop := ∃ c ∈ lets, z = single c
def spStrip8 (K : PySem.W.Frag) : Sp := fun vs H Q _ => ∃ (a l p sp : Addr) (m : List Wr) (cs : List Nat), vs = [.ref a, .ref p, .ref sp] ∧ BagAt H a l ∧ MAt K H a p m ∧ GoodM m ∧ H sp = some (.lst ((cs.map single).map V.str)) ∧ sp ≠ a ∧ 1 ≤ cs.length ∧ cs.length ≤ 20 ∧ (∀ c ∈ cs, c ∈ lets) ∧
  ∀ q (zs : List Str) H', H q = none → zs.length ≤ 5 → (∀ z ∈ zs, Sg z) → H' q = some (.lst (zs.map V.str)) → BagAt H' a l → Keep a H H' → Q (.ref q) H'
section
variable {K : PySem.W.Frag} {σ : L2.St} {H : Hp} {ta tm : TE} {a l : Addr} {D : Ends} {tu tw : TS}
theorem s_orPull {m : Int} {t : TT} {b : Bool} (h : EvT t σ H b) (ha : Ev ta σ H (.ref a)) (hm : Ev tm σ H (.int m)) (hB : BagAt H a l) (h0 : 0 < m) (h1 : m < 1073741824) (k1 : ∀ H', BagAt H' a l → Keep a H H' → tu D σ H') (k2 : b = false → ∀ H', BagAt H' a l → Keep a H H' → tw D σ H') :
    tIfS (tOr t (tTest (tOp rEq (tCall spPull [] E0 (tCons ta (tCons tm tNil))) (tC (.int 0))))) tu tw D σ H := h H (.refl H) _ fun H1 e1 => by
  cases b with
  | true => exact k1 H1 (hB.same e1) (Keep.of_same e1)
  | false =>
    exact q_pull (fun H2 e2 => ha H2 (e1.trans e2)) (fun H2 e2 => hm H2 (e1.trans e2)) (hB.same e1) h0 h1 fun r H' r0 r1 hB' k' => ⟨rfl, _, rfl, ite2 (fun _ => k1 H' hB' ((Keep.of_same e1).trans k')) fun _ => k2 rfl H' hB' ((Keep.of_same e1).trans k')⟩
end
section
variable {P : Program} {w : World} {K : PySem.W.Frag} {mg : Str → Option Value} {base : Heap}
theorem ok_strip8 {f : Addr} {fd : FuncData} {k : Nat} (F : Fun K "_law_strip" "_law_strip" sLStrip f fd) (T : Txt mg) (C__law_pull : Cal P w K mg base k "_law_pull" ["_law_bag_here", "_law_many"] spPull) (C__law_of : Cal P w K mg base k "_law_of" ["_law_bag_here", "_law_things"] (spOf K))
    (C__law_begin : Cal P w K mg base k "_law_begin" ["_law_m"] (spP K RBegin)) (C__law_steps : Cal P w K mg base k "_law_steps" ["_law_m", "_law_stand"] (spN K RLN)) : FnOk P w K mg base CX0 (k + 1) f fd ["_law_bag_here", "_law_m", "_law_letters_here"] (spStrip8 K) := by
  refine F.ok sc__law_strip (fun vs H Q E h => ?_) (fun cdv A outer s H vs Q E hr h => ?_)
  · obtain ⟨a, l, p, sp, m, cs, rfl, _⟩ := h
    rfl
  · obtain ⟨a, l, p, sp, m, cs, rfl, hB, hM, g, hsp, spa, c1, c20, hcs, q⟩ := h
    refine ⟨_, (pss_cons (ps_par (i := 3) (j := 4) (by rfl) sc__law_strip.nd rfl rfl (by decide) rfl rfl (pa_cons (pe_callC C__law_begin hr (by rfl) (pa_cons (pv 1) pa_nil)) (pa_cons (pe_lst pa_nil) pa_nil)) (by rfl))
    (pss_cons (ps_for PassesOwn.never rfl (pi_range1 (by rfl) T.m_range (pa_cons (pe_callC C__law_pull hr (by rfl) (pa_cons (pv 0) (pa_cons pe_int pa_nil))) pa_nil)) (pg_name (i := 5) sc__law_strip.nd rfl (.inl rfl))
    (pss_cons (ps_set (i := 6) sc__law_strip.nd rfl (.inl rfl) (pe_callC C__law_steps hr (by rfl) (pa_cons (pv 1) (pa_cons (pv 3) pa_nil))))
    (pss_one (ps_if (PW.pt (pw_or (pt_cmpR (show OpR _ _ (rEqD K) from op_eqD hr.units) (pv 6) (pe_lst pa_nil) (nomark _)) (pw_or1 (pt_cmpR op_eq (pe_callC C__law_pull hr (by rfl) (pa_cons (pv 0) (pa_cons pe_int pa_nil))) pe_int (nomark _)))))
    (pss_one (ps_expr (pe_bm PySem.F.plainAttrs_list PySem.F.slot_list_append PySem.F.type_list_append mt_append (pv 4) (pa_cons (pe_callC C__law_of hr (by rfl) (pa_cons (pv 0) (pa_cons (pv 2) pa_nil))) pa_nil)))) (pss_cons (ps_set (i := 7) sc__law_strip.nd rfl (.inl rfl) (pe_callC C__law_of hr (by rfl) (pa_cons (pv 0) (pa_cons (pv 6) pa_nil))))
    (pss_cons (ps_expr (pe_bm PySem.F.plainAttrs_list PySem.F.slot_list_append PySem.F.type_list_append mt_append (pv 4) (pa_cons (pe_ix ix_tup (pv 7) pe_int (fun _ _ => rfl)) pa_nil)))
    (pss_one (ps_set (i := 3) sc__law_strip.nd rfl (.inl rfl) (pe_ix ix_tup (pv 7) pe_int (fun _ _ => rfl))))))))))
    (pss_one (ps_ret (pv 4))))), ?_⟩
    refine q_parS ?_
    refine (ed_call (K := K) (σ := [some (.ref a), some (.ref p), some (.ref sp), none, none, none, none, none]) (eds_cons (ed_var (i := 1) rfl hM.dp) eds_nil) ⟨m, g.len, rfl, rfl⟩) H (.refl H) _ fun vb H1 e1 hvb => ⟨by show 0 ≤ sizeLine; decide, fun fp nfp => ⟨_, _, rfl, ?_⟩⟩
    have nfp0 : H fp = none := Same.free e1 nfp
    have nl := (hB.same e1).ne nfp
    have nfa : fp ≠ a := nl.1.symm
    have s3 := same_new (o := HO.lst []) nfp
    dsimp only
    refine ⟨.ref a, rfl, a, l, 6, rfl, (hB.same e1).upd nl, by decide, by decide, fun n H3 n0 n1 hB3 k3 => ⟨n, rfl, by omega, by omega, ?_⟩⟩
    have k03 : Keep a H H3 := ((Keep.of_same e1).trans (Keep.of_same s3)).trans k3
    refine for_it walk_range0 (fun i σ' H' => (∃ v s y5 y6 y7, σ' = [some (.ref a), some (.ref p), some (.ref sp), some v, some (.ref fp), y5, y6, y7] ∧ Okay m s ∧ Dp K H' v (dS s)) ∧ BagAt H' a l ∧ Keep a H H' ∧ ∃ zs : List Str, H' fp = some (.lst (zs.map V.str)) ∧ (∀ z ∈ zs, Sg z) ∧ zs.length ≤ i)
      ⟨⟨vb, beginS m, none, none, none, rfl, okay_begin, dp_keep ((hB.same e1).upd nl) k3 (fz_dS _) (dp_same s3 hvb)⟩, hB3, k03, [], k3 _ _ nfa upd_same, fun _ h => (by cases h), Nat.le_refl _⟩ (fun _ _ _ _ _ => True.intro) (fun i y σ' Ha Hb hi hP hy => ?_) (fun σ' H' hP => ?_)
    · obtain ⟨⟨v, st, y5, y6, y7, rfl, ok, hv⟩, hB4, k4, zs, hfp, hzs, hlen⟩ := hP
      obtain ⟨rfl, rfl⟩ := hy
      have hM4 := hM.keep hB k4
      refine sd_asgN (K := K) (en_call (eds_cons (ed_var rfl hM4.dp) (eds_cons (ed_var rfl hv) eds_nil)) ⟨m, st, g, ok, rfl, rfl⟩) fun pd us H5 npd e5 hpd hus => ?_
      dsimp only
      have pda : pd ≠ a := (hB4.ne npd).1.symm
      have hd5 : Dp K H5 (.ref pd) (.list ((stepsOf m st).map dStep)) := .lst (.of hpd) hus
      refine s_orPull (m := 6) (b := PyData.eqv (.list ((stepsOf m st).map dStep)) (.list [])) (et_test (ev_eqD (ed_var rfl hd5) (en_lst eds_nil (by decide)).list (steps_shaped g st) rfl)) (ev_var rfl) ev_c (hB4.same e5) (by decide) (by decide) (fun H8 hB8 k8 => ?_) fun hb H8 hB8 k8 => ?_
      · have k58 : Keep a Hb H8 := (Keep.of_same e5).trans k8
        have hfp8 := k58 _ _ nfa hfp
        have hsp8 := (k4.trans k58) _ _ spa hsp
        refine sd_appX (K := K) (p := fp) (ev_var rfl) hfp8 (by rw [List.length_map]; omega) fun H9 e9 Q2 q2 => ?_
        refine q_of (K := K) (ev_var rfl) (ev_var rfl) (e9 _ _ hsp8) spa (hB8.same e9) (by rw [List.length_map, List.length_map]; omega) (by rw [List.length_map, List.length_map]; omega) fun x H10 hx hB10 k10 => q2 x H10 (k10 _ _ nfa (e9 _ _ hfp8)) ?_
        obtain ⟨zz, hzz, rfl⟩ := List.mem_map.mp hx
        obtain ⟨c, hc, rfl⟩ := List.mem_map.mp hzz
        have k410 : Keep a Hb H10 := (k58.trans (Keep.of_same e9)).trans k10
        have hfp10 := k410 _ _ nfa hfp
        refine ⟨⟨v, st, _, _, _, rfl, ok, dp_tk (.lst hfp10) (fz_dS _) (dp_keep hB4 k410 (fz_dS _) hv)⟩, hB10.upd nl, Keep.mut (k4.trans k410) nfp0, zs ++ [single c], ?_, fun y hy => ?_, by rw [List.length_append]; exact Nat.succ_le_succ hlen⟩
        · rw [upd_same, List.map_append]
          rfl
        · rcases List.mem_append.mp hy with hy | hy
          · exact hzs y hy
          · rw [List.mem_singleton.mp hy]
            exact ⟨c, hcs c hc, rfl⟩
      · have hne : stepsOf m st ≠ [] := fun z => by
          rw [eqv_nil, z] at hb
          cases hb
        have hul := hus.length
        rw [List.length_map] at hul
        have hpos := List.length_pos_iff.mpr hne
        have ho := steps_len g st
        have k58 : Keep a Hb H8 := (Keep.of_same e5).trans k8
        have hB5 := hB4.same e5
        have hpd8 := k8 _ _ pda hpd
        have hus8 := dps_keep hB5 k8 (fz_map fun x _ => fz_dStep x) hus
        refine q_of (K := K) (ev_var rfl) (ev_var rfl) hpd8 pda hB8 (by omega) (by omega) fun x H9 hx hB9 k9 => ?_
        obtain ⟨j, hj⟩ := List.mem_iff_getElem?.mp hx
        obtain ⟨dx, hdx, hxd⟩ := hus8.at hj
        rw [List.getElem?_map, Option.map_eq_some_iff] at hdx
        obtain ⟨z, hz, rfl⟩ := hdx
        have hxd9 := dp_keep hB8 k9 (fz_dStep z) hxd
        have k49 : Keep a Hb H9 := k58.trans k9
        have hfp9 := k49 _ _ nfa hfp
        obtain ⟨k', to, hk', hw', ez, y', hy', ey'⟩ := steps_in (List.mem_of_getElem? hz)
        obtain ⟨_, _, ⟨c, hc, ec⟩, _⟩ := (g.at hk').each y' hy'
        have e22 : z.2.2 = behind m st k' to := congrArg (fun q => q.2.2) ez
        refine sd_app (K := K) (σ := [some (.ref a), some (.ref p), some (.ref sp), some v, some (.ref fp), some (.int (i : Int)), some (.ref pd), some x]) rfl hfp9 (ed_ixT (ed_var rfl hxd9) ev_c (by decide) rfl) (by rw [List.length_map]; omega) fun v1 H10 e10 hv1 => ?_
        obtain rfl := dp_str hv1
        have hfp10 := e10 _ _ hfp9
        have tk : TupK K H10 (upd H10 fp (.lst (zs.map V.str ++ [.str z.1]))) := .lst hfp10
        refine sd_asg (K := K) (d := dS z.2.2) (ed_ixT (ed_var rfl (dp_tk tk (fz_dStep z) (dp_same e10 hxd9))) ev_c (by decide) rfl) fun v2 H11 e11 hv2 => ?_
        have hB10 := hB9.same e10
        refine ⟨⟨v2, z.2.2, _, _, _, rfl, by rw [e22]; exact okay_behind g ok hk' hw' to, hv2⟩, (hB10.upd nl).same e11, (Keep.mut ((k4.trans k49).trans (Keep.of_same e10)) nfp0).trans (Keep.of_same e11), zs ++ [z.1], ?_, fun y hy => ?_, by rw [List.length_append]; exact Nat.succ_le_succ hlen⟩
        · rw [e11 _ _ upd_same, List.map_append]
          rfl
        · rcases List.mem_append.mp hy with hy | hy
          · exact hzs y hy
          · rw [List.mem_singleton.mp hy]
            exact ⟨c, hc, ey'.trans ec⟩
    · obtain ⟨⟨v, st, y5, y6, y7, rfl, ok, hv⟩, hB4, k4, zs, hfp, hzs, hlen⟩ := hP
      exact ⟨.ref fp, rfl, q fp zs H' nfp0 (by omega) hzs hfp hB4 k4⟩
end
end Ink
namespace Ink
open PySem PySem.Spec PyProof.Rows L2 Evl
def spLaw (K : PySem.W.Frag) : Sp := fun vs H Q _ => ∃ (c : Addr) (ns : List Int), vs = [.ref c] ∧ SqL K H c (ns.map V.int) ∧ ns.length ≤ 63 ∧ ∀ H', Q (.bl true) H'
theorem lot_shaped (l : List Std) : SeqAt.shaped (.list (l.map dS)) = true := by
  have h1 : PyData.canLayAll0 (l.map dS) = true := lay_map fun x _ => dS_lay x
  have h2 := depth_map (f := dS) (n := 6) (l := l) fun x _ => depth_dS x
  unfold SeqAt.shaped
  rw [Bool.and_eq_true, decide_eq_true_eq]
  refine ⟨by simp only [PyData.canLay0]; exact h1, ?_⟩
  simp only [PyData.depth]
  omega
theorem signs_lay {zs : List Str} (h : ∀ z ∈ zs, Sg z) : (PyData.list (zs.map .str)).canLay0 = true := by
  simp only [PyData.canLay0]
  exact lay_map fun z hz => by
    obtain ⟨c, hc, rfl⟩ := h z hz
    simp only [PyData.canLay0]
    exact lets_ok c hc
theorem signs_shaped {zs : List Str} (h : ∀ z ∈ zs, Sg z) : SeqAt.shaped (.list (zs.map .str)) = true := by
  have h2 := depth_map (f := PyData.str) (n := 1) (l := zs) fun x _ => by simp only [PyData.depth]; omega
  unfold SeqAt.shaped
  rw [Bool.and_eq_true, decide_eq_true_eq]
  refine ⟨signs_lay h, ?_⟩
  simp only [PyData.depth]
  omega
theorem et_or2 {t u : TT} {b c : Bool} (h1 : EvT t σ H b) (h2 : b = false → EvT u σ H c) : EvT (tOr t u) σ H (b || c) := fun H1 e Q q => h1 H1 e _ fun H2 e2 => by
  cases b with
  | true => exact q H2 e2
  | false => exact h2 rfl H2 (e.trans e2) Q fun H3 e3 => q H3 (e2.trans e3)
theorem rows_shaped {i : Nat} {l : List (List Str)} (h : ∀ ns ∈ l, ns.length = i ∧ ∀ z ∈ ns, PyData.strOk z = true) : SeqAt.shaped (.list (l.map dNs)) = true := by
  have h1 : PyData.canLayAll0 (l.map dNs) = true := lay_map fun ns hn => by
    unfold dNs
    simp only [PyData.canLay0]
    exact lay_map fun z hz => by
      simp only [PyData.canLay0]
      exact (h ns hn).2 z hz
  have h2 := depth_map (f := dNs) (n := 3) (l := l) fun ns _ => by
    have := depth_map (f := PyData.str) (n := 1) (l := ns) fun x _ => by simp only [PyData.depth]; omega
    unfold dNs
    simp only [PyData.depth]
    omega
  unfold SeqAt.shaped
  rw [Bool.and_eq_true, decide_eq_true_eq]
  refine ⟨by simp only [PyData.canLay0]; exact h1, ?_⟩
  simp only [PyData.depth]
  omega
theorem rows_eq {m : List Wr} (g : GoodM m) (zs : List Str) : (!(rowsM m zs zs.length).isEmpty) = decide (0 < (lotP m zs).length) := by
  have h := rows_lot g zs
  rw [Bool.eq_iff_iff, Bool.not_eq_true', decide_eq_true_iff, List.length_pos_iff, ← h]
  cases rowsM m zs zs.length with
  | nil => simp
  | cons _ _ => simp
theorem MAt.kd {P : Program} {w : World} {K : PySem.W.Frag} {H H' : Hp} {d : Addr} {xs : DX} {u : V} {dd : PyData} (hd : H d = some (DicO P w d xs)) (k : KD d H H') (h : Dp K H u dd) : Dp K H' u dd := (kd_kx hd k).dp h
section
variable {P : Program} {w : World} {K : PySem.W.Frag} {mg : Str → Option Value} {base : Heap}
theorem ok_law08 {f C : Addr} {fd : FuncData} {k : Nat} (F : Fun K "law" "law" sLaw f fd) (T : Txt mg)
    (C__law_bag : Cal P w K mg base (k + 1) "_law_bag" ["_law_script"] (spBag K)) (C__law_signs : Cal P w K mg base (k + 1) "_law_signs" ["_law_bag_here", "_law_limit"] spSigns) (C__law_company : Cal P w K mg base (k + 1) "_law_company" ["_law_bag_here", "_law_limit", "_law_signs_here"] (spComp K))
    (C__law_strip : Cal P w K mg base (k + 1) "_law_strip" ["_law_bag_here", "_law_m", "_law_letters_here"] (spStrip8 K)) (C__law_rows_of : Cal P w K mg base (k + 1) "_law_rows_of" ["_law_m", "_law_signs_here"] (spN K RRows))
    (K_Company : MakC P w K mg base k "Company" C ["self", "writers"] [] (spInitD P w K C .list)) (M_Company_leaves : MetC P w K mg base (k + 1) C "leaves" ["self", "strip"] (spLeaves P w K C))
    (C__law_like : Cal P w K mg base (k + 1) "_law_like" ["_law_found", "_law_due"] (spLike K 5)) : FnOk P w K mg base CX0 (k + 2) f fd ["_law_script"] (spLaw K) := by
  refine F.ok sc_law (fun vs H Q E h => ?_) (fun cdv A outer s H vs Q E hr h => ?_)
  · obtain ⟨c, ns, rfl, _⟩ := h
    rfl
  · obtain ⟨c, ns, rfl, hS, hlen, q⟩ := h
    refine ⟨_, (pss_cons (ps_set (i := 1) sc_law.nd rfl (.inl rfl) (pe_callC C__law_bag hr (by rfl) (pa_cons (pv 0) pa_nil)))
    (pss_cons (ps_for PassesOwn.never rfl (pi_range1 (by rfl) T.m_range (pa_cons pe_int pa_nil)) (pg_name (i := 2) sc_law.nd rfl (.inl rfl))
    (pss_cons (ps_set (i := 3) sc_law.nd rfl (.inl rfl) (pe_callC C__law_signs hr (by rfl) (pa_cons (pv 1) (pa_cons pe_int pa_nil))))
    (pss_cons (ps_set (i := 4) sc_law.nd rfl (.inl rfl) (pe_callC C__law_company hr (by rfl) (pa_cons (pv 1) (pa_cons pe_int (pa_cons (pv 3) pa_nil)))))
    (pss_cons (ps_set (i := 5) sc_law.nd rfl (.inl rfl) (pe_callC C__law_strip hr (by rfl) (pa_cons (pv 1) (pa_cons (pv 4) (pa_cons (pv 3) pa_nil)))))
    (pss_cons (ps_set (i := 6) sc_law.nd rfl (.inl rfl) (pe_cmpR (show OpR _ _ (rNeD K) from op_neD hr.units) (pe_callC C__law_rows_of hr (by rfl) (pa_cons (pv 4) (pa_cons (pe_callTy call_tuple_of (by rfl) T.m_tuple (by decide +kernel) (pa_cons (pv 5) pa_nil)) pa_nil))) (pe_lst pa_nil) (nomark _)))
    (pss_cons (ps_par (i := 7) (j := 8) (by rfl) sc_law.nd rfl rfl (by decide) rfl rfl (pa_cons (pe_callTy call_list_of (by rfl) T.m_list (by decide +kernel) (pa_cons (pv 5) pa_nil)) (pa_cons (pe_makeC K_Company hr (by rfl) (pa_cons (pv 4) pa_nil)) pa_nil)) (by rfl))
    (pss_cons (ps_set (i := 9) sc_law.nd rfl (.inl rfl) (pe_lst (pa_cons (pe_methC (pv 8) M_Company_leaves (hr.mono (by omega)) (pa_cons (pv 7) pa_nil)) (pa_cons (pe_methC (pv 8) M_Company_leaves (hr.mono (by omega)) (pa_cons (pe_callTy call_tuple_of (by rfl) T.m_tuple (by decide +kernel) (pa_cons (pv 5) pa_nil)) pa_nil)) pa_nil))))
    (pss_one (ps_if (PW.pt (pw_or (pt_not (pt_val (pe_callC C__law_like hr (by rfl) (pa_cons (pv 9) (pa_cons (pe_lst (pa_cons (pv 6) (pa_cons (pv 6) pa_nil))) pa_nil))))) (pw_or1 (pt_cmpR (show OpR _ _ (rNeD K) from op_neD hr.units) (pv 7) (pv 5) (nomark _)))))
    (pss_one (ps_ret pe_bl)) pss_nil)))))))))
    (pss_one (ps_ret pe_bl)))), ?_⟩
    refine ⟨.ref c, rfl, c, ns, rfl, hS, hlen, fun a l H1 na hB1 s1 => ?_⟩
    refine ⟨4, rfl, by decide, by decide, for_it walk_range0 (fun i σ' H' => (∃ y2 y3 y4 y5 y6 y7 y8 y9, σ' = [some (.ref c), some (.ref a), y2, y3, y4, y5, y6, y7, y8, y9]) ∧ BagAt H' a l) ⟨⟨none, none, none, none, none, none, none, none, rfl⟩, hB1⟩ (fun _ _ _ _ _ => True.intro) (fun i y σ' Ha Hb hi hP hy => ?_) (fun σ' H' hP => ?_)⟩
    · obtain ⟨⟨y2, y3, y4, y5, y6, y7, y8, y9, rfl⟩, hB2⟩ := hP
      obtain ⟨rfl, rfl⟩ := hy
      refine ⟨.ref a, rfl, a, l, 2, rfl, hB2, by decide, by decide, fun sp cs H3 nsp hc1 hc2 hcs hrise hsp hB3 k3 => g_go ?_⟩
      have nspa : sp ≠ a := fun z => by
        obtain ⟨_, _, _, _, e, _⟩ := hB2
        rw [z, e] at nsp
        cases nsp
      dsimp only
      refine ⟨.ref a, rfl, .ref sp, rfl, a, l, sp, 3, cs, rfl, hB3, by decide, by decide, hsp, nspa, hcs, hrise, fun p m H4 np g hm1 hM4 hB4 k4 => g_go ?_⟩
      dsimp only
      have hsp4 := k4 _ _ nspa hsp
      refine ⟨.ref a, rfl, .ref p, rfl, .ref sp, rfl, a, l, p, sp, m, cs, rfl, hB4, hM4, g, hsp4, nspa, hc1, by omega, hcs, fun q5 zs H5 nq5 zl hzs hq5 hB5 k5 => g_go ?_⟩
      dsimp only
      have hM5 := hM4.keep hB4 k5
      have hq5d : Dp K H5 (.ref q5) (.list (zs.map .str)) := .lst (.of hq5) (dps_strs zs)
      refine sd_asg (K := K) (d := .bool (decide (0 < (lotP m zs).length))) (ed_bl (ev_is (ev_neD (EvN.list (en_call (eds_cons (ed_var (i := 4) rfl hM5.dp) (eds_cons (ed_tuple (ed_var (i := 5) rfl hq5d)) eds_nil)) ⟨m, zs, g, by omega, rfl, rfl⟩)) (en_lst eds_nil (by show 0 ≤ 100000; decide)).list (rows_shaped (rowsM_ok g zs zs.length)) rfl) (by rw [eqv_nil, rows_eq g zs]))) fun vd H7 e7 hvd => ?_
      obtain rfl := dp_bl hvd
      dsimp only
      have hq7 := e7 _ _ hq5
      have hM7 := hM5.same e7
      have hB7 := hB5.same e7
      refine q_parS ?_
      refine (en_list (K := K) (σ := [some (.ref c), some (.ref a), some (.int (i : Int)), some (.ref sp), some (.ref p), some (.ref q5), some (.bl (decide (0 < (lotP m zs).length))), y7, y8, y9]) (ds := zs.map .str) (ed_var (i := 5) rfl (.lst (.of hq7) (dps_strs zs))) (.inl rfl)) H7 (.refl H7) _ fun hp vs H8 nhp e8 hhp hvs => ?_
      obtain rfl := dps_str hvs
      refine ⟨.ref p, rfl, fun x dx nx ndx nxd => ?_⟩
      have s9 : Same H8 (upd (upd H8 dx (.own x)) x (.ins C dx [])) := (same_new ndx).trans (same_new (by rw [upd_ne nxd.symm]; exact nx))
      refine ⟨x, dx, .ref p, m, rfl, upd_same, dp_same s9 (hM7.same e8).dp, g, fun d0 H10 nd0 k10 hc10 => ⟨rfl, _, _, rfl, ?_⟩⟩
      have s810 : Same H8 H10 := fun b o e => k10 b o (s9 b o e) (ne_of_none e nx)
      have hB10 := (hB7.same e8).same s810
      have hq10 := s810 _ _ (e8 _ _ hq7)
      have hh10 := s810 _ _ hhp
      obtain ⟨dx1, tw1, kvs1, hcx1, _⟩ := id hc10
      obtain ⟨xs10, hd10⟩ := CoAtD.ext hc10
      refine ⟨.ref x, rfl, x, dx1, _, rfl, hcx1, coF_no _ _ nco_2.2.2.2.2.1 nco_2.2.2.2.2.2, .ref hp, rfl, x, d0, hp, m, 0, zs, rfl, hc10, g, .inl (.of hh10), fun H11 kd11 hc11 => ?_⟩
      have kx11 := kd_kx hd10 kd11
      obtain ⟨dx2, tw2, kvs2, hcx2, _⟩ := id hc11
      obtain ⟨xs11, hd11⟩ := CoAtD.ext hc11
      refine ⟨.ref x, rfl, x, dx2, _, rfl, hcx2, coF_no _ _ nco_2.2.2.2.2.1 nco_2.2.2.2.2.2, .ref q5, rfl, q5, zs.map V.str, rfl, .inl ⟨.of (kx11.lst hq10), fun tp ntp => ?_⟩⟩
      have s12 := same_new (o := HO.tup (zs.map V.str)) ntp
      have hc12 := hc11.same s12
      obtain ⟨xs12, hd12⟩ := CoAtD.ext hc12
      refine ⟨x, d0, tp, m, 20000, zs, rfl, hc12, g, .inr (.of upd_same), fun H13 kd13 hc13 => ⟨by show 2 ≤ sizeLine; decide, fun fl nfl => g_go ?_⟩⟩
      have kx13 : KX H10 H13 := (kx11.trans (KX.of s12)).trans (kd_kx hd12 kd13)
      have s14 := same_new (o := HO.lst [V.bl (decide (0 < (lotP m zs).length)), V.bl (decide (0 < (lotP m zs).length))]) nfl
      have kx14 := kx13.trans (KX.of s14)
      have hB14 := kx14.bag hB10
      have hq14 : Dp K _ (.ref q5) (.list (zs.map .str)) := kx14.dp (.lst (.of hq10) (dps_strs zs))
      have hh14 : Dp K _ (.ref hp) (.list (zs.map .str)) := kx14.dp (.lst (.of hh10) (dps_strs zs))
      have hfl : Dp K (upd H13 fl (.lst [V.bl (decide (0 < (lotP m zs).length)), V.bl (decide (0 < (lotP m zs).length))])) (.ref fl) (.list [.bool (decide (0 < (lotP m zs).length)), .bool (decide (0 < (lotP m zs).length))]) := .lst (.of upd_same) (.cons (.bl _) (.cons (.bl _) .nil))
      generalize upd H13 fl (.lst [V.bl (decide (0 < (lotP m zs).length)), V.bl (decide (0 < (lotP m zs).length))]) = H14 at *
      dsimp only
      refine s_if (b := (!true) || !PyData.eqv (.list (zs.map .str)) (.list (zs.map .str))) (et_or2 (et_not (et_B (ev_like1 (ed_var (i := 9) rfl hfl) (en_lst (K := K) (eds_cons (ed_bl (ev_var (i := 6) rfl)) (eds_cons (ed_bl (ev_var (i := 6) rfl)) eds_nil)) (by show 2 ≤ 100000; decide)).list (okD_two _)))) fun _ => et_test (ev_neD (ed_var (i := 7) rfl hh14) (ed_var (i := 5) rfl hq14) (signs_shaped hzs) (signs_shaped hzs))) (fun hb => ?_) fun _ H15 e15 => ?_
      · rw [PySem.SeqAt.eqv_refl _ (signs_lay hzs)] at hb
        cases hb
      · exact ⟨⟨_, _, _, _, _, _, _, _, rfl⟩, hB14.same e15⟩
    · obtain ⟨⟨y2, y3, y4, y5, y6, y7, y8, y9, rfl⟩, hB2⟩ := hP
      exact q H'
end
end Ink
namespace Ink
open PySem PySem.Spec PyProof.Rows L2
theorem all_mk {l : PySem.W.OpenLaw} {w : World} {K : PySem.W.Frag} {h : Heap} {mg : Str → Option Value} {fa fl : Addr} (X : K.In h) (G : h.Ns mainGlobals mg) (hfa : mg "law" = some (.ref fa))
    {oc1 kV1 dc1 pm1 cd1 ct1 : Value} {od1 an1 : Option Addr} {sl1 : Array (Option Value)} {f1 : Addr} {oc2 kV2 dc2 pm2 cd2 ct2 : Value} {od2 an2 : Option Addr} {sl2 : Array (Option Value)} {f2 : Addr} {oc3 kV3 dc3 pm3 cd3 ct3 : Value} {od3 an3 : Option Addr} {sl3 : Array (Option Value)} {f3 : Addr} {oc4 kV4 dc4 pm4 cd4 ct4 : Value} {od4 an4 : Option Addr} {sl4 : Array (Option Value)} {f4 : Addr} {oc5 kV5 dc5 pm5 cd5 ct5 : Value} {od5 an5 : Option Addr} {sl5 : Array (Option Value)} {f5 : Addr} {oc6 kV6 dc6 pm6 cd6 ct6 : Value} {od6 an6 : Option Addr} {sl6 : Array (Option Value)} {f6 : Addr} {oc7 kV7 dc7 pm7 cd7 ct7 : Value} {od7 an7 : Option Addr} {sl7 : Array (Option Value)} {f7 : Addr} {oc8 kV8 dc8 pm8 cd8 ct8 : Value} {od8 an8 : Option Addr} {sl8 : Array (Option Value)} {f8 : Addr} {oc9 kV9 dc9 pm9 cd9 ct9 : Value} {od9 an9 : Option Addr} {sl9 : Array (Option Value)} {f9 : Addr} {oc10 kV10 dc10 pm10 cd10 ct10 : Value} {od10 an10 : Option Addr} {sl10 : Array (Option Value)} {f10 : Addr} {oc11 kV11 dc11 pm11 cd11 ct11 : Value} {od11 an11 : Option Addr} {sl11 : Array (Option Value)} {f11 : Addr} {oc12 kV12 dc12 pm12 cd12 ct12 : Value} {od12 an12 : Option Addr} {sl12 : Array (Option Value)} {f12 : Addr} {oc13 kV13 dc13 pm13 cd13 ct13 : Value} {od13 an13 : Option Addr} {sl13 : Array (Option Value)} {f13 : Addr} {oc14 kV14 dc14 pm14 cd14 ct14 : Value} {od14 an14 : Option Addr} {sl14 : Array (Option Value)} {f14 : Addr} {oc15 kV15 dc15 pm15 cd15 ct15 : Value} {od15 an15 : Option Addr} {sl15 : Array (Option Value)} {f15 : Addr} {oc16 kV16 dc16 pm16 cd16 ct16 : Value} {od16 an16 : Option Addr} {sl16 : Array (Option Value)} {f16 : Addr} {oc17 kV17 dc17 pm17 cd17 ct17 : Value} {od17 an17 : Option Addr} {sl17 : Array (Option Value)} {f17 : Addr} {oc18 kV18 dc18 pm18 cd18 ct18 : Value} {od18 an18 : Option Addr} {sl18 : Array (Option Value)} {f18 : Addr} {oc19 kV19 dc19 pm19 cd19 ct19 : Value} {od19 an19 : Option Addr} {sl19 : Array (Option Value)} {f19 : Addr} {oc20 kV20 dc20 pm20 cd20 ct20 : Value} {od20 an20 : Option Addr} {sl20 : Array (Option Value)} {f20 : Addr} {oc21 kV21 dc21 pm21 cd21 ct21 : Value} {od21 an21 : Option Addr} {sl21 : Array (Option Value)} {f21 : Addr} {oc22 kV22 dc22 pm22 cd22 ct22 : Value} {od22 an22 : Option Addr} {sl22 : Array (Option Value)} {f22 : Addr} {oc23 kV23 dc23 pm23 cd23 ct23 : Value} {od23 an23 : Option Addr} {sl23 : Array (Option Value)} {f23 : Addr} {oc24 kV24 dc24 pm24 cd24 ct24 : Value} {od24 an24 : Option Addr} {sl24 : Array (Option Value)} {f24 : Addr} {oc25 kV25 dc25 pm25 cd25 ct25 : Value} {od25 an25 : Option Addr} {sl25 : Array (Option Value)} {f25 : Addr} {oc26 kV26 dc26 pm26 cd26 ct26 : Value} {od26 an26 : Option Addr} {sl26 : Array (Option Value)} {f26 : Addr} {oc27 kV27 dc27 pm27 cd27 ct27 : Value} {od27 an27 : Option Addr} {sl27 : Array (Option Value)} {f27 : Addr} {oc28 kV28 dc28 pm28 cd28 ct28 : Value} {od28 an28 : Option Addr} {sl28 : Array (Option Value)} {f28 : Addr} {oc29 kV29 dc29 pm29 cd29 ct29 : Value} {od29 an29 : Option Addr} {sl29 : Array (Option Value)} {f29 : Addr} {oc30 kV30 dc30 pm30 cd30 ct30 : Value} {od30 an30 : Option Addr} {sl30 : Array (Option Value)} {f30 : Addr} {oc31 kV31 dc31 pm31 cd31 ct31 : Value} {od31 an31 : Option Addr} {sl31 : Array (Option Value)} {f31 : Addr} {oc32 kV32 dc32 pm32 cd32 ct32 : Value} {od32 an32 : Option Addr} {sl32 : Array (Option Value)} {f32 : Addr} {oc33 kV33 dc33 pm33 cd33 ct33 : Value} {od33 an33 : Option Addr} {sl33 : Array (Option Value)} {f33 : Addr} {oc34 kV34 dc34 pm34 cd34 ct34 : Value} {od34 an34 : Option Addr} {sl34 : Array (Option Value)} {t1 : Tok} {t2 : Tok} {t3 : Tok} {t4 : Tok} {t5 : Tok} {C T0 e0 r0 : Addr} {cT : Value} {oT oE oN : Option Addr} {nT nE nN : Nat} {sT sE sN : Array (Option Value)} {u1 u2 : Tok} {ocA kVA dcA pmA cdA ctA : Value} {odA anA : Option Addr} {slA : Array (Option Value)} {fA : Addr} {ocB kVB dcB pmB cdB ctB : Value} {odB anB : Option Addr} {slB : Array (Option Value)} {fB : Addr} {ocD kVD dcD pmD cdD ctD : Value} {odD anD : Option Addr} {slD : Array (Option Value)} {fD : Addr} {ocV kVV dcV pmV cdV ctV : Value} {odV anV : Option Addr} {slV : Array (Option Value)} {fV : Addr}
    (a1 : PySem.W.nsIn K mainGlobals "is_name" = some (some (.ref f1))) (l1 : K.lookup f1 = some ⟨oc1, od1, .func (PySem.W.fnOf "is_name" "is_name" (defArgs sIsName) (defBody sIsName) (defScope sIsName) .none kV1 dc1 pm1 an1 cd1 ct1), sl1⟩) (c1 : PySem.W.codeIn K cd1 "is_name" = true) (k1 : PySem.W.keepIn K (.ref f1) = true)
    (a2 : PySem.W.nsIn K mainGlobals "is_sign" = some (some (.ref f2))) (l2 : K.lookup f2 = some ⟨oc2, od2, .func (PySem.W.fnOf "is_sign" "is_sign" (defArgs sIsSign) (defBody sIsSign) (defScope sIsSign) .none kV2 dc2 pm2 an2 cd2 ct2), sl2⟩) (c2 : PySem.W.codeIn K cd2 "is_sign" = true) (k2 : PySem.W.keepIn K (.ref f2) = true)
    (a3 : PySem.W.nsIn K mainGlobals "is_writer" = some (some (.ref f3))) (l3 : K.lookup f3 = some ⟨oc3, od3, .func (PySem.W.fnOf "is_writer" "is_writer" (defArgs sIsWriter) (defBody sIsWriter) (defScope sIsWriter) .none kV3 dc3 pm3 an3 cd3 ct3), sl3⟩) (c3 : PySem.W.codeIn K cd3 "is_writer" = true) (k3 : PySem.W.keepIn K (.ref f3) = true)
    (a4 : PySem.W.nsIn K mainGlobals "_is_count" = some (some (.ref f4))) (l4 : K.lookup f4 = some ⟨oc4, od4, .func (PySem.W.fnOf "_is_count" "_is_count" (defArgs sIsCount) (defBody sIsCount) (defScope sIsCount) .none kV4 dc4 pm4 an4 cd4 ct4), sl4⟩) (c4 : PySem.W.codeIn K cd4 "_is_count" = true) (k4 : PySem.W.keepIn K (.ref f4) = true)
    (a5 : PySem.W.nsIn K mainGlobals "_is_place" = some (some (.ref f5))) (l5 : K.lookup f5 = some ⟨oc5, od5, .func (PySem.W.fnOf "_is_place" "_is_place" (defArgs sIsPlace) (defBody sIsPlace) (defScope sIsPlace) .none kV5 dc5 pm5 an5 cd5 ct5), sl5⟩) (c5 : PySem.W.codeIn K cd5 "_is_place" = true) (k5 : PySem.W.keepIn K (.ref f5) = true)
    (a6 : PySem.W.nsIn K mainGlobals "_are_arrows" = some (some (.ref f6))) (l6 : K.lookup f6 = some ⟨oc6, od6, .func (PySem.W.fnOf "_are_arrows" "_are_arrows" (defArgs sAreArrows) (defBody sAreArrows) (defScope sAreArrows) .none kV6 dc6 pm6 an6 cd6 ct6), sl6⟩) (c6 : PySem.W.codeIn K cd6 "_are_arrows" = true) (k6 : PySem.W.keepIn K (.ref f6) = true)
    (a7 : PySem.W.nsIn K mainGlobals "_minds" = some (some (.ref f7))) (l7 : K.lookup f7 = some ⟨oc7, od7, .func (PySem.W.fnOf "_minds" "_minds" (defArgs sMinds) (defBody sMinds) (defScope sMinds) .none kV7 dc7 pm7 an7 cd7 ct7), sl7⟩) (c7 : PySem.W.codeIn K cd7 "_minds" = true) (k7 : PySem.W.keepIn K (.ref f7) = true)
    (a8 : PySem.W.nsIn K mainGlobals "_may_write" = some (some (.ref f8))) (l8 : K.lookup f8 = some ⟨oc8, od8, .func (PySem.W.fnOf "_may_write" "_may_write" (defArgs sMayWrite) (defBody sMayWrite) (defScope sMayWrite) .none kV8 dc8 pm8 an8 cd8 ct8), sl8⟩) (c8 : PySem.W.codeIn K cd8 "_may_write" = true) (k8 : PySem.W.keepIn K (.ref f8) = true)
    (a9 : PySem.W.nsIn K mainGlobals "_behind" = some (some (.ref f9))) (l9 : K.lookup f9 = some ⟨oc9, od9, .func (PySem.W.fnOf "_behind" "_behind" (defArgs sBehind) (defBody sBehind) (defScope sBehind) .none kV9 dc9 pm9 an9 cd9 ct9), sl9⟩) (c9 : PySem.W.codeIn K cd9 "_behind" = true) (k9 : PySem.W.keepIn K (.ref f9) = true)
    (a10 : PySem.W.nsIn K mainGlobals "_steps_of" = some (some (.ref f10))) (l10 : K.lookup f10 = some ⟨oc10, od10, .func (PySem.W.fnOf "_steps_of" "_steps_of" (defArgs sStepsOf) (defBody sStepsOf) (defScope sStepsOf) .none kV10 dc10 pm10 an10 cd10 ct10), sl10⟩) (c10 : PySem.W.codeIn K cd10 "_steps_of" = true) (k10 : PySem.W.keepIn K (.ref f10) = true)
    (a11 : PySem.W.nsIn K mainGlobals "_law_bag" = some (some (.ref f11))) (l11 : K.lookup f11 = some ⟨oc11, od11, .func (PySem.W.fnOf "_law_bag" "_law_bag" (defArgs sLBag) (defBody sLBag) (defScope sLBag) .none kV11 dc11 pm11 an11 cd11 ct11), sl11⟩) (c11 : PySem.W.codeIn K cd11 "_law_bag" = true) (k11 : PySem.W.keepIn K (.ref f11) = true)
    (a12 : PySem.W.nsIn K mainGlobals "_law_pull" = some (some (.ref f12))) (l12 : K.lookup f12 = some ⟨oc12, od12, .func (PySem.W.fnOf "_law_pull" "_law_pull" (defArgs sLPull) (defBody sLPull) (defScope sLPull) .none kV12 dc12 pm12 an12 cd12 ct12), sl12⟩) (c12 : PySem.W.codeIn K cd12 "_law_pull" = true) (k12 : PySem.W.keepIn K (.ref f12) = true)
    (a13 : PySem.W.nsIn K mainGlobals "_law_of" = some (some (.ref f13))) (l13 : K.lookup f13 = some ⟨oc13, od13, .func (PySem.W.fnOf "_law_of" "_law_of" (defArgs sLOf) (defBody sLOf) (defScope sLOf) .none kV13 dc13 pm13 an13 cd13 ct13), sl13⟩) (c13 : PySem.W.codeIn K cd13 "_law_of" = true) (k13 : PySem.W.keepIn K (.ref f13) = true)
    (a14 : PySem.W.nsIn K mainGlobals "_law_letters" = some (some (.ref f14))) (l14 : K.lookup f14 = some ⟨oc14, od14, .func (PySem.W.fnOf "_law_letters" "_law_letters" (defArgs sLLetters) (defBody sLLetters) (defScope sLLetters) .none kV14 dc14 pm14 an14 cd14 ct14), sl14⟩) (c14 : PySem.W.codeIn K cd14 "_law_letters" = true) (k14 : PySem.W.keepIn K (.ref f14) = true)
    (a15 : PySem.W.nsIn K mainGlobals "_law_like" = some (some (.ref f15))) (l15 : K.lookup f15 = some ⟨oc15, od15, .func (PySem.W.fnOf "_law_like" "_law_like" (defArgs sLLike) (defBody sLLike) (defScope sLLike) .none kV15 dc15 pm15 an15 cd15 ct15), sl15⟩) (c15 : PySem.W.codeIn K cd15 "_law_like" = true) (k15 : PySem.W.keepIn K (.ref f15) = true)
    (a16 : PySem.W.nsIn K mainGlobals "_law_names" = some (some (.ref f16))) (l16 : K.lookup f16 = some ⟨oc16, od16, .func (PySem.W.fnOf "_law_names" "_law_names" (defArgs sLNames) (defBody sLNames) (defScope sLNames) .none kV16 dc16 pm16 an16 cd16 ct16), sl16⟩) (c16 : PySem.W.codeIn K cd16 "_law_names" = true) (k16 : PySem.W.keepIn K (.ref f16) = true)
    (a17 : PySem.W.nsIn K mainGlobals "_law_signs" = some (some (.ref f17))) (l17 : K.lookup f17 = some ⟨oc17, od17, .func (PySem.W.fnOf "_law_signs" "_law_signs" (defArgs sLSigns) (defBody sLSigns) (defScope sLSigns) .none kV17 dc17 pm17 an17 cd17 ct17), sl17⟩) (c17 : PySem.W.codeIn K cd17 "_law_signs" = true) (k17 : PySem.W.keepIn K (.ref f17) = true)
    (a18 : PySem.W.nsIn K mainGlobals "_law_writer" = some (some (.ref f18))) (l18 : K.lookup f18 = some ⟨oc18, od18, .func (PySem.W.fnOf "_law_writer" "_law_writer" (defArgs sLWriter) (defBody sLWriter) (defScope sLWriter) .none kV18 dc18 pm18 an18 cd18 ct18), sl18⟩) (c18 : PySem.W.codeIn K cd18 "_law_writer" = true) (k18 : PySem.W.keepIn K (.ref f18) = true)
    (a19 : PySem.W.nsIn K mainGlobals "_need_company" = some (some (.ref f19))) (l19 : K.lookup f19 = some ⟨oc19, od19, .func (PySem.W.fnOf "_need_company" "_need_company" (defArgs sNeedCompany) (defBody sNeedCompany) (defScope sNeedCompany) .none kV19 dc19 pm19 an19 cd19 ct19), sl19⟩) (c19 : PySem.W.codeIn K cd19 "_need_company" = true) (k19 : PySem.W.keepIn K (.ref f19) = true)
    (a20 : PySem.W.nsIn K mainGlobals "_law_arrows" = some (some (.ref f20))) (l20 : K.lookup f20 = some ⟨oc20, od20, .func (PySem.W.fnOf "_law_arrows" "_law_arrows" (defArgs sLArrows) (defBody sLArrows) (defScope sLArrows) .none kV20 dc20 pm20 an20 cd20 ct20), sl20⟩) (c20 : PySem.W.codeIn K cd20 "_law_arrows" = true) (k20 : PySem.W.keepIn K (.ref f20) = true)
    (a21 : PySem.W.nsIn K mainGlobals "_law_begin" = some (some (.ref f21))) (l21 : K.lookup f21 = some ⟨oc21, od21, .func (PySem.W.fnOf "_law_begin" "_law_begin" (defArgs sLBegin) (defBody sLBegin) (defScope sLBegin) .none kV21 dc21 pm21 an21 cd21 ct21), sl21⟩) (c21 : PySem.W.codeIn K cd21 "_law_begin" = true) (k21 : PySem.W.keepIn K (.ref f21) = true)
    (a22 : PySem.W.nsIn K mainGlobals "_law_waits_count" = some (some (.ref f22))) (l22 : K.lookup f22 = some ⟨oc22, od22, .func (PySem.W.fnOf "_law_waits_count" "_law_waits_count" (defArgs sLWaitsCount) (defBody sLWaitsCount) (defScope sLWaitsCount) .none kV22 dc22 pm22 an22 cd22 ct22), sl22⟩) (c22 : PySem.W.codeIn K cd22 "_law_waits_count" = true) (k22 : PySem.W.keepIn K (.ref f22) = true)
    (a23 : PySem.W.nsIn K mainGlobals "_law_can" = some (some (.ref f23))) (l23 : K.lookup f23 = some ⟨oc23, od23, .func (PySem.W.fnOf "_law_can" "_law_can" (defArgs sLCan) (defBody sLCan) (defScope sLCan) .none kV23 dc23 pm23 an23 cd23 ct23), sl23⟩) (c23 : PySem.W.codeIn K cd23 "_law_can" = true) (k23 : PySem.W.keepIn K (.ref f23) = true)
    (a24 : PySem.W.nsIn K mainGlobals "_law_after" = some (some (.ref f24))) (l24 : K.lookup f24 = some ⟨oc24, od24, .func (PySem.W.fnOf "_law_after" "_law_after" (defArgs sLAfter) (defBody sLAfter) (defScope sLAfter) .none kV24 dc24 pm24 an24 cd24 ct24), sl24⟩) (c24 : PySem.W.codeIn K cd24 "_law_after" = true) (k24 : PySem.W.keepIn K (.ref f24) = true)
    (a25 : PySem.W.nsIn K mainGlobals "_law_steps" = some (some (.ref f25))) (l25 : K.lookup f25 = some ⟨oc25, od25, .func (PySem.W.fnOf "_law_steps" "_law_steps" (defArgs sLSteps) (defBody sLSteps) (defScope sLSteps) .none kV25 dc25 pm25 an25 cd25 ct25), sl25⟩) (c25 : PySem.W.codeIn K cd25 "_law_steps" = true) (k25 : PySem.W.keepIn K (.ref f25) = true)
    (a26 : PySem.W.nsIn K mainGlobals "_law_company" = some (some (.ref f26))) (l26 : K.lookup f26 = some ⟨oc26, od26, .func (PySem.W.fnOf "_law_company" "_law_company" (defArgs sLCompany) (defBody sLCompany) (defScope sLCompany) .none kV26 dc26 pm26 an26 cd26 ct26), sl26⟩) (c26 : PySem.W.codeIn K cd26 "_law_company" = true) (k26 : PySem.W.keepIn K (.ref f26) = true)
    (a27 : PySem.W.nsIn K mainGlobals "lot_behind" = some (some (.ref f27))) (l27 : K.lookup f27 = some ⟨oc27, od27, .func (PySem.W.fnOf "lot_behind" "lot_behind" (defArgs sLotBehind) (defBody sLotBehind) (defScope sLotBehind) .none kV27 dc27 pm27 an27 cd27 ct27), sl27⟩) (c27 : PySem.W.codeIn K cd27 "lot_behind" = true) (k27 : PySem.W.keepIn K (.ref f27) = true)
    (a28 : PySem.W.nsIn K mainGlobals "_law_in_a_row" = some (some (.ref f28))) (l28 : K.lookup f28 = some ⟨oc28, od28, .func (PySem.W.fnOf "_law_in_a_row" "_law_in_a_row" (defArgs sLInARow) (defBody sLInARow) (defScope sLInARow) .none kV28 dc28 pm28 an28 cd28 ct28), sl28⟩) (c28 : PySem.W.codeIn K cd28 "_law_in_a_row" = true) (k28 : PySem.W.keepIn K (.ref f28) = true)
    (a29 : PySem.W.nsIn K mainGlobals "_law_waited" = some (some (.ref f29))) (l29 : K.lookup f29 = some ⟨oc29, od29, .func (PySem.W.fnOf "_law_waited" "_law_waited" (defArgs sLWaited) (defBody sLWaited) (defScope sLWaited) .none kV29 dc29 pm29 an29 cd29 ct29), sl29⟩) (c29 : PySem.W.codeIn K cd29 "_law_waited" = true) (k29 : PySem.W.keepIn K (.ref f29) = true)
    (a30 : PySem.W.nsIn K mainGlobals "_law_place_at" = some (some (.ref f30))) (l30 : K.lookup f30 = some ⟨oc30, od30, .func (PySem.W.fnOf "_law_place_at" "_law_place_at" (defArgs sLPlaceAt) (defBody sLPlaceAt) (defScope sLPlaceAt) .none kV30 dc30 pm30 an30 cd30 ct30), sl30⟩) (c30 : PySem.W.codeIn K cd30 "_law_place_at" = true) (k30 : PySem.W.keepIn K (.ref f30) = true)
    (a31 : PySem.W.nsIn K mainGlobals "_law_row_good" = some (some (.ref f31))) (l31 : K.lookup f31 = some ⟨oc31, od31, .func (PySem.W.fnOf "_law_row_good" "_law_row_good" (defArgs sLRowGood) (defBody sLRowGood) (defScope sLRowGood) .none kV31 dc31 pm31 an31 cd31 ct31), sl31⟩) (c31 : PySem.W.codeIn K cd31 "_law_row_good" = true) (k31 : PySem.W.keepIn K (.ref f31) = true)
    (a32 : PySem.W.nsIn K mainGlobals "_law_rows_of" = some (some (.ref f32))) (l32 : K.lookup f32 = some ⟨oc32, od32, .func (PySem.W.fnOf "_law_rows_of" "_law_rows_of" (defArgs sLRowsOf) (defBody sLRowsOf) (defScope sLRowsOf) .none kV32 dc32 pm32 an32 cd32 ct32), sl32⟩) (c32 : PySem.W.codeIn K cd32 "_law_rows_of" = true) (k32 : PySem.W.keepIn K (.ref f32) = true)
    (a33 : PySem.W.nsIn K mainGlobals "_law_strip" = some (some (.ref f33))) (l33 : K.lookup f33 = some ⟨oc33, od33, .func (PySem.W.fnOf "_law_strip" "_law_strip" (defArgs sLStrip) (defBody sLStrip) (defScope sLStrip) .none kV33 dc33 pm33 an33 cd33 ct33), sl33⟩) (c33 : PySem.W.codeIn K cd33 "_law_strip" = true) (k33 : PySem.W.keepIn K (.ref f33) = true)
    (a34 : PySem.W.nsIn K mainGlobals "law" = some (some (.ref fl))) (l34 : K.lookup fl = some ⟨oc34, od34, .func (PySem.W.fnOf "law" "law" (defArgs sLaw) (defBody sLaw) (defScope sLaw) .none kV34 dc34 pm34 an34 cd34 ct34), sl34⟩) (c34 : PySem.W.codeIn K cd34 "law" = true) (k34 : PySem.W.keepIn K (.ref fl) = true)
    (z1 : PySem.W.nsIn K mainGlobals "len" = some none)
    (z2 : PySem.W.nsIn K mainGlobals "all" = some none)
    (z3 : PySem.W.nsIn K mainGlobals "list" = some none)
    (z4 : PySem.W.nsIn K mainGlobals "range" = some none)
    (z5 : PySem.W.nsIn K mainGlobals "zip" = some none)
    (z6 : PySem.W.nsIn K mainGlobals "isinstance" = some none)
    (z7 : PySem.W.nsIn K mainGlobals "tuple" = some none)
    (z8 : PySem.W.nsIn K mainGlobals "bool" = some none)
    (z9 : PySem.W.nsIn K mainGlobals "int" = some none)
    (z10 : PySem.W.nsIn K mainGlobals "str" = some none)
    (z11 : PySem.W.nsIn K mainGlobals "max" = some none)
    (z12 : PySem.W.nsIn K mainGlobals "sorted" = some none)
    (z13 : PySem.W.nsIn K mainGlobals "enumerate" = some none)
    (z14 : PySem.W.nsIn K mainGlobals "any" = some none)
    (y1 : PySem.W.nsIn K mainGlobals "_MOST_LETTERS" = some (some (.int 6 t1)))
    (y2 : PySem.W.nsIn K mainGlobals "MOST_ARROWS" = some (some (.int 9 t2)))
    (y3 : PySem.W.nsIn K mainGlobals "MOST_COUNT" = some (some (.int 3 t3)))
    (y4 : PySem.W.nsIn K mainGlobals "_LAST_PLACE" = some (some (.int 2 t4)))
    (y5 : PySem.W.nsIn K mainGlobals "MOST_WRITERS" = some (some (.int 3 t5)))
    (aC : PySem.W.nsIn K mainGlobals "Company" = some (some (.ref C)))
    (aA : PySem.W.findIn K (.ref C) "__init__" = some (some (.ref fA))) (iA : PySem.W.isFn K (.ref fA) = true) (lA : K.lookup fA = some ⟨ocA, odA, .func (PySem.W.fnOf "__init__" "Company.__init__" (defArgs sCompanyInit) (defBody sCompanyInit) (defScope sCompanyInit) (.ref T0) kVA dcA pmA anA cdA ctA), slA⟩) (cA : PySem.W.codeIn K cdA "Company.__init__" = true) (kA : PySem.W.keepIn K (.ref fA) = true)
    (aB : PySem.W.findIn K (.ref C) "begin" = some (some (.ref fB))) (iB : PySem.W.isFn K (.ref fB) = true) (lB : K.lookup fB = some ⟨ocB, odB, .func (PySem.W.fnOf "begin" "Company.begin" (defArgs sCompanyBegin) (defBody sCompanyBegin) (defScope sCompanyBegin) .none kVB dcB pmB anB cdB ctB), slB⟩) (cB : PySem.W.codeIn K cdB "Company.begin" = true) (kB : PySem.W.keepIn K (.ref fB) = true)
    (aD : PySem.W.findIn K (.ref C) "steps" = some (some (.ref fD))) (iD : PySem.W.isFn K (.ref fD) = true) (lD : K.lookup fD = some ⟨ocD, odD, .func (PySem.W.fnOf "steps" "Company.steps" (defArgs sCompanySteps) (defBody sCompanySteps) (defScope sCompanySteps) .none kVD dcD pmD anD cdD ctD), slD⟩) (cD : PySem.W.codeIn K cdD "Company.steps" = true) (kD : PySem.W.keepIn K (.ref fD) = true)
    (aV : PySem.W.findIn K (.ref C) "leaves" = some (some (.ref fV))) (iV : PySem.W.isFn K (.ref fV) = true) (lV : K.lookup fV = some ⟨ocV, odV, .func (PySem.W.fnOf "leaves" "Company.leaves" (defArgs sCompanyLeaves) (defBody sCompanyLeaves) (defScope sCompanyLeaves) .none kVV dcV pmV anV cdV ctV), slV⟩) (cV : PySem.W.codeIn K cdV "Company.leaves" = true) (kV : PySem.W.keepIn K (.ref fV) = true)
    (lT : K.lookup T0 = some ⟨cT, oT, .seq #[.ref e0] nT, sT⟩) (lE0 : K.lookup e0 = some ⟨.type "tuple", oE, .seq #[] nE, sE⟩) (aN : PySem.W.nsIn K mainGlobals "_NO_RUN" = some (some (.ref r0))) (lN : K.lookup r0 = some ⟨.type "tuple", oN, .seq #[.int (-1) u1, .int 0 u2] nN, sN⟩)
    (pg1c : PySem.W.plainGet K C Str.empty = true) (hd1c : PySem.W.hasDictIn K C = true) (po1c : PySem.W.plainOver K C = true) (sa1c : PySem.W.findIn K (.ref C) "__setattr__" = some (some (.builtin "object.__setattr__"))) (mk1c : PySem.W.makesIn K C = true) (kp1c : PySem.W.keepIn K (.ref C) = true) (n1c1 : PySem.W.findIn K (.ref C) "_writers" = some none) (n1c2 : PySem.W.findIn K (.ref C) "_found" = some none) :
    ∃ fd : FuncData, (∀ (s : Shared) (v : Value), BindsTo s fd ⟨[v], []⟩ [("_law_script", v)]) ∧ ∀ base : Heap, K.In base → base.Ns mainGlobals mg → FnOk l.prog w K mg base CX0 8 fa fd ["_law_script"] (spLaw K) := by
  have e := hfa.symm.trans (PySem.W.mg_of X G a34)
  cases e
  have F1 := fun_mk (st := sIsName) l1 c1 k1
  have F2 := fun_mk (st := sIsSign) l2 c2 k2
  have F3 := fun_mk (st := sIsWriter) l3 c3 k3
  have F4 := fun_mk (st := sIsCount) l4 c4 k4
  have F5 := fun_mk (st := sIsPlace) l5 c5 k5
  have F6 := fun_mk (st := sAreArrows) l6 c6 k6
  have F7 := fun_mk (st := sMinds) l7 c7 k7
  have F8 := fun_mk (st := sMayWrite) l8 c8 k8
  have F9 := fun_mk (st := sBehind) l9 c9 k9
  have F10 := fun_mk (st := sStepsOf) l10 c10 k10
  have F11 := fun_mk (st := sLBag) l11 c11 k11
  have F12 := fun_mk (st := sLPull) l12 c12 k12
  have F13 := fun_mk (st := sLOf) l13 c13 k13
  have F14 := fun_mk (st := sLLetters) l14 c14 k14
  have F15 := fun_mk (st := sLLike) l15 c15 k15
  have F16 := fun_mk (st := sLNames) l16 c16 k16
  have F17 := fun_mk (st := sLSigns) l17 c17 k17
  have F18 := fun_mk (st := sLWriter) l18 c18 k18
  have F19 := fun_mk (st := sNeedCompany) l19 c19 k19
  have F20 := fun_mk (st := sLArrows) l20 c20 k20
  have F21 := fun_mk (st := sLBegin) l21 c21 k21
  have F22 := fun_mk (st := sLWaitsCount) l22 c22 k22
  have F23 := fun_mk (st := sLCan) l23 c23 k23
  have F24 := fun_mk (st := sLAfter) l24 c24 k24
  have F25 := fun_mk (st := sLSteps) l25 c25 k25
  have F26 := fun_mk (st := sLCompany) l26 c26 k26
  have F27 := fun_mk (st := sLotBehind) l27 c27 k27
  have F28 := fun_mk (st := sLInARow) l28 c28 k28
  have F29 := fun_mk (st := sLWaited) l29 c29 k29
  have F30 := fun_mk (st := sLPlaceAt) l30 c30 k30
  have F31 := fun_mk (st := sLRowGood) l31 c31 k31
  have F32 := fun_mk (st := sLRowsOf) l32 c32 k32
  have F33 := fun_mk (st := sLStrip) l33 c33 k33
  have F34 := fun_mk (st := sLaw) l34 c34 k34
  have b1 := F1.binds (ps := ["text"]) fun _ _ _ _ _ _ us hl => match us, hl with | [_], _ => rfl
  have b2 := F2.binds (ps := ["text"]) fun _ _ _ _ _ _ us hl => match us, hl with | [_], _ => rfl
  have b3 := F3.binds (ps := ["thing"]) fun _ _ _ _ _ _ us hl => match us, hl with | [_], _ => rfl
  have b4 := F4.binds (ps := ["number"]) fun _ _ _ _ _ _ us hl => match us, hl with | [_], _ => rfl
  have b5 := F5.binds (ps := ["number"]) fun _ _ _ _ _ _ us hl => match us, hl with | [_], _ => rfl
  have b6 := F6.binds (ps := ["arrows"]) fun _ _ _ _ _ _ us hl => match us, hl with | [_], _ => rfl
  have b7 := F7.binds (ps := ["writers", "stand", "at"]) fun _ _ _ _ _ _ us hl => match us, hl with | [_, _, _], _ => rfl
  have b8 := F8.binds (ps := ["writers", "stand", "at"]) fun _ _ _ _ _ _ us hl => match us, hl with | [_, _, _], _ => rfl
  have b9 := F9.binds (ps := ["writers", "stand", "at", "to"]) fun _ _ _ _ _ _ us hl => match us, hl with | [_, _, _, _], _ => rfl
  have b10 := F10.binds (ps := ["writers", "stand"]) fun _ _ _ _ _ _ us hl => match us, hl with | [_, _], _ => rfl
  have b11 := F11.binds (ps := ["_law_script"]) fun _ _ _ _ _ _ us hl => match us, hl with | [_], _ => rfl
  have b12 := F12.binds (ps := ["_law_bag_here", "_law_many"]) fun _ _ _ _ _ _ us hl => match us, hl with | [_, _], _ => rfl
  have b13 := F13.binds (ps := ["_law_bag_here", "_law_things"]) fun _ _ _ _ _ _ us hl => match us, hl with | [_, _], _ => rfl
  have b14 := F14.binds (ps := []) fun _ _ _ _ _ _ us hl => match us, hl with | [], _ => rfl
  have b15 := F15.binds (ps := ["_law_found", "_law_due"]) fun _ _ _ _ _ _ us hl => match us, hl with | [_, _], _ => rfl
  have b16 := F16.binds (ps := ["_law_bag_here", "_law_many"]) fun _ _ _ _ _ _ us hl => match us, hl with | [_, _], _ => rfl
  have b17 := F17.binds (ps := ["_law_bag_here", "_law_limit"]) fun _ _ _ _ _ _ us hl => match us, hl with | [_, _], _ => rfl
  have b18 := F18.binds (ps := ["_law_bag_here", "_law_name", "_law_places", "_law_signs_here", "_law_thick"]) fun _ _ _ _ _ _ us hl => match us, hl with | [_, _, _, _, _], _ => rfl
  have b19 := F19.binds (ps := ["writers"]) fun _ _ _ _ _ _ us hl => match us, hl with | [_], _ => rfl
  have b20 := F20.binds (ps := ["_law_writer_here", "_law_place"]) fun _ _ _ _ _ _ us hl => match us, hl with | [_, _], _ => rfl
  have b21 := F21.binds (ps := ["_law_m"]) fun _ _ _ _ _ _ us hl => match us, hl with | [_], _ => rfl
  have b22 := F22.binds (ps := ["_law_m", "_law_places", "_law_at"]) fun _ _ _ _ _ _ us hl => match us, hl with | [_, _, _], _ => rfl
  have b23 := F23.binds (ps := ["_law_m", "_law_stand", "_law_spot"]) fun _ _ _ _ _ _ us hl => match us, hl with | [_, _, _], _ => rfl
  have b24 := F24.binds (ps := ["_law_m", "_law_stand", "_law_spot", "_law_to"]) fun _ _ _ _ _ _ us hl => match us, hl with | [_, _, _, _], _ => rfl
  have b25 := F25.binds (ps := ["_law_m", "_law_stand"]) fun _ _ _ _ _ _ us hl => match us, hl with | [_, _], _ => rfl
  have b26 := F26.binds (ps := ["_law_bag_here", "_law_limit", "_law_signs_here"]) fun _ _ _ _ _ _ us hl => match us, hl with | [_, _, _], _ => rfl
  have b27 := F27.binds (ps := ["company", "lot", "sign"]) fun _ _ _ _ _ _ us hl => match us, hl with | [_, _, _], _ => rfl
  have b28 := F28.binds (ps := ["_law_names_here", "_law_name"]) fun _ _ _ _ _ _ us hl => match us, hl with | [_, _], _ => rfl
  have b29 := F29.binds (ps := ["_law_names_here", "_law_name"]) fun _ _ _ _ _ _ us hl => match us, hl with | [_, _], _ => rfl
  have b30 := F30.binds (ps := ["_law_writer_here", "_law_signs_here", "_law_names_here"]) fun _ _ _ _ _ _ us hl => match us, hl with | [_, _, _], _ => rfl
  have b31 := F31.binds (ps := ["_law_m", "_law_signs_here", "_law_names_here"]) fun _ _ _ _ _ _ us hl => match us, hl with | [_, _, _], _ => rfl
  have b32 := F32.binds (ps := ["_law_m", "_law_signs_here"]) fun _ _ _ _ _ _ us hl => match us, hl with | [_, _], _ => rfl
  have b33 := F33.binds (ps := ["_law_bag_here", "_law_m", "_law_letters_here"]) fun _ _ _ _ _ _ us hl => match us, hl with | [_, _, _], _ => rfl
  have T : Txt mg := ⟨PySem.W.mg_none_of X G z1, PySem.W.mg_none_of X G z2, PySem.W.mg_none_of X G z3, PySem.W.mg_none_of X G z4, PySem.W.mg_none_of X G z5, PySem.W.mg_none_of X G z6, PySem.W.mg_none_of X G z7, PySem.W.mg_none_of X G z8, PySem.W.mg_none_of X G z9, PySem.W.mg_none_of X G z10, PySem.W.mg_none_of X G z11, PySem.W.mg_none_of X G z12, PySem.W.mg_none_of X G z13, PySem.W.mg_none_of X G z14, ⟨_, PySem.W.mg_of X G y1⟩, ⟨_, PySem.W.mg_of X G y2⟩, ⟨_, PySem.W.mg_of X G y3⟩, ⟨_, PySem.W.mg_of X G y4⟩, ⟨_, PySem.W.mg_of X G y5⟩⟩
  refine ⟨PySem.W.fnOf "law" "law" (defArgs sLaw) (defBody sLaw) (defScope sLaw) .none kV34 dc34 pm34 an34 cd34 ct34, fun s v => .of_eq rfl, fun base _ _ => ?_⟩
  have Z : CoC K C := ⟨⟨pg1c, hd1c, po1c, sa1c⟩, n1c1, n1c2⟩
  have G__NO_RUN : GlobT K mg "_NO_RUN" (.tuple [.int (-1), .int 0]) := ⟨r0, PySem.W.mg_of X G aN, fun H => .tup (show SqT K H r0 [.int (-1), .int 0] from .inr ⟨_, _, _, lN, rfl, rfl, (by show 2 ≤ sizeLine; decide), .cons ⟨u1, rfl⟩ (.cons ⟨u2, rfl⟩ .nil)⟩) (.cons (.int _) (.cons (.int _) .nil))⟩
  have MI : Mk K C fA := ⟨mk1c, aA, iA, kp1c⟩
  have FI : FunD K "__init__" "Company.__init__" (defArgs sCompanyInit) (defBody sCompanyInit) (defScope sCompanyInit) [.ref e0] [] fA _ := ⟨⟨_, _, _, _, _, _, _, _, _, _, rfl, lA, cA, .inr ⟨by simp, T0, _, [.ref e0], _, rfl, lT, rfl, .cons rfl .nil⟩, .inl rfl⟩, kA⟩
  have bI2 := FI.binds1 (ps := ["self", "writers"]) 2 1 (by simp) rfl fun _ _ _ _ _ _ _ us its h1 h2 => match us, its, h1, h2 with | [_, _], [_], _, _ => ⟨_, rfl, rfl⟩
  have FNB := fun_mk (st := sCompanyBegin) lB cB kB
  have bNB := FNB.binds (ps := ["self"]) fun _ _ _ _ _ _ us hl => match us, hl with | [_], _ => rfl
  have FND := fun_mk (st := sCompanySteps) lD cD kD
  have bND := FND.binds (ps := ["self", "stand"]) fun _ _ _ _ _ _ us hl => match us, hl with | [_, _], _ => rfl
  have FNV := fun_mk (st := sCompanyLeaves) lV cV kV
  have bNV := FNV.binds (ps := ["self", "strip"]) fun _ _ _ _ _ _ us hl => match us, hl with | [_, _], _ => rfl
  have C_law_pull : Cal l.prog w K mg base 1 "_law_pull" _ _ := ⟨_, _, ok_pull F12 T, PySem.W.mg_of X G a12, F12.kp, b12⟩
  have C_law_bag : Cal l.prog w K mg base 1 "_law_bag" _ _ := ⟨_, _, ok_bag F11 T, PySem.W.mg_of X G a11, F11.kp, b11⟩
  have C_law_letters : Cal l.prog w K mg base 1 "_law_letters" _ _ := ⟨_, _, ok_letters F14, PySem.W.mg_of X G a14, F14.kp, b14⟩
  have C_is_sign : Cal l.prog w K mg base 1 "is_sign" _ _ := ⟨_, _, ok_is_sign F2 T, PySem.W.mg_of X G a2, F2.kp, b2⟩
  have C_is_count : Cal l.prog w K mg base 1 "_is_count" _ _ := ⟨_, _, ok_count F4 T, PySem.W.mg_of X G a4, F4.kp, b4⟩
  have C_is_place : Cal l.prog w K mg base 1 "_is_place" _ _ := ⟨_, _, ok_place F5 T, PySem.W.mg_of X G a5, F5.kp, b5⟩
  have C_minds : Cal l.prog w K mg base 1 "_minds" _ _ := ⟨_, _, ok_minds F7, PySem.W.mg_of X G a7, F7.kp, b7⟩
  have C_law_arrows : Cal l.prog w K mg base 1 "_law_arrows" _ _ := ⟨_, _, ok_arrs F20, PySem.W.mg_of X G a20, F20.kp, b20⟩
  have C_law_begin : Cal l.prog w K mg base 1 "_law_begin" _ _ := ⟨_, _, ok_lbegin F21 T, PySem.W.mg_of X G a21, F21.kp, b21⟩
  have C_law_of : Cal l.prog w K mg base 2 "_law_of" _ _ := ⟨_, _, ok_of F13 T C_law_pull, PySem.W.mg_of X G a13, F13.kp, b13⟩
  have C_is_name : Cal l.prog w K mg base 2 "is_name" _ _ := ⟨_, _, ok_is_name F1 T C_is_sign, PySem.W.mg_of X G a1, F1.kp, b1⟩
  have C_are_arrows : Cal l.prog w K mg base 2 "_are_arrows" _ _ := ⟨_, _, ok_areD F6 T C_is_place C_is_sign, PySem.W.mg_of X G a6, F6.kp, b6⟩
  have C_may_write : Cal l.prog w K mg base 2 "_may_write" _ _ := ⟨_, _, ok_may F8 T C_minds, PySem.W.mg_of X G a8, F8.kp, b8⟩
  have C_behind : Cal l.prog w K mg base 2 "_behind" _ _ := ⟨_, _, ok_behind F9 T G__NO_RUN C_minds, PySem.W.mg_of X G a9, F9.kp, b9⟩
  have C_law_waits_count : Cal l.prog w K mg base 2 "_law_waits_count" _ _ := ⟨_, _, ok_counts F22 C_law_arrows, PySem.W.mg_of X G a22, F22.kp, b22⟩
  have C_law_like := cal_like (P := l.prog) (w := w) (base := base) F15 T (PySem.W.mg_of X G a15) b15 5
  have C_is_writer : Cal l.prog w K mg base 3 "is_writer" _ _ := ⟨_, _, ok_is_writerD F3 T C_is_name C_are_arrows (C_is_count.mono (by decide)), PySem.W.mg_of X G a3, F3.kp, b3⟩
  have C_steps_of : Cal l.prog w K mg base 3 "_steps_of" _ _ := ⟨_, _, ok_steps_of F10 T C_may_write C_behind, PySem.W.mg_of X G a10, F10.kp, b10⟩
  have C_law_names : Cal l.prog w K mg base 3 "_law_names" _ _ := ⟨_, _, ok_names F16 T (C_law_pull.mono (by decide)) C_law_of (C_law_letters.mono (by decide)), PySem.W.mg_of X G a16, F16.kp, b16⟩
  have C_law_signs : Cal l.prog w K mg base 3 "_law_signs" _ _ := ⟨_, _, ok_signs F17 T (C_law_pull.mono (by decide)) C_law_of (C_law_letters.mono (by decide)), PySem.W.mg_of X G a17, F17.kp, b17⟩
  have C_law_writer : Cal l.prog w K mg base 3 "_law_writer" _ _ := ⟨_, _, ok_writer F18 T (C_law_pull.mono (by decide)) C_law_of, PySem.W.mg_of X G a18, F18.kp, b18⟩
  have C_law_can : Cal l.prog w K mg base 3 "_law_can" _ _ := ⟨_, _, ok_can F23 T C_law_waits_count, PySem.W.mg_of X G a23, F23.kp, b23⟩
  have C_law_after : Cal l.prog w K mg base 3 "_law_after" _ _ := ⟨_, _, ok_after F24 T C_law_waits_count, PySem.W.mg_of X G a24, F24.kp, b24⟩
  have C_need_L : Cal l.prog w K mg base 4 "_need_company" _ _ := ⟨_, _, ok_needL F19 T C_is_writer, PySem.W.mg_of X G a19, F19.kp, b19⟩
  have C_need_T : Cal l.prog w K mg base 4 "_need_company" _ _ := ⟨_, _, ok_needT F19 T C_is_writer, PySem.W.mg_of X G a19, F19.kp, b19⟩
  have C_law_company : Cal l.prog w K mg base 4 "_law_company" _ _ := ⟨_, _, ok_company F26 T (C_law_pull.mono (by decide)) (C_law_of.mono (by decide)) C_law_names C_law_writer, PySem.W.mg_of X G a26, F26.kp, b26⟩
  have C_law_steps : Cal l.prog w K mg base 4 "_law_steps" _ _ := ⟨_, _, ok_lsteps F25 T C_law_can (C_law_arrows.mono (by decide)) C_law_after, PySem.W.mg_of X G a25, F25.kp, b25⟩
  have C_law_in_a_row : Cal l.prog w K mg base 1 "_law_in_a_row" _ _ := ⟨_, _, ok_inrow (k := 0) F28 T, PySem.W.mg_of X G a28, F28.kp, b28⟩
  have C_law_waited : Cal l.prog w K mg base 1 "_law_waited" _ _ := ⟨_, _, ok_waited (k := 0) F29 T, PySem.W.mg_of X G a29, F29.kp, b29⟩
  have C_law_place_at : Cal l.prog w K mg base 2 "_law_place_at" _ _ := ⟨_, _, ok_place8 F30 T C_law_arrows, PySem.W.mg_of X G a30, F30.kp, b30⟩
  have C_law_row_good : Cal l.prog w K mg base 3 "_law_row_good" _ _ := ⟨_, _, ok_good8 F31 T C_law_place_at (C_law_in_a_row.mono (by decide)) (C_law_waited.mono (by decide)) (C_law_arrows.mono (by decide)), PySem.W.mg_of X G a31, F31.kp, b31⟩
  have C_law_rows_of : Cal l.prog w K mg base 4 "_law_rows_of" _ _ := ⟨_, _, ok_rows8 F32 T C_law_row_good, PySem.W.mg_of X G a32, F32.kp, b32⟩
  have C_law_strip : Cal l.prog w K mg base 5 "_law_strip" _ _ := ⟨_, _, ok_strip8 F33 T (C_law_pull.mono (by decide)) (C_law_of.mono (by decide)) (C_law_begin.mono (by decide)) C_law_steps, PySem.W.mg_of X G a33, F33.kp, b33⟩
  have K_Company : MakC l.prog w K mg base 6 "Company" C ["self", "writers"] [] (spInitD l.prog w K C .list) := by
    obtain ⟨ds, hv, b⟩ := bI2
    exact ⟨fA, _, ds, (ok_initD FI T Z (.inl rfl) C_need_L).mono (by decide), MI, PySem.W.mg_of X G aC, b, hv⟩
  have MSt : MetC l.prog w K mg base 4 C "steps" ["self", "stand"] (spStepsD l.prog w K C) := ⟨fD, _, ok_stepsD FND T Z C_steps_of, ⟨aD, iD, kD⟩, Z.cl, bND⟩
  have MBe : MetC l.prog w K mg base 5 C "begin" ["self"] (spBegin l.prog w K C) := ⟨fB, _, (ok_begin (k := 0) FNB T Z G__NO_RUN).mono (by decide), ⟨aB, iB, kB⟩, Z.cl, bNB⟩
  have C_lot_behind : Cal l.prog w K mg base 5 "lot_behind" _ _ := ⟨_, _, ok_lotb F27 T MSt, PySem.W.mg_of X G a27, F27.kp, b27⟩
  have MLv : MetC l.prog w K mg base 7 C "leaves" ["self", "strip"] (spLeaves l.prog w K C) := ⟨fV, _, (ok_leaves (k := 5) FNV T MBe C_lot_behind).mono (by decide), ⟨aV, iV, kV⟩, Z.cl, bNV⟩
  exact ok_law08 (k := 6) F34 T (C_law_bag.mono (by decide)) (C_law_signs.mono (by decide)) (C_law_company.mono (by decide)) (C_law_strip.mono (by decide)) (C_law_rows_of.mono (by decide)) K_Company MLv (C_law_like.mono (by decide))
end Ink
open PySem PySem.W PyProof.Rows
set_option maxHeartbeats 0 in
theorem PySem.Challenge.cw_whoseink_k08_whole_patience_and_caps_holds : PySem.Challenge.rw_whoseink_k08_whole_patience_and_caps.Holds := by
  w_on; o_law; k_head; (case hw => w_witness2)
  k_fill
  refine L2.walk_of (l := PySem.Challenge.rw_whoseink_k08_whole_patience_and_caps) (n := 63) (k := 8) (x := "_law_script") (CX := fun _ => L2.CX0) (sp := fun w => Ink.spLaw _) rfl (by decide) rfl ⟨rfl, by decide, by decide⟩ (fun w h Y => PySem.W.kIn_of Y) ?F (fun _ _ a ns hl _ hS => ⟨a, ns, rfl, hS, hl, fun _ => rfl⟩) (fun _ _ _ _ _ h => h)
  case F =>
    intro w mg fa h KX G hmg
    refine' Ink.all_mk KX G hmg ?a1 ?l1 ?c1 ?k1 ?a2 ?l2 ?c2 ?k2 ?a3 ?l3 ?c3 ?k3 ?a4 ?l4 ?c4 ?k4 ?a5 ?l5 ?c5 ?k5 ?a6 ?l6 ?c6 ?k6 ?a7 ?l7 ?c7 ?k7 ?a8 ?l8 ?c8 ?k8 ?a9 ?l9 ?c9 ?k9 ?a10 ?l10 ?c10 ?k10 ?a11 ?l11 ?c11 ?k11 ?a12 ?l12 ?c12 ?k12 ?a13 ?l13 ?c13 ?k13 ?a14 ?l14 ?c14 ?k14 ?a15 ?l15 ?c15 ?k15 ?a16 ?l16 ?c16 ?k16 ?a17 ?l17 ?c17 ?k17 ?a18 ?l18 ?c18 ?k18 ?a19 ?l19 ?c19 ?k19 ?a20 ?l20 ?c20 ?k20 ?a21 ?l21 ?c21 ?k21 ?a22 ?l22 ?c22 ?k22 ?a23 ?l23 ?c23 ?k23 ?a24 ?l24 ?c24 ?k24 ?a25 ?l25 ?c25 ?k25 ?a26 ?l26 ?c26 ?k26 ?a27 ?l27 ?c27 ?k27 ?a28 ?l28 ?c28 ?k28 ?a29 ?l29 ?c29 ?k29 ?a30 ?l30 ?c30 ?k30 ?a31 ?l31 ?c31 ?k31 ?a32 ?l32 ?c32 ?k32 ?a33 ?l33 ?c33 ?k33 ?a34 ?l34 ?c34 ?k34 ?z1 ?z2 ?z3 ?z4 ?z5 ?z6 ?z7 ?z8 ?z9 ?z10 ?z11 ?z12 ?z13 ?z14 ?y1 ?y2 ?y3 ?y4 ?y5 ?aC ?aA ?iA ?lA ?cA ?kA ?aB ?iB ?lB ?cB ?kB ?aD ?iD ?lD ?cD ?kD ?aV ?iV ?lV ?cV ?kV ?lT ?lE0 ?aN ?lN ?pg1c ?hd1c ?po1c ?sa1c ?mk1c ?kp1c ?n1c1 ?n1c2
    (case a1 => k_is); (case l1 => k_is); (case c1 => k_is); (case k1 => k_is); (case a2 => k_is); (case l2 => k_is)
    (case c2 => k_is); (case k2 => k_is); (case a3 => k_is); (case l3 => k_is); (case c3 => k_is); (case k3 => k_is)
    (case a4 => k_is); (case l4 => k_is); (case c4 => k_is); (case k4 => k_is); (case a5 => k_is); (case l5 => k_is)
    (case c5 => k_is); (case k5 => k_is); (case a6 => k_is); (case l6 => k_is); (case c6 => k_is); (case k6 => k_is)
    (case a7 => k_is); (case l7 => k_is); (case c7 => k_is); (case k7 => k_is); (case a8 => k_is); (case l8 => k_is)
    (case c8 => k_is); (case k8 => k_is); (case a9 => k_is); (case l9 => k_is); (case c9 => k_is); (case k9 => k_is)
    (case a10 => k_is); (case l10 => k_is); (case c10 => k_is); (case k10 => k_is); (case a11 => k_is); (case l11 => k_is)
    (case c11 => k_is); (case k11 => k_is); (case a12 => k_is); (case l12 => k_is); (case c12 => k_is); (case k12 => k_is)
    (case a13 => k_is); (case l13 => k_is); (case c13 => k_is); (case k13 => k_is); (case a14 => k_is); (case l14 => k_is)
    (case c14 => k_is); (case k14 => k_is); (case a15 => k_is); (case l15 => k_is); (case c15 => k_is); (case k15 => k_is)
    (case a16 => k_is); (case l16 => k_is); (case c16 => k_is); (case k16 => k_is); (case a17 => k_is); (case l17 => k_is)
    (case c17 => k_is); (case k17 => k_is); (case a18 => k_is); (case l18 => k_is); (case c18 => k_is); (case k18 => k_is)
    (case a19 => k_is); (case l19 => k_is); (case c19 => k_is); (case k19 => k_is); (case a20 => k_is); (case l20 => k_is)
    (case c20 => k_is); (case k20 => k_is); (case a21 => k_is); (case l21 => k_is); (case c21 => k_is); (case k21 => k_is)
    (case a22 => k_is); (case l22 => k_is); (case c22 => k_is); (case k22 => k_is); (case a23 => k_is); (case l23 => k_is)
    (case c23 => k_is); (case k23 => k_is); (case a24 => k_is); (case l24 => k_is); (case c24 => k_is); (case k24 => k_is)
    (case a25 => k_is); (case l25 => k_is); (case c25 => k_is); (case k25 => k_is); (case a26 => k_is); (case l26 => k_is)
    (case c26 => k_is); (case k26 => k_is); (case a27 => k_is); (case l27 => k_is); (case c27 => k_is); (case k27 => k_is)
    (case a28 => k_is); (case l28 => k_is); (case c28 => k_is); (case k28 => k_is); (case a29 => k_is); (case l29 => k_is)
    (case c29 => k_is); (case k29 => k_is); (case a30 => k_is); (case l30 => k_is); (case c30 => k_is); (case k30 => k_is)
    (case a31 => k_is); (case l31 => k_is); (case c31 => k_is); (case k31 => k_is); (case a32 => k_is); (case l32 => k_is)
    (case c32 => k_is); (case k32 => k_is); (case a33 => k_is); (case l33 => k_is); (case c33 => k_is); (case k33 => k_is)
    (case a34 => k_is); (case l34 => k_is); (case c34 => k_is); (case k34 => k_is); (case z1 => k_is); (case z2 => k_is)
    (case z3 => k_is); (case z4 => k_is); (case z5 => k_is); (case z6 => k_is); (case z7 => k_is); (case z8 => k_is)
    (case z9 => k_is); (case z10 => k_is); (case z11 => k_is); (case z12 => k_is); (case z13 => k_is); (case z14 => k_is)
    (case y1 => k_is); (case y2 => k_is); (case y3 => k_is); (case y4 => k_is); (case y5 => k_is); (case aC => k_is)
    (case aA => k_is); (case iA => k_is); (case lA => k_is); (case cA => k_is); (case kA => k_is); (case aB => k_is)
    (case iB => k_is); (case lB => k_is); (case cB => k_is); (case kB => k_is); (case aD => k_is); (case iD => k_is)
    (case lD => k_is); (case cD => k_is); (case kD => k_is); (case aV => k_is); (case iV => k_is); (case lV => k_is)
    (case cV => k_is); (case kV => k_is); (case lT => k_is); (case lE0 => k_is); (case aN => k_is); (case lN => k_is)
    (case pg1c => k_is); (case hd1c => k_is); (case po1c => k_is); (case sa1c => k_is); (case mk1c => k_is); (case kp1c => k_is)
    (case n1c1 => k_is); (case n1c2 => k_is)
