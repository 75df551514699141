import PyProof.Rows.All
import HandS.ForMost
import HandS.Walk
import HandS.IsInst
import HandS.Zip
import HandS.EndBits
import HandS.Evl
import HandS.TupAny
import HandS.Style
import HandS.TupLe
import KE.DataCmp
import KE.SortData
import KE.KDictKeyed
import KE.KDictDisplayH
import HandS.TupMul
import KE.GoesEnum
import HandS.Star
import HandS.Defaults
import HandS.Deep
import HandS.More
import HandS.FStr
import HandS.Flow
import HandS.ForExc
import HandS.MakeKwOnly
import HandS.ExcIs
import HandS.ExcCtx
import HandS.Hot
import HandS.HotCalls
import HandS.Lambda
import HandS.ExcField
import HandS.ExcInit
import KE.KExcMore
import KE.KTypeName
import HandS.TupLen
import KE.KDictSum
import KE.KDictCopyH
import KE.SortCalls
import HandS.DictComp
import KE.GoesZip
import KE.GoesMore
import KE.KStateDown
import KE.KNestM
import HandS.Head0
import HandS.Head1
import HandS.Head2
import KE.KStateDown
import KE.KNestM
import HandS.Head0
import HandS.Head1
import HandS.Head2
import PySem.Challenge.RW_whoseink_k32_doubts_judged
set_option Elab.async false
set_option linter.all false
set_option maxRecDepth 100000
set_option maxHeartbeats 4000000
namespace Ink
open PySem PySem.Spec PyProof.Rows L2
/-! ### a def that is called, by its module name -/
def Cal (P : Program) (w : World) (K : PySem.W.Frag) (mg : Str → Option Value) (base : Heap) (k : Nat) (x : Str) (ps : List Str) (sp : Sp) : Prop :=
  ∃ f fd, FnOk P w K mg base CX0 k f fd ps sp ∧ mg x = some (.ref f) ∧ PySem.W.keepIn K (.ref f) = true ∧ Binds K fd ps []
theorem Cal.mono {P : Program} {w : World} {K : PySem.W.Frag} {mg : Str → Option Value} {base : Heap} {j k : Nat} {x : Str} {ps : List Str} {sp : Sp} (c : Cal P w K mg base j x ps sp) (h : j ≤ k) : Cal P w K mg base k x ps sp := by
  obtain ⟨f, fd, G, g, kp, b⟩ := c
  exact ⟨f, fd, G.mono h, g, kp, b⟩
section
variable {X : Cx} {k : Nat} {x : Str} {ps : List Str} {sp : Sp} {p pos : Pos} {e : Expr} {es : List Expr} {t : TA}
theorem pe_callC (c : Cal X.prog X.w X.K X.mg X.base k x ps sp) (hr : Room k X.A) (hg : Gl X x)
    (ha : PA X (e :: es) t) (hdb : (x == ("__debug__" : Str)) = false := by decide) (he : starEach (e :: es) X.env = (false, eval e X.env) :: starEach es X.env := by rfl) (hpl : (backTo pos (starEach es X.env)).any (·.1) = false := by rfl)
    (hp : ∀ f fd, FnOk X.prog X.w X.K X.mg X.base CX0 k f fd ps sp → Passes CX0 X E0 := by exact fun _ _ _ => pass0) :
    PE X (.Call (.Name x p) (e :: es) [] pos) (tCall sp [] E0 t) := by
  obtain ⟨f, fd, G, g, kp, b⟩ := c
  exact pe_call G hr hg g kp b .nil pass0 ha hdb he hpl
theorem pe_callC0 (c : Cal X.prog X.w X.K X.mg X.base k x ps sp) (hr : Room k X.A) (hg : Gl X x) (hdb : (x == ("__debug__" : Str)) = false := by decide) :
    PE X (.Call (.Name x p) [] [] pos) (tCall sp [] E0 tNil) := by
  obtain ⟨f, fd, G, g, kp, b⟩ := c
  exact pe_call0 G hr hg g kp b .nil pass0 hdb
end
theorem pe_globI {X : Cx} {x : Str} {n : Int} {pos : Pos} (hg : Gl X x) (hm : ∃ t, X.mg x = some (.int n t)) (hd : (x == ("__debug__" : Str)) = false := by decide) : PE X (.Name x pos) (tC (.int n)) := by
  obtain ⟨t, e⟩ := hm
  exact pe_glob hg e ⟨t, rfl⟩ hd
/-! ### heaps -/
/-- all but what stands at a is as it was -/
def Keep (a : Addr) (H H' : Hp) : Prop := ∀ b o, b ≠ a → H b = some o → H' b = some o
theorem Keep.refl {a : Addr} (H : Hp) : Keep a H H := fun _ _ _ h => h
theorem Keep.trans {a : Addr} {H H1 H2 : Hp} (x : Keep a H H1) (y : Keep a H1 H2) : Keep a H H2 := fun b o n h => y b o n (x b o n h)
theorem Keep.of_same {a : Addr} {H H' : Hp} (h : Same H H') : Keep a H H' := fun b o _ e => h b o e
theorem Keep.at {a : Addr} {H : Hp} {o : HO} : Keep a H (upd H a o) := fun b _ n h => by
  rw [upd_ne n]
  exact h
theorem Keep.seq {K : PySem.W.Frag} {a b : Addr} {H H' : Hp} {xs : List V} (e : Keep a H H') (n : b ≠ a) (h : SqL K H b xs) : SqL K H' b xs := by
  rcases h with (h | ⟨o, h⟩) | h
  · exact .inl (.inl (e _ _ n h))
  · exact .inl (.inr ⟨o, e _ _ n h⟩)
  · exact .inr h
theorem same_new {H : Hp} {p : Addr} {o : HO} (h : H p = none) : Same H (upd H p o) := fun b x e => by
  rw [upd_ne (ne_of_none e h)]
  exact e
theorem same_tup {K : PySem.W.Frag} {H H' : Hp} {a : Addr} {xs : List V} (e : Same H H') (h : SqT K H a xs) : SqT K H' a xs := Evl.ex_t e h
theorem atI_of {α : Type} {xs : List α} {r : Int} {v : α} (h0 : 0 ≤ r) (h : xs[r.toNat]? = some v) : atI xs r = some v := by
  have e : ((r.toNat : Nat) : Int) = r := by omega
  rw [← e]
  exact atI_nat h
theorem walk_range0 {n : Nat} : Walk (Itr 0 n) n (fun _ => True) (YFn fun i => .int (i : Int)) :=
  walk_range.mono (fun _ h => h) fun i H x H' _ _ y => ⟨y.1, y.2.trans (by show V.int (0 + (i : Int)) = V.int (i : Int); rw [Int.zero_add])⟩
/-! ### the bag of the drawn numbers -/
def BagAt (H : Hp) (a l : Addr) : Prop := ∃ (ns : List Int) (p h s : Int), H a = some (.lst [.ref l, .int p, .int h, .int s]) ∧ H l = some (.lst (ns.map V.int)) ∧ 0 ≤ p ∧ 0 ≤ h ∧ 0 ≤ s ∧ s < 2147483563
theorem bag_ne {H : Hp} {a l : Addr} {ns : List Int} {x y z w : V} (h : H a = some (.lst [x, y, z, w])) (hx : ∀ i, x ≠ .int i) (h' : H l = some (.lst (ns.map V.int))) : l ≠ a := by
  intro e
  rw [e, h] at h'
  injection h' with h'
  injection h' with h'
  cases ns with
  | nil => cases h'
  | cons n r =>
    injection h' with h1 _
    exact hx n h1
theorem BagAt.same {H H' : Hp} {a l : Addr} (b : BagAt H a l) (e : Same H H') : BagAt H' a l := by
  obtain ⟨ns, p, h, s, h1, h2, r⟩ := b
  exact ⟨ns, p, h, s, e _ _ h1, e _ _ h2, r⟩
theorem BagAt.ne {H : Hp} {a l D : Addr} (b : BagAt H a l) (h : H D = none) : a ≠ D ∧ l ≠ D := by
  obtain ⟨ns, p, h', s, h1, h2, r⟩ := b
  exact ⟨ne_of_none h1 h, ne_of_none h2 h⟩
theorem BagAt.upd {H : Hp} {a l D : Addr} {o : HO} (b : BagAt H a l) (n : a ≠ D ∧ l ≠ D) : BagAt (upd H D o) a l := by
  obtain ⟨ns, p, h, s, h1, h2, r⟩ := b
  exact ⟨ns, p, h, s, by rw [upd_ne n.1]; exact h1, by rw [upd_ne n.2]; exact h2, r⟩
theorem Keep.mut {a D : Addr} {H H' : Hp} {o : HO} (k : Keep a H H') (h : H D = none) : Keep a H (L2.upd H' D o) := fun b u n e => by
  rw [upd_ne (ne_of_none e h)]
  exact k b u n e
theorem Keep.seqT {K : PySem.W.Frag} {a b : Addr} {H H' : Hp} {xs : List V} (e : Keep a H H') (n : b ≠ a) (h : SqT K H b xs) : SqT K H' b xs := by
  rcases h with (h | ⟨o, h⟩) | h
  · exact .inl (.inl (e _ _ n h))
  · exact .inl (.inr ⟨o, e _ _ n h⟩)
  · exact .inr h
/-- the bag's own list, written anew -/
theorem BagAt.set {H : Hp} {a l : Addr} {ns : List Int} {p h s p' h' s' : Int} (h1 : H a = some (.lst [.ref l, .int p, .int h, .int s])) (h2 : H l = some (.lst (ns.map V.int)))
    (r : 0 ≤ p' ∧ 0 ≤ h' ∧ 0 ≤ s' ∧ s' < 2147483563) : BagAt (L2.upd H a (.lst [.ref l, .int p', .int h', .int s'])) a l :=
  ⟨ns, p', h', s', upd_same, by rw [upd_ne (bag_ne h1 (fun _ => nofun) h2)]; exact h2, r⟩
def spPull : Sp := fun vs H Q _ => ∃ (a l : Addr) (m : Int), vs = [.ref a, .int m] ∧ BagAt H a l ∧ 0 < m ∧ m < 1073741824 ∧ ∀ r H', 0 ≤ r → r < m → BagAt H' a l → Keep a H H' → Q (.int r) H'
def spBag (K : PySem.W.Frag) : Sp := fun vs H Q _ => ∃ (c : Addr) (ns : List Int), vs = [.ref c] ∧ SqL K H c (ns.map V.int) ∧ ns.length ≤ 63 ∧ ∀ a l H', H a = none → BagAt H' a l → Same H H' → Q (.ref a) H'
/-- x is a list, a tuple or a text of these things, apart from the bag -/
def ItemsOf (K : PySem.W.Frag) (H : Hp) (a : Addr) (x : V) (xs : List V) : Prop := (∃ p, x = .ref p ∧ p ≠ a ∧ (SqL K H p xs ∨ SqT K H p xs)) ∨ ∃ z : Str, x = .str z ∧ xs = z.cps.toList.map fun c => .str ⟨#[c]⟩
def spOf (K : PySem.W.Frag) : Sp := fun vs H Q _ => ∃ (a l : Addr) (x : V) (xs : List V), vs = [.ref a, x] ∧ BagAt H a l ∧ ItemsOf K H a x xs ∧ 0 < xs.length ∧ xs.length ≤ 1000 ∧ ∀ v H', v ∈ xs → BagAt H' a l → Keep a H H' → Q v H'
section
variable {K : PySem.W.Frag} {σ : L2.St} {H : Hp} {Q : VK}
theorem rd_ix {i : Nat} {a : Addr} {xs : List V} {j : Nat} {v : V} (hs : σ[i]? = some (some (.ref a))) (h : SqL K H a xs) (hv : xs[j]? = some v) (q : Q v H) : tOp (rIxL K) (tVar i) (tC (.int (j : Int))) σ H Q :=
  ⟨.ref a, hs, a, xs, (j : Int), v, rfl, rfl, h, atI_nat hv, q⟩
end
end Ink
namespace Ink
open PySem PySem.Spec PyProof.Rows L2
def topS (i : Nat) : Stmt := PySem.Challenge.pw_whoseink_k32_doubts_judged.main.body.getD i (.Pass ⟨0, 0, 0, 0⟩)
abbrev sIsName : Stmt := topS 17
theorem sc_is_name : FnScope ["text", "letter"] ["text"] (defScope sIsName) := ⟨rfl, rfl, rfl, by decide +kernel, rfl, by decide +kernel, by decide +kernel⟩
abbrev sIsSign : Stmt := topS 18
theorem sc_is_sign : FnScope ["text"] ["text"] (defScope sIsSign) := ⟨rfl, rfl, rfl, by decide +kernel, rfl, by decide +kernel, by decide +kernel⟩
abbrev sIsWriter : Stmt := topS 19
theorem sc_is_writer : FnScope ["thing", "name", "arrows", "patience", "cap"] ["thing"] (defScope sIsWriter) := ⟨rfl, rfl, rfl, by decide +kernel, rfl, by decide +kernel, by decide +kernel⟩
abbrev sIsCount : Stmt := topS 20
theorem sc__is_count : FnScope ["number"] ["number"] (defScope sIsCount) := ⟨rfl, rfl, rfl, by decide +kernel, rfl, by decide +kernel, by decide +kernel⟩
abbrev sIsPlace : Stmt := topS 21
theorem sc__is_place : FnScope ["number"] ["number"] (defScope sIsPlace) := ⟨rfl, rfl, rfl, by decide +kernel, rfl, by decide +kernel, by decide +kernel⟩
abbrev sAreArrows : Stmt := topS 22
theorem sc__are_arrows : FnScope ["arrows", "heads", "place", "sign", "to", "_", "head", "following"] ["arrows"] (defScope sAreArrows) := ⟨rfl, rfl, rfl, by decide +kernel, rfl, by decide +kernel, by decide +kernel⟩
abbrev sMinds : Stmt := topS 33
theorem sc__minds : FnScope ["writers", "stand", "at", "_", "arrows", "patience", "place"] ["writers", "stand", "at"] (defScope sMinds) := ⟨rfl, rfl, rfl, by decide +kernel, rfl, by decide +kernel, by decide +kernel⟩
abbrev sMayWrite : Stmt := topS 32
theorem sc__may_write : FnScope ["writers", "stand", "at", "_", "waits", "run", "cap", "others", "k"] ["writers", "stand", "at"] (defScope sMayWrite) := ⟨rfl, rfl, rfl, by decide +kernel, rfl, by decide +kernel, by decide +kernel⟩
abbrev sBehind : Stmt := topS 34
theorem sc__behind : FnScope ["writers", "stand", "at", "to", "places", "waits", "run", "then", "kept", "many", "k", "wait"] ["writers", "stand", "at", "to"] (defScope sBehind) := ⟨rfl, rfl, rfl, by decide +kernel, rfl, by decide +kernel, by decide +kernel⟩
abbrev sStepsOf : Stmt := topS 31
theorem sc__steps_of : FnScope ["writers", "stand", "moves", "at", "writer", "place", "sign", "to"] ["writers", "stand"] (defScope sStepsOf) := ⟨rfl, rfl, rfl, by decide +kernel, rfl, by decide +kernel, by decide +kernel⟩
abbrev sLBag : Stmt := topS 36
theorem sc__law_bag : FnScope ["_law_script", "_law_salt", "_law_cell"] ["_law_script"] (defScope sLBag) := ⟨rfl, rfl, rfl, by decide +kernel, rfl, by decide +kernel, by decide +kernel⟩
abbrev sLPull : Stmt := topS 37
theorem sc__law_pull : FnScope ["_law_bag_here", "_law_many", "_law_cell", "_law_got", "_law_seed"] ["_law_bag_here", "_law_many"] (defScope sLPull) := ⟨rfl, rfl, rfl, by decide +kernel, rfl, by decide +kernel, by decide +kernel⟩
abbrev sLOf : Stmt := topS 38
theorem sc__law_of : FnScope ["_law_bag_here", "_law_things"] ["_law_bag_here", "_law_things"] (defScope sLOf) := ⟨rfl, rfl, rfl, by decide +kernel, rfl, by decide +kernel, by decide +kernel⟩
abbrev sLLetters : Stmt := topS 39
theorem sc__law_letters : FnScope [] [] (defScope sLLetters) := ⟨rfl, rfl, rfl, by decide +kernel, rfl, by decide +kernel, by decide +kernel⟩
abbrev sLLike : Stmt := topS 40
theorem sc__law_like : FnScope ["_law_found", "_law_due", "_law_one", "_law_other"] ["_law_found", "_law_due"] (defScope sLLike) := ⟨rfl, rfl, rfl, by decide +kernel, rfl, by decide +kernel, by decide +kernel⟩
abbrev sLNames : Stmt := topS 41
theorem sc__law_names : FnScope ["_law_bag_here", "_law_many", "_law_size", "_law_letters_here", "_law_at", "_law_start", "_law_step", "_law_base", "_law_found", "_law_k", "_law_sign", "_law_name"] ["_law_bag_here", "_law_many"] (defScope sLNames) := ⟨rfl, rfl, rfl, by decide +kernel, rfl, by decide +kernel, by decide +kernel⟩
abbrev sLSigns : Stmt := topS 42
theorem sc__law_signs : FnScope ["_law_bag_here", "_law_limit", "_law_start", "_law_step", "_law_many", "_law_letters_here", "_law_k"] ["_law_bag_here", "_law_limit"] (defScope sLSigns) := ⟨rfl, rfl, rfl, by decide +kernel, rfl, by decide +kernel, by decide +kernel⟩
abbrev sLWriter : Stmt := topS 43
theorem sc__law_writer : FnScope ["_law_bag_here", "_law_name", "_law_places", "_law_signs_here", "_law_thick", "_law_lines", "_law_place", "_law_sign", "_law_counts"] ["_law_bag_here", "_law_name", "_law_places", "_law_signs_here", "_law_thick"] (defScope sLWriter) := ⟨rfl, rfl, rfl, by decide +kernel, rfl, by decide +kernel, by decide +kernel⟩
abbrev sLArrows : Stmt := topS 45
theorem sc__law_arrows : FnScope ["_law_writer_here", "_law_place", "_law_at", "_law_sign", "_law_to"] ["_law_writer_here", "_law_place"] (defScope sLArrows) := ⟨rfl, rfl, rfl, by decide +kernel, rfl, by decide +kernel, by decide +kernel⟩
abbrev sLBegin : Stmt := topS 46
theorem sc__law_begin : FnScope ["_law_m"] ["_law_m"] (defScope sLBegin) := ⟨rfl, rfl, rfl, by decide +kernel, rfl, by decide +kernel, by decide +kernel⟩
abbrev sLWaitsCount : Stmt := topS 47
theorem sc__law_waits_count : FnScope ["_law_m", "_law_places", "_law_at"] ["_law_m", "_law_places", "_law_at"] (defScope sLWaitsCount) := ⟨rfl, rfl, rfl, by decide +kernel, rfl, by decide +kernel, by decide +kernel⟩
abbrev sLCan : Stmt := topS 48
theorem sc__law_can : FnScope ["_law_m", "_law_stand", "_law_spot", "_law_places", "_law_waits", "_law_run", "_law_others", "_law_at"] ["_law_m", "_law_stand", "_law_spot"] (defScope sLCan) := ⟨rfl, rfl, rfl, by decide +kernel, rfl, by decide +kernel, by decide +kernel⟩
abbrev sLAfter : Stmt := topS 49
theorem sc__law_after : FnScope ["_law_m", "_law_stand", "_law_spot", "_law_to", "_law_places", "_law_waits", "_law_run", "_law_later", "_law_many", "_law_fresh", "_law_at", "_law_wait"] ["_law_m", "_law_stand", "_law_spot", "_law_to"] (defScope sLAfter) := ⟨rfl, rfl, rfl, by decide +kernel, rfl, by decide +kernel, by decide +kernel⟩
abbrev sLSteps : Stmt := topS 50
theorem sc__law_steps : FnScope ["_law_m", "_law_stand", "_law_found", "_law_spot", "_law_some", "_law_sign", "_law_to", "_law_later"] ["_law_m", "_law_stand"] (defScope sLSteps) := ⟨rfl, rfl, rfl, by decide +kernel, rfl, by decide +kernel, by decide +kernel⟩
abbrev sLCompany : Stmt := topS 44
theorem sc__law_company : FnScope ["_law_bag_here", "_law_limit", "_law_signs_here", "_law_thick", "_law_found", "_law_name"] ["_law_bag_here", "_law_limit", "_law_signs_here"] (defScope sLCompany) := ⟨rfl, rfl, rfl, by decide +kernel, rfl, by decide +kernel, by decide +kernel⟩
abbrev sNeedCompany : Stmt := topS 29
theorem sc__need_company : FnScope ["writers", "at", "writer", "names", "name"] ["writers"] (defScope sNeedCompany) := ⟨rfl, rfl, rfl, by decide +kernel, rfl, by decide +kernel, by decide +kernel⟩
abbrev sCompanyInit : Stmt := inClass (topS 28) 0
theorem sc_Company___init__ : FnScope ["self", "writers"] ["self", "writers"] (defScope sCompanyInit) := ⟨rfl, rfl, rfl, by decide +kernel, rfl, by decide +kernel, by decide +kernel⟩
abbrev sCompanyBegin : Stmt := inClass (topS 28) 7
theorem sc_Company_begin : FnScope ["self", "noughts"] ["self"] (defScope sCompanyBegin) := ⟨rfl, rfl, rfl, by decide +kernel, rfl, by decide +kernel, by decide +kernel⟩
abbrev sCompanySteps : Stmt := inClass (topS 28) 8
theorem sc_Company_steps : FnScope ["self", "stand"] ["self", "stand"] (defScope sCompanySteps) := ⟨rfl, rfl, rfl, by decide +kernel, rfl, by decide +kernel, by decide +kernel⟩
abbrev sLWays : Stmt := topS 51
theorem sc__law_ways : FnScope ["_law_m", "_law_limit", "_law_ways_here", "_law_waiting", "_law_turn", "_law_sign", "_law_name", "_law_later"] ["_law_m", "_law_limit"] (defScope sLWays) := ⟨rfl, rfl, rfl, by decide +kernel, rfl, by decide +kernel, by decide +kernel⟩
abbrev sEyeInit : Stmt := inClass (topS 8) 0
theorem sc_Eye___init__ : FnScope ["self", "who", "stamps", "name", "sign"] ["self", "who", "stamps"] (defScope sEyeInit) := ⟨rfl, rfl, rfl, by decide +kernel, rfl, by decide +kernel, by decide +kernel⟩
abbrev sEyeFree : Stmt := inClass (topS 8) 1
theorem sc_Eye_free : FnScope ["self", "name", "sign"] ["self", "name", "sign"] (defScope sEyeFree) := ⟨rfl, rfl, rfl, by decide +kernel, rfl, by decide +kernel, by decide +kernel⟩
abbrev sEyeAlike : Stmt := inClass (topS 8) 2
theorem sc_Eye_alike : FnScope ["self", "sign", "one", "other"] ["self", "sign", "one", "other"] (defScope sEyeAlike) := ⟨rfl, rfl, rfl, by decide +kernel, rfl, by decide +kernel, by decide +kernel⟩
abbrev sEyeDiffer : Stmt := inClass (topS 8) 3
theorem sc_Eye_differ : FnScope ["self", "one", "other"] ["self", "one", "other"] (defScope sEyeDiffer) := ⟨rfl, rfl, rfl, by decide +kernel, rfl, by decide +kernel, by decide +kernel⟩
abbrev sLAlike : Stmt := topS 52
theorem sc__law_alike : FnScope ["_law_one", "_law_other", "_law_sign", "_law_marked"] ["_law_one", "_law_other", "_law_sign", "_law_marked"] (defScope sLAlike) := ⟨rfl, rfl, rfl, by decide +kernel, rfl, by decide +kernel, by decide +kernel⟩
abbrev sLDiffers : Stmt := topS 53
theorem sc__law_differs : FnScope ["_law_one", "_law_other", "_law_own"] ["_law_one", "_law_other", "_law_own"] (defScope sLDiffers) := ⟨rfl, rfl, rfl, by decide +kernel, rfl, by decide +kernel, by decide +kernel⟩
abbrev sLTwinSteps : Stmt := topS 54
theorem sc__law_twin_steps : FnScope ["_law_m", "_law_pair", "_law_marked", "_law_found", "_law_second", "_law_sign", "_law_one", "_law_to", "_law_mark", "_law_other", "_law_later"] ["_law_m", "_law_pair", "_law_marked"] (defScope sLTwinSteps) := ⟨rfl, rfl, rfl, by decide +kernel, rfl, by decide +kernel, by decide +kernel⟩
abbrev sLKinds : Stmt := topS 57
theorem sc__law_kinds : FnScope ["_law_bag_here", "_law_m", "_law_letters_here", "_law_kinds_here", "_law_thick", "_law_writer_here", "_law_sign"] ["_law_bag_here", "_law_m", "_law_letters_here"] (defScope sLKinds) := ⟨rfl, rfl, rfl, by decide +kernel, rfl, by decide +kernel, by decide +kernel⟩
abbrev sLFilled : Stmt := topS 55
theorem sc__law_filled : FnScope ["_law_writer_here", "_law_letters_here", "_law_lines", "_law_place", "_law_at", "_law_sign", "_law_to"] ["_law_writer_here", "_law_letters_here"] (defScope sLFilled) := ⟨rfl, rfl, rfl, by decide +kernel, rfl, by decide +kernel, by decide +kernel⟩
abbrev sLTight : Stmt := topS 56
theorem sc__law_tight : FnScope ["_law_bag_here", "_law_letters_here", "_law_limit", "_law_m", "_law_writer_here"] ["_law_bag_here", "_law_letters_here", "_law_limit"] (defScope sLTight) := ⟨rfl, rfl, rfl, by decide +kernel, rfl, by decide +kernel, by decide +kernel⟩
abbrev sLTakingTurns : Stmt := topS 60
theorem sc__law_taking_turns : FnScope ["_law_bag_here", "_law_letters_here", "_law_many", "_law_found", "_law_name", "_law_places", "_law_lines", "_law_k"] ["_law_bag_here", "_law_letters_here"] (defScope sLTakingTurns) := ⟨rfl, rfl, rfl, by decide +kernel, rfl, by decide +kernel, by decide +kernel⟩
abbrev sLDelayed : Stmt := topS 61
theorem sc__law_delayed : FnScope ["_law_bag_here", "_law_letters_here", "_law_limit", "_law_m", "_law_writer_here"] ["_law_bag_here", "_law_letters_here", "_law_limit"] (defScope sLDelayed) := ⟨rfl, rfl, rfl, by decide +kernel, rfl, by decide +kernel, by decide +kernel⟩
abbrev sLWalked : Stmt := topS 58
theorem sc__law_walked : FnScope ["_law_m", "_law_strip", "_law_names_here", "_law_stands", "_law_sign", "_law_name", "_law_some", "_law_mark", "_law_one", "_law_later"] ["_law_m", "_law_strip", "_law_names_here"] (defScope sLWalked) := ⟨rfl, rfl, rfl, by decide +kernel, rfl, by decide +kernel, by decide +kernel⟩
abbrev sLDoubtOk : Stmt := topS 59
theorem sc__law_doubt_ok : FnScope ["_law_m", "_law_strip", "_law_one", "_law_other", "_law_many", "_law_own", "_law_marked", "_law_at", "_law_same_eye", "_law_k"] ["_law_m", "_law_strip", "_law_one", "_law_other", "_law_many", "_law_own", "_law_marked"] (defScope sLDoubtOk) := ⟨rfl, rfl, rfl, by decide +kernel, rfl, by decide +kernel, by decide +kernel⟩
abbrev sLTwinRows : Stmt := topS 62
theorem sc__law_twin_rows : FnScope ["_law_bag_here", "_law_m", "_law_limit", "_law_pair", "_law_strip", "_law_first", "_law_second", "_law_k", "_law_some", "_law_one", "_law_other", "_law_sign"] ["_law_bag_here", "_law_m", "_law_limit"] (defScope sLTwinRows) := ⟨rfl, rfl, rfl, by decide +kernel, rfl, by decide +kernel, by decide +kernel⟩
abbrev sIsDoubt : Stmt := topS 9
theorem sc_is_doubt : FnScope ["company", "strip", "one", "other", "many", "who", "stamps", "eye", "at"] ["company", "strip", "one", "other", "many", "who", "stamps"] (defScope sIsDoubt) := ⟨rfl, rfl, rfl, by decide +kernel, rfl, by decide +kernel, by decide +kernel⟩
abbrev sAreAlike : Stmt := topS 10
theorem sc__are_alike : FnScope ["company", "eye", "strip", "one", "other", "sign", "name", "second"] ["company", "eye", "strip", "one", "other"] (defScope sAreAlike) := ⟨rfl, rfl, rfl, by decide +kernel, rfl, by decide +kernel, by decide +kernel⟩
abbrev sStandsAlong : Stmt := topS 11
theorem sc__stands_along : FnScope ["company", "strip", "names", "stands", "sign", "name", "goals", "found", "who", "then"] ["company", "strip", "names"] (defScope sStandsAlong) := ⟨rfl, rfl, rfl, by decide +kernel, rfl, by decide +kernel, by decide +kernel⟩
abbrev sLaw : Stmt := topS 63
theorem sc_law : FnScope ["_law_script", "_law_bag_here", "_law_turn", "_law_letters_here", "_law_m", "_law_kinds_here", "_law_own", "_law_strip", "_law_one", "_law_other", "_law_apart", "_law_many", "_law_pick", "_law_at", "_law_due", "_law_company_here", "_law_handed", "_law_found", "_law_writer_here"] ["_law_script"] (defScope sLaw) := ⟨rfl, rfl, rfl, by decide +kernel, rfl, by decide +kernel, by decide +kernel⟩
structure Txt (mg : Str → Option Value) : Prop where
  m_len : mg "len" = none
  m_all : mg "all" = none
  m_list : mg "list" = none
  m_range : mg "range" = none
  m_zip : mg "zip" = none
  m_isinstance : mg "isinstance" = none
  m_tuple : mg "tuple" = none
  m_bool : mg "bool" = none
  m_int : mg "int" = none
  m_str : mg "str" = none
  m_max : mg "max" = none
  m_sorted : mg "sorted" = none
  m_enumerate : mg "enumerate" = none
  m_min : mg "min" = none
  m_any : mg "any" = none
  e__MOST_LETTERS : ∃ t, mg "_MOST_LETTERS" = some (.int 6 t)
  e_MOST_ARROWS : ∃ t, mg "MOST_ARROWS" = some (.int 9 t)
  e_MOST_COUNT : ∃ t, mg "MOST_COUNT" = some (.int 3 t)
  e__LAST_PLACE : ∃ t, mg "_LAST_PLACE" = some (.int 2 t)
  e_MOST_WRITERS : ∃ t, mg "MOST_WRITERS" = some (.int 3 t)
end Ink
namespace Ink
open PySem PySem.Spec PyProof.Rows L2
section
variable {P : Program} {w : World} {K : PySem.W.Frag} {mg : Str → Option Value} {base : Heap}
theorem emod_in (x : Int) : 0 ≤ x % 2147483563 ∧ x % 2147483563 < 2147483563 := ⟨Int.emod_nonneg _ (by decide), Int.emod_lt_of_pos _ (by decide)⟩
theorem pos1 : (0 : Int) < 2147483563 := by decide
theorem pos2 : (0 : Int) < 8191 := by decide
theorem ok_pull {f : Addr} {fd : FuncData} {k : Nat} (F : Fun K "_law_pull" "_law_pull" sLPull f fd) (T : Txt mg) : FnOk P w K mg base CX0 (k + 1) f fd ["_law_bag_here", "_law_many"] spPull := by
  refine F.ok sc__law_pull (fun vs H Q E h => ?_) (fun cdv A outer s H vs Q E hr h => ?_)
  · obtain ⟨a, l, m, rfl, _⟩ := h
    rfl
  · obtain ⟨a, l, m, rfl, hB, hm0, hm1, q⟩ := h
    refine ⟨_, (Evl.pss_cut (ps_if (PW.pt (pw_and (pt_cmpR op_eq (pe_ix ix_list (pv 0) pe_int (fun _ _ => rfl)) pe_int (nomark _)) (pw_and1 (pt_cmpR op_lt (pe_ix ix_list (pv 0) pe_int (fun _ _ => rfl)) (pe_callB call_len (by rfl) T.m_len PySem.boot_len (pa_cons (pe_ix ix_list (pv 0) pe_int (fun _ _ => rfl)) pa_nil)) (nomark _)))))
    (pss_cons (ps_set (i := 2) sc__law_pull.nd rfl (.inl rfl) (pe_ix ix_list (pe_ix ix_list (pv 0) pe_int (fun _ _ => rfl)) (pe_ix ix_list (pv 0) pe_int (fun _ _ => rfl)) (fun _ _ => rfl)))
    (pss_cons (ps_asg (pe_op op_add (pe_ix ix_list (pv 0) pe_int (fun _ _ => rfl)) pe_int) (pg_sub (pv 0) pe_int set_list))
    (pss_one (ps_if (pt_cmpR op_ge (pv 2) (pe_op op_pow pe_int pe_int) (nomark _))
    (pss_one (ps_asg (pe_op op_sub (pv 2) (pe_op op_pow pe_int pe_int)) (pg_sub (pv 0) pe_int set_list))) (pss_one (ps_asg (pe_op op_mod (pe_op op_add (pe_op op_add (pe_op op_mul (pe_ix ix_list (pv 0) pe_int (fun _ _ => rfl)) pe_int) (pe_op op_mul (pe_op op_mod (pv 2) pe_int) pe_int)) pe_int) pe_int) (pg_sub (pv 0) pe_int set_list))))))) pss_nil)
    (pss_cons (ps_if (pt_cmpR op_gt (pe_ix ix_list (pv 0) pe_int (fun _ _ => rfl)) pe_int (nomark _))
    (pss_cons (ps_set (i := 3) sc__law_pull.nd rfl (.inl rfl) (pe_op op_mod (pe_ix ix_list (pv 0) pe_int (fun _ _ => rfl)) (pv 1)))
    (pss_cons (ps_asg (pe_op op_fdiv (pe_ix ix_list (pv 0) pe_int (fun _ _ => rfl)) (pv 1)) (pg_sub (pv 0) pe_int set_list))
    (pss_one (ps_ret (pv 3))))) pss_nil)
    (pss_cons (ps_set (i := 4) sc__law_pull.nd rfl (.inl rfl) (pe_ix ix_list (pv 0) pe_int (fun _ _ => rfl)))
    (pss_cons (ps_asg (pe_op op_mod (pe_op op_add (pe_op op_add (pe_op op_mul (pe_op op_mul (pv 4) (pv 4)) pe_int) (pe_op op_mul (pv 4) pe_int)) pe_int) pe_int) (pg_sub (pv 0) pe_int set_list))
    (pss_one (ps_ret (pe_op op_mod (pe_op op_add (pe_op op_fdiv (pe_ix ix_list (pv 0) pe_int (fun _ _ => rfl)) pe_int) (pe_op op_mul (pe_op op_mod (pe_ix ix_list (pv 0) pe_int (fun _ _ => rfl)) pe_int) pe_int)) (pv 1)))))))), ?_⟩
    refine ⟨fun σ H1 => ∃ c, σ = [some (.ref a), some (.int m), c, none, none] ∧ BagAt H1 a l ∧ Keep a H H1, ?_, fun σ H1 hσ => ?_⟩
    · obtain ⟨ns, p, h, s, h1, h2, h3, h4, h5, h6⟩ := hB
      have L : SqL K H a _ := .of h1
      -- bag[2] == 0
      refine ⟨.ref a, rfl, a, _, 2, .int h, rfl, rfl, L, rfl, rfl, _, rfl, ?_⟩
      by_cases e0 : V.int h = V.int 0
      · rw [decide_eq_true e0]
        refine iteT ?_
        refine ⟨.ref a, rfl, a, _, 1, .int p, rfl, rfl, L, rfl, .ref a, rfl, a, _, 0, .ref l, rfl, rfl, L, rfl, .ref l, _, rfl, .inl ⟨_, .of h2, rfl⟩, _, _, rfl, rfl, _, rfl, ?_⟩
        refine ite2 (fun e1 => ?_) (fun e1 => ?_)
        · have e2 : p < ((ns.map V.int).length : Int) := of_decide_eq_true e1
          rw [List.length_map] at e2
          have hc : (ns.map V.int)[p.toNat]? = some (.int (ns[p.toNat]'(by omega))) := by
            rw [List.getElem?_map, List.getElem?_eq_getElem (by omega)]
            rfl
          have ep : ((p.toNat : Nat) : Int) = p := by omega
          generalize ns[p.toNat]'(by omega) = c at hc
          refine ⟨.ref a, rfl, a, _, 0, .ref l, rfl, rfl, L, rfl, .ref a, rfl, a, _, 1, .int p, rfl, rfl, L, rfl, l, _, p, .int c, rfl, rfl, .of h2, ?_, ?_⟩
          · rw [← ep]
            exact atI_nat hc
          · -- bag[1] = bag[1] + 1
            refine ⟨.ref a, rfl, a, _, 1, .int p, rfl, rfl, L, rfl, p, 1, rfl, rfl, .ref a, rfl, a, _, 1, 1, rfl, rfl, h1, rfl, ?_⟩
            -- cell >= 10 ** 18
            have n1 : (upd H a (.lst [.ref l, .int (p + 1), .int h, .int s])) a = some (.lst [.ref l, .int (p + 1), .int h, .int s]) := upd_same
            have n2 : (upd H a (.lst [.ref l, .int (p + 1), .int h, .int s])) l = some (.lst (ns.map V.int)) := by
              rw [upd_ne (bag_ne h1 (fun _ => nofun) h2)]
              exact h2
            refine ⟨.int c, rfl, 10, 18, rfl, rfl, ⟨by decide, by decide, by decide⟩, c, _, rfl, rfl, _, rfl, ?_⟩
            refine ite2 (fun e3 => ?_) (fun e3 => ?_)
            · refine ⟨.int c, rfl, 10, 18, rfl, rfl, ⟨by decide, by decide, by decide⟩, c, _, rfl, rfl, .ref a, rfl, a, _, 2, 2, rfl, rfl, n1, rfl, some (.int c), rfl, ?_, ?_⟩
              · have e4 : (10 : Int) ^ ((18 : Int).toNat) ≤ c := of_decide_eq_true e3
                exact BagAt.set (p' := p + 1) (h' := c - 10 ^ ((18 : Int).toNat)) (s' := s) n1 n2 ⟨by omega, by omega, h5, h6⟩
              · exact Keep.at.trans Keep.at
            · refine ⟨.ref a, rfl, a, _, 3, .int s, rfl, rfl, .of n1, rfl, s, 48271, rfl, rfl, .inl ⟨by omega, by omega⟩, .int c, rfl, c, 2147483563, rfl, rfl, pos1, _, 69621, rfl, rfl, .inr ⟨by decide, by decide⟩, _, _, rfl, rfl, _, 7, rfl, rfl, _, 2147483563, rfl, rfl, pos1, .ref a, rfl, a, _, 3, 3, rfl, rfl, n1, rfl, some (.int c), rfl, ?_, ?_⟩
              · exact BagAt.set (p' := p + 1) (h' := h) n1 n2 ⟨by omega, h4, (emod_in _).1, (emod_in _).2⟩
              · exact Keep.at.trans Keep.at
        · exact ⟨none, rfl, ⟨ns, p, h, s, h1, h2, h3, h4, h5, h6⟩, Keep.refl H⟩
      · rw [decide_eq_false e0]
        exact iteF (iteF ⟨none, rfl, ⟨ns, p, h, s, h1, h2, h3, h4, h5, h6⟩, Keep.refl H⟩)
    · obtain ⟨c, rfl, hB1, k1⟩ := hσ
      obtain ⟨ns, p, h, s, h1, h2, h3, h4, h5, h6⟩ := hB1
      have L : SqL K H1 a _ := .of h1
      refine ⟨.ref a, rfl, a, _, 2, .int h, rfl, rfl, L, rfl, _, _, rfl, rfl, _, rfl, ite2 (fun e1 => ?_) (fun e1 => ?_)⟩
      · have e2 : (0 : Int) < h := of_decide_eq_true e1
        refine ⟨.ref a, rfl, a, _, 2, .int h, rfl, rfl, L, rfl, .int m, rfl, h, m, rfl, rfl, hm0, ?_⟩
        refine ⟨.ref a, rfl, a, _, 2, .int h, rfl, rfl, L, rfl, .int m, rfl, h, m, rfl, rfl, ⟨hm0, hm1⟩, .ref a, rfl, a, _, 2, 2, rfl, rfl, h1, rfl, .int (h % m), rfl, ?_⟩
        exact q _ _ (Int.emod_nonneg _ (by omega)) (Int.emod_lt_of_pos _ hm0) (BagAt.set (p' := p) (h' := h / m) (s' := s) h1 h2 ⟨h3, Int.ediv_nonneg h4 (by omega), h5, h6⟩) (k1.trans Keep.at)
      · refine ⟨.ref a, rfl, a, _, 3, .int s, rfl, rfl, L, rfl, ?_⟩
        refine ⟨.int s, rfl, .int s, rfl, s, s, rfl, rfl, .inl ⟨by omega, by omega⟩, s * s, 3, rfl, rfl, .inr ⟨by decide, by decide⟩, .int s, rfl, s, 16807, rfl, rfl, .inl ⟨by omega, by omega⟩, _, _, rfl, rfl, _, 1013904223, rfl, rfl, _, 2147483563, rfl, rfl, pos1, .ref a, rfl, a, _, 3, 3, rfl, rfl, h1, rfl, ?_⟩
        have b := emod_in (s * s * 3 + s * 16807 + 1013904223)
        have hB2 : BagAt (upd H1 a (.lst [.ref l, .int p, .int h, .int ((s * s * 3 + s * 16807 + 1013904223) % 2147483563)])) a l := BagAt.set h1 h2 ⟨h3, h4, b.1, b.2⟩
        have n1 : (upd H1 a (.lst [.ref l, .int p, .int h, .int ((s * s * 3 + s * 16807 + 1013904223) % 2147483563)])) a = _ := upd_same
        refine ⟨.ref a, rfl, a, _, 3, .int ((s * s * 3 + s * 16807 + 1013904223) % 2147483563), rfl, rfl, .of n1, rfl, _, 61, rfl, rfl, ⟨by decide, by decide⟩, .ref a, rfl, a, _, 3, .int ((s * s * 3 + s * 16807 + 1013904223) % 2147483563), rfl, rfl, .of n1, rfl, _, 8191, rfl, rfl, pos2, _, 17, rfl, rfl, .inr ⟨by decide, by decide⟩, _, _, rfl, rfl, .int m, rfl, _, m, rfl, rfl, hm0, ?_⟩
        exact q _ _ (Int.emod_nonneg _ (by omega)) (Int.emod_lt_of_pos _ hm0) hB2 (k1.trans Keep.at)
theorem cut_ints (ns : List Int) (lo hi : Option Int) : ∃ ms : List Int, cutV (ns.map V.int) lo hi = ms.map V.int ∧ ms.length ≤ ns.length := by
  refine ⟨(ns.drop (HT.sIx (ns.map V.int).length 0 lo)).take (HT.sIx (ns.map V.int).length (ns.map V.int).length hi - HT.sIx (ns.map V.int).length 0 lo), ?_, ?_⟩
  · unfold cutV
    rw [List.map_take, List.map_drop]
  · rw [List.length_take, List.length_drop]
    omega
theorem ok_bag {f : Addr} {fd : FuncData} {k : Nat} (F : Fun K "_law_bag" "_law_bag" sLBag f fd) (T : Txt mg) : FnOk P w K mg base CX0 (k + 1) f fd ["_law_script"] (spBag K) := by
  refine F.ok sc__law_bag (fun vs H Q E h => ?_) (fun cdv A outer s H vs Q E hr h => ?_)
  · obtain ⟨c, ns, rfl, _⟩ := h
    rfl
  · obtain ⟨c, ns, rfl, hS, hlen, q⟩ := h
    refine ⟨_, (pss_cons (ps_set (i := 1) sc__law_bag.nd rfl (.inl rfl) pe_int)
    (pss_cons (ps_for PassesOwn.never rfl (pi_list (pe_slice sl_list (pv 0) po_none (po_some pe_int))) (pg_name (i := 2) sc__law_bag.nd rfl (.inl rfl))
    (pss_one (ps_set (i := 1) sc__law_bag.nd rfl (.inl rfl) (pe_op op_mod (pe_op op_add (pe_op op_add (pe_op op_mul (pv 1) pe_int) (pe_op op_mod (pv 2) pe_int)) pe_int) pe_int))))
    (pss_one (ps_ret (pe_lst (pa_cons (pe_callTy call_list_of (by rfl) T.m_list (by decide +kernel) (pa_cons (pe_slice sl_list (pv 0) po_none (po_some pe_int)) pa_nil)) (pa_cons pe_int (pa_cons pe_int (pa_cons (pv 1) pa_nil))))))))), ?_⟩
    obtain ⟨ms, ems, hms⟩ := cut_ints ns none (some 63)
    refine ⟨.ref c, rfl, 63, rfl, c, _, rfl, hS, fun p np => ?_⟩
    have s1 : Same H (upd H p (.lst (cutV (ns.map V.int) none (some 63)))) := same_new np
    rw [ems] at s1
    show ∃ a, V.ref p = .ref a ∧ (∃ xs, SqL K (upd H p (.lst (cutV (ns.map V.int) none (some 63)))) a xs) ∧ _
    rw [ems]
    have hp : SqL K (upd H p (.lst (ms.map V.int))) p (ms.map V.int) := .of upd_same
    refine ⟨p, rfl, ⟨_, hp⟩, for_it (walk_list (xs := ms.map V.int)) (fun i σ H' => ∃ (s : Int) (y : Option V), σ = [some (.ref c), some (.int s), y] ∧ 0 ≤ s ∧ s < 2147483563 ∧ H' = upd H p (.lst (ms.map V.int))) ⟨9450, none, rfl, by decide, by decide, rfl⟩ (fun i σ H' _ hP => ?_) (fun i x σ H' H2 hi hP hy => ?_) (fun σ H' hP => ?_)⟩
    · obtain ⟨s, y, _, _, _, rfl⟩ := hP
      exact hp
    · obtain ⟨s, y, rfl, hs0, hs1, rfl⟩ := hP
      obtain ⟨rfl, hx⟩ := hy
      have hi2 : i < ms.length := by
        rw [List.length_map] at hi
        exact hi
      rw [List.getElem?_map, List.getElem?_eq_getElem hi2] at hx
      have hx := Option.some.inj hx
      subst hx
      refine ⟨.int s, rfl, s, 40014, rfl, rfl, .inl ⟨by omega, by omega⟩, .int ms[i], rfl, ms[i], 2147483563, rfl, rfl, pos1, _, _, rfl, rfl, _, 13, rfl, rfl, _, 2147483563, rfl, rfl, pos1, ?_⟩
      exact ⟨_, _, rfl, (emod_in _).1, (emod_in _).2, rfl⟩
    · obtain ⟨s, y, rfl, hs0, hs1, rfl⟩ := hP
      refine ⟨.ref c, rfl, 63, rfl, c, _, rfl, s1.seq hS, fun p2 np2 => ?_⟩
      have s2 : Same (upd H p (.lst (ms.map V.int))) (upd (upd H p (.lst (ms.map V.int))) p2 (.lst (cutV (ns.map V.int) none (some 63)))) := same_new np2
      refine ⟨p2, _, rfl, .inl (.of upd_same), fun l nl => ?_⟩
      refine ⟨.int s, rfl, by show 4 ≤ sizeLine; decide, fun a na => ?_⟩
      have s3 := same_new (o := .lst (cutV (ns.map V.int) none (some 63))) nl
      have s4 := same_new (o := .lst [V.ref l, .int 0, .int 0, .int s]) na
      refine q a l _ ((s1.trans (s2.trans s3)).free na) ⟨ms, 0, 0, s, upd_same, ?_, by decide, by decide, hs0, hs1⟩ ((s1.trans (s2.trans s3)).trans s4)
      rw [s4 l _ upd_same, ems]
theorem ok_of {f : Addr} {fd : FuncData} {k : Nat} (F : Fun K "_law_of" "_law_of" sLOf f fd) (T : Txt mg) (C__law_pull : Cal P w K mg base k "_law_pull" ["_law_bag_here", "_law_many"] spPull) : FnOk P w K mg base CX0 (k + 1) f fd ["_law_bag_here", "_law_things"] (spOf K) := by
  refine F.ok sc__law_of (fun vs H Q E h => ?_) (fun cdv A outer s H vs Q E hr h => ?_)
  · obtain ⟨a, l, x, xs, rfl, _⟩ := h
    rfl
  · obtain ⟨a, l, x, xs, rfl, hB, hI, h0, h1, q⟩ := h
    refine ⟨_, (pss_one (ps_ret (pe_ix ix_seq (pv 1) (pe_callC C__law_pull hr (by rfl) (pa_cons (pv 0) (pa_cons (pe_callB call_len (by rfl) T.m_len PySem.boot_len (pa_cons (pv 1) pa_nil)) pa_nil))) (fun _ _ => rfl)))), ?_⟩
    have hL : LenV K x H xs.length := by
      rcases hI with ⟨p, rfl, n, h | h⟩ | ⟨z, rfl, rfl⟩
      · exact .inl ⟨_, h, rfl⟩
      · exact .inr ⟨_, h, rfl⟩
      · rw [List.length_map] at h1 ⊢
        exact ⟨Nat.le_trans h1 (by decide), rfl⟩
    refine ⟨x, rfl, .ref a, rfl, x, rfl, x, _, rfl, hL, a, l, _, rfl, hB, by omega, by omega, fun r H' r0 r1 hB' k' => ?_⟩
    have hr2 : r.toNat < xs.length := by omega
    have er : ((r.toNat : Nat) : Int) = r := by omega
    have hx : xs[r.toNat]? = some (xs[r.toNat]) := List.getElem?_eq_getElem hr2
    have hq := q _ H' (List.mem_of_getElem? hx) hB' k'
    rcases hI with ⟨p, rfl, n, h | h⟩ | ⟨z, rfl, rfl⟩
    · exact .inl ⟨p, xs, r, _, rfl, rfl, k'.seq n h, atI_of r0 hx, hq⟩
    · exact .inr (.inl ⟨p, xs, r, _, rfl, rfl, k'.seqT n h, atI_of r0 hx, hq⟩)
    · rw [List.length_map] at h1 hr2
      have hc : z.cps.toList[r.toNat]? = some (z.cps.toList[r.toNat]) := List.getElem?_eq_getElem hr2
      rw [List.getElem?_map, hc] at hx
      have hx := Option.some.inj hx
      rw [← hx] at hq
      exact .inr (.inr ⟨z, r, _, rfl, rfl, Nat.le_trans h1 (by decide), atI_of r0 hc, hq⟩)
end
end Ink
namespace Ink
open PySem PySem.Spec PyProof.Rows L2
/-- None, a bool, a whole number, a text -/
def flatD : V → Bool
  | .non => true
  | .bl _ => true
  | .int _ => true
  | .str _ => true
  | _ => false
/-- v and w hold the same, at most n deep -/
def Lk (K : PySem.W.Frag) (H : Hp) : Nat → V → V → Prop
  | 0, _, _ => False
  | n + 1, v, w => (v = w ∧ flatD w = true) ∨ ∃ (p q : Addr) (xs ys : List V), v = .ref p ∧ w = .ref q ∧ ((SqL K H p xs ∧ SqL K H q ys) ∨ (SqT K H p xs ∧ SqT K H q ys)) ∧ xs.length = ys.length ∧ xs.length ≤ 100000 ∧
      ∀ (i : Nat) (x y : V), xs[i]? = some x → ys[i]? = some y → Lk K H n x y
theorem Lk.same {K : PySem.W.Frag} {H H' : Hp} (e : Same H H') : ∀ {n : Nat} {v w : V}, Lk K H n v w → Lk K H' n v w
  | 0, _, _, h => h.elim
  | n + 1, v, w, h => by
    rcases h with h | ⟨p, q, xs, ys, h1, h2, h3, h4, h5, h6⟩
    · exact .inl h
    · refine .inr ⟨p, q, xs, ys, h1, h2, ?_, h4, h5, fun i x y a b => Lk.same e (h6 i x y a b)⟩
      rcases h3 with ⟨a, b⟩ | ⟨a, b⟩
      · exact .inl ⟨e.seq a, e.seq b⟩
      · exact .inr ⟨same_tup e a, same_tup e b⟩
def spLike (K : PySem.W.Frag) (n : Nat) : Sp := fun vs H Q _ => ∃ v w, vs = [v, w] ∧ Lk K H n v w ∧ ∀ H', Same H H' → Q (.bl true) H'
theorem tyx_l {K : PySem.W.Frag} {H : Hp} {a : Addr} {xs : List V} (h : SqL K H a xs) : TyX K H (.ref a) (.type "list") := by
  rcases h with (h | ⟨o, h⟩) | ⟨o, its, n, h1, h2, _⟩
  · exact .base (.lst h)
  · exact .base (.frz h)
  · exact .kList h1 h2
theorem tyx_t {K : PySem.W.Frag} {H : Hp} {a : Addr} {xs : List V} (h : SqT K H a xs) : TyX K H (.ref a) (.type "tuple") := by
  rcases h with (h | ⟨o, h⟩) | ⟨o, its, n, h1, h2, _⟩
  · exact .base (.tup h)
  · exact .fTuple h
  · exact .kTuple h1 h2
def tyD : V → String
  | .non => "NoneType"
  | .bl _ => "bool"
  | .int _ => "int"
  | _ => "str"
theorem tyx_f {K : PySem.W.Frag} {H : Hp} : ∀ {v : V}, flatD v = true → TyX K H v (.type (tyD v))
  | .non, _ => .base .non
  | .bl b, _ => .base (.bl b)
  | .int i, _ => .base (.int i)
  | .str z, _ => .base (.str z)
theorem kit_f {K : PySem.W.Frag} {T : String} : ∀ {v : V}, flatD v = true → kitB (tyD v) T = kitB (tyD v) T := fun _ => rfl
theorem kt {K : PySem.W.Frag} {a b : String} {r : Bool} (h : kitB a b = some r) : PySem.W.kitOne K (.type a) (.type b) = some r := kit_ty h
theorem kit2 {K : PySem.W.Frag} {t a b : String} {x y r : Bool} (h1 : kitB t a = some x) (h2 : kitB t b = some y) (hr : r = (x || y)) : PySem.W.kitAny K (.type t) [.type a, .type b] = some r := by
  subst hr
  refine kitAny_cons (kt h1) (fun e => ?_) (fun e => by rw [e]; rfl)
  subst e
  exact kitAny_cons (kt h2) (fun e => by rw [e]; exact kitAny_nil) (fun e => by rw [e]; rfl)
theorem kit_lt {K : PySem.W.Frag} : ∀ {v : V}, flatD v = true → PySem.W.kitAny K (.type (tyD v)) [.type "list", .type "tuple"] = some false
  | .non, _ => kit2 (t := "NoneType") (x := false) (y := false) (by decide +kernel) (by decide +kernel) rfl
  | .bl b, _ => kit2 (t := "bool") (x := false) (y := false) (by decide +kernel) (by decide +kernel) rfl
  | .int i, _ => kit2 (t := "int") (x := false) (y := false) (by decide +kernel) (by decide +kernel) rfl
  | .str z, _ => kit2 (t := "str") (x := false) (y := false) (by decide +kernel) (by decide +kernel) rfl
theorem same_mut {H H' : Hp} {p : Addr} {o : HO} (e : Same H H') (h : H p = none) : Same H (upd H' p o) := Evl.Ex.mut e h
theorem small_lt {n : Nat} (h : n < 1000000) : n < sizeLine := Nat.lt_of_lt_of_le h (by decide)
theorem small_le {n : Nat} (h : n ≤ 1000000) : n ≤ sizeLine := Nat.le_trans h (by decide)
theorem yes_of {σ : L2.St} {H : Hp} {Q : Bool → Hp → Prop} (h : Q true H) : tYes σ H Q := h
theorem pair_lt : Paired ClsV [V.ty "list", V.ty "tuple"] [Value.type "list", Value.type "tuple"] := .cons (.ty _) (.cons (.ty _) .nil)
theorem walk_zipT {K : PySem.W.Frag} {a b : Addr} {xs ys : List V} {n : Nat} (hn : n = min xs.length ys.length) : Walk (RZ.ItzT K a b) n (fun H => SqT K H a xs ∧ SqT K H b ys) (YPair (fun i => xs[i]?) (fun i => ys[i]?)) := by
  subst hn
  refine ⟨fun i _ hi q => ?_, fun _ q => ⟨xs, ys, q.1, q.2, by omega⟩, fun i H v H' _ q y => ?_⟩
  · have h1 : i < xs.length := by omega
    have h2 : i < ys.length := by omega
    exact ⟨xs, ys, xs[i], ys[i], q.1, q.2, by simp [h1], by simp [h2]⟩
  · obtain ⟨T, x, z, h1, h2, h3, h4, h5⟩ := y
    exact ⟨T, x, z, h1, h2, h3, h4 xs q.1, h5 ys q.2⟩
theorem rep_all (n : Nat) : (List.replicate n true).all id = true := by
  induction n with
  | zero => rfl
  | succ n ih =>
    rw [List.replicate_succ, List.all_cons, ih]
    rfl
theorem rep_snoc {α : Type} (n : Nat) (x : α) : List.replicate n x ++ [x] = List.replicate (n + 1) x := by
  induction n with
  | zero => rfl
  | succ n ih =>
    rw [List.replicate_succ, List.cons_append, ih]
    rfl
section
variable {P : Program} {w : World} {K : PySem.W.Frag} {mg : Str → Option Value} {base : Heap}
theorem ok_like_step {f : Addr} {fd : FuncData} {k n : Nat} (F : Fun K "_law_like" "_law_like" sLLike f fd) (T : Txt mg)
    (C__law_like : Cal P w K mg base k "_law_like" ["_law_found", "_law_due"] (spLike K n)) :
    FnOk P w K mg base CX0 (k + 1) f fd ["_law_found", "_law_due"] (spLike K (n + 1)) := by
  refine F.ok sc__law_like (fun vs H Q E h => ?_) (fun cdv A outer s H vs Q E hr h => ?_)
  · obtain ⟨a, m, rfl, _⟩ := h
    rfl
  · obtain ⟨v, w', rfl, hL, q⟩ := h
    refine ⟨_, (pss_cons (ps_if (pt_val (pe_callB call_isiT (by rfl) T.m_isinstance (by decide +kernel) (pa_cons (pv 1) (pa_cons (pe_tup (pa_cons (pe_bltn (v := .ty "list") (by rfl) T.m_list (by decide +kernel) rfl) (pa_cons (pe_bltn (v := .ty "tuple") (by rfl) T.m_tuple (by decide +kernel) rfl) pa_nil))) pa_nil))))
    (pss_cons (ps_if (PW.pt (pw_or (pt_cmpR op_ne (pe_callB call_isi (by rfl) T.m_isinstance (by decide +kernel) (pa_cons (pv 0) (pa_cons (pe_bltn (v := .ty "list") (by rfl) T.m_list (by decide +kernel) rfl) pa_nil))) (pe_callB call_isi (by rfl) T.m_isinstance (by decide +kernel) (pa_cons (pv 1) (pa_cons (pe_bltn (v := .ty "list") (by rfl) T.m_list (by decide +kernel) rfl) pa_nil))) (nomark _)) (pw_or1 (pt_cmpR op_ne (pe_callB call_isi (by rfl) T.m_isinstance (by decide +kernel) (pa_cons (pv 0) (pa_cons (pe_bltn (v := .ty "tuple") (by rfl) T.m_tuple (by decide +kernel) rfl) pa_nil))) (pe_callB call_isi (by rfl) T.m_isinstance (by decide +kernel) (pa_cons (pv 1) (pa_cons (pe_bltn (v := .ty "tuple") (by rfl) T.m_tuple (by decide +kernel) rfl) pa_nil))) (nomark _)))))
    (pss_one (ps_ret pe_bl)) pss_nil)
    (pss_one (ps_ret (pe_and (pe_cmpR op_eq (pe_callB call_len (by rfl) T.m_len PySem.boot_len (pa_cons (pv 0) pa_nil)) (pe_callB call_len (by rfl) T.m_len PySem.boot_len (pa_cons (pv 1) pa_nil)) (nomark _)) (pe_one (pe_callB (cr_all rfl) (by rfl) T.m_all (by decide +kernel) (pa_cons (pe_lc (own := [("_law_one", 2), ("_law_other", 3)]) (g := (gTup K 2 (gCons (gName 2) (gCons (gName 3) gNil)))) (by rfl) sc__law_like.nd (RZ.pi_zipA (by rfl) T.m_zip (pa_cons (pv 0) (pa_cons (pv 1) pa_nil))) (blkOk_by (own := [("_law_one", 2), ("_law_other", 3)]) (N := ["_law_found", "_law_due", "_law_one", "_law_other"]) (sc := defScope sLLike) (by decide +kernel)) (fun _ _ _ _ _ => (pg_tup rfl (pgs_cons (pg_name (i := 2) sc__law_like.nd rfl (.inl rfl)) (pgs_cons (pg_name (i := 3) sc__law_like.nd rfl (.inl rfl)) pgs_nil)))) (fun _ _ _ _ _ => pts_nil) (fun _ _ _ _ _ => (pe_callC C__law_like hr (by rfl) (pa_cons (pv 2) (pa_cons (pv 3) pa_nil))))) pa_nil))))))) pss_nil)
    (pss_cons (ps_if (PW.pt (pw_or (pt_cmpR op_isN (pv 0) pe_non (nomark _)) (pw_or1 (pt_cmpR op_isN (pv 1) pe_non (nomark _)))))
    (pss_one (ps_ret (pe_and (pe_cmpR op_isN (pv 0) pe_non (nomark _)) (pe_one (pe_cmpR op_isN (pv 1) pe_non (nomark _)))))) pss_nil)
    (pss_cons (ps_if (PW.pt (pw_or (pt_cmpR op_ne (pe_callB call_isi (by rfl) T.m_isinstance (by decide +kernel) (pa_cons (pv 0) (pa_cons (pe_bltn (v := .ty "bool") (by rfl) T.m_bool (by decide +kernel) rfl) pa_nil))) (pe_callB call_isi (by rfl) T.m_isinstance (by decide +kernel) (pa_cons (pv 1) (pa_cons (pe_bltn (v := .ty "bool") (by rfl) T.m_bool (by decide +kernel) rfl) pa_nil))) (nomark _)) (pw_or1 (pt_cmpR op_ne (pe_callB call_isi (by rfl) T.m_isinstance (by decide +kernel) (pa_cons (pv 0) (pa_cons (pe_bltn (v := .ty "int") (by rfl) T.m_int (by decide +kernel) rfl) pa_nil))) (pe_callB call_isi (by rfl) T.m_isinstance (by decide +kernel) (pa_cons (pv 1) (pa_cons (pe_bltn (v := .ty "int") (by rfl) T.m_int (by decide +kernel) rfl) pa_nil))) (nomark _)))))
    (pss_one (ps_ret pe_bl)) pss_nil)
    (pss_one (ps_ret (pe_and (pe_cmpR op_eq (pe_callB call_isi (by rfl) T.m_isinstance (by decide +kernel) (pa_cons (pv 0) (pa_cons (pe_bltn (v := .ty "str") (by rfl) T.m_str (by decide +kernel) rfl) pa_nil))) (pe_callB call_isi (by rfl) T.m_isinstance (by decide +kernel) (pa_cons (pv 1) (pa_cons (pe_bltn (v := .ty "str") (by rfl) T.m_str (by decide +kernel) rfl) pa_nil))) (nomark _)) (pe_one (pe_cmpR op_eq (pv 0) (pv 1) (nomark _))))))))), ?_⟩
    rcases hL with ⟨rfl, hf⟩ | ⟨p, q', xs, ys, rfl, rfl, hS, hlen, hmax, hit⟩
    · -- a flat thing
      have ty : ∀ H', TyX K H' v (.type (tyD v)) := fun _ => tyx_f hf
      refine ⟨v, rfl, by show 2 ≤ sizeLine; decide, fun tp htp => ⟨v, tp, _, .type (tyD v), _, false, rfl, upd_same, pair_lt, ty _, ?_, false, rfl, iteF ?_⟩⟩
      · exact kit_lt hf
      have sm : Same H (upd H tp (.tup [V.ty "list", V.ty "tuple"])) := same_new htp
      generalize upd H tp (.tup [V.ty "list", V.ty "tuple"]) = H1 at sm
      by_cases hn : v = .non
      · subst hn
        refine ⟨.non, rfl, rfl, true, rfl, iteT (iteT ?_)⟩
        exact ⟨.non, rfl, rfl, true, rfl, iteT ⟨.non, rfl, rfl, q _ sm⟩⟩
      · have dn : decide (v = .non) = false := decide_eq_false hn
        refine ⟨v, rfl, rfl, _, rfl, ?_⟩
        rw [dn]
        refine iteF ⟨v, rfl, rfl, _, rfl, ?_⟩
        rw [dn]
        refine iteF ?_
        obtain ⟨rb, ri, rs, eb, ei, es, sc⟩ : ∃ rb ri rs, kitB (tyD v) "bool" = some rb ∧ kitB (tyD v) "int" = some ri ∧ kitB (tyD v) "str" = some rs ∧ scal v v = true := by
          cases v with
          | non => exact absurd rfl hn
          | bl b => exact ⟨_, _, _, (by decide +kernel : kitB "bool" "bool" = some true), (by decide +kernel : kitB "bool" "int" = some true), (by decide +kernel : kitB "bool" "str" = some false), rfl⟩
          | int b => exact ⟨_, _, _, (by decide +kernel : kitB "int" "bool" = some false), (by decide +kernel : kitB "int" "int" = some true), (by decide +kernel : kitB "int" "str" = some false), rfl⟩
          | str b => exact ⟨_, _, _, (by decide +kernel : kitB "str" "bool" = some false), (by decide +kernel : kitB "str" "int" = some false), (by decide +kernel : kitB "str" "str" = some true), rfl⟩
          | byt b => cases hf
          | flt b => cases hf
          | ref b => cases hf
          | ty b => cases hf
        refine ⟨v, rfl, v, .ty "bool", .type (tyD v), .type "bool", rb, rfl, .ty _, ty _, kt eb, v, rfl, v, .ty "bool", .type (tyD v), .type "bool", rb, rfl, .ty _, ty _, kt eb, rfl, _, rfl, iteNS rfl ?_⟩
        refine ⟨v, rfl, v, .ty "int", .type (tyD v), .type "int", ri, rfl, .ty _, ty _, kt ei, v, rfl, v, .ty "int", .type (tyD v), .type "int", ri, rfl, .ty _, ty _, kt ei, rfl, _, rfl, iteNS rfl ?_⟩
        refine ⟨v, rfl, v, .ty "str", .type (tyD v), .type "str", rs, rfl, .ty _, ty _, kt es, v, rfl, v, .ty "str", .type (tyD v), .type "str", rs, rfl, .ty _, ty _, kt es, rfl, _, rfl, ?_⟩
        rw [decide_eq_true rfl]
        refine iteT ⟨v, rfl, v, rfl, sc, ?_⟩
        rw [decide_eq_true rfl]
        exact q _ sm
    · obtain ⟨Tn, rl, rt, el, et, eo, tp, tq⟩ : ∃ (Tn : String) (rl rt : Bool), kitB Tn "list" = some rl ∧ kitB Tn "tuple" = some rt ∧ (rl || rt) = true ∧ (∀ H', Same H H' → TyX K H' (.ref p) (.type Tn)) ∧ (∀ H', Same H H' → TyX K H' (.ref q') (.type Tn)) := by
        rcases hS with ⟨hp, hq⟩ | ⟨hp, hq⟩
        · exact ⟨"list", true, false, by decide +kernel, by decide +kernel, rfl, fun H' s' => tyx_l (s'.seq hp), fun H' s' => tyx_l (s'.seq hq)⟩
        · exact ⟨"tuple", false, true, by decide +kernel, by decide +kernel, rfl, fun H' s' => tyx_t (same_tup s' hp), fun H' s' => tyx_t (same_tup s' hq)⟩
      refine ⟨.ref q', rfl, by show 2 ≤ sizeLine; decide, fun t htp => ⟨.ref q', t, _, .type Tn, _, true, rfl, upd_same, pair_lt, tq _ (same_new htp), kit2 el et eo.symm, true, rfl, iteT ?_⟩⟩
      have sm : Same H (upd H t (.tup [V.ty "list", V.ty "tuple"])) := same_new htp
      generalize upd H t (.tup [V.ty "list", V.ty "tuple"]) = H1 at sm
      refine ⟨.ref p, rfl, .ref p, .ty "list", .type Tn, .type "list", rl, rfl, .ty _, tp _ sm, kt el, .ref q', rfl, .ref q', .ty "list", .type Tn, .type "list", rl, rfl, .ty _, tq _ sm, kt el, rfl, _, rfl, iteNS rfl ?_⟩
      refine ⟨.ref p, rfl, .ref p, .ty "tuple", .type Tn, .type "tuple", rt, rfl, .ty _, tp _ sm, kt et, .ref q', rfl, .ref q', .ty "tuple", .type Tn, .type "tuple", rt, rfl, .ty _, tq _ sm, kt et, rfl, _, rfl, iteNS rfl ?_⟩
      have lp : LenV K (.ref p) H1 xs.length := by
        rcases hS with ⟨a, b⟩ | ⟨a, b⟩
        · exact .inl ⟨_, sm.seq a, rfl⟩
        · exact .inr ⟨_, same_tup sm a, rfl⟩
      have lq : LenV K (.ref q') H1 ys.length := by
        rcases hS with ⟨a, b⟩ | ⟨a, b⟩
        · exact .inl ⟨_, sm.seq b, rfl⟩
        · exact .inr ⟨_, same_tup sm b, rfl⟩
      refine ⟨.ref p, rfl, .ref p, _, rfl, lp, .ref q', rfl, .ref q', _, rfl, lq, rfl, _, rfl, ?_⟩
      rw [hlen, decide_eq_true rfl]
      refine iteT ⟨.ref p, rfl, .ref q', rfl, p, q', xs, ys, rfl, ?_⟩
      have fin : ∀ (D : Addr) (H' : Hp), H1 D = none → Same H1 H' → H' D = some (.lst (List.replicate xs.length (.bl true))) → rAll K [.ref D] H' Q := fun D H' nD sD eD =>
        ⟨D, List.replicate xs.length true, rfl, .of (by rw [List.map_replicate]; exact eD), by rw [rep_all]; exact q _ (sm.trans sD)⟩
      rcases hS with ⟨hp, hq⟩ | ⟨hp, hq⟩
      · refine .inl ⟨sm.seq hp, sm.seq hq, fun D nD => ?_⟩
        refine lc_it (walk_zip (n := xs.length) (by rw [← hlen, Nat.min_self])) (fun i H' => Same H1 H' ∧ H' D = some (.lst (List.replicate i (.bl true)))) ⟨same_new nD, upd_same⟩ (fun i H' _ hP => ⟨hP.1.seq (sm.seq hp), hP.1.seq (sm.seq hq)⟩) (fun i v H2 H3 hi hP hy => ?_) (fun H' hP => fin D H' nD hP.1 hP.2)
        obtain ⟨s2, e2⟩ := hP
        obtain ⟨T', x, y, rfl, nT, rfl, hx, hy⟩ := hy
        refine ⟨T', [x, y], rfl, .of upd_same, rfl, x, [y], rfl, y, [], rfl, rfl, rfl, yes_of (iteT ?_)⟩
        refine ⟨x, rfl, y, rfl, x, y, rfl, (hit i x y hx hy).same ((sm.trans s2).trans (same_new nT)), fun H5 s5 => ⟨List.replicate i (.bl true), s5 _ _ (same_new nT _ _ e2), small_lt (by rw [List.length_replicate]; omega), ?_, ?_⟩⟩
        · exact same_mut ((s2.trans (same_new nT)).trans s5) nD
        · rw [upd_same, rep_snoc]
      · refine .inr ⟨same_tup sm hp, same_tup sm hq, fun D nD => ?_⟩
        refine lc_it (walk_zipT (n := xs.length) (by rw [← hlen, Nat.min_self])) (fun i H' => Same H1 H' ∧ H' D = some (.lst (List.replicate i (.bl true)))) ⟨same_new nD, upd_same⟩ (fun i H' _ hP => ⟨same_tup hP.1 (same_tup sm hp), same_tup hP.1 (same_tup sm hq)⟩) (fun i v H2 H3 hi hP hy => ?_) (fun H' hP => fin D H' nD hP.1 hP.2)
        obtain ⟨s2, e2⟩ := hP
        obtain ⟨T', x, y, rfl, nT, rfl, hx, hy⟩ := hy
        refine ⟨T', [x, y], rfl, .of upd_same, rfl, x, [y], rfl, y, [], rfl, rfl, rfl, yes_of (iteT ?_)⟩
        refine ⟨x, rfl, y, rfl, x, y, rfl, (hit i x y hx hy).same ((sm.trans s2).trans (same_new nT)), fun H5 s5 => ⟨List.replicate i (.bl true), s5 _ _ (same_new nT _ _ e2), small_lt (by rw [List.length_replicate]; omega), ?_, ?_⟩⟩
        · exact same_mut ((s2.trans (same_new nT)).trans s5) nD
        · rw [upd_same, rep_snoc]
theorem cal_never {f : Addr} {fd : FuncData} {x : Str} {st : Stmt} {ps : List Str} (F : Fun K x x st f fd) (g : mg x = some (.ref f)) (b : Binds K fd ps []) : Cal P w K mg base 0 x ps (fun _ _ _ _ => False) :=
  ⟨f, fd, ⟨fun _ _ _ _ h => h.elim, fun _ _ _ _ _ _ _ _ _ _ _ _ _ h => h.elim⟩, g, F.kp, b⟩
theorem cal_like {f : Addr} {fd : FuncData} (F : Fun K "_law_like" "_law_like" sLLike f fd) (T : Txt mg) (g : mg "_law_like" = some (.ref f)) (b : Binds K fd ["_law_found", "_law_due"] []) :
    ∀ n, Cal P w K mg base n "_law_like" ["_law_found", "_law_due"] (spLike K n)
  | 0 => ⟨f, fd, ⟨fun _ _ _ _ h => by obtain ⟨_, _, _, h, _⟩ := h; exact h.elim, fun _ _ _ _ _ _ _ _ _ _ _ _ _ h => by obtain ⟨_, _, _, h, _⟩ := h; exact h.elim⟩, g, F.kp, b⟩
  | n + 1 => ⟨f, fd, ok_like_step F T (cal_like F T g b n), g, F.kp, b⟩
end
end Ink
namespace Ink
open PySem PySem.Spec PyProof.Rows L2
/-! ### what the defs reckon -/
def isSign (z : Str) : Bool := decide (V.int (z.length : Nat) = V.int 1) && (!decide (z.cps.toList < [97]) && !decide (([122] : List Nat) < z.cps.toList))
def lets : List Nat := [97, 98, 99, 100, 101, 102, 103, 104, 105, 106, 107, 108, 109, 110, 111, 112, 113, 114, 115, 116, 117, 118, 119, 120, 121, 122]
def lawName (z : Str) : Bool := decide ((0 : Int) < (z.length : Nat)) && decide (((z.length : Nat) : Int) < 7) && (z.cps.toList.map fun c => decide (c ∈ lets)).all id
def isName (z : Str) : Bool := decide ((1 : Int) ≤ (z.length : Nat)) && decide (((z.length : Nat) : Int) ≤ 6) && (z.cps.toList.map fun c => isSign ⟨#[c]⟩).all id
theorem lets_iff (c : Nat) : c ∈ lets ↔ 97 ≤ c ∧ c ≤ 122 := by
  unfold lets
  simp only [List.mem_cons, List.not_mem_nil, or_false]
  omega
theorem lt_one (a b : Nat) : (([a] : List Nat) < [b]) ↔ a < b := by
  constructor
  · intro h
    cases h with
    | rel h => exact h
    | cons h => cases h
  · intro h
    exact .rel h
theorem sign_one (c : Nat) : isSign ⟨#[c]⟩ = decide (c ∈ lets) := by
  unfold isSign
  rw [show decide (V.int (((⟨#[c]⟩ : Str).length : Nat) : Int) = V.int 1) = true from decide_eq_true rfl, Bool.true_and]
  show (!decide (([c] : List Nat) < [97]) && !decide (([122] : List Nat) < [c])) = _
  rw [decide_eq_decide.mpr (lt_one c 97), decide_eq_decide.mpr (lt_one 122 c), decide_eq_decide.mpr (lets_iff c)]
  by_cases h1 : c < 97
  · rw [decide_eq_true h1, decide_eq_false (by omega : ¬ (97 ≤ c ∧ c ≤ 122))]
    rfl
  · rw [decide_eq_false h1]
    by_cases h2 : 122 < c
    · rw [decide_eq_true h2, decide_eq_false (by omega : ¬ (97 ≤ c ∧ c ≤ 122))]
      rfl
    · rw [decide_eq_false h2, decide_eq_true (by omega : (97 ≤ c ∧ c ≤ 122))]
      rfl
theorem name_eq (z : Str) : isName z = lawName z := by
  unfold isName lawName
  rw [show (fun c => isSign ⟨#[c]⟩) = fun c => decide (c ∈ lets) from funext sign_one]
  rw [decide_eq_decide.mpr (show ((1 : Int) ≤ (z.length : Nat)) ↔ ((0 : Int) < (z.length : Nat)) by omega), decide_eq_decide.mpr (show (((z.length : Nat) : Int) ≤ 6) ↔ (((z.length : Nat) : Int) < 7) by omega)]
theorem sign_eq (z : Str) : isSign z = (lawName z && decide (V.int (z.length : Nat) = V.int 1)) := by
  by_cases h : z.length = 1
  · obtain ⟨c, rfl⟩ : ∃ c, z = ⟨#[c]⟩ := by
      obtain ⟨⟨l⟩⟩ := z
      have h : l.length = 1 := h
      cases l with
      | nil => cases h
      | cons c r =>
        cases r with
        | nil => exact ⟨c, rfl⟩
        | cons d r =>
          rw [List.length_cons, List.length_cons] at h
          omega
    rw [sign_one]
    unfold lawName
    show decide (c ∈ lets) = ((decide ((0 : Int) < 1) && decide ((1 : Int) < 7) && ([decide (c ∈ lets)]).all id) && decide (V.int 1 = V.int 1))
    rw [decide_eq_true (rfl : V.int 1 = V.int 1)]
    cases decide (c ∈ lets) <;> rfl
  · have e : decide (V.int (z.length : Nat) = V.int 1) = false := decide_eq_false fun q => h (by
      injection q with q
      omega)
    unfold isSign
    rw [e, Bool.and_false, Bool.false_and]
/-! ### a comprehension over a text, its items reckoned from the signs -/
theorem take_snoc {α : Type} {l : List α} {i : Nat} {x : α} (h : l[i]? = some x) : l.take (i + 1) = l.take i ++ [x] := by
  rw [List.take_add_one, h]
  rfl
theorem el_lcS {σ : L2.St} {H : Hp} {z : Str} {tl te : TE} {j : Nat} {vs : List Nat} (f : Nat → V) (h : Evl.Ev tl σ H (.str z)) (hz : z.length ≤ 40000) (hw : ∀ x, wipe ((wipe σ vs).set j (some x)) vs = wipe σ vs)
    (he : ∀ (c : Nat) H1, Evl.Ex H H1 → c ∈ z.cps.toList → Evl.Ev te ((wipe σ vs).set j (some (.str ⟨#[c]⟩))) H1 (f c)) : Evl.EvL (tLc (iStr tl) (gName j) tYes te vs) σ H (z.cps.toList.map f) := fun H0 e Q q => h H0 e _ fun H1 e1 => ⟨z, rfl, fun D nD =>
  lc_it walk_str (fun i H' => Evl.Ex H1 H' ∧ H' D = some (.lst ((z.cps.toList.map f).take i))) ⟨Evl.Ex.new nD, upd_same⟩ (fun _ _ _ _ => True.intro) (fun i v H2 H3 hi hP hy => by
    obtain ⟨rfl, c, hc, rfl⟩ := hy
    obtain ⟨s2, e2⟩ := hP
    have hc2 : z.cps.toList[i]? = some c := by rw [Array.getElem?_toList]; exact hc
    refine ⟨hw _, yes_of (iteT ?_)⟩
    refine he c H3 ((e.trans e1).trans s2) (List.mem_of_getElem? hc2) H3 (Evl.Ex.refl H3) _ fun H4 e4 => ⟨_, e4 _ _ e2, ?_, Evl.Ex.mut (s2.trans e4) nD, ?_⟩
    · rw [List.length_take, List.length_map]
      have hz2 : z.cps.size ≤ 40000 := hz
      exact small_lt (by omega)
    · rw [upd_same, take_snoc (x := f c) (by rw [List.getElem?_map, hc2]; rfl)]) (fun H' hP => by
    have ez : ((z.cps.toList.map f).take z.cps.size) = z.cps.toList.map f := List.take_of_length_le (by rw [List.length_map]; exact Nat.le_refl _)
    have h2 := hP.2
    rw [ez] at h2
    exact q D H' (Evl.fresh_back e1 nD) (e1.trans hP.1) h2)⟩
section
open Evl
variable {K : PySem.W.Frag} {σ : L2.St} {H : Hp} {ta tb tc te : TE}
theorem ev_all {bs : List Bool} (h : EvL te σ H (bs.map V.bl)) : Ev (tCB (rAll K) (tCons te tNil)) σ H (.bl (bs.all id)) := fun H1 e Q q => h H1 e _ fun p H2 np e2 hp => ⟨p, bs, rfl, .of hp, q H2 e2⟩
theorem ev_lenS {z : Str} (h : Ev te σ H (.str z)) (hz : z.length ≤ 1000000) : Ev (tCB (fun xs H Q => ∃ z : Str, xs = [.str z] ∧ z.length ≤ sizeLine ∧ Q (.int z.length) H) (tCons te tNil)) σ H (.int (z.length : Nat)) := fun H1 e Q q =>
  h H1 e _ fun H2 e2 => ⟨z, rfl, small_le hz, q H2 e2⟩
theorem ev_chainI {f g : Int → Int → Bool} {i j k : Int} (ha : Ev ta σ H (.int i)) (hb : Ev tb σ H (.int j)) (hc : Ev tc σ H (.int k)) : Ev (tChain (rI0 fun i j => .bl (f i j)) (rI0 fun i j => .bl (g i j)) ta tb tc) σ H (.bl (f i j && g j k)) := fun H1 e Q q =>
  ha H1 e _ fun H2 e2 => hb H2 (e.trans e2) _ fun H3 e3 => ⟨i, j, rfl, rfl, f i j, rfl, by
    cases h : f i j with
    | true =>
      rw [h] at q
      exact iteT (hc H3 ((e.trans e2).trans e3) _ fun H4 e4 => ⟨j, k, rfl, rfl, q H4 ((e2.trans e3).trans e4)⟩)
    | false =>
      rw [h] at q
      exact iteF (q H3 (e2.trans e3))⟩
theorem ev_chainS {R R' : R2} {f g : Str → Str → Bool} {x y z : Str} (hR : ∀ x y H (Q : VK), Q (.bl (f x y)) H → R (.str x) (.str y) H Q) (hR' : ∀ x y H (Q : VK), Q (.bl (g x y)) H → R' (.str x) (.str y) H Q)
    (ha : Ev ta σ H (.str x)) (hb : Ev tb σ H (.str y)) (hc : Ev tc σ H (.str z)) : Ev (tChain R R' ta tb tc) σ H (.bl (f x y && g y z)) := fun H1 e Q q =>
  ha H1 e _ fun H2 e2 => hb H2 (e.trans e2) _ fun H3 e3 => hR x y H3 _ ⟨f x y, rfl, by
    cases h : f x y with
    | true =>
      rw [h] at q
      exact iteT (hc H3 ((e.trans e2).trans e3) _ fun H4 e4 => hR' y z H4 Q (q H4 ((e2.trans e3).trans e4)))
    | false =>
      rw [h] at q
      exact iteF (q H3 (e2.trans e3))⟩
theorem ev_call {sp : Sp} {ta : TA} {vs : List V} {v : V} (h : EvA ta σ H vs) (hsp : ∀ H1 (Q : VK), Ex H H1 → (∀ H2, Ex H1 H2 → Q v H2) → sp vs H1 Q E0) : Ev (tCall sp [] E0 ta) σ H v := fun H1 e Q q =>
  h H1 e _ fun H2 e2 => by
    show sp (vs ++ []) H2 Q E0
    rw [List.append_nil]
    exact hsp H2 Q (e.trans e2) fun H3 e3 => q H3 (e2.trans e3)
end
def spSign : Sp := fun vs H Q _ => ∃ z, vs = [.str z] ∧ z.length ≤ 1000 ∧ ∀ H', Same H H' → Q (.bl (isSign z)) H'
def spLetters : Sp := fun vs H Q _ => vs = [] ∧ ∀ H', Same H H' → Q (.str ⟨lets.toArray⟩) H'
def spLawName : Sp := fun vs H Q _ => ∃ z, vs = [.str z] ∧ z.length ≤ 1000 ∧ ∀ H', Same H H' → Q (.bl (lawName z)) H'
def spName : Sp := fun vs H Q _ => ∃ z, vs = [.str z] ∧ z.length ≤ 1000 ∧ ∀ H', Same H H' → Q (.bl (isName z)) H'
section
variable {P : Program} {w : World} {K : PySem.W.Frag} {mg : Str → Option Value} {base : Heap}
theorem and_bl {b : Bool} {A : Prop} {Q : VK} {H : Hp} (h0 : b = false → Q (.bl false) H) (h1 : b = true → A) : if b = true then A else Q (.bl false) H := by
  cases b with
  | true => exact iteT (h1 rfl)
  | false => exact iteF (h0 rfl)
theorem bls_eq {α : Type} (l : List α) (g : α → Bool) : l.map (fun c => V.bl (g c)) = (l.map g).map V.bl := by
  rw [List.map_map]
  rfl
end
end Ink
namespace Ink
open PySem PySem.Spec PyProof.Rows L2
theorem joinL_len : ∀ ps : List (List Nat), (TL.joinL [] ps).length = (ps.map List.length).sum
  | [] => rfl
  | [p] => by
    show p.length = p.length + 0
    rfl
  | p :: q :: r => by
    show (p ++ ([] ++ TL.joinL [] (q :: r))).length = p.length + ((q :: r).map List.length).sum
    rw [List.length_append, List.nil_append, joinL_len (q :: r)]
theorem join_len (zs : List Str) : (Txt.join ⟨#[]⟩ zs).length = (zs.map (·.length)).sum := by
  rw [TL.join_eq]
  show (Str.join ⟨#[]⟩ zs).cps.toList.length = _
  have h := TL.tl_join ⟨#[]⟩ zs
  unfold TL.tl at h
  rw [h, joinL_len, List.map_map]
  rfl
theorem sum_ones : ∀ zs : List Str, (∀ z ∈ zs, z.length ≤ 1) → (zs.map (·.length)).sum ≤ zs.length
  | [], _ => Nat.le_refl _
  | z :: r, h => by
    have h1 := h z (List.mem_cons_self ..)
    have h2 := sum_ones r fun y hy => h y (List.mem_cons_of_mem _ hy)
    show z.length + (r.map (·.length)).sum ≤ r.length + 1
    omega

/-- texts cut at places -/
theorem cut_to {z : Str} {t : Int} (h : 0 ≤ t) : (cutS z none (some t)).cps.toList = z.cps.toList.take t.toNat := by
  have e : ((t.toNat : Nat) : Int) = t := by omega
  show (((z.cps.toList.drop (HT.sIx z.length 0 none)).take (HT.sIx z.length z.length (some t) - HT.sIx z.length 0 none)).toArray).toList = _
  rw [List.toList_toArray, HT.sIx_none, ← e, HT.sIx_nat, List.drop_zero, Nat.sub_zero, Int.toNat_natCast]
  by_cases hz : t.toNat ≤ z.length
  · rw [Nat.min_eq_left hz]
  · have hl : z.cps.toList.length = z.length := Array.length_toList
    rw [Nat.min_eq_right (by omega), List.take_of_length_le (by omega), List.take_of_length_le (by omega)]
theorem cut_from {z : Str} {t : Int} (h : 0 ≤ t) : (cutS z (some t) none).cps.toList = z.cps.toList.drop t.toNat := by
  have e : ((t.toNat : Nat) : Int) = t := by omega
  show (((z.cps.toList.drop (HT.sIx z.length 0 (some t))).take (HT.sIx z.length z.length none - HT.sIx z.length 0 (some t))).toArray).toList = _
  have hl : z.cps.toList.length = z.length := Array.length_toList
  rw [List.toList_toArray, HT.sIx_none, ← e, HT.sIx_nat, Int.toNat_natCast]
  by_cases hz : t.toNat ≤ z.length
  · rw [Nat.min_eq_left hz]
    exact List.take_of_length_le (by rw [List.length_drop]; omega)
  · rw [Nat.min_eq_right (by omega), List.drop_eq_nil_of_le (by omega), List.drop_eq_nil_of_le (by omega), List.take_nil]
theorem join_list (zs : List Str) : (Txt.join ⟨#[]⟩ zs).cps.toList = (zs.map fun z => z.cps.toList).flatten := by
  rw [TL.join_eq]
  have h := TL.tl_join ⟨#[]⟩ zs
  unfold TL.tl at h
  rw [h]
  have g : ∀ ps : List (List Nat), TL.joinL [] ps = ps.flatten := by
    intro ps
    induction ps with
    | nil => rfl
    | cons p r ih =>
      cases r with
      | nil =>
        show p = ([p] : List (List Nat)).flatten
        rw [List.flatten_cons, List.flatten_nil, List.append_nil]
      | cons q r =>
        show p ++ ([] ++ TL.joinL [] (q :: r)) = _
        rw [List.nil_append, ih]
        rfl
  exact g _
theorem join_ones (cs : List Nat) : (Txt.join ⟨#[]⟩ (cs.map fun c => ⟨#[c]⟩)).cps.toList = cs := by
  rw [join_list, List.map_map]
  induction cs with
  | nil => rfl
  | cons c r ih =>
    rw [List.map_cons, List.flatten_cons, ih]
    rfl
/-- a name: one to six small letters -/
def NameZ (z : Str) : Prop := 1 ≤ z.length ∧ z.length ≤ 6 ∧ ∀ c ∈ z.cps.toList, c ∈ lets
theorem NameZ.is {z : Str} (h : NameZ z) : lawName z = true := by
  unfold lawName
  obtain ⟨h1, h2, h3⟩ := h
  rw [decide_eq_true (by omega : (0 : Int) < (z.length : Nat)), decide_eq_true (by omega : ((z.length : Nat) : Int) < 7), Bool.true_and, Bool.true_and, List.all_map, List.all_eq_true]
  intro c hc
  exact decide_eq_true (h3 c hc)
def single (c : Nat) : Str := ⟨#[c]⟩
theorem lets_at {i : Int} (h0 : 0 ≤ i) (h1 : i < 26) : lets[i.toNat]? = some (97 + i.toNat) ∧ 97 + i.toNat ∈ lets := by
  have h : ∀ n : Nat, n < 26 → lets[n]? = some (97 + n) ∧ 97 + n ∈ lets := by decide
  exact h i.toNat (by omega)
end Ink
namespace Ink
open PySem PySem.Spec PyProof.Rows L2
section
variable {P : Program} {w : World} {K : PySem.W.Frag} {mg : Str → Option Value} {base : Heap}
theorem ok_letters {f : Addr} {fd : FuncData} {k : Nat} (F : Fun K "_law_letters" "_law_letters" sLLetters f fd) : FnOk P w K mg base CX0 (k + 1) f fd [] spLetters := by
  refine F.ok sc__law_letters (fun vs H Q E h => ?_) (fun cdv A outer s H vs Q E hr h => ?_)
  · obtain ⟨rfl, _⟩ := h
    rfl
  · obtain ⟨rfl, q⟩ := h
    refine ⟨_, (pss_one (ps_ret pe_str)), ?_⟩
    exact q H (Same.refl H)
end
end Ink
namespace Ink
open PySem PySem.Spec PyProof.Rows L2
/-- names: one to six small letters each, unlike -/
def spNames : Sp := fun vs H Q _ => ∃ (a l : Addr) (m : Int), vs = [.ref a, .int m] ∧ BagAt H a l ∧ 0 ≤ m ∧ m ≤ 20 ∧ ∀ p (zs : List Str) H', H p = none → zs.length = m.toNat → (∀ z ∈ zs, NameZ z) → zs.Nodup → H' p = some (.lst (zs.map V.str)) → BagAt H' a l → Keep a H H' → Q (.ref p) H'
theorem mod_apart {s t : Int} {i j : Nat} (ht : t = 1 ∨ t = 3 ∨ t = 5 ∨ t = 7) (hi : i < 26) (hj : j < 26) (h : (s + t * (i : Int)) % 26 = (s + t * (j : Int)) % 26) : i = j := by
  rcases ht with rfl | rfl | rfl | rfl <;> omega
theorem odd_of {v : V} (h : v ∈ [V.int 1, V.int 3, V.int 5, V.int 7]) : ∃ t : Int, v = .int t ∧ (t = 1 ∨ t = 3 ∨ t = 5 ∨ t = 7) := by
  simp only [List.mem_cons, List.not_mem_nil, or_false] at h
  rcases h with rfl | rfl | rfl | rfl
  · exact ⟨_, rfl, .inl rfl⟩
  · exact ⟨_, rfl, .inr (.inl rfl)⟩
  · exact ⟨_, rfl, .inr (.inr (.inl rfl))⟩
  · exact ⟨_, rfl, .inr (.inr (.inr rfl))⟩
/-- the sign at one place tells the names apart -/
def Apart (s t at' : Int) (zs : List Str) : Prop := ∀ (j : Nat) z, zs[j]? = some z → z.cps.toList[at'.toNat]? = some (97 + ((s + t * (j : Int)) % 26).toNat)
theorem Apart.nodup {s t at' : Int} {zs : List Str} (ht : t = 1 ∨ t = 3 ∨ t = 5 ∨ t = 7) (hl : zs.length ≤ 20) (h : Apart s t at' zs) : zs.Nodup := by
  rw [List.nodup_iff_pairwise_ne, List.pairwise_iff_getElem]
  intro i j hi hj hij e
  have h1 := h i _ (List.getElem?_eq_getElem hi)
  have h2 := h j _ (List.getElem?_eq_getElem hj)
  rw [e] at h1
  have h3 := Option.some.inj (h1.symm.trans h2)
  have m1 := Int.emod_nonneg (s + t * (i : Int)) (show (26 : Int) ≠ 0 by decide)
  have m2 := Int.emod_nonneg (s + t * (j : Int)) (show (26 : Int) ≠ 0 by decide)
  have := mod_apart (s := s) (t := t) (i := i) (j := j) ht (by omega) (by omega) (by omega)
  omega
/-- base[:at] + sign + base[at + 1:], then cut -/
theorem name_made {b z : Str} {at' u : Int} {c : Nat} (hb : NameZ b) (h0 : 0 ≤ at') (h1 : at' < (b.length : Nat)) (hc : c ∈ lets) (hz : z.cps.toList = b.cps.toList.take at'.toNat ++ [c] ++ b.cps.toList.drop (at' + 1).toNat) :
    (NameZ z ∧ z.cps.toList[at'.toNat]? = some c) ∧ (at' + 1 ≤ u → NameZ (cutS z none (some u)) ∧ (cutS z none (some u)).cps.toList[at'.toNat]? = some c) := by
  obtain ⟨b1, b2, b3⟩ := hb
  have bl : b.cps.toList.length = b.length := Array.length_toList
  have zl : z.cps.toList.length = z.length := Array.length_toList
  have zl2 : z.length = b.length := by
    rw [← zl, hz, List.length_append, List.length_append, List.length_take, List.length_drop, List.length_singleton]
    omega
  have zm : ∀ x ∈ z.cps.toList, x ∈ lets := by
    intro x hx
    rw [hz] at hx
    rcases List.mem_append.mp hx with hx | hx
    · rcases List.mem_append.mp hx with hx | hx
      · exact b3 x (List.mem_of_mem_take hx)
      · rw [List.mem_singleton.mp hx]
        exact hc
    · exact b3 x (List.mem_of_mem_drop hx)
  have zat : z.cps.toList[at'.toNat]? = some c := by
    have tl : (b.cps.toList.take at'.toNat).length = at'.toNat := by
      rw [List.length_take]
      omega
    rw [hz, List.append_assoc, List.getElem?_append_right (by omega), tl, Nat.sub_self]
    rfl
  refine ⟨⟨⟨by omega, by omega, zm⟩, zat⟩, fun hu => ?_⟩
  have e := cut_to (z := z) (t := u) (by omega)
  have cl : (cutS z none (some u)).cps.toList.length = (cutS z none (some u)).length := Array.length_toList
  refine ⟨⟨?_, ?_, fun x hx => ?_⟩, ?_⟩
  · rw [← cl, e, List.length_take]
    omega
  · have := cutS_length z none (some u)
    omega
  · rw [e] at hx
    exact zm x (List.mem_of_mem_take hx)
  · rw [e, List.getElem?_take_of_lt (by omega)]
    exact zat
theorem sum_single : ∀ cs : List Nat, ((cs.map fun c => (⟨#[c]⟩ : Str)).map (·.length)).sum = cs.length
  | [] => rfl
  | c :: r => by
    rw [List.map_cons, List.map_cons, List.sum_cons, sum_single r, List.length_cons]
    show 1 + r.length = r.length + 1
    omega
section
variable {P : Program} {w : World} {K : PySem.W.Frag} {mg : Str → Option Value} {base : Heap}
theorem ok_names {f : Addr} {fd : FuncData} {k : Nat} (F : Fun K "_law_names" "_law_names" sLNames f fd) (T : Txt mg)
    (C__law_pull : Cal P w K mg base k "_law_pull" ["_law_bag_here", "_law_many"] spPull) (C__law_of : Cal P w K mg base k "_law_of" ["_law_bag_here", "_law_things"] (spOf K)) (C__law_letters : Cal P w K mg base k "_law_letters" [] spLetters) :
    FnOk P w K mg base CX0 (k + 1) f fd ["_law_bag_here", "_law_many"] spNames := by
  refine F.ok sc__law_names (fun vs H Q E h => ?_) (fun cdv A outer s H vs Q E hr h => ?_)
  · obtain ⟨a, l, m, rfl, _⟩ := h
    rfl
  · obtain ⟨a, l, m, rfl, hB, m0, m1, q⟩ := h
    refine ⟨_, (pss_cons (ps_asg (pe_tup (pa_cons (pe_op op_add pe_int (pe_callC C__law_pull hr (by rfl) (pa_cons (pv 0) (pa_cons pe_int pa_nil)))) (pa_cons (pe_callC0 C__law_letters hr (by rfl)) pa_nil))) (pg_tup rfl (pgs_cons (pg_name (i := 2) sc__law_names.nd rfl (.inl rfl)) (pgs_cons (pg_name (i := 3) sc__law_names.nd rfl (.inr rfl)) pgs_nil))))
    (pss_cons (ps_par (i := 4) (j := 5) (by rfl) sc__law_names.nd rfl rfl (by decide) rfl rfl (pa_cons (pe_callC C__law_pull hr (by rfl) (pa_cons (pv 0) (pa_cons (pv 2) pa_nil))) (pa_cons (pe_callC C__law_pull hr (by rfl) (pa_cons (pv 0) (pa_cons pe_int pa_nil))) pa_nil)) (by rfl))
    (pss_cons (ps_set (i := 6) sc__law_names.nd rfl (.inl rfl) (pe_callC C__law_of hr (by rfl) (pa_cons (pv 0) (pa_cons (pe_lst (pa_cons pe_int (pa_cons pe_int (pa_cons pe_int (pa_cons pe_int pa_nil))))) pa_nil))))
    (pss_cons (ps_par (i := 7) (j := 8) (by rfl) sc__law_names.nd rfl rfl (by decide) rfl rfl (pa_cons (pe_join pe_str (pe_lc (own := [("_law_k", 9)]) (g := (gName 9)) (by rfl) sc__law_names.nd (pi_range1 (by rfl) T.m_range (pa_cons (pv 2) pa_nil)) (blkOk_by (own := [("_law_k", 9)]) (N := ["_law_bag_here", "_law_many", "_law_size", "_law_letters_here", "_law_at", "_law_start", "_law_step", "_law_base", "_law_found", "_law_k", "_law_sign", "_law_name"]) (sc := defScope sLNames) (by decide +kernel)) (fun _ _ _ _ _ => (pg_name (i := 9) sc__law_names.nd rfl (Or.inl rfl))) (fun _ _ _ _ _ => pts_nil) (fun _ _ _ _ _ => (pe_callC C__law_of hr (by rfl) (pa_cons (pv 0) (pa_cons (pv 3) pa_nil)))))) (pa_cons (pe_lst pa_nil) pa_nil)) (by rfl))
    (pss_cons (ps_for PassesOwn.never rfl (pi_range1 (by rfl) T.m_range (pa_cons (pv 1) pa_nil)) (pg_name (i := 9) sc__law_names.nd rfl (.inl rfl))
    (pss_cons (ps_set (i := 10) sc__law_names.nd rfl (.inl rfl) (pe_ix ix_str (pv 3) (pe_op op_mod (pe_op op_add (pv 5) (pe_op op_mul (pv 6) (pv 9))) pe_int) (fun _ _ => rfl)))
    (pss_cons (ps_set (i := 11) sc__law_names.nd rfl (.inl rfl) (pe_op op_add_str (pe_op op_add_str (pe_slice sl_str (pv 7) po_none (po_some (pv 4))) (pv 10)) (pe_slice sl_str (pv 7) (po_some (pe_op op_add (pv 4) pe_int)) po_none)))
    (pss_one (ps_expr (pe_bm PySem.F.plainAttrs_list PySem.F.slot_list_append PySem.F.type_list_append mt_append (pv 8) (pa_cons (pe_ifExp (pt_cmpR op_eq (pe_callC C__law_pull hr (by rfl) (pa_cons (pv 0) (pa_cons pe_int pa_nil))) pe_int (nomark _)) (pe_slice sl_str (pv 11) po_none (po_some (pe_callB (call_max2 rfl) (by rfl) T.m_max (by decide +kernel) (pa_cons (pe_op op_add (pv 4) pe_int) (pa_cons (pe_op op_sub (pv 2) (pv 9)) pa_nil))))) (pv 11)) pa_nil)))))))
    (pss_one (ps_ret (pv 8)))))))), ?_⟩
    -- size, letters
    refine ⟨.ref a, rfl, a, l, 6, rfl, hB, by decide, by decide, fun sz' H1 z0 z1 hB1 k1 => ⟨1, sz', rfl, rfl, rfl, fun H2 s2 => ⟨by show 2 ≤ sizeLine; decide, fun p1 np1 => ?_⟩⟩⟩
    have hB2 := hB1.same s2
    have hB3 := hB2.upd (o := .tup [V.int (1 + sz'), V.str ⟨lets.toArray⟩]) (hB2.ne np1)
    have k3 : Keep a H (upd H2 p1 (.tup [V.int (1 + sz'), V.str ⟨lets.toArray⟩])) := (k1.trans (Keep.of_same s2)).trans (Keep.of_same (same_new np1))
    refine ⟨p1, _, rfl, .of upd_same, rfl, _, _, rfl, _, _, rfl, rfl, ?_⟩
    -- at, start
    refine ⟨.ref a, rfl, .int (1 + sz'), rfl, a, l, _, rfl, hB3, by omega, by omega, fun at' H4 a0 a1 hB4 k4 => ?_⟩
    refine ⟨.ref a, rfl, a, l, 26, rfl, hB4, by decide, by decide, fun st H5 s0 s1 hB5 k5 => ⟨_, _, rfl, ?_⟩⟩
    -- step
    refine ⟨.ref a, rfl, by show 4 ≤ sizeLine; decide, fun p2 np2 => ?_⟩
    refine ⟨a, l, _, _, rfl, hB5.upd (hB5.ne np2), .inl ⟨p2, rfl, (hB5.ne np2).1.symm, .inl (.of upd_same)⟩, by decide, by decide, fun v H6 hv hB6 k6 => ?_⟩
    obtain ⟨t, rfl, ht⟩ := odd_of hv
    have k56 : Keep a H H6 := ((k3.trans k4).trans k5).trans ((Keep.of_same (same_new np2)).trans k6)
    -- base, found
    refine ⟨⟨_, rfl⟩, .int (1 + sz'), rfl, _, rfl, by omega, by omega, fun D nD => ?_⟩
    refine lc_it walk_range (fun i H' => BagAt H' a l ∧ Keep a H6 H' ∧ ∃ cs : List Nat, cs.length = i ∧ (∀ c ∈ cs, c ∈ lets) ∧ H' D = some (.lst ((cs.map fun c => (⟨#[c]⟩ : Str)).map V.str))) ⟨hB6.upd (hB6.ne nD), Keep.mut (Keep.refl H6) nD, [], rfl, fun _ h => (nomatch h), upd_same⟩ (fun _ _ _ _ => True.intro) (fun i x H7 H8 hi hP hy => ?_) (fun H7 hP => ?_)
    · obtain ⟨hB7, k7, cs, rfl, hcs, eD⟩ := hP
      obtain ⟨rfl, rfl⟩ := hy
      refine ⟨rfl, yes_of (iteT ?_)⟩
      refine ⟨.ref a, rfl, _, rfl, a, l, _, _, rfl, hB7, .inr ⟨_, rfl, rfl⟩, by decide, by decide, fun v H9 hv hB9 k9 => ?_⟩
      obtain ⟨c, hc, rfl⟩ := List.mem_map.mp hv
      have hc : c ∈ lets := by simpa using hc
      refine ⟨_, k9 D _ (hB6.ne nD).1.symm eD, ?_, hB9.upd (hB6.ne nD), Keep.mut (k7.trans k9) nD, cs ++ [c], ?_, ?_, ?_⟩
      · rw [List.length_map, List.length_map]
        exact small_lt (by omega)
      · rw [List.length_append]
        rfl
      · intro x h
        rcases List.mem_append.mp h with h | h
        · exact hcs x h
        · rw [List.mem_singleton.mp h]
          exact hc
      · rw [upd_same, List.map_append, List.map_append]
        rfl
    · obtain ⟨hB7, k7, cs, ecs, hcs, eD⟩ := hP
      refine ⟨_, D, _, rfl, rfl, .inl (.of eD), ?_, ?_⟩
      · rw [sum_single, List.length_map]
        show cs.length + cs.length * 0 ≤ 16777216
        omega
      have jb := join_ones cs
      change (Txt.join (Str.ofString "") (cs.map fun c => ⟨#[c]⟩)).cps.toList = cs at jb
      generalize Txt.join (Str.ofString "") (cs.map fun c => ⟨#[c]⟩) = b at jb
      have bl : b.length = cs.length := by
        rw [← jb]
        exact Array.length_toList.symm
      have hb : NameZ b := ⟨by omega, by omega, by rw [jb]; exact hcs⟩
      -- found
      refine ⟨by show 0 ≤ sizeLine; decide, fun fo nfo => ⟨_, _, rfl, ?_⟩⟩
      have hB8 := hB7.upd (o := .lst []) (hB7.ne nfo)
      have nfo0 : H fo = none := by
        cases h : H fo with
        | none => rfl
        | some o =>
          by_cases e : fo = a
          · exact absurd e.symm (hB7.ne nfo).1
          · rw [(k56.trans k7) fo o e h] at nfo
            cases nfo
      have k8 : Keep a H (upd H7 fo (.lst [])) := (k56.trans k7).trans (Keep.of_same (same_new nfo))
      have fa : a ≠ fo ∧ l ≠ fo := hB7.ne nfo
      have e8 : (upd H7 fo (.lst [])) fo = some (.lst []) := upd_same
      generalize upd H7 fo (.lst []) = H8 at hB8 k8 e8
      -- the loop
      refine ⟨.int m, rfl, m, rfl, by omega, by omega, for_it walk_range0 (fun i σ H' => (∃ y9 y10 y11, σ = [some (.ref a), some (.int m), some (.int (1 + sz')), some (.str ⟨lets.toArray⟩), some (.int at'), some (.int st), some (.int t), some (.str b), some (.ref fo), y9, y10, y11]) ∧ BagAt H' a l ∧ Keep a H H' ∧
        ∃ zs : List Str, zs.length = i ∧ (∀ z ∈ zs, NameZ z) ∧ Apart st t at' zs ∧ H' fo = some (.lst (zs.map V.str))) ⟨⟨none, none, none, rfl⟩, hB8, k8, [], rfl, fun _ h => (nomatch h), fun j z h => by simp at h, e8⟩ (fun _ _ _ _ _ => True.intro) (fun i x σ H9 H10 hi hP hy => ?_) (fun σ H9 hP => ?_)⟩
      · obtain ⟨⟨y9, y10, y11, rfl⟩, hB9, k9, zs, rfl, hzs, hap, efo⟩ := hP
        obtain ⟨rfl, rfl⟩ := hy
        have n0 := Int.emod_nonneg (st + t * (zs.length : Int)) (show (26 : Int) ≠ 0 by decide)
        have n1 := Int.emod_lt_of_pos (st + t * (zs.length : Int)) (show (0 : Int) < 26 by decide)
        obtain ⟨l1, l2⟩ := lets_at n0 n1
        -- sign
        refine ⟨.str ⟨lets.toArray⟩, rfl, .int st, rfl, .int t, rfl, _, rfl, t, (zs.length : Int), rfl, rfl, .inl ⟨by omega, by omega⟩, st, _, rfl, rfl, _, 26, rfl, rfl, (by show (0 : Int) < 26; decide), ⟨lets.toArray⟩, _, 97 + ((st + t * (zs.length : Int)) % 26).toNat, rfl, rfl, (by decide), atI_of n0 (by rw [List.toList_toArray]; exact l1), ?_⟩
        have hcc : some (97 + ((st + t * (zs.length : Int)) % 26).toNat) = some (97 + ((st + t * (zs.length : Int)) % 26).toNat) := rfl
        generalize hc : 97 + ((st + t * (zs.length : Int)) % 26).toNat = c at l1 l2
        have ez : ∀ z : Str, z = (cutS b none (some at') ++ ⟨#[c]⟩) ++ cutS b (some (at' + 1)) none → z.cps.toList = b.cps.toList.take at'.toNat ++ [c] ++ b.cps.toList.drop (at' + 1).toNat := fun z e => by
          rw [e, Str.cps_append, Str.cps_append, Array.toList_append, Array.toList_append, cut_to a0, cut_from (by omega)]
        have c1 := cutS_length b none (some at')
        have c2 := cutS_length b (some (at' + 1)) none
        have cb : (⟨#[c]⟩ : Str).length = 1 := rfl
        -- name
        refine ⟨.str b, rfl, .int at', rfl, at', rfl, b, rfl, small_le (by omega), .str ⟨#[c]⟩, rfl, _, _, rfl, rfl, small_le (by omega), .str b, rfl, .int at', rfl, at', 1, rfl, rfl, _, rfl, b, rfl, small_le (by omega), _, _, rfl, rfl, ?_, ?_⟩
        · rw [Str.length_append]
          exact small_le (by omega)
        obtain ⟨z, hz⟩ : ∃ z, z = (cutS b none (some at') ++ ⟨#[c]⟩) ++ cutS b (some (at' + 1)) none := ⟨_, rfl⟩
        rw [← hz]
        have ⟨⟨nz, za⟩, nu⟩ := name_made (u := if (1 + sz') - (zs.length : Int) > at' + 1 then (1 + sz') - (zs.length : Int) else at' + 1) hb a0 (by omega) l2 (ez z hz)
        have nu := nu (by split <;> omega)
        have fin : ∀ (y : Str) (H11 : Hp), BagAt H11 a l → Keep a H10 H11 → NameZ y → y.cps.toList[at'.toNat]? = some c → BagAt (upd H11 fo (.lst (zs.map V.str ++ [.str y]))) a l ∧ Keep a H (upd H11 fo (.lst (zs.map V.str ++ [.str y]))) ∧
            ∃ zs' : List Str, zs'.length = zs.length + 1 ∧ (∀ z ∈ zs', NameZ z) ∧ Apart st t at' zs' ∧ (upd H11 fo (.lst (zs.map V.str ++ [.str y]))) fo = some (.lst (zs'.map V.str)) := fun y H11 hB11 k11 ny ya => by
          refine ⟨hB11.upd fa, Keep.mut (k9.trans k11) nfo0, zs ++ [y], ?_, ?_, ?_, ?_⟩
          · rw [List.length_append]
            rfl
          · intro x hx
            rcases List.mem_append.mp hx with hx | hx
            · exact hzs x hx
            · rw [List.mem_singleton.mp hx]
              exact ny
          · intro j x hj
            by_cases hjl : j < zs.length
            · rw [List.getElem?_append_left hjl] at hj
              exact hap j x hj
            · have hlt := (List.getElem?_eq_some_iff.mp hj).1
              rw [List.length_append, List.length_singleton] at hlt
              have ej : j = zs.length := by omega
              subst ej
              rw [List.getElem?_append_right (Nat.le_refl _), Nat.sub_self] at hj
              rw [← Option.some.inj hj, hc]
              exact ya
          · rw [upd_same, List.map_append]
            rfl
        refine ⟨.ref fo, rfl, .inl ⟨rfl, _, .of efo⟩, .ref a, rfl, a, l, 3, rfl, hB9, by decide, by decide, fun r H11 r0 r1 hB11 k11 => ⟨rfl, _, rfl, ite2 (fun e => ?_) (fun e => ?_)⟩⟩
        · have efo2 := k11 fo _ fa.1.symm efo
          refine ⟨.str z, rfl, .int at', rfl, at', 1, rfl, rfl, .int (1 + sz'), rfl, .int (zs.length : Int), rfl, _, _, rfl, rfl, _, _, rfl, _, rfl, z, rfl, small_le (by have := nz.2.1; omega), fo, _, _, rfl, rfl, efo2, by rw [List.length_map]; exact small_lt (by omega), ?_⟩
          exact ⟨⟨_, _, _, rfl⟩, fin _ H11 hB11 k11 nu.1 nu.2⟩
        · have efo2 := k11 fo _ fa.1.symm efo
          exact ⟨.str z, rfl, fo, _, _, rfl, rfl, efo2, by rw [List.length_map]; exact small_lt (by omega), ⟨_, _, _, rfl⟩, fin _ H11 hB11 k11 nz za⟩
      · obtain ⟨⟨y9, y10, y11, rfl⟩, hB9, k9, zs, ezs, hzs, hap, efo⟩ := hP
        exact ⟨.ref fo, rfl, q fo zs H9 nfo0 ezs hzs (hap.nodup ht (by omega)) efo hB9 k9⟩
end
end Ink
namespace Ink
open PySem PySem.Spec PyProof.Rows L2
/-- signs: unlike small letters, rising -/
def spSigns : Sp := fun vs H Q _ => ∃ (a l : Addr) (m : Int), vs = [.ref a, .int m] ∧ BagAt H a l ∧ 1 ≤ m ∧ m ≤ 20 ∧ ∀ p (cs : List Nat) H', H p = none → 1 ≤ cs.length → (cs.length : Int) ≤ m → (∀ c ∈ cs, c ∈ lets) → cs.Pairwise (· < ·) → H' p = some (.lst ((cs.map single).map V.str)) → BagAt H' a l → Keep a H H' → Q (.ref p) H'
theorem lt_single (c d : Nat) : ltCps (single c).cps.toList (single d).cps.toList = decide (c < d) := by
  show (decide (c < d) || (c == d && ltCps [] [])) = _
  rw [show ltCps [] [] = false from rfl, Bool.and_false, Bool.or_false]
theorem rising_lt : ∀ (cs : List Nat) (c : Nat), risingS (single c) (cs.map single) = true → (c :: cs).Nodup → (c :: cs).Pairwise (· < ·)
  | [], c, _, _ => List.pairwise_singleton _ _
  | d :: r, c, h, hn => by
    have h : (!ltCps (single d).cps.toList (single c).cps.toList && risingS (single d) (r.map single)) = true := h
    rw [Bool.and_eq_true, lt_single] at h
    have hcd : ¬ d < c := fun q => by
      rw [decide_eq_true q] at h
      exact nomatch h.1
    have hn2 := List.nodup_cons.mp hn
    have ih := rising_lt r d h.2 hn2.2
    have hne : c ≠ d := fun e => hn2.1 (by rw [e]; exact List.mem_cons_self ..)
    refine List.pairwise_cons.mpr ⟨fun e he => ?_, ih⟩
    rcases List.mem_cons.mp he with he | he
    · omega
    · have := (List.pairwise_cons.mp ih).1 e he
      omega
def hdZ (z : Str) : Nat := z.cps.toList.headD 0
theorem map_hd (cs : List Nat) : (cs.map single).map hdZ = cs := by
  rw [List.map_map]
  exact List.map_id _
theorem sorted_singles {ys : List Str} {cs : List Nat} (hp : ys.Perm (cs.map single)) (hs : sortedS ys = true) (hn : cs.Nodup) :
    ∃ ds : List Nat, ys = ds.map single ∧ ds.Perm cs ∧ ds.Pairwise (· < ·) := by
  have e : ys = (ys.map hdZ).map single := by
    rw [List.map_map]
    refine (List.map_id ys).symm.trans (List.map_congr_left fun y hy => ?_)
    obtain ⟨c, _, rfl⟩ := List.mem_map.mp (hp.mem_iff.mp hy)
    rfl
  have pm : (ys.map hdZ).Perm cs := by
    have := hp.map hdZ
    rw [map_hd] at this
    exact this
  refine ⟨ys.map hdZ, e, pm, ?_⟩
  have nd : (ys.map hdZ).Nodup := pm.nodup_iff.mpr hn
  rw [e] at hs
  generalize ys.map hdZ = ds at hs nd
  cases ds with
  | nil => exact .nil
  | cons d r => exact rising_lt r d hs nd
section
variable {P : Program} {w : World} {K : PySem.W.Frag} {mg : Str → Option Value} {base : Heap}
theorem ok_signs {f : Addr} {fd : FuncData} {k : Nat} (F : Fun K "_law_signs" "_law_signs" sLSigns f fd) (T : Txt mg)
    (C__law_pull : Cal P w K mg base k "_law_pull" ["_law_bag_here", "_law_many"] spPull) (C__law_of : Cal P w K mg base k "_law_of" ["_law_bag_here", "_law_things"] (spOf K)) (C__law_letters : Cal P w K mg base k "_law_letters" [] spLetters) :
    FnOk P w K mg base CX0 (k + 1) f fd ["_law_bag_here", "_law_limit"] spSigns := by
  refine F.ok sc__law_signs (fun vs H Q E h => ?_) (fun cdv A outer s H vs Q E hr h => ?_)
  · obtain ⟨a, l, m, rfl, _⟩ := h
    rfl
  · obtain ⟨a, l, m, rfl, hB, m0, m1, q⟩ := h
    refine ⟨_, (pss_cons (ps_asg (pe_tup (pa_cons (pe_callC C__law_pull hr (by rfl) (pa_cons (pv 0) (pa_cons pe_int pa_nil))) (pa_cons (pe_callC C__law_of hr (by rfl) (pa_cons (pv 0) (pa_cons (pe_lst (pa_cons pe_int (pa_cons pe_int (pa_cons pe_int (pa_cons pe_int pa_nil))))) pa_nil))) pa_nil))) (pg_tup rfl (pgs_cons (pg_name (i := 2) sc__law_signs.nd rfl (.inr rfl)) (pgs_cons (pg_name (i := 3) sc__law_signs.nd rfl (.inr rfl)) pgs_nil))))
    (pss_cons (ps_asg (pe_tup (pa_cons (pe_op op_add pe_int (pe_callC C__law_pull hr (by rfl) (pa_cons (pv 0) (pa_cons (pv 1) pa_nil)))) (pa_cons (pe_callC0 C__law_letters hr (by rfl)) pa_nil))) (pg_tup rfl (pgs_cons (pg_name (i := 4) sc__law_signs.nd rfl (.inl rfl)) (pgs_cons (pg_name (i := 5) sc__law_signs.nd rfl (.inr rfl)) pgs_nil))))
    (pss_one (ps_ret (pe_callB cr_sortedS (by rfl) T.m_sorted (by decide +kernel) (pa_cons (pe_lc (own := [("_law_k", 6)]) (g := (gName 6)) (by rfl) sc__law_signs.nd (pi_range1 (by rfl) T.m_range (pa_cons (pv 4) pa_nil)) (blkOk_by (own := [("_law_k", 6)]) (N := ["_law_bag_here", "_law_limit", "_law_start", "_law_step", "_law_many", "_law_letters_here", "_law_k"]) (sc := defScope sLSigns) (by decide +kernel)) (fun _ _ _ _ _ => (pg_name (i := 6) sc__law_signs.nd rfl (Or.inl rfl))) (fun _ _ _ _ _ => pts_nil) (fun _ _ _ _ _ => (pe_ix ix_str (pv 5) (pe_op op_mod (pe_op op_add (pv 2) (pe_op op_mul (pv 3) (pv 6))) pe_int) (fun _ _ => rfl)))) pa_nil)))))), ?_⟩
    -- start, step
    refine ⟨.ref a, rfl, a, l, 26, rfl, hB, by decide, by decide, fun st H1 s0 s1 hB1 k1 => ?_⟩
    refine ⟨.ref a, rfl, by show 4 ≤ sizeLine; decide, fun p2 np2 => ?_⟩
    refine ⟨a, l, _, _, rfl, hB1.upd (hB1.ne np2), .inl ⟨p2, rfl, (hB1.ne np2).1.symm, .inl (.of upd_same)⟩, by decide, by decide, fun v H2 hv hB2 k2 => ?_⟩
    obtain ⟨t, rfl, ht⟩ := odd_of hv
    refine ⟨by show 2 ≤ sizeLine; decide, fun p3 np3 => ?_⟩
    have hB3 := hB2.upd (o := .tup [V.int st, V.int t]) (hB2.ne np3)
    have k3 : Keep a H (upd H2 p3 (.tup [V.int st, V.int t])) := (k1.trans ((Keep.of_same (same_new np2)).trans k2)).trans (Keep.of_same (same_new np3))
    refine ⟨p3, _, rfl, .of upd_same, rfl, _, _, rfl, _, _, rfl, rfl, ?_⟩
    -- many, letters
    refine ⟨.ref a, rfl, .int m, rfl, a, l, m, rfl, hB3, by omega, by omega, fun n H4 n0 n1 hB4 k4 => ⟨1, n, rfl, rfl, rfl, fun H5 s5 => ⟨by show 2 ≤ sizeLine; decide, fun p6 np6 => ?_⟩⟩⟩
    have hB5 := hB4.same s5
    have hB6 := hB5.upd (o := .tup [V.int (1 + n), V.str ⟨lets.toArray⟩]) (hB5.ne np6)
    have k6 : Keep a H (upd H5 p6 (.tup [V.int (1 + n), V.str ⟨lets.toArray⟩])) := ((k3.trans k4).trans (Keep.of_same s5)).trans (Keep.of_same (same_new np6))
    refine ⟨p6, _, rfl, .of upd_same, rfl, _, _, rfl, _, _, rfl, rfl, ?_⟩
    -- the signs
    refine ⟨.int (1 + n), rfl, 1 + n, rfl, by omega, by omega, fun D nD => ?_⟩
    refine lc_it walk_range0 (fun i H' => BagAt H' a l ∧ Keep a H H' ∧ H' D = some (.lst ((((List.range i).map fun j : Nat => 97 + ((st + t * (j : Int)) % 26).toNat).map single).map V.str))) ⟨hB6.upd (hB6.ne nD), k6.trans (Keep.of_same (same_new nD)), upd_same⟩ (fun _ _ _ _ => True.intro) (fun i x H7 H8 hi hP hy => ?_) (fun H7 hP => ?_)
    · obtain ⟨hB7, k7, eD⟩ := hP
      obtain ⟨rfl, rfl⟩ := hy
      have n0 := Int.emod_nonneg (st + t * (i : Int)) (show (26 : Int) ≠ 0 by decide)
      have n1 := Int.emod_lt_of_pos (st + t * (i : Int)) (show (0 : Int) < 26 by decide)
      obtain ⟨l1, l2⟩ := lets_at n0 n1
      have nD0 : H D = none := by
        cases h : H D with
        | none => rfl
        | some o =>
          by_cases e : D = a
          · exact absurd e.symm (hB6.ne nD).1
          · rw [k6 D o e h] at nD
            cases nD
      refine ⟨rfl, yes_of (iteT ?_)⟩
      refine ⟨.str ⟨lets.toArray⟩, rfl, .int st, rfl, .int t, rfl, _, rfl, t, (i : Int), rfl, rfl, .inl ⟨by omega, by omega⟩, st, _, rfl, rfl, _, 26, rfl, rfl, (by show (0 : Int) < 26; decide), ⟨lets.toArray⟩, _, 97 + ((st + t * (i : Int)) % 26).toNat, rfl, rfl, (by decide), atI_of n0 (by rw [List.toList_toArray]; exact l1), ?_⟩
      refine ⟨_, eD, ?_, hB7.upd (hB6.ne nD), Keep.mut k7 nD0, ?_⟩
      · rw [List.length_map, List.length_map, List.length_map, List.length_range]
        exact small_lt (by omega)
      · rw [upd_same, List.range_succ, List.map_append, List.map_append, List.map_append]
        rfl
    · obtain ⟨hB7, k7, eD⟩ := hP
      refine ⟨D, _, rfl, .of eD, ?_, fun ys p pm hs np => ?_⟩
      · rw [List.length_map, List.length_map, List.length_range]
        omega
      have nd : ((List.range (1 + n).toNat).map fun j : Nat => 97 + ((st + t * (j : Int)) % 26).toNat).Nodup := by
        rw [List.nodup_iff_pairwise_ne, List.pairwise_map]
        refine List.Pairwise.imp_of_mem (fun {i j} hi hj hij e => hij ?_) (List.nodup_iff_pairwise_ne.mp List.nodup_range)
        have hi := List.mem_range.mp hi
        have hj := List.mem_range.mp hj
        have m1 := Int.emod_nonneg (st + t * (i : Int)) (show (26 : Int) ≠ 0 by decide)
        have m2 := Int.emod_nonneg (st + t * (j : Int)) (show (26 : Int) ≠ 0 by decide)
        exact mod_apart (s := st) (t := t) ht (by omega) (by omega) (by omega)
      obtain ⟨ds, rfl, pd, hlt⟩ := sorted_singles pm hs nd
      have hlen : ds.length = (1 + n).toNat := by
        rw [pd.length_eq, List.length_map, List.length_range]
      have np0 : H p = none := by
        cases h : H p with
        | none => rfl
        | some o =>
          by_cases e : p = a
          · exact absurd e.symm (hB7.ne np).1
          · rw [k7 p o e h] at np
            cases np
      refine q p ds _ np0 (by omega) (by omega) (fun c hc => ?_) hlt upd_same (hB7.upd (hB7.ne np)) (k7.trans (Keep.of_same (same_new np)))
      obtain ⟨j, _, rfl⟩ := List.mem_map.mp (pd.mem_iff.mp hc)
      exact (lets_at (Int.emod_nonneg _ (by decide)) (Int.emod_lt_of_pos _ (by decide))).2
end
end Ink
namespace Ink
open PySem PySem.Spec PyProof.Rows L2
/-- an arrow: place, sign, place -/
abbrev Arw := Int × Str × Int
def ArwAt (H : Hp) (p : Addr) (x : Arw) : Prop := H p = some (.tup [.int x.1, .str x.2.1, .int x.2.2])
def ArsAt (H : Hp) (ps : List Addr) (ar : List Arw) : Prop := Paired (ArwAt H) ps ar
theorem tup_ne {H : Hp} {a l p : Addr} {xs : List V} (b : BagAt H a l) (h : H p = some (.tup xs)) : p ≠ a := by
  obtain ⟨ns, x, y, z, h1, _⟩ := b
  exact fun e => by
    rw [e, h1] at h
    cases h
theorem ArsAt.keep {H H' : Hp} {a l : Addr} {ps : List Addr} {ar : List Arw} (b : BagAt H a l) (k : Keep a H H') (h : ArsAt H ps ar) : ArsAt H' ps ar := L2.Paired.mapP h fun p x hx => k p _ (tup_ne b hx) hx
theorem ArsAt.same {H H' : Hp} {ps : List Addr} {ar : List Arw} (k : Same H H') (h : ArsAt H ps ar) : ArsAt H' ps ar := L2.Paired.mapP h fun p x hx => k p _ hx
theorem prd_snoc {α β : Type} {F : α → β → Prop} : ∀ {xs : List α} {ys : List β} {x : α} {y : β}, Paired F xs ys → F x y → Paired F (xs ++ [x]) (ys ++ [y])
  | _, _, _, _, .nil, h => .cons h .nil
  | _, _, _, _, .cons r t, h => .cons r (prd_snoc t h)
def goodA (x : Arw) : Prop := 0 ≤ x.1 ∧ x.1 ≤ 2 ∧ (∃ c ∈ lets, x.2.1 = single c) ∧ 0 ≤ x.2.2 ∧ x.2.2 ≤ 2
def lessA (x y : Arw) : Prop := x.1 < y.1 ∨ (x.1 = y.1 ∧ x.2.1.cps.toList < y.2.1.cps.toList)
/-- what a drawn writer has -/
structure GoodW (z : Str) (ar : List Arw) (p c : Int) : Prop where
  name : NameZ z
  len : ar.length ≤ 9
  each : ∀ x ∈ ar, goodA x
  rise : ar.Pairwise lessA
  p0 : 0 ≤ p
  p3 : p ≤ 3
  c0 : 0 ≤ c
  c3 : c ≤ 3
def WrAt (H : Hp) (W : Addr) (z : Str) (ar : List Arw) (p c : Int) : Prop := ∃ tp ps, H W = some (.tup [.str z, .ref tp, .int p, .int c]) ∧ H tp = some (.tup (ps.map V.ref)) ∧ ArsAt H ps ar
theorem WrAt.keep {H H' : Hp} {a l W : Addr} {z : Str} {ar : List Arw} {p c : Int} (b : BagAt H a l) (k : Keep a H H') (h : WrAt H W z ar p c) : WrAt H' W z ar p c := by
  obtain ⟨tp, ps, h1, h2, h3⟩ := h
  exact ⟨tp, ps, k _ _ (tup_ne b h1) h1, k _ _ (tup_ne b h2) h2, h3.keep b k⟩
theorem WrAt.same {H H' : Hp} {W : Addr} {z : Str} {ar : List Arw} {p c : Int} (k : Same H H') (h : WrAt H W z ar p c) : WrAt H' W z ar p c := by
  obtain ⟨tp, ps, h1, h2, h3⟩ := h
  exact ⟨tp, ps, k _ _ h1, k _ _ h2, h3.same k⟩
theorem Keep.free {a D : Addr} {H H' : Hp} (k : Keep a H H') (n : a ≠ D) (h : H' D = none) : H D = none := by
  cases e : H D with
  | none => rfl
  | some o =>
    rw [k D o n.symm e] at h
    cases h
def spWriter : Sp := fun vs H Q _ => ∃ (a l : Addr) (z : Str) (m : Int) (sp : Addr) (cs : List Nat) (th : Int), vs = [.ref a, .str z, .int m, .ref sp, .int th] ∧ BagAt H a l ∧ NameZ z ∧ 1 ≤ m ∧ m ≤ 3 ∧
  H sp = some (.lst ((cs.map single).map V.str)) ∧ sp ≠ a ∧ (∀ c ∈ cs, c ∈ lets) ∧ cs.Pairwise (· < ·) ∧ ∀ W ar p c H', H W = none → WrAt H' W z ar p c → GoodW z ar p c → BagAt H' a l → Keep a H H' → Q (.ref W) H'
section
variable {P : Program} {w : World} {K : PySem.W.Frag} {mg : Str → Option Value} {base : Heap}
theorem count_of {v : V} (h : v ∈ [V.int 0, V.int 0, V.int 0, V.int 1, V.int 2, V.int 3]) : ∃ t : Int, v = .int t ∧ 0 ≤ t ∧ t ≤ 3 := by
  simp only [List.mem_cons, List.not_mem_nil, or_false] at h
  rcases h with rfl | rfl | rfl | rfl | rfl | rfl <;> exact ⟨_, rfl, by decide, by decide⟩
theorem pair_get {cs : List Nat} (hp : cs.Pairwise (· < ·)) {i j x y : Nat} (hi : cs[i]? = some x) (hj : cs[j]? = some y) (h : i < j) : x < y := by
  obtain ⟨h1, e1⟩ := List.getElem?_eq_some_iff.mp hi
  obtain ⟨h2, e2⟩ := List.getElem?_eq_some_iff.mp hj
  have := (List.pairwise_iff_getElem.mp hp) i j h1 h2 h
  rw [e1, e2] at this
  exact this
/-- the lines so far, ahead of the j-th sign at the place i -/
def Lines (cs : List Nat) (i j : Nat) (ar : List Arw) : Prop := ar.length ≤ 9 ∧ (∀ x ∈ ar, goodA x) ∧ ar.Pairwise lessA ∧ ∀ x ∈ ar, x.1 < (i : Int) ∨ (x.1 = (i : Int) ∧ ∃ (j' c : Nat), j' < j ∧ cs[j']? = some c ∧ x.2.1 = single c)
theorem Lines.next {cs : List Nat} {i j : Nat} {ar : List Arw} (h : Lines cs i j ar) : Lines cs i (j + 1) ar := by
  obtain ⟨h1, h2, h3, h4⟩ := h
  refine ⟨h1, h2, h3, fun x hx => ?_⟩
  rcases h4 x hx with h | ⟨e, j', c, h5, h6⟩
  · exact .inl h
  · exact .inr ⟨e, j', c, by omega, h6⟩
theorem Lines.row {cs : List Nat} {i j : Nat} {ar : List Arw} (h : Lines cs i j ar) : Lines cs (i + 1) 0 ar := by
  obtain ⟨h1, h2, h3, h4⟩ := h
  refine ⟨h1, h2, h3, fun x hx => .inl ?_⟩
  rcases h4 x hx with h | ⟨e, _⟩ <;> omega
theorem Lines.more {cs : List Nat} {i j c : Nat} {t : Int} {ar : List Arw} (h : Lines cs i j ar) (hl : ar.length < 9) (hc : cs[j]? = some c) (hm : c ∈ lets) (hp : cs.Pairwise (· < ·)) (hi : i ≤ 2) (t0 : 0 ≤ t) (t1 : t ≤ 2) : Lines cs i (j + 1) (ar ++ [((i : Int), single c, t)]) := by
  obtain ⟨h1, h2, h3, h4⟩ := h
  refine ⟨by rw [List.length_append, List.length_singleton]; omega, fun x hx => ?_, ?_, fun x hx => ?_⟩
  · rcases List.mem_append.mp hx with hx | hx
    · exact h2 x hx
    · rw [List.mem_singleton.mp hx]
      exact ⟨by show (0 : Int) ≤ (i : Int); omega, by show ((i : Int)) ≤ 2; omega, ⟨c, hm, rfl⟩, t0, t1⟩
  · refine List.pairwise_append.mpr ⟨h3, List.pairwise_singleton _ _, fun x hx y hy => ?_⟩
    rw [List.mem_singleton.mp hy]
    rcases h4 x hx with h | ⟨e, j', d, h5, h6, h7⟩
    · exact .inl h
    · refine .inr ⟨e, ?_⟩
      show x.2.1.cps.toList < (single c).cps.toList
      rw [h7]
      exact (lt_one d c).mpr (pair_get hp h6 hc h5)
  · rcases List.mem_append.mp hx with hx | hx
    · rcases h4 x hx with h | ⟨e, j', d, h5, h6⟩
      · exact .inl h
      · exact .inr ⟨e, j', d, by omega, h6⟩
    · rw [List.mem_singleton.mp hx]
      exact .inr ⟨rfl, j, c, by omega, hc, rfl⟩
theorem ok_writer {f : Addr} {fd : FuncData} {k : Nat} (F : Fun K "_law_writer" "_law_writer" sLWriter f fd) (T : Txt mg)
    (C__law_pull : Cal P w K mg base k "_law_pull" ["_law_bag_here", "_law_many"] spPull) (C__law_of : Cal P w K mg base k "_law_of" ["_law_bag_here", "_law_things"] (spOf K)) :
    FnOk P w K mg base CX0 (k + 1) f fd ["_law_bag_here", "_law_name", "_law_places", "_law_signs_here", "_law_thick"] spWriter := by
  refine F.ok sc__law_writer (fun vs H Q E h => ?_) (fun cdv A outer s H vs Q E hr h => ?_)
  · obtain ⟨a, l, z, m, sp, cs, th, rfl, _⟩ := h
    rfl
  · obtain ⟨a, l, z, m, sp, cs, th, rfl, hB, hz, m0, m1, hsp, nsp, hcs, hrise, q⟩ := h
    refine ⟨_, (pss_cons (ps_set (i := 5) sc__law_writer.nd rfl (.inl rfl) (pe_lst pa_nil))
    (pss_cons (ps_for PassesOwn.never rfl (pi_range1 (by rfl) T.m_range (pa_cons (pv 2) pa_nil)) (pg_name (i := 6) sc__law_writer.nd rfl (.inl rfl))
    (pss_one (ps_for PassesOwn.never rfl (pi_list (pv 3)) (pg_name (i := 7) sc__law_writer.nd rfl (.inl rfl))
    (pss_one (ps_if (PW.pt (pw_and (pt_cmpR op_lt (pe_callB call_len (by rfl) T.m_len PySem.boot_len (pa_cons (pv 5) pa_nil)) pe_int (nomark _)) (pw_and1 (pt_cmpR op_lt (pe_callC C__law_pull hr (by rfl) (pa_cons (pv 0) (pa_cons pe_int pa_nil))) (pv 4) (nomark _)))))
    (pss_one (ps_expr (pe_bm PySem.F.plainAttrs_list PySem.F.slot_list_append PySem.F.type_list_append mt_append (pv 5) (pa_cons (pe_tup (pa_cons (pv 6) (pa_cons (pv 7) (pa_cons (pe_callC C__law_pull hr (by rfl) (pa_cons (pv 0) (pa_cons (pv 2) pa_nil))) pa_nil)))) pa_nil)))) pss_nil)))))
    (pss_cons (ps_set (i := 8) sc__law_writer.nd rfl (.inl rfl) (pe_lst (pa_cons pe_int (pa_cons pe_int (pa_cons pe_int (pa_cons pe_int (pa_cons pe_int (pa_cons pe_int pa_nil))))))))
    (pss_one (ps_ret (pe_tup (pa_cons (pv 1) (pa_cons (pe_callTy call_tuple_of (by rfl) T.m_tuple (by decide +kernel) (pa_cons (pv 5) pa_nil)) (pa_cons (pe_callC C__law_of hr (by rfl) (pa_cons (pv 0) (pa_cons (pv 8) pa_nil))) (pa_cons (pe_callC C__law_of hr (by rfl) (pa_cons (pv 0) (pa_cons (pv 8) pa_nil))) pa_nil)))))))))), ?_⟩
    refine ⟨by show 0 ≤ sizeLine; decide, fun ln nln => ?_⟩
    have nl := hB.ne nln
    have nls : sp ≠ ln := ne_of_none hsp nln
    refine ⟨.int m, rfl, m, rfl, by omega, by omega, for_it walk_range0 (fun i σ H' => (∃ y6 y7 y8, σ = [some (.ref a), some (.str z), some (.int m), some (.ref sp), some (.int th), some (.ref ln), y6, y7, y8]) ∧ BagAt H' a l ∧ Keep a H H' ∧
      ∃ ps ar, H' ln = some (.lst (ps.map V.ref)) ∧ ArsAt H' ps ar ∧ Lines cs i 0 ar) ⟨⟨none, none, none, rfl⟩, hB.upd nl, Keep.mut (Keep.refl H) nln, [], [], upd_same, .nil, by decide, (fun _ h => nomatch h), .nil, (fun _ h => nomatch h)⟩ (fun _ _ _ _ _ => True.intro) (fun i x σ H1 H2 hi hP hy => ?_) (fun σ H1 hP => ?_)⟩
    · obtain ⟨⟨y6, y7, y8, rfl⟩, hB1, k1, ps, ar, eln, hps, hL⟩ := hP
      obtain ⟨rfl, rfl⟩ := hy
      have es : ∀ H', Keep a H H' → H' sp = some (.lst ((cs.map single).map V.str)) := fun H' k => k sp _ nsp hsp
      refine ⟨.ref sp, rfl, sp, rfl, ⟨_, .of (es _ k1)⟩, for_it (walk_list (xs := (cs.map single).map V.str)) (fun j σ H' => (∃ y7 y8, σ = [some (.ref a), some (.str z), some (.int m), some (.ref sp), some (.int th), some (.ref ln), some (.int (i : Int)), y7, y8]) ∧ BagAt H' a l ∧ Keep a H H' ∧
        ∃ ps ar, H' ln = some (.lst (ps.map V.ref)) ∧ ArsAt H' ps ar ∧ Lines cs i j ar) ⟨⟨_, _, rfl⟩, hB1, k1, ps, ar, eln, hps, hL⟩ (fun _ _ H' _ hP => .of (es _ hP.2.2.1)) (fun j x σ H3 H4 hj hP hy => ?_) (fun σ H3 hP => ?_)⟩
      · obtain ⟨⟨y7, y8, rfl⟩, hB3, k3, ps, ar, eln, hps, hL⟩ := hP
        obtain ⟨rfl, hx⟩ := hy
        obtain ⟨c, hc, rfl⟩ : ∃ c, cs[j]? = some c ∧ x = .str (single c) := by
          rw [List.getElem?_map, List.getElem?_map] at hx
          cases h : cs[j]? with
          | none =>
            rw [h] at hx
            cases hx
          | some c =>
            rw [h] at hx
            exact ⟨c, rfl, (Option.some.inj hx).symm⟩
        have hm : c ∈ lets := hcs c (List.mem_of_getElem? hc)
        have elen : ps.length = ar.length := Paired.length hps
        -- len(lines) < 9
        refine ⟨.ref ln, rfl, .ref ln, _, rfl, .inl ⟨_, .of eln, rfl⟩, _, _, rfl, rfl, _, rfl, ite2 (fun e => ?_) (fun e => ?_)⟩
        · have e : (((ps.map V.ref).length : Nat) : Int) < 9 := of_decide_eq_true e
          rw [List.length_map] at e
          refine ⟨.ref a, rfl, a, l, 8, rfl, hB3, by decide, by decide, fun r H5 _ _ hB5 k5 => ⟨.int th, rfl, _, _, rfl, rfl, _, rfl, ite2 (fun e2 => ?_) (fun e2 => ?_)⟩⟩
          · refine ⟨.ref ln, rfl, .inl ⟨rfl, _, .of (k5 ln _ nl.1.symm eln)⟩, _, rfl, _, rfl, .ref a, rfl, .int m, rfl, a, l, m, rfl, hB5, by omega, by omega, fun t H6 t0 t1 hB6 k6 => ⟨by show 3 ≤ sizeLine; decide, fun p np => ?_⟩⟩
            have hps5 := hps.keep hB3 k5
            have hps6 := (hps5.keep hB5 k6).same (same_new (o := .tup [V.int (i : Int), V.str (single c), V.int t]) np)
            have eln6 := k6 ln _ nl.1.symm (k5 ln _ nl.1.symm eln)
            have npl : ln ≠ p := ne_of_none eln6 np
            refine ⟨ln, _, _, rfl, rfl, (same_new np ln _ eln6), by rw [List.length_map]; exact small_lt (by omega), ⟨_, _, rfl⟩, (hB6.upd (hB6.ne np)).upd nl, Keep.mut ((k3.trans (k5.trans k6)).trans (Keep.of_same (same_new np))) nln, ps ++ [p], ar ++ [((i : Int), single c, t)], ?_, ?_, hL.more (by omega) hc hm hrise (by omega) t0 (by omega)⟩
            · rw [upd_same, List.map_append]
              rfl
            · refine prd_snoc (L2.Paired.mapP hps6 fun p' x' hx' => ?_) ?_
              · show upd _ ln _ p' = _
                rw [upd_ne (ne_of hx' (same_new np ln _ eln6) (by intro z; cases z))]
                exact hx'
              · show upd _ ln _ p = _
                rw [upd_ne npl.symm, upd_same]
          · exact ⟨⟨_, _, rfl⟩, hB5, k3.trans k5, ps, ar, k5 ln _ nl.1.symm eln, hps.keep hB3 k5, hL.next⟩
        · exact iteF ⟨⟨_, _, rfl⟩, hB3, k3, ps, ar, eln, hps, hL.next⟩
      · obtain ⟨⟨y7, y8, rfl⟩, hB3, k3, ps, ar, eln, hps, hL⟩ := hP
        exact ⟨⟨_, _, _, rfl⟩, hB3, k3, ps, ar, eln, hps, hL.row⟩
    · obtain ⟨⟨y6, y7, y8, rfl⟩, hB1, k1, ps, ar, eln, hps, hL⟩ := hP
      -- counts
      refine ⟨by show 6 ≤ sizeLine; decide, fun cp ncp => ?_⟩
      have hB2 := hB1.upd (o := .lst [V.int 0, .int 0, .int 0, .int 1, .int 2, .int 3]) (hB1.ne ncp)
      have k2 := Keep.of_same (a := a) (same_new (o := .lst [V.int 0, .int 0, .int 0, .int 1, .int 2, .int 3]) ncp)
      have ncpa : cp ≠ a := (hB1.ne ncp).1.symm
      -- the tuple of lines
      refine ⟨.str z, rfl, .ref ln, rfl, ln, _, rfl, .inl ⟨.of (k2 ln _ nl.1.symm eln), fun tp ntp => ?_⟩⟩
      have hB3 := hB2.upd (o := .tup (ps.map V.ref)) (hB2.ne ntp)
      have k3 := Keep.of_same (a := a) (same_new (o := .tup (ps.map V.ref)) ntp)
      refine ⟨.ref a, rfl, .ref cp, rfl, a, l, _, _, rfl, hB3, .inl ⟨cp, rfl, ncpa, .inl (.of (k3 cp _ ncpa upd_same))⟩, by decide, by decide, fun v H4 hv hB4 k4 => ?_⟩
      obtain ⟨p, rfl, p0, p3⟩ := count_of hv
      refine ⟨.ref a, rfl, .ref cp, rfl, a, l, _, _, rfl, hB4, .inl ⟨cp, rfl, ncpa, .inl (.of (k4 cp _ ncpa (k3 cp _ ncpa upd_same)))⟩, by decide, by decide, fun v H5 hv hB5 k5 => ?_⟩
      obtain ⟨c, rfl, c0, c3⟩ := count_of hv
      refine ⟨by show 4 ≤ sizeLine; decide, fun W nW => ?_⟩
      have k25 := (k2.trans k3).trans (k4.trans k5)
      have k6 := Keep.of_same (a := a) (same_new (o := .tup [V.str z, .ref tp, .int p, .int c]) nW)
      have nW1 : H W = none := (k1.trans k25).free (hB5.ne nW).1 nW
      refine q W ar p c _ nW1 ⟨tp, ps, upd_same, ?_, ?_⟩ ⟨hz, hL.1, hL.2.1, hL.2.2.1, p0, p3, c0, c3⟩ (hB5.upd (hB5.ne nW)) ((k1.trans k25).trans k6)
      · exact k6 tp _ (hB2.ne ntp).1.symm ((k4.trans k5) tp _ (hB2.ne ntp).1.symm upd_same)
      · exact (hps.keep hB1 k25).keep hB5 k6
end
end Ink
namespace Ink
open PySem PySem.Spec PyProof.Rows L2
/-- (i, x) < (j, y) -/
def ltIS (i : Int) (x : Str) (j : Int) (y : Str) : Bool := if i = j then (if x = y then false else decide (x.cps.toList < y.cps.toList)) else decide (i < j)
def rLtIS (K : PySem.W.Frag) : R2 := fun u v H Q => ∃ a b i x j y, u = .ref a ∧ v = .ref b ∧ SqT K H a [.int i, .str x] ∧ SqT K H b [.int j, .str y] ∧ Q (.bl (ltIS i x j y)) H
theorem op_ltIS {X : Cx} (hu : X.A.units < cLine) : OpR X (compareOp .Lt) (rLtIS X.K) := by
  intro pins s σ H u v uu vv Q I ru rv h
  obtain ⟨a, b, i, x, j, y, rfl, rfl, ha, hb, q⟩ := h
  cases ru
  cases rv
  obtain ⟨its, r1, p1, _⟩ := I.tuple ha
  obtain ⟨its2, r2, p2, _⟩ := I.tuple hb
  cases r1 with
  | cons q1 r1 =>
  cases r1 with
  | cons q2 r1 =>
  cases r1
  cases r2 with
  | cons q3 r2 =>
  cases r2 with
  | cons q4 r2 =>
  cases r2
  obtain ⟨t1, rfl⟩ := q1
  obtain ⟨t2, rfl⟩ := q2
  obtain ⟨t3, rfl⟩ := q3
  obtain ⟨t4, rfl⟩ := q4
  have R := Ob.RcOp.tuples_lt (A := X.A) (s := s) (e := fun n => if n = 0 then i == j else x == y) (r := fun n => if n = 0 then decide (i < j) else decide (x.cps.toList < y.cps.toList)) p1 p2 hu
    (fun n h1 h2 => by
      have hn : n = 0 ∨ n = 1 := by
        have : n < 2 := h1
        omega
      rcases hn with rfl | rfl
      · exact SeqAt.EqAt.int_int i t1 j t3
      · exact SeqAt.EqAt.str_str x t2 y t4)
    (fun n h1 h2 _ => by
      have hn : n = 0 ∨ n = 1 := by
        have : n < 2 := h1
        omega
      rcases hn with rfl | rfl
      · exact Ob.RcOp.lt_int i j t1 t3
      · exact fun _ _ _ _ h => PySem.P.lt_str h)
  refine R _ _ _ _ ⟨.bl (ltIS i x j y), H, I, ?_, q⟩
  show Value.bool _ = Value.bool _
  congr 1
  show (if (i == j) = true then (if (x == y) = true then decide ((2 : Nat) < 2) else decide (x.cps.toList < y.cps.toList)) else decide (i < j)) = ltIS i x j y
  unfold ltIS
  by_cases h : i = j
  · rw [if_pos (beq_iff_eq.mpr h), if_pos h]
    by_cases h2 : x = y
    · rw [if_pos (beq_iff_eq.mpr h2), if_pos h2]
      rfl
    · rw [if_neg (fun z => h2 (beq_iff_eq.mp z)), if_neg h2]
  · rw [if_neg (fun z => h (beq_iff_eq.mp z)), if_neg h]
end Ink
namespace Ink
open PySem PySem.Spec PyProof.Rows L2
section
variable {P : Program} {w : World} {K : PySem.W.Frag} {mg : Str → Option Value} {base : Heap}
theorem ok_is_sign {f : Addr} {fd : FuncData} {k : Nat} (F : Fun K "is_sign" "is_sign" sIsSign f fd) (T : Txt mg) : FnOk P w K mg base CX0 (k + 1) f fd ["text"] spSign := by
  refine F.ok sc_is_sign (fun vs H Q E h => ?_) (fun cdv A outer s H vs Q E hr h => ?_)
  · obtain ⟨z, rfl, _⟩ := h
    rfl
  · obtain ⟨z, rfl, hz, q⟩ := h
    refine ⟨_, (pss_one (ps_ret (pe_and (pe_cmpR op_eq (pe_callB call_len_str (by rfl) T.m_len PySem.boot_len (pa_cons (pv 0) pa_nil)) pe_int (nomark _)) (pe_one (pe_chain op_le_str op_le_str pe_str (pv 0) pe_str))))), ?_⟩
    refine (Evl.ev_andV (Evl.ev_op (ev_lenS (Evl.ev_var rfl) (by omega)) Evl.ev_c (Evl.rv_eq rfl)) fun _ => ev_chainS (f := fun x y => !decide (y.cps.toList < x.cps.toList)) (g := fun x y => !decide (y.cps.toList < x.cps.toList)) (fun x y H Q h => ⟨x, y, rfl, rfl, h⟩) (fun x y H Q h => ⟨x, y, rfl, rfl, h⟩) Evl.ev_c (Evl.ev_var rfl) Evl.ev_c) H (Same.refl H) _ fun H2 e2 => q H2 e2
theorem ok_is_name {f : Addr} {fd : FuncData} {k : Nat} (F : Fun K "is_name" "is_name" sIsName f fd) (T : Txt mg) (C_is_sign : Cal P w K mg base k "is_sign" ["text"] spSign) : FnOk P w K mg base CX0 (k + 1) f fd ["text"] spName := by
  refine F.ok sc_is_name (fun vs H Q E h => ?_) (fun cdv A outer s H vs Q E hr h => ?_)
  · obtain ⟨z, rfl, _⟩ := h
    rfl
  · obtain ⟨z, rfl, hz, q⟩ := h
    refine ⟨_, (pss_one (ps_ret (pe_and (pe_chain op_le op_le pe_int (pe_callB call_len_str (by rfl) T.m_len PySem.boot_len (pa_cons (pv 0) pa_nil)) (pe_globI (by rfl) T.e__MOST_LETTERS)) (pe_one (pe_callB (cr_all rfl) (by rfl) T.m_all (by decide +kernel) (pa_cons (pe_lc (own := [("letter", 1)]) (g := (gName 1)) (by rfl) sc_is_name.nd (pi_str (pv 0)) (blkOk_by (own := [("letter", 1)]) (N := ["text", "letter"]) (sc := defScope sIsName) (by decide +kernel)) (fun _ _ _ _ _ => (pg_name (i := 1) sc_is_name.nd rfl (Or.inl rfl))) (fun _ _ _ _ _ => pts_nil) (fun _ _ _ _ _ => (pe_callC C_is_sign hr (by rfl) (pa_cons (pv 1) pa_nil)))) pa_nil)))))), ?_⟩
    refine (Evl.ev_andV (ev_chainI (f := fun i j => decide (i ≤ j)) (g := fun i j => decide (i ≤ j)) Evl.ev_c (ev_lenS (Evl.ev_var rfl) (by omega)) Evl.ev_c) fun _ => ev_all (bs := z.cps.toList.map fun c => isSign ⟨#[c]⟩) ?_) H (Same.refl H) _ fun H2 e2 => q H2 e2
    rw [← bls_eq]
    refine el_lcS _ (Evl.ev_var rfl) (by omega) (fun _ => rfl) (fun c H1 e1 _ => ?_)
    exact ev_call (Evl.ea_cons (Evl.ev_var rfl) Evl.ea_nil) fun H2 Q2 _ q2 => ⟨_, rfl, by show 1 ≤ 1000; decide, q2⟩
end
end Ink
namespace Ink
open PySem PySem.Spec PyProof.Rows L2
def within (n m : Int) : Bool := decide (0 ≤ n) && decide (n ≤ m)
def okA (x : Arw) : Bool := within x.1 2 && (isSign x.2.1 && within x.2.2 2)
def ltAt (ar : List Arw) (k : Nat) : Bool := match ar[k]?, ar[k + 1]? with
  | some x, some y => ltIS x.1 x.2.1 y.1 y.2.1
  | _, _ => true
def riseB (ar : List Arw) : Bool := ((List.range (ar.length - 1)).map (ltAt ar)).all id
def areArr (ar : List Arw) : Bool := if (9 : Int) < (ar.length : Nat) then false else if (ar.map okA).all id = false then false else riseB ar
def isWr (z : Str) (ar : List Arw) (p c : Int) : Bool := isName z && (areArr ar && (within p 3 && within c 3))
/-- texts of arrows are short -/
def ShortA (ar : List Arw) : Prop := ar.length ≤ 1000 ∧ ∀ x ∈ ar, x.2.1.length ≤ 1000
def spCount : Sp := fun vs H Q _ => ∃ n : Int, vs = [.int n] ∧ ∀ H', Same H H' → Q (.bl (within n 3)) H'
def spPlace : Sp := fun vs H Q _ => ∃ n : Int, vs = [.int n] ∧ ∀ H', Same H H' → Q (.bl (within n 2)) H'
def spAre : Sp := fun vs H Q _ => ∃ (t : Addr) (ps : List Addr) (ar : List Arw), vs = [.ref t] ∧ H t = some (.tup (ps.map V.ref)) ∧ ArsAt H ps ar ∧ ShortA ar ∧ ∀ H', Same H H' → Q (.bl (areArr ar)) H'
/-- of any tuple: of four things a text, arrows, two numbers -/
def spIsWriter (g : Str → List Arw → Int → Int → Bool) : Sp := fun vs H Q _ => ∃ (t : Addr) (xs : List V), vs = [.ref t] ∧ H t = some (.tup xs) ∧ ((xs.length ≠ 4 ∧ ∀ H', Same H H' → Q (.bl false) H') ∨
  ∃ z tp ps ar p c, xs = [.str z, .ref tp, .int p, .int c] ∧ H tp = some (.tup (ps.map V.ref)) ∧ ArsAt H ps ar ∧ ShortA ar ∧ z.length ≤ 1000 ∧ ∀ H', Same H H' → Q (.bl (g z ar p c)) H')
theorem ArsAt.get {H : Hp} : ∀ {ps : List Addr} {ar : List Arw} {i : Nat} {p : Addr}, ArsAt H ps ar → ps[i]? = some p → ∃ x, ar[i]? = some x ∧ ArwAt H p x
  | _, _, _, _, .nil, h => by simp at h
  | _, _, 0, _, .cons r _, h => by
    have e := Option.some.inj h
    subst e
    exact ⟨_, rfl, r⟩
  | _, _, i + 1, p, .cons _ t, h => ArsAt.get (i := i) t h
theorem refs_at {ps : List Addr} {i : Nat} {v : V} (h : (ps.map V.ref)[i]? = some v) : ∃ p, ps[i]? = some p ∧ v = .ref p := by
  rw [List.getElem?_map] at h
  cases e : ps[i]? with
  | none =>
    rw [e] at h
    cases h
  | some p =>
    rw [e] at h
    exact ⟨p, rfl, (Option.some.inj h).symm⟩
theorem go_next {D : Ends} {σ : L2.St} {H : Hp} (h : D.nx σ H) : tNext D σ H := h
section
open Evl
/-- a comprehension over a tuple that stands, its items reckoned by their places -/
theorem el_lcT {K : PySem.W.Frag} {σ : L2.St} {H : Hp} {a : Addr} {xs : List V} {tl te : TE} {g : TG} {vs : List Nat} (f : Nat → V) (σf : Nat → L2.St) (h : Ev tl σ H (.ref a)) (hx : SqT K H a xs) (hz : xs.length ≤ 40000)
    (hg : ∀ i x H1, Ex H H1 → xs[i]? = some x → ∀ Q : L2.St → Hp → Prop, Q (σf i) H1 → g x (wipe σ vs) H1 Q) (hw : ∀ i, i < xs.length → wipe (σf i) vs = wipe σ vs)
    (he : ∀ i H1, Ex H H1 → i < xs.length → Ev te (σf i) H1 (f i)) : EvL (tLc (iTup K tl) g tYes te vs) σ H ((List.range xs.length).map f) := fun H0 e Q q => h H0 e _ fun H1 e1 => ⟨a, rfl, ⟨xs, ex_t (e.trans e1) hx⟩, fun D nD =>
  lc_it (walk_tup (xs := xs)) (fun i H' => Ex H1 H' ∧ H' D = some (.lst ((List.range i).map f))) ⟨Ex.new nD, upd_same⟩ (fun i H' _ hP => ex_t ((e.trans e1).trans hP.1) hx) (fun i v H2 H3 hi hP hy => by
    obtain ⟨rfl, hv⟩ := hy
    obtain ⟨s2, e2⟩ := hP
    refine hg i v H3 ((e.trans e1).trans s2) hv _ ⟨hw i hi, yes_of (iteT ?_)⟩
    refine he i H3 ((e.trans e1).trans s2) hi H3 (Ex.refl H3) _ fun H4 e4 => ⟨_, e4 _ _ e2, ?_, Ex.mut (s2.trans e4) nD, ?_⟩
    · rw [List.length_map, List.length_range]
      exact small_lt (by omega)
    · rw [upd_same, List.range_succ, List.map_append]
      rfl) (fun H' hP => q D H' (fresh_back e1 nD) (e1.trans hP.1) hP.2)⟩
end
theorem range_map {α : Type} (ar : List α) (f : α → Bool) (g : Nat → Bool) (h : ∀ i x, ar[i]? = some x → g i = f x) : (List.range ar.length).map g = ar.map f := by
  refine List.ext_getElem? fun i => ?_
  rw [List.getElem?_map, List.getElem?_map]
  by_cases hi : i < ar.length
  · rw [List.getElem?_range hi, List.getElem?_eq_getElem hi]
    exact congrArg some (h i _ (List.getElem?_eq_getElem hi))
  · rw [List.getElem?_eq_none (by rw [List.length_range]; omega), List.getElem?_eq_none (by omega)]
    rfl
section
variable {P : Program} {w : World} {K : PySem.W.Frag} {mg : Str → Option Value} {base : Heap}
theorem ok_count {f : Addr} {fd : FuncData} {k : Nat} (F : Fun K "_is_count" "_is_count" sIsCount f fd) (T : Txt mg) : FnOk P w K mg base CX0 (k + 1) f fd ["number"] spCount := by
  refine F.ok sc__is_count (fun vs H Q E h => ?_) (fun cdv A outer s H vs Q E hr h => ?_)
  · obtain ⟨n, rfl, _⟩ := h
    rfl
  · obtain ⟨n, rfl, q⟩ := h
    exact ⟨_, (pss_one (ps_ret (pe_chain op_le op_le pe_int (pv 0) (pe_globI (by rfl) T.e_MOST_COUNT)))), Evl.s_ret (ev_chainI (f := fun i j => decide (i ≤ j)) (g := fun i j => decide (i ≤ j)) Evl.ev_c (Evl.ev_var (by rfl)) Evl.ev_c) q⟩
theorem ok_place {f : Addr} {fd : FuncData} {k : Nat} (F : Fun K "_is_place" "_is_place" sIsPlace f fd) (T : Txt mg) : FnOk P w K mg base CX0 (k + 1) f fd ["number"] spPlace := by
  refine F.ok sc__is_place (fun vs H Q E h => ?_) (fun cdv A outer s H vs Q E hr h => ?_)
  · obtain ⟨n, rfl, _⟩ := h
    rfl
  · obtain ⟨n, rfl, q⟩ := h
    exact ⟨_, (pss_one (ps_ret (pe_chain op_le op_le pe_int (pv 0) (pe_globI (by rfl) T.e__LAST_PLACE)))), Evl.s_ret (ev_chainI (f := fun i j => decide (i ≤ j)) (g := fun i j => decide (i ≤ j)) Evl.ev_c (Evl.ev_var (by rfl)) Evl.ev_c) q⟩
theorem ok_are {f : Addr} {fd : FuncData} {k : Nat} (F : Fun K "_are_arrows" "_are_arrows" sAreArrows f fd) (T : Txt mg)
    (C__is_place : Cal P w K mg base k "_is_place" ["number"] spPlace) (C_is_sign : Cal P w K mg base k "is_sign" ["text"] spSign) : FnOk P w K mg base CX0 (k + 1) f fd ["arrows"] spAre := by
  refine F.ok sc__are_arrows (fun vs H Q E h => ?_) (fun cdv A outer s H vs Q E hr h => ?_)
  · obtain ⟨t, ps, ar, rfl, _⟩ := h
    rfl
  · obtain ⟨t, ps, ar, rfl, ht, hps, hsh, q⟩ := h
    refine ⟨_, (pss_cons (ps_if (pt_cmpR op_gt (pe_callB call_len (by rfl) T.m_len PySem.boot_len (pa_cons (pv 0) pa_nil)) (pe_globI (by rfl) T.e_MOST_ARROWS) (nomark _))
    (pss_one (ps_ret pe_bl)) pss_nil)
    (pss_cons (ps_if (pt_not (pt_val (pe_callB (cr_all rfl) (by rfl) T.m_all (by decide +kernel) (pa_cons (pe_lc (own := [("place", 2), ("sign", 3), ("to", 4)]) (g := (gTup K 3 (gCons (gName 2) (gCons (gName 3) (gCons (gName 4) gNil))))) (by rfl) sc__are_arrows.nd (pi_tup (pv 0)) (blkOk_by (own := [("place", 2), ("sign", 3), ("to", 4)]) (N := ["arrows", "heads", "place", "sign", "to", "_", "head", "following"]) (sc := defScope sAreArrows) (by decide +kernel)) (fun _ _ _ _ _ => (pg_tup rfl (pgs_cons (pg_name (i := 2) sc__are_arrows.nd rfl (.inl rfl)) (pgs_cons (pg_name (i := 3) sc__are_arrows.nd rfl (.inl rfl)) (pgs_cons (pg_name (i := 4) sc__are_arrows.nd rfl (.inl rfl)) pgs_nil))))) (fun _ _ _ _ _ => pts_nil) (fun _ _ _ _ _ => (pe_and (pe_callC C__is_place hr (by rfl) (pa_cons (pv 2) pa_nil)) (pe_and (pe_callC C_is_sign hr (by rfl) (pa_cons (pv 3) pa_nil)) (pe_one (pe_callC C__is_place hr (by rfl) (pa_cons (pv 4) pa_nil))))))) pa_nil))))
    (pss_one (ps_ret pe_bl)) pss_nil)
    (pss_cons (ps_setLc (i := 1) (own := [("place", 2), ("sign", 3), ("_", 5)]) (g := (gTup K 3 (gCons (gName 2) (gCons (gName 3) (gCons (gName 5) gNil))))) (by rfl) sc__are_arrows.nd rfl rfl (sw_true rfl rfl rfl (by decide +kernel)) (pi_tup (pv 0)) (blkOk_by (own := [("place", 2), ("sign", 3), ("_", 5)]) (N := ["arrows", "heads", "place", "sign", "to", "_", "head", "following"]) (sc := defScope sAreArrows) (by decide +kernel)) (fun _ _ _ _ _ => (pg_tup rfl (pgs_cons (pg_name (i := 2) sc__are_arrows.nd rfl (.inl rfl)) (pgs_cons (pg_name (i := 3) sc__are_arrows.nd rfl (.inl rfl)) (pgs_cons (pg_name (i := 5) sc__are_arrows.nd rfl (.inl rfl)) pgs_nil))))) (fun _ _ _ _ _ => pts_nil) (fun _ _ _ _ _ => (pe_tup (pa_cons (pv 2) (pa_cons (pv 3) pa_nil)))))
    (pss_one (ps_ret (pe_callB (cr_all rfl) (by rfl) T.m_all (by decide +kernel) (pa_cons (pe_lc (own := [("head", 6), ("following", 7)]) (g := (gTup K 2 (gCons (gName 6) (gCons (gName 7) gNil)))) (by rfl) sc__are_arrows.nd (pi_zip (by rfl) T.m_zip (pa_cons (pv 1) (pa_cons (pe_slice sl_list (pv 1) (po_some pe_int) po_none) pa_nil))) (blkOk_by (own := [("head", 6), ("following", 7)]) (N := ["arrows", "heads", "place", "sign", "to", "_", "head", "following"]) (sc := defScope sAreArrows) (by decide +kernel)) (fun _ _ _ _ _ => (pg_tup rfl (pgs_cons (pg_name (i := 6) sc__are_arrows.nd rfl (.inl rfl)) (pgs_cons (pg_name (i := 7) sc__are_arrows.nd rfl (.inl rfl)) pgs_nil)))) (fun _ _ _ _ _ => pts_nil) (fun _ _ _ _ _ => (pe_cmpR (show OpR _ _ (rLtIS K) from op_ltIS hr.units0) (pv 6) (pv 7) (nomark _)))) pa_nil))))))), ?_⟩
    have elen : ps.length = ar.length := Paired.length hps
    refine ⟨.ref t, rfl, .ref t, _, rfl, .inr ⟨_, .of ht, rfl⟩, _, _, rfl, rfl, _, rfl, ite2 (fun e => ?_) (fun e => ?_)⟩
    · have e : (9 : Int) < (((ps.map V.ref).length : Nat) : Int) := of_decide_eq_true e
      rw [List.length_map, elen] at e
      have h := q H (Same.refl H)
      unfold areArr at h
      rw [if_pos e] at h
      exact h
    · have e : ¬ (9 : Int) < (((ps.map V.ref).length : Nat) : Int) := fun h => e (decide_eq_true h)
      rw [List.length_map, elen] at e
      -- all([..])
      refine go_next ?_
      dsimp only
      refine Evl.q_when (b := !(ar.map okA).all id) (Evl.et_not (Evl.et_B (ev_all (bs := ar.map okA) ?_))) (fun hb H1 e1 => ?_) (fun hb H1 e1 => ?_)
      · rw [← range_map ar okA (fun i => match ar[i]? with | some x => okA x | none => true) (fun i x h => by rw [h]), ← elen, show ps.length = (ps.map V.ref).length from (List.length_map _).symm, ← bls_eq]
        refine el_lcT (a := t) (xs := ps.map V.ref) _ (fun i => match ar[i]? with | some x => [some (.ref t), none, some (.int x.1), some (.str x.2.1), some (.int x.2.2), none, none, none] | none => []) (Evl.ev_var (by rfl)) (.of ht) (by rw [List.length_map, elen]; have := hsh.1; omega) (fun i v H1 e1 hv Q2 q2 => ?_) (fun i hi => ?_) (fun i H1 e1 hi => ?_)
        · obtain ⟨p, hp, rfl⟩ := refs_at hv
          obtain ⟨x, hx, hpx⟩ := hps.get hp
          rw [hx] at q2
          exact ⟨p, _, rfl, .of (e1 _ _ hpx), rfl, _, _, rfl, _, _, rfl, _, _, rfl, rfl, q2⟩
        · rw [List.length_map, elen] at hi
          rw [List.getElem?_eq_getElem hi]
          rfl
        · rw [List.length_map, elen] at hi
          have hm := List.getElem_mem hi
          rw [List.getElem?_eq_getElem hi]
          generalize ar[i] = x at hm
          refine Evl.ev_andV (ev_call (Evl.ea_cons (Evl.ev_var (by rfl)) Evl.ea_nil) fun H2 Q2 _ q2 => ⟨_, rfl, q2⟩) fun _ => Evl.ev_andV (ev_call (Evl.ea_cons (Evl.ev_var (by rfl)) Evl.ea_nil) fun H2 Q2 _ q2 => ⟨_, rfl, hsh.2 x hm, q2⟩) fun _ => ev_call (Evl.ea_cons (Evl.ev_var (by rfl)) Evl.ea_nil) fun H2 Q2 _ q2 => ⟨_, rfl, q2⟩
      · have h := q H1 e1
        unfold areArr at h
        have hb2 : (ar.map okA).all id = false := by
          cases h : (ar.map okA).all id with
          | false => rfl
          | true =>
            rw [h] at hb
            cases hb
        rw [if_neg e, if_pos hb2] at h
        exact h
      · have hb2 : ¬ (ar.map okA).all id = false := fun h => by
          rw [h] at hb
          cases hb
        have hq : ∀ H', Same H1 H' → Q (.bl (riseB ar)) H' := fun H' s' => by
          have h := q H' (Same.trans e1 s')
          unfold areArr at h
          rw [if_neg e, if_neg hb2] at h
          exact h
        have ht1 := e1 _ _ ht
        have hps1 := hps.same e1
        -- heads
        refine ⟨.ref t, rfl, t, rfl, ⟨_, .of ht1⟩, fun D nD => ?_⟩
        refine lc_it (walk_tup (xs := ps.map V.ref)) (fun i H' => Same H1 H' ∧ ∃ qs : List Addr, H' D = some (.lst (qs.map V.ref)) ∧ qs.length = i ∧ ∀ j p, qs[j]? = some p → ∃ x : Arw, ar[j]? = some x ∧ H' p = some (.tup [.int x.1, .str x.2.1])) ⟨same_new nD, [], upd_same, rfl, fun j p h => by rw [List.getElem?_nil] at h; cases h⟩ (fun i H' _ hP => .of (hP.1 _ _ ht1)) (fun i v H2 H3 hi hP hy => ?_) (fun H2 hP => ?_)
        · obtain ⟨rfl, hv⟩ := hy
          obtain ⟨s2, qs, eD, rfl, hq2⟩ := hP
          obtain ⟨p, hp, rfl⟩ := refs_at hv
          obtain ⟨x, hx, hpx⟩ := hps1.get hp
          refine ⟨p, _, rfl, .of (s2 _ _ hpx), rfl, _, _, rfl, _, _, rfl, _, _, rfl, rfl, rfl, yes_of (iteT ?_)⟩
          refine ⟨_, rfl, _, rfl, by show 2 ≤ sizeLine; decide, fun p' np' => ⟨_, same_new np' _ _ eD, ?_, same_mut (s2.trans (same_new np')) nD, qs ++ [p'], ?_, ?_, fun j p2 hj => ?_⟩⟩
          · rw [List.length_map]
            rw [List.length_map, elen] at hi
            have := hsh.1
            exact small_lt (by omega)
          · rw [upd_same, List.map_append]
            rfl
          · rw [List.length_append]
            rfl
          · have nDp : ∀ p3 xs', H3 p3 = some (.tup xs') → p3 ≠ D := fun p3 xs' h3 => ne_of h3 eD (by intro z; cases z)
            by_cases hjl : j < qs.length
            · rw [List.getElem?_append_left hjl] at hj
              obtain ⟨y, hy1, hy2⟩ := hq2 j p2 hj
              exact ⟨y, hy1, by rw [upd_ne (nDp _ _ hy2)]; exact same_new np' _ _ hy2⟩
            · have hlt := (List.getElem?_eq_some_iff.mp hj).1
              rw [List.length_append, List.length_singleton] at hlt
              have ej : j = qs.length := by omega
              subst ej
              rw [List.getElem?_append_right (Nat.le_refl _), Nat.sub_self] at hj
              have hj := Option.some.inj hj
              subst hj
              exact ⟨x, hx, by rw [upd_ne (ne_of_none eD np').symm, upd_same]⟩
        · obtain ⟨s2, qs, eD, eq, hq2⟩ := hP
          rw [List.length_map, elen] at eq
          -- zip(heads, heads[1:])
          have hcut : cutV (qs.map V.ref) (some 1) none = (qs.drop 1).map V.ref := by
            unfold cutV
            rw [show HT.sIx (qs.map V.ref).length 0 (some 1) = min 1 (qs.map V.ref).length from HT.sIx_nat _ 0 1, HT.sIx_none, List.length_map]
            cases qs with
            | nil => rfl
            | cons x r =>
              rw [show min 1 (x :: r).length = 1 by rw [List.length_cons]; omega]
              show List.take ((x :: r).length - 1) (r.map V.ref) = r.map V.ref
              exact List.take_of_length_le (by rw [List.length_map, List.length_cons]; omega)
          refine ⟨.ref D, rfl, .ref D, rfl, 1, rfl, D, _, rfl, .of eD, fun c nc => ?_⟩
          rw [hcut]
          have s3 := same_new (o := .lst ((qs.drop 1).map V.ref)) nc
          refine ⟨D, c, _, _, rfl, .of (s3 _ _ eD), .of upd_same, fun E' nE => ?_⟩
          have fin : ∀ H', Same H2 H' → H' E' = some (.lst ((((List.range (ar.length - 1)).map (ltAt ar))).map V.bl)) → rAll K [.ref E'] H' Q := fun H' s' h' => ⟨E', _, rfl, .of h', hq H' (s2.trans s')⟩
          have eD3 := s3 _ _ eD
          have eC3 : (upd H2 c (.lst ((qs.drop 1).map V.ref))) c = some (.lst ((qs.drop 1).map V.ref)) := upd_same
          have hn : ar.length - 1 = min (qs.map V.ref).length ((qs.drop 1).map V.ref).length := by
            rw [List.length_map, List.length_map, List.length_drop]
            omega
          refine lc_it (walk_zip (xs := qs.map V.ref) (ys := (qs.drop 1).map V.ref) hn) (fun i H' => Same (upd H2 c (.lst ((qs.drop 1).map V.ref))) H' ∧ H' E' = some (.lst (((List.range i).map (ltAt ar)).map V.bl))) ⟨same_new nE, upd_same⟩ (fun i H' _ hP => ⟨.of (hP.1 _ _ eD3), .of (hP.1 _ _ eC3)⟩) (fun i v H4 H5 hi hP hy => ?_) (fun H' hP => fin H' (s3.trans hP.1) hP.2)
          obtain ⟨T', x, y, rfl, nT, rfl, hx, hy⟩ := hy
          obtain ⟨s4, e4⟩ := hP
          obtain ⟨p, hp, rfl⟩ := refs_at hx
          obtain ⟨p', hp', rfl⟩ := refs_at hy
          rw [List.getElem?_drop, Nat.add_comm] at hp'
          obtain ⟨x1, hx1, hx2⟩ := hq2 _ _ hp
          obtain ⟨y1, hy1, hy2⟩ := hq2 _ _ hp'
          have e5 : ltIS x1.1 x1.2.1 y1.1 y1.2.1 = ltAt ar i := by
            unfold ltAt
            rw [hx1, hy1]
          refine ⟨T', _, rfl, .of upd_same, rfl, _, _, rfl, _, _, rfl, rfl, rfl, yes_of (iteT ?_)⟩
          refine ⟨.ref p, rfl, .ref p', rfl, p, p', x1.1, x1.2.1, y1.1, y1.2.1, rfl, rfl, .of (same_new nT _ _ (s4 _ _ (s3 _ _ hx2))), .of (same_new nT _ _ (s4 _ _ (s3 _ _ hy2))), _, same_new nT _ _ e4, ?_, same_mut (s4.trans (same_new nT)) nE, ?_⟩
          · rw [List.length_map, List.length_map, List.length_range]
            have := hsh.1
            exact small_lt (by omega)
          · rw [upd_same, List.range_succ, List.map_append, List.map_append, e5]
            rfl
theorem ok_is_writer {f : Addr} {fd : FuncData} {k : Nat} (F : Fun K "is_writer" "is_writer" sIsWriter f fd) (T : Txt mg) (C_is_name : Cal P w K mg base k "is_name" ["text"] spName)
    (C__are_arrows : Cal P w K mg base k "_are_arrows" ["arrows"] spAre) (C__is_count : Cal P w K mg base k "_is_count" ["number"] spCount) : FnOk P w K mg base CX0 (k + 1) f fd ["thing"] (spIsWriter isWr) := by
  refine F.ok sc_is_writer (fun vs H Q E h => ?_) (fun cdv A outer s H vs Q E hr h => ?_)
  · obtain ⟨t, xs, rfl, _⟩ := h
    rfl
  · obtain ⟨t, xs, rfl, ht, h⟩ := h
    refine ⟨_, (pss_cons (ps_if (pt_cmpR op_ne (pe_callB call_len (by rfl) T.m_len PySem.boot_len (pa_cons (pv 0) pa_nil)) pe_int (nomark _))
    (pss_one (ps_ret pe_bl)) pss_nil)
    (pss_cons (ps_asg (pv 0) (pg_tup rfl (pgs_cons (pg_name (i := 1) sc_is_writer.nd rfl (.inl rfl)) (pgs_cons (pg_name (i := 2) sc_is_writer.nd rfl (.inl rfl)) (pgs_cons (pg_name (i := 3) sc_is_writer.nd rfl (.inl rfl)) (pgs_cons (pg_name (i := 4) sc_is_writer.nd rfl (.inl rfl)) pgs_nil))))))
    (pss_one (ps_ret (pe_and (pe_callC C_is_name hr (by rfl) (pa_cons (pv 1) pa_nil)) (pe_and (pe_callC C__are_arrows hr (by rfl) (pa_cons (pv 2) pa_nil)) (pe_and (pe_callC C__is_count hr (by rfl) (pa_cons (pv 3) pa_nil)) (pe_one (pe_callC C__is_count hr (by rfl) (pa_cons (pv 4) pa_nil)))))))))), ?_⟩
    refine ⟨.ref t, rfl, .ref t, _, rfl, .inr ⟨_, .of ht, rfl⟩, rfl, _, rfl, ?_⟩
    rcases h with ⟨hne, q⟩ | ⟨z, tp, ps, ar, p, c, rfl, htp, hps, hsh, hz, q⟩
    · rw [decide_eq_false (show ¬ V.int ((xs.length : Nat) : Int) = V.int 4 from fun e => hne (by injection e with e; omega))]
      exact iteT (q H (Same.refl H))
    · refine iteNS rfl ?_
      refine ⟨.ref t, rfl, t, _, rfl, .of ht, rfl, _, _, rfl, _, _, rfl, _, _, rfl, _, _, rfl, rfl, ?_⟩
      exact Evl.s_ret (Evl.ev_andV (ev_call (Evl.ea_cons (Evl.ev_var (by rfl)) Evl.ea_nil) fun H2 Q2 _ q2 => ⟨_, rfl, hz, q2⟩) fun _ => Evl.ev_andV (ev_call (Evl.ea_cons (Evl.ev_var (by rfl)) Evl.ea_nil) fun H2 Q2 e2 q2 => ⟨_, _, _, rfl, e2 _ _ htp, hps.same e2, hsh, q2⟩) fun _ =>
        Evl.ev_andV (ev_call (Evl.ea_cons (Evl.ev_var (by rfl)) Evl.ea_nil) fun H2 Q2 _ q2 => ⟨_, rfl, q2⟩) fun _ => ev_call (Evl.ea_cons (Evl.ev_var (by rfl)) Evl.ea_nil) fun H2 Q2 _ q2 => ⟨_, rfl, q2⟩) q
end
end Ink
namespace Ink
open PySem PySem.Spec PyProof.Rows L2
/-! ### data as a reading gives it: None, bools, numbers, texts, tuples and lists of such -/
mutual
theorem dp_up {K : PySem.W.Frag} {H H' : Hp} (hl : ∀ b xs, SqL K H b xs → SqL K H' b xs) (ht : ∀ b xs, SqT K H b xs → SqT K H' b xs) : ∀ (d : PyData) (v : V), Dp K H v d → Dp K H' v d
  | .none, _, h => by cases h; exact .non
  | .bool b, _, h => by cases h; exact .bl b
  | .int i, _, h => by cases h; exact .int i
  | .str x, _, h => by cases h; exact .str x
  | .list ds, _, h => by
    cases h with
    | lst hs ha => exact .lst (hl _ _ hs) (dps_up hl ht ds _ ha)
  | .tuple ds, _, h => by
    cases h with
    | tup hs ha => exact .tup (ht _ _ hs) (dps_up hl ht ds _ ha)
  | .dict _, _, h => by cases h
theorem dps_up {K : PySem.W.Frag} {H H' : Hp} (hl : ∀ b xs, SqL K H b xs → SqL K H' b xs) (ht : ∀ b xs, SqT K H b xs → SqT K H' b xs) : ∀ (ds : List PyData) (vs : List V), DpAll K H vs ds → DpAll K H' vs ds
  | [], _, h => by cases h; exact .nil
  | d :: ds, _, h => by
    cases h with
    | cons h1 h2 => exact .cons (dp_up hl ht d _ h1) (dps_up hl ht ds _ h2)
end
mutual
/-- no list in it: it never changes -/
def fz : PyData → Bool
  | .list _ => false
  | .tuple ds => fzAll ds
  | .dict _ => false
  | .none => true
  | .bool _ => true
  | .int _ => true
  | .str _ => true
def fzAll : List PyData → Bool
  | [] => true
  | d :: ds => fz d && fzAll ds
end
mutual
theorem dp_fz {K : PySem.W.Frag} {H H' : Hp} (ht : ∀ b xs, SqT K H b xs → SqT K H' b xs) : ∀ (d : PyData) (v : V), fz d = true → Dp K H v d → Dp K H' v d
  | .none, _, _, h => by cases h; exact .non
  | .bool b, _, _, h => by cases h; exact .bl b
  | .int i, _, _, h => by cases h; exact .int i
  | .str x, _, _, h => by cases h; exact .str x
  | .list _, _, f, _ => by
    unfold fz at f
    cases f
  | .tuple ds, _, f, h => by
    cases h with
    | tup hs ha => exact .tup (ht _ _ hs) (dps_fz ht ds _ (by unfold fz at f; exact f) ha)
  | .dict _, _, _, h => by cases h
theorem dps_fz {K : PySem.W.Frag} {H H' : Hp} (ht : ∀ b xs, SqT K H b xs → SqT K H' b xs) : ∀ (ds : List PyData) (vs : List V), fzAll ds = true → DpAll K H vs ds → DpAll K H' vs ds
  | [], _, _, h => by cases h; exact .nil
  | d :: ds, _, f, h => by
    unfold fzAll at f
    rw [Bool.and_eq_true] at f
    cases h with
    | cons h1 h2 => exact .cons (dp_fz ht d _ f.1 h1) (dps_fz ht ds _ f.2 h2)
end
theorem fzAll_iff : ∀ {ds : List PyData}, fzAll ds = true ↔ ∀ d ∈ ds, fz d = true
  | [] => by unfold fzAll; exact ⟨fun _ _ h => (by cases h), fun _ => rfl⟩
  | d :: ds => by
    unfold fzAll
    rw [Bool.and_eq_true, fzAll_iff]
    exact ⟨fun h e he => (List.mem_cons.mp he).elim (fun z => z ▸ h.1) (h.2 e), fun h => ⟨h d (List.mem_cons_self ..), fun e he => h e (List.mem_cons_of_mem _ he)⟩⟩
theorem fz_map {α : Type} {e : α → PyData} {xs : List α} (h : ∀ x ∈ xs, fz (e x) = true) : fzAll (xs.map e) = true := fzAll_iff.mpr fun d hd => by
  obtain ⟨x, hx, rfl⟩ := List.mem_map.mp hd
  exact h x hx
section
variable {K : PySem.W.Frag} {H H' : Hp} {v : V} {d : PyData} {vs : List V} {ds : List PyData}
theorem dp_same (e : Evl.Ex H H') (h : Dp K H v d) : Dp K H' v d := dp_up (fun _ _ => Evl.ex_l e) (fun _ _ => Evl.ex_t e) d v h
theorem dps_same (e : Evl.Ex H H') (h : DpAll K H vs ds) : DpAll K H' vs ds := dps_up (fun _ _ => Evl.ex_l e) (fun _ _ => Evl.ex_t e) ds vs h
/-- what is drawn from the bag leaves the tuples -/
theorem keep_t {a l : Addr} (b : BagAt H a l) (k : Keep a H H') : ∀ c xs, SqT K H c xs → SqT K H' c xs := fun c xs h => by
  obtain ⟨ns, p, q, s, h1, _⟩ := b
  rcases h with (h | ⟨o, h⟩) | h
  · exact .inl (.inl (k c _ (fun z => by rw [z, h1] at h; cases h) h))
  · exact .inl (.inr ⟨o, k c _ (fun z => by rw [z, h1] at h; cases h) h⟩)
  · exact .inr h
theorem dp_keep {a l : Addr} (b : BagAt H a l) (k : Keep a H H') (f : fz d = true) (h : Dp K H v d) : Dp K H' v d := dp_fz (keep_t b k) d v f h
theorem dps_keep {a l : Addr} (b : BagAt H a l) (k : Keep a H H') (f : fzAll ds = true) (h : DpAll K H vs ds) : DpAll K H' vs ds := dps_fz (keep_t b k) ds vs f h
end
end Ink
namespace L2
open PySem PySem.Spec PyProof.Rows
section
variable {K : PySem.W.Frag} {H H' : Hp} {v : V} {d : PyData} {vs : List V} {ds : List PyData}
theorem DpAll.length : ∀ {vs : List V} {ds : List PyData}, DpAll K H vs ds → vs.length = ds.length
  | _, _, .nil => rfl
  | _, _, .cons _ t => by rw [List.length_cons, List.length_cons, DpAll.length t]
theorem DpAll.get : ∀ {vs : List V} {ds : List PyData} {i : Nat} {d : PyData}, DpAll K H vs ds → ds[i]? = some d → ∃ v, vs[i]? = some v ∧ Dp K H v d
  | _, _, 0, d, .cons h _, e => ⟨_, rfl, by rw [← Option.some.inj e]; exact h⟩
  | _, _, i + 1, d, .cons _ t, e => DpAll.get (i := i) t e
theorem DpAll.at : ∀ {vs : List V} {ds : List PyData} {i : Nat} {v : V}, DpAll K H vs ds → vs[i]? = some v → ∃ d, ds[i]? = some d ∧ Dp K H v d
  | _, _, 0, v, .cons h _, e => ⟨_, rfl, by rw [← Option.some.inj e]; exact h⟩
  | _, _, i + 1, v, .cons _ t, e => DpAll.at (i := i) t e
theorem DpAll.app : ∀ {vs ws : List V} {ds es : List PyData}, DpAll K H vs ds → DpAll K H ws es → DpAll K H (vs ++ ws) (ds ++ es)
  | _, _, _, _, .nil, h => h
  | _, _, _, _, .cons h t, h2 => .cons h (t.app h2)
theorem DpAll.one (h : Dp K H v d) : DpAll K H [v] [d] := .cons h .nil
theorem DpAll.take : ∀ {vs : List V} {ds : List PyData} (n : Nat), DpAll K H vs ds → DpAll K H (vs.take n) (ds.take n)
  | _, _, 0, _ => .nil
  | _, _, _ + 1, .nil => .nil
  | _, _, n + 1, .cons h t => .cons h (t.take n)
theorem DpAll.drop : ∀ {vs : List V} {ds : List PyData} (n : Nat), DpAll K H vs ds → DpAll K H (vs.drop n) (ds.drop n)
  | _, _, 0, h => h
  | _, _, _ + 1, .nil => .nil
  | _, _, n + 1, .cons _ t => t.drop n
theorem DpAll.set : ∀ {vs : List V} {ds : List PyData} (n : Nat), DpAll K H vs ds → Dp K H v d → DpAll K H (vs.set n v) (ds.set n d)
  | _, _, 0, .cons _ t, h => .cons h t
  | _, _, _, .nil, _ => .nil
  | _, _, n + 1, .cons h t, h2 => .cons h (t.set n h2)
end
end L2
namespace Ink
open PySem PySem.Spec PyProof.Rows L2
section
variable {K : PySem.W.Frag} {H H' : Hp} {v : V} {d : PyData} {vs : List V} {ds : List PyData}
theorem dps_ints : ∀ (ns : List Int), DpAll K H (ns.map V.int) (ns.map PyData.int)
  | [] => .nil
  | n :: ns => .cons (.int n) (dps_ints ns)
theorem dp_int {i : Int} (h : Dp K H v (.int i)) : v = .int i := by cases h; rfl
theorem dp_str {z : Str} (h : Dp K H v (.str z)) : v = .str z := by cases h; rfl
theorem dp_bl {b : Bool} (h : Dp K H v (.bool b)) : v = .bl b := by cases h; rfl
theorem dp_non (h : Dp K H v .none) : v = .non := by cases h; rfl
theorem dps_int : ∀ {vs : List V} {ns : List Int}, DpAll K H vs (ns.map PyData.int) → vs = ns.map V.int
  | _, [], h => by cases h; rfl
  | _, n :: ns, h => by
    cases h with
    | cons h t =>
      rw [dp_int h, dps_int t]
      rfl
theorem dp_tup (h : Dp K H v (.tuple ds)) : ∃ p xs, v = .ref p ∧ SqT K H p xs ∧ DpAll K H xs ds := by
  cases h with
  | tup hs ha => exact ⟨_, _, rfl, hs, ha⟩
theorem dp_lst (h : Dp K H v (.list ds)) : ∃ p xs, v = .ref p ∧ SqL K H p xs ∧ DpAll K H xs ds := by
  cases h with
  | lst hs ha => exact ⟨_, _, rfl, hs, ha⟩
theorem dps1 {d1 : PyData} (h : DpAll K H vs [d1]) : ∃ v1, vs = [v1] ∧ Dp K H v1 d1 := by
  cases h with
  | cons h1 t => cases t; exact ⟨_, rfl, h1⟩
theorem dps2 {d1 d2 : PyData} (h : DpAll K H vs [d1, d2]) : ∃ v1 v2, vs = [v1, v2] ∧ Dp K H v1 d1 ∧ Dp K H v2 d2 := by
  cases h with
  | cons h1 t =>
    obtain ⟨v2, rfl, h2⟩ := dps1 t
    exact ⟨_, _, rfl, h1, h2⟩
theorem dps3 {d1 d2 d3 : PyData} (h : DpAll K H vs [d1, d2, d3]) : ∃ v1 v2 v3, vs = [v1, v2, v3] ∧ Dp K H v1 d1 ∧ Dp K H v2 d2 ∧ Dp K H v3 d3 := by
  cases h with
  | cons h1 t =>
    obtain ⟨v2, v3, rfl, h2, h3⟩ := dps2 t
    exact ⟨_, _, _, rfl, h1, h2, h3⟩
theorem dps4 {d1 d2 d3 d4 : PyData} (h : DpAll K H vs [d1, d2, d3, d4]) : ∃ v1 v2 v3 v4, vs = [v1, v2, v3, v4] ∧ Dp K H v1 d1 ∧ Dp K H v2 d2 ∧ Dp K H v3 d3 ∧ Dp K H v4 d4 := by
  cases h with
  | cons h1 t =>
    obtain ⟨v2, v3, v4, rfl, h2, h3, h4⟩ := dps3 t
    exact ⟨_, _, _, _, rfl, h1, h2, h3, h4⟩
end
/-! ### what evaluates to data -/
open Evl
/-- to d, whatever the value -/
def EvD (K : PySem.W.Frag) (te : TE) (σ : L2.St) (H : Hp) (d : PyData) : Prop := ∀ H1, Ex H H1 → ∀ Q : VK, (∀ v H2, Ex H1 H2 → Dp K H2 v d → Q v H2) → te σ H1 Q
def EvDs (K : PySem.W.Frag) (ta : TA) (σ : L2.St) (H : Hp) (ds : List PyData) : Prop := ∀ H1, Ex H H1 → ∀ Q : List V → Hp → Prop, (∀ vs H2, Ex H1 H2 → DpAll K H2 vs ds → Q vs H2) → ta σ H1 Q
/-- to a new list of ds -/
def EvN (K : PySem.W.Frag) (te : TE) (σ : L2.St) (H : Hp) (ds : List PyData) : Prop := ∀ H1, Ex H H1 → ∀ Q : VK, (∀ p vs H2, H1 p = none → Ex H1 H2 → H2 p = some (.lst vs) → DpAll K H2 vs ds → Q (.ref p) H2) → te σ H1 Q
/-- what is walked gives ds -/
def EvI (K : PySem.W.Frag) (ti : TI) (σ : L2.St) (H : Hp) (ds : List PyData) : Prop := ∀ H1, Ex H H1 → ∀ R : It → Hp → Prop, (∀ J H2, Ex H1 H2 → Walk J ds.length (fun H' => Ex H2 H') (fun i Ha x Hb => Ex Ha Hb ∧ ∃ d, ds[i]? = some d ∧ Dp K Hb x d) → R J H2) → ti σ H1 R
section
variable {K : PySem.W.Frag} {σ : L2.St} {H H' : Hp} {ta tb te tc : TE} {t : TT} {d d1 d2 : PyData} {ds es : List PyData} {v : V} {i : Nat}
theorem EvD.mono (e : Ex H H') (h : EvD K te σ H d) : EvD K te σ H' d := fun H1 a Q q => h H1 (e.trans a) Q q
theorem EvN.mono (e : Ex H H') (h : EvN K te σ H ds) : EvN K te σ H' ds := fun H1 a Q q => h H1 (e.trans a) Q q
theorem EvN.list (h : EvN K te σ H ds) : EvD K te σ H (.list ds) := fun H1 e Q q => h H1 e _ fun p vs H2 _ e2 hp hd => q _ H2 e2 (.lst (.of hp) hd)
theorem ed_of (h : Ev te σ H v) (hd : Dp K H v d) : EvD K te σ H d := fun H1 e Q q => h H1 e _ fun H2 e2 => q v H2 e2 (dp_same (e.trans e2) hd)
theorem ev_int {n : Int} (h : EvD K te σ H (.int n)) : Ev te σ H (.int n) := fun H1 e Q q => h H1 e _ fun v H2 e2 hd => by rw [dp_int hd]; exact q H2 e2
theorem ev_str {z : Str} (h : EvD K te σ H (.str z)) : Ev te σ H (.str z) := fun H1 e Q q => h H1 e _ fun v H2 e2 hd => by rw [dp_str hd]; exact q H2 e2
theorem ev_bl {b : Bool} (h : EvD K te σ H (.bool b)) : Ev te σ H (.bl b) := fun H1 e Q q => h H1 e _ fun v H2 e2 hd => by rw [dp_bl hd]; exact q H2 e2
theorem ed_int {n : Int} (h : Ev te σ H (.int n)) : EvD K te σ H (.int n) := ed_of h (.int n)
theorem ed_str {z : Str} (h : Ev te σ H (.str z)) : EvD K te σ H (.str z) := ed_of h (.str z)
theorem ed_bl {b : Bool} (h : Ev te σ H (.bl b)) : EvD K te σ H (.bool b) := ed_of h (.bl b)
theorem ed_non (h : Ev te σ H .non) : EvD K te σ H .none := ed_of h .non
theorem ed_var (h : σ[i]? = some (some v)) (hd : Dp K H v d) : EvD K (tVar i) σ H d := ed_of (ev_var h) hd
theorem ed_is (h : EvD K te σ H d1) (e : d1 = d2) : EvD K te σ H d2 := e ▸ h
theorem eds_nil : EvDs K tNil σ H [] := fun H1 _ _ q => q [] H1 (Ex.refl H1) .nil
theorem eds_cons {tr : TA} (h : EvD K ta σ H d) (hr : EvDs K tr σ H ds) : EvDs K (tCons ta tr) σ H (d :: ds) := fun H1 e _ q =>
  h H1 e _ fun v H2 e2 hd => hr H2 (e.trans e2) _ fun vs H3 e3 hds => q _ H3 (e2.trans e3) (.cons (dp_same e3 hd) hds)
theorem ed_tup {ta : TA} (h : EvDs K ta σ H ds) (hl : ds.length ≤ 100000) : EvD K (tTup ta) σ H (.tuple ds) := fun H1 e Q q =>
  h H1 e _ fun vs H2 e2 hds => ⟨sz_of (by rw [hds.length]; exact hl), fun p hp => q _ _ (e2.trans (Ex.new hp)) (.tup (.of upd_same) (dps_same (Ex.new hp) hds))⟩
theorem en_lst {ta : TA} (h : EvDs K ta σ H ds) (hl : ds.length ≤ 100000) : EvN K (tLst ta) σ H ds := fun H1 e Q q =>
  h H1 e _ fun vs H2 e2 hds => ⟨sz_of (by rw [hds.length]; exact hl), fun p hp => q p vs _ (fresh_back e2 hp) (e2.trans (Ex.new hp)) upd_same (dps_same (Ex.new hp) hds)⟩
theorem ed_ixT {n : Int} (ha : EvD K ta σ H (.tuple ds)) (hb : Ev tb σ H (.int n)) (h0 : 0 ≤ n) (hd : ds[n.toNat]? = some d) : EvD K (tOp (rIxT K) ta tb) σ H d := fun H1 e Q q =>
  ha H1 e _ fun v H2 e2 hv => hb H2 (e.trans e2) _ fun H3 e3 => by
    obtain ⟨p, xs, rfl, hs, hxs⟩ := dp_tup (dp_same e3 hv)
    obtain ⟨x, hx, hxd⟩ := hxs.get hd
    exact ⟨p, xs, n, x, rfl, rfl, hs, atI_of h0 hx, q x H3 (e2.trans e3) hxd⟩
theorem ed_ixL {n : Int} (ha : EvD K ta σ H (.list ds)) (hb : Ev tb σ H (.int n)) (h0 : 0 ≤ n) (hd : ds[n.toNat]? = some d) : EvD K (tOp (rIxL K) ta tb) σ H d := fun H1 e Q q =>
  ha H1 e _ fun v H2 e2 hv => hb H2 (e.trans e2) _ fun H3 e3 => by
    obtain ⟨p, xs, rfl, hs, hxs⟩ := dp_lst (dp_same e3 hv)
    obtain ⟨x, hx, hxd⟩ := hxs.get hd
    exact ⟨p, xs, n, x, rfl, rfl, hs, atI_of h0 hx, q x H3 (e2.trans e3) hxd⟩
theorem ev_eqD (ha : EvD K ta σ H d1) (hb : EvD K tb σ H d2) (h1 : SeqAt.shaped d1 = true) (h2 : SeqAt.shaped d2 = true) : Ev (tOp (rEqD K) ta tb) σ H (.bl (PyData.eqv d1 d2)) := fun H1 e Q q =>
  ha H1 e _ fun v H2 e2 hv => hb H2 (e.trans e2) _ fun w H3 e3 hw => ⟨d1, d2, dp_same e3 hv, hw, h1, h2, q H3 (e2.trans e3)⟩
theorem ev_neD (ha : EvD K ta σ H d1) (hb : EvD K tb σ H d2) (h1 : SeqAt.shaped d1 = true) (h2 : SeqAt.shaped d2 = true) : Ev (tOp (rNeD K) ta tb) σ H (.bl (!PyData.eqv d1 d2)) := fun H1 e Q q =>
  ha H1 e _ fun v H2 e2 hv => hb H2 (e.trans e2) _ fun w H3 e3 hw => ⟨d1, d2, dp_same e3 hv, hw, h1, h2, q H3 (e2.trans e3)⟩
theorem ev_lenD (ha : EvD K ta σ H d) (h : d = .list ds ∨ d = .tuple ds) : Ev (tCB (fun xs H Q => ∃ x n, xs = [x] ∧ LenV K x H n ∧ Q (.int n) H) (tCons ta tNil)) σ H (.int (ds.length : Nat)) := fun H1 e Q q =>
  ha H1 e _ fun v H2 e2 hv => by
    rcases h with rfl | rfl
    · obtain ⟨p, xs, rfl, hs, hxs⟩ := dp_lst hv
      exact ⟨.ref p, _, rfl, .inl ⟨_, hs, rfl⟩, by rw [hxs.length]; exact q H2 e2⟩
    · obtain ⟨p, xs, rfl, hs, hxs⟩ := dp_tup hv
      exact ⟨.ref p, _, rfl, .inr ⟨_, hs, rfl⟩, by rw [hxs.length]; exact q H2 e2⟩
theorem ed_if {b : Bool} (h : EvT t σ H b) (h1 : b = true → EvD K ta σ H d) (h2 : b = false → EvD K tb σ H d) : EvD K (tIf t ta tb) σ H d := fun H1 e Q q => h H1 e _ fun H2 e2 => by
  cases b with
  | true => exact iteT (h1 rfl H2 (e.trans e2) Q fun v H3 e3 => q v H3 (e2.trans e3))
  | false => exact iteF (h2 rfl H2 (e.trans e2) Q fun v H3 e3 => q v H3 (e2.trans e3))
theorem et_yes : EvT tYes σ H true := fun H1 _ Q q => q H1 (Ex.refl H1)
/-- a contract of data alone: what stood stands -/
def spP (K : PySem.W.Frag) (R : List PyData → PyData → Prop) : Sp := fun vs H Q _ => ∃ ds d, DpAll K H vs ds ∧ R ds d ∧ ∀ v H', Same H H' → Dp K H' v d → Q v H'
theorem ed_call {R : List PyData → PyData → Prop} {E : XK} {ta : TA} (h : EvDs K ta σ H ds) (hR : R ds d) : EvD K (tCall (spP K R) [] E ta) σ H d := fun H1 e Q q =>
  h H1 e _ fun vs H2 e2 hds => by
    show spP K R (vs ++ []) H2 Q E
    rw [List.append_nil]
    exact ⟨ds, d, hds, hR, fun v H3 s3 hd => q v H3 (e2.trans s3) hd⟩
/-! ### statements -/
variable {D : Ends} {tu : TS}
theorem sd_asg (h : EvD K te σ H d) (k : ∀ v H1, Ex H H1 → Dp K H1 v d → D.nx (σ.set i (some v)) H1) : tAsg te (gName i) D σ H := h H (Ex.refl H) _ fun v H1 e hd => k v H1 e hd
theorem sd_asgN (h : EvN K te σ H ds) (k : ∀ p vs H1, H p = none → Ex H H1 → H1 p = some (.lst vs) → DpAll K H1 vs ds → D.nx (σ.set i (some (.ref p))) H1) : tAsg te (gName i) D σ H := h H (Ex.refl H) _ fun p vs H1 np e hp hd => k p vs H1 np e hp hd
theorem sd_ret (h : EvD K te σ H d) (k : ∀ v H1, Ex H H1 → Dp K H1 v d → D.rt v H1) : tRet te D σ H := h H (Ex.refl H) _ k
theorem sd_un2 {n1 n2 : Nat} (h : EvD K te σ H (.tuple [d1, d2])) (k : ∀ v1 v2 H1, Ex H H1 → Dp K H1 v1 d1 → Dp K H1 v2 d2 → D.nx ((σ.set n1 (some v1)).set n2 (some v2)) H1) : tAsg te (gTup K 2 (gCons (gName n1) (gCons (gName n2) gNil))) D σ H := h H (Ex.refl H) _ fun v H1 e hd => by
  obtain ⟨p, xs, rfl, hs, hxs⟩ := dp_tup hd
  obtain ⟨v1, v2, rfl, h1, h2⟩ := dps2 hxs
  exact ⟨p, _, rfl, hs, rfl, _, _, rfl, _, _, rfl, rfl, k v1 v2 H1 e h1 h2⟩
theorem sd_un3 {d3 : PyData} {n1 n2 n3 : Nat} (h : EvD K te σ H (.tuple [d1, d2, d3])) (k : ∀ v1 v2 v3 H1, Ex H H1 → Dp K H1 v1 d1 → Dp K H1 v2 d2 → Dp K H1 v3 d3 → D.nx (((σ.set n1 (some v1)).set n2 (some v2)).set n3 (some v3)) H1) : tAsg te (gTup K 3 (gCons (gName n1) (gCons (gName n2) (gCons (gName n3) gNil)))) D σ H := h H (Ex.refl H) _ fun v H1 e hd => by
  obtain ⟨p, xs, rfl, hs, hxs⟩ := dp_tup hd
  obtain ⟨v1, v2, v3, rfl, h1, h2, h3⟩ := dps3 hxs
  exact ⟨p, _, rfl, hs, rfl, _, _, rfl, _, _, rfl, _, _, rfl, rfl, k v1 v2 v3 H1 e h1 h2 h3⟩
theorem sd_un4 {d3 d4 : PyData} {n1 n2 n3 n4 : Nat} (h : EvD K te σ H (.tuple [d1, d2, d3, d4])) (k : ∀ v1 v2 v3 v4 H1, Ex H H1 → Dp K H1 v1 d1 → Dp K H1 v2 d2 → Dp K H1 v3 d3 → Dp K H1 v4 d4 → D.nx ((((σ.set n1 (some v1)).set n2 (some v2)).set n3 (some v3)).set n4 (some v4)) H1) :
    tAsg te (gTup K 4 (gCons (gName n1) (gCons (gName n2) (gCons (gName n3) (gCons (gName n4) gNil))))) D σ H := h H (Ex.refl H) _ fun v H1 e hd => by
  obtain ⟨p, xs, rfl, hs, hxs⟩ := dp_tup hd
  obtain ⟨v1, v2, v3, v4, rfl, h1, h2, h3, h4⟩ := dps4 hxs
  exact ⟨p, _, rfl, hs, rfl, _, _, rfl, _, _, rfl, _, _, rfl, _, _, rfl, rfl, k v1 v2 v3 v4 H1 e h1 h2 h3 h4⟩
/-! ### what is walked -/
theorem ei_tup (h : EvD K te σ H (.tuple ds)) : EvI K (iTup K te) σ H ds := fun H1 e R q => h H1 e _ fun v H2 e2 hd => by
  obtain ⟨p, xs, rfl, hs, hxs⟩ := dp_tup hd
  refine ⟨p, rfl, ⟨xs, hs⟩, q _ H2 e2 ?_⟩
  rw [← hxs.length]
  refine (walk_tup (xs := xs)).mono (fun H3 e3 => ex_t e3 hs) fun i Ha x Hb hi e3 hy => ?_
  obtain ⟨rfl, hx⟩ := hy
  obtain ⟨dx, h1, h2⟩ := hxs.at hx
  exact ⟨Ex.refl _, dx, h1, dp_same e3 h2⟩
theorem ei_lst (h : EvD K te σ H (.list ds)) : EvI K (iList K te) σ H ds := fun H1 e R q => h H1 e _ fun v H2 e2 hd => by
  obtain ⟨p, xs, rfl, hs, hxs⟩ := dp_lst hd
  refine ⟨p, rfl, ⟨xs, hs⟩, q _ H2 e2 ?_⟩
  rw [← hxs.length]
  refine (walk_list (xs := xs)).mono (fun H3 e3 => ex_l e3 hs) fun i Ha x Hb hi e3 hy => ?_
  obtain ⟨rfl, hx⟩ := hy
  obtain ⟨dx, h1, h2⟩ := hxs.at hx
  exact ⟨Ex.refl _, dx, h1, dp_same e3 h2⟩
theorem ei_range {ta : TA} {n : Nat} (h : EvA ta σ H [.int (n : Int)]) (hn : n ≤ 100000) : EvI K (iRng1 ta) σ H ((List.range n).map fun (i : Nat) => PyData.int (i : Int)) := fun H1 e R q => h H1 e _ fun H2 e2 => ⟨(n : Int), rfl, by omega, by omega, q _ H2 e2 (by
  rw [List.length_map, List.length_range, Int.toNat_natCast]
  refine walk_range0.mono (fun _ _ => True.intro) fun i Ha x Hb hi e3 hy => ?_
  obtain ⟨rfl, rfl⟩ := hy
  refine ⟨Ex.refl _, .int (i : Int), ?_, .int _⟩
  rw [List.getElem?_map, List.getElem?_range hi]
  rfl)⟩
theorem ei_zip {ta tb : TE} {tx : TA} (ha : EvD K ta σ H (.list ds)) (hb : EvD K tb σ H (.list es)) (hl : ds.length = es.length ∨ True) : EvI K (iZip K (tCons ta (tCons tb tNil))) σ H ((ds.zip es).map fun p => .tuple [p.1, p.2]) := fun H1 e R q => ha H1 e _ fun v H2 e2 hv => hb H2 (e.trans e2) _ fun w H3 e3 hw => by
  obtain ⟨p, xs, rfl, hs, hxs⟩ := dp_lst (dp_same e3 hv)
  obtain ⟨p', ys, rfl, hs', hys⟩ := dp_lst hw
  refine ⟨p, p', xs, ys, rfl, hs, hs', q _ H3 (e2.trans e3) ?_⟩
  rw [List.length_map, List.length_zip, ← hxs.length, ← hys.length]
  refine (walk_zip (xs := xs) (ys := ys) rfl).mono (fun H4 e4 => ⟨ex_l e4 hs, ex_l e4 hs'⟩) fun i Ha x Hb hi e4 hy => ?_
  obtain ⟨T, x1, y1, rfl, nT, rfl, hx, hy⟩ := hy
  obtain ⟨dx, h1, h2⟩ := hxs.at hx
  obtain ⟨dy, h3, h4⟩ := hys.at hy
  refine ⟨Ex.new nT, .tuple [dx, dy], ?_, .tup (.of upd_same) (.cons (dp_same (e4.trans (Ex.new nT)) h2) (.cons (dp_same (e4.trans (Ex.new nT)) h4) .nil))⟩
  rw [List.getElem?_map, show (ds.zip es)[i]? = some (dx, dy) from by rw [List.getElem?_zip_eq_some]; exact ⟨h1, h3⟩]
  rfl
/-! ### comprehensions -/
theorem filter_snoc {α : Type} {xs : List α} {i : Nat} {a : α} (b : α → Bool) (h : xs[i]? = some a) : (xs.take (i + 1)).filter b = (xs.take i).filter b ++ (if b a = true then [a] else []) := by
  rw [take_snoc h, List.filter_append]
  cases hb : b a <;> simp [hb]
theorem en_lc {α : Type} {ti : TI} {g : TG} {vs : List Nat} (xs : List α) (enc : α → PyData) (b : α → Bool) (f : α → PyData) (hi : EvI K ti σ H (xs.map enc)) (hz : xs.length ≤ 40000) (hf : ∀ a ∈ xs, fz (f a) = true)
    (ht : ∀ (i : Nat) (a : α) (H1 : Hp) (x : V), xs[i]? = some a → Ex H H1 → Dp K H1 x (enc a) → ∀ R : L2.St → Hp → Prop, (∀ σ2, wipe σ2 vs = wipe σ vs → EvT t σ2 H1 (b a) → (b a = true → EvD K te σ2 H1 (f a)) → R σ2 H1) → g x (wipe σ vs) H1 R) :
    EvN K (tLc ti g t te vs) σ H ((xs.filter b).map f) := fun H0 e Q q => hi H0 e _ fun J H1 e1 W D nD => by
  refine lc_it W (fun i H' => Ex H1 H' ∧ ∃ vs, H' D = some (.lst vs) ∧ DpAll K H' vs (((xs.take i).filter b).map f)) ⟨Ex.new nD, [], upd_same, .nil⟩ (fun _ _ _ hP => hP.1) (fun i x Ha Hb hi hP hy => ?_) (fun H' hP => ?_)
  · obtain ⟨s1, acc, eD, hacc⟩ := hP
    obtain ⟨s2, d, hd, hx⟩ := hy
    rw [List.getElem?_map] at hd
    cases ha : xs[i]? with
    | none =>
      rw [ha] at hd
      cases hd
    | some a =>
      rw [ha] at hd
      have hd := Option.some.inj hd
      subst hd
      refine ht i a Hb x ha ((e.trans e1).trans (s1.trans s2)) hx _ fun σ2 hw tt he => ⟨hw, tt Hb (Ex.refl Hb) _ fun H3 e3 => ?_⟩
      have hn := filter_snoc b ha
      cases hb : b a with
      | false =>
        rw [hb] at hn
        refine iteF ⟨s1.trans (s2.trans e3), acc, e3 _ _ (s2 _ _ eD), ?_⟩
        rw [hn]
        show DpAll K H3 acc (((xs.take i).filter b ++ []).map f)
        rw [List.append_nil]
        exact dps_same (s2.trans e3) hacc
      | true =>
        rw [hb] at hn
        refine iteT (he hb H3 e3 _ fun y H4 e4 hy => ⟨acc, e4 _ _ (e3 _ _ (s2 _ _ eD)), ?_, ?_, acc ++ [y], upd_same, ?_⟩)
        · have h1 := hacc.length
          have h2 := List.length_filter_le b (xs.take i)
          have h3 := List.length_take_le i xs
          rw [List.length_map] at hi
          rw [List.length_map] at h1
          exact sz_lt (by omega)
        · exact Ex.mut (s1.trans (s2.trans (e3.trans e4))) nD
        · rw [hn]
          show DpAll K _ (acc ++ [y]) (((xs.take i).filter b ++ [a]).map f)
          rw [List.map_append]
          have eD4 := e4 _ _ (e3 _ _ (s2 _ _ eD))
          have ht : ∀ c xs, SqT K H4 c xs → SqT K (upd H4 D (.lst (acc ++ [y]))) c xs := fun c xs h => by
            rcases h with (h | ⟨o, h⟩) | h
            · exact .inl (.inl (by rw [upd_ne (ne_of h eD4 (by intro z; cases z))]; exact h))
            · exact .inl (.inr ⟨o, by rw [upd_ne (ne_of h eD4 (by intro z; cases z))]; exact h⟩)
            · exact .inr h
          have hfa : ∀ a ∈ (xs.take i).filter b, fz (f a) = true := fun a h => hf a (List.mem_of_mem_take (List.mem_filter.mp h).1)
          exact (dps_fz ht _ _ (fz_map hfa) (dps_same (s2.trans (e3.trans e4)) hacc)).app (.one (dp_fz ht _ _ (hf a (List.mem_of_getElem? ha)) hy))
  · obtain ⟨s1, acc, eD, hacc⟩ := hP
    rw [List.length_map, List.take_length] at hacc
    exact q D acc H' (fresh_back e1 nD) (e1.trans s1) eD hacc
end
end Ink
namespace Ink
open PySem PySem.Spec PyProof.Rows L2
/-! ### sorted(xs), the items alike data of any depth -/
def rSortedD (K : PySem.W.Frag) : List V → Hp → VK → Prop := fun vs H Q => ∃ (x : V) (ds : List PyData), vs = [x] ∧ Dp K H x (.list ds) ∧ PySem.W.AllAlike ds ∧ PySem.W.Sortable ds ∧ (∀ d ∈ ds, d.depth ≤ 64) ∧
  ∀ p ws, H p = none → DpAll K H ws (ds.mergeSort (PySem.W.dataLe false id)) → Q (.ref p) (upd H p (.lst ws))
theorem each_pairs {K : PySem.W.Frag} {H : Hp} : ∀ {xs : List V} {its : List Value} {ds : List PyData}, Vals xs its → DpAll K H xs ds → PySem.W.EachIs (fun u (b : V × PyData) => RelV b.1 u ∧ Dp K H b.1 b.2) its (xs.zip ds)
  | _, _, _, .nil, .nil => .nil
  | _, _, _, .cons r rs, .cons h hs => .cons ⟨r, h⟩ (each_pairs rs hs)
theorem pairs_each {K : PySem.W.Frag} {H : Hp} : ∀ {out : List Value} {bs : List (V × PyData)}, PySem.W.EachIs (fun u (b : V × PyData) => RelV b.1 u ∧ Dp K H b.1 b.2) out bs → Vals (bs.map Prod.fst) out ∧ DpAll K H (bs.map Prod.fst) (bs.map Prod.snd)
  | _, _, .nil => ⟨.nil, .nil⟩
  | _, _, .cons ⟨r, h⟩ t => ⟨.cons r (pairs_each t).1, .cons h (pairs_each t).2⟩
theorem each_imp {α β : Type} {R S : α → β → Prop} (h : ∀ a b, R a b → S a b) : ∀ {as : List α} {bs : List β}, PySem.W.EachIs R as bs → PySem.W.EachIs S as bs
  | _, _, .nil => .nil
  | _, _, .cons r t => .cons (h _ _ r) (each_imp h t)
theorem zip_snd {α β : Type} : ∀ {as : List α} {bs : List β}, as.length = bs.length → (as.zip bs).map Prod.snd = bs
  | [], [], _ => rfl
  | _ :: _, _ :: _, h => by
    rw [List.zip_cons_cons, List.map_cons, zip_snd (by simpa using h)]
theorem cr_sortedD {X : Cx} (hu : X.A.units + 100 < cLine) : CallR X (.builtin "sorted") (rSortedD X.K) := by
  intro pins s σ H vs us Q I r h
  obtain ⟨x, ds, rfl, hx, ha, hs, hd, q⟩ := h
  obtain ⟨p, xs, rfl, hl, hds⟩ := dp_lst hx
  obtain ⟨its, rv, pl, hz⟩ := I.list hl
  rw [Vals.ref1 r]
  have hlen := hds.length
  have esnd : (xs.zip ds).map Prod.snd = ds := zip_snd hlen
  have e := each_pairs rv hds
  refine PySem.W.sorted_data (enc := Prod.snd) pl.isList e (each_imp (fun u b ⟨r, h⟩ => Dp.reads I b.2 b.1 u h r) e) (by rw [esnd]; exact ha) (by rw [esnd]; exact hs) (by rw [List.length_zip]; omega) (fun b hb => ?_) fun out ho hout => ?_
  · have : b.2 ∈ ds := by
      rw [← esnd]
      exact List.mem_map_of_mem hb
    have := hd _ this
    omega
  · obtain ⟨v1, d1⟩ := pairs_each hout
    obtain ⟨ep, he'⟩ := PyProof.Rows.sortedAll_at s.heap its out.toArray
    have em : ((xs.zip ds).mergeSort (PySem.W.dataLe false Prod.snd)).map Prod.snd = ds.mergeSort (PySem.W.dataLe false id) := by
      have z := List.map_mergeSort (r := PySem.W.dataLe false (Prod.snd : V × PyData → PyData)) (s := PySem.W.dataLe false id) (f := Prod.snd) (l := xs.zip ds) (fun a _ b _ => rfl)
      rw [z, esnd]
    rw [em] at d1
    have hwl : (((xs.zip ds).mergeSort (PySem.W.dataLe false Prod.snd)).map Prod.fst).length ≤ sizeLine := by
      rw [List.length_map, List.length_mergeSort, List.length_zip]
      omega
    exact ⟨.ref _, upd H (s.heap.objs.size + 1) (.lst _), I.laid (t' := s.toks) (fun _ _ => PyProof.Rows.sortedAll_old) (Nat.le_succ _) ⟨hwl, out, ep, v1, he'⟩, rfl, q _ _ (I.hok.fresh (Nat.le_succ _)) d1⟩
open Evl
theorem en_sorted {K : PySem.W.Frag} {σ : L2.St} {H : Hp} {te : TE} {ds : List PyData} (h : EvD K te σ H (.list ds)) (ha : PySem.W.AllAlike ds) (hs : PySem.W.Sortable ds) (hd : ∀ d ∈ ds, d.depth ≤ 64) : EvN K (tCB (rSortedD K) (tCons te tNil)) σ H (ds.mergeSort (PySem.W.dataLe false id)) := fun H1 e Q q =>
  h H1 e _ fun v H2 e2 hv => ⟨v, ds, rfl, hv, ha, hs, hd, fun p ws np hw => q p ws _ (fresh_back e2 np) (e2.trans (Ex.new np)) upd_same (dps_same (Ex.new np) hw)⟩
end Ink
namespace Ink
open PySem PySem.Spec PyProof.Rows L2
/-! ### dicts whose keys are nested tuples -/
abbrev NK := NestedKey
mutual
theorem nest_of {X : Cx} {pins : List (Addr × Obj)} {σ : L2.St} {H : Hp} {s : Shared} (I : Inv X pins σ H s) : ∀ (k : NK) (v : V) (u : Value), Dp X.K H v k.data → RelV v u → NestedIs s.heap k u
  | .none, _, _, h, r => by
    have h : Dp X.K H _ .none := h
    cases h
    cases r
    exact .none
  | .num i, _, _, h, r => by
    have h : Dp X.K H _ (.int i) := h
    cases h
    obtain ⟨t, rfl⟩ := r
    exact .int i t
  | .text x, _, _, h, r => by
    have h : Dp X.K H _ (.str x) := h
    cases h
    obtain ⟨t, rfl⟩ := r
    exact .text x t
  | .tup ks, v, u, h, r => by
    have h : Dp X.K H v (.tuple (NestedKey.datas ks)) := by
      unfold NestedKey.data at h
      exact h
    cases h with
    | tup hs ha =>
      cases r
      obtain ⟨its, rv, ⟨o, ho, hc, n, hd⟩, _⟩ := I.tuple hs
      exact .tup ho hc hd (nests_of I ks _ its ha rv)
theorem nests_of {X : Cx} {pins : List (Addr × Obj)} {σ : L2.St} {H : Hp} {s : Shared} (I : Inv X pins σ H s) : ∀ (ks : List NK) (vs : List V) (us : List Value), DpAll X.K H vs (NestedKey.datas ks) → Vals vs us → NestedAll s.heap ks us
  | [], _, _, h, r => by
    unfold NestedKey.datas at h
    cases h
    cases r
    exact .nil
  | k :: ks, _, _, h, r => by
    unfold NestedKey.datas at h
    cases h with
    | cons h1 h2 =>
      cases r with
      | cons r1 r2 => exact .cons (nest_of I k _ _ h1 r1) (nests_of I ks _ _ h2 r2)
end
mutual
theorem fz_key : ∀ k : NK, fz k.data = true
  | .none => by unfold NestedKey.data fz; rfl
  | .num _ => by unfold NestedKey.data fz; rfl
  | .text _ => by unfold NestedKey.data fz; rfl
  | .tup ks => by
    unfold NestedKey.data fz
    exact fz_keys ks
theorem fz_keys : ∀ ks : List NK, fzAll (NestedKey.datas ks) = true
  | [] => by unfold NestedKey.datas fzAll; rfl
  | k :: ks => by
    unfold NestedKey.datas fzAll
    rw [fz_key k, fz_keys ks]
    rfl
end
/-- a key as a reading gives it: a tuple, not too deep -/
def KeyAt (K : PySem.W.Frag) (H : Hp) (v : V) (k : NK) : Prop := Dp K H v k.data ∧ k.depth ≤ 8 ∧ ∃ ks, k = .tup ks
def lookN (kvs : List (NK × V)) (k : NK) : Option V := (kvs.find? fun kv => decide (kv.1 = k)).map (·.2)
def putN (kvs : List (NK × V)) (k : NK) (v : V) : List (NK × V) := if (lookN kvs k).isSome then kvs.map (fun kv => if kv.1 = k then (kv.1, v) else kv) else kvs ++ [(k, v)]
/-- what is known of a dict: its rows, and the very object -/
abbrev DX := List (NK × Addr × Value) × Obj
def DicO (P : Program) (w : World) (d : Addr) (x : DX) : HO := .ext fun h => (d == sysModules) = false ∧ ∃ es ep, h.get? d = some x.2 ∧ x.2.ExactDict ∧ x.2.data = .dict es ep ∧ es.toList = x.1.map (entryOfKey (nestedKind P w))
def PairN (p : NK × V) (x : NK × Addr × Value) : Prop := p.1 = x.1 ∧ RelV p.2 x.2.2
/-- at d stands a dict with these keys and values, in the order in which they came -/
def DicAt (P : Program) (w : World) (K : PySem.W.Frag) (H : Hp) (d : Addr) (kvs : List (NK × V)) : Prop :=
  ∃ xs : DX, H d = some (DicO P w d xs) ∧ Paired PairN kvs xs.1 ∧ (∀ x ∈ xs.1, KeyAt K H (.ref x.2.1) x.1) ∧ (xs.1.map (·.1)).Nodup ∧ kvs.length ≤ 100000
theorem dicO_ne {P : Program} {w : World} {d : Addr} {xs : DX} : (∀ ys, DicO P w d xs ≠ .lst ys) ∧ (∀ ys, DicO P w d xs ≠ .tup ys) := ⟨fun ys z => (by unfold DicO at z; cases z), fun ys z => (by unfold DicO at z; cases z)⟩
section
variable {P : Program} {w : World} {K : PySem.W.Frag} {H H' : Hp} {d : Addr} {kvs : List (NK × V)} {v : V} {k : NK}
theorem KeyAt.up (ht : ∀ b xs, SqT K H b xs → SqT K H' b xs) (h : KeyAt K H v k) : KeyAt K H' v k := ⟨dp_fz ht _ _ (fz_key k) h.1, h.2⟩
theorem DicAt.up (hd : H' d = H d) (ht : ∀ b xs, SqT K H b xs → SqT K H' b xs) (h : DicAt P w K H d kvs) : DicAt P w K H' d kvs := by
  obtain ⟨xs, e, p, hk, r⟩ := h
  exact ⟨xs, hd.trans e, p, fun x hx => (hk x hx).up ht, r⟩
theorem DicAt.same (e : Evl.Ex H H') (h : DicAt P w K H d kvs) : DicAt P w K H' d kvs := by
  obtain ⟨xs, ed, p, hk, r⟩ := h
  exact ⟨xs, e _ _ ed, p, fun x hx => (hk x hx).up fun _ _ => Evl.ex_t e, r⟩
theorem DicAt.keep {a l : Addr} (b : BagAt H a l) (k : Keep a H H') (h : DicAt P w K H d kvs) : DicAt P w K H' d kvs := by
  obtain ⟨xs, ed, p, hk, r⟩ := h
  refine ⟨xs, k d _ (fun z => ?_) ed, p, fun x hx => (hk x hx).up (keep_t b k), r⟩
  obtain ⟨ns, _, _, _, h1, _⟩ := b
  rw [z, h1] at ed
  exact dicO_ne.1 _ (Option.some.inj ed).symm
theorem DicAt.free (h : DicAt P w K H d kvs) : ∃ o, H d = some o := by
  obtain ⟨xs, e, _⟩ := h
  exact ⟨_, e⟩
theorem paired_look : ∀ {kvs : List (NK × V)} {xs : List (NK × Addr × Value)} (k : NK), Paired PairN kvs xs → RelO (lookN kvs k) ((atKey xs k).map (·.2))
  | _, _, k, .nil => by
    unfold lookN atKey
    exact True.intro
  | _, _, k, .cons (a := p) (b := x) r t => by
    have ih := paired_look k t
    unfold lookN atKey at ih ⊢
    rw [List.find?_cons, List.find?_cons, r.1]
    cases decide (x.1 = k) with
    | true => exact r.2
    | false => exact ih
theorem relO_isSome {x : Option V} {y : Option Value} (r : RelO x y) : y.isSome = x.isSome := by
  cases x <;> cases y <;> first | rfl | exact r.elim
theorem paired_put {kvs : List (NK × V)} {xs : List (NK × Addr × Value)} (k : NK) (a : Addr) {v : V} {u : Value} (r : RelV v u) (p : Paired PairN kvs xs) : Paired PairN (putN kvs k v) (storedH xs k a u) := by
  have e := relO_isSome (paired_look k p)
  rw [Option.isSome_map] at e
  unfold putN storedH
  rw [e]
  cases (lookN kvs k).isSome with
  | false => exact Paired.snoc p ⟨rfl, r⟩
  | true =>
    show Paired PairN (kvs.map fun kv => if kv.1 = k then (kv.1, v) else kv) (xs.map (putAt k u))
    clear e
    induction p with
    | nil => exact .nil
    | @cons p x kvs xs q t ih =>
      rw [List.map_cons, List.map_cons]
      refine .cons ?_ ih
      unfold putAt
      by_cases h : p.1 = k
      · rw [if_pos h, if_pos (q.1.symm.trans h)]
        exact ⟨q.1, r⟩
      · rw [if_neg h, if_neg (fun z => h (q.1.trans z))]
        exact q
theorem putN_len {kvs : List (NK × V)} {k : NK} {v : V} : (putN kvs k v).length ≤ kvs.length + 1 := by
  unfold putN
  split
  · rw [List.length_map]
    omega
  · rw [List.length_append]
    exact Nat.le_refl _
end
section
variable {X : Cx} {pins : List (Addr × Obj)} {σ : L2.St} {H : Hp} {s : Shared} {d : Addr} {kvs : List (NK × V)}
theorem DicAt.raw (I : Inv X pins σ H s) (h : DicAt X.prog X.w X.K H d kvs) : ∃ xs o, s.heap.DictOfH (nestedKind X.prog X.w) d xs ∧ (d == sysModules) = false ∧ H d = some (DicO X.prog X.w d (xs, o)) ∧ Paired PairN kvs xs ∧ (∀ x ∈ xs, KeyAt X.K H (.ref x.2.1) x.1) := by
  obtain ⟨⟨xs, o⟩, e, p, hk, nd, hz⟩ := h
  obtain ⟨⟨hs, es, ep, h1, h2, h3, h4⟩, _, _⟩ : ObjOk X.prog X.w H s.heap d (.ext fun h => (d == sysModules) = false ∧ ∃ es ep, h.get? d = some o ∧ o.ExactDict ∧ o.data = .dict es ep ∧ es.toList = xs.map (entryOfKey (nestedKind X.prog X.w))) := I.hok d _ e
  exact ⟨xs, o, ⟨o, es, ep, h1, h2, h3, h4, fun x hx => ⟨nest_of I _ _ _ (hk x hx).1 rfl, (hk x hx).2.1⟩, nd⟩, hs, e, p, hk⟩
/-- the object that stands at d -/
theorem dic_obj (I : Inv X pins σ H s) {x : DX} (e : H d = some (DicO X.prog X.w d x)) : (d == sysModules) = false ∧ ∃ es ep, s.heap.get? d = some x.2 ∧ x.2.ExactDict ∧ x.2.data = .dict es ep ∧ es.toList = x.1.map (entryOfKey (nestedKind X.prog X.w)) := by
  obtain ⟨q, _, _⟩ : ObjOk X.prog X.w H s.heap d (.ext fun h => (d == sysModules) = false ∧ ∃ es ep, h.get? d = some x.2 ∧ x.2.ExactDict ∧ x.2.data = .dict es ep ∧ es.toList = x.1.map (entryOfKey (nestedKind X.prog X.w))) := I.hok d _ e
  exact q
theorem key_is (I : Inv X pins σ H s) {v : V} {u : Value} {k : NK} (h : KeyAt X.K H v k) (r : RelV v u) : ∃ a, u = .ref a ∧ v = .ref a ∧ (nestedKind X.prog X.w).is s.heap k a := by
  obtain ⟨h1, h2, ks, rfl⟩ := h
  have n := nest_of I _ _ _ h1 r
  cases n with
  | @tup a o vs n ks e1 e2 e3 e4 =>
    refine ⟨a, rfl, ?_, .tup e1 e2 e3 e4, h2⟩
    cases v <;> first | (cases r; done) | skip
    all_goals first | (cases r; rfl) | (obtain ⟨_, z⟩ := r; cases z)
/-- x in d, x not in d -/
def rInN (P : Program) (w : World) (K : PySem.W.Frag) (neg : Bool) : R2 := fun x y H Q => ∃ (k : NK) (d : Addr) (kvs : List (NK × V)), y = .ref d ∧ KeyAt K H x k ∧ DicAt P w K H d kvs ∧ Q (.bl (if neg then !(lookN kvs k).isSome else (lookN kvs k).isSome)) H
theorem at_look {xs : List (NK × Addr × Value)} {k : NK} (p : Paired PairN kvs xs) : (valueAt (pairsH xs) k).isSome = (lookN kvs k).isSome := by
  rw [valueAt_pairsH]
  exact relO_isSome (paired_look k p)
theorem op_inN (hu : X.A.units + 100 < cLine) : OpR X (compareOp .In) (rInN X.prog X.w X.K false) := by
  intro pins s σ H x y v u Q I rx ry h
  obtain ⟨k, d, kvs, rfl, hk, hd, q⟩ := h
  cases ry
  obtain ⟨a, rfl, _, ha⟩ := key_is I hk rx
  obtain ⟨xs, ob, hm, hs, e, p, _⟩ := hd.raw I
  refine in_keyed (knd := nestedKind X.prog X.w) (show X.A.units + 1 + 8 < cLine by omega) ha hs ⟨xs, hm, rfl⟩ ?_
  rw [at_look p]
  exact ⟨.bl _, H, I.tok _, rfl, q⟩
theorem op_notinN (hu : X.A.units + 100 < cLine) : OpR X (compareOp .NotIn) (rInN X.prog X.w X.K true) := by
  intro pins s σ H x y v u Q I rx ry h
  obtain ⟨k, d, kvs, rfl, hk, hd, q⟩ := h
  cases ry
  obtain ⟨a, rfl, _, ha⟩ := key_is I hk rx
  obtain ⟨xs, ob, hm, hs, e, p, _⟩ := hd.raw I
  refine notIn_keyed (knd := nestedKind X.prog X.w) (show X.A.units + 1 + 8 < cLine by omega) ha hs ⟨xs, hm, rfl⟩ ?_
  rw [at_look p]
  exact ⟨.bl _, H, I.tok _, rfl, q⟩
/-- d[k], k there -/
def tDGetN (P : Program) (w : World) (K : PySem.W.Frag) (td ty : TE) : TE := fun σ H Q => td σ H fun x H1 => ty σ H1 fun y H2 => ∃ (d : Addr) (kvs : List (NK × V)) (k : NK) (v : V), x = .ref d ∧ DicAt P w K H2 d kvs ∧ KeyAt K H2 y k ∧ lookN kvs k = some v ∧ Q v H2
theorem pe_dgetN {o i : Expr} {td ty : TE} {pos : Pos} (hu : X.A.units + 100 < cLine) (ho : PE X o td) (hi : PE X i ty) (hs : NoSl i) : PE X (.Subscript o i pos) (tDGetN X.prog X.w X.K td ty) := by
  refine ⟨fun pins s σ H Q I h => ?_⟩
  refine subD_of PySem.F.slot_dict_getitem.lookup hs (thn (ho.run pins s σ H _ I h) fun u s1 ⟨x, H1, I1, rx, q1⟩ => thn (hi.run pins s1 σ H1 _ I1 q1) fun iv s2 ⟨y, H2, I2, ry, d, kvs, k, v, ex, hd, hk, hl, q2⟩ => ?_)
  subst ex
  obtain rfl : u = Value.ref d := rx
  obtain ⟨a, rfl, _, ha⟩ := key_is I2 hk ry
  obtain ⟨xs, ob, hm, hs', e, p, _⟩ := hd.raw I2
  have r := paired_look k p
  rw [hl] at r
  cases hv : (atKey xs k).map (·.2) with
  | none =>
    rw [hv] at r
    exact r.elim
  | some z =>
    rw [hv] at r
    exact ⟨hm.typeIs, getItem_keyed (knd := nestedKind X.prog X.w) (show X.A.units + 1 + 8 < cLine by omega) ha ⟨xs, hm, rfl⟩ (by rw [valueAt_pairsH]; exact hv) ⟨v, H2, I2.tok _, r, q2⟩⟩
/-- d[k] = v -/
def rSetN (P : Program) (w : World) (K : PySem.W.Frag) : TSet := fun o i v H Q => ∃ (d : Addr) (kvs : List (NK × V)) (k : NK), o = .ref d ∧ DicAt P w K H d kvs ∧ KeyAt K H i k ∧ kvs.length < 100000 ∧
  ∀ H', DicAt P w K H' d (putN kvs k v) → (∀ b, b ≠ d → H' b = H b) → Q H'
theorem set_dicN (hu : X.A.units + 100 < cLine) : PSet X (rSetN X.prog X.w X.K) := by
  intro pins s σ H o i v ov iv u Q I ro ri rv h
  obtain ⟨d, kvs, k, rfl, hd, hk, hz, q⟩ := h
  cases ro
  obtain ⟨a, rfl, ea, ha⟩ := key_is I hk ri
  obtain ⟨xs, ob, hm, hs, e, p, hks⟩ := hd.raw I
  have hl : xs.length = kvs.length := (Paired.length p).symm
  refine wpAny_setItem_heap (knd := nestedKind X.prog X.w) (hsz := by rw [hl]; exact Evl.sz_of (by omega)) (show X.A.units + 1 + 8 < cLine by omega) ha hm fun h' hm' sb => ?_
  obtain ⟨o', es, ep, h1, h2, h3, h4, h5, h6⟩ := hm'
  have ok : ObjOk X.prog X.w (upd H d (DicO X.prog X.w d (storedH xs k a u, o'))) h' d (DicO X.prog X.w d (storedH xs k a u, o')) := ⟨⟨hs, es, ep, h1, h2, h3, h4⟩, ⟨o', h1⟩, fun g1 g2 ⟨z, es, ep, e1, r⟩ st => ⟨z, es, ep, st _ e1, r⟩⟩
  have I' := I.write (e := d) (t' := s.toks + (nestedKind X.prog X.w).draws k) (by rw [e]; trivial) (.inl rfl) (fun b w hb hw => (sb.2 b hb).trans hw) ⟨o', h1⟩ ok
  have ht : ∀ b xs', SqT X.K H b xs' → SqT X.K (upd H d (DicO X.prog X.w d (storedH xs k a u, o'))) b xs' := fun b xs' hb => by
    rcases hb with (hb | ⟨oo, hb⟩) | hb
    · exact .inl (.inl (by rw [upd_ne (ne_of hb e (fun z => dicO_ne.2 _ z.symm))]; exact hb))
    · exact .inl (.inr ⟨oo, by rw [upd_ne (ne_of hb e (fun z => by unfold DicO at z; cases z))]; exact hb⟩)
    · exact .inr hb
  refine ⟨_, I', q _ ⟨(_, _), upd_same, paired_put k a rv p, fun x hx => ?_, h6, Nat.le_trans putN_len (by omega)⟩ fun b hb => upd_ne hb⟩
  unfold storedH at hx
  split at hx
  · obtain ⟨y, hy, rfl⟩ := List.mem_map.mp hx
    unfold putAt
    split
    · exact (hks y hy).up ht
    · exact (hks y hy).up ht
  · rcases List.mem_append.mp hx with hx | hx
    · exact (hks x hx).up ht
    · rw [List.mem_singleton] at hx
      subst hx
      rw [← ea]
      exact hk.up ht
/-- {} -/
def tDNewN (P : Program) (w : World) (K : PySem.W.Frag) : TE := fun _ H Q => ∀ p H', H p = none → (∀ b, b ≠ p → H' b = H b) → DicAt P w K H' p [] → Q (.ref p) H'
theorem pe_dnewN {pos : Pos} : PE X (.Dict [] [] pos) (tDNewN X.prog X.w X.K) := ⟨fun pins s σ H Q I h => by
  have hs : (s.heap.objs.size == sysModules) = false := beq_eq_false_iff_ne.mpr (Ne.symm (Nat.ne_of_lt I.big))
  have ok : ObjOk X.prog X.w (upd H s.heap.objs.size (DicO X.prog X.w s.heap.objs.size ([], { cls := .type "dict", data := .dict #[] }))) (s.heap.push { cls := .type "dict", data := .dict #[] }) s.heap.objs.size (DicO X.prog X.w s.heap.objs.size ([], { cls := .type "dict", data := .dict #[] })) :=
    ⟨⟨hs, #[], 0, Heap.get?_push_size _ rfl, ⟨rfl, rfl, rfl⟩, rfl, rfl⟩, ⟨_, Heap.get?_push_size _ rfl⟩, fun g1 g2 ⟨z, es, ep, e1, r⟩ st => ⟨z, es, ep, st _ e1, r⟩⟩
  exact wpAny_Dict_empty ⟨.ref s.heap.objs.size, _, I.laid (a := s.heap.objs.size) (t' := s.toks) (fun _ _ q => Heap.get?_push_of_some _ q) (Nat.le_refl _) ok, rfl,
    h _ _ (I.hok.fresh (Nat.le_refl _)) (fun b hb => upd_ne hb) ⟨([], _), upd_same, .nil, fun x hx => (by cases hx), List.nodup_nil, Nat.zero_le _⟩⟩⟩
end
end Ink
namespace Ink
open PySem PySem.Spec PyProof.Rows L2
/-! ### enumerate(t), t a tuple -/
set_option maxHeartbeats 8000000 in
theorem enum_one {v : Value} {o : Obj} {G : Heap → Prop} (B : Begins v o G) : Meets (Builtin.«enumerate.__new__» ⟨[.type "enumerate", v], []⟩) (fun _ R s => G s.heap ∧
    R (.ok (.ret (.ref (s.heap.push o).objs.size))) { s with heap := (s.heap.push o).push { cls := .type "enumerate", data := .fields #[.none, .bool false, .ref s.heap.objs.size, rawInt 0, .none, .none] } }) :=
  .of_wp fun prog w A R s hw => by
    obtain ⟨hp, gs, dr, tk, os⟩ := s
    obtain ⟨hG, hR⟩ := hw
    have hsub := sub_enumerate
    have it : ∀ {A' : Around} {E : Value → Shared → Prop} {Q : Value → Shared → Prop}, Q (.ref hp.objs.size) ⟨hp.push o, gs, dr, tk, os⟩ → wpAny (model prog w) A' (pyIter v) Q E ⟨hp, gs, dr, tk, os⟩ := fun q => B.iter prog w _ _ ⟨hp, gs, dr, tk, os⟩ _ hG q
    wp_walk using it
    refine wpAny_stack_any fun st => wpAny_pure ?_
    split
    · rename_i c _ _ _ _ _
      cases (c == Value.type "enumerate") <;> (wp_walk using it; exact ⟨_, rfl, hR⟩)
    · wp_walk using it
      exact ⟨_, rfl, hR⟩
section
variable {prog : Program} {w : World} {A : Around} {E : Value → Shared → Prop} {s : Shared}
theorem enum_call {v : Value} {o : Obj} {G : Heap → Prop} {Q : Value → Shared → Prop} (B : Begins v o G) (hG : G s.heap)
    (h : ∀ h', IsEnum h' (s.heap.objs.size + 1) s.heap.objs.size 0 .none → h'.get? s.heap.objs.size = some o → (∀ b u, s.heap.get? b = some u → h'.get? b = some u) → Q (.ref (s.heap.objs.size + 1)) { s with heap := h' }) :
    wpAny (model prog w) A (call (.type "enumerate") [v]) Q E s := by
  refine callType_new F.called_enumerate (by decide) (F.typeCall_enumerate_1 _) (F.newCall_enumerate_1 _) (fun obj => F.args_object_init_2 obj _) F.entry_enumerate_new (enum_one B) ⟨hG, ?_⟩
  have hz : (s.heap.push o).objs.size = s.heap.objs.size + 1 := Heap.size_push ..
  show _ ∧ _
  rw [hz]
  have he := Heap.get?_push_size (s.heap.push o) (o := { cls := .type "enumerate", data := .fields #[.none, .bool false, .ref s.heap.objs.size, rawInt 0, .none, .none] }) rfl
  rw [hz] at he
  exact ⟨⟨_, he, rfl⟩, h _ he (Heap.get?_push_of_some _ (Heap.get?_push_size _ B.free)) fun b u x => Heap.get?_push_of_some _ (Heap.get?_push_of_some _ x)⟩
end
/-- the tuple at a, each item in a new pair with its place -/
def IteT (K : PySem.W.Frag) (a : Addr) : It :=
  ⟨fun i H => ∃ (xs : List V) (x : V), SqT K H a xs ∧ xs[i]? = some x, fun i H v H' => ∃ T x, v = .ref T ∧ H T = none ∧ H' = upd H T (.tup [.int (i : Nat), x]) ∧ ∀ xs, SqT K H a xs → xs[i]? = some x, fun i H => ∃ xs : List V, SqT K H a xs ∧ xs.length = i⟩
theorem walk_enumT {K : PySem.W.Frag} {a : Addr} {xs : List V} : Walk (IteT K a) xs.length (fun H => SqT K H a xs) (YPair (fun i => some (.int (i : Nat))) (fun i => xs[i]?)) := by
  refine ⟨fun i _ hi q => ⟨xs, xs[i], q, List.getElem?_eq_getElem hi⟩, fun _ q => ⟨xs, q, rfl⟩, fun i H v H' _ q y => ?_⟩
  obtain ⟨T, x, h1, h2, h3, h4⟩ := y
  exact ⟨T, _, x, h1, h2, h3, rfl, h4 xs q⟩
theorem turn_enumT {P : Program} {w : World} {K : PySem.W.Frag} {elts : List Expr} {kk : Nat} {tpos : Pos} (a e it : Addr) (nit : a ≠ it) (nea : e ≠ a) (nei : e ≠ it) :
    Turn P w K (.Tuple elts kk tpos) (IteT K a) [e, it] e (fun i h => (∃ old, IsEnum h e it ((i : Nat) : Int) old) ∧ h.IsTupleIter it a i) where
  mem := List.mem_cons_self ..
  obj i h st b hb := by
    obtain ⟨⟨old, he⟩, o, ho, hc, hd⟩ := st
    rcases List.mem_cons.mp hb with z | z
    · rw [z]
      exact ⟨_, he, fun v q => nomatch q⟩
    · rw [List.mem_singleton.mp z]
      exact ⟨o, ho, fun v q => by rw [hd] at q; cases q⟩
  keep i h h' st k := by
    obtain ⟨⟨old, he⟩, hi⟩ := st
    exact ⟨⟨old, k e (List.mem_cons_self ..) _ he⟩, hi.at fun o q => k it (List.mem_cons_of_mem _ (List.mem_cons_self ..)) o q⟩
  item := by
    intro X hP hw hK hc i pins s σ H E I hf st hg
    subst hP hw hK
    obtain ⟨⟨old, he⟩, hit⟩ := st
    obtain ⟨ys, x, hq, hx⟩ := hg
    obtain ⟨its, ry, tp, hz⟩ := I.tuple hq
    obtain ⟨u, hu, ru⟩ := ry.get hx
    have hui : its.toArray[i]? = some u := by rw [List.getElem?_toArray]; exact hu
    have hlt : i < its.toArray.size := (Array.getElem?_eq_some_iff.mp hui).1
    have hel : e < s.heap.objs.size := Heap.lt_size he
    have hil : it < s.heap.objs.size := by
      obtain ⟨_, q, _⟩ := hit
      exact Heap.lt_size q
    have hD := Draws.tuple (prog := X.prog) (w := X.w) (A := X.A.in1) (I.ok.hd hc) it a nit its.toArray
    refine wpAny_pyNext_enum_itemD hD he ⟨hit, tp⟩ hlt nei (fun m => by
      rcases List.mem_cons.mp m with z | z
      · exact nei z
      · exact nea (List.mem_singleton.mp z)) fun u' h' tk hP ho hst hT hsz hk => ?_
    have hP : its.toArray[i]? = some u' := hP
    rw [hui] at hP
    cases hP
    refine ⟨_, rfl, wpAny_letOwnedTupleGo_enum (s := { s with heap := h', toks := tk + 1 }) ho fun h2 he2 sb => ?_⟩
    have hT2 : h2.get? s.heap.objs.size = some { cls := .type "tuple", data := .seq #[.int i tk, u] } := (sb.2 _ (Nat.ne_of_gt hel)).trans hT
    have new : ObjOk X.prog X.w (upd H s.heap.objs.size (.tup [.int (i : Nat), x])) h2 s.heap.objs.size (.tup [.int (i : Nat), x]) :=
      ⟨by show 2 ≤ sizeLine; decide, [.int i tk, u], .cons ⟨_, rfl⟩ (.cons ru .nil), ⟨_, hT2, rfl, _, rfl⟩⟩
    have I1 : Inv X pins σ (upd H s.heap.objs.size (.tup [.int (i : Nat), x])) { s with heap := h2, toks := tk + 1 } :=
      I.turnedNew (ch := [e, it]) (fun b ob hb q => (sb.2 b (fun z => hb (by simp [z]))).trans (hk b ob (fun z => hb (by simp [z])) (fun z => hb (by simp [z])) q)) hf (Nat.le_refl _) new
    refine ⟨.ref s.heap.objs.size, _, I1, rfl, ⟨_, x, rfl, I.hok.fresh (Nat.le_refl _), rfl, fun zs hy => by rw [I.tuple_inj hy hq]; exact hx⟩, ⟨⟨u, ?_⟩, hst.1.at fun o q => (sb.2 it (Ne.symm nei)).trans q⟩, fun b hb => ?_⟩
    · rw [show ((i + 1 : Nat) : Int) = (i : Int) + 1 by omega]
      exact he2
    · have hb' : b < s.heap.objs.size := by
        rcases List.mem_cons.mp hb with z | z
        · rw [z]
          exact hel
        · rw [List.mem_singleton.mp z]
          exact hil
      rw [upd_ne (Nat.ne_of_lt hb')]
      exact (hf b hb).1
  done := by
    intro X hP hw hK hc i pins s σ H E I hf st hg
    subst hP hw hK
    obtain ⟨⟨old, he⟩, hit⟩ := st
    obtain ⟨ys, hq, hx⟩ := hg
    obtain ⟨its, ry, tp, hz⟩ := I.tuple hq
    obtain ⟨f0, f1, f2, f3, f4, f5⟩ := hf it (List.mem_cons_of_mem _ (List.mem_cons_self ..))
    have hn : its.toArray.size = i := by
      rw [List.size_toArray, ← ry.length]
      exact hx
    have hD := Draws.tuple (prog := X.prog) (w := X.w) (A := X.A.in1) (I.ok.hd hc) it a nit its.toArray
    exact wpAny_pyNext_enum_endD hD he ⟨by rw [hn]; exact hit, tp⟩ fun h' eb => ⟨rfl, I.turned (t' := s.toks) (fun b o hb q => eb b o hb q) f0 f1 f3 f4 f5⟩
  self A i s Q E st h := by
    obtain ⟨⟨_, he⟩, _⟩ := st
    exact wpAny_pyIter_enum he h
def iEnumT (K : PySem.W.Frag) (ta : TA) : TI := fun σ H R => ta σ H fun vs H1 => ∃ a xs, vs = [.ref a] ∧ SqT K H1 a xs ∧ R (IteT K a) H1
theorem pi_enumT {X : Cx} {e : Expr} {ta : TA} {p pos tpos : Pos} {elts : List Expr} {kk : Nat} (hg : Gl X "enumerate") (hm : X.mg "enumerate" = none) (ha : PA X [e] ta) (hs : starEach [e] X.env = [(false, eval e X.env)] := by rfl) :
    PI X (.Tuple elts kk tpos) (.Call (.Name "enumerate" p) [e] [] pos) (iEnumT X.K ta) := by
  refine ⟨fun pins s σ H R I h => ?_⟩
  refine Call_ (ld_blt I hg hm boot_enumerate (PyProof.Rows.callWith_type1 (thn (ha.run pos pins s σ H _ I h) fun us s1 ⟨vs, H1, I1, r1, a, xs, ev, hq, q⟩ => ?_) hs rfl))
  subst ev
  rw [Vals.ref1 r1]
  obtain ⟨its, ry, tp, hz⟩ := I1.tuple hq
  have hal : a < s1.heap.objs.size := by
    obtain ⟨o, ho, _⟩ := tp
    exact Heap.lt_size ho
  refine enum_call (begins_tuple a its.toArray) tp fun h' he hit hk => wpAny_pyIter_enum he ?_
  have I2 : Inv X pins σ H1 { s1 with heap := h' } := I1.kept (t' := s1.toks) hk
  refine ⟨s1.heap.objs.size + 1, [s1.heap.objs.size + 1, s1.heap.objs.size], _, _, H1, rfl, I2, turn_enumT a (s1.heap.objs.size + 1) s1.heap.objs.size (Nat.ne_of_lt hal) (Nat.ne_of_gt (Nat.lt_succ_of_lt hal)) (Nat.succ_ne_self _), ⟨⟨.none, he⟩, ⟨_, hit, rfl, rfl⟩⟩, fun b hb => ?_, q⟩
  have hle : s1.heap.objs.size ≤ b := by
    rcases List.mem_cons.mp hb with z | z
    · rw [z]
      exact Nat.le_succ _
    · rw [List.mem_singleton.mp z]
      exact Nat.le_refl _
  exact I1.fpOk hle (I1.hok.fresh hle)
open Evl
/-- the pairs (place, thing) -/
def enumD (ds : List PyData) : List PyData := (List.range ds.length).map fun (i : Nat) => PyData.tuple [.int (i : Int), ds.getD i .none]
theorem enumD_get {ds : List PyData} {i : Nat} {d : PyData} (h : ds[i]? = some d) : (enumD ds)[i]? = some (.tuple [.int (i : Int), d]) := by
  unfold enumD
  rw [List.getElem?_map, List.getElem?_range (List.getElem?_eq_some_iff.mp h).1]
  show some (PyData.tuple [.int (i : Int), ds.getD i .none]) = _
  rw [List.getD_eq_getElem?_getD, h]
  rfl
theorem ei_enumT {K : PySem.W.Frag} {σ : L2.St} {H : Hp} {te : TE} {ds : List PyData} (h : EvD K te σ H (.tuple ds)) : EvI K (iEnumT K (tCons te tNil)) σ H (enumD ds) := fun H1 e R q => h H1 e _ fun v H2 e2 hd => by
  obtain ⟨p, xs, rfl, hs, hxs⟩ := dp_tup hd
  refine ⟨p, xs, rfl, hs, q _ H2 e2 ?_⟩
  have hl : (enumD ds).length = xs.length := by
    unfold enumD
    rw [List.length_map, List.length_range, hxs.length]
  rw [hl]
  refine (walk_enumT (xs := xs)).mono (fun H3 e3 => ex_t e3 hs) fun i Ha x Hb hi e3 hy => ?_
  obtain ⟨T, x1, y1, rfl, nT, rfl, hx, hy⟩ := hy
  cases hx
  obtain ⟨dy, h3, h4⟩ := hxs.at hy
  exact ⟨Ex.new nT, _, enumD_get h3, .tup (.of upd_same) (.cons (.int _) (.cons (dp_same (e3.trans (Ex.new nT)) h4) .nil))⟩
theorem ei_enum {K : PySem.W.Frag} {σ : L2.St} {H : Hp} {te : TE} {ds : List PyData} (h : EvD K te σ H (.list ds)) : EvI K (iEnum K (tCons te tNil)) σ H (enumD ds) := fun H1 e R q => h H1 e _ fun v H2 e2 hd => by
  obtain ⟨p, xs, rfl, hs, hxs⟩ := dp_lst hd
  refine ⟨p, xs, rfl, hs, q _ H2 e2 ?_⟩
  have hl : (enumD ds).length = xs.length := by
    unfold enumD
    rw [List.length_map, List.length_range, hxs.length]
  rw [hl]
  refine (walk_enum (xs := xs)).mono (fun H3 e3 => ex_l e3 hs) fun i Ha x Hb hi e3 hy => ?_
  obtain ⟨T, x1, y1, rfl, nT, rfl, hx, hy⟩ := hy
  cases hx
  obtain ⟨dy, h3, h4⟩ := hxs.at hy
  exact ⟨Ex.new nT, _, enumD_get h3, .tup (.of upd_same) (.cons (.int _) (.cons (dp_same (e3.trans (Ex.new nT)) h4) .nil))⟩
end Ink
namespace Ink
open PySem PySem.Spec PyProof.Rows L2
/-! ### t * k, k any number of times from none on -/
theorem mul_once (l : Addr) (items : Array Value) (n : Nat) (dd : Option Addr) (sl : Array (Option Value)) (u : Tok) :
    Meets (Builtin.«tuple.__mul__» ⟨[.ref l, .int 1 u], []⟩) (fun _ R s => s.heap.get? l = some { cls := .type "tuple", dict := dd, data := .seq items n, slots := sl } ∧ R (.ok (.ret (Value.ref l))) s) :=
  .of_wp fun prog w A R s h => by
    obtain ⟨hp, g, d, tk, os⟩ := s
    obtain ⟨hl, h⟩ := h
    have f1 := AutoSeq1.idx_int
    wp_walk using AutoSeq1.wpAny_loadPart' hl
    repeat (first
      | (refine wpAny_ite_false (by decide) ?_; wp_walk using AutoSeq1.wpAny_loadPart' hl)
      | (refine wpAny_ite_true (by simp) ?_; wp_walk using AutoSeq1.wpAny_loadPart' hl))
    exact ⟨_, rfl, h⟩
theorem mul_none (l : Addr) (items : Array Value) (n : Nat) (dd : Option Addr) (sl : Array (Option Value)) (u : Tok) (hi : items.isEmpty = false) :
    Meets (Builtin.«tuple.__mul__» ⟨[.ref l, .int 0 u], []⟩) (fun _ R s => s.heap.get? l = some { cls := .type "tuple", dict := dd, data := .seq items n, slots := sl } ∧
      R (.ok (.ret (Value.ref s.heap.objs.size))) { s with heap := s.heap.push { cls := .type "tuple", data := .seq #[] } }) :=
  .of_wp fun prog w A R s h => by
    obtain ⟨hp, g, d, tk, os⟩ := s
    obtain ⟨hl, h⟩ := h
    have f1 := AutoSeq1.idx_int
    wp_walk using AutoSeq1.wpAny_loadPart' hl
    repeat (first
      | (refine wpAny_ite_false (by decide) ?_; wp_walk using AutoSeq1.wpAny_loadPart' hl)
      | (refine wpAny_ite_false (by rw [hi]; decide) ?_; wp_walk using AutoSeq1.wpAny_loadPart' hl)
      | (refine wpAny_ite_true (by decide) ?_; wp_walk using AutoSeq1.wpAny_loadPart' hl))
    exact ⟨_, rfl, h⟩
/-- (x,) * n -/
def rRep (K : PySem.W.Frag) : R2 := fun x y H Q => ∃ (l : Addr) (v : V) (n : Nat), x = .ref l ∧ y = .int (n : Int) ∧ SqT K H l [v] ∧ n ≤ 1000 ∧ (n = 1 → Q (.ref l) H) ∧ (n ≠ 1 → ∀ p, H p = none → Q (.ref p) (upd H p (.tup (List.replicate n v))))
theorem op_rep {X : Cx} : OpR X (binaryOp .Mult) (rRep X.K) := by
  intro pins s σ H x y v u Q I rx ry h
  obtain ⟨l, v0, n, rfl, rfl, hT, hn, q1, q2⟩ := h
  by_cases h2 : 2 ≤ n
  · refine op_repT pins s σ H _ _ v u Q I rx ry ⟨l, (n : Int), [v0], rfl, rfl, hT, by simp, by omega, by omega, by show 1 ≤ 1000; decide, fun p np => ?_⟩
    have e : (List.replicate (n : Int).toNat [v0]).flatten = List.replicate n v0 := by
      rw [Int.toNat_natCast]
      clear q1 q2 h2 hn ry
      induction n with
      | zero => rfl
      | succ n ih => rw [List.replicate_succ, List.flatten_cons, ih]; rfl
    rw [e]
    exact q2 (by omega) p np
  · cases rx
    obtain ⟨t, rfl⟩ := ry
    obtain ⟨its, r, ⟨⟨cls, dd, data, sl⟩, ho, hc, m, hd⟩, hs⟩ := I.tuple hT
    simp only at hc hd
    subst hc hd
    have hi : its.toArray.isEmpty = false := by
      cases r with
      | cons _ _ => rfl
    by_cases h1 : n = 1
    · subst h1
      exact wpAny_binaryOp_repeat_ref (T := "tuple") (U := "int") (by decide) ⟨_, ho, rfl⟩ (fun s' => typeIs_int s' _ t) noFill_tuple_mul F.fills_int_mul F.slot_int_rmul repeat_tuple F.slot_int_index.lookup
        (call_meets F.slot_int_rmul (typeIs_int s _ t) F.entry_int_rmul (F.args_int_rmul_2 _ _) (int_rmul_tuple _ t l its.toArray m dd sl)
          ⟨ho, rfl, ⟨_, ho, rfl⟩, call_meets F.slot_tuple_mul ⟨_, ho, rfl⟩ F.entry_tuple_mul (F.args_tuple_mul_2 _ _) (mul_once l its.toArray m dd sl t) ⟨ho, .ref l, H, I, rfl, q1 rfl⟩⟩)
    · obtain rfl : n = 0 := by omega
      exact wpAny_binaryOp_repeat_ref (T := "tuple") (U := "int") (by decide) ⟨_, ho, rfl⟩ (fun s' => typeIs_int s' _ t) noFill_tuple_mul F.fills_int_mul F.slot_int_rmul repeat_tuple F.slot_int_index.lookup
        (call_meets F.slot_int_rmul (typeIs_int s _ t) F.entry_int_rmul (F.args_int_rmul_2 _ _) (int_rmul_tuple _ t l its.toArray m dd sl)
          ⟨ho, rfl, ⟨_, ho, rfl⟩, call_meets F.slot_tuple_mul ⟨_, ho, rfl⟩ F.entry_tuple_mul (F.args_tuple_mul_2 _ _) (mul_none l its.toArray m dd sl t hi)
            ⟨ho, .ref s.heap.objs.size, _, I.laid (t' := s.toks) (o := .tup []) (fun b ob q => Heap.get?_push_of_some _ q) (Nat.le_refl _) ⟨Nat.zero_le _, [], .nil, IsTup.new _ _⟩, rfl, q2 (by omega) _ (I.hok.fresh (Nat.le_refl _))⟩⟩)
open Evl
theorem dps_rep {K : PySem.W.Frag} {H : Hp} {v : V} {d : PyData} (h : Dp K H v d) : ∀ n, DpAll K H (List.replicate n v) (List.replicate n d)
  | 0 => .nil
  | n + 1 => .cons h (dps_rep h n)
theorem ed_rep {K : PySem.W.Frag} {σ : L2.St} {H : Hp} {ta tb : TE} {d : PyData} {n : Nat} (ha : EvD K ta σ H (.tuple [d])) (hb : Ev tb σ H (.int (n : Int))) (hn : n ≤ 1000) : EvD K (tOp (rRep K) ta tb) σ H (.tuple (List.replicate n d)) := fun H1 e Q q =>
  ha H1 e _ fun v H2 e2 hv => hb H2 (e.trans e2) _ fun H3 e3 => by
    obtain ⟨p, xs, rfl, hs, hxs⟩ := dp_tup (dp_same e3 hv)
    obtain ⟨v1, rfl, h1⟩ := dps1 hxs
    refine ⟨p, v1, n, rfl, rfl, hs, hn, fun hn1 => ?_, fun _ p' np => ?_⟩
    · subst hn1
      exact q _ H3 (e2.trans e3) (.tup hs hxs)
    · refine q _ _ ((e2.trans e3).trans (Ex.new np)) (.tup (.of upd_same) ?_)
      have h2 := dp_same (Ex.new (o := .tup (List.replicate n v1)) np) h1
      exact dps_rep h2 n
end Ink
namespace Ink
open PySem PySem.Spec PyProof.Rows L2 Evl
section
variable {K : PySem.W.Frag} {σ : L2.St} {H H' : Hp} {ta tb te tc : TE} {t : TT} {d d1 d2 : PyData} {ds es : List PyData} {v : V} {i : Nat}
/-! ### more of data: tuples joined, cut, starred; lists of numbers and of bools -/
theorem ed_catA (ha : EvD K ta σ H (.tuple ds)) (hb : EvD K tb σ H (.tuple es)) (hz : ds.length + es.length ≤ 100000) : EvD K (tOp (rCatA K) ta tb) σ H (.tuple (ds ++ es)) := fun H1 e Q q =>
  ha H1 e _ fun v H2 e2 hv => hb H2 (e.trans e2) _ fun w H3 e3 hw => by
    obtain ⟨p, xs, rfl, hs, hxs⟩ := dp_tup (dp_same e3 hv)
    obtain ⟨p', ys, rfl, hs', hys⟩ := dp_tup hw
    have l1 := hxs.length
    have l2 := hys.length
    refine ⟨p, p', xs, ys, rfl, rfl, hs, hs', sz_of (by omega), fun h0 => ?_, fun h0 h1 => ?_, fun h0 h1 p2 np => ?_⟩
    · subst h0
      cases hxs
      exact q _ H3 (e2.trans e3) (.tup hs' hys)
    · subst h1
      cases hys
      refine q _ H3 (e2.trans e3) (.tup hs ?_)
      rw [List.append_nil]
      exact hxs
    · exact q _ _ ((e2.trans e3).trans (Ex.new np)) (.tup (.of upd_same) (dps_same (Ex.new np) (hxs.app hys)))
/-- to a list that may change: a new one, or a known one -/
def EvM (K : PySem.W.Frag) (te : TE) (σ : L2.St) (H : Hp) (ds : List PyData) : Prop := ∀ H1, Ex H H1 → ∀ Q : VK, (∀ p vs H2, Ex H1 H2 → H2 p = some (.lst vs) → DpAll K H2 vs ds → Q (.ref p) H2) → te σ H1 Q
theorem EvN.m (h : EvN K te σ H ds) : EvM K te σ H ds := fun H1 e Q q => h H1 e Q fun p vs H2 _ e2 hp hd => q p vs H2 e2 hp hd
theorem em_var {p : Addr} {xs : List V} (hs : σ[i]? = some (some (.ref p))) (hp : H p = some (.lst xs)) (hd : DpAll K H xs ds) : EvM K (tVar i) σ H ds := fun H1 e Q q => ⟨.ref p, hs, q p xs H1 (Ex.refl H1) (e _ _ hp) (dps_same e hd)⟩
theorem en_cat (ha : EvM K ta σ H ds) (hb : EvM K tb σ H es) (hz : ds.length + es.length ≤ 100000) : EvN K (tOp rCat ta tb) σ H (ds ++ es) := fun H1 e Q q =>
  ha H1 e _ fun p xs H2 e2 hp hxs => hb H2 (e.trans e2) _ fun p' ys H3 e3 hp' hys => by
    have l1 := hxs.length
    have l2 := hys.length
    exact ⟨p, p', xs, ys, rfl, rfl, e3 _ _ hp, hp', sz_of (by omega), fun p2 np => q p2 _ _ (fresh_back (e2.trans e3) np) ((e2.trans e3).trans (Ex.new np)) upd_same (dps_same (Ex.new np) ((dps_same e3 hxs).app hys))⟩
theorem vcut_to (xs : List V) (k : Nat) : cutV xs none (some (k : Int)) = xs.take k := by
  unfold cutV
  rw [HT.sIx_none, HT.sIx_nat, List.drop_zero, Nat.sub_zero]
  by_cases h : k ≤ xs.length
  · rw [Nat.min_eq_left h]
  · rw [Nat.min_eq_right (by omega), List.take_of_length_le (Nat.le_refl _), List.take_of_length_le (by omega)]
theorem vcut_from (xs : List V) (k : Nat) : cutV xs (some (k : Int)) none = xs.drop k := by
  unfold cutV
  rw [HT.sIx_none, HT.sIx_nat]
  by_cases h : k ≤ xs.length
  · rw [Nat.min_eq_left h, List.take_of_length_le (by rw [List.length_drop]; exact Nat.le_refl _)]
  · rw [Nat.min_eq_right (by omega), List.drop_of_length_le (Nat.le_refl _), List.drop_of_length_le (by omega), List.take_nil]
theorem ed_slTo {k : Nat} (h : EvD K te σ H (.tuple ds)) (hk : Ev tb σ H (.int (k : Int))) : EvD K (tSl (rSlA K) te tNoPart (tPart tb)) σ H (.tuple (ds.take k)) := fun H1 e Q q =>
  h H1 e _ fun v H2 e2 hv => hk H2 (e.trans e2) _ fun H3 e3 => ⟨(k : Int), rfl, by
    obtain ⟨p, xs, rfl, hs, hxs⟩ := dp_tup (dp_same e3 hv)
    have l1 := hxs.length
    refine ⟨p, xs, rfl, hs, fun h0 => ?_, fun h0 p2 np => ?_⟩
    · have h1 := h0.2
      rw [HT.sIx_nat] at h1
      exact q _ H3 (e2.trans e3) (.tup hs (by rw [List.take_of_length_le (by omega)]; exact hxs))
    · rw [vcut_to]
      exact q _ _ ((e2.trans e3).trans (Ex.new np)) (.tup (.of upd_same) (dps_same (Ex.new np) (hxs.take k)))⟩
theorem ed_slFrom {k : Nat} (h : EvD K te σ H (.tuple ds)) (hk : Ev tb σ H (.int (k : Int))) : EvD K (tSl (rSlA K) te (tPart tb) tNoPart) σ H (.tuple (ds.drop k)) := fun H1 e Q q =>
  h H1 e _ fun v H2 e2 hv => hk H2 (e.trans e2) _ fun H3 e3 => ⟨(k : Int), rfl, by
    obtain ⟨p, xs, rfl, hs, hxs⟩ := dp_tup (dp_same e3 hv)
    have l1 := hxs.length
    refine ⟨p, xs, rfl, hs, fun h0 => ?_, fun h0 p2 np => ?_⟩
    · have h1 := h0.1
      rw [HT.sIx_nat] at h1
      by_cases hk0 : k = 0
      · exact q _ H3 (e2.trans e3) (.tup hs (by rw [hk0, List.drop_zero]; exact hxs))
      · have : xs.length = 0 := by omega
        have : ds = [] := List.eq_nil_of_length_eq_zero (by omega)
        subst this
        exact q _ H3 (e2.trans e3) (.tup hs (by rw [List.drop_nil]; exact hxs))
    · rw [vcut_from]
      exact q _ _ ((e2.trans e3).trans (Ex.new np)) (.tup (.of upd_same) (dps_same (Ex.new np) (hxs.drop k)))⟩
theorem eds_star {tr : TA} (h : EvD K te σ H (.tuple ds)) (hr : EvDs K tr σ H es) : EvDs K (StX.tStar K te tr) σ H (ds ++ es) := fun H1 e Q q =>
  h H1 e _ fun v H2 e2 hv => by
    obtain ⟨p, xs, rfl, hs, hxs⟩ := dp_tup hv
    exact ⟨p, xs, rfl, .inl hs, hr H2 (e.trans e2) _ fun vs H3 e3 hds => q _ H3 (e2.trans e3) ((dps_same e3 hxs).app hds)⟩
theorem ed_tuple (h : EvD K te σ H (.list ds)) : EvD K (tCB (fun xs H Q => ∃ p ys, xs = [.ref p] ∧ ((SqL K H p ys ∧ ∀ l, H l = none → Q (.ref l) (upd H l (.tup ys))) ∨ (SqT K H p ys ∧ Q (.ref p) H))) (tCons te tNil)) σ H (.tuple ds) := fun H1 e Q q =>
  h H1 e _ fun v H2 e2 hv => by
    obtain ⟨p, xs, rfl, hs, hxs⟩ := dp_lst hv
    exact ⟨p, xs, rfl, .inl ⟨hs, fun l nl => q _ _ (e2.trans (Ex.new nl)) (.tup (.of upd_same) (dps_same (Ex.new nl) hxs))⟩⟩
theorem ed_tupleT (h : EvD K te σ H (.tuple ds)) : EvD K (tCB (fun xs H Q => ∃ p ys, xs = [.ref p] ∧ ((SqL K H p ys ∧ ∀ l, H l = none → Q (.ref l) (upd H l (.tup ys))) ∨ (SqT K H p ys ∧ Q (.ref p) H))) (tCons te tNil)) σ H (.tuple ds) := fun H1 e Q q =>
  h H1 e _ fun v H2 e2 hv => by
    obtain ⟨p, xs, rfl, hs, hxs⟩ := dp_tup hv
    exact ⟨p, xs, rfl, .inr ⟨hs, q _ _ e2 (.tup hs hxs)⟩⟩
theorem en_list (h : EvD K te σ H d) (hd : d = .list ds ∨ d = .tuple ds) : EvN K (tCB (fun xs H Q => ∃ p ys, xs = [.ref p] ∧ (SqL K H p ys ∨ SqT K H p ys) ∧ ∀ l, H l = none → Q (.ref l) (upd H l (.lst ys))) (tCons te tNil)) σ H ds := fun H1 e Q q =>
  h H1 e _ fun v H2 e2 hv => by
    rcases hd with rfl | rfl
    · obtain ⟨p, xs, rfl, hs, hxs⟩ := dp_lst hv
      exact ⟨p, xs, rfl, .inl hs, fun l nl => q l xs _ (fresh_back e2 nl) (e2.trans (Ex.new nl)) upd_same (dps_same (Ex.new nl) hxs)⟩
    · obtain ⟨p, xs, rfl, hs, hxs⟩ := dp_tup hv
      exact ⟨p, xs, rfl, .inr hs, fun l nl => q l xs _ (fresh_back e2 nl) (e2.trans (Ex.new nl)) upd_same (dps_same (Ex.new nl) hxs)⟩
theorem dps_bool : ∀ {vs : List V} {bs : List Bool}, DpAll K H vs (bs.map PyData.bool) → vs = bs.map V.bl
  | _, [], h => by cases h; rfl
  | _, b :: bs, h => by
    cases h with
    | cons h t =>
      rw [dp_bl h, dps_bool t]
      rfl
theorem ev_allD {bs : List Bool} (h : EvD K te σ H (.list (bs.map PyData.bool))) : Ev (tCB (rAll K) (tCons te tNil)) σ H (.bl (bs.all id)) := fun H1 e Q q =>
  h H1 e _ fun v H2 e2 hv => by
    obtain ⟨p, xs, rfl, hs, hxs⟩ := dp_lst hv
    rw [dps_bool hxs] at hs
    exact ⟨p, bs, rfl, hs, q H2 e2⟩
theorem ev_anyD {bs : List Bool} (h : EvD K te σ H (.list (bs.map PyData.bool))) : Ev (tCB (rAny K) (tCons te tNil)) σ H (.bl (bs.any id)) := fun H1 e Q q =>
  h H1 e _ fun v H2 e2 hv => by
    obtain ⟨p, xs, rfl, hs, hxs⟩ := dp_lst hv
    rw [dps_bool hxs] at hs
    exact ⟨p, bs, rfl, hs, q H2 e2⟩
theorem inV_ints (n : Int) : ∀ ns : List Int, inV (.int n) (ns.map V.int) = decide (n ∈ ns)
  | [] => rfl
  | m :: ns => by
    have ih := inV_ints n ns
    unfold inV at ih ⊢
    rw [List.map_cons, List.any_cons, ih]
    show ((m == n) || decide (n ∈ ns)) = decide (n ∈ m :: ns)
    rw [Bool.eq_iff_iff]
    simp only [Bool.or_eq_true, beq_iff_eq, decide_eq_true_eq, List.mem_cons]
    exact or_congr ⟨Eq.symm, Eq.symm⟩ Iff.rfl
theorem ev_inI {n : Int} {ns : List Int} {neg : Bool} (ha : Ev ta σ H (.int n)) (hb : EvD K tb σ H d) (hd : d = .list (ns.map PyData.int) ∨ d = .tuple (ns.map PyData.int)) : Ev (tOp (rIn K neg) ta tb) σ H (.bl (if neg then !decide (n ∈ ns) else decide (n ∈ ns))) := fun H1 e Q q =>
  ha H1 e _ fun H2 e2 => hb H2 (e.trans e2) _ fun v H3 e3 hv => by
    have fl : (ns.map V.int).all flatV = true := List.all_eq_true.mpr fun x hx => by
      obtain ⟨m, _, rfl⟩ := List.mem_map.mp hx
      rfl
    rcases hd with rfl | rfl
    · obtain ⟨p, xs, rfl, hs, hxs⟩ := dp_lst hv
      rw [dps_int hxs] at hs
      exact ⟨p, _, rfl, .inl hs, rfl, fl, by rw [inV_ints]; exact q H3 (e2.trans e3)⟩
    · obtain ⟨p, xs, rfl, hs, hxs⟩ := dp_tup hv
      rw [dps_int hxs] at hs
      exact ⟨p, _, rfl, .inr hs, rfl, fl, by rw [inV_ints]; exact q H3 (e2.trans e3)⟩
/-- int(b) -/
theorem ev_intB {b : Bool} (h : Ev te σ H (.bl b)) : Ev (tCB (fun xs H Q => (∃ i, xs = [.int i] ∧ Q (.int i) H) ∨ ∃ k, xs = [.bl k] ∧ Q (.int (if k then 1 else 0)) H) (tCons te tNil)) σ H (.int (if b then 1 else 0)) := fun H1 e Q q =>
  h H1 e _ fun H2 e2 => .inr ⟨b, rfl, q H2 e2⟩
/-- a list that is known by its place grows -/
theorem sd_app {D : Ends} {p : Addr} {xs : List V} (hs : σ[i]? = some (some (.ref p))) (hp : H p = some (.lst xs)) (h : EvD K te σ H d) (hz : xs.length < 100000) (k : ∀ v H1, Ex H H1 → Dp K H1 v d → D.nx σ (upd H1 p (.lst (xs ++ [v])))) :
    tDrop (tBM K "list" rAppend (tVar i) (tCons te tNil)) D σ H := ⟨.ref p, hs, .inl ⟨rfl, xs, .of hp⟩, h H (Ex.refl H) _ fun v H1 e hv => ⟨p, xs, v, rfl, rfl, e _ _ hp, sz_lt hz, k v H1 e hv⟩⟩
theorem sd_ext {D : Ends} {p : Addr} {xs : List V} (hs : σ[i]? = some (some (.ref p))) (hp : H p = some (.lst xs)) (h : EvN K te σ H ds) (hz : xs.length + ds.length ≤ 100000) (k : ∀ vs H1, Ex H H1 → DpAll K H1 vs ds → D.nx σ (upd H1 p (.lst (xs ++ vs)))) :
    tDrop (tBM K "list" rExtend (tVar i) (tCons te tNil)) D σ H := ⟨.ref p, hs, .inl ⟨rfl, xs, .of hp⟩, h H (Ex.refl H) _ fun q vs H1 nq e hq hv => ⟨p, q, xs, vs, rfl, rfl, e _ _ hp, hq, sz_of (by rw [hv.length]; exact hz), k vs H1 e hv⟩⟩
theorem sd_if {D : Ends} {b : Bool} {tu tw : TS} (h : EvT t σ H b) (h1 : b = true → ∀ H1, Ex H H1 → tu D σ H1) (h2 : b = false → ∀ H1, Ex H H1 → tw D σ H1) : tIfS t tu tw D σ H := s_if h h1 h2
end
end Ink
namespace Ink
open PySem PySem.Spec PyProof.Rows L2 Evl
theorem hu9 {k : Nat} {A : Around} (hr : Room k A) : A.units + 100 < cLine := by
  have := hr.un
  omega
abbrev rLenV (K : PySem.W.Frag) : List V → Hp → VK → Prop := fun xs H Q => ∃ x n, xs = [x] ∧ LenV K x H n ∧ Q (.int n) H
/-- a method of the class at C -/
def MetC (P : Program) (w : World) (K : PySem.W.Frag) (mg : Str → Option Value) (base : Heap) (k : Nat) (C : Addr) (m : Str) (ps : List Str) (sp : Sp) : Prop :=
  ∃ f fd, FnOk P w K mg base CX0 k f fd ps sp ∧ Meth K C m f ∧ Cls K C ∧ Binds K fd ps []
/-- the class at C, called by its name with these values behind those that are written -/
def MakC (P : Program) (w : World) (K : PySem.W.Frag) (mg : Str → Option Value) (base : Heap) (k : Nat) (x : Str) (C : Addr) (ps : List Str) (dvs : List V) (sp : Sp) : Prop :=
  ∃ f fd ds, FnOk P w K mg base CX0 k f fd ps sp ∧ Mk K C f ∧ mg x = some (.ref C) ∧ Binds K fd ps ds ∧ Vals dvs ds
section
variable {X : Cx} {k : Nat} {C : Addr} {x m : Str} {ps : List Str} {dvs : List V} {sp : Sp} {p pos apos : Pos} {o e : Expr} {es : List Expr} {ta : TE} {t : TA}
theorem pe_methC {pl : Sem Bool} (he : PE X o ta) (c : MetC X.prog X.w X.K X.mg X.base k C m ps sp) (hr : Room k X.A) (ha : PA X (e :: es) t)
    (hst : starEach (e :: es) X.env = (false, eval e X.env) :: starEach es X.env := by rfl) (hpl : (backTo pos (starEach es X.env)).any (·.1) = false := by rfl)
    (ht : eval (.Call (.Attribute o m apos) (e :: es) [] pos) X.env = (do
      let ov ← eval o X.env
      standAt apos.atName
      let (f, first) ← holding [ov] (getMethod ov m pl)
      callWith pos f first (backTo pos (starEach (e :: es) X.env)) (backToKw pos (keywordEach [] X.env))) := by rfl)
    (hp : ∀ f fd, FnOk X.prog X.w X.K X.mg X.base CX0 k f fd ps sp → Passes CX0 X E0 := by exact fun _ _ _ => pass0) : PE X (.Call (.Attribute o m apos) (e :: es) [] pos) (tMeth C m sp [] E0 ta t) := by
  obtain ⟨f, fd, G, hm, hc, b⟩ := c
  exact pe_meth he hc hm G hr b .nil pass0 ha hst hpl ht
theorem pe_methC0 {pl : Sem Bool} (he : PE X o ta) (c : MetC X.prog X.w X.K X.mg X.base k C m ps sp) (hr : Room k X.A)
    (ht : eval (.Call (.Attribute o m apos) [] [] pos) X.env = (do
      let ov ← eval o X.env
      standAt apos.atName
      let (f, first) ← holding [ov] (getMethod ov m pl)
      callWith pos f first (backTo pos (starEach [] X.env)) (backToKw pos (keywordEach [] X.env))) := by rfl) : PE X (.Call (.Attribute o m apos) [] [] pos) (tMeth C m sp [] E0 ta tNil) := by
  obtain ⟨f, fd, G, hm, hc, b⟩ := c
  exact pe_meth0 he hc hm G hr b .nil pass0 ht
theorem pe_makeC (c : MakC X.prog X.w X.K X.mg X.base k x C ps dvs sp) (hr : Room (k + 1) X.A) (hg : Gl X x) (ha : PA X (e :: es) t) (hdb : (x == ("__debug__" : Str)) = false := by decide)
    (he : starEach (e :: es) X.env = (false, eval e X.env) :: starEach es X.env := by rfl) (hpl : (backTo pos (starEach es X.env)).any (·.1) = false := by rfl) : PE X (.Call (.Name x p) (e :: es) [] pos) (tMake C sp dvs E0 t) := by
  obtain ⟨f, fd, ds, G, M, g, b, hd⟩ := c
  exact pe_make M G hr hg g b hd pass0 ha hdb he hpl
theorem pe_makeC0 (c : MakC X.prog X.w X.K X.mg X.base k x C ps dvs sp) (hr : Room (k + 1) X.A) (hg : Gl X x) (hdb : (x == ("__debug__" : Str)) = false := by decide) : PE X (.Call (.Name x p) [] [] pos) (tMake C sp dvs E0 tNil) := by
  obtain ⟨f, fd, ds, G, M, g, b, hd⟩ := c
  exact pe_make0 M G hr hg g b hd pass0 hdb
end
/-- a constant of the module that is a tuple -/
def GlobT (K : PySem.W.Frag) (mg : Str → Option Value) (x : Str) (d : PyData) : Prop := ∃ a, mg x = some (.ref a) ∧ ∀ H, Dp K H (.ref a) d
def tGlobT (K : PySem.W.Frag) (d : PyData) : TE := fun _ H Q => ∀ a, (∀ H', Dp K H' (.ref a) d) → Q (.ref a) H
theorem pe_globT {X : Cx} {x : Str} {d : PyData} {pos : Pos} (hg : Gl X x) (hm : GlobT X.K X.mg x d) (hd : (x == ("__debug__" : Str)) = false := by decide) : PE X (.Name x pos) (tGlobT X.K d) := by
  obtain ⟨a, e, h⟩ := hm
  have p := pe_glob (X := X) (x := x) (pos := pos) (v := .ref a) hg e rfl hd
  exact ⟨fun pins s σ H Q I hq => p.run pins s σ H Q I (hq a h)⟩
theorem ed_globT {K : PySem.W.Frag} {σ : L2.St} {H : Hp} {d : PyData} : EvD K (tGlobT K d) σ H d := fun H1 e Q q a h => q (.ref a) H1 (Ex.refl H1) (h H1)
end Ink
namespace Ink
open PySem PySem.Spec PyProof.Rows L2 Evl
section
variable {K : PySem.W.Frag} {σ : L2.St} {H : Hp} {te : TE} {t : TT} {d1 d2 d3 : PyData} {x : V}
theorem tg2 {n1 n2 : Nat} {Q : L2.St → Hp → Prop} (hd : Dp K H x (.tuple [d1, d2])) (k : ∀ v1 v2, Dp K H v1 d1 → Dp K H v2 d2 → Q ((σ.set n1 (some v1)).set n2 (some v2)) H) : gTup K 2 (gCons (gName n1) (gCons (gName n2) gNil)) x σ H Q := by
  obtain ⟨p, xs, rfl, hs, hxs⟩ := dp_tup hd
  obtain ⟨v1, v2, rfl, h1, h2⟩ := dps2 hxs
  exact ⟨p, _, rfl, hs, rfl, _, _, rfl, _, _, rfl, rfl, k v1 v2 h1 h2⟩
theorem tg3 {n1 n2 n3 : Nat} {Q : L2.St → Hp → Prop} (hd : Dp K H x (.tuple [d1, d2, d3])) (k : ∀ v1 v2 v3, Dp K H v1 d1 → Dp K H v2 d2 → Dp K H v3 d3 → Q (((σ.set n1 (some v1)).set n2 (some v2)).set n3 (some v3)) H) : gTup K 3 (gCons (gName n1) (gCons (gName n2) (gCons (gName n3) gNil))) x σ H Q := by
  obtain ⟨p, xs, rfl, hs, hxs⟩ := dp_tup hd
  obtain ⟨v1, v2, v3, rfl, h1, h2, h3⟩ := dps3 hxs
  exact ⟨p, _, rfl, hs, rfl, _, _, rfl, _, _, rfl, _, _, rfl, rfl, k v1 v2 v3 h1 h2 h3⟩
theorem en_map {α : Type} {ti : TI} {g : TG} {vs : List Nat} (xs : List α) (enc : α → PyData) (f : α → PyData) (hi : EvI K ti σ H (xs.map enc)) (hz : xs.length ≤ 40000) (hf : ∀ a ∈ xs, fz (f a) = true)
    (ht : ∀ (i : Nat) (a : α) (H1 : Hp) (x : V), xs[i]? = some a → Ex H H1 → Dp K H1 x (enc a) → ∀ R : L2.St → Hp → Prop, (∀ σ2, wipe σ2 vs = wipe σ vs → EvD K te σ2 H1 (f a) → R σ2 H1) → g x (wipe σ vs) H1 R) :
    EvN K (tLc ti g tYes te vs) σ H (xs.map f) := by
  have h := en_lc (K := K) (t := tYes) (te := te) (σ := σ) (H := H) (ti := ti) (g := g) (vs := vs) xs enc (fun _ => true) f hi hz hf fun i a H1 x hx e hd R k => ht i a H1 x hx e hd R fun σ2 hw he => k σ2 hw et_yes fun _ => he
  rw [show xs.filter (fun _ => true) = xs from List.filter_eq_self.mpr fun _ _ => rfl] at h
  exact h
end
end Ink
namespace Ink
open PySem PySem.Spec PyProof.Rows L2 Evl
/-! ### loops over tuples that stand while lists change -/
def TupK (K : PySem.W.Frag) (H H' : Hp) : Prop := ∀ c xs, SqT K H c xs → SqT K H' c xs
theorem TupK.refl {K : PySem.W.Frag} (H : Hp) : TupK K H H := fun _ _ h => h
theorem TupK.trans {K : PySem.W.Frag} {H H1 H2 : Hp} (a : TupK K H H1) (b : TupK K H1 H2) : TupK K H H2 := fun c xs h => b c xs (a c xs h)
theorem TupK.of {K : PySem.W.Frag} {H H' : Hp} (e : Ex H H') : TupK K H H' := fun _ _ h => ex_t e h
/-- what is no tuple changes -/
theorem TupK.upd {K : PySem.W.Frag} {H : Hp} {a : Addr} {o o' : HO} (h : H a = some o) (n1 : ∀ xs, o ≠ .tup xs) (n2 : ∀ ob xs, o ≠ .frz ob (.tup xs)) : TupK K H (upd H a o') := fun c xs hc => by
  rcases hc with (hc | ⟨ob, hc⟩) | hc
  · exact .inl (.inl (by rw [upd_ne (ne_of hc h (fun z => n1 _ z.symm))]; exact hc))
  · exact .inl (.inr ⟨ob, by rw [upd_ne (ne_of hc h (fun z => n2 _ _ z.symm))]; exact hc⟩)
  · exact .inr hc
theorem TupK.lst {K : PySem.W.Frag} {H : Hp} {a : Addr} {xs : List V} {o' : HO} (h : H a = some (.lst xs)) : TupK K H (L2.upd H a o') := .upd h (fun _ z => by cases z) (fun _ _ z => by cases z)
theorem TupK.mut {K : PySem.W.Frag} {H H' : Hp} {a : Addr} {o' : HO} (k : TupK K H H') (h : H' a = none) : TupK K H (L2.upd H' a o') := k.trans (.of (Ex.new h))
theorem TupK.keep {K : PySem.W.Frag} {H H' : Hp} {a l : Addr} (b : BagAt H a l) (k : Keep a H H') : TupK K H H' := keep_t b k
section
variable {K : PySem.W.Frag} {σ : L2.St} {H H' : Hp} {te : TE} {ds : List PyData} {d : PyData} {v : V} {vs : List V} {D : Ends} {tu : TS} {ti : TI} {g : TG}
theorem dp_tk (k : TupK K H H') (f : fz d = true) (h : Dp K H v d) : Dp K H' v d := dp_fz k d v f h
theorem dps_tk (k : TupK K H H') (f : fzAll ds = true) (h : DpAll K H vs ds) : DpAll K H' vs ds := dps_fz k ds vs f h
/-- what is walked gives ds, as long as the tuples stand -/
def EvJ (K : PySem.W.Frag) (ti : TI) (σ : L2.St) (H : Hp) (ds : List PyData) : Prop := ∀ H1, Ex H H1 → ∀ R : It → Hp → Prop, (∀ J H2, Ex H1 H2 → Walk J ds.length (fun H' => TupK K H2 H') (fun i Ha x Hb => Ex Ha Hb ∧ ∃ d, ds[i]? = some d ∧ Dp K Hb x d) → R J H2) → ti σ H1 R
theorem ej_tup (h : EvD K te σ H (.tuple ds)) (f : fzAll ds = true) : EvJ K (iTup K te) σ H ds := fun H1 e R q => h H1 e _ fun v H2 e2 hd => by
  obtain ⟨p, xs, rfl, hs, hxs⟩ := dp_tup hd
  refine ⟨p, rfl, ⟨xs, hs⟩, q _ H2 e2 ?_⟩
  rw [← hxs.length]
  refine (walk_tup (xs := xs)).mono (fun H3 k3 => k3 _ _ hs) fun i Ha x Hb hi k3 hy => ?_
  obtain ⟨rfl, hx⟩ := hy
  obtain ⟨dx, h1, h2⟩ := hxs.at hx
  exact ⟨Ex.refl _, dx, h1, dp_tk k3 (fzAll_iff.mp f dx (List.mem_of_getElem? h1)) h2⟩
theorem ej_enumT (h : EvD K te σ H (.tuple ds)) (f : fzAll ds = true) : EvJ K (iEnumT K (tCons te tNil)) σ H (enumD ds) := fun H1 e R q => h H1 e _ fun v H2 e2 hd => by
  obtain ⟨p, xs, rfl, hs, hxs⟩ := dp_tup hd
  refine ⟨p, xs, rfl, hs, q _ H2 e2 ?_⟩
  have hl : (enumD ds).length = xs.length := by
    unfold enumD
    rw [List.length_map, List.length_range, hxs.length]
  rw [hl]
  refine (walk_enumT (xs := xs)).mono (fun H3 k3 => k3 _ _ hs) fun i Ha x Hb hi k3 hy => ?_
  obtain ⟨T, x1, y1, rfl, nT, rfl, hx, hy⟩ := hy
  cases hx
  obtain ⟨dy, h3, h4⟩ := hxs.at hy
  exact ⟨Ex.new nT, _, enumD_get h3, .tup (.of upd_same) (.cons (.int _) (.cons (dp_tk (k3.mut nT) (fzAll_iff.mp f dy (List.mem_of_getElem? h3)) h4) .nil))⟩
theorem ej_range {ta : TA} {n : Nat} (h : EvA ta σ H [.int (n : Int)]) (hn : n ≤ 100000) : EvJ K (iRng1 ta) σ H ((List.range n).map fun (i : Nat) => PyData.int (i : Int)) := fun H1 e R q => h H1 e _ fun H2 e2 => ⟨(n : Int), rfl, by omega, by omega, q _ H2 e2 (by
  rw [List.length_map, List.length_range, Int.toNat_natCast]
  refine walk_range0.mono (fun _ _ => True.intro) fun i Ha x Hb hi e3 hy => ?_
  obtain ⟨rfl, rfl⟩ := hy
  refine ⟨Ex.refl _, .int (i : Int), ?_, .int _⟩
  rw [List.getElem?_map, List.getElem?_range hi]
  rfl)⟩
theorem sd_for (hi : EvJ K ti σ H ds) (Pv : Hp → Nat → L2.St → Hp → Prop) (h0 : ∀ H2, Ex H H2 → Pv H2 0 σ H2) (hT : ∀ H2 i σ' H', Pv H2 i σ' H' → TupK K H2 H')
    (hs : ∀ H2 i d x σ' H' H'', Ex H H2 → ds[i]? = some d → Pv H2 i σ' H' → Ex H' H'' → Dp K H'' x d → g x σ' H'' fun σ2 H3 => tu { D with nx := Pv H2 (i + 1), ct := Pv H2 (i + 1), bk := D.nx } σ2 H3)
    (hd : ∀ H2 σ' H', Ex H H2 → Pv H2 ds.length σ' H' → D.nx σ' H') : tFor ti g tu D σ H :=
  hi H (Ex.refl H) _ fun J H2 e2 W => for_it W (Pv H2) (h0 H2 e2) (fun i σ' H' _ hP => hT H2 i σ' H' hP) (fun i x σ' Ha Hb hi hP hy => by
    obtain ⟨e3, d, h1, h2⟩ := hy
    exact hs H2 i d x σ' Ha Hb e2 h1 hP e3 h2) (fun σ' H' hP => hd H2 σ' H' e2 hP)
end
end Ink
namespace Ink
open PySem PySem.Spec PyProof.Rows L2
/-! ### companies: what the defs reckon -/
/-- a writer; a stand: places, waits, who wrote last, how many -/
abbrev Wr := Str × List Arw × Int × Int
abbrev Std := List Int × List Int × Int × Int
def dA (x : Arw) : PyData := .tuple [.int x.1, .str x.2.1, .int x.2.2]
def dW (w : Wr) : PyData := .tuple [.str w.1, .tuple (w.2.1.map dA), .int w.2.2.1, .int w.2.2.2]
def dMt (m : List Wr) : PyData := .tuple (m.map dW)
def dMl (m : List Wr) : PyData := .list (m.map dW)
def dI (ns : List Int) : PyData := .tuple (ns.map PyData.int)
def dS (s : Std) : PyData := .tuple [dI s.1, dI s.2.1, .tuple [.int s.2.2.1, .int s.2.2.2]]
def dStep (x : Str × Str × Std) : PyData := .tuple [.str x.1, .str x.2.1, dS x.2.2]
def wr (m : List Wr) (k : Nat) : Wr := m.getD k (Str.empty, [], 0, 0)
def pl (s : Std) (k : Nat) : Int := s.1.getD k 0
def wt (s : Std) (k : Nat) : Int := s.2.1.getD k 0
structure GoodM (m : List Wr) : Prop where
  len : m.length ≤ 3
  wr : ∀ w ∈ m, GoodW w.1 w.2.1 w.2.2.1 w.2.2.2
  nd : (m.map (·.1)).Nodup
/-- that writer has a patience and isn't done -/
def minds (m : List Wr) (s : Std) (k : Nat) : Bool := !decide (V.int (wr m k).2.2.1 = V.int 0) && decide (pl s k ∈ (wr m k).2.1.map (·.1))
def mayW (m : List Wr) (s : Std) (k : Nat) : Bool :=
  if (!decide (V.int (wr m k).2.2.2 = V.int 0) && (decide (V.int s.2.2.1 = V.int (k : Int)) && decide (s.2.2.2 ≥ (wr m k).2.2.2))) = true then false
  else (((List.range m.length).filter fun (j : Nat) => !decide (V.int (j : Int) = V.int (k : Int)) && minds m s j).map fun (j : Nat) => decide (wt s j < (wr m j).2.2.1)).all id
def behind (m : List Wr) (s : Std) (k : Nat) (to : Int) : Std :=
  (s.1.take k ++ to :: s.1.drop (k + 1), (List.range s.2.1.length).map (fun (j : Nat) => if (!decide (V.int (j : Int) = V.int (k : Int)) && minds m s j) = true then wt s j + 1 else 0),
    if V.int (wr m k).2.2.2 = V.int 0 then (-1, 0) else ((k : Int), if V.int s.2.2.1 = V.int (k : Int) then s.2.2.2 + 1 else 1))
/-- a sign, by whom, whereto -/
abbrev Mv := Str × Nat × Int
def dMv (x : Mv) : PyData := .tuple [.str x.1, .int (x.2.1 : Int), .int x.2.2]
def movesAt (m : List Wr) (s : Std) (k : Nat) : List Mv := if mayW m s k = true then ((wr m k).2.1.filter fun x => decide (V.int x.1 = V.int (pl s k))).map fun x => (x.2.1, k, x.2.2) else []
def moves (m : List Wr) (s : Std) : List Mv := (List.range m.length).flatMap (movesAt m s)
def leMv (a b : Mv) : Bool := PySem.W.dataLe false id (dMv a) (dMv b)
def stepsOf (m : List Wr) (s : Std) : List (Str × Str × Std) := ((moves m s).mergeSort leMv).map fun x => (x.1, (wr m x.2.1).1, behind m s x.2.1 x.2.2)
/-- as many places and waits as writers -/
structure Fits (m : List Wr) (s : Std) : Prop where
  l1 : s.1.length = m.length
  l2 : s.2.1.length = m.length
theorem GoodM.at {m : List Wr} (g : GoodM m) {k : Nat} (h : k < m.length) : GoodW (Ink.wr m k).1 (Ink.wr m k).2.1 (Ink.wr m k).2.2.1 (Ink.wr m k).2.2.2 := by
  unfold Ink.wr
  rw [List.getD_eq_getElem?_getD, List.getElem?_eq_getElem h]
  exact g.wr _ (List.getElem_mem h)
theorem wr_get {m : List Wr} {k : Nat} (h : k < m.length) : m[k]? = some (wr m k) := by
  unfold wr
  rw [List.getD_eq_getElem?_getD, List.getElem?_eq_getElem h]
  rfl
theorem getD_get {ns : List Int} {k : Nat} (h : k < ns.length) : ns[k]? = some (ns.getD k 0) := by
  rw [List.getD_eq_getElem?_getD, List.getElem?_eq_getElem h]
  rfl
theorem dW_get {m : List Wr} {k : Nat} (h : k < m.length) : (m.map dW)[(k : Int).toNat]? = some (dW (wr m k)) := by
  rw [Int.toNat_natCast, List.getElem?_map, wr_get h]
  rfl
theorem dI_get {ns : List Int} {k : Nat} (h : k < ns.length) : (ns.map PyData.int)[(k : Int).toNat]? = some (.int (ns.getD k 0)) := by
  rw [Int.toNat_natCast, List.getElem?_map, getD_get h]
  rfl
/-! frozen, of bounded depth -/
theorem fz_dI (ns : List Int) : fz (dI ns) = true := by
  unfold dI fz
  exact fz_map fun _ _ => by unfold fz; rfl
theorem fz_dA (x : Arw) : fz (dA x) = true := by
  unfold dA fz fzAll fzAll fzAll fzAll fz
  rfl
theorem fz_dS (s : Std) : fz (dS s) = true := by
  have h1 := fz_dI s.1
  have h2 := fz_dI s.2.1
  unfold dS
  simp only [fz, fzAll, h1, h2, Bool.and_true]
theorem fz_dW (w : Wr) : fz (dW w) = true := by
  have h : fzAll (w.2.1.map dA) = true := fz_map fun x _ => fz_dA x
  unfold dW
  simp only [fz, fzAll, h, Bool.and_true]
theorem fz_dStep (x : Str × Str × Std) : fz (dStep x) = true := by
  have h := fz_dS x.2.2
  unfold dStep
  simp only [fz, fzAll, h, Bool.and_true]
theorem fz_dMt (m : List Wr) : fz (dMt m) = true := by
  unfold dMt fz
  exact fz_map fun x _ => fz_dW x
theorem fz_dMv (x : Mv) : fz (dMv x) = true := by
  unfold dMv
  simp only [fz, fzAll, Bool.and_true]
theorem moves_len {m : List Wr} (g : GoodM m) (s : Std) : (moves m s).length ≤ 27 := by
  unfold moves
  have h : ∀ k ∈ List.range m.length, (movesAt m s k).length ≤ 9 := fun k hk => by
    unfold movesAt
    split
    · rw [List.length_map]
      have h1 := List.length_filter_le (fun x : Arw => decide (V.int x.1 = V.int (pl s k))) (wr m k).2.1
      have h2 := (g.at (List.mem_range.mp hk)).len
      omega
    · exact Nat.zero_le _
  have hs : ∀ l : List Nat, (∀ k ∈ l, (movesAt m s k).length ≤ 9) → (l.flatMap (movesAt m s)).length ≤ 9 * l.length := fun l => by
    induction l with
    | nil => intro _; exact Nat.le_refl _
    | cons k l ih =>
      intro hl
      rw [List.flatMap_cons, List.length_append, List.length_cons]
      have := hl k (List.mem_cons_self ..)
      have := ih fun j hj => hl j (List.mem_cons_of_mem _ hj)
      omega
  have := hs _ h
  rw [List.length_range] at this
  have := g.len
  omega
end Ink
namespace Ink
open PySem PySem.Spec PyProof.Rows L2 Evl
/-! ### companies: the program's defs -/
def RMinds : List PyData → PyData → Prop := fun ds d => ∃ m s, ∃ k : Nat, GoodM m ∧ Fits m s ∧ k < m.length ∧ ds = [dMt m, dS s, .int (k : Int)] ∧ d = .bool (minds m s k)
def RMay : List PyData → PyData → Prop := fun ds d => ∃ m s, ∃ k : Nat, GoodM m ∧ Fits m s ∧ k < m.length ∧ ds = [dMt m, dS s, .int (k : Int)] ∧ d = .bool (mayW m s k)
def RBehind : List PyData → PyData → Prop := fun ds d => ∃ m s, ∃ k : Nat, ∃ to, GoodM m ∧ Fits m s ∧ k < m.length ∧ ds = [dMt m, dS s, .int (k : Int), .int to] ∧ d = dS (behind m s k to)
def RSteps : List PyData → PyData → Prop := fun ds d => ∃ m s, GoodM m ∧ Fits m s ∧ ds = [dMt m, dS s] ∧ d = .list ((stepsOf m s).map dStep)
section
variable {P : Program} {w : World} {K : PySem.W.Frag} {mg : Str → Option Value} {base : Heap}
theorem places_in (ar : List Arw) : (ar.map fun x => PyData.int x.1) = (ar.map (·.1)).map PyData.int := by
  rw [List.map_map]
  rfl
theorem ok_minds {f : Addr} {fd : FuncData} {k : Nat} (F : Fun K "_minds" "_minds" sMinds f fd) : FnOk P w K mg base CX0 (k + 1) f fd ["writers", "stand", "at"] (spP K RMinds) := by
  refine F.ok sc__minds (fun vs H Q E h => ?_) (fun cdv A outer s H vs Q E hr h => ?_)
  · obtain ⟨ds, d, hd, ⟨m, s, k, _, _, _, rfl, _⟩, _⟩ := h
    exact hd.length
  · obtain ⟨ds, d, hd, ⟨m, st, k, g, ft, hk, rfl, rfl⟩, q⟩ := h
    obtain ⟨v0, v1, v2, rfl, h0, h1, h2⟩ := dps3 hd
    obtain rfl := dp_int h2
    refine ⟨_, (pss_cons (ps_asg (pe_ix ix_tup (pv 0) (pv 2) (fun _ _ => rfl)) (pg_tup rfl (pgs_cons (pg_name (i := 3) sc__minds.nd rfl (.inl rfl)) (pgs_cons (pg_name (i := 4) sc__minds.nd rfl (.inl rfl)) (pgs_cons (pg_name (i := 5) sc__minds.nd rfl (.inl rfl)) (pgs_cons (pg_name (i := 3) sc__minds.nd rfl (.inl rfl)) pgs_nil))))))
    (pss_one (ps_ret (pe_and (pe_cmpR op_ne (pv 5) pe_int (nomark _)) (pe_one (pe_cmpR (show OpR _ _ (rIn K false) from op_in_seq) (pe_ix ix_tup (pe_ix ix_tup (pv 1) pe_int (fun _ _ => rfl)) (pv 2) (fun _ _ => rfl)) (pe_lc (own := [("place", 6), ("_", 3)]) (g := (gTup K 3 (gCons (gName 6) (gCons (gName 3) (gCons (gName 3) gNil))))) (by rfl) sc__minds.nd (pi_tup (pv 4)) (blkOk_by (own := [("place", 6), ("_", 3)]) (N := ["writers", "stand", "at", "_", "arrows", "patience", "place"]) (sc := defScope sMinds) (by decide +kernel)) (fun _ _ _ _ _ => (pg_tup rfl (pgs_cons (pg_name (i := 6) sc__minds.nd rfl (.inl rfl)) (pgs_cons (pg_name (i := 3) sc__minds.nd rfl (.inl rfl)) (pgs_cons (pg_name (i := 3) sc__minds.nd rfl (.inl rfl)) pgs_nil))))) (fun _ _ _ _ _ => pts_nil) (fun _ _ _ _ _ => (pv 6))) (by rfl))))))), ?_⟩
    refine sd_un4 (ed_ixT (ed_var rfl h0) (ev_var rfl) (by omega) (dW_get hk)) fun w0 w1 w2 w3 H1 e1 g0 g1 g2 g3 => ?_
    obtain rfl := dp_int g2
    have h1 := dp_same e1 h1
    refine sd_ret (ed_bl (ev_andV (ev_op (ev_var rfl) ev_c (rv_ne rfl)) fun _ => ev_inI (neg := false) (ns := (wr m k).2.1.map (·.1)) (ev_int (ed_ixT (ed_ixT (ed_var rfl h1) ev_c (by decide) rfl) (ev_var rfl) (by omega) (dI_get (by rw [ft.l1]; exact hk)))) (EvN.list ?_) (.inl rfl))) fun v H2 e2 hv => q v H2 (e1.trans e2) hv
    rw [← places_in]
    exact en_map _ dA _ (ei_tup (ed_var rfl g1)) (by have := (g.at hk).len; omega) (fun _ _ => by unfold fz; rfl) fun i a H3 x hx e3 hdx R kk => tg3 hdx fun u1 u2 u3 a1 a2 a3 => kk _ rfl (ed_var rfl a1)
theorem m_le {m : List Wr} (g : GoodM m) {n : Nat} (h : 3 ≤ n) : m.length ≤ n := Nat.le_trans g.len h
theorem ok_may {f : Addr} {fd : FuncData} {k : Nat} (F : Fun K "_may_write" "_may_write" sMayWrite f fd) (T : Txt mg) (C__minds : Cal P w K mg base k "_minds" ["writers", "stand", "at"] (spP K RMinds)) : FnOk P w K mg base CX0 (k + 1) f fd ["writers", "stand", "at"] (spP K RMay) := by
  refine F.ok sc__may_write (fun vs H Q E h => ?_) (fun cdv A outer s H vs Q E hr h => ?_)
  · obtain ⟨ds, d, hd, ⟨m, s, k, _, _, _, rfl, _⟩, _⟩ := h
    exact hd.length
  · obtain ⟨ds, d, hd, ⟨m, st, k, g, ft, hk, rfl, rfl⟩, q⟩ := h
    obtain ⟨v0, v1, v2, rfl, h0, h1, h2⟩ := dps3 hd
    obtain rfl := dp_int h2
    refine ⟨_, (pss_cons (ps_asg (pv 1) (pg_tup rfl (pgs_cons (pg_name (i := 3) sc__may_write.nd rfl (.inl rfl)) (pgs_cons (pg_name (i := 4) sc__may_write.nd rfl (.inr rfl)) (pgs_cons (pg_name (i := 5) sc__may_write.nd rfl (.inl rfl)) pgs_nil)))))
    (pss_cons (ps_set (i := 6) sc__may_write.nd rfl (.inl rfl) (pe_ix ix_tup (pe_ix ix_tup (pv 0) (pv 2) (fun _ _ => rfl)) pe_int (fun _ _ => rfl)))
    (pss_cons (ps_if (PW.pt (pw_and (pt_cmpR op_ne (pv 6) pe_int (nomark _)) (pw_and (pt_cmpR op_eq (pe_ix ix_tup (pv 5) pe_int (fun _ _ => rfl)) (pv 2) (nomark _)) (pw_and1 (pt_cmpR op_ge (pe_ix ix_tup (pv 5) pe_int (fun _ _ => rfl)) (pv 6) (nomark _))))))
    (pss_one (ps_ret pe_bl)) pss_nil)
    (pss_cons (ps_setLc (i := 7) (own := [("k", 8)]) (g := (gName 8)) (by rfl) sc__may_write.nd rfl rfl (sw_true rfl rfl rfl (by decide +kernel)) (pi_range1 (by rfl) T.m_range (pa_cons (pe_callB call_len (by rfl) T.m_len PySem.boot_len (pa_cons (pv 0) pa_nil)) pa_nil)) (blkOk_by (own := [("k", 8)]) (N := ["writers", "stand", "at", "_", "waits", "run", "cap", "others", "k"]) (sc := defScope sMayWrite) (by decide +kernel)) (fun _ _ _ _ _ => (pg_name (i := 8) sc__may_write.nd rfl (Or.inl rfl))) (fun _ _ _ _ _ => pts_one (PW.pt (pw_and (pt_cmpR op_ne (pv 8) (pv 2) (nomark _)) (pw_and1 (pt_val (pe_callC C__minds hr (by rfl) (pa_cons (pv 0) (pa_cons (pv 1) (pa_cons (pv 8) pa_nil))))))))) (fun _ _ _ _ _ => (pv 8)))
    (pss_one (ps_ret (pe_callB (cr_all rfl) (by rfl) T.m_all (by decide +kernel) (pa_cons (pe_lc (own := [("k", 8)]) (g := (gName 8)) (by rfl) sc__may_write.nd (pi_list (pv 7)) (blkOk_by (own := [("k", 8)]) (N := ["writers", "stand", "at", "_", "waits", "run", "cap", "others", "k"]) (sc := defScope sMayWrite) (by decide +kernel)) (fun _ _ _ _ _ => (pg_name (i := 8) sc__may_write.nd rfl (Or.inl rfl))) (fun _ _ _ _ _ => pts_nil) (fun _ _ _ _ _ => (pe_cmpR op_lt (pe_ix (show IxR _ (rIxT K) from ix_tup) (pv 4) (pv 8) (fun _ _ => rfl)) (pe_ix (show IxR _ (rIxT K) from ix_tup) (pe_ix (show IxR _ (rIxT K) from ix_tup) (pv 0) (pv 8) (fun _ _ => rfl)) pe_int (fun _ _ => rfl)) (nomark _)))) pa_nil)))))))), ?_⟩
    refine sd_un3 (ed_var rfl h1) fun w0 w1 w2 H1 e1 g0 g1 g2 => ?_
    have h0 := dp_same e1 h0
    have h1 := dp_same e1 h1
    refine sd_asg (ed_ixT (ed_ixT (ed_var rfl h0) (ev_var rfl) (by omega) (dW_get hk)) ev_c (by decide) rfl) fun w3 H2 e2 g3 => ?_
    obtain rfl := dp_int g3
    have h0 := dp_same e2 h0
    have h1 := dp_same e2 h1
    have g1 := dp_same e2 g1
    have g2 := dp_same e2 g2
    have e12 := e1.trans e2
    refine Evl.q_when (b := !decide (V.int (wr m k).2.2.2 = V.int 0) && (decide (V.int st.2.2.1 = V.int (k : Int)) && decide (st.2.2.2 ≥ (wr m k).2.2.2))) (et_and (et_test (ev_op (ev_var rfl) ev_c (rv_ne rfl))) fun _ => et_and (et_test (ev_op (ev_int (ed_ixT (ed_var rfl g2) ev_c (by decide) rfl)) (ev_var rfl) (rv_eq rfl))) fun _ =>
      et_test (ev_op (ev_int (ed_ixT (ed_var rfl g2) ev_c (by decide) rfl)) (ev_var rfl) rv_I0)) (fun hb H3 e3 => ?_) fun hb H3 e3 => ?_
    · refine q (.bl false) H3 (e12.trans e3) ?_
      unfold mayW
      rw [if_pos hb]
      exact .bl false
    · have h0 := dp_same e3 h0
      have h1 := dp_same e3 h1
      have g1 := dp_same e3 g1
      have e13 := e12.trans e3
      refine sd_asg (K := K) (EvN.list (en_lc (List.range m.length) (fun j : Nat => PyData.int (j : Int)) (fun j : Nat => !decide (V.int (j : Int) = V.int (k : Int)) && minds m st j) (fun j : Nat => PyData.int (j : Int)) (ei_range (ea_cons (ev_is (ev_lenD (ed_var rfl h0) (.inr rfl)) (by rw [List.length_map])) ea_nil) (m_le g (by decide))) (by rw [List.length_range]; exact m_le g (by decide)) (fun _ _ => by unfold fz; rfl) fun i a H4 x hx e4 hdx R kk => ?_)) fun w4 H4 e4 g4 => ?_
      · obtain rfl := dp_int hdx
        have ha : a < m.length := by
          have := List.mem_of_getElem? hx
          exact List.mem_range.mp this
        refine kk _ rfl (et_and (et_test (ev_op (ev_var rfl) (ev_var rfl) (rv_ne rfl))) fun _ => et_B (ev_bl (ed_call (eds_cons (ed_var rfl (dp_same e4 h0)) (eds_cons (ed_var rfl (dp_same e4 h1)) (eds_cons (ed_var rfl (.int _)) eds_nil))) ⟨m, st, a, g, ft, ha, rfl, rfl⟩))) fun _ => ed_var rfl (.int _)
      · have h0 := dp_same e4 h0
        have g1 := dp_same e4 g1
        dsimp only
        refine sd_ret (K := K) (ed_bl (ev_allD (bs := ((List.range m.length).filter fun (j : Nat) => !decide (V.int (j : Int) = V.int (k : Int)) && minds m st j).map fun (j : Nat) => decide (wt st j < (wr m j).2.2.1)) (EvN.list ?_))) fun v H5 e5 hv => ?_
        · rw [List.map_map]
          refine en_map _ (fun j : Nat => PyData.int (j : Int)) _ (ei_lst (ed_var rfl g4)) ?_ (fun _ _ => by show fz (PyData.bool _) = true; unfold fz; rfl) fun i a H6 x hx e6 hdx R kk => ?_
          · have h1 := List.length_filter_le (fun j : Nat => !decide (V.int (j : Int) = V.int (k : Int)) && minds m st j) (List.range m.length)
            rw [List.length_range] at h1
            exact Nat.le_trans h1 (m_le g (by decide))
          · obtain rfl := dp_int hdx
            have ha : a < m.length := List.mem_range.mp (List.mem_filter.mp (List.mem_of_getElem? hx)).1
            exact kk _ rfl (ed_bl (ev_op (ev_int (ed_ixT (ed_var rfl (dp_same e6 g1)) (ev_var rfl) (by omega) (dI_get (by rw [ft.l2]; exact ha)))) (ev_int (ed_ixT (ed_ixT (ed_var rfl (dp_same e6 h0)) (ev_var rfl) (by omega) (dW_get ha)) ev_c (by decide) rfl)) rv_I0))
        · refine q v H5 (e13.trans (e4.trans e5)) ?_
          unfold mayW
          rw [if_neg (by rw [hb]; exact Bool.false_ne_true)]
          exact hv
end
end Ink
namespace Ink
open PySem PySem.Spec PyProof.Rows L2 Evl
section
variable {P : Program} {w : World} {K : PySem.W.Frag} {mg : Str → Option Value} {base : Heap}
theorem enum_range (ns : List Int) : enumD (ns.map PyData.int) = (List.range ns.length).map fun j : Nat => PyData.tuple [.int (j : Int), .int (ns.getD j 0)] := by
  unfold enumD
  rw [List.length_map]
  refine List.map_congr_left fun j hj => ?_
  have hj := List.mem_range.mp hj
  rw [List.getD_eq_getElem?_getD, List.getElem?_map, getD_get hj]
  rfl
theorem ok_behind {f : Addr} {fd : FuncData} {k : Nat} (F : Fun K "_behind" "_behind" sBehind f fd) (T : Txt mg) (G__NO_RUN : GlobT K mg "_NO_RUN" (.tuple [.int (-1), .int 0])) (C__minds : Cal P w K mg base k "_minds" ["writers", "stand", "at"] (spP K RMinds)) : FnOk P w K mg base CX0 (k + 1) f fd ["writers", "stand", "at", "to"] (spP K RBehind) := by
  refine F.ok sc__behind (fun vs H Q E h => ?_) (fun cdv A outer s H vs Q E hr h => ?_)
  · obtain ⟨ds, d, hd, ⟨m, s, k, to, _, _, _, rfl, _⟩, _⟩ := h
    exact hd.length
  · obtain ⟨ds, d, hd, ⟨m, st, k, to, g, ft, hk, rfl, rfl⟩, q⟩ := h
    obtain ⟨v0, v1, v2, v3, rfl, h0, h1, h2, h3⟩ := dps4 hd
    obtain rfl := dp_int h2
    obtain rfl := dp_int h3
    refine ⟨_, (pss_cons (ps_asg (pv 1) (pg_tup rfl (pgs_cons (pg_name (i := 4) sc__behind.nd rfl (.inl rfl)) (pgs_cons (pg_name (i := 5) sc__behind.nd rfl (.inl rfl)) (pgs_cons (pg_name (i := 6) sc__behind.nd rfl (.inl rfl)) pgs_nil)))))
    (pss_cons (ps_set (i := 7) sc__behind.nd rfl (.inl rfl) (pe_tup (StX.pa_star (pe_slice sl_tupA (pv 4) po_none (po_some (pv 2))) (pa_cons (pv 3) (StX.pa_star (pe_slice sl_tupA (pv 4) (po_some (pe_op op_add (pv 2) pe_int)) po_none) pa_nil)))))
    (pss_cons (ps_setLc (i := 8) (own := [("k", 10), ("wait", 11)]) (g := (gTup K 2 (gCons (gName 10) (gCons (gName 11) gNil)))) (by rfl) sc__behind.nd rfl rfl (sw_true rfl rfl rfl (by decide +kernel)) (pi_enumT (by rfl) T.m_enumerate (pa_cons (pv 5) pa_nil)) (blkOk_by (own := [("k", 10), ("wait", 11)]) (N := ["writers", "stand", "at", "to", "places", "waits", "run", "then", "kept", "many", "k", "wait"]) (sc := defScope sBehind) (by decide +kernel)) (fun _ _ _ _ _ => (pg_tup rfl (pgs_cons (pg_name (i := 10) sc__behind.nd rfl (.inl rfl)) (pgs_cons (pg_name (i := 11) sc__behind.nd rfl (.inl rfl)) pgs_nil)))) (fun _ _ _ _ _ => pts_nil) (fun _ _ _ _ _ => (pe_ifExp (PW.pt (pw_and (pt_cmpR op_ne (pv 10) (pv 2) (nomark _)) (pw_and1 (pt_val (pe_callC C__minds hr (by rfl) (pa_cons (pv 0) (pa_cons (pv 1) (pa_cons (pv 10) pa_nil)))))))) (pe_op op_add (pv 11) pe_int) pe_int)))
    (pss_cons (ps_if (pt_cmpR op_eq (pe_ix ix_tup (pe_ix ix_tup (pv 0) (pv 2) (fun _ _ => rfl)) pe_int (fun _ _ => rfl)) pe_int (nomark _))
    (pss_one (ps_ret (pe_tup (pa_cons (pv 7) (pa_cons (pe_callTy call_tuple_of (by rfl) T.m_tuple (by decide +kernel) (pa_cons (pv 8) pa_nil)) (pa_cons (pe_globT (by rfl) G__NO_RUN) pa_nil)))))) pss_nil)
    (pss_cons (ps_set (i := 9) sc__behind.nd rfl (.inl rfl) (pe_ifExp (pt_cmpR op_eq (pe_ix ix_tup (pv 6) pe_int (fun _ _ => rfl)) (pv 2) (nomark _)) (pe_op op_add (pe_ix ix_tup (pv 6) pe_int (fun _ _ => rfl)) pe_int) pe_int))
    (pss_one (ps_ret (pe_tup (pa_cons (pv 7) (pa_cons (pe_callTy call_tuple_of (by rfl) T.m_tuple (by decide +kernel) (pa_cons (pv 8) pa_nil)) (pa_cons (pe_tup (pa_cons (pv 2) (pa_cons (pv 9) pa_nil))) pa_nil))))))))))), ?_⟩
    refine sd_un3 (ed_var rfl h1) fun w0 w1 w2 H1 e1 g0 g1 g2 => ?_
    have h0 := dp_same e1 h0
    have h1 := dp_same e1 h1
    refine sd_asg (d := dI (st.1.take k ++ to :: st.1.drop (k + 1))) (ed_is (ed_tup (eds_star (ed_slTo (ed_var rfl g0) (ev_var rfl)) (eds_cons (ed_int (ev_var rfl)) (eds_star (ed_slFrom (k := k + 1) (ed_var rfl g0) (ev_op (ev_var rfl) ev_c rv_I0)) eds_nil))) ?_) ?_) fun w3 H2 e2 g3 => ?_
    · have := g.len
      have := ft.l1
      simp only [List.length_append, List.length_cons, List.length_take, List.length_drop, List.length_map, List.length_nil]
      omega
    · unfold dI
      rw [List.append_nil, List.map_append, List.map_take, List.map_cons, List.map_drop]
    have h0 := dp_same e2 h0
    have h1 := dp_same e2 h1
    have g1 := dp_same e2 g1
    have g2 := dp_same e2 g2
    have e12 := e1.trans e2
    let kept : List Int := (List.range st.2.1.length).map fun (j : Nat) => if (!decide (V.int (j : Int) = V.int (k : Int)) && minds m st j) = true then wt st j + 1 else 0
    have hl2 : st.2.1.length ≤ 40000 := by rw [ft.l2]; exact m_le g (by decide)
    dsimp only
    refine sd_asg (K := K) (EvN.list (ds := kept.map PyData.int) ?_) fun w4 H3 e3 g4 => ?_
    · rw [show kept.map PyData.int = (List.range st.2.1.length).map fun (j : Nat) => PyData.int (if (!decide (V.int (j : Int) = V.int (k : Int)) && minds m st j) = true then wt st j + 1 else 0) from List.map_map]
      refine en_map _ (fun j : Nat => PyData.tuple [.int (j : Int), .int (st.2.1.getD j 0)]) _ (enum_range st.2.1 ▸ ei_enumT (ed_var rfl g1)) (by rw [List.length_range]; exact hl2) (fun _ _ => by show fz (PyData.int _) = true; unfold fz; rfl) fun i a H6 x hx e6 hdx R kk => tg2 hdx fun u1 u2 a1 a2 => ?_
      obtain rfl := dp_int a1
      obtain rfl := dp_int a2
      have ha : a < m.length := by
        rw [← ft.l2]
        exact List.mem_range.mp (List.mem_of_getElem? hx)
      refine kk _ rfl (ed_if (b := !decide (V.int (a : Int) = V.int (k : Int)) && minds m st a) (et_and (et_test (ev_op (ev_var rfl) (ev_var rfl) (rv_ne rfl))) fun _ => et_B (ev_bl (ed_call (eds_cons (ed_var rfl (dp_same e6 h0)) (eds_cons (ed_var rfl (dp_same e6 h1)) (eds_cons (ed_var rfl (.int _)) eds_nil))) ⟨m, st, a, g, ft, ha, rfl, rfl⟩))) (fun hb => ?_) fun hb => ?_)
      · rw [if_pos hb]
        exact ed_int (ev_op (ev_var rfl) ev_c rv_I0)
      · rw [if_neg (by rw [hb]; exact Bool.false_ne_true)]
        exact ed_int ev_c
    · dsimp only
      have h0 := dp_same e3 h0
      have g2 := dp_same e3 g2
      have g3 := dp_same e3 g3
      have e13 := e12.trans e3
      refine Evl.q_when (b := decide (V.int (wr m k).2.2.2 = V.int 0)) (et_test (ev_op (ev_int (ed_ixT (ed_ixT (ed_var rfl h0) (ev_var rfl) (by omega) (dW_get hk)) ev_c (by decide) rfl)) ev_c (rv_eq rfl))) (fun hb H4 e4 => ?_) fun hb H4 e4 => ?_
      · refine sd_ret (K := K) (ed_tup (eds_cons (ed_var rfl (dp_same e4 g3)) (eds_cons (ed_tuple (ed_var rfl (dp_same e4 g4))) (eds_cons ed_globT eds_nil))) (by show 3 ≤ 100000; decide)) fun v H5 e5 hv => ?_
        refine q v H5 (e13.trans (e4.trans e5)) ?_
        unfold behind
        rw [if_pos (of_decide_eq_true hb)]
        exact hv
      · have g2 := dp_same e4 g2
        have g3 := dp_same e4 g3
        have g4 := dp_same e4 g4
        refine sd_asg (K := K) (d := .int (if V.int st.2.2.1 = V.int (k : Int) then st.2.2.2 + 1 else 1)) (ed_if (b := decide (V.int st.2.2.1 = V.int (k : Int))) (et_test (ev_op (ev_int (ed_ixT (ed_var rfl g2) ev_c (by decide) rfl)) (ev_var rfl) (rv_eq rfl))) (fun hm => ?_) fun hm => ?_) fun w5 H5 e5 g5 => ?_
        · rw [if_pos (of_decide_eq_true hm)]
          exact ed_int (ev_op (ev_int (ed_ixT (ed_var rfl g2) ev_c (by decide) rfl)) ev_c rv_I0)
        · rw [if_neg (of_decide_eq_false hm)]
          exact ed_int ev_c
        · dsimp only
          refine sd_ret (K := K) (ed_tup (eds_cons (ed_var rfl (dp_same e5 g3)) (eds_cons (ed_tuple (ed_var rfl (dp_same e5 g4))) (eds_cons (ed_tup (eds_cons (ed_int (ev_var rfl)) (eds_cons (ed_var rfl g5) eds_nil)) (by show 2 ≤ 100000; decide)) eds_nil))) (by show 3 ≤ 100000; decide)) fun v H6 e6 hv => ?_
          refine q v H6 (e13.trans (e4.trans (e5.trans e6))) ?_
          unfold behind
          rw [if_neg (of_decide_eq_false hb)]
          exact hv
end
end Ink
namespace Ink
open PySem PySem.Spec PyProof.Rows L2 Evl
section
variable {P : Program} {w : World} {K : PySem.W.Frag} {mg : Str → Option Value} {base : Heap}
theorem alike_mv (a b : Mv) : PySem.W.alike (dMv a) (dMv b) = true := by
  unfold dMv
  simp only [PySem.W.alike, PySem.W.alikeAll, Bool.and_true]
theorem depth_mv (a : Mv) : (dMv a).depth ≤ 64 := by
  unfold dMv
  simp only [PyData.depth, PyData.depthAll]
  decide
theorem sort_mv (l : List Mv) : (l.map dMv).mergeSort (PySem.W.dataLe false id) = (l.mergeSort leMv).map dMv := by
  have z := List.map_mergeSort (r := leMv) (s := PySem.W.dataLe false id) (f := dMv) (l := l) (fun a _ b _ => rfl)
  exact z.symm
theorem enum_w (m : List Wr) {i : Nat} {d : PyData} (h : (enumD (m.map dW))[i]? = some d) : i < m.length ∧ d = .tuple [.int (i : Int), dW (wr m i)] := by
  have hi : i < m.length := by
    have := (List.getElem?_eq_some_iff.mp h).1
    unfold enumD at this
    rw [List.length_map, List.length_range, List.length_map] at this
    exact this
  have e : (m.map dW)[i]? = some (dW (wr m i)) := by
    rw [List.getElem?_map, wr_get hi]
    rfl
  rw [enumD_get e] at h
  exact ⟨hi, (Option.some.inj h).symm⟩
theorem enum_len (ds : List PyData) : (enumD ds).length = ds.length := by
  unfold enumD
  rw [List.length_map, List.length_range]
theorem ok_steps_of {f : Addr} {fd : FuncData} {k : Nat} (F : Fun K "_steps_of" "_steps_of" sStepsOf f fd) (T : Txt mg) (C__may_write : Cal P w K mg base k "_may_write" ["writers", "stand", "at"] (spP K RMay)) (C__behind : Cal P w K mg base k "_behind" ["writers", "stand", "at", "to"] (spP K RBehind)) :
    FnOk P w K mg base CX0 (k + 1) f fd ["writers", "stand"] (spP K RSteps) := by
  refine F.ok sc__steps_of (fun vs H Q E h => ?_) (fun cdv A outer s H vs Q E hr h => ?_)
  · obtain ⟨ds, d, hd, ⟨m, s, _, _, rfl, _⟩, _⟩ := h
    exact hd.length
  · obtain ⟨ds, d, hd, ⟨m, st, g, ft, rfl, rfl⟩, q⟩ := h
    obtain ⟨v0, v1, rfl, h0, h1⟩ := dps2 hd
    refine ⟨_, (pss_cons (ps_set (i := 2) sc__steps_of.nd rfl (.inl rfl) (pe_lst pa_nil))
    (pss_cons (ps_for PassesOwn.never rfl (pi_enumT (by rfl) T.m_enumerate (pa_cons (pv 0) pa_nil)) (pg_tup rfl (pgs_cons (pg_name (i := 3) sc__steps_of.nd rfl (.inr rfl)) (pgs_cons (pg_name (i := 4) sc__steps_of.nd rfl (.inl rfl)) pgs_nil)))
    (pss_one (ps_if (pt_val (pe_callC C__may_write hr (by rfl) (pa_cons (pv 0) (pa_cons (pv 1) (pa_cons (pv 3) pa_nil)))))
    (pss_one (ps_expr (pe_bm PySem.F.plainAttrs_list PySem.F.slot_list_extend PySem.F.type_list_extend mt_extend (pv 2) (pa_cons (pe_lc (own := [("place", 5), ("sign", 6), ("to", 7)]) (g := (gTup K 3 (gCons (gName 5) (gCons (gName 6) (gCons (gName 7) gNil))))) (by rfl) sc__steps_of.nd (pi_tup (pe_ix ix_tup (pv 4) pe_int (fun _ _ => rfl))) (blkOk_by (own := [("place", 5), ("sign", 6), ("to", 7)]) (N := ["writers", "stand", "moves", "at", "writer", "place", "sign", "to"]) (sc := defScope sStepsOf) (by decide +kernel)) (fun _ _ _ _ _ => (pg_tup rfl (pgs_cons (pg_name (i := 5) sc__steps_of.nd rfl (.inl rfl)) (pgs_cons (pg_name (i := 6) sc__steps_of.nd rfl (.inl rfl)) (pgs_cons (pg_name (i := 7) sc__steps_of.nd rfl (.inl rfl)) pgs_nil))))) (fun _ _ _ _ _ => pts_one (pt_cmpR op_eq (pv 5) (pe_ix (show IxR _ (rIxT K) from ix_tup) (pe_ix (show IxR _ (rIxT K) from ix_tup) (pv 1) pe_int (fun _ _ => rfl)) (pv 3) (fun _ _ => rfl)) (nomark _))) (fun _ _ _ _ _ => (pe_tup (pa_cons (pv 6) (pa_cons (pv 3) (pa_cons (pv 7) pa_nil)))))) pa_nil)))) pss_nil)))
    (pss_one (ps_ret (pe_lc (own := [("sign", 6), ("at", 3), ("to", 7)]) (g := (gTup K 3 (gCons (gName 6) (gCons (gName 3) (gCons (gName 7) gNil))))) (by rfl) sc__steps_of.nd (pi_list (pe_callB (cr_sortedD (hu9 hr)) (by rfl) T.m_sorted (by decide +kernel) (pa_cons (pv 2) pa_nil))) (blkOk_by (own := [("sign", 6), ("at", 3), ("to", 7)]) (N := ["writers", "stand", "moves", "at", "writer", "place", "sign", "to"]) (sc := defScope sStepsOf) (by decide +kernel)) (fun _ _ _ _ _ => (pg_tup rfl (pgs_cons (pg_name (i := 6) sc__steps_of.nd rfl (.inl rfl)) (pgs_cons (pg_name (i := 3) sc__steps_of.nd rfl (.inl rfl)) (pgs_cons (pg_name (i := 7) sc__steps_of.nd rfl (.inl rfl)) pgs_nil))))) (fun _ _ _ _ _ => pts_nil) (fun _ _ _ _ _ => (pe_tup (pa_cons (pv 6) (pa_cons (pe_ix (show IxR _ (rIxT K) from ix_tup) (pe_ix (show IxR _ (rIxT K) from ix_tup) (pv 0) (pv 3) (fun _ _ => rfl)) pe_int (fun _ _ => rfl)) (pa_cons (pe_callC C__behind hr (by rfl) (pa_cons (pv 0) (pa_cons (pv 1) (pa_cons (pv 3) (pa_cons (pv 7) pa_nil))))) pa_nil)))))))))), ?_⟩
    refine sd_asgN (K := K) (en_lst eds_nil (by decide)) fun p vs H1 np e1 hp hvs => ?_
    cases hvs
    dsimp only
    have h0 := dp_same e1 h0
    have h1 := dp_same e1 h1
    have ml := moves_len g st
    refine sd_for (K := K) (ej_enumT (ed_var rfl h0) (fz_map fun x _ => fz_dW x)) (fun H2 i σ' H' => (∃ y3 y4, σ' = [some v0, some v1, some (.ref p), y3, y4, none, none, none]) ∧ TupK K H2 H' ∧ Ex H H' ∧ ∃ vs, H' p = some (.lst vs) ∧ DpAll K H' vs (((List.range i).flatMap (movesAt m st)).map dMv)) (fun H2 e2 => ⟨⟨none, none, rfl⟩, .refl _, e1.trans e2, [], e2 _ _ hp, .nil⟩) (fun H2 i σ' H' hP => hP.2.1) (fun H2 i d x σ' Ha Hb e2 hd hP eab hx => ?_) (fun H2 σ' H' e2 hP => ?_)
    · obtain ⟨⟨y3, y4, rfl⟩, tk, eH, vs, hpa, hvs⟩ := hP
      obtain ⟨hi, rfl⟩ := enum_w m hd
      refine tg2 hx fun u1 u2 a1 a2 => ?_
      obtain rfl := dp_int a1
      have tk1 : TupK K H1 Hb := ((TupK.of e2).trans tk).trans (.of eab)
      have h0 := dp_tk tk1 (fz_dMt m) h0
      have h1 := dp_tk tk1 (fz_dS st) h1
      have hpb := eab _ _ hpa
      have hvs := dps_same eab hvs
      have ef : (List.range (i + 1)).flatMap (movesAt m st) = (List.range i).flatMap (movesAt m st) ++ movesAt m st i := by
        rw [List.range_succ, List.flatMap_append, List.flatMap_cons, List.flatMap_nil, List.append_nil]
      have lb : ((List.range i).flatMap (movesAt m st)).length ≤ 27 := by
        refine Nat.le_trans ?_ ml
        unfold moves
        have : (List.range m.length) = List.range i ++ (List.range (m.length - i)).map (i + ·) := by
          rw [← List.range_add]
          congr 1
          omega
        rw [this, List.flatMap_append, List.length_append]
        omega
      refine s_if (b := mayW m st i) (et_B (ev_bl (ed_call (eds_cons (ed_var rfl h0) (eds_cons (ed_var rfl h1) (eds_cons (ed_var rfl (.int _)) eds_nil))) ⟨m, st, i, g, ft, hi, rfl, rfl⟩))) (fun hb H3 e3 => ?_) fun hb H3 e3 => ?_
      · have h1 := dp_same e3 h1
        have a2 := dp_same e3 a2
        have hl : vs.length ≤ 27 := by
          rw [hvs.length, List.length_map]
          exact lb
        have h9 := (g.at hi).len
        have emv : movesAt m st i = ((wr m i).2.1.filter fun x => decide (V.int x.1 = V.int (pl st i))).map fun x => (x.2.1, i, x.2.2) := by
          unfold movesAt
          rw [if_pos hb]
        refine sd_ext (K := K) (p := p) rfl (e3 _ _ hpb) (ds := (movesAt m st i).map dMv) ?_ (by rw [List.length_map, emv, List.length_map]; have := List.length_filter_le (fun x : Arw => decide (V.int x.1 = V.int (pl st i))) (wr m i).2.1; omega) fun ws H4 e4 hws => ?_
        · rw [emv, List.map_map]
          refine en_lc (wr m i).2.1 dA (fun x => decide (V.int x.1 = V.int (pl st i))) _ (ei_tup (ed_ixT (ed_var rfl a2) ev_c (by decide) rfl)) (by omega) (fun x _ => fz_dMv (x.2.1, i, x.2.2)) fun j a H5 x hx e5 hdx R kk => tg3 hdx fun u1 u2 u3 b1 b2 b3 => ?_
          obtain rfl := dp_int b1
          exact kk _ rfl (et_test (ev_op (ev_var rfl) (ev_int (ed_ixT (ed_ixT (ed_var rfl (dp_same e5 h1)) ev_c (by decide) rfl) (ev_var rfl) (by omega) (dI_get (by rw [ft.l1]; exact hi)))) (rv_eq rfl))) fun _ => ed_tup (eds_cons (ed_var rfl b2) (eds_cons (ed_int (ev_var rfl)) (eds_cons (ed_var rfl b3) eds_nil))) (by show 3 ≤ 100000; decide)
        · have hp4 := e4 _ _ (e3 _ _ hpb)
          have t4 : TupK K H4 (upd H4 p (.lst (vs ++ ws))) := .lst hp4
          refine ⟨⟨_, _, rfl⟩, ((tk.trans (.of eab)).trans (.of (e3.trans e4))).trans t4, Ex.mut (((eH.trans eab).trans e3).trans e4) np, vs ++ ws, upd_same, ?_⟩
          rw [ef, List.map_append]
          exact (dps_tk t4 (fz_map fun x _ => fz_dMv x) (dps_same (e3.trans e4) hvs)).app (dps_tk t4 (fz_map fun x _ => fz_dMv x) hws)
      · refine ⟨⟨_, _, rfl⟩, (tk.trans (.of eab)).trans (.of e3), (eH.trans eab).trans e3, vs, e3 _ _ hpb, ?_⟩
        have emv : movesAt m st i = [] := by
          unfold movesAt
          rw [if_neg (by rw [hb]; exact Bool.false_ne_true)]
        rw [ef, emv, List.append_nil]
        exact dps_same e3 hvs
    · obtain ⟨⟨y3, y4, rfl⟩, tk, eH, vs, hpa, hvs⟩ := hP
      rw [enum_len, List.length_map] at hvs
      have hvs : DpAll K H' vs ((moves m st).map dMv) := hvs
      have tk1 : TupK K H1 H' := (TupK.of e2).trans tk
      have h0 := dp_tk tk1 (fz_dMt m) h0
      have h1 := dp_tk tk1 (fz_dS st) h1
      dsimp only
      refine sd_ret (K := K) (EvN.list (ds := (stepsOf m st).map dStep) ?_) fun v H3 e3 hv => q v H3 (eH.trans e3) hv
      unfold stepsOf
      rw [List.map_map]
      refine en_map ((moves m st).mergeSort leMv) dMv _ ?_ (by rw [List.length_mergeSort]; omega) (fun x _ => fz_dStep (x.1, (wr m x.2.1).1, behind m st x.2.1 x.2.2)) fun j a H5 x hx e5 hdx R kk => tg3 hdx fun u1 u2 u3 b1 b2 b3 => ?_
      · rw [← sort_mv]
        exact ei_lst (EvN.list (en_sorted (ed_var rfl (.lst (.of hpa) hvs)) (PySem.W.AllAlike.of alike_mv) (PySem.W.Sortable.tuples fun b => ⟨_, _, rfl⟩) (fun d hd => by
          obtain ⟨a, _, rfl⟩ := List.mem_map.mp hd
          exact depth_mv a)))
      · obtain rfl := dp_int b2
        have ha : a.2.1 < m.length := by
          have hm := List.mem_of_getElem? hx
          rw [List.mem_mergeSort] at hm
          unfold moves at hm
          obtain ⟨j, hj, hmj⟩ := List.mem_flatMap.mp hm
          unfold movesAt at hmj
          split at hmj
          · obtain ⟨y, _, rfl⟩ := List.mem_map.mp hmj
            exact List.mem_range.mp hj
          · cases hmj
        exact kk _ rfl (ed_tup (eds_cons (ed_var rfl b1) (eds_cons (ed_ixT (ed_ixT (ed_var rfl (dp_same e5 h0)) (ev_var rfl) (by omega) (dW_get ha)) ev_c (by decide) rfl) (eds_cons (ed_call (eds_cons (ed_var rfl (dp_same e5 h0)) (eds_cons (ed_var rfl (dp_same e5 h1)) (eds_cons (ed_var rfl (.int _)) (eds_cons (ed_var rfl b3) eds_nil)))) ⟨m, st, a.2.1, a.2.2, g, ft, ha, rfl, rfl⟩) eds_nil))) (by show 3 ≤ 100000; decide))
end
end Ink
namespace Ink
open PySem PySem.Spec PyProof.Rows L2
/-! ### a drawn writer is one -/
theorem good_okA {x : Arw} (h : goodA x) : okA x = true := by
  obtain ⟨h1, h2, ⟨c, hc, e⟩, h3, h4⟩ := h
  unfold okA within
  rw [e, show isSign (single c) = decide (c ∈ lets) from sign_one c, decide_eq_true hc, decide_eq_true h1, decide_eq_true h2, decide_eq_true h3, decide_eq_true h4]
  rfl
theorem less_lt {x y : Arw} (hx : goodA x) (hy : goodA y) (h : lessA x y) : ltIS x.1 x.2.1 y.1 y.2.1 = true := by
  unfold ltIS
  rcases h with h | ⟨e, h⟩
  · rw [if_neg (by omega)]
    exact decide_eq_true h
  · rw [if_pos e]
    by_cases e2 : x.2.1 = y.2.1
    · rw [e2] at h
      exact absurd h (List.lt_irrefl _)
    · rw [if_neg e2]
      exact decide_eq_true h
theorem good_rise {ar : List Arw} (hg : ∀ x ∈ ar, goodA x) (hr : ar.Pairwise lessA) : riseB ar = true := by
  unfold riseB
  rw [List.all_map]
  refine List.all_eq_true.mpr fun k hk => ?_
  have hk := List.mem_range.mp hk
  show ltAt ar k = true
  have h1 : k < ar.length := by omega
  have h2 : k + 1 < ar.length := by omega
  unfold ltAt
  rw [List.getElem?_eq_getElem h1, List.getElem?_eq_getElem h2]
  exact less_lt (hg _ (List.getElem_mem h1)) (hg _ (List.getElem_mem h2)) ((List.pairwise_iff_getElem.mp hr) k (k + 1) h1 h2 (by omega))
theorem GoodW.is {z : Str} {ar : List Arw} {p c : Int} (g : GoodW z ar p c) : isWr z ar p c = true := by
  unfold isWr areArr within
  have hl := g.len
  rw [name_eq, g.name.is, if_neg (by omega), if_neg (by
    rw [show (ar.map okA).all id = true from by
      rw [List.all_map]
      exact List.all_eq_true.mpr fun x hx => good_okA (g.each x hx)]
    exact fun e => nomatch e), good_rise g.each g.rise, decide_eq_true g.p0, decide_eq_true g.p3, decide_eq_true g.c0, decide_eq_true g.c3]
  rfl
theorem GoodW.short {z : Str} {ar : List Arw} {p c : Int} (g : GoodW z ar p c) : ShortA ar := ⟨by have := g.len; omega, fun x hx => by
  obtain ⟨_, _, ⟨c, _, e⟩, _⟩ := g.each x hx
  rw [e]
  show 1 ≤ 1000
  decide⟩
end Ink
namespace Ink
open PySem PySem.Spec PyProof.Rows L2 Evl
/-! ### writers looked at, as data -/
def dH (x : Arw) : PyData := .tuple [.int x.1, .str x.2.1]
def RAre : List PyData → PyData → Prop := fun ds d => ∃ ar, ShortA ar ∧ ds = [.tuple (ar.map dA)] ∧ d = .bool (areArr ar)
def RIsW : List PyData → PyData → Prop := fun ds d => ∃ w : Wr, ShortA w.2.1 ∧ w.1.length ≤ 1000 ∧ ds = [dW w] ∧ d = .bool (isWr w.1 w.2.1 w.2.2.1 w.2.2.2)
theorem fz_dH (x : Arw) : fz (dH x) = true := by
  unfold dH fz fzAll fzAll fzAll fz
  rfl
def ltP (p : Arw × Arw) : Bool := ltIS p.1.1 p.1.2.1 p.2.1 p.2.2.1
theorem rise_zip (ar : List Arw) : riseB ar = ((ar.zip (ar.drop 1)).map ltP).all id := by
  unfold riseB
  congr 1
  refine List.ext_getElem? fun i => ?_
  rw [List.getElem?_map, List.getElem?_map]
  by_cases h : i < ar.length - 1
  · have h1 : i < ar.length := by omega
    have h2 : i + 1 < ar.length := by omega
    have z : (ar.zip (ar.drop 1))[i]? = some (ar[i], ar[i + 1]) := by
      rw [List.getElem?_zip_eq_some]
      refine ⟨List.getElem?_eq_getElem h1, ?_⟩
      rw [List.getElem?_drop, Nat.add_comm]
      exact List.getElem?_eq_getElem h2
    rw [z, List.getElem?_range h]
    show some (ltAt ar i) = some _
    unfold ltAt
    rw [List.getElem?_eq_getElem h1, List.getElem?_eq_getElem h2]
    rfl
  · rw [List.getElem?_eq_none (by rw [List.length_range]; omega), List.getElem?_eq_none (by rw [List.length_zip, List.length_drop]; omega)]
    rfl
theorem zip_heads (ar : List Arw) : (((ar.map dH).zip ((ar.map dH).drop 1)).map fun p => PyData.tuple [p.1, p.2]) = (ar.zip (ar.drop 1)).map fun p => .tuple [dH p.1, dH p.2] := by
  rw [← List.map_drop, List.zip_map, List.map_map]
  rfl
section
variable {K : PySem.W.Frag} {σ : L2.St} {H : Hp} {ta tb te : TE} {ds : List PyData}
theorem ev_ltISD {i j : Int} {x y : Str} (ha : EvD K ta σ H (.tuple [.int i, .str x])) (hb : EvD K tb σ H (.tuple [.int j, .str y])) : Ev (tOp (rLtIS K) ta tb) σ H (.bl (ltIS i x j y)) := fun H1 e Q q =>
  ha H1 e _ fun v H2 e2 hv => hb H2 (e.trans e2) _ fun u H3 e3 hu => by
    obtain ⟨p, xs, rfl, hs, hxs⟩ := dp_tup (dp_same e3 hv)
    obtain ⟨p', ys, rfl, hs', hys⟩ := dp_tup hu
    obtain ⟨v1, v2, rfl, h1, h2⟩ := dps2 hxs
    obtain ⟨u1, u2, rfl, g1, g2⟩ := dps2 hys
    rw [dp_int h1, dp_str h2] at hs
    rw [dp_int g1, dp_str g2] at hs'
    exact ⟨p, p', i, x, j, y, rfl, rfl, hs, hs', q H3 (e2.trans e3)⟩
theorem en_slFromL {k : Nat} (h : EvD K te σ H (.list ds)) (hk : Ev tb σ H (.int (k : Int))) : EvN K (tSl (rSlL K) te (tPart tb) tNoPart) σ H (ds.drop k) := fun H1 e Q q =>
  h H1 e _ fun v H2 e2 hv => hk H2 (e.trans e2) _ fun H3 e3 => ⟨(k : Int), rfl, by
    obtain ⟨p, xs, rfl, hs, hxs⟩ := dp_lst (dp_same e3 hv)
    refine ⟨p, xs, rfl, hs, fun p2 np => ?_⟩
    rw [vcut_from]
    exact q _ _ _ (fresh_back (e2.trans e3) np) ((e2.trans e3).trans (Ex.new np)) upd_same (dps_same (Ex.new np) (hxs.drop k))⟩
theorem en_slToL {k : Nat} (h : EvD K te σ H (.list ds)) (hk : Ev tb σ H (.int (k : Int))) : EvN K (tSl (rSlL K) te tNoPart (tPart tb)) σ H (ds.take k) := fun H1 e Q q =>
  h H1 e _ fun v H2 e2 hv => hk H2 (e.trans e2) _ fun H3 e3 => ⟨(k : Int), rfl, by
    obtain ⟨p, xs, rfl, hs, hxs⟩ := dp_lst (dp_same e3 hv)
    refine ⟨p, xs, rfl, hs, fun p2 np => ?_⟩
    rw [vcut_to]
    exact q _ _ _ (fresh_back (e2.trans e3) np) ((e2.trans e3).trans (Ex.new np)) upd_same (dps_same (Ex.new np) (hxs.take k))⟩
end
section
variable {P : Program} {w : World} {K : PySem.W.Frag} {mg : Str → Option Value} {base : Heap}
theorem ok_areD {f : Addr} {fd : FuncData} {k : Nat} (F : Fun K "_are_arrows" "_are_arrows" sAreArrows f fd) (T : Txt mg)
    (C__is_place : Cal P w K mg base k "_is_place" ["number"] spPlace) (C_is_sign : Cal P w K mg base k "is_sign" ["text"] spSign) : FnOk P w K mg base CX0 (k + 1) f fd ["arrows"] (spP K RAre) := by
  refine F.ok sc__are_arrows (fun vs H Q E h => ?_) (fun cdv A outer s H vs Q E hr h => ?_)
  · obtain ⟨ds, d, hd, ⟨ar, _, rfl, _⟩, _⟩ := h
    exact hd.length
  · obtain ⟨ds, d, hd, ⟨ar, hsh, rfl, rfl⟩, q⟩ := h
    obtain ⟨v0, rfl, h0⟩ := dps1 hd
    have hz : ar.length ≤ 40000 := by have := hsh.1; omega
    refine ⟨_, (pss_cons (ps_if (pt_cmpR op_gt (pe_callB call_len (by rfl) T.m_len PySem.boot_len (pa_cons (pv 0) pa_nil)) (pe_globI (by rfl) T.e_MOST_ARROWS) (nomark _))
    (pss_one (ps_ret pe_bl)) pss_nil)
    (pss_cons (ps_if (pt_not (pt_val (pe_callB (cr_all rfl) (by rfl) T.m_all (by decide +kernel) (pa_cons (pe_lc (own := [("place", 2), ("sign", 3), ("to", 4)]) (g := (gTup K 3 (gCons (gName 2) (gCons (gName 3) (gCons (gName 4) gNil))))) (by rfl) sc__are_arrows.nd (pi_tup (pv 0)) (blkOk_by (own := [("place", 2), ("sign", 3), ("to", 4)]) (N := ["arrows", "heads", "place", "sign", "to", "_", "head", "following"]) (sc := defScope sAreArrows) (by decide +kernel)) (fun _ _ _ _ _ => (pg_tup rfl (pgs_cons (pg_name (i := 2) sc__are_arrows.nd rfl (.inl rfl)) (pgs_cons (pg_name (i := 3) sc__are_arrows.nd rfl (.inl rfl)) (pgs_cons (pg_name (i := 4) sc__are_arrows.nd rfl (.inl rfl)) pgs_nil))))) (fun _ _ _ _ _ => pts_nil) (fun _ _ _ _ _ => (pe_and (pe_callC C__is_place hr (by rfl) (pa_cons (pv 2) pa_nil)) (pe_and (pe_callC C_is_sign hr (by rfl) (pa_cons (pv 3) pa_nil)) (pe_one (pe_callC C__is_place hr (by rfl) (pa_cons (pv 4) pa_nil))))))) pa_nil))))
    (pss_one (ps_ret pe_bl)) pss_nil)
    (pss_cons (ps_setLc (i := 1) (own := [("place", 2), ("sign", 3), ("_", 5)]) (g := (gTup K 3 (gCons (gName 2) (gCons (gName 3) (gCons (gName 5) gNil))))) (by rfl) sc__are_arrows.nd rfl rfl (sw_true rfl rfl rfl (by decide +kernel)) (pi_tup (pv 0)) (blkOk_by (own := [("place", 2), ("sign", 3), ("_", 5)]) (N := ["arrows", "heads", "place", "sign", "to", "_", "head", "following"]) (sc := defScope sAreArrows) (by decide +kernel)) (fun _ _ _ _ _ => (pg_tup rfl (pgs_cons (pg_name (i := 2) sc__are_arrows.nd rfl (.inl rfl)) (pgs_cons (pg_name (i := 3) sc__are_arrows.nd rfl (.inl rfl)) (pgs_cons (pg_name (i := 5) sc__are_arrows.nd rfl (.inl rfl)) pgs_nil))))) (fun _ _ _ _ _ => pts_nil) (fun _ _ _ _ _ => (pe_tup (pa_cons (pv 2) (pa_cons (pv 3) pa_nil)))))
    (pss_one (ps_ret (pe_callB (cr_all rfl) (by rfl) T.m_all (by decide +kernel) (pa_cons (pe_lc (own := [("head", 6), ("following", 7)]) (g := (gTup K 2 (gCons (gName 6) (gCons (gName 7) gNil)))) (by rfl) sc__are_arrows.nd (pi_zip (by rfl) T.m_zip (pa_cons (pv 1) (pa_cons (pe_slice sl_list (pv 1) (po_some pe_int) po_none) pa_nil))) (blkOk_by (own := [("head", 6), ("following", 7)]) (N := ["arrows", "heads", "place", "sign", "to", "_", "head", "following"]) (sc := defScope sAreArrows) (by decide +kernel)) (fun _ _ _ _ _ => (pg_tup rfl (pgs_cons (pg_name (i := 6) sc__are_arrows.nd rfl (.inl rfl)) (pgs_cons (pg_name (i := 7) sc__are_arrows.nd rfl (.inl rfl)) pgs_nil)))) (fun _ _ _ _ _ => pts_nil) (fun _ _ _ _ _ => (pe_cmpR (show OpR _ _ (rLtIS K) from op_ltIS hr.units0) (pv 6) (pv 7) (nomark _)))) pa_nil))))))), ?_⟩
    refine Evl.q_when (b := decide (((ar.length : Nat) : Int) > 9)) (et_test (ev_op (ev_is (ev_lenD (ed_var rfl h0) (.inr rfl)) (by rw [List.length_map])) ev_c rv_I0)) (fun hb H1 e1 => ?_) fun hb H1 e1 => ?_
    · refine q (.bl false) H1 e1 ?_
      unfold areArr
      rw [if_pos (of_decide_eq_true hb)]
      exact .bl false
    · have h0 := dp_same e1 h0
      have hb : ¬ (9 : Int) < (ar.length : Nat) := of_decide_eq_false hb
      refine Evl.q_when (b := !(ar.map okA).all id) (et_not (et_B (ev_allD (bs := ar.map okA) (EvN.list ?_)))) (fun hb2 H2 e2 => ?_) fun hb2 H2 e2 => ?_
      · rw [List.map_map]
        refine en_map ar dA _ (ei_tup (ed_var rfl h0)) hz (fun x _ => by show fz (PyData.bool _) = true; unfold fz; rfl) fun i x H5 y hx e5 hdx R kk => tg3 hdx fun u1 u2 u3 a1 a2 a3 => ?_
        obtain rfl := dp_int a1
        obtain rfl := dp_str a2
        obtain rfl := dp_int a3
        exact kk _ rfl (ed_bl (ev_andV (ev_call (ea_cons (ev_var rfl) ea_nil) fun H2 Q2 _ q2 => ⟨_, rfl, q2⟩) fun _ => ev_andV (ev_call (ea_cons (ev_var rfl) ea_nil) fun H2 Q2 _ q2 => ⟨_, rfl, hsh.2 x (List.mem_of_getElem? hx), q2⟩) fun _ => ev_call (ea_cons (ev_var rfl) ea_nil) fun H2 Q2 _ q2 => ⟨_, rfl, q2⟩))
      · have hb3 : (ar.map okA).all id = false := Bool.not_eq_true' _ ▸ hb2
        refine q (.bl false) H2 (e1.trans e2) ?_
        unfold areArr
        rw [if_neg hb, if_pos hb3]
        exact .bl false
      · have hb3 : ¬ (ar.map okA).all id = false := fun z => by
          rw [z] at hb2
          cases hb2
        have h0 := dp_same e2 h0
        refine sd_asg (K := K) (EvN.list (ds := ar.map dH) (en_map ar dA dH (ei_tup (ed_var rfl h0)) hz (fun x _ => fz_dH x) fun i x H5 y hx e5 hdx R kk => tg3 hdx fun u1 u2 u3 a1 a2 a3 => ?_)) fun w1 H3 e3 g1 => ?_
        · exact kk _ rfl (ed_tup (eds_cons (ed_var rfl a1) (eds_cons (ed_var rfl a2) eds_nil)) (by show 2 ≤ 100000; decide))
        · dsimp only
          refine sd_ret (K := K) (ed_bl (ev_allD (bs := (ar.zip (ar.drop 1)).map ltP) (EvN.list ?_))) fun v H4 e4 hv => ?_
          · rw [List.map_map]
            refine en_map (ar.zip (ar.drop 1)) (fun p => .tuple [dH p.1, dH p.2]) _ ?_ (by rw [List.length_zip]; omega) (fun x _ => by show fz (PyData.bool _) = true; unfold fz; rfl) fun i x H5 y hx e5 hdx R kk => tg2 hdx fun u1 u2 a1 a2 => ?_
            · rw [← zip_heads]
              exact ei_zip (tx := tNil) (ed_var rfl g1) (en_slFromL (k := 1) (ed_var rfl g1) ev_c).list (.inr trivial)
            · exact kk _ rfl (ed_bl (ev_ltISD (ed_var rfl a1) (ed_var rfl a2)))
          · refine q v H4 (((e1.trans e2).trans e3).trans e4) ?_
            unfold areArr
            rw [if_neg hb, if_neg hb3, rise_zip]
            exact hv
theorem ok_is_writerD {f : Addr} {fd : FuncData} {k : Nat} (F : Fun K "is_writer" "is_writer" sIsWriter f fd) (T : Txt mg) (C_is_name : Cal P w K mg base k "is_name" ["text"] spName)
    (C__are_arrows : Cal P w K mg base k "_are_arrows" ["arrows"] (spP K RAre)) (C__is_count : Cal P w K mg base k "_is_count" ["number"] spCount) : FnOk P w K mg base CX0 (k + 1) f fd ["thing"] (spP K RIsW) := by
  refine F.ok sc_is_writer (fun vs H Q E h => ?_) (fun cdv A outer s H vs Q E hr h => ?_)
  · obtain ⟨ds, d, hd, ⟨w, _, _, rfl, _⟩, _⟩ := h
    exact hd.length
  · obtain ⟨ds, d, hd, ⟨w, hsh, hz, rfl, rfl⟩, q⟩ := h
    obtain ⟨v0, rfl, h0⟩ := dps1 hd
    refine ⟨_, (pss_cons (ps_if (pt_cmpR op_ne (pe_callB call_len (by rfl) T.m_len PySem.boot_len (pa_cons (pv 0) pa_nil)) pe_int (nomark _))
    (pss_one (ps_ret pe_bl)) pss_nil)
    (pss_cons (ps_asg (pv 0) (pg_tup rfl (pgs_cons (pg_name (i := 1) sc_is_writer.nd rfl (.inl rfl)) (pgs_cons (pg_name (i := 2) sc_is_writer.nd rfl (.inl rfl)) (pgs_cons (pg_name (i := 3) sc_is_writer.nd rfl (.inl rfl)) (pgs_cons (pg_name (i := 4) sc_is_writer.nd rfl (.inl rfl)) pgs_nil))))))
    (pss_one (ps_ret (pe_and (pe_callC C_is_name hr (by rfl) (pa_cons (pv 1) pa_nil)) (pe_and (pe_callC C__are_arrows hr (by rfl) (pa_cons (pv 2) pa_nil)) (pe_and (pe_callC C__is_count hr (by rfl) (pa_cons (pv 3) pa_nil)) (pe_one (pe_callC C__is_count hr (by rfl) (pa_cons (pv 4) pa_nil)))))))))), ?_⟩
    refine Evl.q_when (b := !decide (V.int (([PyData.str w.1, .tuple (w.2.1.map dA), .int w.2.2.1, .int w.2.2.2].length : Nat) : Int) = V.int 4)) (et_test (ev_op (ev_lenD (ed_var rfl h0) (.inr rfl)) ev_c (rv_ne rfl))) (fun hb H1 e1 => ?_) fun hb H1 e1 => ?_
    · cases hb
    · have h0 := dp_same e1 h0
      refine sd_un4 (ed_var rfl h0) fun w0 w1 w2 w3 H2 e2 g0 g1 g2 g3 => ?_
      obtain rfl := dp_str g0
      obtain rfl := dp_int g2
      obtain rfl := dp_int g3
      dsimp only
      refine sd_ret (K := K) (ed_bl (ev_andV (ev_call (ea_cons (ev_var rfl) ea_nil) fun H2 Q2 _ q2 => ⟨_, rfl, hz, q2⟩) fun _ => ev_andV (ev_bl (ed_call (eds_cons (ed_var rfl g1) eds_nil) ⟨w.2.1, hsh, rfl, rfl⟩)) fun _ => ev_andV (ev_call (ea_cons (ev_var rfl) ea_nil) fun H2 Q2 _ q2 => ⟨_, rfl, q2⟩) fun _ => ev_call (ea_cons (ev_var rfl) ea_nil) fun H2 Q2 _ q2 => ⟨_, rfl, q2⟩)) fun v H3 e3 hv => q v H3 ((e1.trans e2).trans e3) hv
end
end Ink
namespace Ink
open PySem PySem.Spec PyProof.Rows L2 Evl
/-! ### companies as objects -/
/-- all but lists stay -/
def Fr (H H' : Hp) : Prop := ∀ b o, H b = some o → (∀ xs, o ≠ .lst xs) → H' b = some o
theorem Fr.refl (H : Hp) : Fr H H := fun _ _ e _ => e
theorem Fr.trans {H H1 H2 : Hp} (a : Fr H H1) (b : Fr H1 H2) : Fr H H2 := fun c o e n => b c o (a c o e n) n
theorem Fr.of {H H' : Hp} (e : Same H H') : Fr H H' := fun b o h _ => e b o h
theorem Fr.keep {a l : Addr} {H H' : Hp} (b : BagAt H a l) (k : Keep a H H') : Fr H H' := fun c o e n => k c o (fun z => by
  obtain ⟨ns, p, h, s, h1, _⟩ := b
  rw [z, h1] at e
  exact n _ (Option.some.inj e).symm) e
theorem Fr.lst {H : Hp} {p : Addr} {xs : List V} {o : HO} (h : H p = some (.lst xs)) : Fr H (upd H p o) := fun c o' e n => by
  rw [upd_ne (fun z => by rw [z, h] at e; exact n _ (Option.some.inj e).symm)]
  exact e
theorem Fr.tk {K : PySem.W.Frag} {H H' : Hp} (f : Fr H H') : TupK K H H' := fun b xs h => by
  rcases h with (h | ⟨o, h⟩) | h
  · exact .inl (.inl (f _ _ h fun _ z => by cases z))
  · exact .inl (.inr ⟨o, f _ _ h fun _ z => by cases z⟩)
  · exact .inr h
/-- all but what is kept of dicts stays -/
def KX (H H' : Hp) : Prop := ∀ b o, H b = some o → (∀ f, o ≠ .ext f) → H' b = some o
theorem KX.refl (H : Hp) : KX H H := fun _ _ e _ => e
theorem KX.trans {H H1 H2 : Hp} (a : KX H H1) (b : KX H1 H2) : KX H H2 := fun c o e n => b c o (a c o e n) n
theorem KX.of {H H' : Hp} (e : Same H H') : KX H H' := fun b o h _ => e b o h
theorem KX.l {K : PySem.W.Frag} {H H' : Hp} (f : KX H H') : ∀ b xs, SqL K H b xs → SqL K H' b xs := fun b xs h => by
  rcases h with (h | ⟨o, h⟩) | h
  · exact .inl (.inl (f _ _ h fun _ z => by cases z))
  · exact .inl (.inr ⟨o, f _ _ h fun _ z => by cases z⟩)
  · exact .inr h
theorem KX.t {K : PySem.W.Frag} {H H' : Hp} (f : KX H H') : ∀ b xs, SqT K H b xs → SqT K H' b xs := fun b xs h => by
  rcases h with (h | ⟨o, h⟩) | h
  · exact .inl (.inl (f _ _ h fun _ z => by cases z))
  · exact .inl (.inr ⟨o, f _ _ h fun _ z => by cases z⟩)
  · exact .inr h
theorem KX.dp {K : PySem.W.Frag} {H H' : Hp} {v : V} {d : PyData} (f : KX H H') (h : Dp K H v d) : Dp K H' v d := dp_up f.l f.t d v h
theorem KX.dps {K : PySem.W.Frag} {H H' : Hp} {vs : List V} {ds : List PyData} (f : KX H H') (h : DpAll K H vs ds) : DpAll K H' vs ds := dps_up f.l f.t ds vs h
theorem KX.lst {H H' : Hp} {p : Addr} {xs : List V} (f : KX H H') (h : H p = some (.lst xs)) : H' p = some (.lst xs) := f _ _ h fun _ z => by cases z
theorem KX.bag {H H' : Hp} {a l : Addr} (f : KX H H') (b : BagAt H a l) : BagAt H' a l := by
  obtain ⟨ns, p, h, s, h1, h2, r⟩ := b
  exact ⟨ns, p, h, s, f.lst h1, f.lst h2, r⟩
structure CoC (K : PySem.W.Frag) (C : Addr) : Prop where
  cl : Cls K C
  nW : NoAttr K C "_writers"
  nF : NoAttr K C "_found"
theorem kwf : ¬ (("_writers" : Str) = "_found") := by decide +kernel
def coF (tw d : Addr) : List (Str × V) := putF "_found" (.ref d) (putF "_writers" (.ref tw) [])
theorem coF_eq (tw d : Addr) : coF tw d = ([("_writers", V.ref tw), ("_found", V.ref d)] : List (Str × V)) := by
  show (if ("_writers" : Str) = "_found" then [(("_writers" : Str), V.ref d)] else (("_writers" : Str), V.ref tw) :: putF "_found" (V.ref d) []) = _
  rw [if_neg kwf]
  rfl
theorem coF_w (tw d : Addr) : (coF tw d).lookup ("_writers" : Str) = some (.ref tw) := by
  unfold coF
  rw [lookup_putF, if_neg kwf, lookup_putF, if_pos rfl]
theorem coF_f (tw d : Addr) : (coF tw d).lookup ("_found" : Str) = some (.ref d) := by
  unfold coF
  rw [lookup_putF, if_pos rfl]
theorem coF_no (tw d : Addr) {m : Str} (h1 : ¬ m = "_found") (h2 : ¬ m = "_writers") : (coF tw d).lookup m = none := by
  unfold coF
  rw [lookup_putF, if_neg h1, lookup_putF, if_neg h2]
  rfl
/-- a stand as a key -/
def kS (s : Std) : NK := .tup [.tup (s.1.map .num), .tup (s.2.1.map .num), .tup [.num s.2.2.1, .num s.2.2.2]]
theorem datas_num : ∀ ns : List Int, NestedKey.datas (ns.map .num) = ns.map PyData.int
  | [] => by
    simp only [List.map_nil]
    unfold NestedKey.datas
    rfl
  | n :: ns => by
    simp only [List.map_cons]
    unfold NestedKey.datas NestedKey.data
    rw [datas_num ns]
theorem depth_num : ∀ ns : List Int, NestedKey.depthAll (ns.map .num) ≤ 1
  | [] => by
    simp only [List.map_nil, NestedKey.depthAll]
    decide
  | n :: ns => by
    have := depth_num ns
    simp only [List.map_cons, NestedKey.depthAll, NestedKey.depth]
    omega
theorem kS_data (s : Std) : (kS s).data = dS s := by
  unfold kS dS dI
  simp only [NestedKey.data, NestedKey.datas, datas_num]
theorem kS_depth (s : Std) : (kS s).depth ≤ 8 := by
  have h1 := depth_num s.1
  have h2 := depth_num s.2.1
  unfold kS
  simp only [NestedKey.depth, NestedKey.depthAll]
  omega
theorem num_inj : ∀ {a b : List Int}, a.map NestedKey.num = b.map NestedKey.num → a = b
  | [], [], _ => rfl
  | [], _ :: _, h => by cases h
  | _ :: _, [], h => by cases h
  | x :: a, y :: b, h => by
    rw [List.map_cons, List.map_cons] at h
    injection h with h1 h2
    injection h1 with h1
    rw [h1, num_inj h2]
theorem kS_inj {s s' : Std} (h : kS s = kS s') : s = s' := by
  obtain ⟨p, q, r, t⟩ := s
  obtain ⟨p', q', r', t'⟩ := s'
  unfold kS at h
  injection h with h
  injection h with h1 h
  injection h with h2 h
  injection h with h3 _
  injection h1 with h1
  injection h2 with h2
  injection h3 with h3
  injection h3 with h3 h4
  injection h4 with h4 _
  injection h3 with h3
  injection h4 with h4
  have h1 := num_inj h1
  have h2 := num_inj h2
  subst h1 h2 h3 h4
  rfl
theorem key_at {K : PySem.W.Frag} {H : Hp} {v : V} {s : Std} (h : Dp K H v (dS s)) : KeyAt K H v (kS s) := ⟨by rw [kS_data]; exact h, kS_depth s, _, rfl⟩
/-- what it keeps are steps of stands -/
def Cached (K : PySem.W.Frag) (H : Hp) (m : List Wr) (kvs : List (NK × V)) : Prop := ∀ kv ∈ kvs, ∃ s, kv.1 = kS s ∧ Dp K H kv.2 (.tuple ((stepsOf m s).map dStep))
theorem fz_steps (m : List Wr) (s : Std) : fz (.tuple ((stepsOf m s).map dStep)) = true := by
  unfold fz
  exact fz_map fun x _ => fz_dStep x
theorem Cached.up {K : PySem.W.Frag} {H H' : Hp} {m : List Wr} {kvs : List (NK × V)} (t : TupK K H H') (h : Cached K H m kvs) : Cached K H' m kvs := fun kv hk => by
  obtain ⟨s, e, hd⟩ := h kv hk
  exact ⟨s, e, dp_tk t (fz_steps m s) hd⟩
def CoAt (P : Program) (w : World) (K : PySem.W.Frag) (C : Addr) (H : Hp) (c : Addr) (m : List Wr) (n : Nat) : Prop :=
  ∃ dx tw d kvs, H c = some (.ins C dx (coF tw d)) ∧ Dp K H (.ref tw) (dMt m) ∧ DicAt P w K H d kvs ∧ Cached K H m kvs ∧ kvs.length ≤ n
theorem CoAt.fr {P : Program} {w : World} {K : PySem.W.Frag} {C : Addr} {H H' : Hp} {c : Addr} {m : List Wr} {n : Nat} (f : Fr H H') (h : CoAt P w K C H c m n) : CoAt P w K C H' c m n := by
  obtain ⟨dx, tw, d, kvs, h1, h2, h3, h4, h5⟩ := h
  refine ⟨dx, tw, d, kvs, f _ _ h1 (fun _ z => by cases z), dp_tk f.tk (fz_dMt m) h2, h3.up ?_ f.tk, h4.up f.tk, h5⟩
  obtain ⟨xs, e, _⟩ := h3
  rw [e]
  exact f _ _ e dicO_ne.1
theorem look_new {kvs : List (NK × V)} {k : NK} {v : V} (h : lookN kvs k = none) : putN kvs k v = kvs ++ [(k, v)] ∧ lookN (putN kvs k v) k = some v := by
  have e : putN kvs k v = kvs ++ [(k, v)] := by
    unfold putN
    rw [h]
    rfl
  refine ⟨e, ?_⟩
  rw [e]
  unfold lookN at h ⊢
  rw [List.find?_append]
  cases hf : kvs.find? (fun kv => decide (kv.1 = k)) with
  | some x =>
    rw [hf] at h
    cases h
  | none => simp
theorem look_in {kvs : List (NK × V)} {k : NK} {v : V} (h : lookN kvs k = some v) : (k, v) ∈ kvs := by
  unfold lookN at h
  cases hf : kvs.find? (fun kv => decide (kv.1 = k)) with
  | none =>
    rw [hf] at h
    cases h
  | some x =>
    rw [hf] at h
    have e := Option.some.inj h
    have e1 := of_decide_eq_true (List.find?_some (p := fun kv : NK × V => decide (kv.1 = k)) hf)
    have e2 := List.mem_of_find?_eq_some hf
    have z : x = (k, v) := by
      obtain ⟨x1, x2⟩ := x
      exact Prod.ext e1 e
    rw [← z]
    exact e2
/-! ### readings with fields -/
section
variable {P : Program} {w : World} {K : PySem.W.Frag} {σ : L2.St} {H : Hp} {ta tb te : TE} {v : V} {ds : List PyData}
theorem ev_fld {c C dx : Addr} {fs : List (Str × V)} {f : Str} (ha : Ev ta σ H (.ref c)) (hc : H c = some (.ins C dx fs)) (cl : Cls K C) (no : NoAttr K C f) (l : fs.lookup f = some v) : Ev (tFld K ta f) σ H v := fun H1 e Q q =>
  ha H1 e _ fun H2 e2 => ⟨c, C, dx, fs, v, rfl, e2 _ _ (e _ _ hc), cl, no, l, q H2 e2⟩
theorem ev_notinN {d : Addr} {kvs : List (NK × V)} {k : NK} (ha : Ev ta σ H v) (hv : KeyAt K H v k) (hb : Ev tb σ H (.ref d)) (hd : DicAt P w K H d kvs) : Ev (tOp (rInN P w K true) ta tb) σ H (.bl (!(lookN kvs k).isSome)) := fun H1 e Q q =>
  ha H1 e _ fun H2 e2 => hb H2 (e.trans e2) _ fun H3 e3 => ⟨k, d, kvs, rfl, hv.up fun _ _ h => ex_t ((e.trans e2).trans e3) h, hd.same ((e.trans e2).trans e3), q H3 (e2.trans e3)⟩
theorem ev_dget {d : Addr} {kvs : List (NK × V)} {k : NK} {u : V} (hb : Ev tb σ H (.ref d)) (hd : DicAt P w K H d kvs) (ha : Ev ta σ H v) (hv : KeyAt K H v k) (l : lookN kvs k = some u) : Ev (tDGetN P w K tb ta) σ H u := fun H1 e Q q =>
  hb H1 e _ fun H2 e2 => ha H2 (e.trans e2) _ fun H3 e3 => ⟨d, kvs, k, u, rfl, hd.same ((e.trans e2).trans e3), hv.up fun _ _ h => ex_t ((e.trans e2).trans e3) h, l, q H3 (e2.trans e3)⟩
theorem inV_strs (z : Str) : ∀ zs : List Str, inV (.str z) (zs.map V.str) = decide (z ∈ zs)
  | [] => rfl
  | y :: zs => by
    have ih := inV_strs z zs
    unfold inV at ih ⊢
    rw [List.map_cons, List.any_cons, ih]
    show ((y == z) || decide (z ∈ zs)) = decide (z ∈ y :: zs)
    rw [Bool.eq_iff_iff]
    simp only [Bool.or_eq_true, beq_iff_eq, decide_eq_true_eq, List.mem_cons]
    exact or_congr ⟨Eq.symm, Eq.symm⟩ Iff.rfl
theorem dps_str : ∀ {vs : List V} {zs : List Str}, DpAll K H vs (zs.map PyData.str) → vs = zs.map V.str
  | _, [], h => by cases h; rfl
  | _, z :: zs, h => by
    cases h with
    | cons h t =>
      rw [dp_str h, dps_str t]
      rfl
theorem ev_inS {z : Str} {zs : List Str} {neg : Bool} {d : PyData} (ha : Ev ta σ H (.str z)) (hb : EvD K tb σ H d) (hd : d = .list (zs.map PyData.str) ∨ d = .tuple (zs.map PyData.str)) : Ev (tOp (rIn K neg) ta tb) σ H (.bl (if neg then !decide (z ∈ zs) else decide (z ∈ zs))) := fun H1 e Q q =>
  ha H1 e _ fun H2 e2 => hb H2 (e.trans e2) _ fun v H3 e3 hv => by
    have fl : (zs.map V.str).all flatV = true := List.all_eq_true.mpr fun x hx => by
      obtain ⟨m, _, rfl⟩ := List.mem_map.mp hx
      rfl
    rcases hd with rfl | rfl
    · obtain ⟨p, xs, rfl, hs, hxs⟩ := dp_lst hv
      rw [dps_str hxs] at hs
      exact ⟨p, _, rfl, .inl hs, rfl, fl, by rw [inV_strs]; exact q H3 (e2.trans e3)⟩
    · obtain ⟨p, xs, rfl, hs, hxs⟩ := dp_tup hv
      rw [dps_str hxs] at hs
      exact ⟨p, _, rfl, .inr hs, rfl, fl, by rw [inV_strs]; exact q H3 (e2.trans e3)⟩
/-- a loop that leaves all as it stands -/
theorem sd_forS {D : Ends} {tu : TS} {ti : TI} {g : TG} (hi : EvI K ti σ H ds) (Pv : Hp → Nat → L2.St → Hp → Prop) (h0 : ∀ H2, Ex H H2 → Pv H2 0 σ H2) (hT : ∀ H2 i σ' H', Pv H2 i σ' H' → Ex H2 H')
    (hs : ∀ H2 i d x σ' H' H'', Ex H H2 → ds[i]? = some d → Pv H2 i σ' H' → Ex H' H'' → Dp K H'' x d → g x σ' H'' fun σ2 H3 => tu { D with nx := Pv H2 (i + 1), ct := Pv H2 (i + 1), bk := D.nx } σ2 H3)
    (hd : ∀ H2 σ' H', Ex H H2 → Pv H2 ds.length σ' H' → D.nx σ' H') : tFor ti g tu D σ H :=
  hi H (Ex.refl H) _ fun J H2 e2 W => for_it W (Pv H2) (h0 H2 e2) (fun i σ' H' _ hP => hT H2 i σ' H' hP) (fun i x σ' Ha Hb hi hP hy => by
    obtain ⟨e3, d, h1, h2⟩ := hy
    exact hs H2 i d x σ' Ha Hb e2 h1 hP e3 h2) (fun σ' H' hP => hd H2 σ' H' e2 hP)
end
end Ink
namespace Ink
open PySem PySem.Spec PyProof.Rows L2 Evl
def RNeed (c : List PyData → PyData) : List PyData → PyData → Prop := fun ds d => ∃ m, GoodM m ∧ ds = [c (m.map dW)] ∧ d = .none
def beginS (m : List Wr) : Std := (List.replicate m.length 0, List.replicate m.length 0, -1, 0)
def spInit (P : Program) (w : World) (K : PySem.W.Frag) (C : Addr) (c : List PyData → PyData) : Sp := fun vs H Q _ => ∃ p dx v m, vs = [.ref p, v] ∧ H p = some (.ins C dx []) ∧ Dp K H v (c (m.map dW)) ∧ GoodM m ∧
  ∀ H', (∀ b o, H b = some o → b ≠ p → H' b = some o) → CoAt P w K C H' p m 0 → Q .non H'
def spBegin (P : Program) (w : World) (K : PySem.W.Frag) (C : Addr) : Sp := fun vs H Q _ => ∃ c m n, vs = [.ref c] ∧ CoAt P w K C H c m n ∧ m.length ≤ 3 ∧ ∀ v H', Same H H' → Dp K H' v (dS (beginS m)) → Q v H'
def spSteps (P : Program) (w : World) (K : PySem.W.Frag) (C : Addr) : Sp := fun vs H Q _ => ∃ c m n v s, vs = [.ref c, v] ∧ CoAt P w K C H c m n ∧ n < 90000 ∧ GoodM m ∧ Fits m s ∧ Dp K H v (dS s) ∧
  ∀ p vs H', H p = none → KX H H' → CoAt P w K C H' c m (n + 1) → H' p = some (.lst vs) → DpAll K H' vs ((stepsOf m s).map dStep) → Q (.ref p) H'
theorem sd_fld {K : PySem.W.Frag} {σ : L2.St} {H : Hp} {ta tv : TE} {f : Str} {d : PyData} {D : Ends} (h : EvD K tv σ H d)
    (k : ∀ y H1, Ex H H1 → Dp K H1 y d → ta σ H1 fun x H2 => ∃ a C dx fs, x = .ref a ∧ H2 a = some (.ins C dx fs) ∧ Cls K C ∧ NoAttr K C f ∧ fs.length < 1000 ∧ D.nx σ (upd H2 a (.ins C dx (putF f y fs)))) : sFld K ta tv f D σ H := h H (.refl H) _ k
theorem GoodM.isw {m : List Wr} (g : GoodM m) {x : Wr} (h : x ∈ m) : ShortA x.2.1 ∧ x.1.length ≤ 1000 ∧ isWr x.1 x.2.1 x.2.2.1 x.2.2.2 = true := by
  have w := g.wr x h
  refine ⟨w.short, ?_, w.is⟩
  have := w.name.2.1
  omega
theorem names_get {m : List Wr} {i : Nat} {d : PyData} (h : (enumD ((m.map (·.1)).map PyData.str))[i]? = some d) : i < m.length ∧ d = .tuple [.int (i : Int), .str (wr m i).1] := by
  have hi : i < m.length := by
    have := (List.getElem?_eq_some_iff.mp h).1
    rw [enum_len, List.length_map, List.length_map] at this
    exact this
  have e : ((m.map (·.1)).map PyData.str)[i]? = some (.str (wr m i).1) := by
    rw [List.getElem?_map, List.getElem?_map, wr_get hi]
    rfl
  rw [enumD_get e] at h
  exact ⟨hi, (Option.some.inj h).symm⟩
theorem name_not {m : List Wr} (g : GoodM m) {i : Nat} (hi : i < m.length) : (wr m i).1 ∉ (m.map (·.1)).take i := by
  have nd := g.nd
  have e : (m.map (·.1))[i]? = some (wr m i).1 := by
    rw [List.getElem?_map, wr_get hi]
    rfl
  obtain ⟨h1, h2⟩ := List.getElem?_eq_some_iff.mp e
  intro hm
  obtain ⟨j, hj, ej⟩ := List.mem_take_iff_getElem.mp hm
  rw [← h2] at ej
  exact (List.pairwise_iff_getElem.mp nd) j i (by omega) h1 (by omega) ej
section
variable {P : Program} {w : World} {K : PySem.W.Frag} {mg : Str → Option Value} {base : Heap}
theorem ok_needL {f : Addr} {fd : FuncData} {k : Nat} (F : Fun K "_need_company" "_need_company" sNeedCompany f fd) (T : Txt mg) (C_is_writer : Cal P w K mg base k "is_writer" ["thing"] (spP K RIsW)) : FnOk P w K mg base CX0 (k + 1) f fd ["writers"] (spP K (RNeed .list)) := by
  refine F.ok sc__need_company (fun vs H Q E h => ?_) (fun cdv A outer s H vs Q E hr h => ?_)
  · obtain ⟨ds, d, hd, ⟨m, _, rfl, _⟩, _⟩ := h
    exact hd.length
  · obtain ⟨ds, d, hd, ⟨m, g, rfl, rfl⟩, q⟩ := h
    obtain ⟨v0, rfl, h0⟩ := dps1 hd
    have l3 := g.len
    refine ⟨_, (pss_cons (ps_for PassesOwn.never rfl (pi_enum (by rfl) T.m_enumerate (pa_cons (pv 0) pa_nil)) (pg_tup rfl (pgs_cons (pg_name (i := 1) sc__need_company.nd rfl (.inl rfl)) (pgs_cons (pg_name (i := 2) sc__need_company.nd rfl (.inl rfl)) pgs_nil)))
    (pss_one (ps_if (pt_not (pt_val (pe_callC C_is_writer hr (by rfl) (pa_cons (pv 2) pa_nil))))
    (pss_one ps_never) pss_nil)))
    (pss_cons (ps_setLc (i := 3) (own := [("writer", 2)]) (g := (gName 2)) (by rfl) sc__need_company.nd rfl rfl (sw_true rfl rfl rfl (by decide +kernel)) (pi_list (pv 0)) (blkOk_by (own := [("writer", 2)]) (N := ["writers", "at", "writer", "names", "name"]) (sc := defScope sNeedCompany) (by decide +kernel)) (fun _ _ _ _ _ => (pg_name (i := 2) sc__need_company.nd rfl (Or.inl rfl))) (fun _ _ _ _ _ => pts_nil) (fun _ _ _ _ _ => (pe_ix (show IxR _ (rIxT K) from ix_tup) (pv 2) pe_int (fun _ _ => rfl))))
    (pss_cons (ps_for PassesOwn.never rfl (pi_enum (by rfl) T.m_enumerate (pa_cons (pv 3) pa_nil)) (pg_tup rfl (pgs_cons (pg_name (i := 1) sc__need_company.nd rfl (.inl rfl)) (pgs_cons (pg_name (i := 4) sc__need_company.nd rfl (.inl rfl)) pgs_nil)))
    (pss_one (ps_if (pt_cmpR (show OpR _ _ (rIn K false) from op_in_seq) (pv 4) (pe_slice sl_list (pv 3) po_none (po_some (pv 1))) (by rfl))
    (pss_one ps_never) pss_nil)))
    (pss_one (ps_if (pt_cmpR op_gt (pe_callB call_len (by rfl) T.m_len PySem.boot_len (pa_cons (pv 0) pa_nil)) (pe_globI (by rfl) T.e_MOST_WRITERS) (nomark _))
    (pss_one ps_never) pss_nil))))), ?_⟩
    refine sd_forS (K := K) (ei_enum (ed_var rfl h0)) (fun H2 i σ' H' => (∃ y1 y2, σ' = [some v0, y1, y2, none, none]) ∧ Ex H2 H') (fun H2 e2 => ⟨⟨none, none, rfl⟩, .refl _⟩) (fun H2 i σ' H' hP => hP.2) (fun H2 i d x σ' Ha Hb e2 hd hP eab hx => ?_) (fun H2 σ' H' e2 hP => ?_)
    · obtain ⟨⟨y1, y2, rfl⟩, ex⟩ := hP
      obtain ⟨hi, rfl⟩ := enum_w m hd
      obtain ⟨i1, i2, i3⟩ := g.isw (List.mem_of_getElem? (wr_get hi))
      refine tg2 hx fun u1 u2 a1 a2 => ?_
      refine Evl.s_when (b := !isWr (wr m i).1 (wr m i).2.1 (wr m i).2.2.1 (wr m i).2.2.2) (et_not (et_B (ev_bl (ed_call (eds_cons (ed_var rfl a2) eds_nil) ⟨wr m i, i1, i2, rfl, rfl⟩)))) (fun hb => ?_) fun hb H3 e3 => ⟨⟨_, _, rfl⟩, ex.trans (eab.trans e3)⟩
      rw [i3] at hb
      cases hb
    · obtain ⟨⟨y1, y2, rfl⟩, ex⟩ := hP
      have e1 := e2.trans ex
      have h0 := dp_same e1 h0
      dsimp only
      refine sd_asg (K := K) (EvN.list (ds := (m.map (·.1)).map PyData.str) ?_) fun w1 H3 e3 g1 => ?_
      · rw [List.map_map]
        refine en_map m dW _ (ei_lst (ed_var rfl h0)) (m_le g (by decide)) (fun x _ => by show fz (PyData.str _) = true; unfold fz; rfl) fun j x H5 y hx e5 hdx R kk => ?_
        exact kk _ rfl (ed_ixT (ed_var rfl hdx) ev_c (by decide) rfl)
      · dsimp only
        have e13 := e1.trans e3
        have h0 := dp_same e3 h0
        refine sd_forS (K := K) (ei_enum (ed_var rfl g1)) (fun H2 i σ' H' => (∃ y1 y2 y4, σ' = [some v0, y1, y2, some w1, y4]) ∧ Ex H2 H') (fun H2 e2 => ⟨⟨_, _, _, rfl⟩, .refl _⟩) (fun H2 i σ' H' hP => hP.2) (fun H4 i d x σ' Ha Hb e4 hd hP eab hx => ?_) (fun H4 σ' H5 e4 hP => ?_)
        · obtain ⟨⟨y1, y2, y4, rfl⟩, ex⟩ := hP
          obtain ⟨hi, rfl⟩ := names_get hd
          refine tg2 hx fun u1 u2 a1 a2 => ?_
          obtain rfl := dp_int a1
          obtain rfl := dp_str a2
          have g1 := dp_same ((e4.trans ex).trans eab) g1
          refine Evl.s_when (b := decide ((wr m i).1 ∈ (m.map (·.1)).take i)) (et_test (ev_inS (neg := false) (zs := (m.map (·.1)).take i) (ev_var rfl) (en_slToL (k := i) (ed_var rfl g1) (ev_var rfl)).list (.inl (by rw [List.map_take])))) (fun hb => ?_) fun hb H6 e6 => ⟨⟨_, _, _, rfl⟩, ex.trans (eab.trans e6)⟩
          exact absurd (of_decide_eq_true hb) (name_not g hi)
        · obtain ⟨⟨y1, y2, y4, rfl⟩, ex⟩ := hP
          have e15 := e13.trans (e4.trans ex)
          have h0 := dp_same (e4.trans ex) h0
          refine Evl.s_when (b := decide (((m.length : Nat) : Int) > 3)) (et_test (ev_op (ev_is (ev_lenD (ed_var rfl h0) (.inl rfl)) (by rw [List.length_map])) ev_c rv_I0)) (fun hb => ?_) fun hb H6 e6 => q .non H6 (e15.trans e6) .non
          have := of_decide_eq_true hb
          omega
theorem ok_needT {f : Addr} {fd : FuncData} {k : Nat} (F : Fun K "_need_company" "_need_company" sNeedCompany f fd) (T : Txt mg) (C_is_writer : Cal P w K mg base k "is_writer" ["thing"] (spP K RIsW)) : FnOk P w K mg base CX0 (k + 1) f fd ["writers"] (spP K (RNeed .tuple)) := by
  refine F.ok sc__need_company (fun vs H Q E h => ?_) (fun cdv A outer s H vs Q E hr h => ?_)
  · obtain ⟨ds, d, hd, ⟨m, _, rfl, _⟩, _⟩ := h
    exact hd.length
  · obtain ⟨ds, d, hd, ⟨m, g, rfl, rfl⟩, q⟩ := h
    obtain ⟨v0, rfl, h0⟩ := dps1 hd
    have l3 := g.len
    refine ⟨_, (pss_cons (ps_for PassesOwn.never rfl (pi_enumT (by rfl) T.m_enumerate (pa_cons (pv 0) pa_nil)) (pg_tup rfl (pgs_cons (pg_name (i := 1) sc__need_company.nd rfl (.inl rfl)) (pgs_cons (pg_name (i := 2) sc__need_company.nd rfl (.inl rfl)) pgs_nil)))
    (pss_one (ps_if (pt_not (pt_val (pe_callC C_is_writer hr (by rfl) (pa_cons (pv 2) pa_nil))))
    (pss_one ps_never) pss_nil)))
    (pss_cons (ps_setLc (i := 3) (own := [("writer", 2)]) (g := (gName 2)) (by rfl) sc__need_company.nd rfl rfl (sw_true rfl rfl rfl (by decide +kernel)) (pi_tup (pv 0)) (blkOk_by (own := [("writer", 2)]) (N := ["writers", "at", "writer", "names", "name"]) (sc := defScope sNeedCompany) (by decide +kernel)) (fun _ _ _ _ _ => (pg_name (i := 2) sc__need_company.nd rfl (Or.inl rfl))) (fun _ _ _ _ _ => pts_nil) (fun _ _ _ _ _ => (pe_ix (show IxR _ (rIxT K) from ix_tup) (pv 2) pe_int (fun _ _ => rfl))))
    (pss_cons (ps_for PassesOwn.never rfl (pi_enum (by rfl) T.m_enumerate (pa_cons (pv 3) pa_nil)) (pg_tup rfl (pgs_cons (pg_name (i := 1) sc__need_company.nd rfl (.inl rfl)) (pgs_cons (pg_name (i := 4) sc__need_company.nd rfl (.inl rfl)) pgs_nil)))
    (pss_one (ps_if (pt_cmpR (show OpR _ _ (rIn K false) from op_in_seq) (pv 4) (pe_slice sl_list (pv 3) po_none (po_some (pv 1))) (by rfl))
    (pss_one ps_never) pss_nil)))
    (pss_one (ps_if (pt_cmpR op_gt (pe_callB call_len (by rfl) T.m_len PySem.boot_len (pa_cons (pv 0) pa_nil)) (pe_globI (by rfl) T.e_MOST_WRITERS) (nomark _))
    (pss_one ps_never) pss_nil))))), ?_⟩
    refine sd_forS (K := K) (ei_enumT (ed_var rfl h0)) (fun H2 i σ' H' => (∃ y1 y2, σ' = [some v0, y1, y2, none, none]) ∧ Ex H2 H') (fun H2 e2 => ⟨⟨none, none, rfl⟩, .refl _⟩) (fun H2 i σ' H' hP => hP.2) (fun H2 i d x σ' Ha Hb e2 hd hP eab hx => ?_) (fun H2 σ' H' e2 hP => ?_)
    · obtain ⟨⟨y1, y2, rfl⟩, ex⟩ := hP
      obtain ⟨hi, rfl⟩ := enum_w m hd
      obtain ⟨i1, i2, i3⟩ := g.isw (List.mem_of_getElem? (wr_get hi))
      refine tg2 hx fun u1 u2 a1 a2 => ?_
      refine Evl.s_when (b := !isWr (wr m i).1 (wr m i).2.1 (wr m i).2.2.1 (wr m i).2.2.2) (et_not (et_B (ev_bl (ed_call (eds_cons (ed_var rfl a2) eds_nil) ⟨wr m i, i1, i2, rfl, rfl⟩)))) (fun hb => ?_) fun hb H3 e3 => ⟨⟨_, _, rfl⟩, ex.trans (eab.trans e3)⟩
      rw [i3] at hb
      cases hb
    · obtain ⟨⟨y1, y2, rfl⟩, ex⟩ := hP
      have e1 := e2.trans ex
      have h0 := dp_same e1 h0
      dsimp only
      refine sd_asg (K := K) (EvN.list (ds := (m.map (·.1)).map PyData.str) ?_) fun w1 H3 e3 g1 => ?_
      · rw [List.map_map]
        refine en_map m dW _ (ei_tup (ed_var rfl h0)) (m_le g (by decide)) (fun x _ => by show fz (PyData.str _) = true; unfold fz; rfl) fun j x H5 y hx e5 hdx R kk => ?_
        exact kk _ rfl (ed_ixT (ed_var rfl hdx) ev_c (by decide) rfl)
      · dsimp only
        have e13 := e1.trans e3
        have h0 := dp_same e3 h0
        refine sd_forS (K := K) (ei_enum (ed_var rfl g1)) (fun H2 i σ' H' => (∃ y1 y2 y4, σ' = [some v0, y1, y2, some w1, y4]) ∧ Ex H2 H') (fun H2 e2 => ⟨⟨_, _, _, rfl⟩, .refl _⟩) (fun H2 i σ' H' hP => hP.2) (fun H4 i d x σ' Ha Hb e4 hd hP eab hx => ?_) (fun H4 σ' H5 e4 hP => ?_)
        · obtain ⟨⟨y1, y2, y4, rfl⟩, ex⟩ := hP
          obtain ⟨hi, rfl⟩ := names_get hd
          refine tg2 hx fun u1 u2 a1 a2 => ?_
          obtain rfl := dp_int a1
          obtain rfl := dp_str a2
          have g1 := dp_same ((e4.trans ex).trans eab) g1
          refine Evl.s_when (b := decide ((wr m i).1 ∈ (m.map (·.1)).take i)) (et_test (ev_inS (neg := false) (zs := (m.map (·.1)).take i) (ev_var rfl) (en_slToL (k := i) (ed_var rfl g1) (ev_var rfl)).list (.inl (by rw [List.map_take])))) (fun hb => ?_) fun hb H6 e6 => ⟨⟨_, _, _, rfl⟩, ex.trans (eab.trans e6)⟩
          exact absurd (of_decide_eq_true hb) (name_not g hi)
        · obtain ⟨⟨y1, y2, y4, rfl⟩, ex⟩ := hP
          have e15 := e13.trans (e4.trans ex)
          have h0 := dp_same (e4.trans ex) h0
          refine Evl.s_when (b := decide (((m.length : Nat) : Int) > 3)) (et_test (ev_op (ev_is (ev_lenD (ed_var rfl h0) (.inr rfl)) (by rw [List.length_map])) ev_c rv_I0)) (fun hb => ?_) fun hb H6 e6 => q .non H6 (e15.trans e6) .non
          have := of_decide_eq_true hb
          omega
theorem ok_init {f C : Addr} {fd : FuncData} {k : Nat} {c : List PyData → PyData} {df : List V} (F : FunD K "__init__" "Company.__init__" (defArgs sCompanyInit) (defBody sCompanyInit) (defScope sCompanyInit) df [] f fd) (T : Txt mg) (Z : CoC K C) (hc : c = .list ∨ c = .tuple)
    (C__need_company : Cal P w K mg base k "_need_company" ["writers"] (spP K (RNeed c))) : FnOk P w K mg base CX0 (k + 1) f fd ["self", "writers"] (spInit P w K C c) := by
  refine F.ok sc_Company___init__ (fun vs H Q E h => ?_) (fun cdv A outer s H vs Q E hr h => ?_)
  · obtain ⟨p, dx, v, m, rfl, _⟩ := h
    rfl
  · obtain ⟨p, dx, v, m, rfl, hp, hv, g, q⟩ := h
    refine ⟨_, (pss_cons (ps_expr (pe_callC C__need_company hr (by rfl) (pa_cons (pv 1) pa_nil)))
    (pss_cons (ps_fld (pv 0) (pe_callTy call_tuple_of (by rfl) T.m_tuple (by decide +kernel) (pa_cons (pv 1) pa_nil)) rfl)
    (pss_one (ps_fld (pv 0) pe_dnewN rfl)))), ?_⟩
    refine (ed_call (K := K) (d := .none) (eds_cons (ed_var rfl hv) eds_nil) ⟨m, g, rfl, rfl⟩) H (.refl H) _ fun _ H1 e1 _ => ?_
    have hv := dp_same e1 hv
    have hw : EvD K (tCB (fun xs H Q => ∃ p ys, xs = [.ref p] ∧ ((SqL K H p ys ∧ ∀ l, H l = none → Q (.ref l) (upd H l (.tup ys))) ∨ (SqT K H p ys ∧ Q (.ref p) H))) (tCons (tVar 1) tNil)) [some (.ref p), some v] H1 (dMt m) := by
      rcases hc with rfl | rfl
      · exact ed_tuple (ed_var rfl hv)
      · exact ed_tupleT (ed_var rfl hv)
    refine sd_fld hw fun u H2 e2 hu => ?_
    obtain ⟨tw, xs, rfl, htw, hxs⟩ := dp_tup hu
    have hp2 := e2 _ _ (e1 _ _ hp)
    refine ⟨.ref p, rfl, p, C, dx, [], rfl, hp2, Z.cl, Z.nW, (by show 0 < 1000; decide), ?_⟩
    intro d H3 nd hb hd
    have pd : p ≠ d := ne_of_none (upd_same (H := H2) (a := p) (o := .ins C dx (putF "_writers" (.ref tw) []))) nd
    refine ⟨.ref p, rfl, p, C, dx, _, rfl, (hb p pd).trans upd_same, Z.cl, Z.nF, (by show 1 < 1000; decide), ?_⟩
    have t3 : ∀ b o, H2 b = some o → b ≠ p → upd H3 p (.ins C dx (coF tw d)) b = some o := fun b o e nb => by
      have nbd : b ≠ d := ne_of_none (by rw [upd_ne nb]; exact e) nd
      rw [upd_ne nb, hb b nbd, upd_ne nb]
      exact e
    have tk : TupK K H2 (upd H3 p (.ins C dx (coF tw d))) := fun b xs h => by
      rcases h with (h | ⟨o, h⟩) | h
      · exact .inl (.inl (t3 _ _ h (ne_of h hp2 (by intro z; cases z))))
      · exact .inl (.inr ⟨o, t3 _ _ h (ne_of h hp2 (by intro z; cases z))⟩)
      · exact .inr h
    refine q _ (fun b o e nb => t3 b o (e2 _ _ (e1 _ _ e)) nb) ⟨dx, tw, d, [], upd_same, dp_tk tk (fz_dMt m) (.tup htw hxs), hd.up (upd_ne pd.symm) ?_, fun kv hk => (by cases hk), Nat.le_refl _⟩
    exact TupK.upd ((hb p pd).trans upd_same) (fun _ z => by cases z) fun _ _ z => by cases z
theorem ok_begin {f C : Addr} {fd : FuncData} {k : Nat} (F : Fun K "begin" "Company.begin" sCompanyBegin f fd) (T : Txt mg) (Z : CoC K C) (G__NO_RUN : GlobT K mg "_NO_RUN" (.tuple [.int (-1), .int 0])) : FnOk P w K mg base CX0 (k + 1) f fd ["self"] (spBegin P w K C) := by
  refine F.ok sc_Company_begin (fun vs H Q E h => ?_) (fun cdv A outer s H vs Q E hr h => ?_)
  · obtain ⟨c, m, n, rfl, _⟩ := h
    rfl
  · obtain ⟨c, m, n, rfl, ⟨dx, tw, d, kvs, hc, hw, _⟩, hl, q⟩ := h
    refine ⟨_, (pss_cons (ps_set (i := 1) sc_Company_begin.nd rfl (.inl rfl) (pe_op op_rep (pe_tup (pa_cons pe_int pa_nil)) (pe_callB call_len (by rfl) T.m_len PySem.boot_len (pa_cons (pe_fld (pv 0) rfl) pa_nil))))
    (pss_one (ps_ret (pe_tup (pa_cons (pv 1) (pa_cons (pv 1) (pa_cons (pe_globT (by rfl) G__NO_RUN) pa_nil))))))), ?_⟩
    refine sd_asg (K := K) (d := .tuple (List.replicate m.length (.int 0))) (ed_rep (ed_tup (eds_cons (ed_int ev_c) eds_nil) (by show 1 ≤ 100000; decide)) (ev_is (ev_lenD (ed_of (ev_fld (ev_var rfl) hc Z.cl Z.nW (coF_w _ _)) hw) (.inr rfl)) (by rw [List.length_map])) (by omega)) fun v1 H1 e1 g1 => ?_
    dsimp only
    refine sd_ret (K := K) (ed_tup (eds_cons (ed_var rfl g1) (eds_cons (ed_var rfl g1) (eds_cons ed_globT eds_nil))) (by show 3 ≤ 100000; decide)) fun v H2 e2 hv => q v H2 (e1.trans e2) ?_
    unfold dS dI beginS
    dsimp only
    rw [List.map_replicate]
    exact hv
theorem ok_steps {f C : Addr} {fd : FuncData} {k : Nat} (F : Fun K "steps" "Company.steps" sCompanySteps f fd) (T : Txt mg) (Z : CoC K C) (C__steps_of : Cal P w K mg base k "_steps_of" ["writers", "stand"] (spP K RSteps)) : FnOk P w K mg base CX0 (k + 1) f fd ["self", "stand"] (spSteps P w K C) := by
  refine F.ok sc_Company_steps (fun vs H Q E h => ?_) (fun cdv A outer s H vs Q E hr h => ?_)
  · obtain ⟨c, m, n, v, s, rfl, _⟩ := h
    rfl
  · obtain ⟨c, m, n, v, st, rfl, ⟨dx, tw, d, kvs, hc, hw, hd, hch, hl⟩, hn, g, ft, hv, q⟩ := h
    refine ⟨_, (Evl.pss_cut (ps_if (pt_cmpR (op_notinN (hu9 hr)) (pv 1) (pe_fld (pv 0) rfl) (by rfl))
    (pss_one (ps_asg (pe_callTy call_tuple_of (by rfl) T.m_tuple (by decide +kernel) (pa_cons (pe_callC C__steps_of hr (by rfl) (pa_cons (pe_fld (pv 0) rfl) (pa_cons (pv 1) pa_nil))) pa_nil)) (pg_sub (pe_fld (pv 0) rfl) (pv 1) (set_dicN (hu9 hr))))) pss_nil)
    (pss_one (ps_ret (pe_callTy call_list_of (by rfl) T.m_list (by decide +kernel) (pa_cons (pe_dgetN (hu9 hr) (pe_fld (pv 0) rfl) (pv 1) (fun _ _ => rfl)) pa_nil))))), ?_⟩
    refine Evl.q_cut (M := fun σ' H1 => σ' = [some (.ref c), some v] ∧ ∃ kvs1 u, KX H H1 ∧ (∀ b, H1 b = none → H b = none) ∧ H1 c = some (.ins C dx (coF tw d)) ∧ DicAt P w K H1 d kvs1 ∧ Cached K H1 m kvs1 ∧ kvs1.length ≤ n + 1 ∧ lookN kvs1 (kS st) = some u) ?_ fun σ' H1 hM => ?_
    · refine s_if (b := !(lookN kvs (kS st)).isSome) (et_test (ev_notinN (ev_var rfl) (key_at hv) (ev_fld (ev_var rfl) hc Z.cl Z.nF (coF_f _ _)) hd)) (fun hb H1 e1 => ?_) fun hb H1 e1 => ?_
      · have lk : lookN kvs (kS st) = none := by
          cases e : lookN kvs (kS st) with
          | none => rfl
          | some u =>
            rw [e] at hb
            cases hb
        have hc1 := e1 _ _ hc
        refine ed_tuple (K := K) (ds := (stepsOf m st).map dStep) (ed_call (eds_cons (ed_of (ev_fld (ev_var rfl) hc1 Z.cl Z.nW (coF_w _ _)) (dp_same e1 hw)) (eds_cons (ed_var rfl (dp_same e1 hv)) eds_nil)) ⟨m, st, g, ft, rfl, rfl⟩) H1 (.refl H1) _ fun u H2 e2 hu => ?_
        have e12 := e1.trans e2
        have hc2 := e2 _ _ hc1
        have hd2 := hd.same e12
        refine ⟨.ref c, rfl, c, C, dx, _, .ref d, rfl, hc2, Z.cl, Z.nF, coF_f _ _, v, rfl, d, kvs, kS st, rfl, hd2, key_at (dp_same e12 hv), by omega, fun H3 hd3 h3 => ?_⟩
        obtain ⟨n1, n2⟩ := look_new (v := u) lk
        have kx : KX H2 H3 := fun b o e no => by
          obtain ⟨xs, ed, _⟩ := hd2
          have nb : b ≠ d := fun z => by
            rw [z, ed] at e
            exact no _ (Option.some.inj e).symm
          rw [h3 b nb]
          exact e
        have tk : TupK K H2 H3 := kx.t
        refine ⟨rfl, _, u, (KX.of e12).trans kx, fun b hb => ?_, kx _ _ hc2 (fun _ z => by cases z), hd3, fun kv hk => ?_, ?_, n2⟩
        · refine Same.free e12 ?_
          by_cases hbd : b = d
          · obtain ⟨xs, ed, _⟩ := hd3
            rw [hbd, ed] at hb
            cases hb
          · rw [← h3 b hbd]
            exact hb
        · rw [n1] at hk
          rcases List.mem_append.mp hk with hk | hk
          · exact (hch.up ((TupK.of e12).trans tk)) kv hk
          · rw [List.mem_singleton] at hk
            subst hk
            exact ⟨st, rfl, kx.dp hu⟩
        · have := putN_len (kvs := kvs) (k := kS st) (v := u)
          omega
      · obtain ⟨u, lk⟩ : ∃ u, lookN kvs (kS st) = some u := by
          cases e : lookN kvs (kS st) with
          | none =>
            rw [e] at hb
            cases hb
          | some u => exact ⟨u, rfl⟩
        exact ⟨rfl, kvs, u, .of e1, fun b hb => Same.free e1 hb, e1 _ _ hc, hd.same e1, hch.up (.of e1), by omega, lk⟩
    · obtain ⟨rfl, kvs1, u, kx, fr, hc1, hd1, hch1, hl1, lk⟩ := hM
      obtain ⟨s', e, hu⟩ := hch1 _ (look_in lk)
      obtain rfl := kS_inj e
      refine en_list (K := K) (ds := (stepsOf m st).map dStep) (ed_of (ev_dget (ev_fld (ev_var rfl) hc1 Z.cl Z.nF (coF_f _ _)) hd1 (ev_var rfl) (key_at (kx.dp hv)) lk) hu) (.inr rfl) H1 (.refl H1) _ fun p vs H2 np e2 hp hvs => ?_
      exact q p vs H2 (fr _ np) (kx.trans (.of e2)) ⟨dx, tw, d, kvs1, e2 _ _ hc1, dp_same e2 (kx.dp hw), hd1.same e2, hch1.up (.of e2), hl1⟩ hp hvs
end
end Ink
namespace Ink
open PySem PySem.Spec PyProof.Rows L2 Evl
/-! ### the law's own steps -/
def dP (x : Arw) : PyData := .tuple [.str x.2.1, .int x.2.2]
def arrsAt (w : Wr) (p : Int) : List Arw := w.2.1.filter fun x => decide (V.int x.1 = V.int p)
def RArrs : List PyData → PyData → Prop := fun ds d => ∃ (w : Wr) (p : Int), w.2.1.length ≤ 9 ∧ ds = [dW w, .int p] ∧ d = .list ((arrsAt w p).map dP)
def RBegin : List PyData → PyData → Prop := fun ds d => ∃ m, m.length ≤ 3 ∧ ds = [dMl m] ∧ d = dS (beginS m)
def RCounts : List PyData → PyData → Prop := fun ds d => ∃ m s, ∃ k : Nat, GoodM m ∧ s.1.length = m.length ∧ k < m.length ∧ ds = [dMl m, dI s.1, .int (k : Int)] ∧ d = .bool (minds m s k)
/-- a stand as steps lead to it: who does not wait has waited no time, who wrote last has not written more than is let -/
structure Okay (m : List Wr) (s : Std) : Prop extends Fits m s where
  w0 : ∀ j, j < m.length → minds m s j = false → wt s j = 0
  run : s.2.2 = (-1, 0) ∨ ∃ k : Nat, k < m.length ∧ s.2.2.1 = (k : Int) ∧ (wr m k).2.2.2 ≠ 0 ∧ s.2.2.2 ≤ (wr m k).2.2.2
def RCan : List PyData → PyData → Prop := fun ds d => ∃ m s, ∃ k : Nat, GoodM m ∧ Okay m s ∧ k < m.length ∧ ds = [dMl m, dS s, .int (k : Int)] ∧ d = .bool (mayW m s k)
def RAfter : List PyData → PyData → Prop := fun ds d => ∃ m s, ∃ k : Nat, ∃ to, GoodM m ∧ Okay m s ∧ k < m.length ∧ ds = [dMl m, dS s, .int (k : Int), .int to] ∧ d = dS (behind m s k to)
def RLSteps : List PyData → PyData → Prop := fun ds d => ∃ m s, GoodM m ∧ Okay m s ∧ ds = [dMl m, dS s] ∧ d = .list ((stepsOf m s).map dStep)
theorem fz_dP (x : Arw) : fz (dP x) = true := by
  unfold dP fz fzAll fzAll fzAll fz
  rfl
theorem lets_ok : ∀ c ∈ lets, PyData.strOk (single c) = true := by decide +kernel
theorem dP_lay {x : Arw} (h : goodA x) : (dP x).canLay0 = true := by
  obtain ⟨_, _, ⟨c, hc, e⟩, _⟩ := h
  unfold dP
  simp only [PyData.canLay0, PyData.canLayAll0, e, lets_ok c hc, Bool.and_true]
theorem dP_depth (x : Arw) : (dP x).depth ≤ 3 := by
  unfold dP
  simp only [PyData.depth, PyData.depthAll]
  decide
theorem lay_map {α : Type} {f : α → PyData} : ∀ {l : List α}, (∀ x ∈ l, (f x).canLay0 = true) → PyData.canLayAll0 (l.map f) = true
  | [], _ => by simp only [List.map_nil, PyData.canLayAll0]
  | x :: l, h => by
    simp only [List.map_cons, PyData.canLayAll0, h x (List.mem_cons_self ..), Bool.true_and]
    exact lay_map fun y hy => h y (List.mem_cons_of_mem _ hy)
theorem depth_map {α : Type} {f : α → PyData} {n : Nat} : ∀ {l : List α}, (∀ x ∈ l, (f x).depth ≤ n) → PyData.depthAll (l.map f) ≤ n
  | [], _ => by simp only [List.map_nil, PyData.depthAll]; omega
  | x :: l, h => by
    have h1 := h x (List.mem_cons_self ..)
    have h2 := depth_map (f := f) (l := l) fun y hy => h y (List.mem_cons_of_mem _ hy)
    simp only [List.map_cons, PyData.depthAll]
    omega
theorem arrs_shaped {w : Wr} (h : ∀ x ∈ w.2.1, goodA x) (p : Int) : SeqAt.shaped (.list ((arrsAt w p).map dP)) = true := by
  have hm : ∀ x ∈ arrsAt w p, goodA x := fun x hx => h x (List.mem_filter.mp hx).1
  have h1 := lay_map fun x hx => dP_lay (hm x hx)
  have h2 := depth_map (f := dP) (l := arrsAt w p) fun x _ => dP_depth x
  unfold SeqAt.shaped
  rw [Bool.and_eq_true, decide_eq_true_eq]
  refine ⟨by simp only [PyData.canLay0]; exact h1, ?_⟩
  simp only [PyData.depth]
  omega
theorem eqv_nil {α : Type} (l : List α) (f : α → PyData) : PyData.eqv (.list (l.map f)) (.list []) = l.isEmpty := by
  cases l with
  | nil => simp only [List.map_nil, PyData.eqv, PyData.eqvAll, List.isEmpty_nil]
  | cons x l => simp only [List.map_cons, PyData.eqv, PyData.eqvAll, List.isEmpty_cons]
/-- the law's look is the program's -/
theorem counts_eq {m : List Wr} (g : GoodM m) {s : Std} {k : Nat} (hk : k < m.length) : (decide ((wr m k).2.2.1 > 0) && !(arrsAt (wr m k) (pl s k)).isEmpty) = minds m s k := by
  unfold minds
  have h0 := (g.at hk).p0
  have e1 : decide ((wr m k).2.2.1 > 0) = !decide (V.int (wr m k).2.2.1 = V.int 0) := by
    rw [← decide_not]
    refine decide_eq_decide.mpr ⟨fun h e => ?_, fun h => ?_⟩
    · injection e with e
      omega
    · have : (wr m k).2.2.1 ≠ 0 := fun e => h (by rw [e])
      omega
  have e2 : (!(arrsAt (wr m k) (pl s k)).isEmpty) = decide (pl s k ∈ (wr m k).2.1.map (·.1)) := by
    rw [Bool.eq_iff_iff, Bool.not_eq_true', List.isEmpty_eq_false_iff_exists_mem, decide_eq_true_eq, List.mem_map]
    constructor
    · rintro ⟨x, hx⟩
      obtain ⟨h1, h2⟩ := List.mem_filter.mp hx
      have h2 := of_decide_eq_true h2
      injection h2 with h2
      exact ⟨x, h1, h2⟩
    · rintro ⟨x, h1, h2⟩
      exact ⟨x, List.mem_filter.mpr ⟨h1, by rw [h2]; exact decide_eq_true rfl⟩⟩
  rw [e1, e2]
section
variable {P : Program} {w : World} {K : PySem.W.Frag} {mg : Str → Option Value} {base : Heap}
theorem ok_arrs {f : Addr} {fd : FuncData} {k : Nat} (F : Fun K "_law_arrows" "_law_arrows" sLArrows f fd) : FnOk P w K mg base CX0 (k + 1) f fd ["_law_writer_here", "_law_place"] (spP K RArrs) := by
  refine F.ok sc__law_arrows (fun vs H Q E h => ?_) (fun cdv A outer s H vs Q E hr h => ?_)
  · obtain ⟨ds, d, hd, ⟨w, p, _, rfl, _⟩, _⟩ := h
    exact hd.length
  · obtain ⟨ds, d, hd, ⟨w, p, h9, rfl, rfl⟩, q⟩ := h
    obtain ⟨v0, v1, rfl, h0, h1⟩ := dps2 hd
    obtain rfl := dp_int h1
    refine ⟨_, (pss_one (ps_ret (pe_lc (own := [("_law_at", 2), ("_law_sign", 3), ("_law_to", 4)]) (g := (gTup K 3 (gCons (gName 2) (gCons (gName 3) (gCons (gName 4) gNil))))) (by rfl) sc__law_arrows.nd (pi_tup (pe_ix ix_tup (pv 0) pe_int (fun _ _ => rfl))) (blkOk_by (own := [("_law_at", 2), ("_law_sign", 3), ("_law_to", 4)]) (N := ["_law_writer_here", "_law_place", "_law_at", "_law_sign", "_law_to"]) (sc := defScope sLArrows) (by decide +kernel)) (fun _ _ _ _ _ => (pg_tup rfl (pgs_cons (pg_name (i := 2) sc__law_arrows.nd rfl (.inl rfl)) (pgs_cons (pg_name (i := 3) sc__law_arrows.nd rfl (.inl rfl)) (pgs_cons (pg_name (i := 4) sc__law_arrows.nd rfl (.inl rfl)) pgs_nil))))) (fun _ _ _ _ _ => pts_one (pt_cmpR op_eq (pv 2) (pv 1) (nomark _))) (fun _ _ _ _ _ => (pe_tup (pa_cons (pv 3) (pa_cons (pv 4) pa_nil))))))), ?_⟩
    refine sd_ret (K := K) (EvN.list (ds := (arrsAt w p).map dP) ?_) q
    refine en_lc w.2.1 dA (fun x => decide (V.int x.1 = V.int p)) dP (ei_tup (ed_ixT (ed_var rfl h0) ev_c (by decide) rfl)) (by omega) (fun x _ => fz_dP x) fun j a H5 x hx e5 hdx R kk => tg3 hdx fun u1 u2 u3 b1 b2 b3 => ?_
    obtain rfl := dp_int b1
    exact kk _ rfl (et_test (ev_op (ev_var rfl) (ev_var rfl) (rv_eq rfl))) fun _ => ed_tup (eds_cons (ed_var rfl b2) (eds_cons (ed_var rfl b3) eds_nil)) (by show 2 ≤ 100000; decide)
theorem ok_lbegin {f : Addr} {fd : FuncData} {k : Nat} (F : Fun K "_law_begin" "_law_begin" sLBegin f fd) (T : Txt mg) : FnOk P w K mg base CX0 (k + 1) f fd ["_law_m"] (spP K RBegin) := by
  refine F.ok sc__law_begin (fun vs H Q E h => ?_) (fun cdv A outer s H vs Q E hr h => ?_)
  · obtain ⟨ds, d, hd, ⟨m, _, rfl, _⟩, _⟩ := h
    exact hd.length
  · obtain ⟨ds, d, hd, ⟨m, hl, rfl, rfl⟩, q⟩ := h
    obtain ⟨v0, rfl, h0⟩ := dps1 hd
    refine ⟨_, (pss_one (ps_ret (pe_tup (pa_cons (pe_op op_rep (pe_tup (pa_cons pe_int pa_nil)) (pe_callB call_len (by rfl) T.m_len PySem.boot_len (pa_cons (pv 0) pa_nil))) (pa_cons (pe_op op_rep (pe_tup (pa_cons pe_int pa_nil)) (pe_callB call_len (by rfl) T.m_len PySem.boot_len (pa_cons (pv 0) pa_nil))) (pa_cons (pe_tup (pa_cons (pe_un un_neg pe_int) (pa_cons pe_int pa_nil))) pa_nil)))))), ?_⟩
    have hrep : EvD K (tOp (rRep K) (tTup (tCons (tC (.int 0)) tNil)) (tCB (rLenV K) (tCons (tVar 0) tNil))) [some v0] H (dI (List.replicate m.length 0)) := by
      have := ed_rep (K := K) (n := m.length) (ta := tTup (tCons (tC (.int 0)) tNil)) (d := .int 0) (ed_tup (eds_cons (ed_int ev_c) eds_nil) (by show 1 ≤ 100000; decide)) (ev_is (ev_lenD (ed_var (i := 0) (σ := [some v0]) rfl h0) (.inl rfl)) (by rw [List.length_map])) (by omega)
      unfold dI
      rw [List.map_replicate]
      exact this
    exact sd_ret (K := K) (d := dS (beginS m)) (ed_tup (eds_cons hrep (eds_cons hrep (eds_cons (ed_tup (eds_cons (ed_int (ev_un ev_c ru_neg)) (eds_cons (ed_int ev_c) eds_nil)) (by show 2 ≤ 100000; decide)) eds_nil))) (by show 3 ≤ 100000; decide)) q
theorem ok_counts {f : Addr} {fd : FuncData} {k : Nat} (F : Fun K "_law_waits_count" "_law_waits_count" sLWaitsCount f fd) (C__law_arrows : Cal P w K mg base k "_law_arrows" ["_law_writer_here", "_law_place"] (spP K RArrs)) : FnOk P w K mg base CX0 (k + 1) f fd ["_law_m", "_law_places", "_law_at"] (spP K RCounts) := by
  refine F.ok sc__law_waits_count (fun vs H Q E h => ?_) (fun cdv A outer s H vs Q E hr h => ?_)
  · obtain ⟨ds, d, hd, ⟨m, s, k, _, _, _, rfl, _⟩, _⟩ := h
    exact hd.length
  · obtain ⟨ds, d, hd, ⟨m, st, k, g, hl, hk, rfl, rfl⟩, q⟩ := h
    obtain ⟨v0, v1, v2, rfl, h0, h1, h2⟩ := dps3 hd
    obtain rfl := dp_int h2
    have gk := g.at hk
    refine ⟨_, (pss_one (ps_ret (pe_and (pe_cmpR op_gt (pe_ix ix_tup (pe_ix ix_list (pv 0) (pv 2) (fun _ _ => rfl)) pe_int (fun _ _ => rfl)) pe_int (nomark _)) (pe_one (pe_cmpR (show OpR _ _ (rNeD K) from op_neD hr.units) (pe_callC C__law_arrows hr (by rfl) (pa_cons (pe_ix ix_list (pv 0) (pv 2) (fun _ _ => rfl)) (pa_cons (pe_ix ix_tup (pv 1) (pv 2) (fun _ _ => rfl)) pa_nil))) (pe_lst pa_nil) (nomark _)))))), ?_⟩
    refine sd_ret (K := K) (ed_bl (ev_andV (ev_op (ev_int (ed_ixT (ed_ixL (ed_var rfl h0) (ev_var rfl) (by omega) (dW_get hk)) ev_c (by decide) rfl)) ev_c rv_I0) fun _ => ev_is (ev_neD (d1 := .list ((arrsAt (wr m k) (pl st k)).map dP)) (d2 := .list []) (ed_call (eds_cons (ed_ixL (ed_var rfl h0) (ev_var rfl) (by omega) (dW_get hk)) (eds_cons (ed_ixT (ed_var rfl h1) (ev_var rfl) (by omega) (dI_get (by rw [hl]; exact hk))) eds_nil)) ⟨wr m k, pl st k, gk.len, rfl, rfl⟩) (en_lst eds_nil (by decide)).list (arrs_shaped gk.each _) rfl) (by rw [eqv_nil]))) fun v H1 e1 hv => q v H1 e1 ?_
    rw [← counts_eq g hk]
    exact hv
end
end Ink
namespace Ink
open PySem PySem.Spec PyProof.Rows L2 Evl
theorem run_eq {m : List Wr} (g : GoodM m) {s : Std} (o : Okay m s) {k : Nat} (hk : k < m.length) : (decide ((wr m k).2.2.2 > 0) && PyData.eqv (.tuple [.int s.2.2.1, .int s.2.2.2]) (.tuple [.int (k : Int), .int (wr m k).2.2.2])) = (!decide (V.int (wr m k).2.2.2 = V.int 0) && (decide (V.int s.2.2.1 = V.int (k : Int)) && decide (s.2.2.2 ≥ (wr m k).2.2.2))) := by
  have h0 := (g.at hk).c0
  simp only [PyData.eqv, PyData.eqvAll, Bool.and_true]
  rw [Bool.eq_iff_iff]
  simp only [Bool.and_eq_true, Bool.not_eq_true', decide_eq_true_eq, decide_eq_false_iff_not, beq_iff_eq, V.int.injEq]
  constructor
  · rintro ⟨h1, h2, h3⟩
    exact ⟨by omega, h2, by omega⟩
  · rintro ⟨h1, h2, h3⟩
    refine ⟨by omega, h2, ?_⟩
    rcases o.run with e | ⟨j, hj, e1, e2, e3⟩
    · rw [e] at h2
      have : (-1 : Int) = k := h2
      omega
    · have : j = k := by omega
      subst this
      omega
theorem later_eq {m : List Wr} {s : Std} (o : Okay m s) {k : Nat} (hk : k < m.length) : ((List.range s.2.1.length).map fun (j : Nat) => wt s j + (if minds m s j then 1 else 0)).set k 0 = (List.range s.2.1.length).map fun (j : Nat) => if (!decide (V.int (j : Int) = V.int (k : Int)) && minds m s j) = true then wt s j + 1 else 0 := by
  refine List.ext_getElem? fun j => ?_
  have hl := o.l2
  by_cases hj : j < s.2.1.length
  · rw [List.getElem?_set, List.getElem?_map, List.getElem?_map, List.getElem?_range hj]
    have hl2 : k < ((List.range s.2.1.length).map fun (j : Nat) => wt s j + (if minds m s j then 1 else 0)).length := by
      rw [List.length_map, List.length_range]
      omega
    by_cases e : k = j
    · subst e
      rw [if_pos rfl, if_pos hl2]
      show some 0 = some (if (!decide (V.int (k : Int) = V.int (k : Int)) && minds m s k) = true then wt s k + 1 else 0)
      rw [decide_eq_true rfl]
      rfl
    · rw [if_neg e]
      show some (wt s j + (if minds m s j = true then 1 else 0)) = some (if (!decide (V.int (j : Int) = V.int (k : Int)) && minds m s j) = true then wt s j + 1 else 0)
      rw [decide_eq_false (show ¬ V.int (j : Int) = V.int (k : Int) from fun z => by injection z with z; omega)]
      show some (wt s j + (if minds m s j = true then 1 else 0)) = some (if minds m s j = true then wt s j + 1 else 0)
      cases hm : minds m s j with
      | true => rfl
      | false =>
        rw [o.w0 j (by omega) hm]
        rfl
  · rw [List.getElem?_eq_none (by rw [List.length_set, List.length_map, List.length_range]; omega), List.getElem?_eq_none (by rw [List.length_map, List.length_range]; omega)]
theorem ixN_nat {n k : Nat} (h : k < n) : ixN n (k : Int) = some k := by
  unfold ixN
  rw [if_pos (by omega), if_pos (by omega), Int.toNat_natCast]
section
variable {P : Program} {w : World} {K : PySem.W.Frag} {mg : Str → Option Value} {base : Heap}
theorem ok_can {f : Addr} {fd : FuncData} {k : Nat} (F : Fun K "_law_can" "_law_can" sLCan f fd) (T : Txt mg) (C__law_waits_count : Cal P w K mg base k "_law_waits_count" ["_law_m", "_law_places", "_law_at"] (spP K RCounts)) : FnOk P w K mg base CX0 (k + 1) f fd ["_law_m", "_law_stand", "_law_spot"] (spP K RCan) := by
  refine F.ok sc__law_can (fun vs H Q E h => ?_) (fun cdv A outer s H vs Q E hr h => ?_)
  · obtain ⟨ds, d, hd, ⟨m, s, k, _, _, _, rfl, _⟩, _⟩ := h
    exact hd.length
  · obtain ⟨ds, d, hd, ⟨m, st, k, g, ft, hk, rfl, rfl⟩, q⟩ := h
    obtain ⟨v0, v1, v2, rfl, h0, h1, h2⟩ := dps3 hd
    obtain rfl := dp_int h2
    refine ⟨_, (pss_cons (ps_asg (pv 1) (pg_tup rfl (pgs_cons (pg_name (i := 3) sc__law_can.nd rfl (.inr rfl)) (pgs_cons (pg_name (i := 4) sc__law_can.nd rfl (.inr rfl)) (pgs_cons (pg_name (i := 5) sc__law_can.nd rfl (.inl rfl)) pgs_nil)))))
    (pss_cons (ps_if (PW.pt (pw_and (pt_cmpR op_gt (pe_ix ix_tup (pe_ix ix_list (pv 0) (pv 2) (fun _ _ => rfl)) pe_int (fun _ _ => rfl)) pe_int (nomark _)) (pw_and1 (pt_cmpR (show OpR _ _ (rEqD K) from op_eqD hr.units) (pv 5) (pe_tup (pa_cons (pv 2) (pa_cons (pe_ix ix_tup (pe_ix ix_list (pv 0) (pv 2) (fun _ _ => rfl)) pe_int (fun _ _ => rfl)) pa_nil))) (nomark _)))))
    (pss_one (ps_ret pe_bl)) pss_nil)
    (pss_cons (ps_setLc (i := 6) (own := [("_law_at", 7)]) (g := (gName 7)) (by rfl) sc__law_can.nd rfl rfl (sw_true rfl rfl rfl (by decide +kernel)) (pi_range1 (by rfl) T.m_range (pa_cons (pe_callB call_len (by rfl) T.m_len PySem.boot_len (pa_cons (pv 0) pa_nil)) pa_nil)) (blkOk_by (own := [("_law_at", 7)]) (N := ["_law_m", "_law_stand", "_law_spot", "_law_places", "_law_waits", "_law_run", "_law_others", "_law_at"]) (sc := defScope sLCan) (by decide +kernel)) (fun _ _ _ _ _ => (pg_name (i := 7) sc__law_can.nd rfl (Or.inl rfl))) (fun _ _ _ _ _ => pts_one (PW.pt (pw_and (pt_cmpR op_ne (pv 7) (pv 2) (nomark _)) (pw_and1 (pt_val (pe_callC C__law_waits_count hr (by rfl) (pa_cons (pv 0) (pa_cons (pv 3) (pa_cons (pv 7) pa_nil))))))))) (fun _ _ _ _ _ => (pv 7)))
    (pss_one (ps_ret (pe_callB (cr_all rfl) (by rfl) T.m_all (by decide +kernel) (pa_cons (pe_lc (own := [("_law_at", 7)]) (g := (gName 7)) (by rfl) sc__law_can.nd (pi_list (pv 6)) (blkOk_by (own := [("_law_at", 7)]) (N := ["_law_m", "_law_stand", "_law_spot", "_law_places", "_law_waits", "_law_run", "_law_others", "_law_at"]) (sc := defScope sLCan) (by decide +kernel)) (fun _ _ _ _ _ => (pg_name (i := 7) sc__law_can.nd rfl (Or.inl rfl))) (fun _ _ _ _ _ => pts_nil) (fun _ _ _ _ _ => (pe_cmpR op_lt (pe_ix (show IxR _ (rIxT K) from ix_tup) (pv 4) (pv 7) (fun _ _ => rfl)) (pe_ix (show IxR _ (rIxT K) from ix_tup) (pe_ix (show IxR _ (rIxL K) from ix_list) (pv 0) (pv 7) (fun _ _ => rfl)) pe_int (fun _ _ => rfl)) (nomark _)))) pa_nil))))))), ?_⟩
    refine sd_un3 (ed_var rfl h1) fun w0 w1 w2 H1 e1 g0 g1 g2 => ?_
    have h0 := dp_same e1 h0
    dsimp only
    refine Evl.q_when (b := !decide (V.int (wr m k).2.2.2 = V.int 0) && (decide (V.int st.2.2.1 = V.int (k : Int)) && decide (st.2.2.2 ≥ (wr m k).2.2.2))) ?_ (fun hb H3 e3 => ?_) fun hb H3 e3 => ?_
    · rw [← run_eq g ft hk]
      exact et_and (et_test (ev_op (ev_int (ed_ixT (ed_ixL (ed_var rfl h0) (ev_var rfl) (by omega) (dW_get hk)) ev_c (by decide) rfl)) ev_c rv_I0)) fun _ => et_test (ev_eqD (ed_var rfl g2) (ed_tup (eds_cons (ed_int (ev_var rfl)) (eds_cons (ed_ixT (ed_ixL (ed_var rfl h0) (ev_var rfl) (by omega) (dW_get hk)) ev_c (by decide) rfl) eds_nil)) (by show 2 ≤ 100000; decide)) rfl rfl)
    · refine q (.bl false) H3 (e1.trans e3) ?_
      unfold mayW
      rw [if_pos hb]
      exact .bl false
    · have h0 := dp_same e3 h0
      have g0 := dp_same e3 g0
      have g1 := dp_same e3 g1
      have e13 := e1.trans e3
      refine sd_asg (K := K) (EvN.list (en_lc (List.range m.length) (fun j : Nat => PyData.int (j : Int)) (fun j : Nat => !decide (V.int (j : Int) = V.int (k : Int)) && minds m st j) (fun j : Nat => PyData.int (j : Int)) (ei_range (ea_cons (ev_is (ev_lenD (ed_var rfl h0) (.inl rfl)) (by rw [List.length_map])) ea_nil) (m_le g (by decide))) (by rw [List.length_range]; exact m_le g (by decide)) (fun _ _ => by unfold fz; rfl) fun i a H4 x hx e4 hdx R kk => ?_)) fun w4 H4 e4 g4 => ?_
      · obtain rfl := dp_int hdx
        have ha : a < m.length := List.mem_range.mp (List.mem_of_getElem? hx)
        refine kk _ rfl (et_and (et_test (ev_op (ev_var rfl) (ev_var rfl) (rv_ne rfl))) fun _ => et_B (ev_bl (ed_call (eds_cons (ed_var rfl (dp_same e4 h0)) (eds_cons (ed_var rfl (dp_same e4 g0)) (eds_cons (ed_var rfl (.int _)) eds_nil))) ⟨m, st, a, g, ft.l1, ha, rfl, rfl⟩))) fun _ => ed_var rfl (.int _)
      · have h0 := dp_same e4 h0
        have g1 := dp_same e4 g1
        dsimp only
        refine sd_ret (K := K) (ed_bl (ev_allD (bs := ((List.range m.length).filter fun (j : Nat) => !decide (V.int (j : Int) = V.int (k : Int)) && minds m st j).map fun (j : Nat) => decide (wt st j < (wr m j).2.2.1)) (EvN.list ?_))) fun v H5 e5 hv => ?_
        · rw [List.map_map]
          refine en_map _ (fun j : Nat => PyData.int (j : Int)) _ (ei_lst (ed_var rfl g4)) ?_ (fun _ _ => by show fz (PyData.bool _) = true; unfold fz; rfl) fun i a H6 x hx e6 hdx R kk => ?_
          · have h1 := List.length_filter_le (fun j : Nat => !decide (V.int (j : Int) = V.int (k : Int)) && minds m st j) (List.range m.length)
            rw [List.length_range] at h1
            exact Nat.le_trans h1 (m_le g (by decide))
          · obtain rfl := dp_int hdx
            have ha : a < m.length := List.mem_range.mp (List.mem_filter.mp (List.mem_of_getElem? hx)).1
            exact kk _ rfl (ed_bl (ev_op (ev_int (ed_ixT (ed_var rfl (dp_same e6 g1)) (ev_var rfl) (by omega) (dI_get (by rw [ft.l2]; exact ha)))) (ev_int (ed_ixT (ed_ixL (ed_var rfl (dp_same e6 h0)) (ev_var rfl) (by omega) (dW_get ha)) ev_c (by decide) rfl)) rv_I0))
        · refine q v H5 (e13.trans (e4.trans e5)) ?_
          unfold mayW
          rw [if_neg (by rw [hb]; exact Bool.false_ne_true)]
          exact hv
theorem ok_after {f : Addr} {fd : FuncData} {k : Nat} (F : Fun K "_law_after" "_law_after" sLAfter f fd) (T : Txt mg) (C__law_waits_count : Cal P w K mg base k "_law_waits_count" ["_law_m", "_law_places", "_law_at"] (spP K RCounts)) : FnOk P w K mg base CX0 (k + 1) f fd ["_law_m", "_law_stand", "_law_spot", "_law_to"] (spP K RAfter) := by
  refine F.ok sc__law_after (fun vs H Q E h => ?_) (fun cdv A outer s H vs Q E hr h => ?_)
  · obtain ⟨ds, d, hd, ⟨m, s, k, to, _, _, _, rfl, _⟩, _⟩ := h
    exact hd.length
  · obtain ⟨ds, d, hd, ⟨m, st, k, to, g, ft, hk, rfl, rfl⟩, q⟩ := h
    obtain ⟨v0, v1, v2, v3, rfl, h0, h1, h2, h3⟩ := dps4 hd
    obtain rfl := dp_int h2
    obtain rfl := dp_int h3
    refine ⟨_, (pss_cons (ps_asg (pv 1) (pg_tup rfl (pgs_cons (pg_name (i := 4) sc__law_after.nd rfl (.inr rfl)) (pgs_cons (pg_name (i := 5) sc__law_after.nd rfl (.inl rfl)) (pgs_cons (pg_name (i := 6) sc__law_after.nd rfl (.inl rfl)) pgs_nil)))))
    (pss_cons (ps_setLc (i := 7) (own := [("_law_at", 10), ("_law_wait", 11)]) (g := (gTup K 2 (gCons (gName 10) (gCons (gName 11) gNil)))) (by rfl) sc__law_after.nd rfl rfl (sw_true rfl rfl rfl (by decide +kernel)) (pi_enumT (by rfl) T.m_enumerate (pa_cons (pv 5) pa_nil)) (blkOk_by (own := [("_law_at", 10), ("_law_wait", 11)]) (N := ["_law_m", "_law_stand", "_law_spot", "_law_to", "_law_places", "_law_waits", "_law_run", "_law_later", "_law_many", "_law_fresh", "_law_at", "_law_wait"]) (sc := defScope sLAfter) (by decide +kernel)) (fun _ _ _ _ _ => (pg_tup rfl (pgs_cons (pg_name (i := 10) sc__law_after.nd rfl (.inl rfl)) (pgs_cons (pg_name (i := 11) sc__law_after.nd rfl (.inl rfl)) pgs_nil)))) (fun _ _ _ _ _ => pts_nil) (fun _ _ _ _ _ => (pe_op op_add (pv 11) (pe_callTy call_int1 (by rfl) T.m_int (by decide +kernel) (pa_cons (pe_callC C__law_waits_count hr (by rfl) (pa_cons (pv 0) (pa_cons (pv 4) (pa_cons (pv 10) pa_nil)))) pa_nil)))))
    (pss_cons (ps_asg pe_int (pg_sub (pv 7) (pv 2) set_list))
    (pss_cons (ps_set (i := 8) sc__law_after.nd rfl (.inl rfl) (pe_ifExp (pt_cmpR op_eq (pe_ix ix_tup (pv 6) pe_int (fun _ _ => rfl)) (pv 2) (nomark _)) (pe_op op_add (pe_ix ix_tup (pv 6) pe_int (fun _ _ => rfl)) pe_int) pe_int))
    (pss_cons (ps_set (i := 9) sc__law_after.nd rfl (.inl rfl) (pe_ifExp (pt_cmpR op_gt (pe_ix ix_tup (pe_ix ix_list (pv 0) (pv 2) (fun _ _ => rfl)) pe_int (fun _ _ => rfl)) pe_int (nomark _)) (pe_tup (pa_cons (pv 2) (pa_cons (pv 8) pa_nil))) (pe_tup (pa_cons (pe_un un_neg pe_int) (pa_cons pe_int pa_nil)))))
    (pss_one (ps_ret (pe_tup (pa_cons (pe_op op_catA (pe_op op_catA (pe_slice sl_tupA (pv 4) po_none (po_some (pv 2))) (pe_tup (pa_cons (pv 3) pa_nil))) (pe_slice sl_tupA (pv 4) (po_some (pe_op op_add (pv 2) pe_int)) po_none)) (pa_cons (pe_callTy call_tuple_of (by rfl) T.m_tuple (by decide +kernel) (pa_cons (pv 7) pa_nil)) (pa_cons (pv 9) pa_nil))))))))))), ?_⟩
    refine sd_un3 (ed_var rfl h1) fun w0 w1 w2 H1 e1 g0 g1 g2 => ?_
    have h0 := dp_same e1 h0
    have hl2 : st.2.1.length ≤ 40000 := by rw [ft.l2]; exact m_le g (by decide)
    have hk2 : k < st.2.1.length := by rw [ft.l2]; exact hk
    let ns : List Int := (List.range st.2.1.length).map fun (j : Nat) => wt st j + (if minds m st j then 1 else 0)
    dsimp only
    refine sd_asgN (K := K) (ds := ns.map PyData.int) ?_ fun p vs H2 np e2 hp hvs => ?_
    · rw [show ns.map PyData.int = (List.range st.2.1.length).map fun (j : Nat) => PyData.int (wt st j + (if minds m st j then 1 else 0)) from List.map_map]
      refine en_map _ (fun j : Nat => PyData.tuple [.int (j : Int), .int (st.2.1.getD j 0)]) _ (enum_range st.2.1 ▸ ei_enumT (ed_var rfl g1)) (by rw [List.length_range]; exact hl2) (fun _ _ => by show fz (PyData.int _) = true; unfold fz; rfl) fun i a H6 x hx e6 hdx R kk => tg2 hdx fun u1 u2 a1 a2 => ?_
      obtain rfl := dp_int a1
      obtain rfl := dp_int a2
      have ha : a < m.length := by
        rw [← ft.l2]
        exact List.mem_range.mp (List.mem_of_getElem? hx)
      exact kk _ rfl (ed_int (ev_op (ev_var rfl) (ev_intB (ev_bl (ed_call (eds_cons (ed_var rfl (dp_same e6 h0)) (eds_cons (ed_var rfl (dp_same e6 g0)) (eds_cons (ed_var rfl (.int _)) eds_nil))) ⟨m, st, a, g, ft.l1, ha, rfl, rfl⟩))) rv_I0))
    · have hvs := dps_int hvs
      subst hvs
      have nsl : (ns.map V.int).length = st.2.1.length := by
        rw [List.length_map, List.length_map, List.length_range]
      refine ⟨.ref p, rfl, .int (k : Int), rfl, p, _, (k : Int), k, rfl, rfl, hp, ixN_nat (by rw [nsl]; exact hk2), ?_⟩
      have eset : (ns.map V.int).set k (.int 0) = ((List.range st.2.1.length).map fun (j : Nat) => if (!decide (V.int (j : Int) = V.int (k : Int)) && minds m st j) = true then wt st j + 1 else 0).map V.int := by
        rw [← later_eq ft hk, List.map_set]
      rw [eset]
      generalize hL : ((List.range st.2.1.length).map fun (j : Nat) => if (!decide (V.int (j : Int) = V.int (k : Int)) && minds m st j) = true then wt st j + 1 else 0) = L
      have e0 : Ex H1 (upd H2 p (.lst (L.map V.int))) := Ex.mut e2 np
      have h0 := dp_same e0 h0
      have g0 := dp_same e0 g0
      have g2 := dp_same e0 g2
      have gL : Dp K (upd H2 p (.lst (L.map V.int))) (.ref p) (.list (L.map PyData.int)) := .lst (.of upd_same) (dps_ints L)
      generalize upd H2 p (.lst (L.map V.int)) = H3 at e0 h0 g0 g2 gL
      refine sd_asg (K := K) (d := .int (if V.int st.2.2.1 = V.int (k : Int) then st.2.2.2 + 1 else 1)) (ed_if (b := decide (V.int st.2.2.1 = V.int (k : Int))) (et_test (ev_op (ev_int (ed_ixT (ed_var rfl g2) ev_c (by decide) rfl)) (ev_var rfl) (rv_eq rfl))) (fun hm => ?_) fun hm => ?_) fun w5 H5 e5 g5 => ?_
      · rw [if_pos (of_decide_eq_true hm)]
        exact ed_int (ev_op (ev_int (ed_ixT (ed_var rfl g2) ev_c (by decide) rfl)) ev_c rv_I0)
      · rw [if_neg (of_decide_eq_false hm)]
        exact ed_int ev_c
      · dsimp only
        have h0 := dp_same e5 h0
        have c0 := (g.at hk).c0
        refine sd_asg (K := K) (d := .tuple [.int (behind m st k to).2.2.1, .int (behind m st k to).2.2.2]) (ed_if (b := decide ((wr m k).2.2.2 > 0)) (et_test (ev_op (ev_int (ed_ixT (ed_ixL (ed_var rfl h0) (ev_var rfl) (by omega) (dW_get hk)) ev_c (by decide) rfl)) ev_c rv_I0)) (fun hm => ?_) fun hm => ?_) fun w6 H6 e6 g6 => ?_
        · have hm := of_decide_eq_true hm
          unfold behind
          rw [if_neg (show ¬ V.int (wr m k).2.2.2 = V.int 0 from fun z => by injection z with z; omega)]
          exact ed_tup (eds_cons (ed_int (ev_var rfl)) (eds_cons (ed_var rfl g5) eds_nil)) (by show 2 ≤ 100000; decide)
        · have hm := of_decide_eq_false hm
          unfold behind
          rw [if_pos (show V.int (wr m k).2.2.2 = V.int 0 by congr 1; omega)]
          exact ed_tup (eds_cons (ed_int (ev_un ev_c ru_neg)) (eds_cons (ed_int ev_c) eds_nil)) (by show 2 ≤ 100000; decide)
        · dsimp only
          have e36 := e5.trans e6
          have g0 := dp_same e36 g0
          have gL := dp_same e36 gL
          have l1 := ft.l1
          have l3 := g.len
          refine sd_ret (K := K) (d := dS (behind m st k to)) (ed_tup (eds_cons (d := dI (behind m st k to).1) (ed_is (ed_catA (ed_catA (ed_slTo (ed_var rfl g0) (ev_var rfl)) (ed_tup (eds_cons (ed_int (ev_var rfl)) eds_nil) (by show 1 ≤ 100000; decide)) ?_) (ed_slFrom (k := k + 1) (ed_var rfl g0) (ev_op (ev_var rfl) ev_c rv_I0)) ?_) ?_) (eds_cons (d := dI (behind m st k to).2.1) (ed_is (ed_tuple (ed_var rfl gL)) ?_) (eds_cons (ed_var rfl g6) eds_nil))) (by show 3 ≤ 100000; decide)) fun v H7 e7 hv => q v H7 (((e1.trans e0).trans e36).trans e7) hv
          · simp only [List.length_take, List.length_map, List.length_cons, List.length_nil]
            omega
          · simp only [List.length_append, List.length_take, List.length_drop, List.length_map, List.length_cons, List.length_nil]
            omega
          · unfold behind dI
            rw [List.append_assoc, List.map_append, List.map_take, List.map_cons, List.map_drop]
            rfl
          · rw [← hL]
            rfl
end
end Ink
namespace Ink
open PySem PySem.Spec PyProof.Rows L2 Evl
/-! ### the law's steps are sorted like the program's -/
def dL (m : List Wr) (s : Std) (x : Mv) : PyData := .tuple [.str x.1, .int (x.2.1 : Int), dS (behind m s x.2.1 x.2.2)]
theorem fz_dL (m : List Wr) (s : Std) (x : Mv) : fz (dL m s x) = true := by
  have h := fz_dS (behind m s x.2.1 x.2.2)
  unfold dL
  simp only [fz, fzAll, h, Bool.and_true]
theorem alike_ints : ∀ a b : List Int, PySem.W.alikeAll (a.map PyData.int) (b.map PyData.int) = true
  | [], _ => by simp only [List.map_nil, PySem.W.alikeAll]
  | _ :: _, [] => by simp only [List.map_cons, List.map_nil, PySem.W.alikeAll]
  | x :: a, y :: b => by simp only [List.map_cons, PySem.W.alikeAll, PySem.W.alike, alike_ints a b, Bool.and_self]
theorem alike_dS (a b : Std) : PySem.W.alike (dS a) (dS b) = true := by
  unfold dS dI
  simp only [PySem.W.alike, PySem.W.alikeAll, alike_ints, Bool.and_self]
theorem alike_dL (m : List Wr) (s : Std) (a b : Mv) : PySem.W.alike (dL m s a) (dL m s b) = true := by
  unfold dL
  simp only [PySem.W.alike, PySem.W.alikeAll, alike_dS, Bool.and_self]
theorem depth_dI (a : List Int) : (dI a).depth ≤ 2 := by
  have := depth_map (f := PyData.int) (n := 1) (l := a) fun x _ => by simp only [PyData.depth]; omega
  unfold dI
  simp only [PyData.depth]
  omega
theorem depth_dS (a : Std) : (dS a).depth ≤ 6 := by
  have h1 := depth_dI a.1
  have h2 := depth_dI a.2.1
  unfold dS
  simp only [PyData.depth, PyData.depthAll]
  omega
theorem depth_dL (m : List Wr) (s : Std) (a : Mv) : (dL m s a).depth ≤ 64 := by
  have h1 := depth_dS (behind m s a.2.1 a.2.2)
  unfold dL
  simp only [PyData.depth, PyData.depthAll]
  omega
theorem lex_tok (x x' : List Nat) (n n' : Int) (r r' : List (Int ⊕ List Nat)) (h : x ≠ x' ∨ n ≠ n') : PyProof.Rows.lexLt PyProof.Rows.itemOrd (.inl 1 :: .inr x :: .inl 1 :: .inl n :: r) (.inl 1 :: .inr x' :: .inl 1 :: .inl n' :: r') = PyProof.Rows.lexLt PyProof.Rows.itemOrd ([.inl 1, .inr x, .inl 1, .inl n] : List (Int ⊕ List Nat)) [.inl 1, .inr x', .inl 1, .inl n'] := by
  rw [PyProof.Rows.lex_self, PyProof.Rows.lex_self]
  by_cases e : x = x'
  · subst e
    have hn : n ≠ n' := h.elim (fun z => absurd rfl z) id
    rw [PyProof.Rows.lex_self, PyProof.Rows.lex_self, PyProof.Rows.lex_self, PyProof.Rows.lex_self]
    have hne : (Sum.inl n : Int ⊕ List Nat) ≠ Sum.inl n' := fun z => hn (by injection z)
    exact PySem.W.lex_atom hne _ _
  · have hne : (Sum.inr x : Int ⊕ List Nat) ≠ Sum.inr x' := fun z => e (by injection z)
    rw [PySem.W.lex_atom hne, PySem.W.lex_atom hne [.inl 1, .inl n]]
theorem toks_mv (a : Mv) : ∃ r, PySem.W.keyToks (dMv a) = .inl 1 :: .inr a.1.cps.toList :: .inl 1 :: .inl (a.2.1 : Int) :: r := by
  unfold dMv
  simp only [PySem.W.keyToks, PySem.W.keyToksAll, List.cons_append, List.nil_append]
  exact ⟨_, rfl⟩
theorem toks_dL (m : List Wr) (s : Std) (a : Mv) : ∃ r, PySem.W.keyToks (dL m s a) = .inl 1 :: .inr a.1.cps.toList :: .inl 1 :: .inl (a.2.1 : Int) :: r := by
  unfold dL
  simp only [PySem.W.keyToks, PySem.W.keyToksAll, List.cons_append, List.nil_append]
  exact ⟨_, rfl⟩
theorem le_tok (x y : PyData) : PySem.W.dataLe false id x y = !PyProof.Rows.lexLt PyProof.Rows.itemOrd (PySem.W.keyToks y) (PySem.W.keyToks x) := rfl
theorem moves_uniq {m : List Wr} (g : GoodM m) {s : Std} {a b : Mv} (ha : a ∈ moves m s) (hb : b ∈ moves m s) (h1 : a.1 = b.1) (h2 : a.2.1 = b.2.1) : a = b := by
  unfold moves at ha hb
  obtain ⟨i, hi, hai⟩ := List.mem_flatMap.mp ha
  obtain ⟨j, hj, hbj⟩ := List.mem_flatMap.mp hb
  unfold movesAt at hai hbj
  split at hai
  · split at hbj
    · obtain ⟨x, hx, rfl⟩ := List.mem_map.mp hai
      obtain ⟨y, hy, rfl⟩ := List.mem_map.mp hbj
      have e : i = j := h2
      subst e
      obtain ⟨x1, x2⟩ := List.mem_filter.mp hx
      obtain ⟨y1, y2⟩ := List.mem_filter.mp hy
      have x2 := of_decide_eq_true x2
      have y2 := of_decide_eq_true y2
      injection x2 with x2
      injection y2 with y2
      have h1 : x.2.1 = y.2.1 := h1
      have no : ∀ u v : Arw, u.1 = v.1 → u.2.1 = v.2.1 → ¬ lessA u v := fun u v e1 e2 h => by
        rcases h with h | ⟨_, h⟩
        · omega
        · rw [e2] at h
          exact List.lt_irrefl _ h
      have rise := (g.at (List.mem_range.mp hi)).rise
      obtain ⟨p, hp, ep⟩ := List.mem_iff_getElem.mp x1
      obtain ⟨q, hq, eq⟩ := List.mem_iff_getElem.mp y1
      have exy : x = y := by
        rcases Nat.lt_trichotomy p q with h | h | h
        · have := (List.pairwise_iff_getElem.mp rise) p q hp hq h
          rw [ep, eq] at this
          exact absurd this (no x y (by omega) h1)
        · subst h
          exact ep.symm.trans eq
        · have := (List.pairwise_iff_getElem.mp rise) q p hq hp h
          rw [ep, eq] at this
          exact absurd this (no y x (by omega) h1.symm)
      rw [exy]
    · cases hbj
  · cases hai
theorem le_same {m : List Wr} (g : GoodM m) {s : Std} {a b : Mv} (ha : a ∈ moves m s) (hb : b ∈ moves m s) : leMv a b = PySem.W.dataLe false id (dL m s a) (dL m s b) := by
  unfold leMv
  rw [le_tok, le_tok]
  by_cases h : a = b
  · subst h
    rw [PyProof.Rows.lex_irrefl, PyProof.Rows.lex_irrefl]
  · obtain ⟨r1, e1⟩ := toks_mv a
    obtain ⟨r2, e2⟩ := toks_mv b
    obtain ⟨r3, e3⟩ := toks_dL m s a
    obtain ⟨r4, e4⟩ := toks_dL m s b
    have hne : b.1.cps.toList ≠ a.1.cps.toList ∨ (b.2.1 : Int) ≠ (a.2.1 : Int) := by
      by_cases h1 : b.1.cps.toList = a.1.cps.toList
      · refine .inr fun h2 => h (moves_uniq g ha hb (PySem.W.str_of_cps h1).symm ?_)
        omega
      · exact .inl h1
    rw [e1, e2, e3, e4, lex_tok _ _ _ _ _ _ hne, lex_tok _ _ _ _ r4 r3 hne]
theorem sort_dL {m : List Wr} (g : GoodM m) (s : Std) : ((moves m s).map (dL m s)).mergeSort (PySem.W.dataLe false id) = ((moves m s).mergeSort leMv).map (dL m s) :=
  (List.map_mergeSort (r := leMv) (s := PySem.W.dataLe false id) (f := dL m s) (l := moves m s) fun a ha b hb => le_same g ha hb).symm
theorem moves_at {m : List Wr} {s : Std} {a : Mv} (h : a ∈ moves m s) : a.2.1 < m.length := by
  unfold moves at h
  obtain ⟨j, hj, hmj⟩ := List.mem_flatMap.mp h
  unfold movesAt at hmj
  split at hmj
  · obtain ⟨y, _, rfl⟩ := List.mem_map.mp hmj
    exact List.mem_range.mp hj
  · cases hmj
theorem movesAt_len {m : List Wr} (g : GoodM m) (s : Std) {i : Nat} (h : i < m.length) : (movesAt m s i).length ≤ 9 := by
  unfold movesAt
  split
  · rw [List.length_map]
    have h1 := List.length_filter_le (fun x : Arw => decide (V.int x.1 = V.int (pl s i))) (wr m i).2.1
    have h2 := (g.at h).len
    omega
  · exact Nat.zero_le _
theorem moves_part {m : List Wr} (g : GoodM m) (s : Std) {i : Nat} (h : i ≤ m.length) : ((List.range i).flatMap (movesAt m s)).length ≤ 27 := by
  refine Nat.le_trans ?_ (moves_len g s)
  unfold moves
  have : (List.range m.length) = List.range i ++ (List.range (m.length - i)).map (i + ·) := by
    rw [← List.range_add]
    congr 1
    omega
  rw [this, List.flatMap_append, List.length_append]
  omega
section
variable {P : Program} {w : World} {K : PySem.W.Frag} {mg : Str → Option Value} {base : Heap}
theorem range_get {n i : Nat} {d : PyData} (h : ((List.range n).map fun (i : Nat) => PyData.int (i : Int))[i]? = some d) : i < n ∧ d = .int (i : Int) := by
  have hi : i < n := by
    have := (List.getElem?_eq_some_iff.mp h).1
    rw [List.length_map, List.length_range] at this
    exact this
  rw [List.getElem?_map, List.getElem?_range hi] at h
  exact ⟨hi, (Option.some.inj h).symm⟩
/-- a contract of data alone, told in a new list -/
def spN (K : PySem.W.Frag) (R : List PyData → List PyData → Prop) : Sp := fun vs H Q _ => ∃ ds es, DpAll K H vs ds ∧ R ds es ∧ ∀ p us H', H p = none → Same H H' → H' p = some (.lst us) → DpAll K H' us es → Q (.ref p) H'
theorem en_call {σ : L2.St} {H : Hp} {R : List PyData → List PyData → Prop} {E : XK} {ta : TA} {ds es : List PyData} (h : EvDs K ta σ H ds) (hR : R ds es) : EvN K (tCall (spN K R) [] E ta) σ H es := fun H1 e Q q =>
  h H1 e _ fun vs H2 e2 hds => by
    show spN K R (vs ++ []) H2 Q E
    rw [List.append_nil]
    exact ⟨ds, es, hds, hR, fun p us H3 np s3 hp hd => q p us H3 (fresh_back e2 np) (e2.trans s3) hp hd⟩
theorem sd_retN {σ : L2.St} {H : Hp} {te : TE} {D : Ends} {ds : List PyData} (h : EvN K te σ H ds) (k : ∀ p vs H1, H p = none → Ex H H1 → H1 p = some (.lst vs) → DpAll K H1 vs ds → D.rt (.ref p) H1) : tRet te D σ H := h H (.refl H) _ k
def RLN : List PyData → List PyData → Prop := fun ds es => ∃ m s, GoodM m ∧ Okay m s ∧ ds = [dMl m, dS s] ∧ es = (stepsOf m s).map dStep
theorem ok_lsteps {f : Addr} {fd : FuncData} {k : Nat} (F : Fun K "_law_steps" "_law_steps" sLSteps f fd) (T : Txt mg) (C__law_can : Cal P w K mg base k "_law_can" ["_law_m", "_law_stand", "_law_spot"] (spP K RCan))
    (C__law_arrows : Cal P w K mg base k "_law_arrows" ["_law_writer_here", "_law_place"] (spP K RArrs)) (C__law_after : Cal P w K mg base k "_law_after" ["_law_m", "_law_stand", "_law_spot", "_law_to"] (spP K RAfter)) : FnOk P w K mg base CX0 (k + 1) f fd ["_law_m", "_law_stand"] (spN K RLN) := by
  refine F.ok sc__law_steps (fun vs H Q E h => ?_) (fun cdv A outer s H vs Q E hr h => ?_)
  · obtain ⟨ds, d, hd, ⟨m, s, _, _, rfl, _⟩, _⟩ := h
    exact hd.length
  · obtain ⟨ds, d, hd, ⟨m, st, g, ft, rfl, rfl⟩, q⟩ := h
    obtain ⟨v0, v1, rfl, h0, h1⟩ := dps2 hd
    refine ⟨_, (pss_cons (ps_set (i := 2) sc__law_steps.nd rfl (.inl rfl) (pe_lst pa_nil))
    (pss_cons (ps_for PassesOwn.never rfl (pi_range1 (by rfl) T.m_range (pa_cons (pe_callB call_len (by rfl) T.m_len PySem.boot_len (pa_cons (pv 0) pa_nil)) pa_nil)) (pg_name (i := 3) sc__law_steps.nd rfl (.inr rfl))
    (pss_one (ps_if (pt_val (pe_callC C__law_can hr (by rfl) (pa_cons (pv 0) (pa_cons (pv 1) (pa_cons (pv 3) pa_nil)))))
    (pss_cons (ps_set (i := 4) sc__law_steps.nd rfl (.inl rfl) (pe_callC C__law_arrows hr (by rfl) (pa_cons (pe_ix ix_list (pv 0) (pv 3) (fun _ _ => rfl)) (pa_cons (pe_ix ix_tup (pe_ix ix_tup (pv 1) pe_int (fun _ _ => rfl)) (pv 3) (fun _ _ => rfl)) pa_nil))))
    (pss_one (ps_set (i := 2) sc__law_steps.nd rfl (.inl rfl) (pe_op op_cat (pv 2) (pe_lc (own := [("_law_sign", 5), ("_law_to", 6)]) (g := (gTup K 2 (gCons (gName 5) (gCons (gName 6) gNil)))) (by rfl) sc__law_steps.nd (pi_list (pv 4)) (blkOk_by (own := [("_law_sign", 5), ("_law_to", 6)]) (N := ["_law_m", "_law_stand", "_law_found", "_law_spot", "_law_some", "_law_sign", "_law_to", "_law_later"]) (sc := defScope sLSteps) (by decide +kernel)) (fun _ _ _ _ _ => (pg_tup rfl (pgs_cons (pg_name (i := 5) sc__law_steps.nd rfl (.inl rfl)) (pgs_cons (pg_name (i := 6) sc__law_steps.nd rfl (.inl rfl)) pgs_nil)))) (fun _ _ _ _ _ => pts_nil) (fun _ _ _ _ _ => (pe_tup (pa_cons (pv 5) (pa_cons (pv 3) (pa_cons (pe_callC C__law_after hr (by rfl) (pa_cons (pv 0) (pa_cons (pv 1) (pa_cons (pv 3) (pa_cons (pv 6) pa_nil))))) pa_nil)))))))))) pss_nil)))
    (pss_one (ps_ret (pe_lc (own := [("_law_sign", 5), ("_law_spot", 3), ("_law_later", 7)]) (g := (gTup K 3 (gCons (gName 5) (gCons (gName 3) (gCons (gName 7) gNil))))) (by rfl) sc__law_steps.nd (pi_list (pe_callB (cr_sortedD (hu9 hr)) (by rfl) T.m_sorted (by decide +kernel) (pa_cons (pv 2) pa_nil))) (blkOk_by (own := [("_law_sign", 5), ("_law_spot", 3), ("_law_later", 7)]) (N := ["_law_m", "_law_stand", "_law_found", "_law_spot", "_law_some", "_law_sign", "_law_to", "_law_later"]) (sc := defScope sLSteps) (by decide +kernel)) (fun _ _ _ _ _ => (pg_tup rfl (pgs_cons (pg_name (i := 5) sc__law_steps.nd rfl (.inl rfl)) (pgs_cons (pg_name (i := 3) sc__law_steps.nd rfl (.inl rfl)) (pgs_cons (pg_name (i := 7) sc__law_steps.nd rfl (.inl rfl)) pgs_nil))))) (fun _ _ _ _ _ => pts_nil) (fun _ _ _ _ _ => (pe_tup (pa_cons (pv 5) (pa_cons (pe_ix (show IxR _ (rIxT K) from ix_tup) (pe_ix (show IxR _ (rIxL K) from ix_list) (pv 0) (pv 3) (fun _ _ => rfl)) pe_int (fun _ _ => rfl)) (pa_cons (pv 7) pa_nil)))))))))), ?_⟩
    refine sd_asgN (K := K) (en_lst eds_nil (by decide)) fun p vs H1 np e1 hp hvs => ?_
    cases hvs
    dsimp only
    have h0 := dp_same e1 h0
    have h1 := dp_same e1 h1
    have ml := moves_len g st
    refine sd_forS (K := K) (ei_range (ea_cons (ev_is (ev_lenD (ed_var rfl h0) (.inl rfl)) (by rw [List.length_map])) ea_nil) (m_le g (by decide))) (fun H2 i σ' H' => ∃ y3 y4 fp vs, σ' = [some v0, some v1, some (.ref fp), y3, y4, none, none, none] ∧ Ex H2 H' ∧ H' fp = some (.lst vs) ∧ DpAll K H' vs (((List.range i).flatMap (movesAt m st)).map (dL m st)))
      (fun H2 e2 => ⟨none, none, p, [], rfl, .refl _, e2 _ _ hp, .nil⟩) (fun H2 i σ' H' hP => by obtain ⟨_, _, _, _, _, e, _⟩ := hP; exact e) (fun H2 i d x σ' Ha Hb e2 hd hP eab hx => ?_) (fun H2 σ' H' e2 hP => ?_)
    · obtain ⟨y3, y4, fp, vs, rfl, ex, hfp, hvs⟩ := hP
      obtain ⟨hi, rfl⟩ := range_get hd
      obtain rfl := dp_int hx
      have e12 : Ex H1 Hb := (e2.trans ex).trans eab
      have h0 := dp_same e12 h0
      have h1 := dp_same e12 h1
      have hfp := eab _ _ hfp
      have hvs := dps_same eab hvs
      have ef : (List.range (i + 1)).flatMap (movesAt m st) = (List.range i).flatMap (movesAt m st) ++ movesAt m st i := by
        rw [List.range_succ, List.flatMap_append, List.flatMap_cons, List.flatMap_nil, List.append_nil]
      have lb := moves_part g st (Nat.le_of_lt hi)
      have l9 := movesAt_len g st hi
      refine s_if (b := mayW m st i) (et_B (ev_bl (ed_call (eds_cons (ed_var rfl h0) (eds_cons (ed_var rfl h1) (eds_cons (ed_var rfl (.int _)) eds_nil))) ⟨m, st, i, g, ft, hi, rfl, rfl⟩))) (fun hb H3 e3 => ?_) fun hb H3 e3 => ?_
      · have h0 := dp_same e3 h0
        have h1 := dp_same e3 h1
        have emv : movesAt m st i = (arrsAt (wr m i) (pl st i)).map fun x => (x.2.1, i, x.2.2) := by
          unfold movesAt arrsAt
          rw [if_pos hb]
        have hgi := g.at hi
        refine sd_asg (K := K) (d := .list ((arrsAt (wr m i) (pl st i)).map dP)) (ed_call (eds_cons (ed_ixL (ed_var rfl h0) (ev_var rfl) (by omega) (dW_get hi)) (eds_cons (ed_ixT (ed_ixT (ed_var rfl h1) ev_c (by decide) rfl) (ev_var rfl) (by omega) (dI_get (by rw [ft.l1]; exact hi))) eds_nil)) ⟨wr m i, pl st i, hgi.len, rfl, rfl⟩) fun w4 H4 e4 g4 => ?_
        have h0 := dp_same e4 h0
        have h1 := dp_same e4 h1
        dsimp only
        refine sd_asgN (K := K) (en_cat (ds := ((List.range i).flatMap (movesAt m st)).map (dL m st)) (es := (movesAt m st i).map (dL m st)) (em_var rfl ((e3.trans e4) _ _ hfp) (dps_same (e3.trans e4) hvs)) (EvN.m ?_) ?_) fun fp2 vs2 H5 np5 e5 hp5 hvs5 => ?_
        · rw [emv, List.map_map]
          rw [emv, List.length_map] at l9
          refine en_map (arrsAt (wr m i) (pl st i)) dP _ (ei_lst (ed_var rfl g4)) (by omega) (fun x _ => fz_dL m st (x.2.1, i, x.2.2)) fun j a H6 x hx e6 hdx R kk => tg2 hdx fun u1 u2 b1 b2 => ?_
          exact kk _ rfl (ed_tup (eds_cons (ed_var rfl b1) (eds_cons (ed_int (ev_var rfl)) (eds_cons (ed_call (eds_cons (ed_var rfl (dp_same e6 h0)) (eds_cons (ed_var rfl (dp_same e6 h1)) (eds_cons (ed_var rfl (.int _)) (eds_cons (ed_var rfl b2) eds_nil)))) ⟨m, st, i, a.2.2, g, ft, hi, rfl, rfl⟩) eds_nil))) (by show 3 ≤ 100000; decide))
        · rw [List.length_map, List.length_map]
          omega
        · refine ⟨_, _, fp2, vs2, rfl, ((ex.trans eab).trans (e3.trans e4)).trans e5, hp5, ?_⟩
          rw [ef, List.map_append]
          exact hvs5
      · have emv : movesAt m st i = [] := by
          unfold movesAt
          rw [if_neg (by rw [hb]; exact Bool.false_ne_true)]
        refine ⟨_, _, fp, vs, rfl, (ex.trans eab).trans e3, e3 _ _ hfp, ?_⟩
        rw [ef, emv, List.append_nil]
        exact dps_same e3 hvs
    · obtain ⟨y3, y4, fp, vs, rfl, ex, hfp, hvs⟩ := hP
      rw [List.length_map, List.length_range] at hvs
      have hvs : DpAll K H' vs ((moves m st).map (dL m st)) := hvs
      have h0 := dp_same (e2.trans ex) h0
      dsimp only
      refine sd_retN (K := K) (ds := (stepsOf m st).map dStep) ?_ fun p2 us H3 np3 e3 hp3 hus => q p2 us H3 (Same.free ((e1.trans e2).trans ex) np3) (((e1.trans e2).trans ex).trans e3) hp3 hus
      unfold stepsOf
      rw [List.map_map]
      refine en_map ((moves m st).mergeSort leMv) (dL m st) _ ?_ (by rw [List.length_mergeSort]; omega) (fun x _ => fz_dStep (x.1, (wr m x.2.1).1, behind m st x.2.1 x.2.2)) fun j a H5 x hx e5 hdx R kk => tg3 hdx fun u1 u2 u3 b1 b2 b3 => ?_
      · rw [← sort_dL g]
        exact ei_lst (EvN.list (en_sorted (ed_var rfl (.lst (.of hfp) hvs)) (PySem.W.AllAlike.of (alike_dL m st)) (PySem.W.Sortable.tuples fun b => ⟨_, _, rfl⟩) (fun d hd => by
          obtain ⟨a, _, rfl⟩ := List.mem_map.mp hd
          exact depth_dL m st a)))
      · obtain rfl := dp_int b2
        have ha : a.2.1 < m.length := by
          have hm := List.mem_of_getElem? hx
          rw [List.mem_mergeSort] at hm
          exact moves_at hm
        exact kk _ rfl (ed_tup (eds_cons (ed_var rfl b1) (eds_cons (ed_ixT (ed_ixL (ed_var rfl (dp_same e5 h0)) (ev_var rfl) (by omega) (dW_get ha)) ev_c (by decide) rfl) (eds_cons (ed_var rfl b3) eds_nil))) (by show 3 ≤ 100000; decide))
end
end Ink
namespace Ink
open PySem PySem.Spec PyProof.Rows L2 Evl
/-! ### the law's draws of companies and stands -/
def MAt (K : PySem.W.Frag) (H : Hp) (a p : Addr) (m : List Wr) : Prop := ∃ vs, H p = some (.lst vs) ∧ DpAll K H vs (m.map dW) ∧ p ≠ a
theorem fz_dWs (m : List Wr) : fzAll (m.map dW) = true := fz_map fun x _ => fz_dW x
theorem MAt.keep {K : PySem.W.Frag} {H H' : Hp} {a l p : Addr} {m : List Wr} (b : BagAt H a l) (k : Keep a H H') (h : MAt K H a p m) : MAt K H' a p m := by
  obtain ⟨vs, h1, h2, h3⟩ := h
  exact ⟨vs, k p _ h3 h1, dps_keep b k (fz_dWs m) h2, h3⟩
theorem MAt.same {K : PySem.W.Frag} {H H' : Hp} {a p : Addr} {m : List Wr} (e : Same H H') (h : MAt K H a p m) : MAt K H' a p m := by
  obtain ⟨vs, h1, h2, h3⟩ := h
  exact ⟨vs, e _ _ h1, dps_same e h2, h3⟩
theorem MAt.kx {K : PySem.W.Frag} {H H' : Hp} {a p : Addr} {m : List Wr} (e : KX H H') (h : MAt K H a p m) : MAt K H' a p m := by
  obtain ⟨vs, h1, h2, h3⟩ := h
  exact ⟨vs, e.lst h1, e.dps h2, h3⟩
theorem MAt.dp {K : PySem.W.Frag} {H : Hp} {a p : Addr} {m : List Wr} (h : MAt K H a p m) : Dp K H (.ref p) (dMl m) := by
  obtain ⟨vs, h1, h2, h3⟩ := h
  exact .lst (.of h1) h2
/-- other lists change -/
theorem MAt.upd {K : PySem.W.Frag} {H : Hp} {a p q : Addr} {m : List Wr} {xs : List V} {o : HO} (n : p ≠ q) (hq : H q = some (.lst xs)) (h : MAt K H a p m) : MAt K (upd H q o) a p m := by
  obtain ⟨vs, h1, h2, h3⟩ := h
  exact ⟨vs, by rw [upd_ne n]; exact h1, dps_tk (.lst hq) (fz_dWs m) h2, h3⟩
theorem wr_dp {K : PySem.W.Frag} {H : Hp} {W : Addr} {z : Str} {ar : List Arw} {p c : Int} (h : WrAt H W z ar p c) : Dp K H (.ref W) (dW (z, ar, p, c)) := by
  obtain ⟨tp, ps, h1, h2, h3⟩ := h
  have : DpAll K H (ps.map V.ref) (ar.map dA) := by
    unfold ArsAt at h3
    clear h1 h2
    induction h3 with
    | nil => exact .nil
    | @cons p x ps ar r t ih =>
      unfold ArwAt at r
      exact .cons (.tup (.of r) (.cons (.int _) (.cons (.str _) (.cons (.int _) .nil)))) ih
  exact .tup (.of h1) (.cons (.str z) (.cons (.tup (.of h2) this) (.cons (.int p) (.cons (.int c) .nil))))
def spComp (K : PySem.W.Frag) : Sp := fun vs H Q _ => ∃ (a l sp : Addr) (m : Int) (cs : List Nat), vs = [.ref a, .int m, .ref sp] ∧ BagAt H a l ∧ 1 ≤ m ∧ m ≤ 3 ∧ H sp = some (.lst ((cs.map single).map V.str)) ∧ sp ≠ a ∧ (∀ c ∈ cs, c ∈ lets) ∧ cs.Pairwise (· < ·) ∧
  ∀ p ms H', H p = none → GoodM ms → 1 ≤ ms.length → MAt K H' a p ms → BagAt H' a l → Keep a H H' → Q (.ref p) H'
def spAny (K : PySem.W.Frag) : Sp := fun vs H Q _ => ∃ (a l p : Addr) (m : List Wr), vs = [.ref a, .ref p] ∧ BagAt H a l ∧ MAt K H a p m ∧ GoodM m ∧ ∀ v s H', Okay m s → Dp K H' v (dS s) → BagAt H' a l → Keep a H H' → Q v H'
section
variable {P : Program} {w : World} {K : PySem.W.Frag} {mg : Str → Option Value} {base : Heap}
theorem thick_of {v : V} (h : v ∈ [V.int 3, V.int 5, V.int 7, V.int 8]) : ∃ t : Int, v = .int t := by
  simp only [List.mem_cons, List.not_mem_nil, or_false] at h
  rcases h with rfl | rfl | rfl | rfl <;> exact ⟨_, rfl⟩
theorem ok_company {f : Addr} {fd : FuncData} {k : Nat} (F : Fun K "_law_company" "_law_company" sLCompany f fd) (T : Txt mg)
    (C__law_pull : Cal P w K mg base k "_law_pull" ["_law_bag_here", "_law_many"] spPull) (C__law_of : Cal P w K mg base k "_law_of" ["_law_bag_here", "_law_things"] (spOf K))
    (C__law_names : Cal P w K mg base k "_law_names" ["_law_bag_here", "_law_many"] spNames) (C__law_writer : Cal P w K mg base k "_law_writer" ["_law_bag_here", "_law_name", "_law_places", "_law_signs_here", "_law_thick"] spWriter) :
    FnOk P w K mg base CX0 (k + 1) f fd ["_law_bag_here", "_law_limit", "_law_signs_here"] (spComp K) := by
  refine F.ok sc__law_company (fun vs H Q E h => ?_) (fun cdv A outer s H vs Q E hr h => ?_)
  · obtain ⟨a, l, sp, m, cs, rfl, _⟩ := h
    rfl
  · obtain ⟨a, l, sp, m, cs, rfl, hB, m1, m3, hsp, nsp, hcs, hrise, q⟩ := h
    refine ⟨_, (pss_cons (ps_par (i := 3) (j := 4) (by rfl) sc__law_company.nd rfl rfl (by decide) rfl rfl (pa_cons (pe_callC C__law_of hr (by rfl) (pa_cons (pv 0) (pa_cons (pe_lst (pa_cons pe_int (pa_cons pe_int (pa_cons pe_int (pa_cons pe_int pa_nil))))) pa_nil))) (pa_cons (pe_lst pa_nil) pa_nil)) (by rfl))
    (pss_cons (ps_for PassesOwn.never rfl (pi_list (pe_callC C__law_names hr (by rfl) (pa_cons (pv 0) (pa_cons (pe_op op_add pe_int (pe_callC C__law_pull hr (by rfl) (pa_cons (pv 0) (pa_cons (pv 1) pa_nil)))) pa_nil)))) (pg_name (i := 5) sc__law_company.nd rfl (.inl rfl))
    (pss_one (ps_expr (pe_bm PySem.F.plainAttrs_list PySem.F.slot_list_append PySem.F.type_list_append mt_append (pv 4) (pa_cons (pe_callC C__law_writer hr (by rfl) (pa_cons (pv 0) (pa_cons (pv 5) (pa_cons (pe_op op_add pe_int (pe_callC C__law_pull hr (by rfl) (pa_cons (pv 0) (pa_cons pe_int pa_nil)))) (pa_cons (pv 2) (pa_cons (pv 3) pa_nil)))))) pa_nil)))))
    (pss_one (ps_ret (pv 4))))), ?_⟩
    refine ⟨.ref a, rfl, by show 4 ≤ sizeLine; decide, fun p2 np2 => ?_⟩
    refine ⟨a, l, _, _, rfl, hB.upd (hB.ne np2), .inl ⟨p2, rfl, (hB.ne np2).1.symm, .inl (.of upd_same)⟩, by decide, by decide, fun v H1 hv hB1 k1 => ?_⟩
    obtain ⟨t, rfl⟩ := thick_of hv
    have k1 : Keep a H H1 := (Keep.of_same (same_new np2)).trans k1
    refine ⟨by show 0 ≤ sizeLine; decide, fun fp nfp => ?_⟩
    have k2 := k1.trans (Keep.of_same (same_new (o := .lst ([] : List V)) nfp))
    have hB2 := hB1.upd (o := .lst ([] : List V)) (hB1.ne nfp)
    have nl := hB1.ne nfp
    have nfa : fp ≠ a := nl.1.symm
    have hfp : (upd H1 fp (.lst ([] : List V))) fp = some (.lst []) := upd_same
    have hsp2 := k2 _ _ nsp hsp
    have nfsp : sp ≠ fp := ne_of_none (k1 _ _ nsp hsp) nfp
    generalize upd H1 fp (.lst ([] : List V)) = H2 at k2 hB2 hfp hsp2
    refine ⟨_, _, rfl, ?_⟩
    refine ⟨.ref a, rfl, .ref a, rfl, .int m, rfl, a, l, m, rfl, hB2, by omega, by omega, fun r H3 r0 r1 hB3 k3 => ⟨1, r, rfl, rfl, ?_⟩⟩
    refine ⟨a, l, 1 + r, rfl, hB3, by omega, by omega, fun np zs H4 nnp hlen hz hnd hnp hB4 k4 => ?_⟩
    have hnfp : np ≠ fp := fun z => by
      have := k3 _ _ nfa hfp
      rw [z, this] at nnp
      cases nnp
    have nnpa : np ≠ a := fun z => by
      obtain ⟨_, _, _, _, e, _⟩ := hB3
      rw [z, e] at nnp
      cases nnp
    have nfpH : H fp = none := Keep.free k1 nfa.symm nfp
    have k24 := k3.trans k4
    refine ⟨np, rfl, ⟨_, .of hnp⟩, for_it (walk_list (K := K) (xs := zs.map V.str)) (fun i σ' H' => (∃ y5, σ' = [some (.ref a), some (.int m), some (.ref sp), some (.int t), some (.ref fp), y5]) ∧ BagAt H' a l ∧ Keep a H H' ∧ H' np = some (.lst (zs.map V.str)) ∧
      ∃ vs ms, H' fp = some (.lst vs) ∧ DpAll K H' vs (ms.map dW) ∧ ms.map (·.1) = zs.take i ∧ ∀ w ∈ ms, GoodW w.1 w.2.1 w.2.2.1 w.2.2.2) ⟨⟨none, rfl⟩, hB4, k2.trans k24, hnp, [], [], k24 _ _ nfa hfp, .nil, rfl, fun _ h => (by cases h)⟩ (fun i σ' H' _ hP => .of hP.2.2.2.1) (fun i x σ' Ha Hb hi hP hy => ?_) (fun σ' H' hP => ?_)⟩
    · obtain ⟨⟨y5, rfl⟩, hB5, k5, hnp5, vs, ms, hfp5, hvs, hns, hgs⟩ := hP
      obtain ⟨rfl, hx⟩ := hy
      rw [List.getElem?_map] at hx
      rw [List.length_map] at hi
      rw [List.getElem?_eq_getElem hi] at hx
      obtain rfl := (Option.some.inj hx).symm
      have hzi := hz _ (List.getElem_mem hi)
      have hvl : vs.length ≤ 20 := by
        have h1 := hvs.length
        have h2 := congrArg List.length hns
        rw [List.length_map] at h1 h2
        rw [List.length_take] at h2
        omega
      refine ⟨.ref fp, rfl, .inl ⟨rfl, _, .of hfp5⟩, ?_⟩
      refine ⟨.ref a, rfl, .str _, rfl, .ref a, rfl, a, l, 3, rfl, hB5, by decide, by decide, fun r' H6 r0' r1' hB6 k6 => ⟨1, r', rfl, rfl, ?_⟩⟩
      refine ⟨.ref sp, rfl, .int t, rfl, a, l, zs[i], 1 + r', sp, cs, t, rfl, hB6, hzi, by omega, by omega, k6 _ _ nsp (k5 _ _ nsp hsp), nsp, hcs, hrise, fun W ar p c H7 nW hW hG hB7 k7 => ?_⟩
      have k67 := k6.trans k7
      have hfp7 := k67 _ _ nfa hfp5
      have hvs7 := dps_keep hB5 k67 (fz_dWs ms) hvs
      refine ⟨fp, vs, .ref W, rfl, rfl, hfp7, small_lt (by omega), ⟨_, rfl⟩, hB7.upd nl, Keep.mut (k5.trans k67) nfpH, by rw [upd_ne hnfp]; exact k67 _ _ nnpa hnp5, _, ms ++ [(zs[i], ar, p, c)], upd_same, ?_, ?_, ?_⟩
      · rw [List.map_append]
        exact (dps_tk (.lst hfp7) (fz_dWs ms) hvs7).app (.one (dp_tk (.lst hfp7) (fz_dW _) (wr_dp hW)))
      · rw [List.map_append, hns, take_snoc (List.getElem?_eq_getElem hi)]
        rfl
      · intro w hw
        rcases List.mem_append.mp hw with hw | hw
        · exact hgs w hw
        · rw [List.mem_singleton.mp hw]
          exact hG
    · obtain ⟨⟨y5, rfl⟩, hB5, k5, hnp5, vs, ms, hfp5, hvs, hns, hgs⟩ := hP
      rw [List.length_map, List.take_length] at hns
      have hl := congrArg List.length hns
      rw [List.length_map] at hl
      exact ⟨.ref fp, rfl, q fp ms H' nfpH ⟨by omega, hgs, by rw [hns]; exact hnd⟩ (by omega) ⟨vs, hfp5, hvs, nfa⟩ hB5 k5⟩
def iFix (J : It) : TI := fun _ H R => R J H
theorem rng_use {σ : L2.St} {H : Hp} {ta : TA} {n : Nat} {rT : List V → Hp → VK → Prop} {g gn : TG} {tt : TT} {te : TE} {vs : List Nat} {D : Ends} (h : EvA ta σ H [.int (n : Int)]) (hn : n ≤ 100000)
    (k : ∀ H1, Ex H H1 → tAsg (tCB rT (tCons (tLc (iFix (Itr 0 (n : Int).toNat)) g tt te vs) tNil)) gn D σ H1) : tAsg (tCB rT (tCons (tLc (iRng1 ta) g tt te vs) tNil)) gn D σ H := h H (.refl H) _ fun H1 e => ⟨(n : Int), rfl, by omega, by omega, k H1 e⟩
theorem ints_shaped (ns : List Int) : SeqAt.shaped (.list (ns.map PyData.int)) = true := by
  have h1 : PyData.canLayAll0 (ns.map PyData.int) = true := lay_map fun x _ => by simp only [PyData.canLay0]
  have h2 := depth_map (f := PyData.int) (n := 1) (l := ns) fun x _ => by simp only [PyData.depth]; omega
  unfold SeqAt.shaped
  rw [Bool.and_eq_true, decide_eq_true_eq]
  refine ⟨by simp only [PyData.canLay0]; exact h1, ?_⟩
  simp only [PyData.depth]
  omega
theorem q_ifOr {σ : L2.St} {H : Hp} {t u : TT} {tu tz : TS} {D : Ends} {b : Bool} (h : EvT t σ H b) (h1 : b = true → ∀ H1, Ex H H1 → tu { D with nx := tz D } σ H1) (h2 : b = false → ∀ H1, Ex H H1 → tSeq (tIfS u tu tNext) tz D σ H1) : tSeq (tIfS (tOr t u) tu tNext) tz D σ H := h H (.refl H) _ fun H1 e => by
  cases b with
  | true => exact h1 rfl H1 e
  | false => exact h2 rfl H1 e
theorem minds_p (m : List Wr) (s s' : Std) (k : Nat) (h : s.1 = s'.1) : minds m s k = minds m s' k := by
  unfold minds pl
  rw [h]
end
end Ink
namespace Ink
open PySem PySem.Spec PyProof.Rows L2 Evl
/-! ### told alike -/
def okD : Nat → PyData → Prop
  | 0, _ => False
  | n + 1, .list ds => ds.length ≤ 100000 ∧ ∀ d ∈ ds, okD n d
  | n + 1, .tuple ds => ds.length ≤ 100000 ∧ ∀ d ∈ ds, okD n d
  | _ + 1, .dict _ => False
  | _ + 1, .none => True
  | _ + 1, .bool _ => True
  | _ + 1, .int _ => True
  | _ + 1, .str _ => True
theorem lk_dp {K : PySem.W.Frag} {H : Hp} : ∀ (n : Nat) (d : PyData) (v w : V), okD n d → Dp K H v d → Dp K H w d → Lk K H n v w
  | 0, _, _, _, h, _, _ => h.elim
  | n + 1, .none, _, _, _, h1, h2 => by rw [dp_non h1, dp_non h2]; exact .inl ⟨rfl, rfl⟩
  | n + 1, .bool _, _, _, _, h1, h2 => by rw [dp_bl h1, dp_bl h2]; exact .inl ⟨rfl, rfl⟩
  | n + 1, .int _, _, _, _, h1, h2 => by rw [dp_int h1, dp_int h2]; exact .inl ⟨rfl, rfl⟩
  | n + 1, .str _, _, _, _, h1, h2 => by rw [dp_str h1, dp_str h2]; exact .inl ⟨rfl, rfl⟩
  | n + 1, .list ds, _, _, h, h1, h2 => by
    obtain ⟨p, xs, rfl, hp, hxs⟩ := dp_lst h1
    obtain ⟨q, ys, rfl, hq, hys⟩ := dp_lst h2
    have l1 := hxs.length
    have l2 := hys.length
    have h0 := h.1
    refine .inr ⟨p, q, xs, ys, rfl, rfl, .inl ⟨hp, hq⟩, by omega, by omega, fun i x y hx hy => ?_⟩
    obtain ⟨d1, e1, g1⟩ := hxs.at hx
    obtain ⟨d2, e2, g2⟩ := hys.at hy
    rw [e1] at e2
    obtain rfl := Option.some.inj e2
    exact lk_dp n d1 x y (h.2 d1 (List.mem_of_getElem? e1)) g1 g2
  | n + 1, .tuple ds, _, _, h, h1, h2 => by
    obtain ⟨p, xs, rfl, hp, hxs⟩ := dp_tup h1
    obtain ⟨q, ys, rfl, hq, hys⟩ := dp_tup h2
    have l1 := hxs.length
    have l2 := hys.length
    have h0 := h.1
    refine .inr ⟨p, q, xs, ys, rfl, rfl, .inr ⟨hp, hq⟩, by omega, by omega, fun i x y hx hy => ?_⟩
    obtain ⟨d1, e1, g1⟩ := hxs.at hx
    obtain ⟨d2, e2, g2⟩ := hys.at hy
    rw [e1] at e2
    obtain rfl := Option.some.inj e2
    exact lk_dp n d1 x y (h.2 d1 (List.mem_of_getElem? e1)) g1 g2
theorem ok_dI {n : Nat} (ns : List Int) (h : ns.length ≤ 100000) : okD (n + 2) (dI ns) := ⟨by rw [List.length_map]; exact h, fun d hd => by
  obtain ⟨x, _, rfl⟩ := List.mem_map.mp hd
  exact True.intro⟩
theorem ok_dS {n : Nat} (s : Std) (h1 : s.1.length ≤ 100000) (h2 : s.2.1.length ≤ 100000) : okD (n + 3) (dS s) := ⟨by show 3 ≤ 100000; decide, fun d hd => by
  simp only [List.mem_cons, List.not_mem_nil, or_false] at hd
  rcases hd with rfl | rfl | rfl
  · exact ok_dI _ h1
  · exact ok_dI _ h2
  · exact ⟨by show 2 ≤ 100000; decide, fun d hd => by
      simp only [List.mem_cons, List.not_mem_nil, or_false] at hd
      rcases hd with rfl | rfl <;> exact True.intro⟩⟩
theorem ok_dStep {n : Nat} (x : Str × Str × Std) (h1 : x.2.2.1.length ≤ 100000) (h2 : x.2.2.2.1.length ≤ 100000) : okD (n + 4) (dStep x) := ⟨by show 3 ≤ 100000; decide, fun d hd => by
  simp only [List.mem_cons, List.not_mem_nil, or_false] at hd
  rcases hd with rfl | rfl | rfl
  · exact True.intro
  · exact True.intro
  · exact ok_dS _ h1 h2⟩
theorem steps_in {m : List Wr} {s : Std} {x : Str × Str × Std} (h : x ∈ stepsOf m s) : ∃ k to, k < m.length ∧ mayW m s k = true ∧ x = (x.1, (wr m k).1, behind m s k to) ∧ ∃ y ∈ (wr m k).2.1, x.1 = y.2.1 := by
  unfold stepsOf at h
  obtain ⟨y, hy, rfl⟩ := List.mem_map.mp h
  rw [List.mem_mergeSort] at hy
  have hk := moves_at hy
  unfold moves at hy
  obtain ⟨j, hj, hmj⟩ := List.mem_flatMap.mp hy
  unfold movesAt at hmj
  split at hmj
  · obtain ⟨z, hz, rfl⟩ := List.mem_map.mp hmj
    exact ⟨j, z.2.2, hk, ‹_›, rfl, z, (List.mem_filter.mp hz).1, rfl⟩
  · cases hmj
theorem behind_fits {m : List Wr} {s : Std} (f : Fits m s) {k : Nat} (hk : k < m.length) (to : Int) : Fits m (behind m s k to) := by
  have l1 := f.l1
  have l2 := f.l2
  refine ⟨?_, ?_⟩
  · unfold behind
    simp only [List.length_append, List.length_cons, List.length_take, List.length_drop]
    omega
  · unfold behind
    simp only [List.length_map, List.length_range]
    exact l2
theorem ok_steps_data {m : List Wr} (g : GoodM m) {s : Std} (f : Fits m s) : okD 5 (.list ((stepsOf m s).map dStep)) := by
  have ml := moves_len g s
  refine ⟨?_, fun d hd => ?_⟩
  · rw [List.length_map]
    unfold stepsOf
    rw [List.length_map, List.length_mergeSort]
    omega
  · obtain ⟨x, hx, rfl⟩ := List.mem_map.mp hd
    obtain ⟨k, to, hk, _, e, _⟩ := steps_in hx
    have l3 := g.len
    have f2 := behind_fits f hk to
    rw [e]
    refine ok_dStep _ ?_ ?_
    · have := f2.l1
      show (behind m s k to).1.length ≤ 100000
      omega
    · have := f2.l2
      show (behind m s k to).2.1.length ≤ 100000
      omega
theorem CoAt.more {P : Program} {w : World} {K : PySem.W.Frag} {C : Addr} {H : Hp} {c : Addr} {m : List Wr} {n n' : Nat} (h : CoAt P w K C H c m n) (hn : n ≤ n') : CoAt P w K C H c m n' := by
  obtain ⟨dx, tw, d, kvs, h1, h2, h3, h4, h5⟩ := h
  exact ⟨dx, tw, d, kvs, h1, h2, h3, h4, Nat.le_trans h5 hn⟩
section
variable {P : Program} {w : World} {K : PySem.W.Frag} {mg : Str → Option Value} {base : Heap}
theorem nsteps1 : ¬ (("steps" : Str) = "_found") := by decide +kernel
theorem nsteps2 : ¬ (("steps" : Str) = "_writers") := by decide +kernel
theorem nbegin1 : ¬ (("begin" : Str) = "_found") := by decide +kernel
theorem nbegin2 : ¬ (("begin" : Str) = "_writers") := by decide +kernel
end
end Ink
namespace Ink
open PySem PySem.Spec PyProof.Rows L2 Evl
theorem KX.mut {H H' : Hp} {p : Addr} {o : HO} (k : KX H H') (h : H p = none) : KX H (upd H' p o) := fun b u e n => by
  have nb : b ≠ p := fun z => by
    rw [z, h] at e
    cases e
  rw [upd_ne nb]
  exact k b u e n
theorem KX.mut2 {H H1 H2 : Hp} {p : Addr} {o : HO} (k1 : KX H H1) (n : H1 p = none) (k2 : KX H1 H2) : KX H (upd H2 p o) := fun b u e ne => by
  have e1 := k1 b u e ne
  have nb : b ≠ p := fun z => by
    rw [z, n] at e1
    cases e1
  rw [upd_ne nb]
  exact k2 b u e1 ne
theorem okay_begin {m : List Wr} : Okay m (beginS m) := ⟨⟨List.length_replicate, List.length_replicate⟩, fun j hj _ => by
  unfold wt beginS
  rw [List.getD_eq_getElem?_getD, List.getElem?_replicate, if_pos hj]
  rfl, .inl rfl⟩
theorem pl_behind {m : List Wr} {s : Std} (f : Fits m s) {k j : Nat} (hk : k < m.length) (hj : j < m.length) (h : j ≠ k) (to : Int) : pl (behind m s k to) j = pl s j := by
  have l1 := f.l1
  unfold pl behind
  rw [List.getD_eq_getElem?_getD, List.getD_eq_getElem?_getD]
  congr 1
  by_cases hjk : j < k
  · rw [List.getElem?_append_left (by rw [List.length_take]; omega), List.getElem?_take, if_pos hjk]
  · rw [List.getElem?_append_right (by rw [List.length_take]; omega), List.length_take, Nat.min_eq_left (by omega)]
    obtain ⟨d, hd⟩ : ∃ d, j - k = d + 1 := ⟨j - k - 1, by omega⟩
    rw [hd, List.getElem?_cons_succ, List.getElem?_drop]
    congr 1
    omega
theorem wt_behind {m : List Wr} {s : Std} {k j : Nat} (hj : j < s.2.1.length) (to : Int) : wt (behind m s k to) j = if (!decide (V.int (j : Int) = V.int (k : Int)) && minds m s j) = true then wt s j + 1 else 0 := by
  unfold behind
  show List.getD (List.map _ _) j 0 = _
  rw [List.getD_eq_getElem?_getD, List.getElem?_map, List.getElem?_range hj]
  rfl
theorem okay_behind {m : List Wr} (g : GoodM m) {s : Std} (o : Okay m s) {k : Nat} (hk : k < m.length) (hw : mayW m s k = true) (to : Int) : Okay m (behind m s k to) := by
  refine ⟨behind_fits o.toFits hk to, fun j hj hm => ?_, ?_⟩
  · have l2 := o.l2
    rw [wt_behind (by omega)]
    by_cases e : j = k
    · subst e
      rw [decide_eq_true rfl]
      rfl
    · have : minds m s j = false := by
        rw [← hm]
        unfold minds
        rw [pl_behind o.toFits hk hj e to]
      rw [this, Bool.and_false]
      rfl
  · have c0 := (g.at hk).c0
    unfold behind
    by_cases h : V.int (wr m k).2.2.2 = V.int 0
    · rw [if_pos h]
      exact .inl rfl
    · rw [if_neg h]
      have h0 : (wr m k).2.2.2 ≠ 0 := fun z => h (by rw [z])
      refine .inr ⟨k, hk, rfl, h0, ?_⟩
      show (if V.int s.2.2.1 = V.int (k : Int) then s.2.2.2 + 1 else 1) ≤ (wr m k).2.2.2
      by_cases h1 : V.int s.2.2.1 = V.int (k : Int)
      · rw [if_pos h1]
        unfold mayW at hw
        split at hw
        · cases hw
        · rename_i hn
          have : ¬ s.2.2.2 ≥ (wr m k).2.2.2 := fun hge => hn (by rw [decide_eq_false h, decide_eq_true h1, decide_eq_true hge]; rfl)
          omega
      · rw [if_neg h1]
        omega
theorem str_ok {z : Str} (h : ∀ c ∈ z.cps.toList, c ∈ lets) : PyData.strOk z = true := by
  unfold PyData.strOk
  rw [Array.all_eq_true_iff_forall_mem]
  intro c hc
  have := (lets_iff c).mp (h c (by simpa using hc))
  exact decide_eq_true (by omega)
theorem ints_lay (ns : List Int) : (dI ns).canLay0 = true := by
  unfold dI
  simp only [PyData.canLay0]
  exact lay_map fun x _ => by simp only [PyData.canLay0]
theorem dS_lay (s : Std) : (dS s).canLay0 = true := by
  unfold dS
  simp only [PyData.canLay0, PyData.canLayAll0, ints_lay, Bool.and_self]
theorem steps_shaped {m : List Wr} (g : GoodM m) (s : Std) : SeqAt.shaped (.list ((stepsOf m s).map dStep)) = true := by
  have h1 : PyData.canLayAll0 ((stepsOf m s).map dStep) = true := lay_map fun x hx => by
    obtain ⟨k, to, hk, _, e, y, hy, e2⟩ := steps_in hx
    have gk := g.at hk
    obtain ⟨_, _, ⟨c, hc, ec⟩, _⟩ := gk.each y hy
    have z1 : PyData.strOk x.1 = true := by
      rw [e2, ec]
      exact lets_ok c hc
    have z2 : PyData.strOk x.2.1 = true := by
      rw [e]
      exact str_ok gk.name.2.2
    unfold dStep
    simp only [PyData.canLay0, PyData.canLayAll0, dS_lay, z1, z2, Bool.and_self]
  have h2 := depth_map (f := dStep) (n := 10) (l := stepsOf m s) fun x _ => by
    have := depth_dS x.2.2
    unfold dStep
    simp only [PyData.depth, PyData.depthAll]
    omega
  unfold SeqAt.shaped
  rw [Bool.and_eq_true, decide_eq_true_eq]
  refine ⟨by simp only [PyData.canLay0]; exact h1, ?_⟩
  simp only [PyData.depth]
  omega
end Ink
namespace Ink
open PySem PySem.Spec PyProof.Rows L2 Evl
theorem hu65 {k : Nat} {A : Around} (hr : Room k A) : A.units + 65 < cLine := by
  have := hu9 hr
  omega
section
variable {X : Cx} {K : PySem.W.Frag} {o e : Expr} {es : List Expr} {to : TE} {t : TA} {name : Str} {apos cpos : Pos} {T id : String} {r : V → List V → Hp → VK → Prop}
theorem pe_bmK (hK : X.K = K) (pa : PlainAttrs T) (slot : Slot T name id) (hty : typeOf (.builtin id) = pure (.type "method_descriptor")) (hm : MtR X id r) (ho : PE X o to) (ha : PA X (e :: es) t)
    (hbase : attributeBase o name X.env (eval o X.env) = eval o X.env := by rfl)
    (hfew : ((backTo cpos (starEach (e :: es) X.env)).all (fun x => !x.1) && (backToKw cpos (keywordEach [] X.env)).all (fun x => x.1.isSome)
      && decide ((e :: es).length + ([] : List Keyword).length + (if ([] : List Keyword).isEmpty then 0 else 1) < 30)) = true := by rfl)
    (hline : (apos.endLine == cpos.line) = true := by rfl) (hs : starEach (e :: es) X.env = (false, eval e X.env) :: starEach es X.env := by rfl) (hplain : (backTo cpos (starEach es X.env)).any (·.1) = false := by rfl) :
    PE X (.Call (.Attribute o name apos) (e :: es) [] cpos) (tBM K T r to t) := by
  subst hK
  exact pe_bm pa slot hty hm ho ha hbase hfew hline hs hplain
end
section
variable {K : PySem.W.Frag} {σ : L2.St} {H : Hp} {ta tb te : TE} {ds : List PyData} {d : PyData}
theorem ev_inD (ha : EvD K ta σ H d) (hb : EvD K tb σ H (.list ds)) (h1 : SeqAt.shaped d = true) (h2 : SeqAt.shaped (.list ds) = true) : Ev (tOp (rInD K) ta tb) σ H (.bl (ds.any fun z => PyData.eqv z d)) := fun H1 e Q q =>
  ha H1 e _ fun v H2 e2 hv => hb H2 (e.trans e2) _ fun w H3 e3 hw => ⟨d, ds, dp_same e3 hv, hw, h1, h2, q H3 (e2.trans e3)⟩
theorem ev_indexD {j : Nat} {z : PyData} (ha : EvD K ta σ H (.list ds)) (hb : EvD K te σ H d) (h1 : SeqAt.shaped (.list ds) = true) (h2 : SeqAt.shaped d = true) (hz : ds[j]? = some z) (he : PyData.eqv z d = true)
    (hn : ∀ (m : Nat) (z' : PyData), m < j → ds[m]? = some z' → PyData.eqv z' d = false) : Ev (tBM K "list" (rIndexD K) ta (tCons te tNil)) σ H (.int (j : Nat)) := fun H1 e Q q =>
  ha H1 e _ fun v H2 e2 hv => by
    obtain ⟨p, xs, rfl, hs, hxs⟩ := dp_lst hv
    exact ⟨.inl ⟨rfl, xs, hs⟩, hb H2 (e.trans e2) _ fun u H3 e3 hu => ⟨p, u, d, ds, j, z, rfl, rfl, .lst (ex_l e3 hs) (dps_same e3 hxs), hu, h1, h2, hz, he, hn, q H3 (e2.trans e3)⟩⟩
theorem ev_index {j : Nat} {z y : V} {ys : List V} (ha : EvD K ta σ H (.list ds)) (hy : ∀ (H' : Hp) (vs : List V), DpAll K H' vs ds → vs = ys) (hb : Ev te σ H y) (f1 : flatV y = true) (f2 : ys.all flatV = true) (hz : ys[j]? = some z) (he : eqV z y = true)
    (hn : ∀ (m : Nat) (z' : V), m < j → ys[m]? = some z' → eqV z' y = false) : Ev (tBM K "list" (rIndex K) ta (tCons te tNil)) σ H (.int (j : Nat)) := fun H1 e Q q =>
  ha H1 e _ fun v H2 e2 hv => by
    obtain ⟨p, xs, rfl, hs, hxs⟩ := dp_lst hv
    obtain rfl := hy _ _ hxs
    exact ⟨.inl ⟨rfl, xs, hs⟩, hb H2 (e.trans e2) _ fun H3 e3 => ⟨p, xs, y, j, z, rfl, rfl, ex_l e3 hs, f1, f2, hz, he, hn, q H3 (e2.trans e3)⟩⟩
end
end Ink
namespace Ink
open PySem PySem.Spec PyProof.Rows L2
theorem g_go {i : Nat} {v : V} {σ : L2.St} {H : Hp} {Q : L2.St → Hp → Prop} (h : Q (σ.set i (some v)) H) : gName i v σ H Q := h
end Ink
namespace L2N
open PySem PySem.Spec PyProof.Rows L2
/-! ### x(lambda: body), x an own def that asks it, or hands it on: what leaves the lambda has no context -/
/-- the lambda's own context; its exceptions are those of this namespace -/
abbrev askC (X : Cx) (A : Around) (outer : List Env) (s : Shared) (H : Hp) (E : XK) (sc : Scope) (f cd : Addr) : Cx :=
  (LamX.lamCx X A outer s H E sc f cd).wish fun e t => wpAny (model X.prog X.w) (A.deeper (LamX.lamEnv X sc s.heap.objs.size f cd)) (leaving (LamX.lamEnv X sc s.heap.objs.size f cd) e) (fun _ u => CX X.prog X.w outer H s E e u) (fun e' u => CX X.prog X.w outer H s E e' u) t
/-- the name that lambdas of this context bear -/
abbrev lamQ (X : Cx) : Str := X.env.qual ++ "<lambda>"
abbrev lamObj (X : Cx) (pr : Arguments) (body : Expr) (sc : Scope) (pm : Value) (cd : Addr) (ct : Value) : Obj := PySem.W.kla_obj "<lambda>" (lamQ X) pr body sc (cloFrom X.env.cells sc.names []) pm cd ct
section
variable {X : Cx} {pins : List (Addr × Obj)} {σ : L2.St} {H HZ : Hp} {s s1 : Shared} {sc : Scope} {f cd : Addr} {pm ct : Value} {pr : Arguments} {body : Expr} {tb : TE} {E : XK}
/-- the lambda at f is called from the frames outer, in a state that grew out of the one in which it was made -/
theorem ask_run {A : Around} {outer : List Env} {Q : VK} (I : Inv X pins σ H s) (L : LamX.LamS X.env.scope sc) (ob : s1.heap.get? f = some (lamObj X pr body sc pm cd ct))
    (no : bindArgs (PySem.W.kla_fn "<lambda>" (lamQ X) pr body sc (cloFrom X.env.cells sc.names []) pm (.ref cd) ct) ⟨[], []⟩ = pure []) (e0 : Env0 X.prog X.w X.K X.mg X.base A outer s1 HZ) (hh : A.handled = none) (hdp : A.depth < recursionLimit) (lim : s1.heap.NoLimit)
    (un : Un (frs X.stack) [] H HZ s.heap s1.heap) (hcd : ∃ (oc : Obj) (vs : Array Value) (t : Tok), s1.heap.get? cd = some oc ∧ oc.data = .fields vs ∧ vs[1]? = some (.str (lamQ X) t))
    (hb : PE (askC X A outer s1 HZ E sc f cd) body tb) (ht : tb σ HZ Q) : codeAny (model X.prog X.w) A (.call (.ref f) ⟨[], []⟩) (CR (CX X.prog X.w) outer X.prog X.w HZ s1 Q E) s1 := by
  obtain ⟨oc, vs, t, h1, h2, h3⟩ := hcd
  refine PySem.W.kla_callFunE hdp ob rfl L.co L.gen rfl ⟨cd, oc, vs, t, rfl, h1, h2, h3⟩ ?_
  rw [no]
  refine wpAny_pure (wpAny_newFunctionEnv (fun y hy => (L.own y hy).2) (fun y hy => absurd hy List.not_mem_nil) (fun h' ns sb => ⟨lim.fresh _ sb, ?_⟩) L.kind)
  have kp : ∀ b o, s1.heap.get? b = some o → h'.get? b = some o := fun b o e => sb.extBut b o (Nat.ne_of_lt (Heap.lt_size e)) (Heap.get?_push_of_some _ e)
  have J := (LamX.lam_start2 (E := E) (f := f) (c' := cd) (tk := s1.toks + ([] : List (Str × Value)).length) I L e0 hh un ns kp).wish fun e t => wpAny (model X.prog X.w) (A.deeper (LamX.lamEnv X sc s1.heap.objs.size f cd)) (leaving (LamX.lamEnv X sc s1.heap.objs.size f cd) e) (fun _ u => CX X.prog X.w outer HZ s1 E e u) (fun e' u => CX X.prog X.w outer HZ s1 E e' u) t
  exact PySem.W.kla_codeExpr (wpAny_mono (hb.run [] _ σ HZ Q J ht) (fun v s' ⟨w', H', J', rv, q⟩ => ⟨w', H', J'.os, J'.bare, J'.base, J'.hok, rv, q⟩) fun e s' hq => hq)
/-- growth under more frames, these being new -/
theorem un_in {fs fs' : List Addr} {H H1 H2 : Hp} {h h1 h2 : Heap} (a : Un fs [] H H1 h h1) (b : Un fs' [] H1 H2 h1 h2) (hs : ∀ x ∈ fs, x ∈ fs') (hn : ∀ x ∈ fs', x ∈ fs ∨ h.get? x = none) : Un fs [] H H2 h h2 where
  keep x o e n k z := b.keep x o (a.keep x o e n k z) (a.free x o e n z) (fun m => (hn x m).elim k fun q => by rw [e] at q; cases q) z
  slot x o e n k z := by
    obtain ⟨sl, q⟩ := a.slot x o e n k z
    obtain ⟨sl2, q2⟩ := b.slot x _ q (a.free x o e n z) (hs x k) z
    exact ⟨sl2, q2⟩
  free x o e n z := by
    obtain ⟨sl, q⟩ := a.any e n z
    exact b.free x _ q (a.free x o e n z) z
  there x o e z := by
    obtain ⟨o1, q⟩ := a.there x o e z
    exact b.there x o1 q z
  tups x xs e := b.tups x xs (a.tups x xs e)
  frzs x o u e := b.frzs x o u (a.frzs x o u e)
  tbls x ps e := by
    obtain ⟨m1, e1⟩ := a.tbls x ps e
    obtain ⟨m2, e2⟩ := b.tbls x _ e1
    exact ⟨m1 ++ m2, by rw [e2, Array.append_assoc]⟩
end
/-- what stands at f can be called in each state that grows out of (s, H) under the frames outer; tl is its reading -/
structure Ask (P : Program) (w : World) (K : PySem.W.Frag) (mg : Str → Option Value) (base : Heap) (j : Nat) (outer : List Env) (s : Shared) (H : Hp) (f cd : Addr) (q : Str) (tl : XK → Hp → VK → Prop) : Prop where
  ob : ∃ o, s.heap.get? f = some o ∧ ∀ h : Heap, h.get? f = some o → PySem.W.FnAt f h
  free : H f = none
  nofr : f ∉ frs outer
  run : ∀ (A' : Around) (outer' : List Env) (s' : Shared) (H' : Hp) (Q : VK) (E : XK), Room j A' → Env0 P w K mg base A' outer' s' H' → Un (frs outer) [] H H' s.heap s'.heap → H' cd = some (LamX.CodeO cd q) → tl E H' Q →
    codeAny (model P w) A' (.call (.ref f) ⟨[], []⟩) (CR (CX P w) outer' P w H' s' Q E) s'
/-- the def x (its name, scope, body) that is handed a thing by the name a and asks it: tt is its reading, told by the asked thing's -/
def AskedBy (P : Program) (w : World) (K : PySem.W.Frag) (mg : Str → Option Value) (base : Heap) (j k : Nat) (N : List Str) (x : Str) (sc : Scope) (bd : List Stmt) (q : Str) (tt : (XK → Hp → VK → Prop) → Hp → VK → Prop) : Prop :=
  ∀ (A : Around) (outer : List Env) (g : Addr) (cdv : Value) (f cd : Addr) (s : Shared) (H : Hp) (Q : VK) (tl : XK → Hp → VK → Prop), Room k (A.deeper (envOfC x sc s.heap.objs.size g cdv)) → H cd = some (LamX.CodeO cd q) → Ask P w K mg base j outer s H f cd q tl → tt tl H Q →
    ∃ t, PSs (cxOf CX0 P w K mg base N x sc g cdv A outer s H E0).nox bd t ∧ t { nx := fun _ H' => Q .non H', rt := Q } (L2.start N [.ref f]) H
section
variable {P : Program} {w : World} {K : PySem.W.Frag} {mg : Str → Option Value} {base : Heap} {j k : Nat} {N : List Str} {x a q : Str} {sc : Scope} {g : Addr} {cdv : Value} {A : Around} {outer : List Env} {f cd : Addr} {s : Shared} {H : Hp} {tl : XK → Hp → VK → Prop} {pn : List (Addr × Obj)} {xe : Value → Shared → Prop} {W : WX} {p1 p2 : Pos}
/-- a(), a the first parameter -/
theorem pe_ask (M : Ask P w K mg base j outer s H f cd q tl) (hr : Room j (A.deeper (envOfC x sc s.heap.objs.size g cdv))) (tk : Takes ((cxOf CX0 P w K mg base N x sc g cdv A outer s H E0).tr pn xe) W) (hN : N[0]? = some a) (va : Vis sc a) (hd2 : (a == ("__debug__" : Str)) = false := by decide) (hd3 : (a == ("__classdict__" : Str)) = false := by decide) :
    PE ((cxOf CX0 P w K mg base N x sc g cdv A outer s H E0).tr pn xe) (.Call (.Name a p1) [] [] p2) fun σ' H' Q' => σ'[0]? = some (some (.ref f)) ∧ H' cd = some (LamX.CodeO cd q) ∧ ∃ E : XK, (∀ cls d H2, E cls d H2 → W cls d σ' H2) ∧ tl E H' Q' := ⟨fun pz sz σz Hz Qz Iz hz => by
  obtain ⟨hs, hc, E, hW, hz⟩ := hz
  refine wpAny_Call_Name_kw (thn ((pe_var (pos := p1) (i := 0) hN va hd2 hd3).run pz sz σz Hz (fun v H2 => v = .ref f ∧ H2 = Hz) Iz ⟨.ref f, hs, rfl, rfl⟩) fun u s2 ⟨v, H2, I2, r2, ev, eH⟩ => ?_)
  subst ev
  rw [eH] at I2
  obtain rfl : u = Value.ref f := r2
  obtain ⟨o, ho, hfn⟩ := M.ob
  have e2 : Env0 P w K mg base (A.deeper (envOfC x sc s.heap.objs.size g cdv)) (envOfC x sc s.heap.objs.size g cdv :: outer) s2 Hz := I2.env0
  have un : Un (frs outer) [] H Hz s.heap s2.heap := I2.base
  have rc := M.run (A.deeper (envOfC x sc s.heap.objs.size g cdv)) (envOfC x sc s.heap.objs.size g cdv :: outer) s2 Hz Qz E hr e2 un hc hz
  have px : ∀ e s3, CX P w (envOfC x sc s.heap.objs.size g cdv :: outer) Hz s2 E e s3 → xe e s3 := fun e s3 z => tk e s3 (XE.of_call I2 hW z)
  refine PySem.W.callWith_F0 (hfn _ (un.keep f o ho M.free M.nofr List.not_mem_nil)) (wpAny_call (codeAny_mono rc fun r s3 hq => ?_))
  cases r with
  | error e => exact px e s3 hq
  | ok fl =>
    cases fl with
    | ret u => exact I2.after hq
    | next => exact False.elim hq
    | brk => exact False.elim hq
    | cont => exact False.elim hq⟩
/-- the thing is handed on: it can be asked there as well -/
theorem Ask.on {pins : List (Addr × Obj)} {σ : L2.St} {H2 : Hp} {s2 : Shared} (M : Ask P w K mg base j outer s H f cd q tl) (I : Inv (cxOf CX0 P w K mg base N x sc g cdv A outer s H E0) pins σ H2 s2) : Ask P w K mg base j (envOfC x sc s.heap.objs.size g cdv :: outer) s2 H2 f cd q tl := by
  have un : Un (frs outer) [] H H2 s.heap s2.heap := I.base
  obtain ⟨o, ho, hfn⟩ := M.ob
  have sub : ∀ y ∈ frs outer, y ∈ frs (envOfC x sc s.heap.objs.size g cdv :: outer) := fun y hy => List.mem_cons_of_mem _ hy
  have new : ∀ y ∈ frs (envOfC x sc s.heap.objs.size g cdv :: outer), y ∈ frs outer ∨ s.heap.get? y = none := fun y hy => by
    rcases List.mem_cons.mp hy with e | e
    · refine .inr ?_
      cases q : s.heap.get? y with
      | none => rfl
      | some o =>
        have h1 := Heap.lt_size q
        rw [e] at h1
        exact absurd h1 (Nat.lt_irrefl _)
    · exact .inl e
  refine ⟨⟨o, un.keep f o ho M.free M.nofr List.not_mem_nil, hfn⟩, un.free f o ho M.free List.not_mem_nil, fun hm => ?_, fun A' outer' s' H' Q E hr e0 un2 hc ht => M.run A' outer' s' H' Q E hr e0 (un_in un un2 sub new) hc ht⟩
  rcases new f hm with z | z
  · exact M.nofr z
  · rw [ho] at z
    cases z
end
section
variable {X : Cx} {T : List (Addr × Str)} {tt : (XK → Hp → VK → Prop) → Hp → VK → Prop} {t : XK → TE} {x a : Str} {g c P : Addr} {k j : Nat} {st : Stmt} {fd : FuncData} {N : List Str} {pr : Arguments} {body : Expr} {sc : Scope} {p pl pos : Pos}
/-- x(lambda: body) -/
theorem pe_asks (F : Fun X.K x x st g fd) (S : FnScope N [a] (defScope st)) (hg : Gl X x) (mx : X.mg x = some (.ref g)) (kp : PySem.W.keepIn X.K (.ref g) = true) (bd : Binds X.K fd [a] [])
    (hG : AskedBy X.prog X.w X.K X.mg X.base (j + 1) k N x (defScope st) (defBody st) (lamQ X) tt) (TB : LamX.TabB X.base X.mg c P) (hcode : X.env.code = .ref c) (hmT : (P, lamQ X) ∈ T) (hu : ∀ p ∈ T, p.1 = P → p.2 = lamQ X) (hr : Room (k + 1) X.A) (L : LamX.LamS X.env.scope sc) (hdf : defaultsOf pr X.env = ([], []))
    (no : ∀ (q : Str) (cl : List (Str × Addr)) (pm cv ct : Value), bindArgs (PySem.W.kla_fn "<lambda>" q pr body sc cl pm cv ct) ⟨[], []⟩ = pure [])
    (hb : ∀ (A : Around) (outer : List Env) (s : Shared) (H : Hp) (E : XK) (f cd : Addr), Room j (A.deeper (LamX.lamEnv X sc s.heap.objs.size f cd)) → PE (askC X A outer s H E sc f cd) body (t E))
    (hd1 : (x == ("__debug__" : Str)) = false := by decide) :
    PE X (.Call (.Name x p) [.Lambda pr body sc pl] [] pos) (LamX.tLam T tt t) := by
  obtain ⟨oc, od, kV, doc, pm, an, cdv, ct, osl, rfl, lk, hcd⟩ := F.ex
  refine ⟨fun pins s σ H Q I hw => ?_⟩
  obtain ⟨hT, hw⟩ := hw
  refine wpAny_Call_Name_kw (ld_glob I hg mx ?_ hd1)
  refine PySem.W.callWith_K (h₀ := X.base) I.ok.mod.kin kp ?_ (by rfl) (by rfl)
  show wpAny _ _ (spliced ((false, eval (.Lambda pr body sc pl) X.env) :: backTo pos (starEach [] X.env))) _ _ s
  refine Calls.spliced_cons (LamX.lam_make2 I TB hcode hmT hu hT hdf (L.has I.ok) fun f cd pm2 ct2 H1 s1 I1 en T1 ob fn fr hco => ?_)
  refine Calls.spliced_nil ⟨I1.kIn, ?_⟩
  have M : Ask X.prog X.w X.K X.mg X.base (j + 1) X.stack s1 H1 f cd (lamQ X) (fun E H' Q' => t E σ H' Q') := ⟨⟨_, ob, fun h e => ⟨_, _, _, _, e⟩⟩, fn, fr, fun A' outer' s' H' Q' E' hr' e0 un hc hz => by
    have lim : s'.heap.NoLimit := e0.mod.nolimit.keeps fun b o e => (e0.bs b o e).1
    exact ask_run (X := X) (E := E') (Q := Q') (cd := cd) I1 L (un.keep f _ ob fn fr List.not_mem_nil) (no _ _ _ _ _) e0 hr'.hd hr'.depth lim un (e0.hok cd _ hc).1 (hb _ _ s' H' E' f cd (hr'.deeper _)) hz⟩
  refine wpAny_call (codeAny_mono (LamX.run_ofS (CX := CX0) (E := E0) (Q := Q) (N := N) (ps := [a]) (us := [.ref f]) (vs := [.ref f]) lk hcd S hr I1.env0 (bd s1 [.ref f] I1.kIn rfl) (.cons rfl .nil) rfl fun hr1 => ?_) fun r s2 hq => ?_)
  · obtain ⟨t', h1, h2⟩ := hG X.A X.stack g cdv f cd s1 H1 Q _ hr1 hco M (hw H1 en T1)
    exact ⟨t', h1.nox, h2⟩
  · cases r with
    | error e => exact (show False from hq).elim
    | ok fl =>
      cases fl with
      | ret u => exact I1.after hq
      | next => exact False.elim hq
      | brk => exact False.elim hq
      | cont => exact False.elim hq
end
section
variable {P : Program} {w : World} {K : PySem.W.Frag} {mg : Str → Option Value} {base : Heap} {j k : Nat} {N Ng : List Str} {x y a b q : Str} {sc : Scope} {st : Stmt} {g h : Addr} {fd : FuncData} {cdv : Value} {A : Around} {outer : List Env} {f cd : Addr} {s : Shared} {H : Hp} {tl : XK → Hp → VK → Prop} {tt : (XK → Hp → VK → Prop) → Hp → VK → Prop} {p1 p2 pos : Pos}
/-- y(a), a the first parameter, in the def x that was handed it -/
theorem pe_handon (M : Ask P w K mg base j outer s H f cd q tl) (F : Fun K y y st h fd) (S : FnScope Ng [b] (defScope st)) (hg : Gl (cxOf CX0 P w K mg base N x sc g cdv A outer s H E0).nox y) (my : mg y = some (.ref h)) (kp : PySem.W.keepIn K (.ref h) = true) (bd : Binds K fd [b] [])
    (hG : AskedBy P w K mg base j k Ng y (defScope st) (defBody st) q tt) (hr : Room (k + 1) (A.deeper (envOfC x sc s.heap.objs.size g cdv))) (hN : N[0]? = some a) (va : Vis sc a) (hd1 : (y == ("__debug__" : Str)) = false := by decide) (hd2 : (a == ("__debug__" : Str)) = false := by decide) (hd3 : (a == ("__classdict__" : Str)) = false := by decide) :
    PE (cxOf CX0 P w K mg base N x sc g cdv A outer s H E0).nox (.Call (.Name y p1) [.Name a p2] [] pos) fun σ' H' Q' => σ'[0]? = some (some (.ref f)) ∧ H' cd = some (LamX.CodeO cd q) ∧ tt tl H' Q' := by
  obtain ⟨oc, od, kV, doc, pm, an, cdw, ct, osl, rfl, lk, hcd⟩ := F.ex
  refine ⟨fun pins s1 σ H1 Q I hw => ?_⟩
  obtain ⟨hs, hc, hw⟩ := hw
  refine wpAny_Call_Name_kw (ld_glob I hg my ?_ hd1)
  have ha : PA (cxOf CX0 P w K mg base N x sc g cdv A outer s H E0).nox [.Name a p2] (tCons (tVar 0) tNil) := pa_cons (pe_var (i := 0) hN va hd2 hd3) pa_nil
  refine PySem.W.callWith_K (h₀ := base) I.ok.mod.kin kp (thn (ha.run pos pins s1 σ H1 (fun vs H2 => vs = [.ref f] ∧ H2 = H1) I ⟨.ref f, hs, rfl, rfl⟩) fun us s2 ⟨vs, H2, I2, r2, ev, eH⟩ => ⟨I2.kIn, ?_⟩) (by rfl) (by rfl)
  subst ev
  rw [eH] at I2
  have M2 := M.on I2.unwish
  refine wpAny_call (codeAny_mono (LamX.run_ofS (CX := CX0) (E := E0) (Q := Q) (N := Ng) (ps := [b]) (us := us) (vs := [.ref f]) lk hcd S hr I2.env0 (by have z := bd s2 us I2.kIn (by rw [List.append_nil, ← Vals.length r2]; rfl); rw [List.append_nil] at z; exact z) r2 rfl fun hr1 => ?_) fun r s3 hq => ?_)
  · obtain ⟨t', h1, h2⟩ := hG _ _ h cdw f cd s2 H1 Q _ hr1 hc M2 hw
    exact ⟨t', h1.nox, h2⟩
  · cases r with
    | error e => exact (show False from hq).elim
    | ok fl =>
      cases fl with
      | ret u => exact I2.after hq
      | next => exact False.elim hq
      | brk => exact False.elim hq
      | cont => exact False.elim hq
end
end L2N
namespace Ink
open PySem PySem.Spec PyProof.Rows L2
/-! ### {k: v}, len(d), sorted(d): dicts whose keys are nested tuples -/
/-- {k: v} -/
def tDOneN (P : Program) (w : World) (K : PySem.W.Frag) (tk tv : TE) : TE := fun σ H Q => ∀ p H0, H p = none → (∀ b, b ≠ p → H0 b = H b) → DicAt P w K H0 p [] →
  tk σ H0 fun x H1 => tv σ H1 fun y H2 => ∃ k, KeyAt K H2 x k ∧ DicAt P w K H2 p [] ∧ ∀ H3, DicAt P w K H3 p [(k, y)] → (∀ b, b ≠ p → H3 b = H2 b) → Q (.ref p) H3
theorem nest_room {P : Program} {w : World} {A : Around} (hu : A.units + 100 < cLine) : (nestedKind P w).room A := by
  show A.units + 8 < cLine
  omega
theorem pe_done {X : Cx} {ke ve : Expr} {tk tv : TE} {pos : Pos} (hu : X.A.units + 100 < cLine) (hk : PE X ke tk) (hv : PE X ve tv)
    (hsh : (evalEachOpt [some ke] X.env).zip ((evalEach [ve] X.env).map fun v => do let x ← v; standAt pos; pure x) = [(some (eval ke X.env), do let x ← eval ve X.env; standAt pos; pure x)] := by rfl) : PE X (.Dict [some ke] [ve] pos) (tDOneN X.prog X.w X.K tk tv) := by
  refine ⟨fun pins s σ H Q I h => ?_⟩
  rw [PySem.arm_eval_Dict, hsh]
  have e0 := dictDisplay_pairs [(eval ke X.env, (do let x ← eval ve X.env; standAt pos; pure x : Sem Value))] (fun z => by cases z) (show 1 < 17 by decide)
  rw [show dictDisplay [(some (eval ke X.env), (do let x ← eval ve X.env; standAt pos; pure x : Sem Value))] = _ from e0]
  have hs : (s.heap.objs.size == sysModules) = false := beq_eq_false_iff_ne.mpr (Ne.symm (Nat.ne_of_lt I.big))
  have ok : ObjOk X.prog X.w (upd H s.heap.objs.size (DicO X.prog X.w s.heap.objs.size ([], { cls := .type "dict", data := .dict #[] }))) (s.heap.push { cls := .type "dict", data := .dict #[] }) s.heap.objs.size (DicO X.prog X.w s.heap.objs.size ([], { cls := .type "dict", data := .dict #[] })) :=
    ⟨⟨hs, #[], 0, Heap.get?_push_size _ rfl, ⟨rfl, rfl, rfl⟩, rfl, rfl⟩, ⟨_, Heap.get?_push_size _ rfl⟩, fun g1 g2 ⟨z, es, ep, e1, r⟩ st => ⟨z, es, ep, st _ e1, r⟩⟩
  have I0 : Inv X pins σ (upd H s.heap.objs.size (DicO X.prog X.w s.heap.objs.size ([], { cls := .type "dict", data := .dict #[] }))) { s with heap := s.heap.push { cls := .type "dict", data := .dict #[] } } := I.laid (a := s.heap.objs.size) (t' := s.toks) (fun _ _ q => Heap.get?_push_of_some _ q) (Nat.le_refl _) ok
  have q := h _ _ (I.hok.fresh (Nat.le_refl _)) (fun b hb => upd_ne hb) ⟨([], { cls := .type "dict", data := .dict #[] }), upd_same, .nil, fun x hx => (by cases hx), List.nodup_nil, Nat.zero_le _⟩
  refine wpAny_bind (wpAny_standAt (wpAny_bind (wpAny_subDictH (knd := nestedKind X.prog X.w) (nest_room hu) (show 1 ≤ 15 by decide) ?_)))
  unfold evalPairs
  refine wpAny_bind (thn (hk.run pins _ σ _ _ I0 q) fun kv s1 ⟨x, H1, I1, rx, q1⟩ => wpAny_bind (wpAny_holding (wpAny_bind (thn (hv.run pins s1 σ H1 _ I1 q1) fun vv s2 ⟨y, H2, I2, ry, k, hk2, hd, q2⟩ => wpAny_bind (wpAny_standAt (wpAny_pure ?_))))))
  unfold evalPairs
  refine wpAny_bind (wpAny_holding (wpAny_pure (wpAny_pure ?_)))
  obtain ⟨a, rfl, ea, ha⟩ := key_is I2 hk2 rx
  obtain ⟨xs, ob, hm, hs', e, p, hks⟩ := hd.raw I2
  cases p
  refine ⟨[(k, a, vv)], ⟨rfl, rfl, ha, trivial⟩, hm, fun h' tk hm' sb => ?_⟩
  have hst : storedAllH ([] : List (NK × Addr × Value)) [(k, a, vv)] = [(k, a, vv)] := rfl
  rw [hst] at hm'
  obtain ⟨o', es, ep, h1, h2, h3, h4, h5, h6⟩ := hm'
  have okw : ObjOk X.prog X.w (upd H2 s.heap.objs.size (DicO X.prog X.w s.heap.objs.size ([(k, a, vv)], o'))) h' s.heap.objs.size (DicO X.prog X.w s.heap.objs.size ([(k, a, vv)], o')) := ⟨⟨hs, es, ep, h1, h2, h3, h4⟩, ⟨o', h1⟩, fun g1 g2 ⟨z, es, ep, e1, r⟩ st => ⟨z, es, ep, st _ e1, r⟩⟩
  have I3 := I2.write (e := s.heap.objs.size) (t' := tk) (by rw [e]; trivial) (.inl rfl) (fun b w hb hw => (sb.2 b hb).trans hw) ⟨o', h1⟩ okw
  have ht : ∀ b ys, SqT X.K H2 b ys → SqT X.K (upd H2 s.heap.objs.size (DicO X.prog X.w s.heap.objs.size ([(k, a, vv)], o'))) b ys := fun b ys hb => by
    rcases hb with (hb | ⟨oo, hb⟩) | hb
    · exact .inl (.inl (by rw [upd_ne (ne_of hb e (fun z => dicO_ne.2 _ z.symm))]; exact hb))
    · exact .inl (.inr ⟨oo, by rw [upd_ne (ne_of hb e (fun z => by unfold DicO at z; cases z))]; exact hb⟩)
    · exact .inr hb
  refine wpAny_pure ⟨.ref s.heap.objs.size, _, I3, rfl, q2 _ ⟨([(k, a, vv)], o'), upd_same, .cons ⟨rfl, ry⟩ .nil, fun z hz => ?_, h6, (by show 1 ≤ 100000; decide)⟩ fun b hb => upd_ne hb⟩
  rw [List.mem_singleton] at hz
  subst hz
  rw [← ea]
  exact hk2.up ht
/-- len(d) -/
def rLenN (P : Program) (w : World) (K : PySem.W.Frag) : List V → Hp → VK → Prop := fun xs H Q => ∃ (d : Addr) (kvs : List (NK × V)), xs = [.ref d] ∧ DicAt P w K H d kvs ∧ Q (.int (kvs.length : Nat)) H
/-- sorted(d) -/
def rSortN (P : Program) (w : World) (K : PySem.W.Frag) : List V → Hp → VK → Prop := fun xs H Q => ∃ (d : Addr) (kvs : List (NK × V)), xs = [.ref d] ∧ DicAt P w K H d kvs ∧ PySem.W.AllAlike (kvs.map fun kv => kv.1.data) ∧ PySem.W.Sortable (kvs.map fun kv => kv.1.data) ∧ (∀ kv ∈ kvs, kv.1.data.depth ≤ 64) ∧
  ∀ p ws, H p = none → DpAll K H ws ((kvs.map fun kv => kv.1.data).mergeSort (PySem.W.dataLe false id)) → Q (.ref p) (upd H p (.lst ws))
section
variable {X : Cx}
theorem cr_lenN : CallR X (.builtin "len") (rLenN X.prog X.w X.K) := by
  intro pins s σ H vs us Q I r h
  obtain ⟨d, kvs, rfl, hd, q⟩ := h
  rw [Vals.ref1 r]
  have hz : kvs.length ≤ 100000 := by
    obtain ⟨_, _, _, _, _, z⟩ := hd
    exact z
  obtain ⟨xs, ob, hm, hs, e, p, _⟩ := hd.raw I
  have hl : xs.length = kvs.length := (Paired.length p).symm
  refine call_len_dictH (knd := nestedKind X.prog X.w) hs hm (by omega) ?_
  rw [hl]
  exact ⟨.int ((kvs.length : Nat) : Int), H, I.tok _, ⟨_, rfl⟩, q⟩
theorem refs_vals : ∀ (xs : List (NK × Addr × Value)), Vals (xs.map fun x => V.ref x.2.1) (xs.map fun x => Value.ref x.2.1)
  | [] => .nil
  | _ :: xs => .cons rfl (refs_vals xs)
theorem keys_dps {K : PySem.W.Frag} {H : Hp} : ∀ {kvs : List (NK × V)} {xs : List (NK × Addr × Value)}, Paired PairN kvs xs → (∀ x ∈ xs, KeyAt K H (.ref x.2.1) x.1) → DpAll K H (xs.map fun x => V.ref x.2.1) (kvs.map fun kv => kv.1.data)
  | _, _, .nil, _ => .nil
  | _, _, .cons (a := p) (b := x) r t, h => .cons (by show Dp K H (V.ref x.2.1) p.1.data; rw [r.1]; exact (h x (List.mem_cons_self ..)).1) (keys_dps t fun y hy => h y (List.mem_cons_of_mem _ hy))
theorem unit_small {A : Around} {n : Nat} (hu : A.units + 100 < cLine) (h : n ≤ 64) : A.in1.in1.units + n < cLine := by
  show A.units + 1 + 1 + n < cLine
  omega
theorem cr_sortedN (hc : X.calm = true) (hu : X.A.units + 100 < cLine) : CallR X (.builtin "sorted") (rSortN X.prog X.w X.K) := by
  intro pins s σ H vs us Q I r h
  obtain ⟨d, kvs, rfl, hd, hal, hk, hdp, q⟩ := h
  rw [Vals.ref1 r]
  have hz : kvs.length ≤ 100000 := by
    obtain ⟨_, _, _, _, _, z⟩ := hd
    exact z
  obtain ⟨xs, ob, hm, hs, e, p, hks⟩ := hd.raw I
  have hl : xs.length = kvs.length := (Paired.length p).symm
  obtain ⟨es, ep, hr, hes, hit⟩ := hm.raw
  have hn : es.size ≤ sizeLine := by
    rw [hes, hl, sizeLine_eq]
    omega
  refine Calls.call_function_entry (PyProof.Rows.kind_sorted) PyProof.Rows.plain_sorted PyProof.Rows.entry_sorted (PyProof.Rows.args_sorted1 _) ?_
  unfold Builtin.«sorted»
  refine wpAny_bind (m := checkCount "sorted" 1 1 _) (wpAny_pure (wpAny_bind (PySem.W.kdu_collect (A := X.A.in1) (KdlSrc.rawDict (d := d) (es := es) (ep := ep) hs) (I.ok.hd hc) hr hn fun h' tk acc hkp hacc => ?_)))
  have eacc : acc.toList = xs.map fun x => Value.ref x.2.1 := by
    refine List.ext_getElem? fun i => ?_
    rw [List.getElem?_map, Array.getElem?_toList]
    by_cases hi : i < es.size
    · have h1 : acc[i]? = some (acc[i]'(by rw [hacc.1]; exact hi)) := Array.getElem?_eq_getElem _
      obtain ⟨hi2, e2⟩ := hacc.2 i _ h1
      obtain ⟨y, hy, h3, _⟩ := hit i hi2
      rw [h1, hy, e2, h3]
      rfl
    · rw [Array.getElem?_eq_none (by rw [hacc.1]; omega), List.getElem?_eq_none (by rw [← hes]; omega)]
      rfl
  rw [eacc]
  have I1 : Inv X pins σ H { s with heap := h', toks := tk } := I.kept hkp
  have rv := refs_vals xs
  have hds := keys_dps p hks
  have hlen := hds.length
  have esnd : ((xs.map fun x => V.ref x.2.1).zip (kvs.map fun kv => kv.1.data)).map Prod.snd = kvs.map fun kv => kv.1.data := zip_snd hlen
  have ep1 := each_pairs rv hds
  generalize hvs : (xs.map fun x => Value.ref x.2.1) = us0 at rv ep1
  have hul : us0.length = kvs.length := by rw [← hvs, List.length_map, hl]
  refine wpAny_bind (wpAny_newList ?_ (by rw [hul, sizeLine_eq]; omega))
  have hoL : (h'.push (seqObj "list" us0.toArray 0)).get? h'.objs.size = some (seqObj "list" us0.toArray 0) := Heap.get?_push_size _ rfl
  have hup : ∀ b o, h'.get? b = some o → (PySem.W.sortingHeap (h'.push (seqObj "list" us0.toArray 0)) h'.objs.size us0).get? b = some o := fun b o e => PySem.W.sortingHeap_old (Nat.ne_of_lt (Heap.lt_size e)) (Heap.get?_push_of_some _ e)
  have er : PySem.W.EachIs (fun v (b : V × PyData) => ∃ as, Reads (PySem.W.sortingHeap (h'.push (seqObj "list" us0.toArray 0)) h'.objs.size us0) v b.2 as) us0 ((xs.map fun x => V.ref x.2.1).zip (kvs.map fun kv => kv.1.data)) :=
    each_imp (fun u b ⟨r, hb⟩ => by
      obtain ⟨as, ra⟩ := Dp.reads I1 b.2 b.1 u hb r
      exact ⟨as, PyProof.Rows.Reads.keeps hup ra⟩) ep1
  refine wpAny_bind (wpAny_holding (wpAny_call_entry PyProof.Rows.slot_list_sort ⟨_, hoL, rfl⟩ PyProof.Rows.entry_list_sort (PySem.W.list_sort_vals (s := { s with heap := h'.push (seqObj "list" us0.toArray 0), toks := tk }) hoL
    (PySem.W.SortsAt.data (s := { s with heap := PySem.W.sortingHeap (h'.push (seqObj "list" us0.toArray 0)) h'.objs.size us0, toks := tk }) (PySem.W.each_map (R := fun v d => ∃ as, Reads (PySem.W.sortingHeap (h'.push (seqObj "list" us0.toArray 0)) h'.objs.size us0) v d as) Prod.snd er) (by rw [esnd]; exact hal) (by rw [esnd]; exact hk) (PySem.W.bound_map fun b hb => ?_)) (by rw [hul, sizeLine_eq]; omega) ⟨_, rfl, ?_⟩) (PyProof.Rows.args_list_sort _)))
  · have : b.2 ∈ kvs.map fun kv => kv.1.data := by
      rw [← esnd]
      exact List.mem_map_of_mem hb
    obtain ⟨kv, hkv, e2⟩ := List.mem_map.mp this
    have := hdp kv hkv
    rw [← e2]
    exact unit_small hu this
  · obtain ⟨e', he'⟩ := PyProof.Rows.sortedHeap_at (vs := us0) (out := (PySem.W.sortVals (PySem.W.dataKind (PySem.W.sortingHeap (h'.push (seqObj "list" us0.toArray 0)) h'.objs.size us0) (((xs.map fun x => V.ref x.2.1).zip (kvs.map fun kv => kv.1.data)).map Prod.snd)) false us0 us0).toArray) hoL
    have hout := PySem.W.sortVals_data (R := fun u (b : V × PyData) => RelV b.1 u ∧ Dp X.K H b.1 b.2) (h' := PySem.W.sortingHeap (h'.push (seqObj "list" us0.toArray 0)) h'.objs.size us0) false ep1 er (by rw [esnd]; exact hal)
    obtain ⟨v1, d1⟩ := pairs_each hout
    have em : ((((xs.map fun x => V.ref x.2.1).zip (kvs.map fun kv => kv.1.data)).mergeSort (PySem.W.dataLe false Prod.snd)).map Prod.snd) = (kvs.map fun kv => kv.1.data).mergeSort (PySem.W.dataLe false id) := by
      have z := List.map_mergeSort (r := PySem.W.dataLe false (Prod.snd : V × PyData → PyData)) (s := PySem.W.dataLe false id) (f := Prod.snd) (l := (xs.map fun x => V.ref x.2.1).zip (kvs.map fun kv => kv.1.data)) (fun a _ b _ => rfl)
      rw [z, esnd]
    rw [em] at d1
    have hwl : ((((xs.map fun x => V.ref x.2.1).zip (kvs.map fun kv => kv.1.data)).mergeSort (PySem.W.dataLe false Prod.snd)).map Prod.fst).length ≤ sizeLine := by
      rw [List.length_map, List.length_mergeSort, List.length_zip, List.length_map, List.length_map, sizeLine_eq]
      omega
    refine wpAny_pure ⟨_, rfl, .ref h'.objs.size, upd H h'.objs.size (.lst _), I1.laid (t' := tk) (fun b u e => ?_) (Nat.le_refl _) (show ObjOk X.prog X.w _ _ _ (.lst _) from ⟨hwl, _, e', v1, he'⟩), rfl, q _ _ (I1.hok.fresh (Nat.le_refl _)) d1⟩
    have hb : b < h'.objs.size := Heap.lt_size e
    rw [PyProof.Rows.sortedHeap_old (Nat.ne_of_lt hb) (by rw [size_push']; exact Nat.lt_succ_of_lt hb)]
    exact Heap.get?_push_of_some _ e
end
end Ink
namespace Ink
open PySem PySem.Spec PyProof.Rows L2
/-! ### the stands that companies of at most three come to are few -/
structure Tiny (s : Std) : Prop where
  l1 : s.1.length ≤ 3
  l2 : s.2.1.length = s.1.length
  p : ∀ x ∈ s.1, 0 ≤ x ∧ x ≤ 2
  w : ∀ x ∈ s.2.1, 0 ≤ x ∧ x ≤ 3
  z : s.1.length = 3 → ∃ k, k < 3 ∧ wt s k = 0
  r : s.2.2 = (-1, 0) ∨ ∃ k, k < s.1.length ∧ s.2.2.1 = (k : Int) ∧ 1 ≤ s.2.2.2 ∧ s.2.2.2 ≤ 3 ∧ wt s k = 0
/-- all lists of n of these -/
def allOf {α : Type} (xs : List α) : Nat → List (List α)
  | 0 => [[]]
  | n + 1 => xs.flatMap fun x => (allOf xs n).map (x :: ·)
theorem mem_allOf {α : Type} {xs : List α} : ∀ {n : Nat} {l : List α}, l.length = n → (∀ x ∈ l, x ∈ xs) → l ∈ allOf xs n
  | 0, [], _, _ => List.mem_singleton.mpr rfl
  | n + 1, x :: l, h, hx => by
    unfold allOf
    refine List.mem_flatMap.mpr ⟨x, hx x List.mem_cons_self, List.mem_map.mpr ⟨l, mem_allOf (by simpa using h) fun y hy => hx y (List.mem_cons_of_mem _ hy), rfl⟩⟩
def runsT (n : Nat) (ws : List Int) : List (Int × Int) := (-1, 0) :: List.flatMap (fun k : Nat => [(Int.ofNat k, (1 : Int)), (Int.ofNat k, 2), (Int.ofNat k, 3)]) (List.filter (fun k : Nat => ws.getD k 0 == 0) (List.range n))
def waitsT (n : Nat) : List (List Int) := (allOf [(0 : Int), 1, 2, 3] n).filter fun ws => n != 3 || (List.range 3).any fun k => ws.getD k 0 == 0
def tinies (n : Nat) : List Std := (allOf [(0 : Int), 1, 2] n).flatMap fun ps => (waitsT n).flatMap fun ws => (runsT n ws).map fun r => (ps, ws, r)
theorem tinies_len : (tinies 0).length ≤ 4887 ∧ (tinies 1).length ≤ 4887 ∧ (tinies 2).length ≤ 4887 ∧ (tinies 3).length ≤ 4887 := by decide +kernel
theorem mem_tinies {s : Std} (h : Tiny s) : s ∈ tinies s.1.length := by
  obtain ⟨ps, ws, r1, r2⟩ := s
  have l2 : ws.length = ps.length := h.l2
  unfold tinies
  refine List.mem_flatMap.mpr ⟨ps, mem_allOf rfl fun x hx => ?_, List.mem_flatMap.mpr ⟨ws, List.mem_filter.mpr ⟨mem_allOf l2 fun x hx => ?_, ?_⟩, List.mem_map.mpr ⟨(r1, r2), ?_, rfl⟩⟩⟩
  · have := h.p x hx
    have : x = 0 ∨ x = 1 ∨ x = 2 := by omega
    simpa using this
  · have := h.w x hx
    have : x = 0 ∨ x = 1 ∨ x = 2 ∨ x = 3 := by omega
    simpa using this
  · by_cases c : ps.length = 3
    · obtain ⟨k, hk, e⟩ := h.z c
      rw [Bool.or_eq_true]
      exact .inr (List.any_eq_true.mpr ⟨k, List.mem_range.mpr hk, beq_iff_eq.mpr e⟩)
    · rw [Bool.or_eq_true]
      exact .inl (bne_iff_ne.mpr c)
  · show (r1, r2) ∈ runsT ps.length ws
    unfold runsT
    rcases h.r with e | ⟨k, hk, e1, e2, e3, e4⟩
    · have e : (r1, r2) = ((-1 : Int), (0 : Int)) := e
      rw [e]
      exact List.mem_cons_self
    · have e1 : r1 = (k : Int) := e1
      have e2 : 1 ≤ r2 := e2
      have e3 : r2 ≤ 3 := e3
      refine List.mem_cons_of_mem _ (List.mem_flatMap.mpr ⟨k, List.mem_filter.mpr ⟨List.mem_range.mpr hk, beq_iff_eq.mpr e4⟩, ?_⟩)
      have : r2 = 1 ∨ r2 = 2 ∨ r2 = 3 := by omega
      rw [e1]
      show (Int.ofNat k, r2) ∈ _
      rcases this with z | z | z <;> rw [z] <;> simp
theorem tny_le {α : Type} [DecidableEq α] : ∀ {l D : List α}, l.Nodup → (∀ x ∈ l, x ∈ D) → l.length ≤ D.length
  | [], _, _, _ => Nat.zero_le _
  | x :: l, D, hn, hs => by
    obtain ⟨n1, n2⟩ := List.nodup_cons.mp hn
    have hx := hs x List.mem_cons_self
    have ih := tny_le (D := D.erase x) n2 fun y hy => (List.mem_erase_of_ne (fun (e : y = x) => n1 (by rw [← e]; exact hy))).mpr (hs y (List.mem_cons_of_mem _ hy))
    rw [List.length_erase_of_mem hx] at ih
    have := List.length_pos_of_mem hx
    rw [List.length_cons]
    omega
/-- stands of one company -/
theorem tiny_few {l : List Std} {n : Nat} (hn : l.Nodup) (h : ∀ s ∈ l, Tiny s ∧ s.1.length = n) : l.length ≤ 4887 := by
  cases l with
  | nil => exact Nat.zero_le _
  | cons x l =>
    have n3 : n ≤ 3 := by
      have := h x List.mem_cons_self
      rw [← this.2]
      exact this.1.l1
    have z := tny_le (D := tinies n) hn fun s hs => by
      have := mem_tinies (h s hs).1
      rwa [(h s hs).2] at this
    obtain ⟨t0, t1, t2, t3⟩ := tinies_len
    have : n = 0 ∨ n = 1 ∨ n = 2 ∨ n = 3 := by omega
    rcases this with e | e | e | e <;> subst e <;> exact Nat.le_trans z (by assumption)
/-- of whatever companies -/
theorem tiny_many {l : List Std} (hn : l.Nodup) (h : ∀ s ∈ l, Tiny s) : l.length ≤ 19548 := by
  have z := tny_le (D := tinies 0 ++ tinies 1 ++ tinies 2 ++ tinies 3) hn fun s hs => by
    have a := mem_tinies (h s hs)
    have b := (h s hs).l1
    have : s.1.length = 0 ∨ s.1.length = 1 ∨ s.1.length = 2 ∨ s.1.length = 3 := by omega
    simp only [List.mem_append]
    rcases this with e | e | e | e <;> rw [e] at a
    · exact .inl (.inl (.inl a))
    · exact .inl (.inl (.inr a))
    · exact .inl (.inr a)
    · exact .inr a
  obtain ⟨t0, t1, t2, t3⟩ := tinies_len
  simp only [List.length_append] at z
  omega
end Ink
namespace Ink
open PySem PySem.Spec PyProof.Rows L2 Evl
/-- all but what stands at d stays -/
def KD (d : Addr) (H H' : Hp) : Prop := ∀ b o, H b = some o → b ≠ d → H' b = some o
/-- only stands of companies of at most three are kept -/
def AllTiny (kvs : List (NK × V)) : Prop := ∀ kv ∈ kvs, ∃ s, kv.1 = kS s ∧ Tiny s
/-- a company whose dict stands at d -/
def CoAtD (P : Program) (w : World) (K : PySem.W.Frag) (C : Addr) (H : Hp) (c : Addr) (m : List Wr) (n : Nat) (d : Addr) : Prop :=
  ∃ dx tw kvs, H c = some (.ins C dx (coF tw d)) ∧ Dp K H (.ref tw) (dMt m) ∧ DicAt P w K H d kvs ∧ Cached K H m kvs ∧ kvs.length ≤ n ∧ AllTiny kvs
theorem CoAt.d {P : Program} {w : World} {K : PySem.W.Frag} {C : Addr} {H : Hp} {c : Addr} {m : List Wr} (h : CoAt P w K C H c m 0) : ∃ d, CoAtD P w K C H c m 0 d := by
  obtain ⟨dx, tw, d, kvs, h1, h2, h3, h4, h5⟩ := h
  exact ⟨d, dx, tw, kvs, h1, h2, h3, h4, h5, fun kv hk => by rw [List.eq_nil_of_length_eq_zero (Nat.le_zero.mp h5)] at hk; cases hk⟩
/-- however often it was asked, it keeps no more than that -/
theorem CoAtD.cap {P : Program} {w : World} {K : PySem.W.Frag} {C : Addr} {H : Hp} {c : Addr} {m : List Wr} {n : Nat} {d : Addr} (h : CoAtD P w K C H c m n d) : CoAtD P w K C H c m 20000 d := by
  obtain ⟨dx, tw, kvs, h1, h2, h3, h4, h5, h6⟩ := h
  refine ⟨dx, tw, kvs, h1, h2, h3, h4, ?_, h6⟩
  obtain ⟨xs, _, p, _, nd, _⟩ := h3
  have key : ∀ (kvs : List (NK × V)) (ys : List (NK × Addr × Value)), Paired PairN kvs ys → AllTiny kvs → ∃ l : List Std, l.map kS = ys.map (·.1) ∧ ∀ s ∈ l, Tiny s := fun kvs ys p => by
    induction p with
    | nil => exact fun _ => ⟨[], rfl, fun s hs => (by cases hs)⟩
    | @cons a b as bs r p ih =>
      intro t
      obtain ⟨l, e, hl⟩ := ih fun kv hk => t kv (List.mem_cons_of_mem _ hk)
      obtain ⟨s, es, ts⟩ := t a List.mem_cons_self
      refine ⟨s :: l, by rw [List.map_cons, List.map_cons, e, ← es, r.1], fun x hx => ?_⟩
      rcases List.mem_cons.mp hx with z | z
      · rw [z]
        exact ts
      · exact hl x z
  obtain ⟨l, e, hl⟩ := key _ _ p h6
  rw [← e] at nd
  have lz := congrArg List.length e
  rw [List.length_map, List.length_map, ← Paired.length p] at lz
  have := tiny_many (List.Pairwise.of_map kS (fun a b hab z => hab (congrArg kS z)) nd) hl
  omega
theorem CoAtD.co {P : Program} {w : World} {K : PySem.W.Frag} {C : Addr} {H : Hp} {c : Addr} {m : List Wr} {n : Nat} {d : Addr} (h : CoAtD P w K C H c m n d) : CoAt P w K C H c m n := by
  obtain ⟨dx, tw, kvs, h1, h2, h3, h4, h5, _⟩ := h
  exact ⟨dx, tw, d, kvs, h1, h2, h3, h4, h5⟩
theorem CoAtD.ext {P : Program} {w : World} {K : PySem.W.Frag} {C : Addr} {H : Hp} {c : Addr} {m : List Wr} {n : Nat} {d : Addr} (h : CoAtD P w K C H c m n d) : ∃ xs, H d = some (DicO P w d xs) := by
  obtain ⟨dx, tw, kvs, _, _, ⟨xs, e, _⟩, _⟩ := h
  exact ⟨xs, e⟩
theorem CoAtD.keep {P : Program} {w : World} {K : PySem.W.Frag} {C : Addr} {H H' : Hp} {c : Addr} {m : List Wr} {n : Nat} {d : Addr} (h : CoAtD P w K C H c m n d) (hd : H' d = H d) (hc : ∀ o, H c = some o → H' c = some o) (ht : TupK K H H') : CoAtD P w K C H' c m n d := by
  obtain ⟨dx, tw, kvs, h1, h2, h3, h4, h5, h6⟩ := h
  exact ⟨dx, tw, kvs, hc _ h1, dp_tk ht (fz_dMt m) h2, h3.up hd ht, h4.up ht, h5, h6⟩
theorem KD.tk {P : Program} {w : World} {K : PySem.W.Frag} {d : Addr} {H H' : Hp} {xs : DX} (k : KD d H H') (e : H d = some (DicO P w d xs)) : TupK K H H' := fun b ys h => by
  rcases h with (h | ⟨o, h⟩) | h
  · exact .inl (.inl (k _ _ h fun z => by rw [z, e] at h; exact dicO_ne.2 _ (Option.some.inj h)))
  · exact .inl (.inr ⟨o, k _ _ h fun z => by rw [z, e] at h; unfold DicO at h; cases h⟩)
  · exact .inr h
def spStepsD (P : Program) (w : World) (K : PySem.W.Frag) (C : Addr) : Sp := fun vs H Q _ => ∃ c m n v s d, vs = [.ref c, v] ∧ CoAtD P w K C H c m n d ∧ n < 90000 ∧ GoodM m ∧ Fits m s ∧ Tiny s ∧ Dp K H v (dS s) ∧
  ∀ p vs H', H p = none → KD d H H' → CoAtD P w K C H' c m (n + 1) d → H' p = some (.lst vs) → DpAll K H' vs ((stepsOf m s).map dStep) → Q (.ref p) H'
section
variable {P : Program} {w : World} {K : PySem.W.Frag} {mg : Str → Option Value} {base : Heap}
theorem ok_stepsD {f C : Addr} {fd : FuncData} {k : Nat} (F : Fun K "steps" "Company.steps" sCompanySteps f fd) (T : Txt mg) (Z : CoC K C) (C__steps_of : Cal P w K mg base k "_steps_of" ["writers", "stand"] (spP K RSteps)) : FnOk P w K mg base CX0 (k + 1) f fd ["self", "stand"] (spStepsD P w K C) := by
  refine F.ok sc_Company_steps (fun vs H Q E h => ?_) (fun cdv A outer s H vs Q E hr h => ?_)
  · obtain ⟨c, m, n, v, s, d, rfl, _⟩ := h
    rfl
  · obtain ⟨c, m, n, v, st, d, rfl, ⟨dx, tw, kvs, hc, hw, hd, hch, hl, hty⟩, hn, g, ft, ty, hv, q⟩ := h
    refine ⟨_, (Evl.pss_cut (ps_if (pt_cmpR (op_notinN (hu9 hr)) (pv 1) (pe_fld (pv 0) rfl) (by rfl))
    (pss_one (ps_asg (pe_callTy call_tuple_of (by rfl) T.m_tuple (by decide +kernel) (pa_cons (pe_callC C__steps_of hr (by rfl) (pa_cons (pe_fld (pv 0) rfl) (pa_cons (pv 1) pa_nil))) pa_nil)) (pg_sub (pe_fld (pv 0) rfl) (pv 1) (set_dicN (hu9 hr))))) pss_nil)
    (pss_one (ps_ret (pe_callTy call_list_of (by rfl) T.m_list (by decide +kernel) (pa_cons (pe_dgetN (hu9 hr) (pe_fld (pv 0) rfl) (pv 1) (fun _ _ => rfl)) pa_nil))))), ?_⟩
    refine Evl.q_cut (M := fun σ' H1 => σ' = [some (.ref c), some v] ∧ ∃ kvs1 u, KX H H1 ∧ KD d H H1 ∧ (∀ b, H1 b = none → H b = none) ∧ H1 c = some (.ins C dx (coF tw d)) ∧ DicAt P w K H1 d kvs1 ∧ Cached K H1 m kvs1 ∧ kvs1.length ≤ n + 1 ∧ AllTiny kvs1 ∧ lookN kvs1 (kS st) = some u) ?_ fun σ' H1 hM => ?_
    · refine s_if (b := !(lookN kvs (kS st)).isSome) (et_test (ev_notinN (ev_var rfl) (key_at hv) (ev_fld (ev_var rfl) hc Z.cl Z.nF (coF_f _ _)) hd)) (fun hb H1 e1 => ?_) fun hb H1 e1 => ?_
      · have lk : lookN kvs (kS st) = none := by
          cases e : lookN kvs (kS st) with
          | none => rfl
          | some u =>
            rw [e] at hb
            cases hb
        have hc1 := e1 _ _ hc
        refine ed_tuple (K := K) (ds := (stepsOf m st).map dStep) (ed_call (eds_cons (ed_of (ev_fld (ev_var rfl) hc1 Z.cl Z.nW (coF_w _ _)) (dp_same e1 hw)) (eds_cons (ed_var rfl (dp_same e1 hv)) eds_nil)) ⟨m, st, g, ft, rfl, rfl⟩) H1 (.refl H1) _ fun u H2 e2 hu => ?_
        have e12 := e1.trans e2
        have hc2 := e2 _ _ hc1
        have hd2 := hd.same e12
        refine ⟨.ref c, rfl, c, C, dx, _, .ref d, rfl, hc2, Z.cl, Z.nF, coF_f _ _, v, rfl, d, kvs, kS st, rfl, hd2, key_at (dp_same e12 hv), by omega, fun H3 hd3 h3 => ?_⟩
        obtain ⟨n1, n2⟩ := look_new (v := u) lk
        have kx : KX H2 H3 := fun b o e no => by
          obtain ⟨xs, ed, _⟩ := hd2
          have nb : b ≠ d := fun z => by
            rw [z, ed] at e
            exact no _ (Option.some.inj e).symm
          rw [h3 b nb]
          exact e
        have tk : TupK K H2 H3 := kx.t
        refine ⟨rfl, _, u, (KX.of e12).trans kx, fun b o e n => (h3 b n).trans (e12 b o e), fun b hb => ?_, kx _ _ hc2 (fun _ z => by cases z), hd3, fun kv hk => ?_, ?_, fun kv hk => ?_, n2⟩
        · refine Same.free e12 ?_
          by_cases hbd : b = d
          · obtain ⟨xs, ed, _⟩ := hd3
            rw [hbd, ed] at hb
            cases hb
          · rw [← h3 b hbd]
            exact hb
        · rw [n1] at hk
          rcases List.mem_append.mp hk with hk | hk
          · exact (hch.up ((TupK.of e12).trans tk)) kv hk
          · rw [List.mem_singleton] at hk
            subst hk
            exact ⟨st, rfl, kx.dp hu⟩
        · have := putN_len (kvs := kvs) (k := kS st) (v := u)
          omega
        · rw [n1] at hk
          rcases List.mem_append.mp hk with hk | hk
          · exact hty kv hk
          · rw [List.mem_singleton] at hk
            subst hk
            exact ⟨st, rfl, ty⟩
      · obtain ⟨u, lk⟩ : ∃ u, lookN kvs (kS st) = some u := by
          cases e : lookN kvs (kS st) with
          | none =>
            rw [e] at hb
            cases hb
          | some u => exact ⟨u, rfl⟩
        exact ⟨rfl, kvs, u, .of e1, fun b o e _ => e1 b o e, fun b hb => Same.free e1 hb, e1 _ _ hc, hd.same e1, hch.up (.of e1), by omega, hty, lk⟩
    · obtain ⟨rfl, kvs1, u, kx, kd, fr, hc1, hd1, hch1, hl1, hty1, lk⟩ := hM
      obtain ⟨s', e, hu⟩ := hch1 _ (look_in lk)
      obtain rfl := kS_inj e
      refine en_list (K := K) (ds := (stepsOf m st).map dStep) (ed_of (ev_dget (ev_fld (ev_var rfl) hc1 Z.cl Z.nF (coF_f _ _)) hd1 (ev_var rfl) (key_at (kx.dp hv)) lk) hu) (.inr rfl) H1 (.refl H1) _ fun p vs H2 np e2 hp hvs => ?_
      exact q p vs H2 (fr _ np) (fun b o e n => e2 b o (kd b o e n)) ⟨dx, tw, kvs1, e2 _ _ hc1, dp_same e2 (kx.dp hw), hd1.same e2, hch1.up (.of e2), hl1, hty1⟩ hp hvs
end
end Ink
namespace Ink
open PySem PySem.Spec PyProof.Rows L2
theorem nd_get {α : Type} {l : List α} (h : l.Nodup) {i j : Nat} {x : α} (h1 : l[i]? = some x) (h2 : l[j]? = some x) : i = j := by
  obtain ⟨a1, b1⟩ := List.getElem?_eq_some_iff.mp h1
  obtain ⟨a2, b2⟩ := List.getElem?_eq_some_iff.mp h2
  have z := List.pairwise_iff_getElem.mp h
  rcases Nat.lt_trichotomy i j with c | c | c
  · exact absurd (b1.trans b2.symm) (z i j a1 a2 c)
  · exact c
  · exact absurd (b2.trans b1.symm) (z j i a2 a1 c)
theorem tiny_begin {m : List Wr} (h : m.length ≤ 3) : Tiny (beginS m) := by
  have z : ∀ {x : Int}, x ∈ List.replicate m.length (0 : Int) → x = 0 := fun hx => (List.mem_replicate.mp hx).2
  refine ⟨by unfold beginS; rw [List.length_replicate]; exact h, rfl, fun x hx => ?_, fun x hx => ?_, fun e => ⟨0, by decide, ?_⟩, .inl rfl⟩
  · rw [z hx]
    decide
  · rw [z hx]
    decide
  · unfold wt beginS
    rw [List.getD_eq_getElem?_getD, List.getElem?_replicate]
    split <;> rfl
theorem tiny_behind {m : List Wr} (g : GoodM m) {s : Std} (f : Fits m s) (t : Tiny s) {k : Nat} (hk : k < m.length) (hw : mayW m s k = true) {to : Int} (h0 : 0 ≤ to) (h2 : to ≤ 2) : Tiny (behind m s k to) := by
  have l1 := f.l1
  have l2 := f.l2
  have g3 := g.len
  have hl1 : (behind m s k to).1.length = m.length := (behind_fits f hk to).l1
  have hl2 : (behind m s k to).2.1.length = m.length := (behind_fits f hk to).l2
  have wk : wt (behind m s k to) k = 0 := by
    rw [wt_behind (by omega), decide_eq_true rfl]
    rfl
  refine ⟨by omega, by omega, fun x hx => ?_, fun x hx => ?_, fun e => ⟨k, by omega, wk⟩, ?_⟩
  · have hx : x ∈ s.1.take k ++ to :: s.1.drop (k + 1) := hx
    rcases List.mem_append.mp hx with z | z
    · exact t.p x (List.mem_of_mem_take z)
    · rcases List.mem_cons.mp z with z | z
      · rw [z]
        exact ⟨h0, h2⟩
      · exact t.p x (List.mem_of_mem_drop z)
  · obtain ⟨j, hj, rfl⟩ := List.mem_map.mp hx
    have hj := List.mem_range.mp hj
    have hjm : j < m.length := by omega
    split
    · rename_i c
      rw [Bool.and_eq_true] at c
      have wj := t.w (wt s j) (by
        unfold wt
        rw [List.getD_eq_getElem?_getD, List.getElem?_eq_getElem hj]
        exact List.getElem_mem hj)
      have pj := (g.at hjm).p3
      have lt : wt s j < (wr m j).2.2.1 := by
        unfold mayW at hw
        split at hw
        · cases hw
        · rw [List.all_map] at hw
          have := List.all_eq_true.mp hw j (List.mem_filter.mpr ⟨List.mem_range.mpr hjm, by rw [Bool.and_eq_true]; exact c⟩)
          exact of_decide_eq_true this
      omega
    · decide
  · unfold behind
    by_cases h : V.int (wr m k).2.2.2 = V.int 0
    · rw [if_pos h]
      exact .inl rfl
    · rw [if_neg h]
      have h0 : (wr m k).2.2.2 ≠ 0 := fun z => h (by rw [z])
      have c3 := (g.at hk).c3
      refine .inr ⟨k, by show k < (behind m s k to).1.length; omega, rfl, ?_, ?_, wk⟩
      · show 1 ≤ (if V.int s.2.2.1 = V.int (k : Int) then s.2.2.2 + 1 else 1)
        split
        · rename_i e
          injection e with e
          rcases t.r with z | ⟨j, _, _, z, _⟩
          · have : s.2.2.1 = -1 := by rw [z]
            omega
          · omega
        · decide
      · show (if V.int s.2.2.1 = V.int (k : Int) then s.2.2.2 + 1 else 1) ≤ 3
        split
        · rename_i e
          unfold mayW at hw
          split at hw
          · cases hw
          · rename_i hn
            have : ¬ s.2.2.2 ≥ (wr m k).2.2.2 := fun hge => hn (by rw [decide_eq_false h, decide_eq_true e, decide_eq_true hge]; rfl)
            omega
        · decide
theorem tiny_steps {m : List Wr} (g : GoodM m) {s : Std} (f : Fits m s) (t : Tiny s) {x : Str × Str × Std} (h : x ∈ stepsOf m s) : Tiny x.2.2 := by
  unfold stepsOf at h
  obtain ⟨y, hy, rfl⟩ := List.mem_map.mp h
  rw [List.mem_mergeSort] at hy
  obtain ⟨k, hk, hy⟩ := List.mem_flatMap.mp hy
  have hk := List.mem_range.mp hk
  unfold movesAt at hy
  split at hy
  · rename_i hw
    obtain ⟨a, ha, rfl⟩ := List.mem_map.mp hy
    have ga := (g.at hk).each a (List.mem_filter.mp ha).1
    exact tiny_behind g f t hk hw ga.2.2.2.1 ga.2.2.2.2
  · cases hy
end Ink
namespace Ink
open PySem PySem.Spec PyProof.Rows L2 Evl
/-! ### stands come to, one behind the other -/
abbrev Row := Std × List Str
def addR (v : List Str) (l : List Row) (x : Str × Str × Std) : List Row := if x.2.2 ∈ l.map (·.1) then l else l ++ [(x.2.2, v ++ [x.1])]
def bfsAt (m : List Wr) (l : List Row) (k : Nat) : List Row := match l[k]? with
  | none => l
  | some r => (stepsOf m r.1).foldl (addR r.2) l
def bfs (m : List Wr) : Nat → List Row
  | 0 => [(beginS m, [])]
  | k + 1 => bfsAt m (bfs m k) k
/-- rows found by the k-th turn -/
structure RowsOk (m : List Wr) (k : Nat) (l : List Row) : Prop where
  ok : ∀ r ∈ l, Okay m r.1 ∧ r.2.length ≤ k
  nd : (l.map (·.1)).Nodup
theorem RowsOk.mono {m : List Wr} {k : Nat} {l : List Row} (h : RowsOk m k l) : RowsOk m (k + 1) l := ⟨fun r hr => ⟨(h.ok r hr).1, Nat.le_succ_of_le (h.ok r hr).2⟩, h.nd⟩
theorem RowsOk.add {m : List Wr} {k : Nat} {l : List Row} (h : RowsOk m (k + 1) l) {v : List Str} (hv : v.length ≤ k) {x : Str × Str × Std} (o : Okay m x.2.2) : RowsOk m (k + 1) (addR v l x) := by
  unfold addR
  split
  · exact h
  · rename_i hn
    refine ⟨fun r hr => ?_, ?_⟩
    · rcases List.mem_append.mp hr with hr | hr
      · exact h.ok r hr
      · rw [List.mem_singleton] at hr
        subst hr
        refine ⟨o, ?_⟩
        rw [List.length_append]
        exact Nat.succ_le_succ hv
    · rw [List.map_append]
      refine List.nodup_append.mpr ⟨h.nd, by simp, fun a ha b hb => ?_⟩
      have hb : b ∈ [x.2.2] := hb
      rw [List.mem_singleton] at hb
      subst hb
      exact fun z => hn (z ▸ ha)
theorem okay_of_step {m : List Wr} (g : GoodM m) {s : Std} (o : Okay m s) {x : Str × Str × Std} (h : x ∈ stepsOf m s) : Okay m x.2.2 := by
  obtain ⟨k, to, hk, hm, e, _⟩ := steps_in h
  have e := congrArg (fun z => z.2.2) e
  rw [show x.2.2 = behind m s k to from e]
  exact okay_behind g o hk hm to
theorem RowsOk.fold {m : List Wr} {k : Nat} {v : List Str} (hv : v.length ≤ k) : ∀ {xs : List (Str × Str × Std)} {l : List Row}, (∀ x ∈ xs, Okay m x.2.2) → RowsOk m (k + 1) l → RowsOk m (k + 1) (xs.foldl (addR v) l)
  | [], _, _, h => h
  | x :: xs, l, ho, h => by
    rw [List.foldl_cons]
    exact RowsOk.fold hv (fun y hy => ho y (List.mem_cons_of_mem _ hy)) (h.add hv (ho x (List.mem_cons_self ..)))
theorem bfs_ok {m : List Wr} (g : GoodM m) : ∀ k, RowsOk m k (bfs m k)
  | 0 => ⟨fun r hr => by
      have hr : r ∈ [(beginS m, ([] : List Str))] := hr
      rw [List.mem_singleton] at hr
      subst hr
      exact ⟨okay_begin, Nat.le_refl _⟩, by
      show ([beginS m] : List Std).Nodup
      simp⟩
  | k + 1 => by
    have ih := bfs_ok g k
    show RowsOk m (k + 1) (bfsAt m (bfs m k) k)
    unfold bfsAt
    split
    · exact ih.mono
    · rename_i r hr
      have hm := ih.ok r (List.mem_of_getElem? hr)
      exact ih.mono.fold hm.2 fun x hx => okay_of_step g hm.1 hx
theorem add_len (v : List Str) (l : List Row) (x : Str × Str × Std) : l.length ≤ (addR v l x).length ∧ (addR v l x).length ≤ l.length + 1 := by
  unfold addR
  split
  · exact ⟨Nat.le_refl _, Nat.le_succ _⟩
  · rw [List.length_append]
    exact ⟨Nat.le_add_right .., Nat.le_refl _⟩
theorem fold_len (v : List Str) : ∀ (xs : List (Str × Str × Std)) (l : List Row), l.length ≤ (xs.foldl (addR v) l).length ∧ (xs.foldl (addR v) l).length ≤ l.length + xs.length
  | [], l => ⟨Nat.le_refl _, Nat.le_refl _⟩
  | x :: xs, l => by
    have h1 := add_len v l x
    have h2 := fold_len v xs (addR v l x)
    rw [List.foldl_cons, List.length_cons]
    omega
theorem fold_pre (v : List Str) : ∀ (xs : List (Str × Str × Std)) (l : List Row), ∃ tl, xs.foldl (addR v) l = l ++ tl
  | [], l => ⟨[], (List.append_nil l).symm⟩
  | x :: xs, l => by
    obtain ⟨tl, e⟩ := fold_pre v xs (addR v l x)
    rw [List.foldl_cons, e]
    unfold addR
    split
    · exact ⟨tl, rfl⟩
    · exact ⟨[(x.2.2, v ++ [x.1])] ++ tl, by rw [List.append_assoc]⟩
theorem steps_len {m : List Wr} (g : GoodM m) (s : Std) : (stepsOf m s).length ≤ 27 := by
  unfold stepsOf
  rw [List.length_map, List.length_mergeSort]
  exact moves_len g s
theorem bfs_up {m : List Wr} (k : Nat) : (bfs m k).length ≤ (bfs m (k + 1)).length := by
  show _ ≤ (bfsAt m (bfs m k) k).length
  unfold bfsAt
  split
  · exact Nat.le_refl _
  · exact (fold_len _ _ _).1
theorem bfs_pos {m : List Wr} : ∀ k, 1 ≤ (bfs m k).length
  | 0 => Nat.le_refl 1
  | k + 1 => Nat.le_trans (bfs_pos k) (bfs_up k)
theorem bfs_step_len {m : List Wr} (g : GoodM m) (k : Nat) : (bfs m (k + 1)).length ≤ (bfs m k).length + 27 := by
  show (bfsAt m (bfs m k) k).length ≤ _
  unfold bfsAt
  split
  · exact Nat.le_add_right ..
  · rename_i r _
    have h1 := (fold_len r.2 (stepsOf m r.1) (bfs m k)).2
    have h2 := steps_len g r.1
    omega
theorem bfs_len {m : List Wr} (g : GoodM m) : ∀ k, (bfs m k).length ≤ 1 + 27 * k
  | 0 => Nat.le_refl 1
  | k + 1 => by
    have h1 := bfs_len g k
    have h2 := bfs_step_len g k
    omega
theorem bfs_le {m : List Wr} {j : Nat} : ∀ k, j ≤ k → (bfs m j).length ≤ (bfs m k).length
  | 0, h => by
    obtain rfl : j = 0 := by omega
    exact Nat.le_refl _
  | k + 1, h => by
    rcases Nat.eq_or_lt_of_le h with rfl | h
    · exact Nat.le_refl _
    · exact Nat.le_trans (bfs_le k (by omega)) (bfs_up k)
theorem bfs_end {m : List Wr} {j : Nat} (h : (bfs m j).length ≤ j) : ∀ k, j ≤ k → bfs m k = bfs m j
  | 0, hk => by
    obtain rfl : j = 0 := by omega
    rfl
  | k + 1, hk => by
    rcases Nat.eq_or_lt_of_le hk with rfl | hk
    · rfl
    · have ih := bfs_end h k (by omega)
      show bfsAt m (bfs m k) k = _
      unfold bfsAt
      rw [ih, List.getElem?_eq_none (by omega)]
/-! the dict of them -/
def dRow (r : Row) : PyData := .tuple (r.2.map .str)
def RowV (K : PySem.W.Frag) (H : Hp) (kv : NK × V) (r : Row) : Prop := kv.1 = kS r.1 ∧ Dp K H kv.2 (dRow r)
def DicR (P : Program) (w : World) (K : PySem.W.Frag) (H : Hp) (d : Addr) (l : List Row) : Prop := ∃ kvs, DicAt P w K H d kvs ∧ Paired (RowV K H) kvs l
theorem fz_dRow (r : Row) : fz (dRow r) = true := by
  unfold dRow fz
  exact fz_map fun _ _ => by unfold fz; rfl
theorem DicR.up {P : Program} {w : World} {K : PySem.W.Frag} {H H' : Hp} {d : Addr} {l : List Row} (h : DicR P w K H d l) (hd : H' d = H d) (t : TupK K H H') : DicR P w K H' d l := by
  obtain ⟨kvs, h1, h2⟩ := h
  exact ⟨kvs, h1.up hd t, L2.Paired.mapP h2 fun kv r ⟨e, hv⟩ => ⟨e, dp_tk t (fz_dRow r) hv⟩⟩
theorem DicR.len {P : Program} {w : World} {K : PySem.W.Frag} {H : Hp} {d : Addr} {l : List Row} (h : DicR P w K H d l) : ∃ kvs, DicAt P w K H d kvs ∧ kvs.length = l.length := by
  obtain ⟨kvs, h1, h2⟩ := h
  exact ⟨kvs, h1, Paired.length h2⟩
theorem look_row {K : PySem.W.Frag} {H : Hp} : ∀ {kvs : List (NK × V)} {l : List Row} (s : Std), Paired (RowV K H) kvs l → (lookN kvs (kS s)).isSome = decide (s ∈ l.map (·.1)) ∧ ∀ v, lookN kvs (kS s) = some v → ∃ r ∈ l, r.1 = s ∧ Dp K H v (dRow r)
  | _, _, s, .nil => ⟨by unfold lookN; simp, fun v h => by unfold lookN at h; cases h⟩
  | _, _, s, .cons (a := kv) (b := r) q t => by
    have ih := look_row s t
    unfold lookN at ih ⊢
    rw [List.find?_cons]
    by_cases e : r.1 = s
    · have : decide (kv.1 = kS s) = true := decide_eq_true (by rw [q.1, e])
      rw [this]
      refine ⟨?_, fun v h => ?_⟩
      · show true = _
        rw [List.map_cons, e]
        simp
      · have h : some kv.2 = some v := h
        obtain rfl := Option.some.inj h
        exact ⟨r, List.mem_cons_self .., e, q.2⟩
    · have : decide (kv.1 = kS s) = false := decide_eq_false fun z => e (kS_inj (by rw [← q.1, z]))
      rw [this]
      refine ⟨?_, fun v h => ?_⟩
      · show _ = decide (s ∈ r.1 :: _)
        rw [ih.1, decide_eq_decide, List.mem_cons]
        exact ⟨.inr, fun z => z.elim (fun z => absurd z.symm e) id⟩
      · obtain ⟨r2, h1, h2⟩ := ih.2 v h
        exact ⟨r2, List.mem_cons_of_mem _ h1, h2⟩
/-- the rows' stands are unlike: the dict has at a row's stand that row's texts -/
theorem look_get {K : PySem.W.Frag} {H : Hp} {kvs : List (NK × V)} {l : List Row} {r : Row} (p : Paired (RowV K H) kvs l) (nd : (l.map (·.1)).Nodup) (h : r ∈ l) : ∃ v, lookN kvs (kS r.1) = some v ∧ Dp K H v (dRow r) := by
  obtain ⟨h1, h2⟩ := look_row r.1 p
  have hm : r.1 ∈ l.map (·.1) := List.mem_map_of_mem h
  rw [decide_eq_true hm] at h1
  obtain ⟨v, hv⟩ := Option.isSome_iff_exists.mp h1
  obtain ⟨r2, hr2, e, hd⟩ := h2 v hv
  have : r2 = r := by
    obtain ⟨i, hi, ei⟩ := List.mem_iff_getElem.mp hr2
    obtain ⟨j, hj, ej⟩ := List.mem_iff_getElem.mp h
    have hij : i = j := by
      rcases Nat.lt_trichotomy i j with z | z | z
      · have := (List.pairwise_iff_getElem.mp nd) i j (by rw [List.length_map]; exact hi) (by rw [List.length_map]; exact hj) z
        rw [List.getElem_map, List.getElem_map, ei, ej] at this
        exact absurd e this
      · exact z
      · have := (List.pairwise_iff_getElem.mp nd) j i (by rw [List.length_map]; exact hj) (by rw [List.length_map]; exact hi) z
        rw [List.getElem_map, List.getElem_map, ei, ej] at this
        exact absurd e.symm this
    subst hij
    rw [← ei, ← ej]
  exact ⟨v, hv, this ▸ hd⟩
/-- one more is stored -/
theorem DicR.put {P : Program} {w : World} {K : PySem.W.Frag} {H H' : Hp} {d : Addr} {l : List Row} {kvs : List (NK × V)} {v : V} {r : Row} (p : Paired (RowV K H) kvs l) (hn : r.1 ∉ l.map (·.1)) (hv : Dp K H v (dRow r)) (h : DicAt P w K H' d (putN kvs (kS r.1) v)) (t : TupK K H H') : DicR P w K H' d (l ++ [r]) := by
  have lk : lookN kvs (kS r.1) = none := by
    have h1 := (look_row r.1 p).1
    rw [decide_eq_false hn] at h1
    cases e : lookN kvs (kS r.1) with
    | none => rfl
    | some u =>
      rw [e] at h1
      cases h1
  rw [(look_new lk).1] at h
  exact ⟨_, h, prd_snoc (L2.Paired.mapP p fun kv r ⟨e, hv⟩ => ⟨e, dp_tk t (fz_dRow r) hv⟩) ⟨rfl, dp_tk t (fz_dRow r) hv⟩⟩
end Ink
namespace Ink
open PySem PySem.Spec PyProof.Rows L2 Evl
theorem fold_tiny {m : List Wr} (g : GoodM m) {r : Row} (o : Okay m r.1) (t : Tiny r.1) : ∀ (xs : List (Str × Str × Std)) (l : List Row), (∀ x ∈ xs, x ∈ stepsOf m r.1) → (∀ q ∈ l, Tiny q.1) → ∀ q ∈ xs.foldl (addR r.2) l, Tiny q.1
  | [], _, _, h => h
  | x :: xs, l, hx, h => by
    rw [List.foldl_cons]
    refine fold_tiny g o t xs _ (fun y hy => hx y (List.mem_cons_of_mem _ hy)) fun q hq => ?_
    unfold addR at hq
    split at hq
    · exact h q hq
    · rcases List.mem_append.mp hq with hq | hq
      · exact h q hq
      · rw [List.mem_singleton] at hq
        subst hq
        exact tiny_steps g o.toFits t (hx x List.mem_cons_self)
theorem bfs_tiny {m : List Wr} (g : GoodM m) : ∀ k, ∀ q ∈ bfs m k, Tiny q.1
  | 0, q, hq => by
    have hq : q ∈ [(beginS m, ([] : List Str))] := hq
    rw [List.mem_singleton] at hq
    subst hq
    exact tiny_begin g.len
  | k + 1, q, hq => by
    have hq : q ∈ bfsAt m (bfs m k) k := hq
    unfold bfsAt at hq
    split at hq
    · exact bfs_tiny g k q hq
    · rename_i r hr
      have hm := List.mem_of_getElem? hr
      exact fold_tiny g ((bfs_ok g k).ok r hm).1 (bfs_tiny g k r hm) _ _ (fun x hx => hx) (bfs_tiny g k) q hq
end Ink
namespace Ink
open PySem PySem.Spec PyProof.Rows L2 Evl
theorem use_d {K : PySem.W.Frag} {te : TE} {σ : L2.St} {H : Hp} {d : PyData} {Q : VK} (h : EvD K te σ H d) (k : ∀ v H1, Ex H H1 → Dp K H1 v d → Q v H1) : te σ H Q := h H (.refl H) Q k
theorem use_n {K : PySem.W.Frag} {te : TE} {σ : L2.St} {H : Hp} {ds : List PyData} {Q : VK} (h : EvN K te σ H ds) (k : ∀ p vs H1, H p = none → Ex H H1 → H1 p = some (.lst vs) → DpAll K H1 vs ds → Q (.ref p) H1) : te σ H Q := h H (.refl H) Q k
theorem ev_ixLv {K : PySem.W.Frag} {ta tb : TE} {σ : L2.St} {H : Hp} {p : Addr} {xs : List V} {i : Int} {v : V} (ha : Ev ta σ H (.ref p)) (hb : Ev tb σ H (.int i)) (h : SqL K H p xs) (h0 : 0 ≤ i) (hv : xs[i.toNat]? = some v) : Ev (tOp (rIxL K) ta tb) σ H v := ev_op ha hb (rv_ixL h (atI_of h0 hv))
/-- found so far: the dict at d, the list of its keys at o, beside what stood -/
def Ways (P : Program) (w : World) (K : PySem.W.Frag) (H0 H : Hp) (d o : Addr) (l : List Row) : Prop := Same H0 H ∧ DicR P w K H d l ∧ ∃ vs, H o = some (.lst vs) ∧ DpAll K H vs (l.map fun r => dS r.1)
theorem fz_keysR (l : List Row) : fzAll (l.map fun r => dS r.1) = true := fz_map fun r _ => fz_dS r.1
theorem DicR.free {P : Program} {w : World} {K : PySem.W.Frag} {H : Hp} {d : Addr} {l : List Row} (h : DicR P w K H d l) : ∃ xs, H d = some (DicO P w d xs) := by
  obtain ⟨kvs, ⟨xs, e, _⟩, _⟩ := h
  exact ⟨xs, e⟩
theorem Ways.same {P : Program} {w : World} {K : PySem.W.Frag} {H0 H H' : Hp} {d o : Addr} {l : List Row} (h : Ways P w K H0 H d o l) (e : Same H H') : Ways P w K H0 H' d o l := by
  obtain ⟨s, hd, vs, ho, hv⟩ := h
  obtain ⟨xs, ed⟩ := hd.free
  exact ⟨s.trans e, hd.up (by rw [ed]; exact e _ _ ed) (.of e), vs, e _ _ ho, dps_same e hv⟩
/-- a row more is stored and appended -/
theorem Ways.more {P : Program} {w : World} {K : PySem.W.Frag} {H0 H1 H2 H3 H4 : Hp} {d o : Addr} {l : List Row} {kvs : List (NK × V)} {vs : List V} {u v2 : V} {r : Row} (n1 : H0 d = none) (n2 : H0 o = none) (s0 : Same H0 H1) (e1 : Same H1 H2) (hd : DicAt P w K H2 d kvs) (p : Paired (RowV K H2) kvs l) (ho : H2 o = some (.lst vs)) (hv : DpAll K H2 vs (l.map fun r => dS r.1))
    (hn : r.1 ∉ l.map (·.1)) (hu : Dp K H2 u (dRow r)) (hd3 : DicAt P w K H3 d (putN kvs (kS r.1) u)) (h3 : ∀ b, b ≠ d → H3 b = H2 b) (e4 : Same H3 H4) (hv2 : Dp K H4 v2 (dS r.1)) : Ways P w K H0 (upd H4 o (.lst (vs ++ [v2]))) d o (l ++ [r]) := by
  obtain ⟨xs, ed, _⟩ := id hd
  have nod : o ≠ d := fun z => by
    rw [z, ed] at ho
    exact dicO_ne.1 _ (Option.some.inj ho)
  have t23 : TupK K H2 H3 := fun b ys hb => by
    rcases hb with (hb | ⟨oo, hb⟩) | hb
    · exact .inl (.inl (by rw [h3 b (fun z => by rw [z, ed] at hb; exact dicO_ne.2 _ (Option.some.inj hb))]; exact hb))
    · exact .inl (.inr ⟨oo, by rw [h3 b (fun z => by rw [z, ed] at hb; unfold DicO at hb; cases hb)]; exact hb⟩)
    · exact .inr hb
  have ho4 : H4 o = some (.lst vs) := e4 _ _ (by rw [h3 o nod]; exact ho)
  have t4 : TupK K H4 (upd H4 o (.lst (vs ++ [v2]))) := .lst ho4
  obtain ⟨ys, ed3, _⟩ := id hd3
  have dr := DicR.put p hn hu hd3 t23
  refine ⟨fun b oo hb => ?_, (dr.up (by rw [ed3]; exact e4 _ _ ed3) (.of e4)).up (upd_ne nod.symm) t4, vs ++ [v2], upd_same, ?_⟩
  · have nb1 : b ≠ d := fun z => by rw [z, n1] at hb; cases hb
    have nb2 : b ≠ o := fun z => by rw [z, n2] at hb; cases hb
    rw [upd_ne nb2]
    exact e4 _ _ (by rw [h3 b nb1]; exact e1 _ _ (s0 _ _ hb))
  · rw [List.map_append]
    refine DpAll.app (dps_tk (t23.trans ((TupK.of e4).trans t4)) (fz_keysR l) hv) (.cons (dp_tk t4 (fz_dS _) hv2) .nil)
theorem take_fold {v : List Str} {xs : List (Str × Str × Std)} {j : Nat} {x : Str × Str × Std} (h : xs[j]? = some x) (l : List Row) : (xs.take (j + 1)).foldl (addR v) l = addR v ((xs.take j).foldl (addR v) l) x := by
  rw [List.take_add_one, h, List.foldl_append]
  rfl
def spWays (P : Program) (w : World) (K : PySem.W.Frag) : Sp := fun vs H Q _ => ∃ v m, ∃ n : Nat, vs = [v, .int (n : Int)] ∧ Dp K H v (dMl m) ∧ GoodM m ∧ n ≤ 100 ∧ ∀ d H', H d = none → Same H H' → DicR P w K H' d (bfs m n) → Q (.ref d) H'
section
variable {P : Program} {w : World} {K : PySem.W.Frag} {mg : Str → Option Value} {base : Heap}
theorem ok_ways {f : Addr} {fd : FuncData} {k : Nat} (F : Fun K "_law_ways" "_law_ways" sLWays f fd) (T : Txt mg) (C__law_begin : Cal P w K mg base k "_law_begin" ["_law_m"] (spP K RBegin)) (C__law_steps : Cal P w K mg base k "_law_steps" ["_law_m", "_law_stand"] (spN K RLN)) : FnOk P w K mg base CX0 (k + 1) f fd ["_law_m", "_law_limit"] (spWays P w K) := by
  refine F.ok sc__law_ways (fun vs H Q E h => ?_) (fun cdv A outer s H vs Q E hr h => ?_)
  · obtain ⟨v, m, n, rfl, _⟩ := h
    rfl
  · obtain ⟨v, m, n, rfl, hv, g, hn, q⟩ := h
    refine ⟨_, (pss_cons (ps_par (i := 2) (j := 3) (by rfl) sc__law_ways.nd rfl rfl (by decide) rfl rfl (pa_cons (pe_done (hu9 hr) (pe_callC C__law_begin hr (by rfl) (pa_cons (pv 0) pa_nil)) (pe_tup pa_nil)) (pa_cons (pe_lst (pa_cons (pe_callC C__law_begin hr (by rfl) (pa_cons (pv 0) pa_nil)) pa_nil)) pa_nil)) (by rfl))
    (pss_cons (ps_for PassesOwn.never rfl (pi_range1 (by rfl) T.m_range (pa_cons (pv 1) pa_nil)) (pg_name (i := 4) sc__law_ways.nd rfl (.inl rfl))
    (pss_one (ps_if (pt_cmpR op_lt (pv 4) (pe_callB call_len (by rfl) T.m_len PySem.boot_len (pa_cons (pv 3) pa_nil)) (nomark _))
    (pss_one (ps_for PassesOwn.never rfl (pi_list (pe_callC C__law_steps hr (by rfl) (pa_cons (pv 0) (pa_cons (pe_ix ix_list (pv 3) (pv 4) (fun _ _ => rfl)) pa_nil)))) (pg_tup rfl (pgs_cons (pg_name (i := 5) sc__law_ways.nd rfl (.inl rfl)) (pgs_cons (pg_name (i := 6) sc__law_ways.nd rfl (.inl rfl)) (pgs_cons (pg_name (i := 7) sc__law_ways.nd rfl (.inl rfl)) pgs_nil))))
    (pss_one (ps_if (pt_cmpR (op_notinN (hu9 hr)) (pv 7) (pv 2) (by rfl))
    (pss_cons (ps_asg (pe_op op_catA (pe_dgetN (hu9 hr) (pv 2) (pe_ix ix_list (pv 3) (pv 4) (fun _ _ => rfl)) (fun _ _ => rfl)) (pe_tup (pa_cons (pv 5) pa_nil))) (pg_sub (pv 2) (pv 7) (set_dicN (hu9 hr))))
    (pss_one (ps_expr (pe_bm PySem.F.plainAttrs_list PySem.F.slot_list_append PySem.F.type_list_append mt_append (pv 3) (pa_cons (pv 7) pa_nil))))) pss_nil)))) pss_nil)))
    (pss_one (ps_ret (pv 2))))), ?_⟩
    have l3 := g.len
    -- the beginning
    refine fun d H0 nd h0 hd0 => ?_
    have s0 : Same H H0 := fun b o e => by rw [h0 b (fun z => by rw [z, nd] at e; cases e)]; exact e
    refine use_d (K := K) (d := dS (beginS m)) (ed_call (eds_cons (ed_var rfl (dp_same s0 hv)) eds_nil) ⟨m, l3, rfl, rfl⟩) fun x1 H1 e1 hx1 => ?_
    refine ⟨by show 0 ≤ sizeLine; decide, fun t nt => ?_⟩
    have st : Same H1 (upd H1 t (.tup [])) := same_new nt
    have ht : Dp K (upd H1 t (.tup [])) (.ref t) (dRow (beginS m, [])) := .tup (.of upd_same) .nil
    refine ⟨kS (beginS m), key_at (dp_same st hx1), (hd0.same e1).same st, fun H3 hd3 h3 => ?_⟩
    generalize upd H1 t (.tup []) = H2 at st ht hd3 h3
    have e02 := e1.trans st
    have d2 := hd0.same e02
    obtain ⟨xs0, ed2, _⟩ := id d2
    have s3 : Same H H3 := fun b o e => by rw [h3 b (fun z => by rw [z, nd] at e; cases e)]; exact e02 _ _ (s0 _ _ e)
    have t23 : TupK K H2 H3 := fun b ys hb => by
      rcases hb with (hb | ⟨oo, hb⟩) | hb
      · exact .inl (.inl (by rw [h3 b (fun z => by rw [z, ed2] at hb; exact dicO_ne.2 _ (Option.some.inj hb))]; exact hb))
      · exact .inl (.inr ⟨oo, by rw [h3 b (fun z => by rw [z, ed2] at hb; unfold DicO at hb; cases hb)]; exact hb⟩)
      · exact .inr hb
    have dr3 : DicR P w K H3 d [(beginS m, [])] := ⟨_, hd3, .cons ⟨rfl, dp_tk t23 (fz_dRow _) ht⟩ .nil⟩
    refine use_d (K := K) (d := dS (beginS m)) (ed_call (eds_cons (ed_var rfl (dp_same s3 hv)) eds_nil) ⟨m, l3, rfl, rfl⟩) fun x2 H4 e4 hx2 => ?_
    refine ⟨by show 1 ≤ sizeLine; decide, fun o no => ⟨_, _, rfl, ?_⟩⟩
    have s4 : Same H H4 := s3.trans e4
    have n0 : H o = none := s4.free no
    obtain ⟨xs3, ed3⟩ := dr3.free
    have W0 : Ways P w K H (upd H4 o (.lst [x2])) d o (bfs m 0) := ⟨s4.trans (same_new no), (dr3.up (by rw [ed3]; exact e4 _ _ ed3) (.of e4)).up (same_new no _ _ (e4 _ _ ed3) |>.trans (e4 _ _ ed3).symm) (.of (same_new no)), [x2], upd_same, .cons (dp_same (same_new no) hx2) .nil⟩
    generalize upd H4 o (.lst [x2]) = H5 at W0
    -- turn by turn
    refine ⟨.int (n : Int), rfl, (n : Int), rfl, by omega, by omega, for_it walk_range0 (fun i σ' H' => (∃ y4 y5 y6 y7, σ' = [some v, some (.int (n : Int)), some (.ref d), some (.ref o), y4, y5, y6, y7]) ∧ Ways P w K H H' d o (bfs m i)) ⟨⟨none, none, none, none, rfl⟩, W0⟩ (fun _ _ _ _ _ => True.intro) (fun i y σ' Ha Hb hi hP hy => ?_) (fun σ' H' hP => ?_)⟩
    · obtain ⟨⟨y4, y5, y6, y7, rfl⟩, hW⟩ := hP
      obtain ⟨rfl, rfl⟩ := hy
      refine g_go ?_
      dsimp only
      obtain ⟨sW, dW, vs, ho, hvs⟩ := id hW
      have hi : i < n := by simpa using hi
      have B := bfs_ok g i
      have hlen := bfs_len g i
      refine s_if (b := decide ((i : Int) < (((bfs m i).length : Nat) : Int))) (et_test (ev_op (ev_var rfl) (ev_is (ev_lenD (K := K) (ed_var rfl (.lst (.of ho) hvs)) (.inl rfl)) (by rw [List.length_map])) rv_I0)) (fun hb H1 e1 => ?_) fun hb H1 e1 => ?_
      · have hb := of_decide_eq_true hb
        have hil : i < (bfs m i).length := by omega
        have hr : (bfs m i)[i]? = some (bfs m i)[i] := List.getElem?_eq_getElem hil
        generalize (bfs m i)[i] = r at hr
        have hrm := List.mem_of_getElem? hr
        have rok := (B.ok r hrm).1
        have rlen := (B.ok r hrm).2
        have hW1 := hW.same e1
        obtain ⟨sW1, dW1, vs1, ho1, hvs1⟩ := id hW1
        refine use_n (K := K) (ds := (stepsOf m r.1).map dStep) (en_call (eds_cons (ed_var rfl (dp_same sW1 hv)) (eds_cons (ed_ixL (ed_var rfl (.lst (.of ho1) hvs1)) (ev_var rfl) (by omega) (by rw [List.getElem?_map, Int.toNat_natCast, hr]; rfl)) eds_nil)) ⟨m, r.1, g, rok, rfl, rfl⟩) fun q2 us H6 nq2 e6 hq2 hus => ?_
        have hW6 := hW1.same e6
        have nqo : q2 ≠ o := fun z => by rw [z, ho1] at nq2; cases nq2
        have nqd : q2 ≠ d := fun z => by
          obtain ⟨xs, ed⟩ := dW1.free
          rw [z, ed] at nq2
          cases nq2
        refine ⟨q2, rfl, ⟨us, .of hq2⟩, for_it (walk_list (xs := us)) (fun j σ' H' => (∃ y5 y6 y7, σ' = [some v, some (.int (n : Int)), some (.ref d), some (.ref o), some (.int (i : Int)), y5, y6, y7]) ∧ Ways P w K H H' d o (((stepsOf m r.1).take j).foldl (addR r.2) (bfs m i)) ∧ H' q2 = some (.lst us) ∧ DpAll K H' us ((stepsOf m r.1).map dStep)) ⟨⟨y5, y6, y7, rfl⟩, hW6, hq2, hus⟩ (fun j σ' H' _ hP => .of hP.2.2.1) (fun j y σ' Hc Hd hj hP hy => ?_) (fun σ' H' hP => ?_)⟩
        · obtain ⟨⟨y5, y6, y7, rfl⟩, hWj, hqj, husj⟩ := hP
          obtain ⟨rfl, hx⟩ := hy
          obtain ⟨d0, hd0, hdx⟩ := husj.at hx
          rw [List.getElem?_map] at hd0
          cases hsj : (stepsOf m r.1)[j]? with
          | none =>
            rw [hsj] at hd0
            cases hd0
          | some x =>
          rw [hsj] at hd0
          obtain rfl := Option.some.inj hd0
          have hxm := List.mem_of_getElem? hsj
          refine tg3 hdx fun u1 u2 u3 b1 b2 b3 => ?_
          obtain rfl := dp_str b1
          dsimp only
          have hB2 : RowsOk m (i + 1) (((stepsOf m r.1).take j).foldl (addR r.2) (bfs m i)) := B.mono.fold rlen fun z hz => okay_of_step g rok (List.mem_of_mem_take hz)
          have hl2 := (fold_len r.2 ((stepsOf m r.1).take j) (bfs m i)).2
          have hl3 : ((stepsOf m r.1).take j).length ≤ 27 := by
            have := steps_len g r.1
            rw [List.length_take]
            omega
          have hpre : ∃ tl, ((stepsOf m r.1).take j).foldl (addR r.2) (bfs m i) = bfs m i ++ tl := fold_pre _ _ _
          have etake := take_fold (v := r.2) hsj (bfs m i)
          generalize ((stepsOf m r.1).take j).foldl (addR r.2) (bfs m i) = L at *
          obtain ⟨sj, ⟨kvs, hdk, hpk⟩, vs2, ho2, hvs2⟩ := id hWj
          have hkl := Paired.length hpk
          have lk := (look_row x.2.2 hpk).1
          have hLi : L[i]? = some r := by
            obtain ⟨tl, e⟩ := hpre
            rw [e, List.getElem?_append_left hil]
            exact hr
          refine s_if (b := !(lookN kvs (kS x.2.2)).isSome) (et_test (ev_notinN (ev_var rfl) (key_at b3) (ev_var rfl) hdk)) (fun hb2 H7 e7 => ?_) fun hb2 H7 e7 => ?_
          · have hnew : x.2.2 ∉ L.map (·.1) := fun z => by
              rw [lk, decide_eq_true z] at hb2
              cases hb2
            have hdk7 := hdk.same e7
            have hpk7 : Paired (RowV K H7) kvs L := L2.Paired.mapP hpk fun kv r ⟨e, hv⟩ => ⟨e, dp_same e7 hv⟩
            have ho7 := e7 _ _ ho2
            have hvs7 := dps_same e7 hvs2
            obtain ⟨rv, hrv, hrd⟩ := look_get hpk7 hB2.nd (List.mem_of_getElem? hLi)
            obtain ⟨wv, hwv, hwd⟩ := hvs7.get (i := i) (d := dS r.1) (by rw [List.getElem?_map, hLi]; rfl)
            refine use_d (K := K) (d := dRow (x.2.2, r.2 ++ [x.1])) (ed_is (ed_catA (ed_of (ev_dget (ev_var rfl) hdk7 (ev_ixLv (ev_var rfl) (ev_var rfl) (.of ho7) (by omega) (by rw [Int.toNat_natCast]; exact hwv)) (key_at hwd) hrv) hrd) (ed_tup (eds_cons (ed_str (ev_var rfl)) eds_nil) (by show 1 ≤ 100000; decide)) (by rw [List.length_map]; show r.2.length + 1 ≤ 100000; omega)) (by unfold dRow; rw [List.map_append]; rfl)) fun u H8 e8 hu => ?_
            have hdk8 := hdk7.same e8
            have hpk8 : Paired (RowV K H8) kvs L := L2.Paired.mapP hpk7 fun kv r ⟨e, hv⟩ => ⟨e, dp_same e8 hv⟩
            have b38 := dp_same (e7.trans e8) b3
            refine ⟨.ref d, rfl, u3, rfl, d, kvs, kS x.2.2, rfl, hdk8, key_at b38, by omega, fun H9 hd9 h9 => ?_⟩
            have ho8 := e8 _ _ ho7
            have nod : o ≠ d := fun z => by
              obtain ⟨xs, ed, _⟩ := hdk8
              rw [z, ed] at ho8
              exact dicO_ne.1 _ (Option.some.inj ho8)
            have ho9 : H9 o = some (.lst vs2) := by rw [h9 o nod]; exact ho8
            have b39 : Dp K H9 u3 (dS x.2.2) := by
              obtain ⟨xs, ed, _⟩ := id hdk8
              refine dp_fz (fun b ys hb => ?_) _ _ (fz_dS _) b38
              rcases hb with (hb | ⟨oo, hb⟩) | hb
              · exact .inl (.inl (by rw [h9 b (fun z => by rw [z, ed] at hb; exact dicO_ne.2 _ (Option.some.inj hb))]; exact hb))
              · exact .inl (.inr ⟨oo, by rw [h9 b (fun z => by rw [z, ed] at hb; unfold DicO at hb; cases hb)]; exact hb⟩)
              · exact .inr hb
            refine sd_app (K := K) rfl ho9 (ed_var rfl b39) (by have := hvs2.length; rw [List.length_map] at this; omega) fun v2 H10 e10 hv2 => ?_
            have nd0 : H d = none := nd
            have hmore := Ways.more nd0 n0 sj (e7.trans e8) hdk8 hpk8 ho8 (dps_same e8 hvs7) (r := (x.2.2, r.2 ++ [x.1])) hnew hu hd9 h9 e10 hv2
            refine ⟨⟨_, _, _, rfl⟩, ?_, ?_, ?_⟩
            · rw [etake]
              unfold addR
              rw [if_neg hnew]
              exact hmore
            · rw [upd_ne nqo]
              exact e10 _ _ (by rw [h9 q2 nqd]; exact (e7.trans e8) _ _ hqj)
            · have t89 : TupK K H8 H9 := by
                obtain ⟨xs, ed, _⟩ := id hdk8
                intro b ys hb
                rcases hb with (hb | ⟨oo, hb⟩) | hb
                · exact .inl (.inl (by rw [h9 b (fun z => by rw [z, ed] at hb; exact dicO_ne.2 _ (Option.some.inj hb))]; exact hb))
                · exact .inl (.inr ⟨oo, by rw [h9 b (fun z => by rw [z, ed] at hb; unfold DicO at hb; cases hb)]; exact hb⟩)
                · exact .inr hb
              exact dps_tk ((TupK.of (e7.trans e8)).trans (t89.trans ((TupK.of e10).trans (.lst (e10 _ _ ho9))))) (fz_map fun z _ => fz_dStep z) husj
          · have hold : x.2.2 ∈ L.map (·.1) := by
              rw [lk] at hb2
              simpa using hb2
            refine ⟨⟨_, _, _, rfl⟩, ?_, e7 _ _ hqj, dps_same e7 husj⟩
            rw [etake]
            unfold addR
            rw [if_pos hold]
            exact hWj.same e7
        · obtain ⟨⟨y5, y6, y7, rfl⟩, hWj, _⟩ := hP
          have hul := hus.length
          rw [List.length_map] at hul
          rw [hul, List.take_length] at hWj
          refine ⟨⟨_, _, _, _, rfl⟩, ?_⟩
          show Ways P w K H H' d o (bfsAt m (bfs m i) i)
          unfold bfsAt
          rw [hr]
          exact hWj
      · have hb := of_decide_eq_false hb
        refine ⟨⟨_, _, _, _, rfl⟩, ?_⟩
        show Ways P w K H H1 d o (bfsAt m (bfs m i) i)
        unfold bfsAt
        rw [List.getElem?_eq_none (by omega)]
        exact hW.same e1
    · obtain ⟨⟨y4, y5, y6, y7, rfl⟩, hW⟩ := hP
      rw [Int.toNat_natCast] at hW
      obtain ⟨sW, dW, _⟩ := hW
      exact ⟨.ref d, rfl, q d H' nd sW dW⟩
end
end Ink
namespace Ink
open PySem PySem.Spec PyProof.Rows L2 Evl
theorem use_t {t : TT} {σ : L2.St} {H : Hp} {b : Bool} {Q : Bool → Hp → Prop} (h : EvT t σ H b) (k : ∀ H1, Ex H H1 → Q b H1) : t σ H Q := h H (.refl H) Q k
theorem use_asg {te : TE} {g : TG} {tz : TS} {D : Ends} {σ : L2.St} {H : Hp} (h : te σ H fun x H1 => g x σ H1 (tz D)) : tSeq (tAsg te g) tz D σ H := h
theorem ev_lenN {P : Program} {w : World} {K : PySem.W.Frag} {te : TE} {σ : L2.St} {H : Hp} {d : Addr} {kvs : List (NK × V)} (h : Ev te σ H (.ref d)) (hd : DicAt P w K H d kvs) : Ev (tCB (rLenN P w K) (tCons te tNil)) σ H (.int (kvs.length : Nat)) := fun H1 e Q q =>
  h H1 e _ fun H2 e2 => ⟨d, kvs, rfl, hd.same (e.trans e2), q H2 e2⟩
theorem tk_put {P : Program} {w : World} {K : PySem.W.Frag} {H H' : Hp} {d : Addr} {kvs : List (NK × V)} (hd : DicAt P w K H d kvs) (h : ∀ b, b ≠ d → H' b = H b) : TupK K H H' := fun b ys hb => by
  obtain ⟨xs, ed, _⟩ := hd
  rcases hb with (hb | ⟨oo, hb⟩) | hb
  · exact .inl (.inl (by rw [h b (fun z => by rw [z, ed] at hb; exact dicO_ne.2 _ (Option.some.inj hb))]; exact hb))
  · exact .inl (.inr ⟨oo, by rw [h b (fun z => by rw [z, ed] at hb; unfold DicO at hb; cases hb)]; exact hb⟩)
  · exact .inr hb
/-- a row more is stored at d and appended at o -/
theorem more_core {P : Program} {w : World} {K : PySem.W.Frag} {H2 H3 H4 : Hp} {d o : Addr} {l : List Row} {kvs : List (NK × V)} {vs : List V} {u v2 : V} {r : Row} (hd : DicAt P w K H2 d kvs) (p : Paired (RowV K H2) kvs l) (ho : H2 o = some (.lst vs)) (hv : DpAll K H2 vs (l.map fun r => dS r.1))
    (hn : r.1 ∉ l.map (·.1)) (hu : Dp K H2 u (dRow r)) (hd3 : DicAt P w K H3 d (putN kvs (kS r.1) u)) (h3 : ∀ b, b ≠ d → H3 b = H2 b) (e4 : Same H3 H4) (hv2 : Dp K H4 v2 (dS r.1)) :
    (∀ b x, H2 b = some x → b ≠ d → b ≠ o → upd H4 o (.lst (vs ++ [v2])) b = some x) ∧ DicR P w K (upd H4 o (.lst (vs ++ [v2]))) d (l ++ [r]) ∧ DpAll K (upd H4 o (.lst (vs ++ [v2]))) (vs ++ [v2]) ((l ++ [r]).map fun r => dS r.1) ∧ TupK K H2 (upd H4 o (.lst (vs ++ [v2]))) := by
  obtain ⟨xs, ed, _⟩ := id hd
  have nod : o ≠ d := fun z => by
    rw [z, ed] at ho
    exact dicO_ne.1 _ (Option.some.inj ho)
  have t23 := tk_put hd h3
  have ho4 : H4 o = some (.lst vs) := e4 _ _ (by rw [h3 o nod]; exact ho)
  have t4 : TupK K H4 (upd H4 o (.lst (vs ++ [v2]))) := .lst ho4
  have tt := t23.trans ((TupK.of e4).trans t4)
  obtain ⟨ys, ed3, _⟩ := id hd3
  have dr := DicR.put p hn hu hd3 t23
  refine ⟨fun b x hb n1 n2 => ?_, (dr.up (by rw [ed3]; exact e4 _ _ ed3) (.of e4)).up (upd_ne nod.symm) t4, ?_, tt⟩
  · rw [upd_ne n2]
    exact e4 _ _ (by rw [h3 b n1]; exact hb)
  · rw [List.map_append]
    exact DpAll.app (dps_tk tt (fz_keysR l) hv) (.cons (dp_tk t4 (fz_dS _) hv2) .nil)
/-- .. beside a company whose dict stands at d0 -/
structure WaysC (P : Program) (w : World) (K : PySem.W.Frag) (C : Addr) (H0 H : Hp) (c : Addr) (m : List Wr) (n : Nat) (d0 d o : Addr) (l : List Row) : Prop where
  kd : KD d0 H0 H
  co : CoAtD P w K C H c m n d0
  dr : DicR P w K H d l
  os : ∃ vs, H o = some (.lst vs) ∧ DpAll K H vs (l.map fun r => dS r.1)
theorem CoAtD.more {P : Program} {w : World} {K : PySem.W.Frag} {C : Addr} {H : Hp} {c : Addr} {m : List Wr} {n n' : Nat} {d : Addr} (h : CoAtD P w K C H c m n d) (hn : n ≤ n') : CoAtD P w K C H c m n' d := by
  obtain ⟨dx, tw, kvs, h1, h2, h3, h4, h5, h6⟩ := h
  exact ⟨dx, tw, kvs, h1, h2, h3, h4, Nat.le_trans h5 hn, h6⟩
theorem CoAtD.same {P : Program} {w : World} {K : PySem.W.Frag} {C : Addr} {H H' : Hp} {c : Addr} {m : List Wr} {n : Nat} {d : Addr} (h : CoAtD P w K C H c m n d) (e : Same H H') : CoAtD P w K C H' c m n d := by
  obtain ⟨xs, ed⟩ := h.ext
  exact h.keep (by rw [ed]; exact e _ _ ed) (fun o ho => e _ _ ho) (.of e)
theorem WaysC.same {P : Program} {w : World} {K : PySem.W.Frag} {C : Addr} {H0 H H' : Hp} {c : Addr} {m : List Wr} {n : Nat} {d0 d o : Addr} {l : List Row} (h : WaysC P w K C H0 H c m n d0 d o l) (e : Same H H') : WaysC P w K C H0 H' c m n d0 d o l := by
  obtain ⟨k, co, dr, vs, ho, hv⟩ := h
  obtain ⟨ys, ed⟩ := dr.free
  exact ⟨fun b x hb n => e _ _ (k b x hb n), co.same e, dr.up (by rw [ed]; exact e _ _ ed) (.of e), vs, e _ _ ho, dps_same e hv⟩
def spFew (K : PySem.W.Frag) : Sp := fun vs H Q _ => ∃ v m, vs = [v] ∧ Dp K H v (dMl m) ∧ GoodM m ∧ ∀ H', Same H H' → Q (.bl (decide ((((bfs m 61).length : Nat) : Int) < 61))) H'
/-- the stands of a company, or TooMany -/
def spStrips (P : Program) (w : World) (K : PySem.W.Frag) (C T : Addr) : Sp := fun vs H Q E => ∃ c m n d0, vs = [.ref c] ∧ CoAtD P w K C H c m n d0 ∧ n < 80000 ∧ GoodM m ∧
  ((bfs m 61).length ≤ 60 → ∀ p H', H p = none → KD d0 H H' → CoAtD P w K C H' c m (n + 100) d0 → DicR P w K H' p (bfs m 61) → Q (.ref p) H') ∧
  (60 < (bfs m 61).length → ∀ dd H', KD d0 H H' → CoAtD P w K C H' c m (n + 100) d0 → H' dd = some (.xd [("most", .int 60), ("word", .str "TooMany")]) → E (.ref T) (some dd) H')
section
variable {P : Program} {w : World} {K : PySem.W.Frag} {mg : Str → Option Value} {base : Heap}
end
end Ink
namespace Ink
open PySem PySem.Spec PyProof.Rows L2 Evl
/-- a def that may raise, by its name -/
def CalN (P : Program) (w : World) (K : PySem.W.Frag) (mg : Str → Option Value) (base : Heap) (k : Nat) (x : Str) (ps : List Str) (sp : Sp) : Prop :=
  ∃ f fd, FnOk P w K mg base (L2N.CX P w) k f fd ps sp ∧ mg x = some (.ref f) ∧ PySem.W.keepIn K (.ref f) = true ∧ Binds K fd ps []
/-- a method that may raise -/
def MetN (P : Program) (w : World) (K : PySem.W.Frag) (mg : Str → Option Value) (base : Heap) (k : Nat) (C : Addr) (m : Str) (ps : List Str) (sp : Sp) : Prop :=
  ∃ f fd, FnOk P w K mg base (L2N.CX P w) k f fd ps sp ∧ Meth K C m f ∧ Cls K C ∧ Binds K fd ps []
section
variable {X : Cx} {k : Nat} {C : Addr} {x m : Str} {ps : List Str} {sp : Sp} {p pos apos : Pos} {o e : Expr} {es : List Expr} {ta : TE} {t : TA} {E : XK}
theorem pe_callCN (c : CalN X.prog X.w X.K X.mg X.base k x ps sp) (hr : Room k X.A) (hx : Passes (L2N.CX X.prog X.w) X E) (hg : Gl X x) (ha : PA X (e :: es) t) (hdb : (x == ("__debug__" : Str)) = false := by decide)
    (he : starEach (e :: es) X.env = (false, eval e X.env) :: starEach es X.env := by rfl) (hpl : (backTo pos (starEach es X.env)).any (·.1) = false := by rfl) : PE X (.Call (.Name x p) (e :: es) [] pos) (tCall sp [] E t) := by
  obtain ⟨f, fd, G, g, hk, b⟩ := c
  exact pe_call G hr hg g hk b .nil hx ha hdb he hpl
theorem pe_methN0 {pl : Sem Bool} (he : PE X o ta) (c : MetN X.prog X.w X.K X.mg X.base k C m ps sp) (hr : Room k X.A) (hx : Passes (L2N.CX X.prog X.w) X E)
    (ht : eval (.Call (.Attribute o m apos) [] [] pos) X.env = (do
      let ov ← eval o X.env
      standAt apos.atName
      let (f, first) ← holding [ov] (getMethod ov m pl)
      callWith pos f first (backTo pos (starEach [] X.env)) (backToKw pos (keywordEach [] X.env))) := by rfl) : PE X (.Call (.Attribute o m apos) [] [] pos) (tMeth C m sp [] E ta tNil) := by
  obtain ⟨f, fd, G, hm, hc, b⟩ := c
  exact pe_meth0 he hc hm G hr b .nil hx ht
/-- nothing is raised -/
theorem passN0 : Passes (L2N.CX X.prog X.w) X E0 := by
  intro pins σ H s e s' I h
  obtain ⟨a, B, H', cls, d, _, _, _, _, _, _, _, hE⟩ := h
  exact False.elim hE
theorem passN {P : Program} {w : World} {K : PySem.W.Frag} {mg : Str → Option Value} {base : Heap} {N : List Str} {qual : Str} {sc : Scope} {f : Addr} {cdv : Value} {A : Around} {outer : List Env} {s : Shared} {H : Hp} {E : XK} :
    Passes (L2N.CX P w) (cxOf (L2N.CX P w) P w K mg base N qual sc f cdv A outer s H E) E := L2N.passes_call (L2N.takes_of rfl rfl rfl rfl) fun _ _ _ _ h => h
theorem passA {Y : Cx} {A : Around} {outer : List Env} {s : Shared} {H : Hp} {E : XK} {sc : Scope} {f cd : Addr} : Passes (L2N.CX Y.prog Y.w) (L2N.askC Y A outer s H E sc f cd) E := L2N.passes_call (L2N.takes_of rfl rfl rfl rfl) fun _ _ _ _ h => h
end
def sortR (l : List Row) : List PyData := (l.map fun r => dS r.1).mergeSort (PySem.W.dataLe false id)
/-- stands(), or TooMany -/
def spStands (P : Program) (w : World) (K : PySem.W.Frag) (C T : Addr) : Sp := fun vs H Q E => ∃ c m n d0, vs = [.ref c] ∧ CoAtD P w K C H c m n d0 ∧ n < 80000 ∧ GoodM m ∧
  ((bfs m 61).length ≤ 60 → ∀ p us H', H p = none → KD d0 H H' → CoAtD P w K C H' c m (n + 100) d0 → H' p = some (.lst us) → DpAll K H' us (sortR (bfs m 61)) → Q (.ref p) H') ∧
  (60 < (bfs m 61).length → ∀ dd H', KD d0 H H' → CoAtD P w K C H' c m (n + 100) d0 → H' dd = some (.xd [("most", .int 60), ("word", .str "TooMany")]) → E (.ref T) (some dd) H')
theorem keys_data {K : PySem.W.Frag} {H : Hp} : ∀ {kvs : List (NK × V)} {l : List Row}, Paired (RowV K H) kvs l → (kvs.map fun kv => kv.1.data) = l.map fun r => dS r.1
  | _, _, .nil => rfl
  | _, _, .cons (a := kv) (b := r) q t => by
    rw [List.map_cons, List.map_cons, keys_data t, q.1, kS_data]
theorem KD.none {d p : Addr} {H H' : Hp} {o : HO} (k : KD d H H') (hd : H' d = some o) (hp : H' p = Option.none) : H p = Option.none := by
  cases e : H p with
  | none => rfl
  | some u =>
    by_cases n : p = d
    · rw [n, hd] at hp
      cases hp
    · rw [k p u e n] at hp
      cases hp
section
variable {P : Program} {w : World} {K : PySem.W.Frag} {mg : Str → Option Value} {base : Heap}
end
end Ink
namespace Ink
open PySem PySem.Spec PyProof.Rows L2 Evl
/-! ### what stays when a lambda is made, and behind the company's stands -/
theorem heap_at (c : Addr) (o : Obj) (hf : ∀ a b d, o ≠ ⟨a, b, .freed, d⟩) : ∃ h : Heap, h.get? c = some o := by
  refine ⟨{ objs := (Array.replicate c o).push o }, ?_⟩
  unfold Heap.get?
  have e : ((Array.replicate c o).push o)[c]? = some o := by
    rw [Array.getElem?_push, Array.size_replicate, if_pos rfl]
  show (match ((Array.replicate c o).push o)[c]? with | some ⟨_, _, .freed, _⟩ => none | o => o) = some o
  rw [e]
  obtain ⟨x1, x2, x3, x4⟩ := o
  cases x3 <;> first | rfl | exact absurd rfl (hf _ _ _)
theorem dic_ne_code {P : Program} {w : World} {d c : Addr} {q : Str} {xs : DX} (hd : DicO P w d xs = LamX.CodeO c q) : c ≠ d := by
  intro z
  subst z
  unfold DicO LamX.CodeO at hd
  have hd := HO.ext.inj hd
  obtain ⟨h, hh⟩ := heap_at c { cls := .none, data := .fields #[.none, .str q 0] } (fun _ _ _ z => by cases z)
  have h1 := congrFun hd h
  have h2 : ∃ (oc : Obj) (vs : Array Value) (t : Tok), h.get? c = some oc ∧ oc.data = .fields vs ∧ vs[1]? = some (.str q t) := ⟨_, _, 0, hh, rfl, rfl⟩
  rw [← h1] at h2
  obtain ⟨_, es, ep, e1, _, e2, _⟩ := h2
  rw [hh] at e1
  rw [← Option.some.inj e1] at e2
  cases e2
theorem tabs_keep {T : List (Addr × Str)} {H H' : Hp} {a l : Addr} (b : BagAt H a l) (k : Keep a H H') (t : LamX.Tabs T H) : LamX.Tabs T H' := fun p hp => by
  obtain ⟨_, _, _, _, ea, _⟩ := b
  obtain ⟨ps, h1, h2, h3⟩ := t p hp
  refine ⟨ps, k _ _ (fun z => by rw [z, ea] at h1; cases h1) h1, h2, fun pos cv hc => ?_⟩
  obtain ⟨c, e1, e2⟩ := h3 pos cv hc
  exact ⟨c, e1, k _ _ (fun z => by rw [z, ea] at e2; unfold LamX.CodeO at e2; cases e2) e2⟩
theorem tabs_kd {P : Program} {w : World} {T : List (Addr × Str)} {H H' : Hp} {d : Addr} {xs : DX} (hd : H d = some (DicO P w d xs)) (k : KD d H H') (t : LamX.Tabs T H) : LamX.Tabs T H' := fun p hp => by
  obtain ⟨ps, h1, h2, h3⟩ := t p hp
  refine ⟨ps, k _ _ h1 (fun z => by rw [z, hd] at h1; unfold DicO at h1; cases h1), h2, fun pos cv hc => ?_⟩
  obtain ⟨c, e1, e2⟩ := h3 pos cv hc
  refine ⟨c, e1, k _ _ e2 fun z => ?_⟩
  rw [z, hd] at e2
  exact dic_ne_code (Option.some.inj e2) rfl
theorem bag_kd {P : Program} {w : World} {H H' : Hp} {d a l : Addr} {xs : DX} (hd : H d = some (DicO P w d xs)) (k : KD d H H') (b : BagAt H a l) : BagAt H' a l := by
  obtain ⟨ns, p, h, s, h1, h2, r⟩ := b
  exact ⟨ns, p, h, s, k _ _ h1 (fun z => by rw [z, hd] at h1; exact dicO_ne.1 _ (Option.some.inj h1)), k _ _ h2 (fun z => by rw [z, hd] at h2; exact dicO_ne.1 _ (Option.some.inj h2)), r⟩
theorem bag_ext {H H' : Hp} {a l : Addr} (e : LamX.ExtN H H') (b : BagAt H a l) : BagAt H' a l := by
  obtain ⟨ns, p, h, s, h1, h2, r⟩ := b
  exact ⟨ns, p, h, s, e _ _ h1 (fun _ z => by cases z), e _ _ h2 (fun _ z => by cases z), r⟩
theorem tk_ext {K : PySem.W.Frag} {H H' : Hp} (e : LamX.ExtN H H') : TupK K H H' := fun b ys h => by
  rcases h with (h | ⟨o, h⟩) | h
  · exact .inl (.inl (e _ _ h fun _ z => by cases z))
  · exact .inl (.inr ⟨o, e _ _ h fun _ z => by cases z⟩)
  · exact .inr h
theorem CoAtD.extN {P : Program} {w : World} {K : PySem.W.Frag} {C : Addr} {H H' : Hp} {c : Addr} {m : List Wr} {n : Nat} {d : Addr} (h : CoAtD P w K C H c m n d) (e : LamX.ExtN H H') : CoAtD P w K C H' c m n d := by
  obtain ⟨xs, ed⟩ := h.ext
  obtain ⟨dx, tw, kvs, h1, h2, h3, h4, h5⟩ := h
  exact ⟨dx, tw, kvs, e _ _ h1 (fun _ z => by cases z), dp_tk (tk_ext e) (fz_dMt m) h2, h3.up (by rw [ed]; exact e _ _ ed (fun _ z => by unfold DicO at z; cases z)) (tk_ext e), h4.up (tk_ext e), h5⟩
/-! ### a list turned about in its place -/
def rReverse : V → List V → Hp → VK → Prop := fun x vs H Q => ∃ (l : Addr) (xs : List V), x = .ref l ∧ vs = [] ∧ H l = some (.lst xs) ∧ Q .non (upd H l (.lst xs.reverse))
theorem mt_reverse {X : Cx} : MtM X "list.reverse" rReverse := by
  intro pins s σ H x vs v us Q I rx rv h
  obtain ⟨l, xs, rfl, rfl, hH, q⟩ := h
  cases rx
  have hus := rv.zero
  subst hus
  obtain ⟨z, its, n, r, hl, e⟩ := I.lstM hH
  refine call_meets PySem.F.slot_list_reverse ⟨_, e, rfl⟩ PySem.F.entry_list_reverse (PySem.F.args_list_reverse_1 _) (PySem.AutoSeq1.list_reverse_list_0 l its.toArray n (by rw [List.size_toArray]; omega)) ⟨e, ?_⟩
  refine ⟨.non, _, I.lset (its' := its.reverse) hH e (by simp) (Vals.reverse r) (by rw [List.length_reverse]; exact z), rfl, q⟩
/-! ### a company made, its dict new -/
def spInitD (P : Program) (w : World) (K : PySem.W.Frag) (C : Addr) (c : List PyData → PyData) : Sp := fun vs H Q _ => ∃ p dx v m, vs = [.ref p, v] ∧ H p = some (.ins C dx []) ∧ Dp K H v (c (m.map dW)) ∧ GoodM m ∧
  ∀ d H', H d = none → (∀ b o, H b = some o → b ≠ p → H' b = some o) → CoAtD P w K C H' p m 0 d → Q .non H'
section
variable {P : Program} {w : World} {K : PySem.W.Frag} {mg : Str → Option Value} {base : Heap}
theorem ok_initD {f C : Addr} {fd : FuncData} {k : Nat} {c : List PyData → PyData} {df : List V} (F : FunD K "__init__" "Company.__init__" (defArgs sCompanyInit) (defBody sCompanyInit) (defScope sCompanyInit) df [] f fd) (T : Txt mg) (Z : CoC K C) (hc : c = .list ∨ c = .tuple)
    (C__need_company : Cal P w K mg base k "_need_company" ["writers"] (spP K (RNeed c))) : FnOk P w K mg base CX0 (k + 1) f fd ["self", "writers"] (spInitD P w K C c) := by
  refine F.ok sc_Company___init__ (fun vs H Q E h => ?_) (fun cdv A outer s H vs Q E hr h => ?_)
  · obtain ⟨p, dx, v, m, rfl, _⟩ := h
    rfl
  · obtain ⟨p, dx, v, m, rfl, hp, hv, g, q⟩ := h
    refine ⟨_, (pss_cons (ps_expr (pe_callC C__need_company hr (by rfl) (pa_cons (pv 1) pa_nil)))
    (pss_cons (ps_fld (pv 0) (pe_callTy call_tuple_of (by rfl) T.m_tuple (by decide +kernel) (pa_cons (pv 1) pa_nil)) rfl)
    (pss_one (ps_fld (pv 0) pe_dnewN rfl)))), ?_⟩
    refine (ed_call (K := K) (d := .none) (eds_cons (ed_var rfl hv) eds_nil) ⟨m, g, rfl, rfl⟩) H (.refl H) _ fun _ H1 e1 _ => ?_
    have hv := dp_same e1 hv
    have hw : EvD K (tCB (fun xs H Q => ∃ p ys, xs = [.ref p] ∧ ((SqL K H p ys ∧ ∀ l, H l = none → Q (.ref l) (upd H l (.tup ys))) ∨ (SqT K H p ys ∧ Q (.ref p) H))) (tCons (tVar 1) tNil)) [some (.ref p), some v] H1 (dMt m) := by
      rcases hc with rfl | rfl
      · exact ed_tuple (ed_var rfl hv)
      · exact ed_tupleT (ed_var rfl hv)
    refine sd_fld hw fun u H2 e2 hu => ?_
    obtain ⟨tw, xs, rfl, htw, hxs⟩ := dp_tup hu
    have hp2 := e2 _ _ (e1 _ _ hp)
    refine ⟨.ref p, rfl, p, C, dx, [], rfl, hp2, Z.cl, Z.nW, (by show 0 < 1000; decide), ?_⟩
    intro d H3 nd hb hd
    have pd : p ≠ d := ne_of_none (upd_same (H := H2) (a := p) (o := .ins C dx (putF "_writers" (.ref tw) []))) nd
    refine ⟨.ref p, rfl, p, C, dx, _, rfl, (hb p pd).trans upd_same, Z.cl, Z.nF, (by show 1 < 1000; decide), ?_⟩
    have t3 : ∀ b o, H2 b = some o → b ≠ p → upd H3 p (.ins C dx (coF tw d)) b = some o := fun b o e nb => by
      have nbd : b ≠ d := ne_of_none (by rw [upd_ne nb]; exact e) nd
      rw [upd_ne nb, hb b nbd, upd_ne nb]
      exact e
    have tk : TupK K H2 (upd H3 p (.ins C dx (coF tw d))) := fun b xs h => by
      rcases h with (h | ⟨o, h⟩) | h
      · exact .inl (.inl (t3 _ _ h (ne_of h hp2 (by intro z; cases z))))
      · exact .inl (.inr ⟨o, t3 _ _ h (ne_of h hp2 (by intro z; cases z))⟩)
      · exact .inr h
    have nd2 : H2 d = none := by
      rw [upd_ne pd.symm] at nd
      exact nd
    refine q d _ (Same.free (e1.trans e2) nd2) (fun b o e nb => t3 b o (e2 _ _ (e1 _ _ e)) nb) ⟨dx, tw, [], upd_same, dp_tk tk (fz_dMt m) (.tup htw hxs), hd.up (upd_ne pd.symm) ?_, fun kv hk => (by cases hk), Nat.le_refl _, fun kv hk => (by cases hk)⟩
    exact TupK.upd ((hb p pd).trans upd_same) (fun _ z => by cases z) fun _ _ z => by cases z
end
section
variable {Y : Cx} {k : Nat} {C : Addr} {m : Str} {ps : List Str} {sp : Sp} {pos apos : Pos} {o : Expr} {ta : TE} {A : Around} {outer : List Env} {s : Shared} {H : Hp} {E : XK} {sc : Scope} {f cd : Addr}
/-- o.m() in a lambda -/
theorem pe_lamM {pl : Sem Bool} (he : PE (L2N.askC Y A outer s H E sc f cd) o ta) (c : MetN Y.prog Y.w Y.K Y.mg Y.base k C m ps sp) (hr : Room k (A.deeper (LamX.lamEnv Y sc s.heap.objs.size f cd)))
    (ht : eval (.Call (.Attribute o m apos) [] [] pos) (L2N.askC Y A outer s H E sc f cd).env = (do
      let ov ← eval o (L2N.askC Y A outer s H E sc f cd).env
      standAt apos.atName
      let (f9, first) ← holding [ov] (getMethod ov m pl)
      callWith pos f9 first (backTo pos (starEach [] (L2N.askC Y A outer s H E sc f cd).env)) (backToKw pos (keywordEach [] (L2N.askC Y A outer s H E sc f cd).env))) := by rfl) : PE (L2N.askC Y A outer s H E sc f cd) (.Call (.Attribute o m apos) [] [] pos) (tMeth C m sp [] E ta tNil) :=
  pe_methN0 (X := L2N.askC Y A outer s H E sc f cd) he c hr (passA (Y := Y)) ht
end
end Ink
namespace Ink
open PySem PySem.Spec PyProof.Rows L2
/-! ### {k: v for x in xs if ..}, keys nested tuples -/
abbrev Puts := Addr → V → V → Hp → (Hp → Prop) → Prop
def PutOk (X : Cx) (Pt : Puts) : Prop := ∀ (pins : List (Addr × Obj)) (σ : L2.St) (H : Hp) (s : Shared) (D : Addr) (y z : V) (u r : Value) (Nx : Hp → Prop), Inv X pins σ H s → RelV y u → RelV z r → Pt D y z H Nx →
  wpAny (model X.prog X.w) X.A (dictSet D u r) (fun _ s' => ∃ H', Inv X pins σ H' s' ∧ Nx H') (fun _ _ => False) s
def NewD (X : Cx) (Nw : Addr → HO) : Prop := ∀ (H : Hp) (h : Heap) (D : Addr), (D == sysModules) = false → h.get? D = some { cls := .type "dict", data := .dict #[] } → ObjOk X.prog X.w H h D (Nw D)
section
variable {X : Cx}
def tDcN (Nw : Addr → HO) (Pt : Puts) (wi : TI) (g : TG) (tt : TT) (tk tv : TE) (vs : List Nat) : TE := fun σ H Q => wi σ H fun J H1 => ∀ D, H1 D = none → ∃ W : Nat → Nat → Hp → Prop, (∃ m, W 0 m (upd H1 D (Nw D))) ∧ ∀ i m H, W i m H →
  (J.stop i H ∧ Q (.ref D) H) ∨ (J.go i H ∧ ∃ Nx : Hp → Prop, (∀ H', Nx H' → ∃ m', m' < m ∧ W (i + 1) m' H') ∧ ∀ x H', J.yld i H x H' → g x (wipe σ vs) H' fun σ2 H2 => wipe σ2 vs = wipe σ vs ∧ tt σ2 H2 fun b H3 =>
    if b = true then tk σ2 H3 fun y H4 => tv σ2 H4 fun z H5 => Pt D y z H5 Nx else Nx H3)
theorem dcN_core {pins : List (Addr × Obj)} {s : Shared} {σ : L2.St} {H : Hp} {Q : VK} {kx vx tg iter : Expr} {ifs : List Expr} {scope : Scope} {own : List (Str × Nat)} {pos pos' : Pos} {wi : TI} {g : TG} {tt : TT} {tk tv : TE} {Qf : Value → Shared → Prop} {Nw : Addr → HO} {Pt : Puts}
    (hc : X.calm = true) (hN : X.N.Nodup) (I : Inv X pins σ H s) (hi : PI X tg iter wi) (ok : BlkOk X.N X.env.scope scope own) (hnw : NewD X Nw)
    (hpt : ∀ (s : Shared) (H : Hp) (C : Addr) (cl : List (Str × Addr)) (fp : List Addr), PutOk (X.blk s H scope (compEnvC scope cl C X.env) fp) Pt)
    (hg : ∀ (s : Shared) (H : Hp) (C : Addr) (cl : List (Str × Addr)) (fp : List Addr), PG (X.blk s H scope (compEnvC scope cl C X.env) fp) tg g) (ht : ∀ (s : Shared) (H : Hp) (C : Addr) (cl : List (Str × Addr)) (fp : List Addr), PTs (X.blk s H scope (compEnvC scope cl C X.env) fp) ifs tt)
    (hk : ∀ (s : Shared) (H : Hp) (C : Addr) (cl : List (Str × Addr)) (fp : List Addr), PE (X.blk s H scope (compEnvC scope cl C X.env) fp) kx tk) (hv : ∀ (s : Shared) (H : Hp) (C : Addr) (cl : List (Str × Addr)) (fp : List Addr), PE (X.blk s H scope (compEnvC scope cl C X.env) fp) vx tv)
    (hs : ∀ x, foldedSetIterable iter X.env x = pure x) (h : tDcN Nw Pt wi g tt tk tv (own.map (·.2)) σ H Q)
    (back : ∀ D C s' m H', Inv X pins σ H' s' → Q (.ref D) H' → s'.heap.Ns C m → FpOk X pins H' C → compPost (model X.prog X.w) X.A X.xe none Qf (.ref D) C (.ok .next) s') :
    wpAny (model X.prog X.w) X.A (comprehension (.DictComp kx vx [⟨tg, iter, ifs, 0⟩] scope pos) scope X.env pos' newDict false (eval iter X.env) none) Qf X.xe s := by
  have hfree : ∀ y ∈ scope.names, y.2 = .free → ∃ c, X.env.cells.lookup y.1 = some c := fun y hy e => (ok.free y hy e).elim (fun k => I.ok.has _ (.inl k)) (fun k => I.ok.has _ (.inr k))
  refine wpAny_comprehension_free (use := none) rfl hs (closure_ok hfree) ok.kind (fun y hy e => by rw [ok.uniq y hy, e])
    (thn (hi.run pins s σ H _ I h) fun xv s1 hx => thn hx fun itv s2 h2 => ?_)
  obtain ⟨it, fp, tn, J, H2, rfl, I2, T, st2, f2, q⟩ := h2
  refine wpAny_newObj_type (newEnv_comp ?_)
  obtain ⟨D, hD⟩ : ∃ D, s2.heap.objs.size = D := ⟨_, rfl⟩
  obtain ⟨W, ⟨m0, w0⟩, turn⟩ := q D (I2.hok.fresh (Nat.le_of_eq hD))
  show codeAny _ _ (.compStart (.DictComp kx vx [⟨tg, iter, ifs, 0⟩] scope pos) 0 (.ref it) (.ref s2.heap.objs.size) (compEnvC scope (cellsFrom (({ s2 with heap := s2.heap.push { cls := .type "dict", data := .dict #[] } } : Shared).heap.objs.size + 1) scope.names (cloFrom X.env.cells scope.names [])) ({ s2 with heap := s2.heap.push { cls := .type "dict", data := .dict #[] } } : Shared).heap.objs.size X.env)) (compPost (model X.prog X.w) X.A X.xe none Qf (.ref s2.heap.objs.size) ({ s2 with heap := s2.heap.push { cls := .type "dict", data := .dict #[] } } : Shared).heap.objs.size) { ({ s2 with heap := s2.heap.push { cls := .type "dict", data := .dict #[] } } : Shared) with heap := pushCells (({ s2 with heap := s2.heap.push { cls := .type "dict", data := .dict #[] } } : Shared).heap.push { cls := .type "dict", data := .dict #[] }) scope.names }
  have big : (D == sysModules) = false := by
    rw [← hD]
    exact beq_eq_false_iff_ne.mpr (Ne.symm (Nat.ne_of_lt I2.big))
  rw [hD]
  generalize hs3 : ({ s2 with heap := s2.heap.push { cls := .type "dict", data := .dict #[] } } : Shared) = s3
  have h3 : s3.heap = s2.heap.push { cls := .type "dict", data := .dict #[] } := by rw [← hs3]
  have I3 : Inv X pins σ (upd H2 D (Nw D)) s3 := by
    rw [← hs3]
    refine I2.laid (t' := s2.toks) (fun b o e => Heap.get?_push_of_some _ e) (Nat.le_of_eq hD) (hnw _ _ _ big ?_)
    rw [← hD]
    exact Heap.get?_push_size _ rfl
  have f3 : ∀ b ∈ fp, FpOk X pins (upd H2 D (Nw D)) b ∧ b < s3.heap.objs.size := fun b hb => by
    obtain ⟨o, e, _⟩ := T.obj _ _ st2 b hb
    have hlt := Heap.lt_size e
    refine ⟨⟨?_, (f2 b hb).2⟩, by rw [h3, Heap.size_push]; exact Nat.lt_succ_of_lt hlt⟩
    rw [upd_ne (by rw [← hD]; exact Nat.ne_of_lt hlt)]
    exact (f2 b hb).1
  have st3 : tn 0 s3.heap := T.keep _ _ _ st2 fun b _ o e => by rw [h3]; exact Heap.get?_push_of_some _ e
  have I4 := block_start I3 ok hN f3
  have pg := hg s3 (upd H2 D (Nw D)) s3.heap.objs.size (cellsFrom (s3.heap.objs.size + 1) scope.names (cloFrom X.env.cells scope.names [])) fp
  have pt := ht s3 (upd H2 D (Nw D)) s3.heap.objs.size (cellsFrom (s3.heap.objs.size + 1) scope.names (cloFrom X.env.cells scope.names [])) fp
  have pk := hk s3 (upd H2 D (Nw D)) s3.heap.objs.size (cellsFrom (s3.heap.objs.size + 1) scope.names (cloFrom X.env.cells scope.names [])) fp
  have pv := hv s3 (upd H2 D (Nw D)) s3.heap.objs.size (cellsFrom (s3.heap.objs.size + 1) scope.names (cloFrom X.env.cells scope.names [])) fp
  have pput := hpt s3 (upd H2 D (Nw D)) s3.heap.objs.size (cellsFrom (s3.heap.objs.size + 1) scope.names (cloFrom X.env.cells scope.names [])) fp
  have nfp : ∀ b ∈ fp, (upd H2 D (Nw D)) b = none := fun b hb => (f3 b hb).1.1
  obtain ⟨ce, hce⟩ : ∃ ce, compEnvC scope (cellsFrom (s3.heap.objs.size + 1) scope.names (cloFrom X.env.cells scope.names [])) s3.heap.objs.size X.env = ce := ⟨_, rfl⟩
  have cL : ce.locals = s3.heap.objs.size := by rw [← hce]; rfl
  rw [hce] at I4 pg pt pk pv pput ⊢
  generalize upd H2 D (Nw D) = H3 at I3 I4 pg pt pk pv pput w0 nfp f3
  obtain ⟨s4, hs4⟩ : ∃ s4 : Shared, { s3 with heap := pushCells (s3.heap.push { cls := .type "dict", data := .dict #[] }) scope.names } = s4 := ⟨_, rfl⟩
  rw [hs4] at I4 ⊢
  have st4 : tn 0 s4.heap := T.keep _ _ _ st3 fun b _ o e => by rw [← hs4]; exact pushCells_keeps _ _ _ _ (Heap.get?_push_of_some _ e)
  have stat : ∀ {σ' : L2.St} {H' : Hp} {s' : Shared}, Inv (X.blk s3 H3 scope ce fp) [] σ' H' s' → (∀ b ∈ fp, H' b = none) → ∀ b ∈ fp, FpOk (X.blk s3 H3 scope ce fp) [] H' b := fun {σ' H' s'} I' hn b hb =>
    ⟨hn b hb, (I'.ok.exf b hb).1, I'.ok.exfs b hb, .inl hb, fun x c e => (I'.ok.exf b hb).2 x c e, fun p hp => absurd (show p ∈ ([] : List (Addr × Obj)) ++ [] from hp) (by simp)⟩
  let KO : Nat → Shared → Prop := fun n s' => ∃ i H', Inv (X.blk s3 H3 scope ce fp) [] (wipe σ (own.map (·.2))) H' s' ∧ tn i s'.heap ∧ (∀ b ∈ fp, H' b = none) ∧ W i n H'
  have loop : codeAny (model X.prog X.w) X.A (.compLoop (.DictComp kx vx [⟨tg, iter, ifs, 0⟩] scope pos) 0 (.ref it) (.ref D) ce) (compPost (model X.prog X.w) X.A X.xe none Qf (.ref D) s3.heap.objs.size) s4 := by
    refine compLoop_anyD KO ?_ m0 ⟨0, H3, I4, st4, nfp, w0⟩
    rintro n s5 ⟨i, H5, I5, st5, n5, w5⟩
    rcases turn i n H5 w5 with ⟨stop, qq⟩ | ⟨go, Nx, hNx, step⟩
    · refine thnF (T.done (X.blk s3 H3 scope ce fp) rfl rfl rfl hc i [] s5 _ H5 (fun _ _ => False) I5 (stat I5 n5) st5 stop) fun r s6 ⟨hr, I6⟩ => ?_
      subst hr
      have I7 : Inv X pins σ H5 s6 := I3.call' (ch := fp) I6.os I6.base I6.hok I6.bare fun b hb => ⟨(f3 b hb).1.2.2.2.1, (f3 b hb).1.2.1, (f3 b hb).1.2.2.2.2.1, (f3 b hb).1.2.2.2.2.2⟩
      have nC : H5 s3.heap.objs.size = none := by
        rw [← cL]
        exact I6.free
      obtain ⟨m, hn, _⟩ := I6.loc
      have hn : s6.heap.Ns s3.heap.objs.size m := by
        rw [← cL]
        exact hn
      exact back D s3.heap.objs.size s6 m H5 I7 qq hn (I3.fpOk (Nat.le_refl _) nC)
    · refine thnF (T.item (X.blk s3 H3 scope ce fp) rfl rfl rfl hc i [] s5 _ H5 (fun _ _ => False) I5 (stat I5 n5) st5 go) fun r s6 ⟨u, hr, h6⟩ => ?_
      subst hr
      refine thnF h6 fun _ s7 ⟨x, H7, I7, r7, y7, st7, n7⟩ => ?_
      have I7' := I7.pinned (stat I7 n7) (T.obj _ _ st7)
      refine thnF (pg.run _ s7 _ H7 x u _ I7' r7 (step x H7 y7)) fun _ s8 ⟨σ8, H8, I8, hw8, q8⟩ => thnF (pt.run _ s8 σ8 H8 _ I8 q8) fun b s9 ⟨H9, I9, q9⟩ => ?_
      have fin : ∀ {s' : Shared} {H' : Hp}, Inv (X.blk s3 H3 scope ce fp) ([] ++ pinsAt fp s7.heap) σ8 H' s' → Nx H' → ∃ m, m < n ∧ KO m s' := fun {s' H'} I' nx => by
        obtain ⟨m', hm, w'⟩ := hNx H' nx
        have pin' : ∀ b ∈ fp, ∀ o, s7.heap.get? b = some o → s'.heap.get? b = some o ∧ H' b = none := fun b hb o e =>
          let z := I'.pin (b, o) (List.mem_append_right _ (List.mem_append_right _ (mem_pinsAt hb e)))
          ⟨z.1, z.2.1⟩
        have hl : (wipe σ (own.map (·.2))).length = σ8.length := by rw [← hw8, wipe_length]
        refine ⟨m', hm, i + 1, H', (I'.unpinned (pins := [])).weak hl (fun j v e => ?_), T.keep _ _ _ st7 fun b hb o e => (pin' b hb o e).1, fun b hb => ?_, w'⟩
        · rw [← hw8] at e
          exact (wipe_some e).1
        · obtain ⟨o, e, _⟩ := T.obj _ _ st7 b hb
          exact (pin' b hb o e).2
      cases b with
      | false =>
        simp only [Bool.false_eq_true, if_false] at q9 ⊢
        exact fin I9 q9
      | true =>
        simp only [if_true] at q9 ⊢
        exact thnF (pk.run _ s9 σ8 H9 _ I9 q9) fun kv s10 ⟨yk, H10, I10, r10, q10⟩ => thnF (pv.run _ s10 σ8 H10 _ I10 q10) fun vv s11 ⟨yv, H11, I11, r11, q11⟩ => by
          obtain ⟨b0, rb⟩ : ∃ u, RelV yk u := ⟨_, r10⟩
          exact thnF (pput _ _ _ _ _ _ _ _ _ _ I11 r10 r11 q11) fun _ s12 ⟨H12, I12, nx12⟩ => fin I12 nx12
  exact codeAny_compStart_dict loop (T.self X.A 0 _ _ _ st4 loop)
theorem pe_dcN {kx vx tg iter : Expr} {ifs : List Expr} {scope : Scope} {own : List (Str × Nat)} {pos : Pos} {wi : TI} {g : TG} {tt : TT} {tk tv : TE} {Nw : Addr → HO} {Pt : Puts} (hc : X.calm = true) (hN : X.N.Nodup) (hi : PI X tg iter wi) (ok : BlkOk X.N X.env.scope scope own) (hnw : NewD X Nw)
    (hpt : ∀ (s : Shared) (H : Hp) (C : Addr) (cl : List (Str × Addr)) (fp : List Addr), PutOk (X.blk s H scope (compEnvC scope cl C X.env) fp) Pt)
    (hg : ∀ (s : Shared) (H : Hp) (C : Addr) (cl : List (Str × Addr)) (fp : List Addr), PG (X.blk s H scope (compEnvC scope cl C X.env) fp) tg g) (ht : ∀ (s : Shared) (H : Hp) (C : Addr) (cl : List (Str × Addr)) (fp : List Addr), PTs (X.blk s H scope (compEnvC scope cl C X.env) fp) ifs tt)
    (hk : ∀ (s : Shared) (H : Hp) (C : Addr) (cl : List (Str × Addr)) (fp : List Addr), PE (X.blk s H scope (compEnvC scope cl C X.env) fp) kx tk) (hv : ∀ (s : Shared) (H : Hp) (C : Addr) (cl : List (Str × Addr)) (fp : List Addr), PE (X.blk s H scope (compEnvC scope cl C X.env) fp) vx tv)
    (hs : ∀ x, foldedSetIterable iter X.env x = pure x := by intro _; rfl) :
    PE X (.DictComp kx vx [⟨tg, iter, ifs, 0⟩] scope pos) (tDcN Nw Pt wi g tt tk tv (own.map (·.2))) := by
  refine ⟨fun pins s σ H Q I h => ?_⟩
  rw [arm_eval_DictComp]
  refine dcN_core hc hN I hi ok hnw hpt hg ht hk hv hs h fun D C s' m H' I' q hn f => ⟨m, hn, fun h'' sb => ?_⟩
  obtain ⟨f0, f1, f2, f3, f4, f5⟩ := f
  exact ⟨.ref D, H', I'.turned (t' := s'.toks) (fun b o hb e => (sb.2 b hb).trans e) f0 f1 f3 f4 f5, rfl, q⟩
/-! keys: nested tuples; whatever values -/
def NwDN (P : Program) (w : World) : Addr → HO := fun D => DicO P w D ([], { cls := .type "dict", data := .dict #[] })
def PtN (P : Program) (w : World) (K : PySem.W.Frag) : Puts := fun D y z H Nx => ∃ kvs k, DicAt P w K H D kvs ∧ KeyAt K H y k ∧ kvs.length < 100000 ∧ ∀ H', DicAt P w K H' D (putN kvs k z) → (∀ b, b ≠ D → H' b = H b) → Nx H'
theorem newDN_ok : NewD X (NwDN X.prog X.w) := fun H h D hs e => ⟨⟨hs, #[], 0, e, ⟨rfl, rfl, rfl⟩, rfl, rfl⟩, ⟨_, e⟩, fun g1 g2 ⟨z, es, ep, e1, r⟩ st => ⟨z, es, ep, st _ e1, r⟩⟩
theorem newDN_at {P : Program} {w : World} {K : PySem.W.Frag} {H : Hp} {D : Addr} : DicAt P w K (upd H D (NwDN P w D)) D [] := ⟨([], _), upd_same, .nil, fun x hx => (by cases hx), List.nodup_nil, Nat.zero_le _⟩
theorem putN_ok (hu : X.A.units + 100 < cLine) : PutOk X (PtN X.prog X.w X.K) := by
  intro pins σ H s d y z u r Nx I ry rz h
  obtain ⟨kvs, k, hd, hk, hz, q⟩ := h
  obtain ⟨a, rfl, ea, ha⟩ := key_is I hk ry
  obtain ⟨xs, ob, hm, hs, e, p, hks⟩ := hd.raw I
  have hl : xs.length = kvs.length := (Paired.length p).symm
  refine wpAny_dictSet_heap (knd := nestedKind X.prog X.w) (hsz := by rw [hl]; exact Evl.sz_of (by omega)) (nest_room hu) ha hm fun h' hm' sb => ?_
  obtain ⟨o', es, ep, h1, h2, h3, h4, h5, h6⟩ := hm'
  have ok : ObjOk X.prog X.w (upd H d (DicO X.prog X.w d (storedH xs k a r, o'))) h' d (DicO X.prog X.w d (storedH xs k a r, o')) := ⟨⟨hs, es, ep, h1, h2, h3, h4⟩, ⟨o', h1⟩, fun g1 g2 ⟨z, es, ep, e1, r⟩ st => ⟨z, es, ep, st _ e1, r⟩⟩
  have I' := I.write (e := d) (t' := s.toks + (nestedKind X.prog X.w).draws k) (by rw [e]; trivial) (.inl rfl) (fun b w hb hw => (sb.2 b hb).trans hw) ⟨o', h1⟩ ok
  have ht : ∀ b xs', SqT X.K H b xs' → SqT X.K (upd H d (DicO X.prog X.w d (storedH xs k a r, o'))) b xs' := fun b xs' hb => by
    rcases hb with (hb | ⟨oo, hb⟩) | hb
    · exact .inl (.inl (by rw [upd_ne (ne_of hb e (fun z => dicO_ne.2 _ z.symm))]; exact hb))
    · exact .inl (.inr ⟨oo, by rw [upd_ne (ne_of hb e (fun z => by unfold DicO at z; cases z))]; exact hb⟩)
    · exact .inr hb
  refine ⟨_, I', q _ ⟨(_, _), upd_same, paired_put k a rz p, fun x hx => ?_, h6, Nat.le_trans putN_len (by omega)⟩ fun b hb => upd_ne hb⟩
  unfold storedH at hx
  split at hx
  · obtain ⟨y, hy, rfl⟩ := List.mem_map.mp hx
    unfold putAt
    split <;> exact (hks y hy).up ht
  · rcases List.mem_append.mp hx with hx | hx
    · exact (hks x hx).up ht
    · rw [List.mem_singleton] at hx
      subst hx
      rw [← ea]
      exact hk.up ht
end
end Ink
namespace Ink
open PySem PySem.Spec PyProof.Rows L2 Evl
section
variable {J : It} {n : Nat} {G : Hp → Prop} {Y : Nat → Hp → V → Hp → Prop}
/-- the turns of a comprehension's clause, by what is kept -/
theorem turns_it (w : Walk J n G Y) {Body : V → Hp → (Hp → Prop) → Prop} {H0 : Hp} {Qd : Hp → Prop} (Pv : Nat → Hp → Prop) (h0 : Pv 0 H0) (hG : ∀ i H, i ≤ n → Pv i H → G H)
    (hs : ∀ i x Ha Hb, i < n → Pv i Ha → Y i Ha x Hb → Body x Hb (Pv (i + 1))) (hd : ∀ H, Pv n H → Qd H) :
    ∃ W : Nat → Nat → Hp → Prop, (∃ m, W 0 m H0) ∧ ∀ i m H, W i m H → (J.stop i H ∧ Qd H) ∨ (J.go i H ∧ ∃ Nx : Hp → Prop, (∀ H', Nx H' → ∃ m', m' < m ∧ W (i + 1) m' H') ∧ ∀ x H', J.yld i H x H' → Body x H' Nx) := by
  refine ⟨fun i m H => m = n - i ∧ i ≤ n ∧ Pv i H, ⟨n, by simp, Nat.zero_le _, h0⟩, ?_⟩
  rintro i m H ⟨rfl, hi, p⟩
  have q := hG i H hi p
  by_cases hlt : i < n
  · exact .inr ⟨w.goes i H hlt q, Pv (i + 1), fun H' p' => ⟨n - (i + 1), by omega, rfl, hlt, p'⟩, fun x H' y => hs i x H H' hlt p (w.yields i H x H' hlt q y)⟩
  · have e : i = n := by omega
    subst e
    exact .inl ⟨w.stops H q, hd H p⟩
end
end Ink
namespace Ink
open PySem PySem.Spec PyProof.Rows L2 Evl
/-! ### a list comprehension of two clauses, the second one over a list that stood before -/
theorem flat_snoc {α β : Type} {xs : List α} {i : Nat} {a : α} (F : α → List β) (h : xs[i]? = some a) : (xs.take (i + 1)).flatMap F = (xs.take i).flatMap F ++ F a := by
  rw [take_snoc h, List.flatMap_append]
  simp
section
variable {K : PySem.W.Frag} {σ : L2.St} {H : Hp} {t1 : TT} {te : TE}
theorem en_lc2 {α β : Type} {ti : TI} {tx : TE} {g g1 : TG} {vs vs1 : List Nat} (xs : List α) (enc : α → PyData) (ys : α → List β) (enc1 : β → PyData) (b : α → β → Bool) (f : α → β → PyData) (hi : EvI K ti σ H (xs.map enc))
    (hz : (xs.flatMap ys).length ≤ 40000) (hf : ∀ a ∈ xs, ∀ y ∈ ys a, fz (f a y) = true)
    (ht : ∀ (Hb : Hp), Ex H Hb → ∀ (i : Nat) (a : α) (H1 : Hp) (x : V), xs[i]? = some a → Ex Hb H1 → Dp K H1 x (enc a) → ∀ R : L2.St → Hp → Prop,
      (∀ σ2, wipe σ2 vs = wipe σ vs → (∃ p us, Ev tx σ2 Hb (.ref p) ∧ SqL K Hb p us ∧ DpAll K Hb us ((ys a).map enc1)) →
        (∀ (j : Nat) (y : β) (H2 : Hp) (x2 : V), (ys a)[j]? = some y → TupK K H1 H2 → Ex Hb H2 → Dp K H2 x2 (enc1 y) → ∀ R2 : L2.St → Hp → Prop,
          (∀ σ3, wipe σ3 vs1 = wipe σ2 vs1 → EvT t1 σ3 H2 (b a y) → (b a y = true → EvD K te σ3 H2 (f a y)) → R2 σ3 H2) → g1 x2 (wipe σ2 vs1) H2 R2) → R σ2 H1) → g x (wipe σ vs) H1 R) :
    EvN K (tLc2 ti g tYes (iList K tx) g1 t1 te vs vs1) σ H (xs.flatMap fun a => ((ys a).filter (b a)).map (f a)) := fun H0 e Q q => hi H0 e _ fun J Hb e1 W D nD => by
  have small : ∀ i, ((xs.take i).flatMap fun a => ((ys a).filter (b a)).map (f a)).length ≤ ((xs.take i).flatMap ys).length := fun i => by
    rw [List.length_flatMap, List.length_flatMap]
    generalize xs.take i = l
    induction l with
    | nil => exact Nat.le_refl _
    | cons a l ih =>
      rw [List.map_cons, List.map_cons, List.sum_cons, List.sum_cons, List.length_map]
      have := List.length_filter_le (b a) (ys a)
      omega
  have part : ∀ i, ((xs.take i).flatMap ys).length ≤ (xs.flatMap ys).length := fun i => by
    have e := congrArg (fun l => (l.flatMap ys).length) (List.take_append_drop i xs)
    simp only [List.flatMap_append, List.length_append] at e
    omega
  have hfa : ∀ i, fzAll ((xs.take i).flatMap fun a => ((ys a).filter (b a)).map (f a)) = true := fun i => fzAll_iff.mpr fun d hd => by
    obtain ⟨a, ha, hd⟩ := List.mem_flatMap.mp hd
    obtain ⟨y, hy, rfl⟩ := List.mem_map.mp hd
    exact hf a (List.mem_of_mem_take ha) y (List.mem_filter.mp hy).1
  refine turns_it W (fun i H' => Ex Hb H' ∧ ∃ acc, H' D = some (.lst acc) ∧ DpAll K H' acc ((xs.take i).flatMap fun a => ((ys a).filter (b a)).map (f a))) ⟨Ex.new nD, [], upd_same, .nil⟩ (fun _ _ _ hP => hP.1) (fun i x Ha Hc hi hP hy => ?_) (fun H' hP => ?_)
  · obtain ⟨s1, acc, eD, hacc⟩ := hP
    obtain ⟨s2, d, hd, hx⟩ := hy
    rw [List.getElem?_map, Option.map_eq_some_iff] at hd
    obtain ⟨a, ha, rfl⟩ := hd
    have am := List.mem_of_getElem? ha
    have s12 := s1.trans s2
    refine ht Hb (e.trans e1) i a Hc x ha s12 hx _ fun σ2 hw ⟨p, us, hp, hpl, hus⟩ inner => ⟨hw, yes_of (iteT ?_)⟩
    refine hp Hc s12 _ fun H3 e3 => ⟨p, rfl, ⟨us, ex_l (s12.trans e3) hpl⟩, ?_⟩
    have hul := hus.length
    rw [List.length_map] at hul
    refine turns_it (walk_list (K := K) (xs := us)) (fun j H' => Ex Hb H' ∧ TupK K Hc H' ∧ ∃ acc, H' D = some (.lst acc) ∧ DpAll K H' acc (((xs.take i).flatMap fun a => ((ys a).filter (b a)).map (f a)) ++ (((ys a).take j).filter (b a)).map (f a)))
      ⟨s12.trans e3, .of e3, acc, e3 _ _ (s2 _ _ eD), by rw [List.take_zero, List.filter_nil, List.map_nil, List.append_nil]; exact dps_same (s2.trans e3) hacc⟩ (fun j H' _ hP => ex_l hP.1 hpl) (fun j x2 Hd He hj hP hy => ?_) (fun H' hP => ?_)
    · obtain ⟨s4, tk, acc, eD, hacc⟩ := hP
      obtain ⟨rfl, hx2⟩ := hy
      obtain ⟨d2, hd2, hxd2⟩ := (dps_same s4 hus).at hx2
      rw [List.getElem?_map, Option.map_eq_some_iff] at hd2
      obtain ⟨y, hy, rfl⟩ := hd2
      refine inner j y _ x2 hy tk s4 hxd2 _ fun σ3 hw3 tt he => ⟨hw3, tt _ (Ex.refl _) _ fun H5 e5 => ?_⟩
      have hn := filter_snoc (b a) hy
      cases hb : b a y with
      | false =>
        rw [hb] at hn
        refine iteF ⟨s4.trans e5, tk.trans (.of e5), acc, e5 _ _ eD, ?_⟩
        rw [hn]
        simp only [Bool.false_eq_true, if_false, List.append_nil]
        exact dps_same e5 hacc
      | true =>
        rw [hb] at hn
        refine iteT (he hb H5 e5 _ fun v H6 e6 hv => ⟨acc, e6 _ _ (e5 _ _ eD), ?_, ?_, ?_, acc ++ [v], upd_same, ?_⟩)
        · have h1 := hacc.length
          have h2 := small i
          have h3 : ((xs.take i).flatMap ys).length + (ys a).length ≤ (xs.flatMap ys).length := by
            have := part (i + 1)
            rw [flat_snoc ys ha, List.length_append] at this
            exact this
          have h4 := List.length_filter_le (b a) ((ys a).take j)
          have h5 := List.length_take_le j (ys a)
          have hj' : j < (ys a).length := by omega
          rw [List.length_append, List.length_map] at h1
          exact sz_lt (by omega)
        · exact Ex.mut (s4.trans (e5.trans e6)) nD
        · exact (tk.trans (.of (e5.trans e6))).trans (.lst (e6 _ _ (e5 _ _ eD)))
        · rw [hn]
          simp only [if_true]
          rw [List.map_append, ← List.append_assoc]
          have eD6 := e6 _ _ (e5 _ _ eD)
          have tkD : TupK K H6 (upd H6 D (.lst (acc ++ [v]))) := .lst eD6
          refine DpAll.app (dps_tk tkD ?_ (dps_same (e5.trans e6) hacc)) (.one (dp_tk tkD (hf a am y (List.mem_of_getElem? hy)) hv))
          refine fzAll_iff.mpr fun d hd => ?_
          rcases List.mem_append.mp hd with hd | hd
          · exact fzAll_iff.mp (hfa i) d hd
          · obtain ⟨z, hz, rfl⟩ := List.mem_map.mp hd
            exact hf a am z (List.mem_of_mem_take (List.mem_filter.mp hz).1)
    · obtain ⟨s4, tk, acc, eD, hacc⟩ := hP
      refine ⟨s4, acc, eD, ?_⟩
      rw [hul, List.take_length] at hacc
      rw [flat_snoc (fun a => ((ys a).filter (b a)).map (f a)) ha]
      exact hacc
  · obtain ⟨s1, acc, eD, hacc⟩ := hP
    rw [List.length_map, List.take_length] at hacc
    exact q D acc H' (fresh_back e1 nD) (e1.trans s1) eD hacc
end
end Ink
namespace Ink
open PySem PySem.Spec PyProof.Rows L2 Evl
/-! ### nested data in their order; list(d) -/
def rLtD (K : PySem.W.Frag) : R2 := fun u v H Q => ∃ d1 d2, Dp K H u d1 ∧ Dp K H v d2 ∧ PySem.W.alike d1 d2 = true ∧ d1 ≠ .none ∧ d1.depth ≤ 64 ∧ Q (.bl (PySem.W.dataLt d1 d2)) H
theorem op_ltD {X : Cx} (hu : X.A.units + 100 < cLine) : OpR X (compareOp .Lt) (rLtD X.K) := by
  intro pins s σ H x y v u Q I rx ry h
  obtain ⟨d, e, hd, he, al, hn, dp, q⟩ := h
  obtain ⟨as, r1⟩ := Dp.reads I d x v hd rx
  obtain ⟨bs, r2⟩ := Dp.reads I e y u he ry
  exact PySem.W.lt_data r1 r2 al hn (by have := Nat.min_le_left d.depth e.depth; omega) ⟨.bl _, H, I, rfl, q⟩
theorem ev_ltD {K : PySem.W.Frag} {σ : L2.St} {H : Hp} {ta tb : TE} {d1 d2 : PyData} (ha : EvD K ta σ H d1) (hb : EvD K tb σ H d2) (al : PySem.W.alike d1 d2 = true) (hn : d1 ≠ .none) (dp : d1.depth ≤ 64) : Ev (tOp (rLtD K) ta tb) σ H (.bl (PySem.W.dataLt d1 d2)) := fun H1 e Q q =>
  ha H1 e _ fun v H2 e2 hv => hb H2 (e.trans e2) _ fun u H3 e3 hu => ⟨d1, d2, dp_same e3 hv, hu, al, hn, dp, q H3 (e2.trans e3)⟩
/-- list(d): its keys, in their order -/
def rListN (P : Program) (w : World) (K : PySem.W.Frag) : List V → Hp → VK → Prop := fun xs H Q => ∃ (d : Addr) (kvs : List (NK × V)), xs = [.ref d] ∧ DicAt P w K H d kvs ∧
  ∀ p ws, H p = none → DpAll K H ws (kvs.map fun kv => kv.1.data) → Q (.ref p) (upd H p (.lst ws))
theorem cr_listN {X : Cx} (hc : X.calm = true) : CallR X (.type "list") (rListN X.prog X.w X.K) := by
  intro pins s σ H vs us Q I r h
  obtain ⟨d, kvs, rfl, hd, q⟩ := h
  rw [Vals.ref1 r]
  have hz : kvs.length ≤ 100000 := by
    obtain ⟨_, _, _, _, _, z⟩ := hd
    exact z
  obtain ⟨xs, ob, hm, hs, e, p, hks⟩ := hd.raw I
  have hl : xs.length = kvs.length := (Paired.length p).symm
  obtain ⟨es, ep, hr, hes, hit⟩ := hm.raw
  have hn : es.size ≤ sizeLine := by
    rw [hes, hl, sizeLine_eq]
    omega
  refine PySem.W.kdl_call (A := X.A) (KdlSrc.rawDict (d := d) (es := es) (ep := ep) hs) (I.ok.hd hc) hr hn fun h' tk acc c' hkp hD hacc => ?_
  have eacc : acc.toList = xs.map fun x => Value.ref x.2.1 := by
    refine List.ext_getElem? fun i => ?_
    rw [List.getElem?_map, Array.getElem?_toList]
    by_cases hi : i < es.size
    · have h1 : acc[i]? = some (acc[i]'(by rw [hacc.1]; exact hi)) := Array.getElem?_eq_getElem _
      obtain ⟨hi2, e2⟩ := hacc.2 i _ h1
      obtain ⟨y, hy, h3, _⟩ := hit i hi2
      rw [h1, hy, e2, h3]
      rfl
    · rw [Array.getElem?_eq_none (by rw [hacc.1]; omega), List.getElem?_eq_none (by rw [← hes]; omega)]
      rfl
  have rv := refs_vals xs
  have hds := keys_dps p hks
  have hwl : (xs.map fun x => V.ref x.2.1).length ≤ sizeLine := by
    rw [List.length_map, hl, sizeLine_eq]
    omega
  exact ⟨.ref s.heap.objs.size, upd H s.heap.objs.size (.lst _), I.laid (t' := tk) hkp (Nat.le_refl _) (show ObjOk X.prog X.w _ _ _ (.lst _) from ⟨hwl, acc.toList, c', by rw [eacc]; exact rv, by rw [Array.toArray_toList]; exact hD⟩), rfl, q _ _ (I.hok.fresh (Nat.le_refl _)) hds⟩
theorem en_listN {P : Program} {w : World} {K : PySem.W.Frag} {σ : L2.St} {H : Hp} {te : TE} {d : Addr} {kvs : List (NK × V)} (h : Ev te σ H (.ref d)) (hd : DicAt P w K H d kvs) : EvN K (tCB (rListN P w K) (tCons te tNil)) σ H (kvs.map fun kv => kv.1.data) := fun H1 e Q q =>
  h H1 e _ fun H2 e2 => ⟨d, kvs, rfl, hd.same (e.trans e2), fun p ws np hw => q p ws _ (fresh_back e2 np) (e2.trans (Ex.new np)) upd_same (dps_same (Ex.new np) hw)⟩
end Ink
namespace Ink
open PySem PySem.Spec PyProof.Rows L2 Evl
/-! ### dicts whose keys are things of one sort -/
section
variable {κ : Type} [DecidableEq κ]
def addG (l : List κ) (t : κ) : List κ := if t ∈ l then l else l ++ [t]
theorem addG_mem {l : List κ} {t u : κ} : u ∈ addG l t ↔ u ∈ l ∨ u = t := by
  unfold addG
  by_cases h : t ∈ l
  · rw [if_pos h]
    exact ⟨.inl, fun z => z.elim id fun e => e ▸ h⟩
  · rw [if_neg h, List.mem_append, List.mem_singleton]
theorem addG_nd {l : List κ} {t : κ} (h : l.Nodup) : (addG l t).Nodup := by
  unfold addG
  by_cases ht : t ∈ l
  · rw [if_pos ht]
    exact h
  · rw [if_neg ht, List.nodup_append]
    exact ⟨h, List.nodup_cons.mpr ⟨by simp, List.nodup_nil⟩, fun a ha b hb e => ht (by rw [← List.mem_singleton.mp hb, ← e]; exact ha)⟩
theorem look_g {kf : κ → NK} (inj : ∀ a b, kf a = kf b → a = b) : ∀ {kvs : List (NK × V)} {l : List κ} (t : κ), kvs.map (·.1) = l.map kf → (lookN kvs (kf t)).isSome = decide (t ∈ l)
  | [], [], t, _ => by unfold lookN; simp
  | [], _ :: _, _, h => by simp at h
  | _ :: _, [], _, h => by simp at h
  | kv :: kvs, s :: l, t, h => by
    rw [List.map_cons, List.map_cons] at h
    injection h with h1 h2
    have ih := look_g inj t h2
    unfold lookN at ih ⊢
    rw [List.find?_cons]
    by_cases e : t = s
    · subst e
      rw [decide_eq_true h1]
      simp
    · have ne : ¬ kv.1 = kf t := fun z => e (inj _ _ (z.symm.trans h1))
      rw [decide_eq_false ne]
      rw [ih]
      simp [e]
theorem put_g {kf : κ → NK} (inj : ∀ a b, kf a = kf b → a = b) {kvs : List (NK × V)} {l : List κ} {t : κ} {v : V} (h : kvs.map (·.1) = l.map kf) : (putN kvs (kf t) v).map (·.1) = (addG l t).map kf := by
  have lk := look_g inj t h
  unfold putN addG
  by_cases ht : t ∈ l
  · rw [lk, decide_eq_true ht, if_pos ht]
    show (kvs.map fun kv => if kv.1 = kf t then (kv.1, v) else kv).map (·.1) = _
    rw [← h, List.map_map]
    refine List.map_congr_left fun kv _ => ?_
    show (if kv.1 = kf t then (kv.1, v) else kv).1 = kv.1
    split <;> rfl
  · rw [lk, decide_eq_false ht, if_neg ht]
    show (kvs ++ [(kf t, v)]).map (·.1) = _
    rw [List.map_append, List.map_append, h]
    rfl
theorem data_g {kf : κ → NK} {df : κ → PyData} (hd : ∀ x, (kf x).data = df x) {kvs : List (NK × V)} {l : List κ} (h : kvs.map (·.1) = l.map kf) : (kvs.map fun kv => kv.1.data) = l.map df := by
  have e : (kvs.map fun kv => kv.1.data) = (kvs.map (·.1)).map fun k => k.data := by
    rw [List.map_map]
    rfl
  rw [e, h, List.map_map]
  exact List.map_congr_left fun s _ => hd s
end
/-! pairs of stands -/
def dPr (p : Std × Std) : PyData := .tuple [dS p.1, dS p.2]
def kP (p : Std × Std) : NK := .tup [kS p.1, kS p.2]
theorem fz_dPr (p : Std × Std) : fz (dPr p) = true := by
  have h1 := fz_dS p.1
  have h2 := fz_dS p.2
  unfold dPr
  simp only [fz, fzAll, h1, h2, Bool.and_self]
theorem kP_data (p : Std × Std) : (kP p).data = dPr p := by
  unfold kP dPr
  simp only [NestedKey.data, NestedKey.datas, kS_data]
theorem kP_depth (p : Std × Std) : (kP p).depth ≤ 8 := by
  have h1 := depth_num p.1.1
  have h2 := depth_num p.1.2.1
  have h3 := depth_num p.2.1
  have h4 := depth_num p.2.2.1
  unfold kP kS
  simp only [NestedKey.depth, NestedKey.depthAll]
  omega
theorem kP_inj (p q : Std × Std) (h : kP p = kP q) : p = q := by
  obtain ⟨a, b⟩ := p
  obtain ⟨c, d⟩ := q
  unfold kP at h
  injection h with h
  injection h with h1 h
  injection h with h2 _
  exact Prod.ext (kS_inj h1) (kS_inj h2)
theorem key_atP {K : PySem.W.Frag} {H : Hp} {v : V} {p : Std × Std} (h : Dp K H v (dPr p)) : KeyAt K H v (kP p) := ⟨by rw [kP_data]; exact h, kP_depth p, _, rfl⟩
end Ink
namespace L2N
open PySem PySem.Spec PyProof.Rows L2
/-! ### x(a, b, lambda p: body): a lambda that has parameters; the def that is handed it asks it with things -/
structure LamP (sc scope : Scope) (N ps : List Str) : Prop where
  kind : scope.kind = .function
  co : scope.isCoroutine = false
  gen : scope.isGenerator = false
  nocell : ∀ y ∈ scope.names, y.2 ≠ .cell
  own : ∀ y ∈ scope.names, y.2 = .local → y.1 ∈ ps
  par : ∀ p ∈ ps, scope.names.lookup p = some .local
  off : ∀ p ∈ ps, p ∉ N
  nd : ps.Nodup
  free : ∀ y ∈ scope.names, y.2 = .free → sc.names.lookup y.1 = some .cell ∨ sc.names.lookup y.1 = some .free
def lamPB (sc scope : Scope) (N ps : List Str) : Bool :=
  decide (scope.kind = .function) && !scope.isCoroutine && !scope.isGenerator && (scope.names.all fun y => !decide (y.2 = .cell)) && (scope.names.all fun y => !decide (y.2 = .local) || decide (y.1 ∈ ps)) && (ps.all fun p => decide (scope.names.lookup p = some .local)) && (ps.all fun p => decide (p ∉ N)) && decide ps.Nodup &&
    scope.names.all fun y => !decide (y.2 = .free) || decide (sc.names.lookup y.1 = some .cell) || decide (sc.names.lookup y.1 = some .free)
theorem lamP_by {sc scope : Scope} {N ps : List Str} (h : lamPB sc scope N ps = true) : LamP sc scope N ps := by
  unfold lamPB at h
  simp only [Bool.and_eq_true, Bool.or_eq_true, Bool.not_eq_true', decide_eq_true_eq, decide_eq_false_iff_not, List.all_eq_true] at h
  obtain ⟨⟨⟨⟨⟨⟨⟨⟨h1, h2⟩, h3⟩, h4⟩, h5⟩, h6⟩, h7⟩, h8⟩, h9⟩ := h
  refine ⟨h1, h2, h3, h4, fun y hy e => (h5 y hy).elim (fun z => absurd e z) id, h6, h7, h8, fun y hy e => ?_⟩
  rcases h9 y hy with (z | z) | z
  · exact absurd e z
  · exact .inl z
  · exact .inr z
theorem zipLook : ∀ {ps : List Str} {us : List Value} {i : Nat} {x : Str} {u : Value}, ps.Nodup → ps[i]? = some x → us[i]? = some u → (ps.zip us).reverse.lookup x = some u
  | [], _, _, _, _, _, h, _ => by simp at h
  | _ :: _, [], _, _, _, _, _, h => by simp at h
  | p :: ps, v :: us, i, x, u, nd, h1, h2 => by
    rw [List.zip_cons_cons, List.reverse_cons, List.lookup_append]
    cases i with
    | zero =>
      obtain rfl : p = x := Option.some.inj h1
      obtain rfl : v = u := Option.some.inj h2
      have hn : (ps.zip us).reverse.lookup p = none := by
        cases e : (ps.zip us).reverse.lookup p with
        | none => rfl
        | some w => exact absurd (List.of_mem_zip (List.mem_reverse.mp (PySem.mem_of_lookup e))).1 (List.nodup_cons.mp nd).1
      rw [hn]
      show List.lookup p [(p, v)] = some v
      simp [List.lookup]
    | succ i =>
      rw [zipLook (i := i) (List.nodup_cons.mp nd).2 h1 h2]
      rfl
/-- the lambda's own context: the maker's names, its parameters behind them -/
def lamCxP (X : Cx) (A : Around) (outer : List Env) (s : Shared) (H : Hp) (E : XK) (scope : Scope) (f c' : Addr) (ps : List Str) : Cx := { LamX.lamCx X A outer s H E scope f c' with N := X.N ++ ps }
abbrev askCP (X : Cx) (A : Around) (outer : List Env) (s : Shared) (H : Hp) (E : XK) (sc : Scope) (f cd : Addr) (ps : List Str) : Cx :=
  (lamCxP X A outer s H E sc f cd ps).wish fun e t => wpAny (model X.prog X.w) (A.deeper (LamX.lamEnv X sc s.heap.objs.size f cd)) (leaving (LamX.lamEnv X sc s.heap.objs.size f cd) e) (fun _ u => CX X.prog X.w outer H s E e u) (fun e' u => CX X.prog X.w outer H s E e' u) t
section
variable {X : Cx} {pins : List (Addr × Obj)} {σ : L2.St} {H HZ : Hp} {s s1 : Shared} {sc : Scope} {f cd : Addr} {pm ct : Value} {pr : Arguments} {body : Expr} {tb : TE} {E : XK} {ps : List Str} {vs : List V} {us : List Value}
theorem LamP.has (L : LamP X.env.scope sc X.N ps) (ok : X.Ok) : ∀ y ∈ sc.names, y.2 = .free → ∃ c, X.env.cells.lookup y.1 = some c := fun y hy e => by
  rcases L.free y hy e with k | k
  · exact ok.has _ (.inl k)
  · exact ok.has _ (.inr k)
theorem startP {A : Around} {outer : List Env} {h1 : Heap} {tk : Nat} (I : Inv X pins σ H s) (L : LamP X.env.scope sc X.N ps) (e0 : Env0 X.prog X.w X.K X.mg X.base A outer s1 HZ) (hh : A.handled = none) (un : Un (frs X.stack) [] H HZ s.heap s1.heap) (r : Vals vs us) (hl : vs.length = ps.length)
    (ns : h1.Ns s1.heap.objs.size fun y => (ps.zip us).reverse.lookup y) (kp : ∀ b o, s1.heap.get? b = some o → h1.get? b = some o) : Inv (lamCxP X A outer s1 HZ E sc f cd ps) [] (σ ++ vs.map some) HZ { s1 with heap := h1, toks := tk } := by
  have free := L.has I.ok
  have capt : ∀ {y c}, (cloFrom X.env.cells sc.names []).lookup y = some c → X.env.cells.lookup y = some c := fun {y c} e => by
    rcases cloFrom_mem (PySem.mem_of_lookup e) with hm | ⟨a, b⟩
    · exact absurd hm List.not_mem_nil
    · obtain ⟨c1, hc⟩ := free _ a rfl
      have hc : X.env.cells.lookup y = some c1 := hc
      rw [b, hc]
      rfl
  have look : ∀ {y}, sc.names.lookup y = some .free → ∃ c, (cloFrom X.env.cells sc.names []).lookup y = some c := fun {y} hl =>
    mem_lookup (cloFrom_has (cells := X.env.cells) (acc := []) (show (y, NameKind.free) ∈ sc.names from PySem.mem_of_lookup hl))
  have cellK : ∀ {c : Addr} {v : Option Value}, H c = none → s.heap.IsCell c v → h1.IsCell c v := fun {c v} n ⟨o, ho, hd⟩ => by
    obtain ⟨sl, q⟩ := un.any ho n List.not_mem_nil
    exact ⟨_, kp _ _ q, hd⟩
  have nil : ∀ b : Addr, b ∉ (lamCxP X A outer s1 HZ E sc f cd ps).ex := fun b z => absurd (show b ∈ ([] : List Addr) from z) List.not_mem_nil
  refine { ok := ?_, os := rfl, bare := e0.bare, base := Un.kept kp, loc := ⟨_, ns, fun i y v e1 e2 e3 => ?_⟩, cell := fun y c e => ?_, free := e0.hok.fresh (Nat.le_refl _), freeC := fun y c e => ?_, pin := fun q hq => absurd (show q ∈ ([] : List (Addr × Obj)) ++ [] from hq) List.not_mem_nil, hok := e0.hok.kept kp, len := ?_ }
  · exact { mod := e0.mod, kind := L.kind, glob := rfl, blt := rfl, above := Nat.le_refl _, inj := fun y z c e1 e2 => I.ok.inj y z c (capt e1) (capt e2), has := fun y hy => by
              have hy : sc.names.lookup y = some .cell ∨ sc.names.lookup y = some .free := hy
              rcases hy with hy | hy
              · exact absurd rfl (L.nocell _ (PySem.mem_of_lookup hy))
              · exact look hy,
            cab := fun y c z _ => absurd (show false = true from z) Bool.false_ne_true, hd := fun _ => hh, frames := Around.frames_deeper e0.frames, stk := .inr ⟨rfl, rfl⟩, exf := fun b z => absurd z (nil b), bs := e0.bs, bsz := e0.bsz, noex := fun b _ _ => nil b, exfs := fun b z => absurd z (nil b), funs := e0.funs, frf := e0.frf }
  · have e1 : (X.N ++ ps)[i]? = some y := e1
    have e3 : Vis sc y := e3
    have hlen := I.len
    rcases Nat.lt_or_ge i X.N.length with hi | hi
    · rw [List.getElem?_append_left hi] at e1
      rw [List.getElem?_append_left (by omega)] at e2
      have ym := List.mem_of_getElem? e1
      rcases e3 with k | k | k
      · exact absurd ym (L.off y (L.own _ (PySem.mem_of_lookup k) rfl))
      · exact absurd rfl (L.nocell _ (PySem.mem_of_lookup k))
      · obtain ⟨m, hn, hlk⟩ := I.loc
        have vis : Vis X.env.scope y := (L.free _ (PySem.mem_of_lookup k) rfl).elim (fun k => .inr (.inl k)) fun k => .inr (.inr k)
        obtain ⟨w', rv, q⟩ := hlk i y v e1 e2 vis
        obtain ⟨c2, h2⟩ := look k
        refine ⟨w', rv, .inr ⟨.inr k, c2, h2, ?_⟩⟩
        have c1 := capt h2
        rcases q with ⟨k', _⟩ | ⟨_, c3, e', z⟩
        · have k' : X.env.scope.names.lookup y = some .local := k'
          rcases L.free _ (PySem.mem_of_lookup k) rfl with k2 | k2 <;> rw [show X.env.scope.names.lookup y = _ from k2] at k' <;> cases k'
        · rw [c1] at e'
          cases e'
          exact cellK (I.freeC y _ c1) z
    · rw [List.getElem?_append_right hi] at e1
      rw [List.getElem?_append_right (by omega), hlen, List.getElem?_map, Option.map_eq_some_iff] at e2
      obtain ⟨v', hv, ev⟩ := e2
      obtain rfl := Option.some.inj ev
      obtain ⟨u, hu, rv⟩ := r.get hv
      exact ⟨u, rv, .inl ⟨L.par y (List.mem_of_getElem? e1), zipLook L.nd e1 hu⟩⟩
  · obtain ⟨w', z⟩ := I.cell y c (capt e)
    exact ⟨w', cellK (I.freeC y c (capt e)) z⟩
  · obtain ⟨v, o, ho, hd⟩ := I.cell y c (capt e)
    exact un.free c o ho (I.freeC y c (capt e)) List.not_mem_nil
  · show (σ ++ vs.map some).length = (X.N ++ ps).length
    rw [List.length_append, List.length_append, List.length_map, hl, I.len]
/-- the lambda at f is called with these things, in a state that grew out of the one in which it was made -/
theorem askP_run {A : Around} {outer : List Env} {Q : VK} (I : Inv X pins σ H s) (L : LamP X.env.scope sc X.N ps) (ob : s1.heap.get? f = some (lamObj X pr body sc pm cd ct))
    (no : bindArgs (PySem.W.kla_fn "<lambda>" (lamQ X) pr body sc (cloFrom X.env.cells sc.names []) pm (.ref cd) ct) ⟨us, []⟩ = pure (ps.zip us)) (r : Vals vs us) (hl : vs.length = ps.length) (e0 : Env0 X.prog X.w X.K X.mg X.base A outer s1 HZ) (hh : A.handled = none) (hdp : A.depth < recursionLimit) (lim : s1.heap.NoLimit)
    (un : Un (frs X.stack) [] H HZ s.heap s1.heap) (hcd : ∃ (oc : Obj) (vs : Array Value) (t : Tok), s1.heap.get? cd = some oc ∧ oc.data = .fields vs ∧ vs[1]? = some (.str (lamQ X) t))
    (hb : PE (askCP X A outer s1 HZ E sc f cd ps) body tb) (ht : tb (σ ++ vs.map some) HZ Q) : codeAny (model X.prog X.w) A (.call (.ref f) ⟨us, []⟩) (CR (CX X.prog X.w) outer X.prog X.w HZ s1 Q E) s1 := by
  obtain ⟨oc, ws, t, h1, h2, h3⟩ := hcd
  refine PySem.W.kla_callFunE hdp ob rfl L.co L.gen rfl ⟨cd, oc, ws, t, rfl, h1, h2, h3⟩ ?_
  rw [no]
  refine wpAny_pure (wpAny_newFunctionEnv L.nocell (fun y hy => ?_) (fun h' ns sb => ⟨lim.fresh _ sb, ?_⟩) L.kind)
  · obtain ⟨y1, y2⟩ := y
    exact L.par y1 (List.of_mem_zip hy).1
  have kp : ∀ b o, s1.heap.get? b = some o → h'.get? b = some o := fun b o e => sb.extBut b o (Nat.ne_of_lt (Heap.lt_size e)) (Heap.get?_push_of_some _ e)
  have J := (startP (E := E) (f := f) (cd := cd) (tk := s1.toks + (ps.zip us).length) I L e0 hh un r hl ns kp).wish fun e t => wpAny (model X.prog X.w) (A.deeper (LamX.lamEnv X sc s1.heap.objs.size f cd)) (leaving (LamX.lamEnv X sc s1.heap.objs.size f cd) e) (fun _ u => CX X.prog X.w outer HZ s1 E e u) (fun e' u => CX X.prog X.w outer HZ s1 E e' u) t
  exact PySem.W.kla_codeExpr (wpAny_mono (hb.run [] _ _ HZ Q J ht) (fun v s' ⟨w', H', J', rv, q⟩ => ⟨w', H', J'.os, J'.bare, J'.base, J'.hok, rv, q⟩) fun e s' hq => hq)
end
/-- what stands at f can be called with n things in each state that grows out of (s, H) under the frames outer; tl is its reading -/
structure AskP (P : Program) (w : World) (K : PySem.W.Frag) (mg : Str → Option Value) (base : Heap) (j n : Nat) (outer : List Env) (s : Shared) (H : Hp) (f cd : Addr) (q : Str) (tl : List V → XK → Hp → VK → Prop) : Prop where
  ob : ∃ o, s.heap.get? f = some o ∧ ∀ h : Heap, h.get? f = some o → PySem.W.FnAt f h
  free : H f = none
  nofr : f ∉ frs outer
  run : ∀ (A' : Around) (outer' : List Env) (s' : Shared) (H' : Hp) (Q : VK) (E : XK) (vs : List V) (us : List Value), Room j A' → Env0 P w K mg base A' outer' s' H' → Un (frs outer) [] H H' s.heap s'.heap → H' cd = some (LamX.CodeO cd q) → Vals vs us → vs.length = n → tl vs E H' Q →
    codeAny (model P w) A' (.call (.ref f) ⟨us, []⟩) (CR (CX P w) outer' P w H' s' Q E) s'
/-- the def x that is handed things us and, last, a lambda of n parameters: tt is its reading -/
def AskedByP (P : Program) (w : World) (K : PySem.W.Frag) (mg : Str → Option Value) (base : Heap) (j n k : Nat) (N : List Str) (x : Str) (sc : Scope) (bd : List Stmt) (q : Str) (tt : Addr → List V → (List V → XK → Hp → VK → Prop) → Hp → VK → Prop) : Prop :=
  ∀ (A : Around) (outer : List Env) (g : Addr) (cdv : Value) (f cd : Addr) (s : Shared) (H : Hp) (Q : VK) (tl : List V → XK → Hp → VK → Prop) (ws : List V), Room k (A.deeper (envOfC x sc s.heap.objs.size g cdv)) → H cd = some (LamX.CodeO cd q) → AskP P w K mg base j n outer s H f cd q tl → tt cd ws tl H Q →
    ∃ t, PSs (cxOf CX0 P w K mg base N x sc g cdv A outer s H E0).nox bd t ∧ t { nx := fun _ H' => Q .non H', rt := Q } (L2.start N (ws ++ [.ref f])) H
section
variable {P : Program} {w : World} {K : PySem.W.Frag} {mg : Str → Option Value} {base : Heap} {j n k i : Nat} {N : List Str} {x a q : Str} {sc : Scope} {g : Addr} {cdv : Value} {A : Around} {outer : List Env} {f cd : Addr} {s : Shared} {H : Hp} {tl : List V → XK → Hp → VK → Prop} {p1 p2 : Pos} {e : Expr} {es : List Expr} {ta : TA}
/-- a(e, ..), a the parameter that holds the lambda; it raises nothing -/
theorem pe_askP (M : AskP P w K mg base j n outer s H f cd q tl) (hr : Room j (A.deeper (envOfC x sc s.heap.objs.size g cdv))) (hN : N[i]? = some a) (va : Vis sc a) (ha : PA (cxOf CX0 P w K mg base N x sc g cdv A outer s H E0).nox (e :: es) ta) (hd2 : (a == ("__debug__" : Str)) = false := by decide) (hd3 : (a == ("__classdict__" : Str)) = false := by decide)
    (he : starEach (e :: es) (cxOf CX0 P w K mg base N x sc g cdv A outer s H E0).nox.env = (false, eval e (cxOf CX0 P w K mg base N x sc g cdv A outer s H E0).nox.env) :: starEach es (cxOf CX0 P w K mg base N x sc g cdv A outer s H E0).nox.env := by rfl) (hpl : (backTo p2 (starEach es (cxOf CX0 P w K mg base N x sc g cdv A outer s H E0).nox.env)).any (·.1) = false := by rfl) :
    PE (cxOf CX0 P w K mg base N x sc g cdv A outer s H E0).nox (.Call (.Name a p1) (e :: es) [] p2) fun σ' H' Q' => σ'[i]? = some (some (.ref f)) ∧ ta σ' H' fun vs H2 => vs.length = n ∧ H2 cd = some (LamX.CodeO cd q) ∧ tl vs E0 H2 Q' := ⟨fun pz sz σz Hz Qz Iz hz => by
  obtain ⟨hs, ht⟩ := hz
  refine wpAny_Call_Name_kw (thn ((pe_var (pos := p1) (i := i) hN va hd2 hd3).run pz sz σz Hz (fun v H2 => v = .ref f ∧ H2 = Hz) Iz ⟨.ref f, hs, rfl, rfl⟩) fun u s2 ⟨v, H2, I2, r2, ev, eH⟩ => ?_)
  subst ev
  rw [eH] at I2
  obtain rfl : u = Value.ref f := r2
  obtain ⟨o, ho, hfn⟩ := M.ob
  have un2 : Un (frs outer) [] H Hz s.heap s2.heap := I2.base
  refine PySem.W.callWith_F (first := []) (hfn _ (un2.keep f o ho M.free M.nofr List.not_mem_nil)) (thn (ha.run p2 pz s2 σz Hz _ I2 ht) fun us s3 ⟨vs, H3, I3, r3, hl, hc, hq⟩ => ?_) he hpl
  have un3 : Un (frs outer) [] H H3 s.heap s3.heap := I3.base
  refine ⟨hfn _ (un3.keep f o ho M.free M.nofr List.not_mem_nil), ?_⟩
  have e3 : Env0 P w K mg base (A.deeper (envOfC x sc s.heap.objs.size g cdv)) (envOfC x sc s.heap.objs.size g cdv :: outer) s3 H3 := I3.env0
  show wpAny _ _ (call (.ref f) us) _ _ _
  refine wpAny_call (codeAny_mono (M.run (A.deeper (envOfC x sc s.heap.objs.size g cdv)) (envOfC x sc s.heap.objs.size g cdv :: outer) s3 H3 Qz E0 vs us hr e3 un3 hc r3 hl hq) fun r s4 hq => ?_)
  cases r with
  | error e =>
    obtain ⟨a, B, H', cls, d, _, _, _, _, _, _, _, hE⟩ := (show CX P w (envOfC x sc s.heap.objs.size g cdv :: outer) H3 s3 E0 e s4 from hq)
    exact False.elim hE
  | ok fl =>
    cases fl with
    | ret u => exact I3.after hq
    | next => exact False.elim hq
    | brk => exact False.elim hq
    | cont => exact False.elim hq⟩
end
/-- the making of a lambda, then what is done with it -/
def tLamP (T : List (Addr × Str)) (tt : Addr → List V → (List V → XK → Hp → VK → Prop) → Hp → VK → Prop) (t : XK → TE) (ws : List V) : TE := fun σ H Q => LamX.Tabs T H ∧ ∀ H1 cd, LamX.ExtN H H1 → LamX.Tabs T H1 → tt cd ws (fun vs E H' Q' => t E (σ ++ vs.map some) H' Q') H1 Q
section
variable {X : Cx} {T : List (Addr × Str)} {tt : Addr → List V → (List V → XK → Hp → VK → Prop) → Hp → VK → Prop} {t : XK → TE} {x : Str} {g c P : Addr} {k j n : Nat} {st : Stmt} {fd : FuncData} {N pg ps : List Str} {pr : Arguments} {body e1 e2 : Expr} {t1 t2 : TE} {sc : Scope} {p pl pos : Pos}
theorem ask_made {pins : List (Addr × Obj)} {σ : L2.St} {H1 : Hp} {s1 : Shared} {f cd : Addr} {pm ct : Value} (I1 : Inv X pins σ H1 s1) (L : LamP X.env.scope sc X.N ps) (ob : s1.heap.get? f = some (lamObj X pr body sc pm cd ct)) (fn : H1 f = none) (fr : f ∉ frs X.stack)
    (no : ∀ (q : Str) (cl : List (Str × Addr)) (pm cv ct : Value) (us : List Value), us.length = ps.length → bindArgs (PySem.W.kla_fn "<lambda>" q pr body sc cl pm cv ct) ⟨us, []⟩ = pure (ps.zip us))
    (hb : ∀ (A : Around) (outer : List Env) (s : Shared) (H : Hp) (E : XK) (f cd : Addr), Room j (A.deeper (LamX.lamEnv X sc s.heap.objs.size f cd)) → PE (askCP X A outer s H E sc f cd ps) body (t E)) :
    AskP X.prog X.w X.K X.mg X.base (j + 1) ps.length X.stack s1 H1 f cd (lamQ X) (fun vs E H' Q' => t E (σ ++ vs.map some) H' Q') := ⟨⟨_, ob, fun h e => ⟨_, _, _, _, e⟩⟩, fn, fr, fun A' outer' s' H' Q' E' vs us hr' e0 un hc r hl hz => by
  have lim : s'.heap.NoLimit := e0.mod.nolimit.keeps fun b o e => (e0.bs b o e).1
  exact askP_run (X := X) (E := E') (Q := Q') (cd := cd) I1 L (un.keep f _ ob fn fr List.not_mem_nil) (no _ _ _ _ _ _ (by rw [← r.length]; exact hl)) r hl e0 hr'.hd hr'.depth lim un (e0.hok cd _ hc).1 (hb _ _ s' H' E' f cd (hr'.deeper _)) hz⟩
/-- x(e1, e2, lambda ..: body) -/
theorem pe_asksP2 (F : Fun X.K x x st g fd) (S : FnScope N pg (defScope st)) (hpg : pg.length = 3) (hg : Gl X x) (mx : X.mg x = some (.ref g)) (kp : PySem.W.keepIn X.K (.ref g) = true) (bd : Binds X.K fd pg [])
    (hG : AskedByP X.prog X.w X.K X.mg X.base (j + 1) ps.length k N x (defScope st) (defBody st) (lamQ X) tt) (TB : LamX.TabB X.base X.mg c P) (hcode : X.env.code = .ref c) (hmT : (P, lamQ X) ∈ T) (hu : ∀ p ∈ T, p.1 = P → p.2 = lamQ X) (hr : Room (k + 1) X.A) (L : LamP X.env.scope sc X.N ps) (hdf : defaultsOf pr X.env = ([], []))
    (no : ∀ (q : Str) (cl : List (Str × Addr)) (pm cv ct : Value) (us : List Value), us.length = ps.length → bindArgs (PySem.W.kla_fn "<lambda>" q pr body sc cl pm cv ct) ⟨us, []⟩ = pure (ps.zip us))
    (hb : ∀ (A : Around) (outer : List Env) (s : Shared) (H : Hp) (E : XK) (f cd : Addr), Room j (A.deeper (LamX.lamEnv X sc s.heap.objs.size f cd)) → PE (askCP X A outer s H E sc f cd ps) body (t E))
    (h1 : PE X e1 t1) (h2 : PE X e2 t2) (hd1 : (x == ("__debug__" : Str)) = false := by decide)
    (he1 : starEach [e1, e2, .Lambda pr body sc pl] X.env = (false, eval e1 X.env) :: starEach [e2, .Lambda pr body sc pl] X.env := by rfl) (he2 : starEach [e2, .Lambda pr body sc pl] X.env = [(false, eval e2 X.env), (false, eval (.Lambda pr body sc pl) X.env)] := by rfl) :
    PE X (.Call (.Name x p) [e1, e2, .Lambda pr body sc pl] [] pos) (fun σ H Q => t1 σ H fun v1 H1 => t2 σ H1 fun v2 H2 => tLamP T tt t [v1, v2] σ H2 Q) := by
  obtain ⟨oc, od, kV, doc, pm, an, cdv, ct, osl, rfl, lk, hcd⟩ := F.ex
  refine ⟨fun pins s σ H Q I hw => ?_⟩
  refine wpAny_Call_Name_kw (ld_glob I hg mx ?_ hd1)
  refine PySem.W.callWith_K (h₀ := X.base) I.ok.mod.kin kp ?_ he1 (by rw [he2]; rfl)
  rw [he1, he2]
  show wpAny _ _ (spliced ((false, eval e1 X.env) :: (false, eval e2 X.env) :: (false, eval (.Lambda pr body sc pl) X.env) :: backTo pos [])) _ _ s
  refine Calls.spliced_cons (thn (h1.run pins s σ H _ I hw) fun u1 s1 ⟨v1, H1, I1, r1, q1⟩ => ?_)
  refine Calls.spliced_cons (thn (h2.run pins s1 σ H1 _ I1 q1) fun u2 s2 ⟨v2, H2, I2, r2, hT, q2⟩ => ?_)
  refine Calls.spliced_cons (LamX.lam_make2 I2 TB hcode hmT hu hT hdf (L.has I2.ok) fun f cd pm2 ct2 H3 s3 I3 en T3 ob fn fr hco => ?_)
  refine Calls.spliced_nil ⟨I3.kIn, ?_⟩
  have M := ask_made I3 L ob fn fr no hb
  refine wpAny_call (codeAny_mono (LamX.run_ofS (CX := CX0) (E := E0) (Q := Q) (N := N) (ps := pg) (us := [u1, u2, .ref f]) (vs := [v1, v2, .ref f]) lk hcd S hr I3.env0 (by have z := bd s3 [u1, u2, .ref f] I3.kIn (by rw [hpg]; rfl); rw [List.append_nil] at z; exact z) (.cons r1 (.cons r2 (.cons rfl .nil))) (by rw [hpg]; rfl) fun hr1 => ?_) fun r s4 hq => ?_)
  · obtain ⟨t', h1, h2⟩ := hG X.A X.stack g cdv f cd s3 H3 Q _ [v1, v2] hr1 hco M (q2 H3 cd en T3)
    exact ⟨t', h1.nox, h2⟩
  · cases r with
    | error e => exact (show False from hq).elim
    | ok fl =>
      cases fl with
      | ret u => exact I3.after hq
      | next => exact False.elim hq
      | brk => exact False.elim hq
      | cont => exact False.elim hq
/-- x(e1, lambda ..: body) -/
theorem pe_asksP1 (F : Fun X.K x x st g fd) (S : FnScope N pg (defScope st)) (hpg : pg.length = 2) (hg : Gl X x) (mx : X.mg x = some (.ref g)) (kp : PySem.W.keepIn X.K (.ref g) = true) (bd : Binds X.K fd pg [])
    (hG : AskedByP X.prog X.w X.K X.mg X.base (j + 1) ps.length k N x (defScope st) (defBody st) (lamQ X) tt) (TB : LamX.TabB X.base X.mg c P) (hcode : X.env.code = .ref c) (hmT : (P, lamQ X) ∈ T) (hu : ∀ p ∈ T, p.1 = P → p.2 = lamQ X) (hr : Room (k + 1) X.A) (L : LamP X.env.scope sc X.N ps) (hdf : defaultsOf pr X.env = ([], []))
    (no : ∀ (q : Str) (cl : List (Str × Addr)) (pm cv ct : Value) (us : List Value), us.length = ps.length → bindArgs (PySem.W.kla_fn "<lambda>" q pr body sc cl pm cv ct) ⟨us, []⟩ = pure (ps.zip us))
    (hb : ∀ (A : Around) (outer : List Env) (s : Shared) (H : Hp) (E : XK) (f cd : Addr), Room j (A.deeper (LamX.lamEnv X sc s.heap.objs.size f cd)) → PE (askCP X A outer s H E sc f cd ps) body (t E))
    (h1 : PE X e1 t1) (hd1 : (x == ("__debug__" : Str)) = false := by decide)
    (he1 : starEach [e1, .Lambda pr body sc pl] X.env = (false, eval e1 X.env) :: starEach [.Lambda pr body sc pl] X.env := by rfl) :
    PE X (.Call (.Name x p) [e1, .Lambda pr body sc pl] [] pos) (fun σ H Q => t1 σ H fun v1 H1 => tLamP T tt t [v1] σ H1 Q) := by
  obtain ⟨oc, od, kV, doc, pm, an, cdv, ct, osl, rfl, lk, hcd⟩ := F.ex
  refine ⟨fun pins s σ H Q I hw => ?_⟩
  refine wpAny_Call_Name_kw (ld_glob I hg mx ?_ hd1)
  refine PySem.W.callWith_K (h₀ := X.base) I.ok.mod.kin kp ?_ he1 (by rfl)
  rw [he1]
  show wpAny _ _ (spliced ((false, eval e1 X.env) :: (false, eval (.Lambda pr body sc pl) X.env) :: backTo pos [])) _ _ s
  refine Calls.spliced_cons (thn (h1.run pins s σ H _ I hw) fun u1 s1 ⟨v1, H1, I1, r1, hT, q1⟩ => ?_)
  refine Calls.spliced_cons (LamX.lam_make2 I1 TB hcode hmT hu hT hdf (L.has I1.ok) fun f cd pm2 ct2 H3 s3 I3 en T3 ob fn fr hco => ?_)
  refine Calls.spliced_nil ⟨I3.kIn, ?_⟩
  have M := ask_made I3 L ob fn fr no hb
  refine wpAny_call (codeAny_mono (LamX.run_ofS (CX := CX0) (E := E0) (Q := Q) (N := N) (ps := pg) (us := [u1, .ref f]) (vs := [v1, .ref f]) lk hcd S hr I3.env0 (by have z := bd s3 [u1, .ref f] I3.kIn (by rw [hpg]; rfl); rw [List.append_nil] at z; exact z) (.cons r1 (.cons rfl .nil)) (by rw [hpg]; rfl) fun hr1 => ?_) fun r s4 hq => ?_)
  · obtain ⟨t', h1, h2⟩ := hG X.A X.stack g cdv f cd s3 H3 Q _ [v1] hr1 hco M (q1 H3 cd en T3)
    exact ⟨t', h1.nox, h2⟩
  · cases r with
    | error e => exact (show False from hq).elim
    | ok fl =>
      cases fl with
      | ret u => exact I3.after hq
      | next => exact False.elim hq
      | brk => exact False.elim hq
      | cont => exact False.elim hq
end
end L2N
namespace Ink
open PySem PySem.Spec PyProof.Rows L2 Evl
/-! ### what is come to from some things, level by level: things of any sort, each with its way -/
structure KeyF {κ : Type} (kf : κ → NK) (df : κ → PyData) : Prop where
  inj : ∀ {a b}, kf a = kf b → a = b
  data : ∀ x, (kf x).data = df x
  depth : ∀ x, (kf x).depth ≤ 8
  tup : ∀ x, ∃ ks, kf x = .tup ks
section
variable {κ l : Type} [DecidableEq κ]
abbrev WRow (κ l : Type) := κ × List l
def addW (v : List l) (rs : List (WRow κ l)) (x : l × κ) : List (WRow κ l) := if x.2 ∈ rs.map (·.1) then rs else rs ++ [(x.2, v ++ [x.1])]
/-- one thing's leads -/
def turnW (leads : κ → List (l × κ)) (rs : List (WRow κ l)) (r : WRow κ l) : List (WRow κ l) := (leads r.1).foldl (addW r.2) rs
/-- a level's leads -/
def levW (leads : κ → List (l × κ)) (rs : List (WRow κ l)) (lev : List (WRow κ l)) : List (WRow κ l) := lev.foldl (turnW leads) rs
theorem addW_pre (v : List l) (rs : List (WRow κ l)) (x : l × κ) : ∃ tl, addW v rs x = rs ++ tl := by
  unfold addW
  split
  · exact ⟨[], (List.append_nil _).symm⟩
  · exact ⟨_, rfl⟩
theorem foldW_pre (v : List l) : ∀ (xs : List (l × κ)) (rs : List (WRow κ l)), ∃ tl, xs.foldl (addW v) rs = rs ++ tl
  | [], rs => ⟨[], (List.append_nil _).symm⟩
  | x :: xs, rs => by
    obtain ⟨t1, e1⟩ := addW_pre v rs x
    obtain ⟨t2, e2⟩ := foldW_pre v xs (addW v rs x)
    rw [List.foldl_cons, e2, e1]
    exact ⟨t1 ++ t2, List.append_assoc ..⟩
theorem levW_pre (leads : κ → List (l × κ)) : ∀ (lev rs : List (WRow κ l)), ∃ tl, levW leads rs lev = rs ++ tl
  | [], rs => ⟨[], (List.append_nil _).symm⟩
  | r :: lev, rs => by
    obtain ⟨t1, e1⟩ := foldW_pre r.2 (leads r.1) rs
    obtain ⟨t2, e2⟩ := levW_pre leads lev (turnW leads rs r)
    show ∃ tl, levW leads (turnW leads rs r) lev = rs ++ tl
    rw [e2]
    unfold turnW
    rw [e1]
    exact ⟨t1 ++ t2, List.append_assoc ..⟩
theorem addW_nd {v : List l} {rs : List (WRow κ l)} (h : (rs.map (·.1)).Nodup) (x : l × κ) : ((addW v rs x).map (·.1)).Nodup := by
  unfold addW
  split
  · exact h
  · rename_i hn
    rw [List.map_append, List.nodup_append]
    refine ⟨h, List.nodup_cons.mpr ⟨by simp, List.nodup_nil⟩, fun a ha b hb e => hn ?_⟩
    rw [← show b = x.2 from List.mem_singleton.mp hb, ← e]
    exact ha
theorem foldW_nd {v : List l} : ∀ (xs : List (l × κ)) {rs : List (WRow κ l)}, (rs.map (·.1)).Nodup → ((xs.foldl (addW v) rs).map (·.1)).Nodup
  | [], _, h => h
  | x :: xs, _, h => foldW_nd xs (addW_nd h x)
theorem levW_nd {leads : κ → List (l × κ)} : ∀ (lev : List (WRow κ l)) {rs : List (WRow κ l)}, (rs.map (·.1)).Nodup → ((levW leads rs lev).map (·.1)).Nodup
  | [], _, h => h
  | r :: lev, _, h => levW_nd lev (foldW_nd (leads r.1) h)
/-- what is true of the first ones and stays by each lead is true of all -/
theorem foldW_all {v : List l} {R : WRow κ l → Prop} : ∀ (xs : List (l × κ)) {rs : List (WRow κ l)}, (∀ x ∈ xs, R (x.2, v ++ [x.1])) → (∀ r ∈ rs, R r) → ∀ r ∈ xs.foldl (addW v) rs, R r
  | [], _, _, h => h
  | x :: xs, rs, hx, h => foldW_all xs (fun y hy => hx y (List.mem_cons_of_mem _ hy)) fun r hr => by
    unfold addW at hr
    split at hr
    · exact h r hr
    · rcases List.mem_append.mp hr with hr | hr
      · exact h r hr
      · rw [List.mem_singleton.mp hr]
        exact hx x List.mem_cons_self
theorem levW_all {leads : κ → List (l × κ)} {R : WRow κ l → Prop} (step : ∀ r, R r → ∀ x ∈ leads r.1, R (x.2, r.2 ++ [x.1])) : ∀ (lev : List (WRow κ l)) {rs : List (WRow κ l)}, (∀ r ∈ lev, R r) → (∀ r ∈ rs, R r) → ∀ r ∈ levW leads rs lev, R r
  | [], _, _, h => h
  | r :: lev, _, hl, h => levW_all step lev (fun q hq => hl q (List.mem_cons_of_mem _ hq)) (foldW_all _ (step r (hl r List.mem_cons_self)) h)
theorem take_foldW {v : List l} {xs : List (l × κ)} {j : Nat} {x : l × κ} (h : xs[j]? = some x) (rs : List (WRow κ l)) : (xs.take (j + 1)).foldl (addW v) rs = addW v ((xs.take j).foldl (addW v) rs) x := by
  rw [List.take_add_one, h, List.foldl_append]
  rfl
theorem take_levW {leads : κ → List (l × κ)} {lev : List (WRow κ l)} {j : Nat} {r : WRow κ l} (h : lev[j]? = some r) (rs : List (WRow κ l)) : levW leads rs (lev.take (j + 1)) = turnW leads (levW leads rs (lev.take j)) r := by
  unfold levW
  rw [List.take_add_one, h, List.foldl_append]
  rfl
end
/-! the dict of them -/
section
variable {κ l : Type} [DecidableEq κ] {kf : κ → NK} {df : κ → PyData} {dl : l → PyData} {P : Program} {w : World} {K : PySem.W.Frag} {H H' : Hp} {d : Addr}
def dWay (dl : l → PyData) (r : WRow κ l) : PyData := .tuple (r.2.map dl)
def RowW (kf : κ → NK) (dl : l → PyData) (K : PySem.W.Frag) (H : Hp) (kv : NK × V) (r : WRow κ l) : Prop := kv.1 = kf r.1 ∧ Dp K H kv.2 (dWay dl r)
def DicW (kf : κ → NK) (dl : l → PyData) (P : Program) (w : World) (K : PySem.W.Frag) (H : Hp) (d : Addr) (rs : List (WRow κ l)) : Prop := ∃ kvs, DicAt P w K H d kvs ∧ Paired (RowW kf dl K H) kvs rs
theorem KeyF.fz (F : KeyF kf df) (x : κ) : fz (df x) = true := by
  rw [← F.data]
  exact fz_key _
theorem KeyF.at (F : KeyF kf df) {v : V} {x : κ} (h : Dp K H v (df x)) : KeyAt K H v (kf x) := ⟨by rw [F.data]; exact h, F.depth x, F.tup x⟩
theorem fz_way (hl : ∀ x : l, fz (dl x) = true) (r : WRow κ l) : fz (dWay dl r) = true := by
  unfold dWay fz
  exact fz_map fun x _ => hl x
theorem DicW.up (hl : ∀ x : l, fz (dl x) = true) {rs : List (WRow κ l)} (h : DicW kf dl P w K H d rs) (hd : H' d = H d) (t : TupK K H H') : DicW kf dl P w K H' d rs := by
  obtain ⟨kvs, h1, h2⟩ := h
  exact ⟨kvs, h1.up hd t, L2.Paired.mapP h2 fun kv r ⟨e, hv⟩ => ⟨e, dp_tk t (fz_way hl r) hv⟩⟩
theorem DicW.free {rs : List (WRow κ l)} (h : DicW kf dl P w K H d rs) : ∃ xs, H d = some (DicO P w d xs) := by
  obtain ⟨kvs, ⟨xs, e, _⟩, _⟩ := h
  exact ⟨xs, e⟩
theorem DicW.same (hl : ∀ x : l, fz (dl x) = true) {rs : List (WRow κ l)} (h : DicW kf dl P w K H d rs) (e : Ex H H') : DicW kf dl P w K H' d rs := by
  obtain ⟨xs, ed⟩ := h.free
  exact h.up hl ((e _ _ ed).trans ed.symm) (.of e)
theorem DicW.len {rs : List (WRow κ l)} (h : DicW kf dl P w K H d rs) : ∃ kvs, DicAt P w K H d kvs ∧ kvs.length = rs.length := by
  obtain ⟨kvs, h1, h2⟩ := h
  exact ⟨kvs, h1, Paired.length h2⟩
theorem look_way (F : KeyF kf df) : ∀ {kvs : List (NK × V)} {rs : List (WRow κ l)} (s : κ), Paired (RowW kf dl K H) kvs rs → (lookN kvs (kf s)).isSome = decide (s ∈ rs.map (·.1)) ∧ ∀ v, lookN kvs (kf s) = some v → ∃ r ∈ rs, r.1 = s ∧ Dp K H v (dWay dl r)
  | _, _, s, .nil => ⟨by unfold lookN; simp, fun v h => by unfold lookN at h; cases h⟩
  | _, _, s, .cons (a := kv) (b := r) q t => by
    have ih := look_way F s t
    unfold lookN at ih ⊢
    rw [List.find?_cons, q.1]
    by_cases e : r.1 = s
    · rw [e, decide_eq_true rfl]
      refine ⟨?_, fun v h => ?_⟩
      · show true = decide (s ∈ (r :: _).map (·.1))
        rw [List.map_cons, e]
        exact (decide_eq_true List.mem_cons_self).symm
      · obtain rfl := Option.some.inj (show some kv.2 = some v from h)
        exact ⟨r, List.mem_cons_self .., e, q.2⟩
    · rw [decide_eq_false fun z => e (F.inj z)]
      refine ⟨?_, fun v h => ?_⟩
      · show _ = decide (s ∈ r.1 :: _)
        rw [ih.1, decide_eq_decide, List.mem_cons]
        exact ⟨.inr, fun z => z.elim (fun z => absurd z.symm e) id⟩
      · obtain ⟨r2, h1, h2⟩ := ih.2 v h
        exact ⟨r2, List.mem_cons_of_mem _ h1, h2⟩
theorem nd_row {rs : List (WRow κ l)} (nd : (rs.map (·.1)).Nodup) {r q : WRow κ l} (h1 : r ∈ rs) (h2 : q ∈ rs) (e : r.1 = q.1) : r = q := by
  induction rs with
  | nil => cases h1
  | cons a rs ih =>
    rw [List.map_cons, List.nodup_cons] at nd
    rcases List.mem_cons.mp h1 with z1 | z1 <;> rcases List.mem_cons.mp h2 with z2 | z2
    · rw [z1, z2]
    · exact absurd (List.mem_map.mpr ⟨q, z2, by rw [← e, z1]⟩) nd.1
    · exact absurd (List.mem_map.mpr ⟨r, z1, by rw [e, z2]⟩) nd.1
    · exact ih nd.2 z1 z2
theorem get_way (F : KeyF kf df) {kvs : List (NK × V)} {rs : List (WRow κ l)} {r : WRow κ l} (p : Paired (RowW kf dl K H) kvs rs) (nd : (rs.map (·.1)).Nodup) (h : r ∈ rs) : ∃ v, lookN kvs (kf r.1) = some v ∧ Dp K H v (dWay dl r) := by
  obtain ⟨h1, h2⟩ := look_way F r.1 p
  rw [decide_eq_true (List.mem_map_of_mem h)] at h1
  obtain ⟨v, hv⟩ := Option.isSome_iff_exists.mp h1
  obtain ⟨r2, hr2, e, hd⟩ := h2 v hv
  rw [nd_row nd hr2 h e] at hd
  exact ⟨v, hv, hd⟩
theorem way_none (F : KeyF kf df) {kvs : List (NK × V)} {rs : List (WRow κ l)} {s : κ} (p : Paired (RowW kf dl K H) kvs rs) (h : s ∉ rs.map (·.1)) : lookN kvs (kf s) = none := by
  have h1 := (look_way F s p).1
  rw [decide_eq_false h] at h1
  cases e : lookN kvs (kf s) with
  | none => rfl
  | some u =>
    rw [e] at h1
    cases h1
theorem DicW.put (F : KeyF kf df) (hl : ∀ x : l, fz (dl x) = true) {rs : List (WRow κ l)} {kvs : List (NK × V)} {v : V} {r : WRow κ l} (p : Paired (RowW kf dl K H) kvs rs) (hn : r.1 ∉ rs.map (·.1)) (hv : Dp K H v (dWay dl r)) (h : DicAt P w K H' d (putN kvs (kf r.1) v)) (t : TupK K H H') : DicW kf dl P w K H' d (rs ++ [r]) := by
  have lk := way_none F p hn
  rw [(look_new lk).1] at h
  exact ⟨_, h, prd_snoc (L2.Paired.mapP p fun kv r ⟨e, hv⟩ => ⟨e, dp_tk t (fz_way hl r) hv⟩) ⟨rfl, dp_tk t (fz_way hl r) hv⟩⟩
end
/-! what a callback may change -/
/-- all but what stands at D stays -/
def KDs (D : Addr → Prop) (H H' : Hp) : Prop := ∀ b o, H b = some o → ¬ D b → H' b = some o
theorem KDs.refl {D : Addr → Prop} (H : Hp) : KDs D H H := fun _ _ h _ => h
theorem KDs.trans {D : Addr → Prop} {H H1 H2 : Hp} (a : KDs D H H1) (b : KDs D H1 H2) : KDs D H H2 := fun c o h n => b c o (a c o h n) n
theorem KDs.of {D : Addr → Prop} {H H' : Hp} (e : Ex H H') : KDs D H H' := fun b o h _ => e b o h
/-- a state of things that callbacks ask: S n, n counting the askings; Ow is what is theirs, D is where they write -/
structure Askd (P : Program) (w : World) (K : PySem.W.Frag) (Ow : Addr → Prop) (D : Addr → Prop) (S : Nat → Hp → Prop) : Prop where
  dic : ∀ {n H}, S n H → ∀ b, D b → ∃ xs, H b = some (DicO P w b xs)
  own : ∀ b, D b → Ow b
  sub : ∀ {n H}, S n H → ∀ a, Ow a → H a ≠ none
  off : ∀ {n H H'}, S n H → (∀ a, Ow a → H' a = H a) → TupK K H H' → S n H'
section
variable {P : Program} {w : World} {K : PySem.W.Frag} {H H' : Hp} {Ow D : Addr → Prop} {S : Nat → Hp → Prop} {n : Nat}
theorem KDs.kx (A : Askd P w K Ow D S) (h : S n H) (k : KDs D H H') : KX H H' := fun b o hb no => k b o hb fun hd => by
  obtain ⟨xs, e⟩ := A.dic h b hd
  rw [e] at hb
  exact no _ (Option.some.inj hb).symm
theorem Askd.same (A : Askd P w K Ow D S) (h : S n H) (e : Ex H H') : S n H' := A.off h (fun a ha => by
  cases ho : H a with
  | none => exact absurd ho (A.sub h a ha)
  | some o => exact e _ _ ho) (.of e)
theorem KDs.tk (A : Askd P w K Ow D S) (h : S n H) (k : KDs D H H') : TupK K H H' := (KDs.kx A h k).t
end
end Ink
namespace Ink
open PySem PySem.Spec PyProof.Rows L2 Evl
/-! ### a def called with keywords, or with a keyword-only parameter left out -/
def CalK (P : Program) (w : World) (K : PySem.W.Frag) (mg : Str → Option Value) (base : Heap) (k : Nat) (x : Str) (ps : List Str) (n : Nat) (ks : List Str) (gV : List V → List V → List V) (sp : Sp) : Prop :=
  ∃ f fd g, FnOk P w K mg base (L2N.CX P w) k f fd ps sp ∧ mg x = some (.ref f) ∧ PySem.W.keepIn K (.ref f) = true ∧ KBn K fd ps n ks g gV
def tCallKn (n m : Nat) (sp : Sp) (gV : List V → List V → List V) (E : XK) (t tk : TA) : TE := fun σ H Q => t σ H fun vs H1 => tk σ H1 fun zs H2 => vs.length = n ∧ zs.length = m ∧ sp (gV vs zs) H2 Q E
section
variable {X : Cx} {k n : Nat} {x : Str} {ps ks : List Str} {gV : List V → List V → List V} {sp : Sp} {p pos : Pos} {e : Expr} {es : List Expr} {kws : List Keyword} {t tk : TA} {E : XK}
theorem pe_callKN (c : CalK X.prog X.w X.K X.mg X.base k x ps n ks gV sp) (hr : Room k X.A) (hx : Passes (L2N.CX X.prog X.w) X E) (hg : Gl X x) (ha : PA X (e :: es) t) (hkw : PK X kws tk)
    (hall : (backToKw pos (keywordEach kws X.env)).all (·.1.isSome) = true := by rfl) (hks : (backToKw pos (keywordEach kws X.env)).filterMap (·.1) = ks := by rfl) (hdb : (x == ("__debug__" : Str)) = false := by decide)
    (he : starEach (e :: es) X.env = (false, eval e X.env) :: starEach es X.env := by rfl) (hpl : ((backTo pos (starEach (e :: es) X.env)).any (·.1) || (backToKw pos (keywordEach kws X.env)).any (·.1.isNone)) = false := by rfl) :
    PE X (.Call (.Name x p) (e :: es) kws pos) (tCallKn n ks.length sp gV E t tk) := by
  obtain ⟨f, fd, g, F, hm, hk, hb⟩ := c
  refine ⟨fun pins s σ H Q I h => ?_⟩
  refine wpAny_Call_Name_kw (ld_glob I hg hm ?_ hdb)
  refine PySem.W.callWith_KW (h₀ := X.base) I.ok.mod.kin hk hall (thn (ha.run pos pins s σ H _ I h) fun us s1 ⟨vs, H1, I1, r, q⟩ => ?_) hpl he
  refine thn (hkw.run pos pins s1 σ H1 _ I1 q) fun ws s2 ⟨zs, H2, I2, rz, l1, l2, q2⟩ => ⟨I2.kIn, ?_⟩
  rw [hks]
  refine wpAny_call (codeAny_mono (F.run X.A X.stack s2 H2 ⟨us, ks.zip ws⟩ (g us ws) (gV vs zs) Q E hr I2.env0 (hb.to s2 us ws I2.kIn (by rw [← r.length, l1]) (by rw [← rz.length, l2])) (hb.rel r rz) q2) fun rr s' hq' => ?_)
  cases rr with
  | error er => exact hx pins σ _ _ er s' I2 hq'
  | ok fl =>
    cases fl with
    | ret u => exact I2.after hq'
    | next => exact False.elim hq'
    | brk => exact False.elim hq'
    | cont => exact False.elim hq'
end
section
variable {Y : Cx} {k n : Nat} {x : Str} {ps ks : List Str} {gV : List V → List V → List V} {sp : Sp} {p pos : Pos} {e : Expr} {es : List Expr} {kws : List Keyword} {t tk : TA} {A : Around} {outer : List Env} {s : Shared} {H : Hp} {E : XK} {sc : Scope} {f cd : Addr}
/-- x(e, .., k = v) in a lambda -/
theorem pe_lamCK (c : CalK Y.prog Y.w Y.K Y.mg Y.base k x ps n ks gV sp) (hr : Room k (A.deeper (LamX.lamEnv Y sc s.heap.objs.size f cd))) (hg : Gl (L2N.askC Y A outer s H E sc f cd) x) (ha : PA (L2N.askC Y A outer s H E sc f cd) (e :: es) t) (hkw : PK (L2N.askC Y A outer s H E sc f cd) kws tk)
    (hall : (backToKw pos (keywordEach kws (L2N.askC Y A outer s H E sc f cd).env)).all (·.1.isSome) = true := by rfl) (hks : (backToKw pos (keywordEach kws (L2N.askC Y A outer s H E sc f cd).env)).filterMap (·.1) = ks := by rfl) (hdb : (x == ("__debug__" : Str)) = false := by decide)
    (he : starEach (e :: es) (L2N.askC Y A outer s H E sc f cd).env = (false, eval e (L2N.askC Y A outer s H E sc f cd).env) :: starEach es (L2N.askC Y A outer s H E sc f cd).env := by rfl) (hpl : ((backTo pos (starEach (e :: es) (L2N.askC Y A outer s H E sc f cd).env)).any (·.1) || (backToKw pos (keywordEach kws (L2N.askC Y A outer s H E sc f cd).env)).any (·.1.isNone)) = false := by rfl) :
    PE (L2N.askC Y A outer s H E sc f cd) (.Call (.Name x p) (e :: es) kws pos) (tCallKn n ks.length sp gV E t tk) :=
  pe_callKN (X := L2N.askC Y A outer s H E sc f cd) c hr (passA (Y := Y)) hg ha hkw hall hks hdb he hpl
end
end Ink
namespace Ink
open PySem PySem.Spec PyProof.Rows L2 Evl
/-! ### the eye: which kinds of signs are stamped, and who is asked for -/
abbrev Knd := Str × Str
def dKd (p : Knd) : PyData := .tuple [.str p.1, .str p.2]
def kKd (p : Knd) : NK := .tup [.text p.1, .text p.2]
theorem fz_dKd (p : Knd) : fz (dKd p) = true := by
  unfold dKd
  simp only [fz, fzAll, Bool.and_self]
theorem kKd_data (p : Knd) : (kKd p).data = dKd p := by
  unfold kKd dKd
  simp only [NestedKey.data, NestedKey.datas]
theorem kKd_inj (p q : Knd) (h : kKd p = kKd q) : p = q := by
  unfold kKd at h
  injection h with h
  injection h with h1 h
  injection h with h2 _
  injection h1 with h1
  injection h2 with h2
  exact Prod.ext h1 h2
theorem kKd_at {K : PySem.W.Frag} {H : Hp} {v : V} {p : Knd} (h : Dp K H v (dKd p)) : KeyAt K H v (kKd p) := ⟨by rw [kKd_data]; exact h, by
  unfold kKd
  simp only [NestedKey.depth, NestedKey.depthAll]
  omega, _, rfl⟩
structure EyC (K : PySem.W.Frag) (E : Addr) : Prop where
  cl : Cls K E
  nW : NoAttr K E "_who"
  nS : NoAttr K E "_stamped"
theorem kes : ¬ (("_who" : Str) = "_stamped") := by decide +kernel
def eyF (u : V) (d : Addr) : List (Str × V) := putF "_stamped" (.ref d) (putF "_who" u [])
theorem eyF_w (u : V) (d : Addr) : (eyF u d).lookup ("_who" : Str) = some u := by
  unfold eyF
  rw [lookup_putF, if_neg kes, lookup_putF, if_pos rfl]
theorem eyF_s (u : V) (d : Addr) : (eyF u d).lookup ("_stamped" : Str) = some (.ref d) := by
  unfold eyF
  rw [lookup_putF, if_pos rfl]
theorem eyF_no (u : V) (d : Addr) {m : Str} (h1 : ¬ m = "_stamped") (h2 : ¬ m = "_who") : (eyF u d).lookup m = none := by
  unfold eyF
  rw [lookup_putF, if_neg h1, lookup_putF, if_neg h2]
  rfl
theorem nfree : ¬ (("free" : Str) = "_stamped") ∧ ¬ (("free" : Str) = "_who") := by decide +kernel
theorem nalike : ¬ (("alike" : Str) = "_stamped") ∧ ¬ (("alike" : Str) = "_who") := by decide +kernel
theorem nleads : ¬ (("leads" : Str) = "_stamped") ∧ ¬ (("leads" : Str) = "_who") := by decide +kernel
theorem ndiffer : ¬ (("differ" : Str) = "_stamped") ∧ ¬ (("differ" : Str) = "_who") := by decide +kernel
def dWho : Option Str → PyData
  | none => .none
  | some z => .str z
theorem fz_dWho (o : Option Str) : fz (dWho o) = true := by
  cases o <;> (unfold dWho fz; rfl)
/-- an eye stands at e, its dict at de -/
def EyeAt (P : Program) (w : World) (K : PySem.W.Frag) (E : Addr) (H : Hp) (e : Addr) (who : Option Str) (ks : List Knd) (de : Addr) : Prop :=
  ∃ (dx : Addr) (u : V) (kvs : List (NK × V)) (l : List Knd), H e = some (.ins E dx (eyF u de)) ∧ Dp K H u (dWho who) ∧ DicAt P w K H de kvs ∧ kvs.map (·.1) = l.map kKd ∧ ∀ p, p ∈ l ↔ p ∈ ks
def alikeM (ks : List Knd) (sg a b : Str) : Bool := decide (a = b) || (!decide ((a, sg) ∈ ks) && !decide ((b, sg) ∈ ks))
section
variable {P : Program} {w : World} {K : PySem.W.Frag} {E e de : Addr} {H H' : Hp} {who : Option Str} {ks : List Knd} {σ : L2.St}
theorem EyeAt.up (h : EyeAt P w K E H e who ks de) (he : ∀ o, H e = some o → H' e = some o) (hd : H' de = H de) (t : TupK K H H') : EyeAt P w K E H' e who ks de := by
  obtain ⟨dx, u, kvs, l, h1, h2, h3, h4, h5⟩ := h
  exact ⟨dx, u, kvs, l, he _ h1, dp_tk t (fz_dWho who) h2, h3.up hd t, h4, h5⟩
theorem EyeAt.ext (h : EyeAt P w K E H e who ks de) : ∃ xs, H de = some (DicO P w de xs) := by
  obtain ⟨_, _, _, _, _, _, ⟨xs, e, _⟩, _⟩ := h
  exact ⟨xs, e⟩
theorem EyeAt.ins (h : EyeAt P w K E H e who ks de) : ∃ dx u, H e = some (.ins E dx (eyF u de)) := by
  obtain ⟨dx, u, _, _, h1, _⟩ := h
  exact ⟨dx, u, h1⟩
theorem EyeAt.same (h : EyeAt P w K E H e who ks de) (x : Ex H H') : EyeAt P w K E H' e who ks de := by
  obtain ⟨xs, ed⟩ := h.ext
  exact h.up (fun o ho => x _ _ ho) ((x _ _ ed).trans ed.symm) (.of x)
theorem ev_methV {C : Addr} {m : Str} {sp : Sp} {X : XK} {to : TE} {ta : TA} {a dx : Addr} {fs : List (Str × V)} {vs : List V} {z : V} (ho : Ev to σ H (.ref a)) (ha : H a = some (.ins C dx fs)) (no : fs.lookup m = none) (hv : EvA ta σ H vs) (hs : ∀ H1, Ex H H1 → ∀ Q : VK, (∀ H2, Ex H1 H2 → Q z H2) → sp (.ref a :: vs) H1 Q X) :
    Ev (tMeth C m sp [] X to ta) σ H z := fun H1 x Q q => ho H1 x _ fun H2 x2 => ⟨a, dx, fs, rfl, x2 _ _ (x _ _ ha), no, hv H2 (x.trans x2) _ fun H3 x3 => by
  show sp (.ref a :: vs ++ []) H3 Q X
  rw [List.append_nil]
  exact hs H3 ((x.trans x2).trans x3) Q fun H4 x4 => q H4 ((x2.trans x3).trans x4)⟩
/-- (a, sign) not in self._stamped -/
theorem ev_stamp {i j k : Nat} {a sg : Str} (Y : EyC K E) (h : EyeAt P w K E H e who ks de) (he : σ[k]? = some (some (.ref e))) (h1 : σ[i]? = some (some (.str a))) (h2 : σ[j]? = some (some (.str sg))) :
    Ev (tOp (rInN P w K true) (tTup (tCons (tVar i) (tCons (tVar j) tNil))) (tFld K (tVar k) "_stamped")) σ H (.bl (!decide ((a, sg) ∈ ks))) := fun H1 x Q q => by
  refine ⟨.str a, h1, .str sg, h2, by show 2 ≤ sizeLine; decide, fun p np => ?_⟩
  have xp := Ex.new (o := .tup [V.str a, V.str sg]) np
  obtain ⟨dx, u, kvs, l, g1, g2, g3, g4, g5⟩ := (h.same x).same xp
  refine ⟨.ref e, he, e, E, dx, _, _, rfl, g1, Y.cl, Y.nS, eyF_s _ _, ?_⟩
  refine ⟨kKd (a, sg), de, kvs, rfl, kKd_at (.tup (.of upd_same) (.cons (.str _) (.cons (.str _) .nil))), g3, ?_⟩
  have lk := look_g kKd_inj (a, sg) g4
  rw [lk, decide_eq_decide.mpr (g5 (a, sg))]
  exact q _ xp
end
/-! its methods -/
def spEye (P : Program) (w : World) (K : PySem.W.Frag) (E : Addr) : Sp := fun vs H Q _ => ∃ (p dx : Addr) (u v : V) (who : Option Str) (ks : List Knd), vs = [.ref p, u, v] ∧ H p = some (.ins E dx []) ∧ Dp K H u (dWho who) ∧ (Dp K H v (.list (ks.map dKd)) ∨ Dp K H v (.tuple (ks.map dKd))) ∧ ks.length ≤ 10000 ∧
  ∀ d H', H d = none → (∀ b o, H b = some o → b ≠ p → H' b = some o) → EyeAt P w K E H' p who ks d → Q .non H'
def spEyeV (P : Program) (w : World) (K : PySem.W.Frag) (E : Addr) (c : List PyData → PyData) : Sp := fun vs H Q _ => ∃ (p dx : Addr) (u v : V) (who : Option Str) (ks : List Knd), vs = [.ref p, u, v] ∧ H p = some (.ins E dx []) ∧ Dp K H u (dWho who) ∧ Dp K H v (c (ks.map dKd)) ∧ ks.length ≤ 10000 ∧
  ∀ d H', H d = none → (∀ b o, H b = some o → b ≠ p → H' b = some o) → EyeAt P w K E H' p who ks d → Q .non H'
def spFree (P : Program) (w : World) (K : PySem.W.Frag) (E : Addr) : Sp := fun vs H Q _ => ∃ (e de : Addr) (who : Option Str) (ks : List Knd) (a sg : Str), vs = [.ref e, .str a, .str sg] ∧ EyeAt P w K E H e who ks de ∧ ∀ H', Ex H H' → Q (.bl (!decide ((a, sg) ∈ ks))) H'
def spAlike (P : Program) (w : World) (K : PySem.W.Frag) (E : Addr) : Sp := fun vs H Q _ => ∃ (e de : Addr) (who : Option Str) (ks : List Knd) (sg a b : Str), vs = [.ref e, .str sg, .str a, .str b] ∧ EyeAt P w K E H e who ks de ∧ ∀ H', Ex H H' → Q (.bl (alikeM ks sg a b)) H'
section
variable {P : Program} {w : World} {K : PySem.W.Frag} {mg : Str → Option Value} {base : Heap}
/-- {(name, sign): True for name, sign in stamps} -/
theorem dc_knd {σ : L2.St} {H : Hp} {ti : TI} {Q : VK} {i j : Nat} {ks : List Knd} (hi : EvI K ti σ H (ks.map dKd)) (hz : ks.length ≤ 10000) (h1 : ∀ x y : V, (((wipe σ [i, j]).set i (some x)).set j (some y))[i]? = some (some x)) (h2 : ∀ x y : V, (((wipe σ [i, j]).set i (some x)).set j (some y))[j]? = some (some y))
    (hw : ∀ x y : V, wipe (((wipe σ [i, j]).set i (some x)).set j (some y)) [i, j] = wipe σ [i, j])
    (q : ∀ (D : Addr) (H1 : Hp) (kvs : List (NK × V)) (l : List Knd), H D = none → Ex H H1 → DicAt P w K H1 D kvs → kvs.map (·.1) = l.map kKd → (∀ p, p ∈ l ↔ p ∈ ks) → Q (.ref D) H1) :
    tDcN (NwDN P w) (PtN P w K) ti (gTup K 2 (gCons (gName i) (gCons (gName j) gNil))) tYes (tTup (tCons (tVar i) (tCons (tVar j) tNil))) (tC (.bl true)) [i, j] σ H Q :=
  hi H (.refl H) _ fun J H1 e1 W D nD => by
    have hn := Ex.new (o := NwDN P w D) nD
    refine turns_it W (fun n H' => Ex H1 H' ∧ ∃ kvs l, DicAt P w K H' D kvs ∧ kvs.map (·.1) = l.map kKd ∧ l.length ≤ n ∧ ∀ p, p ∈ l ↔ p ∈ ks.take n) ⟨hn, [], [], newDN_at, rfl, Nat.le_refl _, fun p => Iff.rfl⟩ (fun n H' _ hP => hP.1) (fun n x Hb Hc hn hP hy => ?_) (fun H' hP => ?_)
    · obtain ⟨ex, kvs, l, hD, hk, hl, hm⟩ := hP
      obtain ⟨e2, dd, hdd, hx⟩ := hy
      rw [List.getElem?_map, Option.map_eq_some_iff] at hdd
      obtain ⟨p, hp, rfl⟩ := hdd
      rw [List.length_map] at hn
      refine tg2 hx fun v1 v2 b1 b2 => ⟨hw _ _, yes_of ?_⟩
      rw [if_pos rfl]
      refine ⟨v1, h1 _ _, v2, h2 _ _, by show 2 ≤ sizeLine; decide, fun t nt => ?_⟩
      have et := Ex.new (o := .tup [v1, v2]) nt
      have hD2 := (hD.same e2).same et
      have kl := congrArg List.length hk
      rw [List.length_map, List.length_map] at kl
      refine ⟨kvs, kKd p, hD2, kKd_at (.tup (.of upd_same) (.cons (dp_same et b1) (.cons (dp_same et b2) .nil))), by omega, fun H5 h5 only => ⟨fun b o hb => ?_, putN kvs (kKd p) (.bl true), addG l p, h5, put_g kKd_inj hk, ?_, fun c => ?_⟩⟩
      · rw [only b (ne_of_none hb nD)]
        exact et _ _ (e2 _ _ (ex b o hb))
      · unfold addG
        split
        · omega
        · rw [List.length_append]
          show l.length + 1 ≤ _
          omega
      · rw [addG_mem, hm, take_snoc hp, List.mem_append, List.mem_singleton]
    · obtain ⟨ex, kvs, l, hD, hk, hl, hm⟩ := hP
      rw [List.length_map, List.take_length] at hm
      exact q D H' kvs l (fresh_back e1 nD) (e1.trans ex) hD hk hm
theorem use_fldE {σ : L2.St} {H : Hp} {ta tv : TE} {f : Str} {D : Ends} (h : tv σ H fun y H1 => ta σ H1 fun x H2 => ∃ a C dx fs, x = .ref a ∧ H2 a = some (.ins C dx fs) ∧ Cls K C ∧ NoAttr K C f ∧ fs.length < 1000 ∧ D.nx σ (upd H2 a (.ins C dx (putF f y fs)))) : sFld K ta tv f D σ H := h
theorem eye_init {σ : L2.St} {H : Hp} {E p dx : Addr} {u : V} {who : Option Str} {ks : List Knd} {ti : TI} {D : Ends} (Y : EyC K E) (hp : H p = some (.ins E dx [])) (hu : Dp K H u (dWho who)) (hz : ks.length ≤ 10000) (hσ : σ = [some (.ref p), some u, σ.getD 2 none, none, none])
    (hi : ∀ H1, (∀ b o, H b = some o → b ≠ p → H1 b = some o) → H1 p = some (.ins E dx (putF "_who" u [])) → TupK K H H1 → EvI K ti σ H1 (ks.map dKd)) (q : ∀ d H', H d = none → (∀ b o, H b = some o → b ≠ p → H' b = some o) → EyeAt P w K E H' p who ks d → D.nx σ H') :
    tSeq (sFld K (tVar 0) (tVar 1) "_who") (sFld K (tVar 0) (tDcN (NwDN P w) (PtN P w K) ti (gTup K 2 (gCons (gName 3) (gCons (gName 4) gNil))) tYes (tTup (tCons (tVar 3) (tCons (tVar 4) tNil))) (tC (.bl true)) [3, 4]) "_stamped") D σ H := by
  rw [hσ] at *
  refine ⟨u, rfl, .ref p, rfl, p, E, dx, [], rfl, hp, Y.cl, Y.nW, by show 0 < 1000; decide, ?_⟩
  have h1 : ∀ b o, H b = some o → b ≠ p → upd H p (.ins E dx (putF "_who" u [])) b = some o := fun b o e n => by
    rw [upd_ne n]
    exact e
  have t1 : TupK K H (upd H p (.ins E dx (putF "_who" u []))) := .upd hp (fun _ z => by cases z) fun _ _ z => by cases z
  dsimp only
  refine use_fldE ?_
  refine dc_knd (P := P) (w := w) (i := 3) (j := 4) (hi _ h1 upd_same t1) hz (fun _ _ => rfl) (fun _ _ => rfl) (fun _ _ => rfl) fun d H2 kvs l nd e2 hd hk hm => ?_
  have hp2 := e2 _ _ (upd_same (H := H) (a := p) (o := .ins E dx (putF "_who" u [])))
  have pd : p ≠ d := ne_of_none (upd_same (H := H) (a := p) (o := .ins E dx (putF "_who" u []))) nd
  have nd0 : H d = none := by
    rw [upd_ne pd.symm] at nd
    exact nd
  refine ⟨.ref p, rfl, p, E, dx, _, rfl, hp2, Y.cl, Y.nS, by show 1 < 1000; decide, ?_⟩
  have t3 : TupK K H2 (upd H2 p (.ins E dx (eyF u d))) := .upd hp2 (fun _ z => by cases z) fun _ _ z => by cases z
  refine q d _ nd0 (fun b o e n => ?_) ⟨dx, u, kvs, l, upd_same, dp_tk ((t1.trans (.of e2)).trans t3) (fz_dWho who) hu, hd.up (upd_ne pd.symm) t3, hk, hm⟩
  show upd H2 p (.ins E dx (eyF u d)) b = some o
  rw [upd_ne n]
  exact e2 _ _ (h1 b o e n)
theorem ok_eyeL {f E : Addr} {fd : FuncData} {k : Nat} (F : Fun K "__init__" "Eye.__init__" sEyeInit f fd) (T : Txt mg) (Y : EyC K E) : FnOk P w K mg base CX0 (k + 1) f fd ["self", "who", "stamps"] (spEyeV P w K E .list) := by
  refine F.ok sc_Eye___init__ (fun vs H Q X9 h => ?_) (fun cdv A outer s H vs Q X9 hr h => ?_)
  · obtain ⟨p, dx, u, v, who, ks, rfl, _⟩ := h
    rfl
  · obtain ⟨p, dx, u, v, who, ks, rfl, hp, hu, hv, hz, q⟩ := h
    refine ⟨_, (pss_cons (ps_fld (pv 0) (pv 1) rfl)
    (pss_one (ps_fld (pv 0) (pe_dcN (own := [("name", 3), ("sign", 4)]) (g := (gTup K 2 (gCons (gName 3) (gCons (gName 4) gNil)))) (Nw := (NwDN P w)) (Pt := (PtN P w K)) (by rfl) sc_Eye___init__.nd (pi_list (pv 2)) (blkOk_by (own := [("name", 3), ("sign", 4)]) (N := ["self", "who", "stamps", "name", "sign"]) (sc := defScope sEyeInit) (by decide +kernel)) newDN_ok (fun _ _ _ _ _ => putN_ok (hu9 hr)) (fun _ _ _ _ _ => (pg_tup rfl (pgs_cons (pg_name (i := 3) sc_Eye___init__.nd rfl (.inl rfl)) (pgs_cons (pg_name (i := 4) sc_Eye___init__.nd rfl (.inl rfl)) pgs_nil)))) (fun _ _ _ _ _ => pts_nil) (fun _ _ _ _ _ => (pe_tup (pa_cons (pv 3) (pa_cons (pv 4) pa_nil)))) (fun _ _ _ _ _ => pe_bl)) rfl))), ?_⟩
    refine eye_init (P := P) (w := w) Y hp hu hz rfl (fun H1 h1 hp1 t1 => ei_lst (ed_var (i := 2) rfl ?_)) q
    obtain ⟨a, xs, rfl, ha, hxs⟩ := dp_lst hv
    refine .lst ?_ (dps_tk t1 (fz_map fun x _ => fz_dKd x) hxs)
    rcases ha with (ha | ⟨o, ha⟩) | ha
    · exact .inl (.inl (h1 _ _ ha (ne_of ha hp (by intro z; cases z))))
    · exact .inl (.inr ⟨o, h1 _ _ ha (ne_of ha hp (by intro z; cases z))⟩)
    · exact .inr ha
theorem ok_eyeT {f E : Addr} {fd : FuncData} {k : Nat} (F : Fun K "__init__" "Eye.__init__" sEyeInit f fd) (T : Txt mg) (Y : EyC K E) : FnOk P w K mg base CX0 (k + 1) f fd ["self", "who", "stamps"] (spEyeV P w K E .tuple) := by
  refine F.ok sc_Eye___init__ (fun vs H Q X9 h => ?_) (fun cdv A outer s H vs Q X9 hr h => ?_)
  · obtain ⟨p, dx, u, v, who, ks, rfl, _⟩ := h
    rfl
  · obtain ⟨p, dx, u, v, who, ks, rfl, hp, hu, hv, hz, q⟩ := h
    refine ⟨_, (pss_cons (ps_fld (pv 0) (pv 1) rfl)
    (pss_one (ps_fld (pv 0) (pe_dcN (own := [("name", 3), ("sign", 4)]) (g := (gTup K 2 (gCons (gName 3) (gCons (gName 4) gNil)))) (Nw := (NwDN P w)) (Pt := (PtN P w K)) (by rfl) sc_Eye___init__.nd (pi_tup (pv 2)) (blkOk_by (own := [("name", 3), ("sign", 4)]) (N := ["self", "who", "stamps", "name", "sign"]) (sc := defScope sEyeInit) (by decide +kernel)) newDN_ok (fun _ _ _ _ _ => putN_ok (hu9 hr)) (fun _ _ _ _ _ => (pg_tup rfl (pgs_cons (pg_name (i := 3) sc_Eye___init__.nd rfl (.inl rfl)) (pgs_cons (pg_name (i := 4) sc_Eye___init__.nd rfl (.inl rfl)) pgs_nil)))) (fun _ _ _ _ _ => pts_nil) (fun _ _ _ _ _ => (pe_tup (pa_cons (pv 3) (pa_cons (pv 4) pa_nil)))) (fun _ _ _ _ _ => pe_bl)) rfl))), ?_⟩
    exact eye_init (P := P) (w := w) Y hp hu hz rfl (fun H1 h1 hp1 t1 => ei_tup (ed_var (i := 2) rfl (dp_tk t1 (by unfold fz; exact fz_map fun x _ => fz_dKd x) hv))) q
theorem ok_eye {f E : Addr} {fd : FuncData} {k : Nat} (F : Fun K "__init__" "Eye.__init__" sEyeInit f fd) (T : Txt mg) (Y : EyC K E) : FnOk P w K mg base CX0 (k + 1) f fd ["self", "who", "stamps"] (spEye P w K E) where
  len vs H Q E h := by
    obtain ⟨p, dx, u, v, who, ks, rfl, _⟩ := h
    rfl
  run A outer s H args us vs Q X hr e0 b r h := by
    obtain ⟨p, dx, u, v, who, ks, e, hp, hu, hv, hz, q⟩ := h
    rcases hv with hv | hv
    · exact (ok_eyeL F T Y).run A outer s H args us vs Q X hr e0 b r ⟨p, dx, u, v, who, ks, e, hp, hu, hv, hz, q⟩
    · exact (ok_eyeT F T Y).run A outer s H args us vs Q X hr e0 b r ⟨p, dx, u, v, who, ks, e, hp, hu, hv, hz, q⟩
theorem ok_free {f E : Addr} {fd : FuncData} {k : Nat} (F : Fun K "free" "Eye.free" sEyeFree f fd) (T : Txt mg) (Y : EyC K E) : FnOk P w K mg base CX0 (k + 1) f fd ["self", "name", "sign"] (spFree P w K E) := by
  refine F.ok sc_Eye_free (fun vs H Q X9 h => ?_) (fun cdv A outer s H vs Q X9 hr h => ?_)
  · obtain ⟨e, de, who, ks, a, sg, rfl, _⟩ := h
    rfl
  · obtain ⟨e, de, who, ks, a, sg, rfl, h, q⟩ := h
    refine ⟨_, (pss_one (ps_ret (pe_cmpR (op_notinN (hu9 hr)) (pe_tup (pa_cons (pv 1) (pa_cons (pv 2) pa_nil))) (pe_fld (pv 0) rfl) (by rfl)))), ?_⟩
    exact (ev_stamp (σ := [some (.ref e), some (.str a), some (.str sg)]) (i := 1) (j := 2) (k := 0) Y h rfl rfl rfl) H (.refl H) _ fun H1 e1 => q H1 e1
theorem ok_alike {f E : Addr} {fd : FuncData} {k : Nat} (F : Fun K "alike" "Eye.alike" sEyeAlike f fd) (T : Txt mg) (Y : EyC K E) (M_Eye_free : MetC P w K mg base k E "free" ["self", "name", "sign"] (spFree P w K E)) : FnOk P w K mg base CX0 (k + 1) f fd ["self", "sign", "one", "other"] (spAlike P w K E) := by
  refine F.ok sc_Eye_alike (fun vs H Q X9 h => ?_) (fun cdv A outer s H vs Q X9 hr h => ?_)
  · obtain ⟨e, de, who, ks, sg, a, b, rfl, _⟩ := h
    rfl
  · obtain ⟨e, de, who, ks, sg, a, b, rfl, h, q⟩ := h
    obtain ⟨dx, u, hi⟩ := h.ins
    refine ⟨_, (pss_one (ps_ret (pe_or (pe_cmpR op_eq (pv 2) (pv 3) (nomark _)) (pe_one (pe_and (pe_methC (pv 0) M_Eye_free (hr.mono (by omega)) (pa_cons (pv 2) (pa_cons (pv 1) pa_nil))) (pe_one (pe_methC (pv 0) M_Eye_free (hr.mono (by omega)) (pa_cons (pv 3) (pa_cons (pv 1) pa_nil))))))))), ?_⟩
    have fr : ∀ (i : Nat) (c : Str), ([some (.ref e), some (.str sg), some (.str a), some (.str b)] : L2.St)[i]? = some (some (.str c)) → Ev (tMeth E "free" (spFree P w K E) [] E0 (tVar 0) (tCons (tVar i) (tCons (tVar 1) tNil))) [some (.ref e), some (.str sg), some (.str a), some (.str b)] H (.bl (!decide ((c, sg) ∈ ks))) := fun i c hc =>
      ev_methV (ev_var rfl) hi (eyF_no _ _ nfree.1 nfree.2) (ea_cons (ev_var hc) (ea_cons (ev_var rfl) ea_nil)) fun H1 x Q q => ⟨e, de, who, ks, c, sg, rfl, h.same x, q⟩
    refine (ev_is (ev_orV (ev_op (ev_var rfl) (ev_var rfl) (rv_eq rfl)) fun _ => ev_andV (fr 2 a rfl) fun _ => fr 3 b rfl) ?_) H (.refl H) _ fun H1 e1 => q H1 e1
    unfold alikeM
    refine congrArg V.bl (congrArg (· || _) ?_)
    exact decide_eq_decide.mpr ⟨fun z => by injection z, fun z => by rw [z]⟩
end
end Ink
namespace Ink
open PySem PySem.Spec PyProof.Rows L2 Evl
def dLd {κ l : Type} (df : κ → PyData) (dl : l → PyData) (x : l × κ) : PyData := .tuple [dl x.1, df x.2]
theorem fz_dLd {κ l : Type} {df : κ → PyData} {dl : l → PyData} (h1 : ∀ x, fz (df x) = true) (h2 : ∀ x, fz (dl x) = true) (x : l × κ) : fz (dLd df dl x) = true := by
  have a := h1 x.2
  have b := h2 x.1
  unfold dLd
  simp only [fz, fzAll, a, b, Bool.and_self]
/-! ### each two steps that are alike to the eye -/
abbrev Tri := Str × Str × Str
def dTri (x : Tri) : PyData := .tuple [.str x.1, .str x.2.1, .str x.2.2]
def dLead (x : Tri × (Std × Std)) : PyData := .tuple [dTri x.1, dPr x.2]
def leadsM (m : List Wr) (ks : List Knd) (p : Std × Std) : List (Tri × (Std × Std)) :=
  (stepsOf m p.1).flatMap fun x => ((stepsOf m p.2).filter fun y => decide (V.str y.1 = V.str x.1) && alikeM ks x.1 x.2.1 y.2.1).map fun y => ((x.1, x.2.1, y.2.1), (x.2.2, y.2.2))
def signsM (m : List Wr) (s : Std) : List (Str × Std) := (stepsOf m s).map fun x => (x.1, x.2.2)
theorem fz_dTri (x : Tri) : fz (dTri x) = true := by
  unfold dTri
  simp only [fz, fzAll, Bool.and_self]
theorem fz_dLead (x : Tri × (Std × Std)) : fz (dLead x) = true := by
  have h1 := fz_dTri x.1
  have h2 := fz_dPr x.2
  unfold dLead
  simp only [fz, fzAll, h1, h2, Bool.and_self]
theorem leadsM_len {m : List Wr} (g : GoodM m) (ks : List Knd) (p : Std × Std) : ((stepsOf m p.1).flatMap fun _ => stepsOf m p.2).length ≤ 729 := by
  have h1 := steps_len g p.1
  have h2 := steps_len g p.2
  rw [List.length_flatMap]
  generalize stepsOf m p.1 = l at h1
  have : (l.map fun _ => (stepsOf m p.2).length).sum ≤ l.length * 27 := by
    clear h1
    induction l with
    | nil => exact Nat.zero_le _
    | cons a l ih =>
      rw [List.map_cons, List.sum_cons, List.length_cons, Nat.add_mul]
      omega
  omega
/-- all but the company's own dict and the tables of code stays -/
def KT (d0 : Addr) (H H' : Hp) : Prop := ∀ b o, H b = some o → b ≠ d0 → (∀ ps, o ≠ .tbl ps) → H' b = some o
theorem KT.trans {d0 : Addr} {H H1 H2 : Hp} (a : KT d0 H H1) (b : KT d0 H1 H2) : KT d0 H H2 := fun c o h n t => b c o (a c o h n t) n t
theorem KT.of {d0 : Addr} {H H' : Hp} (e : Ex H H') : KT d0 H H' := fun b o h _ _ => e b o h
theorem KT.kd {d0 : Addr} {H H' : Hp} (k : KD d0 H H') : KT d0 H H' := fun b o h n _ => k b o h n
def spLeads (P : Program) (w : World) (K : PySem.W.Frag) (C E : Addr) : Sp := fun vs H Q _ => ∃ (e de c d0 : Addr) (who : Option Str) (ks : List Knd) (m : List Wr) (n : Nat) (u : V) (p : Std × Std), vs = [.ref e, .ref c, u] ∧ EyeAt P w K E H e who ks de ∧ de ≠ d0 ∧ CoAtD P w K C H c m n d0 ∧ n ≤ 20000 ∧ GoodM m ∧ Fits m p.1 ∧ Tiny p.1 ∧ Fits m p.2 ∧ Tiny p.2 ∧ Dp K H u (dPr p) ∧
  ∀ q us H', H q = none → KD d0 H H' → CoAtD P w K C H' c m 20000 d0 → H' q = some (.lst us) → DpAll K H' us ((leadsM m ks p).map dLead) → Q (.ref q) H'
def spSignsOn (P : Program) (w : World) (K : PySem.W.Frag) (C : Addr) : Sp := fun vs H Q _ => ∃ (c d0 : Addr) (m : List Wr) (n : Nat) (u : V) (s : Std), vs = [.ref c, u] ∧ CoAtD P w K C H c m n d0 ∧ n ≤ 20000 ∧ GoodM m ∧ Fits m s ∧ Tiny s ∧ Dp K H u (dS s) ∧
  ∀ q us H', H q = none → KD d0 H H' → CoAtD P w K C H' c m 20000 d0 → H' q = some (.lst us) → DpAll K H' us ((signsM m s).map (dLd dS PyData.str)) → Q (.ref q) H'
section
variable {K : PySem.W.Frag} {σ : L2.St} {H : Hp} {D : Ends}
theorem ret_lc2 {te1 te : TE} {g g1 : TG} {tt tt1 : TT} {wi1 : TI} {vs vs1 : List Nat} (h : te1 σ H fun v H1 => tRet (tLc2 (iList K (tC v)) g tt wi1 g1 tt1 te vs vs1) D σ H1) : tRet (tLc2 (iList K te1) g tt wi1 g1 tt1 te vs vs1) D σ H := h
theorem ret_lc {te1 te : TE} {g : TG} {tt : TT} {vs : List Nat} (h : te1 σ H fun v H1 => tRet (tLc (iList K (tC v)) g tt te vs) D σ H1) : tRet (tLc (iList K te1) g tt te vs) D σ H := h
theorem q_asgE {te : TE} {g : TG} {ts : TS} (h : te σ H fun v H1 => g v σ H1 fun σ2 H2 => ts D σ2 H2) : tSeq (tAsg te g) ts D σ H := h
end
section
variable {P : Program} {w : World} {K : PySem.W.Frag} {mg : Str → Option Value} {base : Heap}
theorem KD.trans {d : Addr} {H H1 H2 : Hp} (a : KD d H H1) (b : KD d H1 H2) : KD d H H2 := fun c o h n => b c o (a c o h n) n
theorem KD.of {d : Addr} {H H' : Hp} (e : Ex H H') : KD d H H' := fun b o h _ => e b o h
/-- company.steps(x), asked of a company that has been asked before -/
theorem use_steps {C c d0 : Addr} {m : List Wr} {n : Nat} {s : Std} {u : V} {to tx : TE} {σ : L2.St} {H : Hp} {Q : VK} (ho : Ev to σ H (.ref c)) (hx : Ev tx σ H u) (hc : CoAtD P w K C H c m n d0) (hn : n ≤ 20000) (g : GoodM m) (f : Fits m s) (t : Tiny s) (hu : Dp K H u (dS s))
    (q : ∀ p us H', H p = none → KD d0 H H' → CoAtD P w K C H' c m 20000 d0 → H' p = some (.lst us) → DpAll K H' us ((stepsOf m s).map dStep) → Q (.ref p) H') : tMeth C "steps" (spStepsD P w K C) [] E0 to (tCons tx tNil) σ H Q := by
  refine ho H (.refl H) _ fun H1 e1 => ?_
  have hc1 := hc.same e1
  obtain ⟨dx, tw, kvs, hI, _⟩ := id hc1
  obtain ⟨xs1, hd1⟩ := hc1.ext
  refine ⟨c, dx, _, rfl, hI, coF_no _ _ nsteps1 nsteps2, ?_⟩
  refine hx H1 e1 _ fun H2 e2 => ?_
  have e12 := e1.trans e2
  have hc2 := hc.same e12
  refine ⟨c, m, n, u, s, d0, rfl, hc2, by omega, g, f, t, dp_same e12 hu, fun p us H' np kd hc' hp hus => q p us H' (Same.free e12 np) ((KD.of e12).trans kd) hc'.cap hp hus⟩
end
end Ink
namespace Ink
open PySem PySem.Spec PyProof.Rows L2 Evl
theorem use_c {te : TE} {tr : TA} {σ : L2.St} {H : Hp} {Q : List V → Hp → Prop} (h : te σ H fun v H1 => tr σ H1 fun vs H2 => Q (v :: vs) H2) : tCons te tr σ H Q := h
theorem q_par {te : TE} {tr : TA} {tz : TS} {i j : Nat} {D : Ends} {σ : L2.St} {H : Hp} (h : te σ H fun v H1 => tr σ H1 fun vs H2 => ∃ a b, v :: vs = [a, b] ∧ tz D ((σ.set i (some a)).set j (some b)) H2) : tSeq (tPar i j (tCons te tr)) tz D σ H := h
theorem s_or0 {t u : TT} {tu tw : TS} {D : Ends} {σ : L2.St} {H : Hp} (h : EvT t σ H false) (k : ∀ H1, Ex H H1 → u σ H1 fun c H2 => if c = true then tu D σ H2 else tw D σ H2) : tIfS (tOr t u) tu tw D σ H := h H (.refl H) _ k
theorem use_or0 {t u : TT} {σ : L2.St} {H : Hp} {Q : Bool → Hp → Prop} (h : EvT t σ H false) (k : ∀ H1, Ex H H1 → u σ H1 Q) : tOr t u σ H Q := h H (.refl H) _ k
theorem et_or2 {σ : L2.St} {H : Hp} {t u : TT} {b c : Bool} (h1 : EvT t σ H b) (h2 : b = false → EvT u σ H c) : EvT (tOr t u) σ H (b || c) := fun H1 e Q q => h1 H1 e _ fun H2 e2 => by
  cases b with
  | true => exact q H2 e2
  | false => exact h2 rfl H2 (e.trans e2) Q fun H3 e3 => q H3 (e2.trans e3)
end Ink
namespace Ink
open PySem PySem.Spec PyProof.Rows L2 Evl
/-! ### the law's own look at twins -/
def dTw (x : Tri × (Std × Std)) : PyData := .tuple [.str x.1.2.1, .str x.1.2.2, dPr x.2, .str x.1.1]
theorem fz_dTw (x : Tri × (Std × Std)) : fz (dTw x) = true := by
  have h := fz_dPr x.2
  unfold dTw
  simp only [fz, fzAll, h, Bool.and_self, Bool.true_and]
def RAlike : List PyData → PyData → Prop := fun ds d => ∃ (ks : List Knd) (sg a b : Str), (∀ p ∈ ks, PyData.strOk p.1 = true ∧ PyData.strOk p.2 = true) ∧ PyData.strOk sg = true ∧ PyData.strOk a = true ∧ PyData.strOk b = true ∧ ds = [.str a, .str b, .str sg, .list (ks.map dKd)] ∧ d = .bool (alikeM ks sg a b)
def GoodKs (ks : List Knd) : Prop := ∀ p ∈ ks, PyData.strOk p.1 = true ∧ PyData.strOk p.2 = true
def RTwin : List PyData → List PyData → Prop := fun ds es => ∃ (m : List Wr) (ks : List Knd) (p : Std × Std), GoodM m ∧ Okay m p.1 ∧ Okay m p.2 ∧ GoodKs ks ∧ ds = [dMl m, dPr p, .list (ks.map dKd)] ∧ es = (leadsM m ks p).map dTw
theorem dKd_shaped {p : Knd} (h : PyData.strOk p.1 = true ∧ PyData.strOk p.2 = true) : SeqAt.shaped (dKd p) = true := by
  unfold SeqAt.shaped dKd
  simp only [PyData.canLay0, PyData.canLayAll0, PyData.depth, PyData.depthAll, h.1, h.2, Bool.and_self, Bool.true_and]
  rfl
theorem ks_shaped {ks : List Knd} (h : GoodKs ks) : SeqAt.shaped (.list (ks.map dKd)) = true := by
  have h1 : PyData.canLayAll0 (ks.map dKd) = true := lay_map fun p hp => by
    have := h p hp
    unfold dKd
    simp only [PyData.canLay0, PyData.canLayAll0, this.1, this.2, Bool.and_self]
  have h2 := depth_map (f := dKd) (n := 3) (l := ks) fun p _ => by
    unfold dKd
    simp only [PyData.depth, PyData.depthAll]
    omega
  unfold SeqAt.shaped
  rw [Bool.and_eq_true, decide_eq_true_eq]
  refine ⟨by simp only [PyData.canLay0]; exact h1, ?_⟩
  simp only [PyData.depth]
  omega
theorem eqv_dKd (a b : Knd) : PyData.eqv (dKd a) (dKd b) = decide (a = b) := by
  obtain ⟨x, y⟩ := a
  obtain ⟨z, w⟩ := b
  unfold dKd
  simp only [PyData.eqv, PyData.eqvAll, Bool.and_true]
  rw [Bool.eq_iff_iff, Bool.and_eq_true, beq_iff_eq, beq_iff_eq, decide_eq_true_eq, Prod.mk.injEq]
theorem any_dKd (l : List Knd) (p : Knd) : ((l.map dKd).any fun z => PyData.eqv z (dKd p)) = decide (p ∈ l) := by
  rw [Bool.eq_iff_iff, List.any_eq_true, decide_eq_true_eq]
  constructor
  · rintro ⟨z, hz, e⟩
    obtain ⟨q, hq, rfl⟩ := List.mem_map.mp hz
    rw [eqv_dKd, decide_eq_true_eq] at e
    exact e ▸ hq
  · intro h
    exact ⟨dKd p, List.mem_map.mpr ⟨p, h, rfl⟩, by rw [eqv_dKd, decide_eq_true rfl]⟩
/-- the signs and names of a company's steps are texts that can be written -/
theorem step_str {m : List Wr} (g : GoodM m) {s : Std} {x : Str × Str × Std} (h : x ∈ stepsOf m s) : PyData.strOk x.1 = true ∧ PyData.strOk x.2.1 = true := by
  obtain ⟨k, to, hk, _, e, y, hy, e2⟩ := steps_in h
  obtain ⟨_, _, ⟨c, hc, ec⟩, _⟩ := (g.at hk).each y hy
  refine ⟨by rw [e2, ec]; exact lets_ok c hc, ?_⟩
  have e1 := congrArg (fun z => z.2.1) e
  rw [show x.2.1 = (wr m k).1 from e1]
  exact str_ok ((g.at hk).name.2.2)
def spKinds (K : PySem.W.Frag) : Sp := fun vs H Q _ => ∃ (a l mp sp : Addr) (m : List Wr) (cs : List Nat), vs = [.ref a, .ref mp, .ref sp] ∧ BagAt H a l ∧ MAt K H a mp m ∧ GoodM m ∧ H sp = some (.lst ((cs.map single).map V.str)) ∧ sp ≠ a ∧ (∀ c ∈ cs, c ∈ lets) ∧ cs.length ≤ 20 ∧
  ∀ p us (ks : List Knd) H', H p = none → H' p = some (.lst us) → DpAll K H' us (ks.map dKd) → GoodKs ks → ks.length ≤ 100 → BagAt H' a l → Keep a H H' → Q (.ref p) H'
section
variable {P : Program} {w : World} {K : PySem.W.Frag} {mg : Str → Option Value} {base : Heap}
theorem ev_notInD {σ : L2.St} {H : Hp} {ta tb : TE} {d : PyData} {ds : List PyData} {b : Bool} (ha : EvD K ta σ H d) (hb : EvD K tb σ H (.list ds)) (h1 : SeqAt.shaped d = true) (h2 : SeqAt.shaped (.list ds) = true) (e : (ds.any fun z => PyData.eqv z d) = b) : Ev (tOp (rNotInD K) ta tb) σ H (.bl (!b)) := fun H1 x Q q =>
  ha H1 x _ fun v H2 x2 hv => hb H2 (x.trans x2) _ fun w H3 x3 hw => ⟨d, ds, dp_same x3 hv, hw, h1, h2, by rw [e]; exact q H3 (x2.trans x3)⟩
theorem ok_lalike {f : Addr} {fd : FuncData} {k : Nat} (F : Fun K "_law_alike" "_law_alike" sLAlike f fd) (T : Txt mg) : FnOk P w K mg base CX0 (k + 1) f fd ["_law_one", "_law_other", "_law_sign", "_law_marked"] (spP K RAlike) := by
  refine F.ok sc__law_alike (fun vs H Q E h => ?_) (fun cdv A outer s H vs Q E hr h => ?_)
  · obtain ⟨ds, d, hd, ⟨ks, sg, a, b, _, _, _, _, rfl, _⟩, _⟩ := h
    exact hd.length
  · obtain ⟨ds, d, hd, ⟨ks, sg, a, b, gk, g1, g2, g3, rfl, rfl⟩, q⟩ := h
    obtain ⟨v0, v1, v2, v3, rfl, h0, h1, h2, h3⟩ := dps4 hd
    obtain rfl := dp_str h0
    obtain rfl := dp_str h1
    obtain rfl := dp_str h2
    refine ⟨_, (pss_one (ps_ret (pe_or (pe_cmpR op_eq (pv 0) (pv 1) (nomark _)) (pe_one (pe_and (pe_cmpR (show OpR _ _ (rNotInD K) from op_notInD (hu65 hr)) (pe_tup (pa_cons (pv 0) (pa_cons (pv 2) pa_nil))) (pv 3) (by rfl)) (pe_one (pe_cmpR (show OpR _ _ (rNotInD K) from op_notInD (hu65 hr)) (pe_tup (pa_cons (pv 1) (pa_cons (pv 2) pa_nil))) (pv 3) (by rfl)))))))), ?_⟩
    refine (ev_is (ev_orV (ev_op (ev_var rfl) (ev_var rfl) (rv_eq rfl)) fun _ => ev_andV (ev_notInD (K := K) (d := dKd (a, sg)) (ed_tup (eds_cons (ed_str (ev_var rfl)) (eds_cons (ed_str (ev_var rfl)) eds_nil)) (by show 2 ≤ 100000; decide)) (ed_var rfl h3) (dKd_shaped ⟨g2, g1⟩) (ks_shaped gk) (any_dKd _ _)) fun _ => ev_notInD (K := K) (d := dKd (b, sg)) (ed_tup (eds_cons (ed_str (ev_var rfl)) (eds_cons (ed_str (ev_var rfl)) eds_nil)) (by show 2 ≤ 100000; decide)) (ed_var rfl h3) (dKd_shaped ⟨g3, g1⟩) (ks_shaped gk) (any_dKd _ _)) ?_) H (.refl H) _ fun H1 e1 => q _ H1 e1 (.bl _)
    unfold alikeM
    refine congrArg V.bl (congrArg (· || _) ?_)
    exact decide_eq_decide.mpr ⟨fun z => by injection z, fun z => by rw [z]⟩
theorem ok_ltwin {f : Addr} {fd : FuncData} {k : Nat} (F : Fun K "_law_twin_steps" "_law_twin_steps" sLTwinSteps f fd) (T : Txt mg) (C__law_steps : Cal P w K mg base k "_law_steps" ["_law_m", "_law_stand"] (spN K RLN)) (C__law_alike : Cal P w K mg base k "_law_alike" ["_law_one", "_law_other", "_law_sign", "_law_marked"] (spP K RAlike)) :
    FnOk P w K mg base CX0 (k + 1) f fd ["_law_m", "_law_pair", "_law_marked"] (spN K RTwin) := by
  refine F.ok sc__law_twin_steps (fun vs H Q E h => ?_) (fun cdv A outer s H vs Q E hr h => ?_)
  · obtain ⟨ds, es, hd, ⟨m, ks, p, _, _, _, _, rfl, _⟩, _⟩ := h
    exact hd.length
  · obtain ⟨ds, es, hd, ⟨m, ks, p, g, o1, o2, gk, rfl, rfl⟩, q⟩ := h
    obtain ⟨v0, v1, v2, rfl, h0, h1, h2⟩ := dps3 hd
    have h1 : Dp K H v1 (.tuple [dS p.1, dS p.2]) := h1
    refine ⟨_, (pss_cons (ps_par (i := 3) (j := 4) (by rfl) sc__law_twin_steps.nd rfl rfl (by decide) rfl rfl (pa_cons (pe_lst pa_nil) (pa_cons (pe_callC C__law_steps hr (by rfl) (pa_cons (pv 0) (pa_cons (pe_ix ix_tup (pv 1) pe_int (fun _ _ => rfl)) pa_nil))) pa_nil)) (by rfl))
    (pss_cons (ps_for PassesOwn.never rfl (pi_list (pe_callC C__law_steps hr (by rfl) (pa_cons (pv 0) (pa_cons (pe_ix ix_tup (pv 1) pe_int (fun _ _ => rfl)) pa_nil)))) (pg_tup rfl (pgs_cons (pg_name (i := 5) sc__law_twin_steps.nd rfl (.inl rfl)) (pgs_cons (pg_name (i := 6) sc__law_twin_steps.nd rfl (.inl rfl)) (pgs_cons (pg_name (i := 7) sc__law_twin_steps.nd rfl (.inl rfl)) pgs_nil))))
    (pss_one (ps_for PassesOwn.never rfl (pi_list (pv 4)) (pg_tup rfl (pgs_cons (pg_name (i := 8) sc__law_twin_steps.nd rfl (.inl rfl)) (pgs_cons (pg_name (i := 9) sc__law_twin_steps.nd rfl (.inl rfl)) (pgs_cons (pg_name (i := 10) sc__law_twin_steps.nd rfl (.inl rfl)) pgs_nil))))
    (pss_one (ps_if (PW.pt (pw_and (pt_cmpR op_eq (pv 8) (pv 5) (nomark _)) (pw_and1 (pt_val (pe_callC C__law_alike hr (by rfl) (pa_cons (pv 6) (pa_cons (pv 9) (pa_cons (pv 5) (pa_cons (pv 2) pa_nil)))))))))
    (pss_one (ps_expr (pe_bm PySem.F.plainAttrs_list PySem.F.slot_list_append PySem.F.type_list_append mt_append (pv 3) (pa_cons (pe_tup (pa_cons (pv 6) (pa_cons (pv 9) (pa_cons (pe_tup (pa_cons (pv 7) (pa_cons (pv 10) pa_nil))) (pa_cons (pv 5) pa_nil))))) pa_nil)))) pss_nil)))))
    (pss_one (ps_ret (pv 3))))), ?_⟩
    refine q_par ⟨by show 0 ≤ sizeLine; decide, fun fp nfp => ?_⟩
    have ef := Ex.new (o := .lst ([] : List V)) nfp
    have hfp := upd_same (H := H) (a := fp) (o := .lst ([] : List V))
    refine use_c (use_n (K := K) (ds := (stepsOf m p.2).map dStep) (en_call (R := RLN) (eds_cons (ed_var rfl (dp_same ef h0)) (eds_cons (ed_ixT (ed_var rfl (dp_same ef h1)) ev_c (by decide) rfl) eds_nil)) ⟨m, p.2, g, o2, rfl, rfl⟩) fun sp us H2 nsp e2 hsp hus => ⟨_, _, rfl, ?_⟩)
    try dsimp only
    have e12 := ef.trans e2
    refine use_n (K := K) (ds := (stepsOf m p.1).map dStep) (en_call (R := RLN) (eds_cons (ed_var rfl (dp_same e12 h0)) (eds_cons (ed_ixT (ed_var rfl (dp_same e12 h1)) ev_c (by decide) rfl) eds_nil)) ⟨m, p.1, g, o1, rfl, rfl⟩) fun qp us1 H3 nqp e3 hqp hus1 => ?_
    have hfp3 := e3 _ _ (e2 _ _ hfp)
    have hsp3 := e3 _ _ hsp
    have hus3 := dps_same e3 hus
    have spf : sp ≠ fp := fun z => by
      rw [z, hfp] at nsp
      cases nsp
    have qpf : qp ≠ fp := fun z => by
      rw [z, e2 _ _ hfp] at nqp
      cases nqp
    have e03 := e12.trans e3
    let F1 : (Str × Str × Std) → List (Tri × (Std × Std)) := fun x => ((stepsOf m p.2).filter fun y => decide (V.str y.1 = V.str x.1) && alikeM ks x.1 x.2.1 y.2.1).map fun y => ((x.1, x.2.1, y.2.1), (x.2.2, y.2.2))
    have lenF : ∀ x, (F1 x).length ≤ 27 := fun x => by
      show (((stepsOf m p.2).filter _).map _).length ≤ 27
      rw [List.length_map]
      have h1 := List.length_filter_le (fun y : Str × Str × Std => decide (V.str y.1 = V.str x.1) && alikeM ks x.1 x.2.1 y.2.1) (stepsOf m p.2)
      have h2 := steps_len g p.2
      omega
    have lenT : ∀ l : List (Str × Str × Std), l.length ≤ 27 → (l.flatMap F1).length ≤ l.length * 27 := fun l _ => by
      induction l with
      | nil => exact Nat.zero_le _
      | cons x l ih =>
        have h1 := lenF x
        have h2 := ih (by rename_i h; rw [List.length_cons] at h; omega)
        rw [List.flatMap_cons, List.length_append, List.length_cons, Nat.add_mul]
        omega
    have kp : ∀ {H' : Hp}, Keep fp H3 H' → Ex H H' := fun {H'} k b o hb => k b o (ne_of_none hb nfp) (e03 b o hb)
    have tkp : ∀ {H' : Hp}, Keep fp H3 H' → TupK K H3 H' := fun {H'} k b xs hb => by
      rcases hb with (hb | ⟨o, hb⟩) | hb
      · exact .inl (.inl (k _ _ (ne_of hb hfp3 (by intro z; cases z)) hb))
      · exact .inl (.inr ⟨o, k _ _ (ne_of hb hfp3 (by intro z; cases z)) hb⟩)
      · exact .inr hb
    refine ⟨qp, rfl, ⟨us1, .of hqp⟩, for_it (walk_list (K := K) (xs := us1)) (fun i σ' H' => (∃ y5 y6 y7 y8 y9 y10, σ' = [some v0, some v1, some v2, some (.ref fp), some (.ref sp), y5, y6, y7, y8, y9, y10]) ∧ Keep fp H3 H' ∧ ∃ acc, H' fp = some (.lst acc) ∧ DpAll K H' acc ((((stepsOf m p.1).take i).flatMap F1).map dTw)) ⟨⟨none, none, none, none, none, none, rfl⟩, Keep.refl _, [], hfp3, .nil⟩ (fun _ _ _ _ hP => .of (hP.2.1 _ _ qpf hqp)) (fun i y σ' Ha Hb hi hP hy => ?_) (fun σ' H' hP => ?_)⟩
    · obtain ⟨⟨y5, y6, y7, y8, y9, y10, rfl⟩, k1, acc, hacc, hdacc⟩ := hP
      obtain ⟨rfl, hx⟩ := hy
      obtain ⟨dt, hdt, hxd⟩ := (dps_tk (tkp k1) (fz_map fun x _ => fz_dStep x) hus1).at hx
      rw [List.getElem?_map, Option.map_eq_some_iff] at hdt
      obtain ⟨x, hx0, rfl⟩ := hdt
      obtain ⟨sx1, sx2⟩ := step_str g (List.mem_of_getElem? hx0)
      have hil := (List.getElem?_eq_some_iff.mp hx0).1
      have sl1 := steps_len g p.1
      refine tg3 (d1 := .str x.1) (d2 := .str x.2.1) (d3 := dS x.2.2) hxd fun u1 u2 u3 b1 b2 b3 => ?_
      obtain rfl := dp_str b1
      obtain rfl := dp_str b2
      try dsimp only
      have hsp4 := k1 _ _ spf hsp3
      have hus4 := dps_tk (tkp k1) (fz_map fun x _ => fz_dStep x) hus3
      refine ⟨.ref sp, rfl, sp, rfl, ⟨us, .of hsp4⟩, for_it (walk_list (K := K) (xs := us)) (fun j σ' H' => (∃ y8 y9 y10, σ' = [some v0, some v1, some v2, some (.ref fp), some (.ref sp), some (.str x.1), some (.str x.2.1), some u3, y8, y9, y10]) ∧ Keep fp H3 H' ∧ Dp K H' u3 (dS x.2.2) ∧ ∃ acc, H' fp = some (.lst acc) ∧ DpAll K H' acc ((((stepsOf m p.1).take i).flatMap F1).map dTw ++ ((((stepsOf m p.2).take j).filter fun y => decide (V.str y.1 = V.str x.1) && alikeM ks x.1 x.2.1 y.2.1).map fun y => dTw ((x.1, x.2.1, y.2.1), (x.2.2, y.2.2)))) ∧ acc.length ≤ i * 27 + j) ⟨⟨_, _, _, rfl⟩, k1, b3, acc, hacc, by rw [List.take_zero, List.filter_nil, List.map_nil, List.append_nil]; exact hdacc, ?_⟩ (fun _ _ _ _ hP => .of (hP.2.1 _ _ spf hsp3)) (fun j y σ' Hc Hd hj hP hy => ?_) (fun σ' H' hP => ?_)⟩
      · have h1 := hdacc.length
        have h2 := lenT ((stepsOf m p.1).take i) (by rw [List.length_take]; omega)
        rw [List.length_map] at h1
        rw [List.length_take] at h2
        have : min i (stepsOf m p.1).length = i := by omega
        rw [this] at h2
        omega
      · obtain ⟨⟨y8, y9, y10, rfl⟩, k2, hu3, acc2, hacc2, hd2, hlen2⟩ := hP
        obtain ⟨rfl, hy2⟩ := hy
        obtain ⟨dt2, hdt2, hyd⟩ := (dps_tk (tkp k2) (fz_map fun x _ => fz_dStep x) hus3).at hy2
        rw [List.getElem?_map, Option.map_eq_some_iff] at hdt2
        obtain ⟨y0, hy0, rfl⟩ := hdt2
        obtain ⟨sy1, sy2⟩ := step_str g (List.mem_of_getElem? hy0)
        have hjl := (List.getElem?_eq_some_iff.mp hy0).1
        have sl2 := steps_len g p.2
        refine tg3 (d1 := .str y0.1) (d2 := .str y0.2.1) (d3 := dS y0.2.2) hyd fun w1 w2 w3 c1 c2 c3 => ?_
        obtain rfl := dp_str c1
        obtain rfl := dp_str c2
        try dsimp only
        have hn := filter_snoc (fun y : Str × Str × Std => decide (V.str y.1 = V.str x.1) && alikeM ks x.1 x.2.1 y.2.1) hy0
        refine s_if (b := decide (V.str y0.1 = V.str x.1) && alikeM ks x.1 x.2.1 y0.2.1) (et_and (et_test (ev_op (ev_var (i := 8) rfl) (ev_var (i := 5) rfl) (rv_eq rfl))) fun _ => et_B (ev_bl (ed_call (R := RAlike) (eds_cons (ed_str (ev_var (i := 6) rfl)) (eds_cons (ed_str (ev_var (i := 9) rfl)) (eds_cons (ed_str (ev_var (i := 5) rfl)) (eds_cons (ed_var (i := 2) rfl (dp_same (kp k2) h2)) eds_nil)))) ⟨ks, x.1, x.2.1, y0.2.1, gk, sx1, sx2, sy2, rfl, rfl⟩))) (fun hb H5 e5 => ?_) fun hb H5 e5 => ?_
        · rw [hb] at hn
          refine sd_app (K := K) (d := dTw ((x.1, x.2.1, y0.2.1), (x.2.2, y0.2.2))) rfl (e5 _ _ hacc2) (ed_tup (eds_cons (ed_str (ev_var (i := 6) rfl)) (eds_cons (ed_str (ev_var (i := 9) rfl)) (eds_cons (ed_tup (eds_cons (ed_var (i := 7) rfl (dp_same e5 hu3)) (eds_cons (ed_var (i := 10) rfl (dp_same e5 c3)) eds_nil)) (by show 2 ≤ 100000; decide)) (eds_cons (ed_str (ev_var (i := 5) rfl)) eds_nil)))) (by show 4 ≤ 100000; decide)) (by omega) fun v6 H6 e6 hv6 => ?_
          have hacc6 := e6 _ _ (e5 _ _ hacc2)
          have t6 : TupK K H6 (upd H6 fp (.lst (acc2 ++ [v6]))) := .lst hacc6
          have k6 : Keep fp H3 (upd H6 fp (.lst (acc2 ++ [v6]))) := (k2.trans (.of_same (e5.trans e6))).trans .at
          refine ⟨⟨_, _, _, rfl⟩, k6, dp_tk t6 (fz_dS _) (dp_same (e5.trans e6) hu3), acc2 ++ [v6], upd_same, ?_, by rw [List.length_append, List.length_singleton]; omega⟩
          rw [hn]
          simp only [if_true]
          rw [List.map_append, ← List.append_assoc]
          refine DpAll.app (dps_tk t6 ?_ (dps_same (e5.trans e6) hd2)) (.one (dp_tk t6 (fz_dTw _) hv6))
          exact fzAll_iff.mpr fun d hd => by
            rcases List.mem_append.mp hd with hd | hd
            · obtain ⟨z, _, rfl⟩ := List.mem_map.mp hd
              exact fz_dTw z
            · obtain ⟨z, _, rfl⟩ := List.mem_map.mp hd
              exact fz_dTw _
        · rw [hb] at hn
          refine ⟨⟨_, _, _, rfl⟩, k2.trans (.of_same e5), dp_same e5 hu3, acc2, e5 _ _ hacc2, ?_, by omega⟩
          rw [hn]
          simp only [Bool.false_eq_true, if_false, List.append_nil]
          exact dps_same e5 hd2
      · obtain ⟨⟨y8, y9, y10, rfl⟩, k2, hu3, acc2, hacc2, hd2, hlen2⟩ := hP
        have hul := hus3.length
        rw [List.length_map] at hul
        rw [hul, List.take_length] at hd2
        refine ⟨⟨_, _, _, _, _, _, rfl⟩, k2, acc2, hacc2, ?_⟩
        rw [flat_snoc F1 hx0, List.map_append]
        show DpAll K H' acc2 (_ ++ (((stepsOf m p.2).filter _).map _).map dTw)
        rw [List.map_map]
        exact hd2
    · obtain ⟨⟨y5, y6, y7, y8, y9, y10, rfl⟩, k1, acc, hacc, hdacc⟩ := hP
      have hul := hus1.length
      rw [List.length_map] at hul
      rw [hul, List.take_length] at hdacc
      exact ⟨.ref fp, rfl, q fp acc H' nfp (kp k1) hacc hdacc⟩
theorem thick28 {v : V} (h : v ∈ [V.int 0, V.int 0, V.int 1, V.int 2]) : ∃ t : Int, v = .int t := by
  simp only [List.mem_cons, List.not_mem_nil, or_false] at h
  rcases h with rfl | rfl | rfl | rfl <;> exact ⟨_, rfl⟩
theorem ok_kinds {f : Addr} {fd : FuncData} {k : Nat} (F : Fun K "_law_kinds" "_law_kinds" sLKinds f fd) (T : Txt mg) (C__law_pull : Cal P w K mg base k "_law_pull" ["_law_bag_here", "_law_many"] spPull) (C__law_of : Cal P w K mg base k "_law_of" ["_law_bag_here", "_law_things"] (spOf K)) :
    FnOk P w K mg base CX0 (k + 1) f fd ["_law_bag_here", "_law_m", "_law_letters_here"] (spKinds K) := by
  refine F.ok sc__law_kinds (fun vs H Q E h => ?_) (fun cdv A outer s H vs Q E hr h => ?_)
  · obtain ⟨a, l, mp, sp, m, cs, rfl, _⟩ := h
    rfl
  · obtain ⟨a, l, mp, sp, m, cs, rfl, hB, hM, g, hsp, spa, hcs, lcs, q⟩ := h
    have l3 := g.len
    refine ⟨_, (pss_cons (ps_asg (pe_tup (pa_cons (pe_lst pa_nil) (pa_cons (pe_callC C__law_of hr (by rfl) (pa_cons (pv 0) (pa_cons (pe_lst (pa_cons pe_int (pa_cons pe_int (pa_cons pe_int (pa_cons pe_int pa_nil))))) pa_nil))) pa_nil))) (pg_tup rfl (pgs_cons (pg_name (i := 3) sc__law_kinds.nd rfl (.inl rfl)) (pgs_cons (pg_name (i := 4) sc__law_kinds.nd rfl (.inr rfl)) pgs_nil))))
    (pss_cons (ps_for PassesOwn.never rfl (pi_list (pv 1)) (pg_name (i := 5) sc__law_kinds.nd rfl (.inr rfl))
    (pss_one (ps_set (i := 3) sc__law_kinds.nd rfl (.inl rfl) (pe_op op_cat (pv 3) (pe_lc (own := [("_law_sign", 6)]) (g := (gName 6)) (by rfl) sc__law_kinds.nd (pi_list (pv 2)) (blkOk_by (own := [("_law_sign", 6)]) (N := ["_law_bag_here", "_law_m", "_law_letters_here", "_law_kinds_here", "_law_thick", "_law_writer_here", "_law_sign"]) (sc := defScope sLKinds) (by decide +kernel)) (fun _ _ _ _ _ => (pg_name (i := 6) sc__law_kinds.nd rfl (Or.inl rfl))) (fun _ _ _ _ _ => pts_one (pt_cmpR op_lt (pe_callC C__law_pull hr (by rfl) (pa_cons (pv 0) (pa_cons pe_int pa_nil))) (pv 4) (nomark _))) (fun _ _ _ _ _ => (pe_tup (pa_cons (pe_ix (show IxR _ (rIxT K) from ix_tup) (pv 5) pe_int (fun _ _ => rfl)) (pa_cons (pv 6) pa_nil)))))))))
    (pss_one (ps_ret (pv 3))))), ?_⟩
    refine ⟨by show 0 ≤ sizeLine; decide, fun kp nkp => ⟨.ref a, rfl, by show 4 ≤ sizeLine; decide, fun p2 np2 => ?_⟩⟩
    have ek := Ex.new (o := .lst ([] : List V)) nkp
    have hkp := upd_same (H := H) (a := kp) (o := .lst ([] : List V))
    have hB1 := hB.same ek
    refine ⟨a, l, _, _, rfl, hB1.upd (hB1.ne np2), .inl ⟨p2, rfl, (hB1.ne np2).1.symm, .inl (.of upd_same)⟩, by decide, by decide, fun v H1 hv hB2 k2 => ⟨by show 2 ≤ sizeLine; decide, fun tp ntp => ⟨tp, _, rfl, .of upd_same, rfl, _, _, rfl, _, _, rfl, rfl, ?_⟩⟩⟩
    obtain ⟨t, rfl⟩ := thick28 hv
    have kpa : kp ≠ a := (hB.ne nkp).1.symm
    have k02 : Keep a H H1 := ((Keep.of_same ek).trans (.of_same (Ex.new np2))).trans k2
    have hkp1 := k2 _ _ kpa (Ex.new (o := .lst [V.int 0, V.int 0, V.int 1, V.int 2]) np2 _ _ hkp)
    have e3 := Ex.new (o := .tup [V.ref kp, V.int t]) ntp
    have k03 := k02.trans (.of_same e3)
    have hB3 := hB2.same e3
    have hkp3 := e3 _ _ hkp1
    generalize upd H1 tp (.tup [V.ref kp, V.int t]) = H3 at *
    try dsimp only
    obtain ⟨ws, hmp, hws, mpa⟩ := hM.keep hB k03
    have hsp3 := k03 _ _ spa hsp
    refine ⟨.ref mp, rfl, mp, rfl, ⟨ws, .of hmp⟩, for_it (walk_list (K := K) (xs := ws)) (fun i σ' H' => ∃ (kq : Addr) (us : List V) (ks : List Knd) (y5 y6 : Option V), σ' = [some (.ref a), some (.ref mp), some (.ref sp), some (.ref kq), some (.int t), y5, y6] ∧ BagAt H' a l ∧ Keep a H3 H' ∧ H kq = none ∧ kq ≠ a ∧ H' kq = some (.lst us) ∧ DpAll K H' us (ks.map dKd) ∧ GoodKs ks ∧ ks.length ≤ i * 20) ⟨kp, [], [], none, none, rfl, hB3, Keep.refl _, nkp, kpa, hkp3, .nil, (fun _ h => nomatch h), Nat.zero_le _⟩ (fun _ _ _ _ ⟨_, _, _, _, _, _, _, hk, _⟩ => .of (hk _ _ mpa hmp)) (fun i x σ' Ha Hb hi hP hy => ?_) (fun σ' H' hP => ?_)⟩
    · obtain ⟨kq, us, ks, y5, y6, rfl, hB4, k4, nkq, kqa, hkq, hus, gks, lks⟩ := hP
      obtain ⟨rfl, hx⟩ := hy
      obtain ⟨dt, hdt, hxd⟩ := (dps_keep hB3 k4 (fz_map fun w _ => fz_dW w) hws).at hx
      rw [List.getElem?_map, Option.map_eq_some_iff] at hdt
      obtain ⟨wr0, hw0, rfl⟩ := hdt
      have gw := g.wr wr0 (List.mem_of_getElem? hw0)
      have hil := (List.getElem?_eq_some_iff.mp hw0).1
      have hwl := hws.length
      rw [List.length_map] at hwl
      refine g_go ?_
      try dsimp only
      have hsp4 := k4 _ _ spa hsp3
      have hxd : Dp K Hb x (.tuple [.str wr0.1, .tuple (wr0.2.1.map dA), .int wr0.2.2.1, .int wr0.2.2.2]) := hxd
      refine ⟨.ref kq, rfl, .ref sp, rfl, sp, rfl, ⟨_, .of hsp4⟩, fun D nD => ?_⟩
      refine lc_it (walk_list (K := K) (xs := (cs.map single).map V.str)) (fun o H' => BagAt H' a l ∧ Keep a Hb H' ∧ ∃ (acc : List V) (ls : List Knd), H' D = some (.lst acc) ∧ DpAll K H' acc (ls.map dKd) ∧ GoodKs ls ∧ ls.length ≤ o) ⟨hB4.upd (hB4.ne nD), Keep.mut (Keep.refl _) nD, [], [], upd_same, .nil, (fun _ h => nomatch h), Nat.le_refl _⟩ (fun _ _ _ hP => .of (hP.2.1 _ _ spa hsp4)) (fun o z Hc Hd ho hP hy => ?_) (fun H5 hP => ?_)
      · obtain ⟨hB5, k5, acc, ls, hD, hacc, gls, lls⟩ := hP
        obtain ⟨rfl, hz⟩ := hy
        rw [List.getElem?_map, List.getElem?_map, Option.map_eq_some_iff] at hz
        obtain ⟨zc, hzc, rfl⟩ := hz
        rw [Option.map_eq_some_iff] at hzc
        obtain ⟨c, hc, rfl⟩ := hzc
        rw [List.length_map, List.length_map] at ho
        refine g_go ⟨rfl, ?_⟩
        refine ⟨.ref a, rfl, a, l, 3, rfl, hB5, by decide, by decide, fun pv H6 p0 p1 hB6 k6 => ⟨.int t, rfl, pv, t, rfl, rfl, _, rfl, ?_⟩⟩
        have Da : D ≠ a := (hB4.ne nD).1.symm
        have hD6 := k6 _ _ Da hD
        have fzl : fzAll (ls.map dKd) = true := fz_map fun p _ => fz_dKd p
        have hacc6 := dps_keep hB5 k6 fzl hacc
        cases hlt : decide (pv < t) with
        | true =>
          refine iteT ?_
          have hx6 := dp_keep hB4 (k5.trans k6) (fz_dW wr0) hxd
          refine (ed_tup (K := K) (ds := [.str wr0.1, .str (single c)]) (eds_cons (ed_ixT (ed_var (i := 5) rfl hx6) ev_c (by decide) rfl) (eds_cons (ed_str (ev_var (i := 6) rfl)) eds_nil)) (by show 2 ≤ 100000; decide)) H6 (.refl H6) _ fun y H7 e7 hy => ⟨acc, e7 _ _ hD6, sz_lt (by have := hacc.length; rw [List.length_map] at this; omega), (hB6.same e7).upd (hB4.ne nD), Keep.mut ((k5.trans k6).trans (.of_same e7)) nD, acc ++ [y], ls ++ [(wr0.1, single c)], upd_same, ?_, fun p hp => ?_, by rw [List.length_append, List.length_singleton]; omega⟩
          · have t7 : TupK K H7 (upd H7 D (.lst (acc ++ [y]))) := .lst (e7 _ _ hD6)
            rw [List.map_append]
            exact DpAll.app (dps_tk t7 fzl (dps_same e7 hacc6)) (.one (dp_tk t7 (fz_dKd _) hy))
          · rcases List.mem_append.mp hp with h | h
            · exact gls p h
            · rw [List.mem_singleton.mp h]
              exact ⟨str_ok gw.name.2.2, lets_ok c (hcs c (List.mem_of_getElem? hc))⟩
        | false =>
          refine iteF ?_
          exact ⟨hB6, k5.trans k6, acc, ls, hD6, hacc6, gls, by omega⟩
      · obtain ⟨hB5, k5, acc, ls, hD, hacc, gls, lls⟩ := hP
        rw [List.length_map, List.length_map] at lls
        have hkq5 := k5 _ _ kqa hkq
        have hus5 := dps_keep hB4 k5 (fz_map fun p _ => fz_dKd p) hus
        have lu := hus.length
        have la := hacc.length
        rw [List.length_map] at lu la
        refine ⟨kq, D, us, acc, rfl, rfl, hkq5, hD, sz_of (by omega), fun p3 np3 => g_go ?_⟩
        have e5 := Ex.new (o := .lst (us ++ acc)) np3
        have n3 : H p3 = none := Keep.free (k03.trans (k4.trans k5)) (hB5.ne np3).1 np3
        refine ⟨p3, us ++ acc, ks ++ ls, _, _, rfl, hB5.same e5, (k4.trans k5).trans (.of_same e5), n3, (hB5.ne np3).1.symm, upd_same, ?_, fun p hp => (List.mem_append.mp hp).elim (gks p) (gls p), by rw [List.length_append, Nat.add_mul]; omega⟩
        rw [List.map_append]
        exact DpAll.app (dps_same e5 hus5) (dps_same e5 hacc)
    · obtain ⟨kq, us, ks, y5, y6, rfl, hB4, k4, nkq, kqa, hkq, hus, gks, lks⟩ := hP
      have hwl := hws.length
      rw [List.length_map] at hwl
      exact ⟨.ref kq, rfl, q kq us ks H' nkq hkq hus gks (by omega) hB4 (k03.trans k4)⟩
end
end Ink
namespace Ink
open PySem PySem.Spec PyProof.Rows L2 Evl
/-! ### whether an eye tells two names apart -/
def differM (who : Option Str) (a b : Str) : Bool := match who with
  | none => !decide (a = b)
  | some o => !decide (decide (a = o) = decide (b = o))
def spDiffer (P : Program) (w : World) (K : PySem.W.Frag) (E : Addr) : Sp := fun vs H Q _ => ∃ (e de : Addr) (who : Option Str) (ks : List Knd) (a b : Str), vs = [.ref e, .str a, .str b] ∧ EyeAt P w K E H e who ks de ∧ ∀ H', Ex H H' → Q (.bl (differM who a b)) H'
def RDiffers : List PyData → PyData → Prop := fun ds d => ∃ (who : Option Str) (a b : Str), ds = [.str a, .str b, dWho who] ∧ d = .bool (differM who a b)
theorem ne_str (a b : Str) : (!decide (V.str a = V.str b)) = !decide (a = b) := congrArg (! ·) (decide_eq_decide.mpr ⟨fun z => by injection z, fun z => by rw [z]⟩)
theorem eq_str (a b : Str) : decide (V.str a = V.str b) = decide (a = b) := decide_eq_decide.mpr ⟨fun z => by injection z, fun z => by rw [z]⟩
theorem ne_bl (a b : Bool) : (!decide (V.bl a = V.bl b)) = !decide (a = b) := congrArg (! ·) (decide_eq_decide.mpr ⟨fun z => by injection z, fun z => by rw [z]⟩)
section
variable {P : Program} {w : World} {K : PySem.W.Frag} {mg : Str → Option Value} {base : Heap}
theorem isN_ev73 {te : TE} {σ : L2.St} {H : Hp} {v : V} (h : Ev te σ H v) : EvT (tTest (tOp (fun x y H Q => y = .non ∧ Q (.bl (decide (x = .non))) H) te (tC .non))) σ H (decide (v = .non)) := fun H1 e Q q => h H1 e _ fun H2 e2 => ⟨rfl, _, rfl, q H2 e2⟩
theorem ok_ldiffers {f : Addr} {fd : FuncData} {k : Nat} (F : Fun K "_law_differs" "_law_differs" sLDiffers f fd) (T : Txt mg) : FnOk P w K mg base CX0 (k + 1) f fd ["_law_one", "_law_other", "_law_own"] (spP K RDiffers) := by
  refine F.ok sc__law_differs (fun vs H Q X9 h => ?_) (fun cdv A outer s H vs Q X9 hr h => ?_)
  · obtain ⟨ds, d, hd, ⟨who, a, b, rfl, _⟩, _⟩ := h
    exact hd.length
  · obtain ⟨ds, d, hd, ⟨who, a, b, rfl, rfl⟩, q⟩ := h
    obtain ⟨v0, v1, v2, rfl, h0, h1, h2⟩ := dps3 hd
    obtain rfl := dp_str h0
    obtain rfl := dp_str h1
    refine ⟨_, (pss_one (ps_ret (pe_ifExp (pt_cmpR op_isN (pv 2) pe_non (nomark _)) (pe_cmpR op_ne (pv 0) (pv 1) (nomark _)) (pe_cmpR op_ne (pe_cmpR op_eq (pv 0) (pv 2) (nomark _)) (pe_cmpR op_eq (pv 1) (pv 2) (nomark _)) (nomark _))))), ?_⟩
    cases who with
    | none =>
      have h2 : Dp K H v2 .none := h2
      cases h2
      refine sd_ret (K := K) (d := .bool (differM none a b)) (ed_bl (ev_is (ev_if (b := true) (isN_ev73 (v := .non) (ev_var (i := 2) rfl)) (fun _ => ev_op (ev_var rfl) (ev_var rfl) (rv_ne rfl)) fun h => by cases h) (congrArg V.bl (ne_str a b)))) fun v H1 e1 hv => q v H1 e1 hv
    | some o =>
      have h2 : Dp K H v2 (.str o) := h2
      obtain rfl := dp_str h2
      refine sd_ret (K := K) (d := .bool (differM (some o) a b)) (ed_bl (ev_is (ev_if (b := false) (isN_ev73 (v := .str o) (ev_var (i := 2) rfl)) (fun h => by cases h) fun _ => ev_op (ev_op (ev_var (i := 0) rfl) (ev_var (i := 2) rfl) (rv_eq rfl)) (ev_op (ev_var (i := 1) rfl) (ev_var (i := 2) rfl) (rv_eq rfl)) (rv_ne rfl)) (congrArg V.bl ?_))) fun v H1 e1 hv => q v H1 e1 hv
      rw [ne_bl, eq_str, eq_str]
      rfl
theorem ok_differ {f E : Addr} {fd : FuncData} {k : Nat} (F : Fun K "differ" "Eye.differ" sEyeDiffer f fd) (T : Txt mg) (Y : EyC K E) : FnOk P w K mg base CX0 (k + 1) f fd ["self", "one", "other"] (spDiffer P w K E) := by
  refine F.ok sc_Eye_differ (fun vs H Q X9 h => ?_) (fun cdv A outer s H vs Q X9 hr h => ?_)
  · obtain ⟨e, de, who, ks, a, b, rfl, _⟩ := h
    rfl
  · obtain ⟨e, de, who, ks, a, b, rfl, h, q⟩ := h
    obtain ⟨dx, u, kvs, l, h1, h2, h3, h4, h5⟩ := id h
    have fw : ∀ {σ : L2.St} {H' : Hp}, σ[0]? = some (some (.ref e)) → Ex H H' → Ev (tFld K (tVar 0) "_who") σ H' u := fun hσ ex => ev_fld (ev_var hσ) (ex _ _ h1) Y.cl Y.nW (eyF_w _ _)
    refine ⟨_, (pss_cons (ps_if (pt_cmpR op_isN (pe_fld (pv 0) rfl) pe_non (nomark _))
    (pss_one (ps_ret (pe_cmpR op_ne (pv 1) (pv 2) (nomark _)))) pss_nil)
    (pss_one (ps_ret (pe_cmpR op_ne (pe_cmpR op_eq (pv 1) (pe_fld (pv 0) rfl) (nomark _)) (pe_cmpR op_eq (pv 2) (pe_fld (pv 0) rfl) (nomark _)) (nomark _))))), ?_⟩
    cases who with
    | none =>
      have h2 : Dp K H u .none := h2
      cases h2
      refine Evl.q_when (b := true) (isN_ev73 (v := .non) (fw (by rfl) (.refl H))) (fun _ H1 e1 => ?_) fun h => by cases h
      refine s_ret (v := .bl (differM none a b)) (ev_is (ev_op (ev_var (i := 1) rfl) (ev_var (i := 2) rfl) (rv_ne rfl)) (congrArg V.bl (ne_str a b))) fun H2 e2 => q H2 (e1.trans e2)
    | some o =>
      have h2 : Dp K H u (.str o) := h2
      obtain rfl := dp_str h2
      refine Evl.q_when (b := false) (isN_ev73 (v := .str o) (fw (by rfl) (.refl H))) (fun h => by cases h) fun _ H1 e1 => ?_
      refine s_ret (v := .bl (differM (some o) a b)) (ev_is (ev_op (ev_op (ev_var (i := 1) rfl) (fw (by rfl) e1) (rv_eq rfl)) (ev_op (ev_var (i := 2) rfl) (fw (by rfl) e1) (rv_eq rfl)) (rv_ne rfl)) (congrArg V.bl ?_)) fun H2 e2 => q H2 (e1.trans e2)
      rw [ne_bl, eq_str, eq_str]
      rfl
end
end Ink
namespace Ink
open PySem PySem.Spec PyProof.Rows L2
/-! ### zip of three lists, of three tuples -/
theorem sep3 {z TI TO i1 i2 i3 a b d : Addr} (h1 : a < i1) (h2 : b < i1) (h2' : d < i1) (h3 : i1 < i2) (h3' : i2 < i3) (h4 : i3 < TI) (h5 : TI < TO) (h6 : TO < z) : ZipSep3 z TI TO i1 i2 i3 [i1, a] [i2, b] [i3, d] := by
  have ne : ∀ {x y : Addr}, x < y → x ≠ y := fun h => Nat.ne_of_lt h
  have ne' : ∀ {x y : Addr}, x < y → y ≠ x := fun h => (Nat.ne_of_lt h).symm
  have ni : ∀ {x y w : Addr}, x ≠ y → x ≠ w → x ∉ [y, w] := fun q r m => (List.mem_cons.mp m).elim q fun s => r (List.mem_singleton.mp s)
  have i13 := Nat.lt_trans h3 h3'
  have i2T := Nat.lt_trans h3' h4
  have i1T := Nat.lt_trans h3 i2T
  have i3O := Nat.lt_trans h4 h5
  have i2O := Nat.lt_trans i2T h5
  have i1O := Nat.lt_trans i1T h5
  have i3z := Nat.lt_trans i3O h6
  have i2z := Nat.lt_trans i2O h6
  have i1z := Nat.lt_trans i1O h6
  have TIz := Nat.lt_trans h5 h6
  have t : ∀ {x y w : Addr}, x < y → y < w → x < w := fun p q => Nat.lt_trans p q
  exact { TIz := ne TIz, TOz := ne h6, TITO := ne h5, TIi1 := ne' i1T, mem1 := List.mem_cons_self .., zf1 := ni (ne' i1z) (ne' (t h1 i1z)), Tf1 := ni (ne' i1O) (ne' (t h1 i1O)), TIi2 := ne' i2T, mem2 := List.mem_cons_self .., zf2 := ni (ne' i2z) (ne' (t h2 i1z)), Tf2 := ni (ne' i2O) (ne' (t h2 i1O)), TIi3 := ne' h4, mem3 := List.mem_cons_self .., zf3 := ni (ne' i3z) (ne' (t h2' i1z)), Tf3 := ni (ne' i3O) (ne' (t h2' i1O)), sep1_2 := ni (ne h3) (ne' h2), sep1_3 := ni (ne i13) (ne' h2'), sep2_1 := ni (ne' h3) (ne' (t h1 h3)), sep2_3 := ni (ne h3') (ne' (t h2' h3)), sep3_1 := ni (ne' i13) (ne' (t h1 i13)), sep3_2 := ni (ne' h3') (ne' (t h2 i13)) }

/-- three lists as they stand at each turn; the items in new triples -/
def Itz3L (K : PySem.W.Frag) (a b d : Addr) : It :=
  ⟨fun i H => ∃ (xs ys zs : List V) (x y z : V), SqL K H a xs ∧ SqL K H b ys ∧ SqL K H d zs ∧ xs[i]? = some x ∧ ys[i]? = some y ∧ zs[i]? = some z,
    fun i H v H' => ∃ T x y z, v = .ref T ∧ H T = none ∧ H' = upd H T (.tup [x, y, z]) ∧ (∀ xs, SqL K H a xs → xs[i]? = some x) ∧ (∀ ys, SqL K H b ys → ys[i]? = some y) ∧ ∀ zs, SqL K H d zs → zs[i]? = some z,
    fun i H => ∃ xs ys zs : List V, SqL K H a xs ∧ SqL K H b ys ∧ SqL K H d zs ∧ i ≤ xs.length ∧ i ≤ ys.length ∧ i ≤ zs.length ∧ (xs.length = i ∨ ys.length = i ∨ zs.length = i)⟩
theorem walk_zip3L {K : PySem.W.Frag} {a b d : Addr} {xs ys zs : List V} {n : Nat} (l1 : xs.length = n) (l2 : ys.length = n) (l3 : zs.length = n) : Walk (Itz3L K a b d) n (fun H => SqL K H a xs ∧ SqL K H b ys ∧ SqL K H d zs) (fun i H v H' => ∃ T x y z, v = .ref T ∧ H T = none ∧ H' = upd H T (.tup [x, y, z]) ∧ xs[i]? = some x ∧ ys[i]? = some y ∧ zs[i]? = some z) := by
  refine ⟨fun i _ hi q => ⟨xs, ys, zs, xs[i]'(by omega), ys[i]'(by omega), zs[i]'(by omega), q.1, q.2.1, q.2.2, List.getElem?_eq_getElem _, List.getElem?_eq_getElem _, List.getElem?_eq_getElem _⟩, fun _ q => ⟨xs, ys, zs, q.1, q.2.1, q.2.2, by omega, by omega, by omega, by omega⟩, fun i H v H' _ q y => ?_⟩
  obtain ⟨T, x, u, t, h1, h2, h3, h4, h5, h6⟩ := y
  exact ⟨T, x, u, t, h1, h2, h3, h4 xs q.1, h5 ys q.2.1, h6 zs q.2.2⟩
theorem turn_zip3L {P : Program} {w : World} {K : PySem.W.Frag} {elts : List Expr} {kk : Nat} {tpos : Pos} {a b d z TI TO i1 i2 i3 : Addr} (h1 : a < i1) (h2 : b < i1) (h2' : d < i1) (h3 : i1 < i2) (h3' : i2 < i3) (h4 : i3 < TI) (h5 : TI < TO) (h6 : TO < z) :
    Turn P w K (.Tuple elts kk tpos) (Itz3L K a b d) [z, TI, TO, i1, i2, i3] z (fun i h => IsZip h z TI TO .none ∧ IsTupOf3 h TI (.ref i1) (.ref i2) (.ref i3) ∧ (∃ x y t, IsTupOf3 h TO x y t) ∧ h.IsListIter i1 a i ∧ h.IsListIter i2 b i ∧ h.IsListIter i3 d i) := by
  have D := sep3 (a := a) (b := b) (d := d) h1 h2 h2' h3 h3' h4 h5 h6
  have na : a ≠ i1 := Nat.ne_of_lt h1
  have nb : b ≠ i2 := Nat.ne_of_lt (Nat.lt_trans h2 h3)
  have nd : d ≠ i3 := Nat.ne_of_lt (Nat.lt_trans h2' (Nat.lt_trans h3 h3'))
  have five : ∀ {c : Addr}, c ∈ [z, TI, TO, i1, i2, i3] → c = z ∨ c = TI ∨ c = TO ∨ c = i1 ∨ c = i2 ∨ c = i3 := fun m => by simpa using m
  refine { mem := List.mem_cons_self .., obj := fun i h st c hc => ?_, keep := fun i h h' st k => ?_, item := ?_, done := ?_, self := fun A i s Q E st q => wpAny_pyIter_zip st.1 q }
  · obtain ⟨az, aT, ⟨x, y, t, aO⟩, ⟨o1, e1, _, d1⟩, ⟨o2, e2, _, d2⟩, ⟨o3, e3, _, d3⟩⟩ := st
    rcases five hc with rfl | rfl | rfl | rfl | rfl | rfl
    · exact ⟨_, az, fun v q => nomatch q⟩
    · exact ⟨_, aT, fun v q => nomatch q⟩
    · exact ⟨_, aO, fun v q => nomatch q⟩
    · exact ⟨o1, e1, fun v q => by rw [d1] at q; cases q⟩
    · exact ⟨o2, e2, fun v q => by rw [d2] at q; cases q⟩
    · exact ⟨o3, e3, fun v q => by rw [d3] at q; cases q⟩
  · obtain ⟨az, aT, ⟨x, y, t, aO⟩, q1, q2, q3⟩ := st
    have m : ∀ {c : Addr}, c = z ∨ c = TI ∨ c = TO ∨ c = i1 ∨ c = i2 ∨ c = i3 → c ∈ [z, TI, TO, i1, i2, i3] := fun q => by simpa using q
    exact ⟨k z (m (.inl rfl)) _ az, k TI (m (.inr (.inl rfl))) _ aT, ⟨x, y, t, k TO (m (.inr (.inr (.inl rfl)))) _ aO⟩, q1.at fun o e => k i1 (m (.inr (.inr (.inr (.inl rfl))))) o e, q2.at fun o e => k i2 (m (.inr (.inr (.inr (.inr (.inl rfl)))))) o e, q3.at fun o e => k i3 (m (.inr (.inr (.inr (.inr (.inr rfl)))))) o e⟩
  · intro X hP hw hK hc i pins s σ H E I hf st hg
    subst hP hw hK
    obtain ⟨az, aT, ⟨x0, y0, t0, aO⟩, q1, q2, q3⟩ := st
    obtain ⟨xs, ys, zs, x, y, t, hqx, hqy, hqz, hx, hy, ht⟩ := hg
    obtain ⟨its, rv, tp, _⟩ := I.list hqx
    obtain ⟨its2, rv2, tp2, _⟩ := I.list hqy
    obtain ⟨its3, rv3, tp3, _⟩ := I.list hqz
    obtain ⟨u, hu, ru⟩ := rv.get hx
    obtain ⟨u2, hu2, ru2⟩ := rv2.get hy
    obtain ⟨u3, hu3, ru3⟩ := rv3.get ht
    have hu' : its.toArray[i]? = some u := by rw [List.getElem?_toArray]; exact hu
    have hu2' : its2.toArray[i]? = some u2 := by rw [List.getElem?_toArray]; exact hu2
    have hu3' : its3.toArray[i]? = some u3 := by rw [List.getElem?_toArray]; exact hu3
    have zl : z < s.heap.objs.size := Heap.lt_size az
    have D1 := Draws.list (prog := X.prog) (w := X.w) (A := X.A.in1) (I.ok.hd hc) i1 a na its.toArray
    have D2 := Draws.list (prog := X.prog) (w := X.w) (A := X.A.in1) (I.ok.hd hc) i2 b nb its2.toArray
    have D3 := Draws.list (prog := X.prog) (w := X.w) (A := X.A.in1) (I.ok.hd hc) i3 d nd its3.toArray
    refine wpAny_pyNext_zipD3_item D D1 D2 D3 az aT aO ⟨q1, tp.isList⟩ ⟨q2, tp2.isList⟩ ⟨q3, tp3.isList⟩ (Array.getElem?_eq_some_iff.mp hu').1 (Array.getElem?_eq_some_iff.mp hu2').1 (Array.getElem?_eq_some_iff.mp hu3').1 fun v1 v2 v3 h' tk p1 p2 p3 z' TO' s1' s2' s3' hT hsz hk => ?_
    have p1 : its.toArray[i]? = some v1 := p1
    have p2 : its2.toArray[i]? = some v2 := p2
    have p3 : its3.toArray[i]? = some v3 := p3
    rw [hu'] at p1
    rw [hu2'] at p2
    rw [hu3'] at p3
    cases p1
    cases p2
    cases p3
    refine ⟨_, rfl, wpAny_letOwnedTupleGo_zip (s := { s with heap := h', toks := tk }) z' fun hh zz sb => ?_⟩
    have hT2 : hh.get? s.heap.objs.size = some { cls := .type "tuple", data := .seq #[u, u2, u3] } := (sb.2 _ (Nat.ne_of_gt zl)).trans hT
    have new : ObjOk X.prog X.w (upd H s.heap.objs.size (.tup [x, y, t])) hh s.heap.objs.size (.tup [x, y, t]) := ⟨by show 3 ≤ sizeLine; decide, [u, u2, u3], .cons ru (.cons ru2 (.cons ru3 .nil)), ⟨_, hT2, rfl, _, rfl⟩⟩
    have nin : ∀ {c e : Addr}, c ∉ [z, TI, TO, i1, i2, i3] → (e = z ∨ e = TI ∨ e = TO ∨ e = i1 ∨ e = i2 ∨ e = i3) → c ≠ e := fun n m q => n (by subst q; simpa using m)
    have I1 : Inv X pins σ (upd H s.heap.objs.size (.tup [x, y, t])) { s with heap := hh, toks := tk } :=
      I.turnedNew (t' := tk) (ch := [z, TI, TO, i1, i2, i3]) (fun c o hb q => (sb.2 c (nin hb (.inl rfl))).trans (hk c o (nin hb (.inl rfl)) (nin hb (.inr (.inr (.inl rfl)))) (nin hb (.inr (.inr (.inr (.inl rfl))))) (nin hb (.inr (.inr (.inr (.inr (.inl rfl)))))) (nin hb (.inr (.inr (.inr (.inr (.inr rfl)))))) q)) hf (Nat.le_refl _) new
    refine ⟨.ref s.heap.objs.size, _, I1, rfl, ⟨_, x, y, t, rfl, I.hok.fresh (Nat.le_refl _), rfl, fun l hl => by rw [I.list_inj hl hqx]; exact hx, fun l hl => by rw [I.list_inj hl hqy]; exact hy, fun l hl => by rw [I.list_inj hl hqz]; exact ht⟩, ⟨zz, ?_, ⟨u, u2, u3, ?_⟩, ?_, ?_, ?_⟩, fun c hcm => ?_⟩
    · exact (sb.2 _ D.TIz).trans (hk _ _ D.TIz D.TITO D.TIi1 D.TIi2 D.TIi3 aT)
    · exact (sb.2 _ D.TOz).trans TO'
    · exact s1'.1.at fun o q => (sb.2 _ D.zi1.symm).trans q
    · exact s2'.1.at fun o q => (sb.2 _ D.zi2.symm).trans q
    · exact s3'.1.at fun o q => (sb.2 _ D.zi3.symm).trans q
    · have hlt : c < s.heap.objs.size := by
        rcases five hcm with rfl | rfl | rfl | rfl | rfl | rfl
        · exact zl
        · exact Heap.lt_size aT
        · exact Heap.lt_size aO
        · obtain ⟨_, e1, _⟩ := q1
          exact Heap.lt_size e1
        · obtain ⟨_, e2, _⟩ := q2
          exact Heap.lt_size e2
        · obtain ⟨_, e3, _⟩ := q3
          exact Heap.lt_size e3
      rw [upd_ne (Nat.ne_of_lt hlt)]
      exact (hf c hcm).1
  · intro X hP hw hK hc i pins s σ H E I hf st hg
    subst hP hw hK
    obtain ⟨az, aT, ⟨x0, y0, t0, aO⟩, q1, q2, q3⟩ := st
    obtain ⟨xs, ys, zs, hqx, hqy, hqz, b1, b2, b3, hend⟩ := hg
    obtain ⟨its, rv, tp, _⟩ := I.list hqx
    obtain ⟨its2, rv2, tp2, _⟩ := I.list hqy
    obtain ⟨its3, rv3, tp3, _⟩ := I.list hqz
    have l1 := rv.length
    have l2 := rv2.length
    have l3 := rv3.length
    have D1 := Draws.list (prog := X.prog) (w := X.w) (A := X.A.in1) (I.ok.hd hc) i1 a na its.toArray
    have D2 := Draws.list (prog := X.prog) (w := X.w) (A := X.A.in1) (I.ok.hd hc) i2 b nb its2.toArray
    have D3 := Draws.list (prog := X.prog) (w := X.w) (A := X.A.in1) (I.ok.hd hc) i3 d nd its3.toArray
    have nin : ∀ {c e : Addr}, c ∉ [z, TI, TO, i1, i2, i3] → (e = z ∨ e = TI ∨ e = TO ∨ e = i1 ∨ e = i2 ∨ e = i3) → c ≠ e := fun n m q => n (by subst q; simpa using m)
    exact wpAny_pyNext_zipD3_end D D1 D2 D3 az aT aO ⟨q1, tp.isList⟩ ⟨q2, tp2.isList⟩ ⟨q3, tp3.isList⟩ (by rw [List.size_toArray]; omega) (by rw [List.size_toArray]; omega) (by rw [List.size_toArray]; omega) (by rw [List.size_toArray, List.size_toArray, List.size_toArray]; omega) fun h' tk hk => ⟨rfl, I.turnedL (t' := tk) (ch := [z, TI, TO, i1, i2, i3]) (fun c o hb q =>
      hk c o (nin hb (.inl rfl)) (nin hb (.inr (.inr (.inl rfl)))) (nin hb (.inr (.inr (.inr (.inl rfl))))) (nin hb (.inr (.inr (.inr (.inr (.inl rfl)))))) (nin hb (.inr (.inr (.inr (.inr (.inr rfl)))))) q) hf⟩

/-- three tuples as they stand at each turn; the items in new triples -/
def Itz3T (K : PySem.W.Frag) (a b d : Addr) : It :=
  ⟨fun i H => ∃ (xs ys zs : List V) (x y z : V), SqT K H a xs ∧ SqT K H b ys ∧ SqT K H d zs ∧ xs[i]? = some x ∧ ys[i]? = some y ∧ zs[i]? = some z,
    fun i H v H' => ∃ T x y z, v = .ref T ∧ H T = none ∧ H' = upd H T (.tup [x, y, z]) ∧ (∀ xs, SqT K H a xs → xs[i]? = some x) ∧ (∀ ys, SqT K H b ys → ys[i]? = some y) ∧ ∀ zs, SqT K H d zs → zs[i]? = some z,
    fun i H => ∃ xs ys zs : List V, SqT K H a xs ∧ SqT K H b ys ∧ SqT K H d zs ∧ i ≤ xs.length ∧ i ≤ ys.length ∧ i ≤ zs.length ∧ (xs.length = i ∨ ys.length = i ∨ zs.length = i)⟩
theorem walk_zip3T {K : PySem.W.Frag} {a b d : Addr} {xs ys zs : List V} {n : Nat} (l1 : xs.length = n) (l2 : ys.length = n) (l3 : zs.length = n) : Walk (Itz3T K a b d) n (fun H => SqT K H a xs ∧ SqT K H b ys ∧ SqT K H d zs) (fun i H v H' => ∃ T x y z, v = .ref T ∧ H T = none ∧ H' = upd H T (.tup [x, y, z]) ∧ xs[i]? = some x ∧ ys[i]? = some y ∧ zs[i]? = some z) := by
  refine ⟨fun i _ hi q => ⟨xs, ys, zs, xs[i]'(by omega), ys[i]'(by omega), zs[i]'(by omega), q.1, q.2.1, q.2.2, List.getElem?_eq_getElem _, List.getElem?_eq_getElem _, List.getElem?_eq_getElem _⟩, fun _ q => ⟨xs, ys, zs, q.1, q.2.1, q.2.2, by omega, by omega, by omega, by omega⟩, fun i H v H' _ q y => ?_⟩
  obtain ⟨T, x, u, t, h1, h2, h3, h4, h5, h6⟩ := y
  exact ⟨T, x, u, t, h1, h2, h3, h4 xs q.1, h5 ys q.2.1, h6 zs q.2.2⟩
theorem turn_zip3T {P : Program} {w : World} {K : PySem.W.Frag} {elts : List Expr} {kk : Nat} {tpos : Pos} {a b d z TI TO i1 i2 i3 : Addr} (h1 : a < i1) (h2 : b < i1) (h2' : d < i1) (h3 : i1 < i2) (h3' : i2 < i3) (h4 : i3 < TI) (h5 : TI < TO) (h6 : TO < z) :
    Turn P w K (.Tuple elts kk tpos) (Itz3T K a b d) [z, TI, TO, i1, i2, i3] z (fun i h => IsZip h z TI TO .none ∧ IsTupOf3 h TI (.ref i1) (.ref i2) (.ref i3) ∧ (∃ x y t, IsTupOf3 h TO x y t) ∧ h.IsTupleIter i1 a i ∧ h.IsTupleIter i2 b i ∧ h.IsTupleIter i3 d i) := by
  have D := sep3 (a := a) (b := b) (d := d) h1 h2 h2' h3 h3' h4 h5 h6
  have na : a ≠ i1 := Nat.ne_of_lt h1
  have nb : b ≠ i2 := Nat.ne_of_lt (Nat.lt_trans h2 h3)
  have nd : d ≠ i3 := Nat.ne_of_lt (Nat.lt_trans h2' (Nat.lt_trans h3 h3'))
  have five : ∀ {c : Addr}, c ∈ [z, TI, TO, i1, i2, i3] → c = z ∨ c = TI ∨ c = TO ∨ c = i1 ∨ c = i2 ∨ c = i3 := fun m => by simpa using m
  refine { mem := List.mem_cons_self .., obj := fun i h st c hc => ?_, keep := fun i h h' st k => ?_, item := ?_, done := ?_, self := fun A i s Q E st q => wpAny_pyIter_zip st.1 q }
  · obtain ⟨az, aT, ⟨x, y, t, aO⟩, ⟨o1, e1, _, d1⟩, ⟨o2, e2, _, d2⟩, ⟨o3, e3, _, d3⟩⟩ := st
    rcases five hc with rfl | rfl | rfl | rfl | rfl | rfl
    · exact ⟨_, az, fun v q => nomatch q⟩
    · exact ⟨_, aT, fun v q => nomatch q⟩
    · exact ⟨_, aO, fun v q => nomatch q⟩
    · exact ⟨o1, e1, fun v q => by rw [d1] at q; cases q⟩
    · exact ⟨o2, e2, fun v q => by rw [d2] at q; cases q⟩
    · exact ⟨o3, e3, fun v q => by rw [d3] at q; cases q⟩
  · obtain ⟨az, aT, ⟨x, y, t, aO⟩, q1, q2, q3⟩ := st
    have m : ∀ {c : Addr}, c = z ∨ c = TI ∨ c = TO ∨ c = i1 ∨ c = i2 ∨ c = i3 → c ∈ [z, TI, TO, i1, i2, i3] := fun q => by simpa using q
    exact ⟨k z (m (.inl rfl)) _ az, k TI (m (.inr (.inl rfl))) _ aT, ⟨x, y, t, k TO (m (.inr (.inr (.inl rfl)))) _ aO⟩, q1.at fun o e => k i1 (m (.inr (.inr (.inr (.inl rfl))))) o e, q2.at fun o e => k i2 (m (.inr (.inr (.inr (.inr (.inl rfl)))))) o e, q3.at fun o e => k i3 (m (.inr (.inr (.inr (.inr (.inr rfl)))))) o e⟩
  · intro X hP hw hK hc i pins s σ H E I hf st hg
    subst hP hw hK
    obtain ⟨az, aT, ⟨x0, y0, t0, aO⟩, q1, q2, q3⟩ := st
    obtain ⟨xs, ys, zs, x, y, t, hqx, hqy, hqz, hx, hy, ht⟩ := hg
    obtain ⟨its, rv, tp, _⟩ := I.tuple hqx
    obtain ⟨its2, rv2, tp2, _⟩ := I.tuple hqy
    obtain ⟨its3, rv3, tp3, _⟩ := I.tuple hqz
    obtain ⟨u, hu, ru⟩ := rv.get hx
    obtain ⟨u2, hu2, ru2⟩ := rv2.get hy
    obtain ⟨u3, hu3, ru3⟩ := rv3.get ht
    have hu' : its.toArray[i]? = some u := by rw [List.getElem?_toArray]; exact hu
    have hu2' : its2.toArray[i]? = some u2 := by rw [List.getElem?_toArray]; exact hu2
    have hu3' : its3.toArray[i]? = some u3 := by rw [List.getElem?_toArray]; exact hu3
    have zl : z < s.heap.objs.size := Heap.lt_size az
    have D1 := Draws.tuple (prog := X.prog) (w := X.w) (A := X.A.in1) (I.ok.hd hc) i1 a na its.toArray
    have D2 := Draws.tuple (prog := X.prog) (w := X.w) (A := X.A.in1) (I.ok.hd hc) i2 b nb its2.toArray
    have D3 := Draws.tuple (prog := X.prog) (w := X.w) (A := X.A.in1) (I.ok.hd hc) i3 d nd its3.toArray
    refine wpAny_pyNext_zipD3_item D D1 D2 D3 az aT aO ⟨q1, tp⟩ ⟨q2, tp2⟩ ⟨q3, tp3⟩ (Array.getElem?_eq_some_iff.mp hu').1 (Array.getElem?_eq_some_iff.mp hu2').1 (Array.getElem?_eq_some_iff.mp hu3').1 fun v1 v2 v3 h' tk p1 p2 p3 z' TO' s1' s2' s3' hT hsz hk => ?_
    have p1 : its.toArray[i]? = some v1 := p1
    have p2 : its2.toArray[i]? = some v2 := p2
    have p3 : its3.toArray[i]? = some v3 := p3
    rw [hu'] at p1
    rw [hu2'] at p2
    rw [hu3'] at p3
    cases p1
    cases p2
    cases p3
    refine ⟨_, rfl, wpAny_letOwnedTupleGo_zip (s := { s with heap := h', toks := tk }) z' fun hh zz sb => ?_⟩
    have hT2 : hh.get? s.heap.objs.size = some { cls := .type "tuple", data := .seq #[u, u2, u3] } := (sb.2 _ (Nat.ne_of_gt zl)).trans hT
    have new : ObjOk X.prog X.w (upd H s.heap.objs.size (.tup [x, y, t])) hh s.heap.objs.size (.tup [x, y, t]) := ⟨by show 3 ≤ sizeLine; decide, [u, u2, u3], .cons ru (.cons ru2 (.cons ru3 .nil)), ⟨_, hT2, rfl, _, rfl⟩⟩
    have nin : ∀ {c e : Addr}, c ∉ [z, TI, TO, i1, i2, i3] → (e = z ∨ e = TI ∨ e = TO ∨ e = i1 ∨ e = i2 ∨ e = i3) → c ≠ e := fun n m q => n (by subst q; simpa using m)
    have I1 : Inv X pins σ (upd H s.heap.objs.size (.tup [x, y, t])) { s with heap := hh, toks := tk } :=
      I.turnedNew (t' := tk) (ch := [z, TI, TO, i1, i2, i3]) (fun c o hb q => (sb.2 c (nin hb (.inl rfl))).trans (hk c o (nin hb (.inl rfl)) (nin hb (.inr (.inr (.inl rfl)))) (nin hb (.inr (.inr (.inr (.inl rfl))))) (nin hb (.inr (.inr (.inr (.inr (.inl rfl)))))) (nin hb (.inr (.inr (.inr (.inr (.inr rfl)))))) q)) hf (Nat.le_refl _) new
    refine ⟨.ref s.heap.objs.size, _, I1, rfl, ⟨_, x, y, t, rfl, I.hok.fresh (Nat.le_refl _), rfl, fun l hl => by rw [I.tuple_inj hl hqx]; exact hx, fun l hl => by rw [I.tuple_inj hl hqy]; exact hy, fun l hl => by rw [I.tuple_inj hl hqz]; exact ht⟩, ⟨zz, ?_, ⟨u, u2, u3, ?_⟩, ?_, ?_, ?_⟩, fun c hcm => ?_⟩
    · exact (sb.2 _ D.TIz).trans (hk _ _ D.TIz D.TITO D.TIi1 D.TIi2 D.TIi3 aT)
    · exact (sb.2 _ D.TOz).trans TO'
    · exact s1'.1.at fun o q => (sb.2 _ D.zi1.symm).trans q
    · exact s2'.1.at fun o q => (sb.2 _ D.zi2.symm).trans q
    · exact s3'.1.at fun o q => (sb.2 _ D.zi3.symm).trans q
    · have hlt : c < s.heap.objs.size := by
        rcases five hcm with rfl | rfl | rfl | rfl | rfl | rfl
        · exact zl
        · exact Heap.lt_size aT
        · exact Heap.lt_size aO
        · obtain ⟨_, e1, _⟩ := q1
          exact Heap.lt_size e1
        · obtain ⟨_, e2, _⟩ := q2
          exact Heap.lt_size e2
        · obtain ⟨_, e3, _⟩ := q3
          exact Heap.lt_size e3
      rw [upd_ne (Nat.ne_of_lt hlt)]
      exact (hf c hcm).1
  · intro X hP hw hK hc i pins s σ H E I hf st hg
    subst hP hw hK
    obtain ⟨az, aT, ⟨x0, y0, t0, aO⟩, q1, q2, q3⟩ := st
    obtain ⟨xs, ys, zs, hqx, hqy, hqz, b1, b2, b3, hend⟩ := hg
    obtain ⟨its, rv, tp, _⟩ := I.tuple hqx
    obtain ⟨its2, rv2, tp2, _⟩ := I.tuple hqy
    obtain ⟨its3, rv3, tp3, _⟩ := I.tuple hqz
    have l1 := rv.length
    have l2 := rv2.length
    have l3 := rv3.length
    have D1 := Draws.tuple (prog := X.prog) (w := X.w) (A := X.A.in1) (I.ok.hd hc) i1 a na its.toArray
    have D2 := Draws.tuple (prog := X.prog) (w := X.w) (A := X.A.in1) (I.ok.hd hc) i2 b nb its2.toArray
    have D3 := Draws.tuple (prog := X.prog) (w := X.w) (A := X.A.in1) (I.ok.hd hc) i3 d nd its3.toArray
    have nin : ∀ {c e : Addr}, c ∉ [z, TI, TO, i1, i2, i3] → (e = z ∨ e = TI ∨ e = TO ∨ e = i1 ∨ e = i2 ∨ e = i3) → c ≠ e := fun n m q => n (by subst q; simpa using m)
    exact wpAny_pyNext_zipD3_end D D1 D2 D3 az aT aO ⟨q1, tp⟩ ⟨q2, tp2⟩ ⟨q3, tp3⟩ (by rw [List.size_toArray]; omega) (by rw [List.size_toArray]; omega) (by rw [List.size_toArray]; omega) (by rw [List.size_toArray, List.size_toArray, List.size_toArray]; omega) fun h' tk hk => ⟨rfl, I.turnedL (t' := tk) (ch := [z, TI, TO, i1, i2, i3]) (fun c o hb q =>
      hk c o (nin hb (.inl rfl)) (nin hb (.inr (.inr (.inl rfl)))) (nin hb (.inr (.inr (.inr (.inl rfl))))) (nin hb (.inr (.inr (.inr (.inr (.inl rfl)))))) (nin hb (.inr (.inr (.inr (.inr (.inr rfl)))))) q) hf⟩

def iZip3 (K : PySem.W.Frag) (ta : TA) : TI := fun σ H R => ta σ H fun vs H1 => ∃ a b d xs ys zs, vs = [.ref a, .ref b, .ref d] ∧ ((SqL K H1 a xs ∧ SqL K H1 b ys ∧ SqL K H1 d zs ∧ R (Itz3L K a b d) H1) ∨ (SqT K H1 a xs ∧ SqT K H1 b ys ∧ SqT K H1 d zs ∧ R (Itz3T K a b d) H1))
theorem pi_zip3 {X : Cx} {e e2 e3 : Expr} {ta : TA} {p pos tpos : Pos} {elts : List Expr} {kk : Nat} (hg : Gl X "zip") (hm : X.mg "zip" = none) (ha : PA X [e, e2, e3] ta)
    (hs : starEach [e, e2, e3] X.env = (false, eval e X.env) :: starEach [e2, e3] X.env := by rfl) (hpl : (backTo pos (starEach [e2, e3] X.env)).any (·.1) = false := by rfl) : PI X (.Tuple elts kk tpos) (.Call (.Name "zip" p) [e, e2, e3] [] pos) (iZip3 X.K ta) := by
  refine ⟨fun pins s σ H R I h => ?_⟩
  refine Call_ (ld_blt I hg hm PyProof.Rows.boot_zip (PyProof.Rows.callWith_type1 (thn (ha.run pos pins s σ H _ I h) fun us s1 ⟨vs, H1, I1, r1, a, b, d, xs, ys, zs, ex, hq⟩ => ?_) hs hpl))
  subst ex
  cases r1 with
  | cons r rr =>
  cases rr with
  | cons r' rr =>
  cases rr with
  | cons r'' rr =>
  cases rr
  cases r
  cases r'
  cases r''
  rcases hq with ⟨hqx, hqy, hqz, q⟩ | ⟨hqx, hqy, hqz, q⟩
  · obtain ⟨its, rv, tp, _⟩ := I1.list hqx
    obtain ⟨its2, rv2, tp2, _⟩ := I1.list hqy
    obtain ⟨its3, rv3, tp3, _⟩ := I1.list hqz
    refine zip_begins3 (begins_list a its.toArray) (begins_list b its2.toArray) (begins_list d its3.toArray) tp.isList tp2.isList tp3.isList fun h' hz aT aO e1 e2 e3 hsz hk => wpAny_pyIter_zip hz ?_
    have I2 : Inv X pins σ H1 { s1 with heap := h' } := I1.kept (t' := s1.toks) hk
    refine ⟨s1.heap.objs.size + 5, [s1.heap.objs.size + 5, s1.heap.objs.size + 3, s1.heap.objs.size + 4, s1.heap.objs.size, s1.heap.objs.size + 1, s1.heap.objs.size + 2], _, _, H1, rfl, I2, turn_zip3L tp.lt tp2.lt tp3.lt (Nat.lt_succ_self _) (Nat.lt_succ_self _) (Nat.lt_succ_self _) (Nat.lt_succ_self _) (Nat.lt_succ_self _), ⟨hz, aT, ⟨_, _, _, aO⟩, ⟨_, e1, rfl, rfl⟩, ⟨_, e2, rfl, rfl⟩, ⟨_, e3, rfl, rfl⟩⟩, fun c hcm => ?_, q⟩
    have hle : s1.heap.objs.size ≤ c := by
      have hcm : c = s1.heap.objs.size + 5 ∨ c = s1.heap.objs.size + 3 ∨ c = s1.heap.objs.size + 4 ∨ c = s1.heap.objs.size ∨ c = s1.heap.objs.size + 1 ∨ c = s1.heap.objs.size + 2 := by simpa using hcm
      rcases hcm with rfl | rfl | rfl | rfl | rfl | rfl
      · exact Nat.le_add_right _ _
      · exact Nat.le_add_right _ _
      · exact Nat.le_add_right _ _
      · exact Nat.le_refl _
      · exact Nat.le_add_right _ _
      · exact Nat.le_add_right _ _
    exact I1.fpOk hle (I1.hok.fresh hle)
  · obtain ⟨its, rv, tp, _⟩ := I1.tuple hqx
    obtain ⟨its2, rv2, tp2, _⟩ := I1.tuple hqy
    obtain ⟨its3, rv3, tp3, _⟩ := I1.tuple hqz
    have lt : ∀ {a : Addr} {xs : Array Value}, s1.heap.IsTuple a xs → a < s1.heap.objs.size := fun tp => by
      obtain ⟨o, ho, _⟩ := tp
      exact Heap.lt_size ho
    refine zip_begins3 (begins_tuple a its.toArray) (begins_tuple b its2.toArray) (begins_tuple d its3.toArray) tp tp2 tp3 fun h' hz aT aO e1 e2 e3 hsz hk => wpAny_pyIter_zip hz ?_
    have I2 : Inv X pins σ H1 { s1 with heap := h' } := I1.kept (t' := s1.toks) hk
    refine ⟨s1.heap.objs.size + 5, [s1.heap.objs.size + 5, s1.heap.objs.size + 3, s1.heap.objs.size + 4, s1.heap.objs.size, s1.heap.objs.size + 1, s1.heap.objs.size + 2], _, _, H1, rfl, I2, turn_zip3T (lt tp) (lt tp2) (lt tp3) (Nat.lt_succ_self _) (Nat.lt_succ_self _) (Nat.lt_succ_self _) (Nat.lt_succ_self _) (Nat.lt_succ_self _), ⟨hz, aT, ⟨_, _, _, aO⟩, ⟨_, e1, rfl, rfl⟩, ⟨_, e2, rfl, rfl⟩, ⟨_, e3, rfl, rfl⟩⟩, fun c hcm => ?_, q⟩
    have hle : s1.heap.objs.size ≤ c := by
      have hcm : c = s1.heap.objs.size + 5 ∨ c = s1.heap.objs.size + 3 ∨ c = s1.heap.objs.size + 4 ∨ c = s1.heap.objs.size ∨ c = s1.heap.objs.size + 1 ∨ c = s1.heap.objs.size + 2 := by simpa using hcm
      rcases hcm with rfl | rfl | rfl | rfl | rfl | rfl
      · exact Nat.le_add_right _ _
      · exact Nat.le_add_right _ _
      · exact Nat.le_add_right _ _
      · exact Nat.le_refl _
      · exact Nat.le_add_right _ _
      · exact Nat.le_add_right _ _
    exact I1.fpOk hle (I1.hok.fresh hle)
section
open Evl
variable {K : PySem.W.Frag} {σ : L2.St} {H : Hp} {ta tb tc : TE} {xs ys zs : List Str}
/-- a row of texts, as a list or as a tuple -/
def RowAt (K : PySem.W.Frag) (H : Hp) (kd : Bool) (p : Addr) (xs : List Str) : Prop := match kd with
  | false => SqL K H p (xs.map V.str)
  | true => SqT K H p (xs.map V.str)
theorem RowAt.same {H' : Hp} {kd : Bool} {p : Addr} (h : RowAt K H kd p xs) (e : Ex H H') : RowAt K H' kd p xs := by
  cases kd
  · exact ex_l e h
  · exact ex_t e h
theorem ei_zip3 {kd : Bool} {p q r : Addr} (ha : Ev ta σ H (.ref p)) (hb : Ev tb σ H (.ref q)) (hc : Ev tc σ H (.ref r)) (h1 : RowAt K H kd p xs) (h2 : RowAt K H kd q ys) (h3 : RowAt K H kd r zs) (l1 : ys.length = xs.length) (l2 : zs.length = xs.length) :
    EvI K (iZip3 K (tCons ta (tCons tb (tCons tc tNil)))) σ H ((xs.zip (ys.zip zs)).map fun x => .tuple [.str x.1, .str x.2.1, .str x.2.2]) := fun H1 e R k => ha H1 e _ fun H2 e2 => hb H2 (e.trans e2) _ fun H3 e3 => hc H3 ((e.trans e2).trans e3) _ fun H4 e4 => by
  have e04 := ((e.trans e2).trans e3).trans e4
  refine ⟨p, q, r, xs.map V.str, ys.map V.str, zs.map V.str, rfl, ?_⟩
  have ln : ((xs.zip (ys.zip zs)).map fun x => PyData.tuple [.str x.1, .str x.2.1, .str x.2.2]).length = xs.length := by
    rw [List.length_map, List.length_zip, List.length_zip]
    omega
  have get : ∀ {i : Nat} {x y z : V}, (xs.map V.str)[i]? = some x → (ys.map V.str)[i]? = some y → (zs.map V.str)[i]? = some z → ∃ a b c, x = .str a ∧ y = .str b ∧ z = .str c ∧ ((xs.zip (ys.zip zs)).map fun x => PyData.tuple [.str x.1, .str x.2.1, .str x.2.2])[i]? = some (.tuple [.str a, .str b, .str c]) := fun {i x y z} g1 g2 g3 => by
    rw [List.getElem?_map, Option.map_eq_some_iff] at g1 g2 g3
    obtain ⟨a, ha, rfl⟩ := g1
    obtain ⟨b, hb, rfl⟩ := g2
    obtain ⟨c, hc, rfl⟩ := g3
    refine ⟨a, b, c, rfl, rfl, rfl, ?_⟩
    rw [List.getElem?_map, show (xs.zip (ys.zip zs))[i]? = some (a, b, c) from by rw [List.getElem?_zip_eq_some]; exact ⟨ha, by rw [List.getElem?_zip_eq_some]; exact ⟨hb, hc⟩⟩]
    rfl
  cases kd
  · have h1 : SqL K H p (xs.map V.str) := h1
    have h2 : SqL K H q (ys.map V.str) := h2
    have h3 : SqL K H r (zs.map V.str) := h3
    refine .inl ⟨ex_l e04 h1, ex_l e04 h2, ex_l e04 h3, k _ H4 (((e2.trans e3).trans e4)) ?_⟩
    rw [ln]
    refine (walk_zip3L (xs := xs.map V.str) (ys := ys.map V.str) (zs := zs.map V.str) (by rw [List.length_map]) (by rw [List.length_map]; exact l1) (by rw [List.length_map]; exact l2)).mono (fun H5 e5 => ⟨ex_l (e04.trans e5) h1, ex_l (e04.trans e5) h2, ex_l (e04.trans e5) h3⟩) fun i Ha x Hb hi e5 hy => ?_
    obtain ⟨T, x1, y1, z1, rfl, nT, rfl, hx, hy, hz⟩ := hy
    obtain ⟨a, b, c, rfl, rfl, rfl, hg⟩ := get hx hy hz
    exact ⟨Ex.new nT, _, hg, .tup (.of upd_same) (.cons (.str _) (.cons (.str _) (.cons (.str _) .nil)))⟩
  · have h1 : SqT K H p (xs.map V.str) := h1
    have h2 : SqT K H q (ys.map V.str) := h2
    have h3 : SqT K H r (zs.map V.str) := h3
    refine .inr ⟨ex_t e04 h1, ex_t e04 h2, ex_t e04 h3, k _ H4 (((e2.trans e3).trans e4)) ?_⟩
    rw [ln]
    refine (walk_zip3T (xs := xs.map V.str) (ys := ys.map V.str) (zs := zs.map V.str) (by rw [List.length_map]) (by rw [List.length_map]; exact l1) (by rw [List.length_map]; exact l2)).mono (fun H5 e5 => ⟨ex_t (e04.trans e5) h1, ex_t (e04.trans e5) h2, ex_t (e04.trans e5) h3⟩) fun i Ha x Hb hi e5 hy => ?_
    obtain ⟨T, x1, y1, z1, rfl, nT, rfl, hx, hy, hz⟩ := hy
    obtain ⟨a, b, c, rfl, rfl, rfl, hg⟩ := get hx hy hz
    exact ⟨Ex.new nT, _, hg, .tup (.of upd_same) (.cons (.str _) (.cons (.str _) (.cons (.str _) .nil)))⟩
end
end Ink
namespace Ink
open PySem PySem.Spec PyProof.Rows L2 Evl
/-! ### companies for delays: a writer filled up, few writers without patience -/
def unlikeA (x y : Arw) : Prop := ¬ (x.1 = y.1 ∧ x.2.1 = y.2.1)
def leA (x y : Arw) : Bool := PySem.W.dataLe false id (dA x) (dA y)
theorem sort_dA (l : List Arw) : (l.map dA).mergeSort (PySem.W.dataLe false id) = (l.mergeSort leA).map dA :=
  (List.map_mergeSort (r := leA) (s := PySem.W.dataLe false id) (f := dA) (l := l) (fun a _ b _ => rfl)).symm
theorem leA_less {x y : Arw} (h : leA x y = true) (hne : unlikeA x y) : lessA x y := by
  have h : (!PyProof.Rows.lexLt itemOrd (PySem.W.keyToks (dA y)) (PySem.W.keyToks (dA x))) = true := h
  unfold dA at h
  simp only [PySem.W.keyToks, PySem.W.keyToksAll, List.singleton_append, PyProof.Rows.lexLt] at h
  have h1 : itemLt (Sum.inl 1) (Sum.inl 1) = false := by decide
  rw [h1] at h
  simp only [Bool.not_false, Bool.true_and, Bool.false_or, Bool.not_eq_true', Bool.or_eq_false_iff] at h
  have h2 : decide (y.1 < x.1) = false := h.1
  have h2 := of_decide_eq_false h2
  rcases Int.lt_or_le x.1 y.1 with c | c
  · exact .inl c
  · have e : x.1 = y.1 := by omega
    refine .inr ⟨e, ?_⟩
    have h3 := h.2
    have h4 : itemLt (Sum.inl x.1) (Sum.inl y.1) = false := by
      show decide (x.1 < y.1) = false
      exact decide_eq_false (by omega)
    rw [h4] at h3
    simp only [Bool.not_false, Bool.true_and, Bool.or_eq_false_iff] at h3
    have h5 : decide (y.2.1.cps.toList < x.2.1.cps.toList) = false := h3.1
    rcases Decidable.em (x.2.1.cps.toList < y.2.1.cps.toList) with d | d
    · exact d
    · exact absurd ⟨e, PySem.W.str_of_cps (PyProof.Rows.strKind.total _ _ (decide_eq_false d) h5)⟩ hne
theorem sorted_less {l : List Arw} (h : l.Pairwise unlikeA) : (l.mergeSort leA).Pairwise lessA := by
  have h2 : (l.mergeSort leA).Pairwise unlikeA := ((List.mergeSort_perm _ _).pairwise_iff (fun h z => h ⟨z.1.symm, z.2.symm⟩)).mpr h
  have tl := PySem.W.sortLe_total (PyProof.Rows.listOrd itemOrd) false (fun b : Arw => PySem.W.keyToks (dA b))
  have hs : (l.mergeSort leA).Pairwise fun x y => leA x y = true := List.pairwise_mergeSort tl.trans (fun a b => by rw [Bool.or_eq_true]; exact tl.total a b) _
  exact (hs.and h2).imp fun h => leA_less h.1 h.2
theorem less_unlike {l : List Arw} (h : l.Pairwise lessA) : l.Pairwise unlikeA := h.imp fun {x y} h z => by
  rcases h with h | ⟨_, h⟩
  · omega
  · rw [z.2] at h
    exact absurd h (by simp)
theorem alike_dA (a b : Arw) : PySem.W.alike (dA a) (dA b) = true := by
  unfold dA
  simp only [PySem.W.alike, PySem.W.alikeAll, Bool.and_true]
theorem depth_dA (a : Arw) : (dA a).depth ≤ 64 := by
  unfold dA
  simp only [PyData.depth, PyData.depthAll]
  decide
/-- a list of letters -/
def LetAt (H : Hp) (sp : Addr) (cs : List Nat) : Prop := H sp = some (.lst ((cs.map single).map V.str)) ∧ 1 ≤ cs.length ∧ cs.length ≤ 20 ∧ ∀ c ∈ cs, c ∈ lets
theorem LetAt.same {H H' : Hp} {sp : Addr} {cs : List Nat} (h : LetAt H sp cs) (e : Ex H H') : LetAt H' sp cs := ⟨e _ _ h.1, h.2⟩
theorem LetAt.keep {H H' : Hp} {sp a : Addr} {cs : List Nat} (h : LetAt H sp cs) (n : sp ≠ a) (k : Keep a H H') : LetAt H' sp cs := ⟨k _ _ n h.1, h.2⟩
def spFilled (K : PySem.W.Frag) : Sp := fun vs H Q _ => ∃ (v : V) (z : Str) (ar : List Arw) (p c : Int) (sp : Addr) (cs : List Nat), vs = [v, .ref sp] ∧ Dp K H v (dW (z, ar, p, c)) ∧ GoodW z ar p c ∧ LetAt H sp cs ∧
  ∀ u ar' H', Ex H H' → Dp K H' u (dW (z, ar', p, c)) → GoodW z ar' p c → Q u H'
section
variable {P : Program} {w : World} {K : PySem.W.Frag} {mg : Str → Option Value} {base : Heap}
theorem ok_filled {f : Addr} {fd : FuncData} {k : Nat} (F : Fun K "_law_filled" "_law_filled" sLFilled f fd) (T : Txt mg) : FnOk P w K mg base CX0 (k + 1) f fd ["_law_writer_here", "_law_letters_here"] (spFilled K) := by
  refine F.ok sc__law_filled (fun vs H Q E h => ?_) (fun cdv A outer s H vs Q E hr h => ?_)
  · obtain ⟨v, z, ar, p, c, sp, cs, rfl, _⟩ := h
    rfl
  · obtain ⟨v, z, ar, p, c, sp, cs, rfl, hv, g, hsp, q⟩ := h
    have hv : Dp K H v (.tuple [.str z, .tuple (ar.map dA), .int p, .int c]) := hv
    refine ⟨_, (pss_cons (ps_set (i := 2) sc__law_filled.nd rfl (.inl rfl) (pe_callTy call_list_of (by rfl) T.m_list (by decide +kernel) (pa_cons (pe_ix ix_tup (pv 0) pe_int (fun _ _ => rfl)) pa_nil)))
    (pss_cons (ps_for PassesOwn.never rfl (pi_list (pe_op op_cat (pe_lst (pa_cons pe_int pa_nil)) (pe_lc (own := [("_law_at", 4), ("_law_sign", 5), ("_law_to", 6)]) (g := (gTup K 3 (gCons (gName 4) (gCons (gName 5) (gCons (gName 6) gNil))))) (by rfl) sc__law_filled.nd (pi_tup (pe_ix ix_tup (pv 0) pe_int (fun _ _ => rfl))) (blkOk_by (own := [("_law_at", 4), ("_law_sign", 5), ("_law_to", 6)]) (N := ["_law_writer_here", "_law_letters_here", "_law_lines", "_law_place", "_law_at", "_law_sign", "_law_to"]) (sc := defScope sLFilled) (by decide +kernel)) (fun _ _ _ _ _ => (pg_tup rfl (pgs_cons (pg_name (i := 4) sc__law_filled.nd rfl (.inl rfl)) (pgs_cons (pg_name (i := 5) sc__law_filled.nd rfl (.inl rfl)) (pgs_cons (pg_name (i := 6) sc__law_filled.nd rfl (.inl rfl)) pgs_nil))))) (fun _ _ _ _ _ => pts_nil) (fun _ _ _ _ _ => (pv 6))))) (pg_name (i := 3) sc__law_filled.nd rfl (.inl rfl))
    (pss_one (ps_if (pt_cmpR (show OpR _ _ (rIn K true) from op_notIn_seq) (pv 3) (pe_lc (own := [("_law_at", 4), ("_law_sign", 5), ("_law_to", 6)]) (g := (gTup K 3 (gCons (gName 4) (gCons (gName 5) (gCons (gName 6) gNil))))) (by rfl) sc__law_filled.nd (pi_list (pv 2)) (blkOk_by (own := [("_law_at", 4), ("_law_sign", 5), ("_law_to", 6)]) (N := ["_law_writer_here", "_law_letters_here", "_law_lines", "_law_place", "_law_at", "_law_sign", "_law_to"]) (sc := defScope sLFilled) (by decide +kernel)) (fun _ _ _ _ _ => (pg_tup rfl (pgs_cons (pg_name (i := 4) sc__law_filled.nd rfl (.inl rfl)) (pgs_cons (pg_name (i := 5) sc__law_filled.nd rfl (.inl rfl)) (pgs_cons (pg_name (i := 6) sc__law_filled.nd rfl (.inl rfl)) pgs_nil))))) (fun _ _ _ _ _ => pts_nil) (fun _ _ _ _ _ => (pv 4))) (by rfl))
    (pss_one (ps_expr (pe_bm PySem.F.plainAttrs_list PySem.F.slot_list_append PySem.F.type_list_append mt_append (pv 2) (pa_cons (pe_tup (pa_cons (pv 3) (pa_cons (pe_ix ix_list (pv 1) pe_int (fun _ _ => rfl)) (pa_cons pe_int pa_nil)))) pa_nil)))) pss_nil)))
    (pss_one (ps_ret (pe_op op_catA (pe_tup (pa_cons (pe_ix ix_tup (pv 0) pe_int (fun _ _ => rfl)) (pa_cons (pe_callTy call_tuple_of (by rfl) T.m_tuple (by decide +kernel) (pa_cons (pe_slice sl_list (pe_callB (cr_sortedD (hu9 hr)) (by rfl) T.m_sorted (by decide +kernel) (pa_cons (pv 2) pa_nil)) po_none (po_some pe_int)) pa_nil)) pa_nil))) (pe_slice sl_tupA (pv 0) (po_some pe_int) po_none)))))), ?_⟩
    refine sd_asgN (K := K) (ds := ar.map dA) (en_list (ed_ixT (ed_var rfl hv) ev_c (by decide) rfl) (.inr rfl)) fun lp us H1 nlp e1 hlp hus => ?_
    try dsimp only
    have hv1 := dp_same e1 hv
    refine use_n (K := K) (ds := [PyData.int 0] ++ ar.map fun x => PyData.int x.2.2) (en_cat (en_lst (eds_cons (ed_int ev_c) eds_nil) (by show 1 ≤ 100000; decide)).m (en_map ar dA (fun x => PyData.int x.2.2) (ei_tup (ed_ixT (ed_var (i := 0) rfl hv1) ev_c (by decide) rfl)) (by have := g.len; omega) (fun x _ => by unfold fz; rfl) fun j a H2 x hx e2 hdx R kk => tg3 hdx fun u1 u2 u3 b1 b2 b3 => kk _ rfl (ed_var (i := 6) rfl b3)).m (by rw [List.length_map]; have := g.len; show 1 + _ ≤ _; omega)) fun qp ws H2 nqp e2 hqp hws => ?_
    have hlp2 := e2 _ _ hlp
    have hus2 := dps_same e2 hus
    have hv2 := dp_same e2 hv1
    have e12 := e1.trans e2
    have hsp2 := hsp.same e12
    have qpl : qp ≠ lp := fun z => by
      rw [z, hlp] at nqp
      cases nqp
    have spl : sp ≠ lp := ne_of_none hsp.1 nlp
    have wsl : ws.length = 1 + ar.length := by
      have := hws.length
      rw [List.length_append, List.length_map] at this
      exact this
    refine ⟨qp, rfl, ⟨ws, .of hqp⟩, for_it (walk_list (K := K) (xs := ws)) (fun i σ' H' => (∃ y3 y4 y5 y6, σ' = [some v, some (.ref sp), some (.ref lp), y3, y4, y5, y6]) ∧ Keep lp H2 H' ∧ TupK K H2 H' ∧ ∃ acc ar2, H' lp = some (.lst acc) ∧ DpAll K H' acc (ar2.map dA) ∧ ar2.length ≤ 9 + i ∧ (∀ x ∈ ar2, goodA x) ∧ ar2.Pairwise unlikeA) ⟨⟨none, none, none, none, rfl⟩, Keep.refl _, .refl _, us, ar, hlp2, hus2, g.len, g.each, less_unlike g.rise⟩ (fun _ _ _ _ hP => .of (hP.2.1 _ _ qpl hqp)) (fun i y σ' Ha Hb hi hP hy => ?_) (fun σ' H' hP => ?_)⟩
    · obtain ⟨⟨y3, y4, y5, y6, rfl⟩, k1, t1, acc, ar2, hacc, hdacc, al, ga, gu⟩ := hP
      obtain ⟨rfl, hx⟩ := hy
      obtain ⟨dt, hdt, hxd⟩ := hws.at hx
      obtain ⟨t, rfl, t0, t2⟩ : ∃ t : Int, dt = .int t ∧ 0 ≤ t ∧ t ≤ 2 := by
        have := List.mem_of_getElem? hdt
        rcases List.mem_append.mp this with h | h
        · exact ⟨0, List.mem_singleton.mp h, by decide, by decide⟩
        · obtain ⟨x, hx, rfl⟩ := List.mem_map.mp h
          obtain ⟨_, _, _, h4, h5⟩ := g.each x hx
          exact ⟨x.2.2, rfl, h4, h5⟩
      obtain rfl := dp_int hxd
      try dsimp only
      have h9 := g.len
      have hsp4 := hsp2.keep spl k1
      have an : acc.length = ar2.length := by
        have := hdacc.length
        rwa [List.length_map] at this
      refine s_if (b := !decide (t ∈ ar2.map (·.1))) (et_test (ev_is (ev_inI (K := K) (σ := [some v, some (.ref sp), some (.ref lp), some (.int t), y4, y5, y6]) (neg := true) (ns := ar2.map (·.1)) (ev_var (i := 3) rfl) (en_map (g := gTup K 3 (gCons (gName 4) (gCons (gName 5) (gCons (gName 6) gNil)))) (vs := [4, 5, 6]) ar2 dA (fun x => PyData.int x.1) (ei_lst (ed_var (i := 2) rfl (.lst (.of hacc) hdacc))) (by omega) (fun x _ => by unfold fz; rfl) fun j a H5 x hx e5 hdx R kk => tg3 hdx fun u1 u2 u3 b1 b2 b3 => kk _ rfl (ed_var (i := 4) rfl b1)).list (.inl (by rw [List.map_map]; rfl))) rfl)) (fun hb H5 e5 => ?_) fun hb H5 e5 => ?_
      · rw [Bool.not_eq_true', decide_eq_false_iff_not] at hb
        obtain ⟨cc, hc0⟩ : ∃ cc, cs[0]? = some cc := ⟨cs[0]'(by have := hsp.2.1; omega), List.getElem?_eq_getElem _⟩
        have hsp5 := hsp4.same e5
        have hgA : goodA (t, single cc, 0) := ⟨t0, t2, ⟨cc, hsp.2.2.2 cc (List.mem_of_getElem? hc0), rfl⟩, Int.le_refl _, by show (0 : Int) ≤ 2; decide⟩
        refine sd_app (K := K) (d := dA (t, single cc, 0)) rfl (e5 _ _ hacc) (ed_tup (eds_cons (ed_int (ev_var (i := 3) rfl)) (eds_cons (ed_str (ev_ixLv (v := .str (single cc)) (ev_var (i := 1) rfl) ev_c (.of hsp5.1) (by decide) (by show ((cs.map single).map V.str)[0]? = _; rw [List.getElem?_map, List.getElem?_map, hc0]; rfl))) (eds_cons (ed_int ev_c) eds_nil))) (by show 3 ≤ 100000; decide)) (by omega) fun v6 H6 e6 hv6 => ?_
        have hacc6 := e6 _ _ (e5 _ _ hacc)
        have t6 : TupK K H6 (upd H6 lp (.lst (acc ++ [v6]))) := .lst hacc6
        refine ⟨⟨_, _, _, _, rfl⟩, (k1.trans (.of_same (e5.trans e6))).trans .at, (t1.trans (.of (e5.trans e6))).trans t6, acc ++ [v6], ar2 ++ [(t, single cc, 0)], upd_same, ?_, by rw [List.length_append, List.length_singleton]; omega, ?_, ?_⟩
        · rw [List.map_append]
          exact DpAll.app (dps_tk t6 (fz_map fun x _ => fz_dA x) (dps_same (e5.trans e6) hdacc)) (.one (dp_tk t6 (fz_dA _) hv6))
        · intro x hx
          rcases List.mem_append.mp hx with hx | hx
          · exact ga x hx
          · rw [List.mem_singleton.mp hx]
            exact hgA
        · refine List.pairwise_append.mpr ⟨gu, List.pairwise_singleton _ _, fun x hx y hy => ?_⟩
          rw [List.mem_singleton.mp hy]
          exact fun z => hb (List.mem_map.mpr ⟨x, hx, z.1⟩)
      · exact ⟨⟨_, _, _, _, rfl⟩, k1.trans (.of_same e5), t1.trans (.of e5), acc, ar2, e5 _ _ hacc, dps_same e5 hdacc, by omega, ga, gu⟩
    · obtain ⟨⟨y3, y4, y5, y6, rfl⟩, k1, t1, acc, ar2, hacc, hdacc, al, ga, gu⟩ := hP
      have hv4 := dp_tk t1 (fz_dW (z, ar, p, c)) hv2
      have hv4 : Dp K H' v (.tuple [.str z, .tuple (ar.map dA), .int p, .int c]) := hv4
      have eH : Ex H H' := fun b o hb => k1 b o (ne_of_none hb nlp) (e12 b o hb)
      have hst : ((ar2.mergeSort leA).take 9).Pairwise lessA := (sorted_less gu).sublist (List.take_sublist _ _)
      refine sd_ret (K := K) (d := dW (z, (ar2.mergeSort leA).take 9, p, c)) (ed_is (ed_catA (ed_tup (eds_cons (ed_ixT (ed_var (i := 0) rfl hv4) ev_c (by decide) rfl) (eds_cons (ed_tuple (en_slToL (k := 9) (en_sorted (ed_var (i := 2) rfl (.lst (.of hacc) hdacc)) (PySem.W.AllAlike.of alike_dA) (PySem.W.Sortable.tuples fun b => ⟨_, _, rfl⟩) (fun d hd => by
        obtain ⟨x, _, rfl⟩ := List.mem_map.mp hd
        exact depth_dA x)).list ev_c).list) eds_nil)) (by show 2 ≤ 100000; decide)) (ed_slFrom (k := 2) (ed_var (i := 0) rfl hv4) ev_c) (by show 2 + 2 ≤ 100000; decide)) ?_) fun u H5 e5 hu => ?_
      · rw [sort_dA, ← List.map_take]
        rfl
      · refine q u _ H5 (eH.trans e5) hu ⟨g.name, by rw [List.length_take]; omega, fun x hx => ga x (List.mem_mergeSort.mp (List.mem_of_mem_take hx)), hst, g.p0, g.p3, g.c0, g.c3⟩
end
end Ink
namespace Ink
open PySem PySem.Spec PyProof.Rows L2 Evl
/-! ### companies of not many stands; writers who take turns -/
def shrinkM (m : List Wr) : List Wr := (m.take 2).map fun x => (x.1, x.2.1, 0, 0)
theorem shrink_good {m : List Wr} (g : GoodM m) (h : 1 ≤ m.length) : GoodM (shrinkM m) ∧ 1 ≤ (shrinkM m).length := by
  unfold shrinkM
  refine ⟨⟨by rw [List.length_map, List.length_take]; omega, fun x hx => ?_, ?_⟩, by rw [List.length_map, List.length_take]; omega⟩
  · obtain ⟨y, hy, rfl⟩ := List.mem_map.mp hx
    have := g.wr y (List.mem_of_mem_take hy)
    exact ⟨this.name, this.len, this.each, this.rise, Int.le_refl _, by show (0 : Int) ≤ 3; decide, Int.le_refl _, by show (0 : Int) ≤ 3; decide⟩
  · rw [List.map_map]
    have : ((fun x : Wr => x.1) ∘ fun x : Wr => (x.1, x.2.1, (0 : Int), (0 : Int))) = fun x => x.1 := rfl
    rw [this, List.map_take]
    exact g.nd.sublist (List.take_sublist _ _)
def spMade (K : PySem.W.Frag) : Sp := fun vs H Q _ => ∃ (a l sp : Addr) (cs : List Nat) (n : Nat), vs = [.ref a, .ref sp, .int (n : Int)] ∧ BagAt H a l ∧ LetAt H sp cs ∧ sp ≠ a ∧ cs.Pairwise (· < ·) ∧ n ≤ 99 ∧
  ∀ p ms H', H p = none → GoodM ms → 1 ≤ ms.length → MAt K H' a p ms → BagAt H' a l → Keep a H H' → Q (.ref p) H'
def spTurns (K : PySem.W.Frag) : Sp := fun vs H Q _ => ∃ (a l sp : Addr) (cs : List Nat), vs = [.ref a, .ref sp] ∧ BagAt H a l ∧ LetAt H sp cs ∧ sp ≠ a ∧
  ∀ p ms H', H p = none → GoodM ms → 1 ≤ ms.length → MAt K H' a p ms → BagAt H' a l → Keep a H H' → Q (.ref p) H'
section
variable {P : Program} {w : World} {K : PySem.W.Frag} {mg : Str → Option Value} {base : Heap}
theorem many_of {v : V} (h : v ∈ [V.int 2, V.int 2, V.int 3]) : ∃ t : Int, v = .int t ∧ 2 ≤ t ∧ t ≤ 3 := by
  simp only [List.mem_cons, List.not_mem_nil, or_false] at h
  rcases h with rfl | rfl | rfl <;> exact ⟨_, rfl, by decide, by decide⟩
/-- [w[:2] + (0, 0) for w in m[:2]] -/
theorem en_shrink {σ : L2.St} {H : Hp} {v : V} {m : List Wr} {i j : Nat} (h3 : m.length ≤ 3) (hi : σ[i]? = some (some v)) (hd : Dp K H v (dMl m)) (h1 : ∀ x : V, ((wipe σ [j]).set j (some x))[j]? = some (some x)) (hw : ∀ x : V, wipe ((wipe σ [j]).set j (some x)) [j] = wipe σ [j]) :
    EvN K (tLc (iList K (tSl (rSlL K) (tVar i) tNoPart (tPart (tC (.int 2))))) (gName j) tYes (tOp (rCatA K) (tSl (rSlA K) (tVar j) tNoPart (tPart (tC (.int 2)))) (tTup (tCons (tC (.int 0)) (tCons (tC (.int 0)) tNil)))) [j]) σ H ((shrinkM m).map dW) := by
  have e : (shrinkM m).map dW = (m.take 2).map fun x : Wr => dW (x.1, x.2.1, 0, 0) := by
    unfold shrinkM
    rw [List.map_map]
    rfl
  rw [e]
  refine en_map (m.take 2) dW (fun x => dW (x.1, x.2.1, 0, 0)) (ei_lst (EvN.list (by rw [List.map_take]; exact en_slToL (k := 2) (ed_var hi hd) ev_c))) (by rw [List.length_take]; omega) (fun x _ => fz_dW _) fun jj x H1 v1 hx e1 hd1 R kk => ?_
  have hd1 : Dp K H1 v1 (.tuple [.str x.1, .tuple (x.2.1.map dA), .int x.2.2.1, .int x.2.2.2]) := hd1
  exact kk _ (hw _) (ed_catA (ed_slTo (k := 2) (ed_var (h1 _) hd1) ev_c) (ed_tup (eds_cons (ed_int ev_c) (eds_cons (ed_int ev_c) eds_nil)) (by show 2 ≤ 100000; decide)) (by show 2 + 2 ≤ 100000; decide))
/-- the number of ways up to one more than n -/
theorem ways_few {σ : L2.St} {H : Hp} {Q : VK} {m : List Wr} {p : Addr} {n i : Nat} {tn : TE} {E : XK} (hi : σ[i]? = some (some (.ref p))) (hd : Dp K H (.ref p) (dMl m)) (g : GoodM m) (hn : n ≤ 99) (ht : Ev tn σ H (.int (n : Int))) (q : ∀ (b : Nat) H', Ex H H' → Q (.int (b : Int)) H') :
    tCB (rLenN P w K) (tCons (tCall (spWays P w K) [] E (tCons (tVar i) (tCons (tOp rAdd tn (tC (.int 1))) tNil))) tNil) σ H Q := by
  refine ⟨.ref p, hi, ht H (.refl H) _ fun H1 e1 => ⟨_, _, rfl, rfl, ?_⟩⟩
  refine ⟨.ref p, m, n + 1, by simp only [Int.natCast_add]; rfl, dp_same e1 hd, g, by omega, fun d H2 nd s2 dr => ?_⟩
  obtain ⟨kvs, hk, hl⟩ := dr.len
  exact ⟨d, kvs, rfl, hk, q _ _ (e1.trans s2)⟩
theorem ok_tight {f : Addr} {fd : FuncData} {k : Nat} (F : Fun K "_law_tight" "_law_tight" sLTight f fd) (T : Txt mg) (C__law_pull : Cal P w K mg base k "_law_pull" ["_law_bag_here", "_law_many"] spPull) (C__law_company : Cal P w K mg base k "_law_company" ["_law_bag_here", "_law_limit", "_law_signs_here"] (spComp K))
    (C__law_filled : Cal P w K mg base k "_law_filled" ["_law_writer_here", "_law_letters_here"] (spFilled K)) (C__law_ways : Cal P w K mg base k "_law_ways" ["_law_m", "_law_limit"] (spWays P w K)) :
    FnOk P w K mg base CX0 (k + 1) f fd ["_law_bag_here", "_law_letters_here", "_law_limit"] (spMade K) := by
  refine F.ok sc__law_tight (fun vs H Q E h => ?_) (fun cdv A outer s H vs Q E hr h => ?_)
  · obtain ⟨a, l, sp, cs, n, rfl, _⟩ := h
    rfl
  · obtain ⟨a, l, sp, cs, n, rfl, hB, hsp, spa, hrise, hn, q⟩ := h
    refine ⟨_, (pss_cons (ps_set (i := 3) sc__law_tight.nd rfl (.inl rfl) (pe_callC C__law_company hr (by rfl) (pa_cons (pv 0) (pa_cons pe_int (pa_cons (pv 1) pa_nil)))))
    (Evl.pss_cut (ps_if (pt_cmpR op_gt (pe_callC C__law_pull hr (by rfl) (pa_cons (pv 0) (pa_cons pe_int pa_nil))) pe_int (nomark _))
    (pss_one (ps_setLc (i := 3) (own := [("_law_writer_here", 4)]) (g := (gName 4)) (by rfl) sc__law_tight.nd rfl rfl (sw_true rfl rfl rfl (by decide +kernel)) (pi_list (pv 3)) (blkOk_by (own := [("_law_writer_here", 4)]) (N := ["_law_bag_here", "_law_letters_here", "_law_limit", "_law_m", "_law_writer_here"]) (sc := defScope sLTight) (by decide +kernel)) (fun _ _ _ _ _ => (pg_name (i := 4) sc__law_tight.nd rfl (Or.inl rfl))) (fun _ _ _ _ _ => pts_nil) (fun _ _ _ _ _ => (pe_callC C__law_filled hr (by rfl) (pa_cons (pv 4) (pa_cons (pv 1) pa_nil)))))) pss_nil)
    (Evl.pss_cut (ps_if (pt_cmpR op_gt (pe_callB cr_lenN (by rfl) T.m_len PySem.boot_len (pa_cons (pe_callC C__law_ways hr (by rfl) (pa_cons (pv 3) (pa_cons (pe_op op_add (pv 2) pe_int) pa_nil))) pa_nil)) (pv 2) (nomark _))
    (pss_one (ps_setLc (i := 3) (own := [("_law_writer_here", 4)]) (g := (gName 4)) (by rfl) sc__law_tight.nd rfl rfl (sw_true rfl rfl rfl (by decide +kernel)) (pi_list (pe_slice sl_list (pv 3) po_none (po_some pe_int))) (blkOk_by (own := [("_law_writer_here", 4)]) (N := ["_law_bag_here", "_law_letters_here", "_law_limit", "_law_m", "_law_writer_here"]) (sc := defScope sLTight) (by decide +kernel)) (fun _ _ _ _ _ => (pg_name (i := 4) sc__law_tight.nd rfl (Or.inl rfl))) (fun _ _ _ _ _ => pts_nil) (fun _ _ _ _ _ => (pe_op (show OpR _ (binaryOp .Add) (rCatA K) from op_catA) (pe_slice (show SlR _ (rSlA K) from sl_tupA) (pv 4) po_none (po_some pe_int)) (pe_tup (pa_cons pe_int (pa_cons pe_int pa_nil))))))) pss_nil)
    (pss_one (ps_ret (pv 3)))))), ?_⟩
    refine ⟨.ref a, rfl, .ref sp, rfl, a, l, sp, 3, cs, rfl, hB, by decide, by decide, hsp.1, spa, hsp.2.2.2, hrise, fun p m H1 np g hm1 hM1 hB1 k1 => ?_⟩
    try dsimp only
    have hsp1 := hsp.keep spa k1
    refine g_go ?_
    try dsimp only
    refine Evl.q_cut (M := fun σ' H' => ∃ p m y4, σ' = [some (.ref a), some (.ref sp), some (.int (n : Int)), some (.ref p), y4] ∧ H p = none ∧ GoodM m ∧ 1 ≤ m.length ∧ MAt K H' a p m ∧ BagAt H' a l ∧ Keep a H H') ?_ fun σ' H2 hM => ?_
    · refine ⟨.ref a, rfl, a, l, 4, rfl, hB1, by decide, by decide, fun r H2 _ _ hB2 k2 => ⟨_, _, rfl, rfl, _, rfl, ite2 (fun _ => ?_) fun _ => ?_⟩⟩
      · have hM2 := hM1.keep hB1 k2
        obtain ⟨us, hp2, hus, npa⟩ := id hM2
        have hul := hus.length
        rw [List.length_map] at hul
        have l3 := g.len
        have hsp2 := hsp1.keep spa k2
        refine ⟨.ref p, rfl, p, rfl, ⟨us, .of hp2⟩, fun D nD => ?_⟩
        have nl := hB2.ne nD
        have eD := Ex.new (o := .lst ([] : List V)) nD
        refine lc_it (walk_list (K := K) (xs := us)) (fun i H' => Ex H2 H' ∧ ∃ ts ms, H' D = some (.lst ts) ∧ DpAll K H' ts (ms.map dW) ∧ (∀ x ∈ ms, GoodW x.1 x.2.1 x.2.2.1 x.2.2.2) ∧ ms.map (·.1) = (m.take i).map (·.1)) ⟨eD, [], [], upd_same, .nil, fun _ h => (by cases h), rfl⟩ (fun i H' _ hP => .of (hP.1 _ _ hp2)) (fun i x Ha Hb hi hP hy => ?_) (fun H3 hP => ?_)
        · obtain ⟨ex, ts, ms, hD, hts, hg, hns⟩ := hP
          obtain ⟨rfl, hx⟩ := hy
          obtain ⟨dt, hdt, hxd⟩ := hus.at hx
          rw [List.getElem?_map, Option.map_eq_some_iff] at hdt
          obtain ⟨x0, hx0, rfl⟩ := hdt
          refine ⟨rfl, yes_of (iteT ?_)⟩
          refine ⟨x, rfl, .ref sp, rfl, x, x0.1, x0.2.1, x0.2.2.1, x0.2.2.2, sp, cs, rfl, dp_same ex hxd, g.wr _ (List.mem_of_getElem? hx0), hsp2.same ex, fun u ar' H4 e4 hu hgw => ?_⟩
          have tl : ts.length = ms.length := by
            have := hts.length
            rwa [List.length_map] at this
          have ml : ms.length ≤ 3 := by
            have := congrArg List.length hns
            rw [List.length_map, List.length_map, List.length_take] at this
            omega
          have t4 : TupK K H4 (upd H4 D (.lst (ts ++ [u]))) := .lst (e4 _ _ hD)
          refine ⟨ts, e4 _ _ hD, small_lt (by omega), fun b o hb => ?_, ts ++ [u], ms ++ [(x0.1, ar', x0.2.2)], upd_same, ?_, ?_, ?_⟩
          · rw [upd_ne (ne_of_none hb nD)]
            exact e4 _ _ (ex b o hb)
          · rw [List.map_append]
            exact DpAll.app (dps_tk t4 (fz_dWs ms) (dps_same e4 hts)) (.one (dp_tk t4 (fz_dW _) hu))
          · intro y hy
            rcases List.mem_append.mp hy with hy | hy
            · exact hg y hy
            · rw [List.mem_singleton.mp hy]
              exact hgw
          · rw [List.map_append, hns, take_snoc hx0, List.map_append]
            rfl
        · obtain ⟨ex, ts, ms, hD, hts, hg, hns⟩ := hP
          rw [hul, List.take_length] at hns
          have lm := congrArg List.length hns
          rw [List.length_map, List.length_map] at lm
          exact ⟨D, ms, _, rfl, Keep.free (k1.trans k2) nl.1 nD, ⟨by omega, hg, by rw [hns]; exact g.nd⟩, by omega, ⟨ts, hD, hts, nl.1.symm⟩, hB2.same ex, (k1.trans k2).trans (.of_same ex)⟩
      · exact ⟨p, m, _, rfl, np, g, hm1, hM1.keep hB1 k2, hB2, k1.trans k2⟩
    · obtain ⟨p, m, y4, rfl, np, g, hm1, hM2, hB2, k2⟩ := hM
      refine Evl.q_cut (M := fun σ' H' => ∃ p m y4, σ' = [some (.ref a), some (.ref sp), some (.int (n : Int)), some (.ref p), y4] ∧ H p = none ∧ GoodM m ∧ 1 ≤ m.length ∧ MAt K H' a p m ∧ BagAt H' a l ∧ Keep a H H') ?_ fun σ' H3 hM => ?_
      · refine ways_few (P := P) (w := w) (n := n) rfl hM2.dp g hn (ev_var rfl) fun b H3 e3 => ⟨_, rfl, _, _, rfl, rfl, _, rfl, ite2 (fun _ => ?_) fun _ => ?_⟩
        · obtain ⟨gs, ls⟩ := shrink_good g hm1
          refine sd_asgN (K := K) (en_shrink (i := 3) (j := 4) g.len rfl (hM2.same e3).dp (fun _ => rfl) (fun _ => rfl)) fun p2 vs H4 np2 e4 hp2 hvs => ?_
          have k4 := k2.trans (.of_same (e3.trans e4))
          have np2H : H p2 = none := Keep.free (k2.trans (.of_same e3)) ((hB2.same e3).ne np2).1 np2
          exact ⟨p2, shrinkM m, _, rfl, np2H, gs, ls, ⟨vs, hp2, hvs, ((hB2.same e3).ne np2).1.symm⟩, hB2.same (e3.trans e4), k4⟩
        · exact ⟨p, m, _, rfl, np, g, hm1, hM2.same e3, hB2.same e3, k2.trans (.of_same e3)⟩
      · obtain ⟨p, m, y4, rfl, np, g, hm1, hM3, hB3, k3⟩ := hM
        exact ⟨.ref p, rfl, q p m H3 np g hm1 hM3 hB3 k3⟩
theorem ok_turns {f : Addr} {fd : FuncData} {k : Nat} (F : Fun K "_law_taking_turns" "_law_taking_turns" sLTakingTurns f fd) (T : Txt mg) (C__law_pull : Cal P w K mg base k "_law_pull" ["_law_bag_here", "_law_many"] spPull) (C__law_of : Cal P w K mg base k "_law_of" ["_law_bag_here", "_law_things"] (spOf K))
    (C__law_names : Cal P w K mg base k "_law_names" ["_law_bag_here", "_law_many"] spNames) :
    FnOk P w K mg base CX0 (k + 1) f fd ["_law_bag_here", "_law_letters_here"] (spTurns K) := by
  refine F.ok sc__law_taking_turns (fun vs H Q E h => ?_) (fun cdv A outer s H vs Q E hr h => ?_)
  · obtain ⟨a, l, sp, cs, rfl, _⟩ := h
    rfl
  · obtain ⟨a, l, sp, cs, rfl, hB, hsp, spa, q⟩ := h
    refine ⟨_, (pss_cons (ps_set (i := 2) sc__law_taking_turns.nd rfl (.inl rfl) (pe_callC C__law_of hr (by rfl) (pa_cons (pv 0) (pa_cons (pe_lst (pa_cons pe_int (pa_cons pe_int (pa_cons pe_int pa_nil)))) pa_nil))))
    (pss_cons (ps_set (i := 3) sc__law_taking_turns.nd rfl (.inl rfl) (pe_lst pa_nil))
    (pss_cons (ps_for PassesOwn.never rfl (pi_list (pe_callC C__law_names hr (by rfl) (pa_cons (pv 0) (pa_cons (pv 2) pa_nil)))) (pg_name (i := 4) sc__law_taking_turns.nd rfl (.inl rfl))
    (pss_cons (ps_set (i := 5) sc__law_taking_turns.nd rfl (.inr rfl) (pe_op op_add pe_int (pe_callC C__law_pull hr (by rfl) (pa_cons (pv 0) (pa_cons (pe_op op_sub pe_int (pv 2)) pa_nil)))))
    (pss_cons (ps_setLc (i := 6) (own := [("_law_k", 7)]) (g := (gName 7)) (by rfl) sc__law_taking_turns.nd rfl rfl (sw_true rfl rfl rfl (by decide +kernel)) (pi_range1 (by rfl) T.m_range (pa_cons (pv 5) pa_nil)) (blkOk_by (own := [("_law_k", 7)]) (N := ["_law_bag_here", "_law_letters_here", "_law_many", "_law_found", "_law_name", "_law_places", "_law_lines", "_law_k"]) (sc := defScope sLTakingTurns) (by decide +kernel)) (fun _ _ _ _ _ => (pg_name (i := 7) sc__law_taking_turns.nd rfl (Or.inl rfl))) (fun _ _ _ _ _ => pts_nil) (fun _ _ _ _ _ => (pe_tup (pa_cons (pv 7) (pa_cons (pe_callC C__law_of hr (by rfl) (pa_cons (pv 0) (pa_cons (pv 1) pa_nil))) (pa_cons (pe_op op_mod (pe_op op_add (pv 7) pe_int) (pv 5)) pa_nil))))))
    (pss_one (ps_expr (pe_bm PySem.F.plainAttrs_list PySem.F.slot_list_append PySem.F.type_list_append mt_append (pv 3) (pa_cons (pe_tup (pa_cons (pv 4) (pa_cons (pe_callTy call_tuple_of (by rfl) T.m_tuple (by decide +kernel) (pa_cons (pv 6) pa_nil)) (pa_cons (pe_op op_sub (pv 2) pe_int) (pa_cons pe_int pa_nil))))) pa_nil)))))))
    (pss_one (ps_ret (pv 3)))))), ?_⟩
    refine ⟨.ref a, rfl, by show 3 ≤ sizeLine; decide, fun p2 np2 => ?_⟩
    refine ⟨a, l, _, _, rfl, hB.upd (hB.ne np2), .inl ⟨p2, rfl, (hB.ne np2).1.symm, .inl (.of upd_same)⟩, by decide, by decide, fun v H1 hv hB1 k1 => ?_⟩
    obtain ⟨t, rfl, t2, t3⟩ := many_of hv
    have k1 : Keep a H H1 := (Keep.of_same (same_new np2)).trans k1
    refine ⟨by show 0 ≤ sizeLine; decide, fun fp nfp => ?_⟩
    have k2 := k1.trans (Keep.of_same (same_new (o := .lst ([] : List V)) nfp))
    have hB2 := hB1.upd (o := .lst ([] : List V)) (hB1.ne nfp)
    have nl := hB1.ne nfp
    have nfa : fp ≠ a := nl.1.symm
    have nfpH : H fp = none := Keep.free k1 nfa.symm nfp
    have hfp : (upd H1 fp (.lst ([] : List V))) fp = some (.lst []) := upd_same
    generalize upd H1 fp (.lst ([] : List V)) = H2 at k2 hB2 hfp
    try dsimp only
    refine ⟨.ref a, rfl, .int t, rfl, a, l, t, rfl, hB2, by omega, by omega, fun np zs H4 nnp hlen hz hnd hnp hB4 k4 => ?_⟩
    have hnfp : np ≠ fp := fun z => by
      rw [z, hfp] at nnp
      cases nnp
    have nnpa : np ≠ a := (hB2.ne nnp).1.symm
    have spf : sp ≠ fp := ne_of_none (k1 _ _ spa hsp.1) nfp
    refine ⟨np, rfl, ⟨_, .of hnp⟩, for_it (walk_list (K := K) (xs := zs.map V.str)) (fun i σ' H' => (∃ y4 y5 y6 y7, σ' = [some (.ref a), some (.ref sp), some (.int t), some (.ref fp), y4, y5, y6, y7]) ∧ BagAt H' a l ∧ Keep a H H' ∧ H' np = some (.lst (zs.map V.str)) ∧
      ∃ vs ms, H' fp = some (.lst vs) ∧ DpAll K H' vs (ms.map dW) ∧ ms.map (·.1) = zs.take i ∧ ∀ w ∈ ms, GoodW w.1 w.2.1 w.2.2.1 w.2.2.2) ⟨⟨none, none, none, none, rfl⟩, hB4, k2.trans k4, hnp, [], [], k4 _ _ nfa hfp, .nil, rfl, fun _ h => (by cases h)⟩ (fun i σ' H' _ hP => .of hP.2.2.2.1) (fun i x σ' Ha Hb hi hP hy => ?_) (fun σ' H' hP => ?_)⟩
    · obtain ⟨⟨y4, y5, y6, y7, rfl⟩, hB5, k5, hnp5, vs, ms, hfp5, hvs, hns, hgs⟩ := hP
      obtain ⟨rfl, hx⟩ := hy
      rw [List.getElem?_map] at hx
      rw [List.length_map] at hi
      rw [List.getElem?_eq_getElem hi] at hx
      obtain rfl := (Option.some.inj hx).symm
      have hzi := hz _ (List.getElem_mem hi)
      have hvl : vs.length ≤ 20 := by
        have h1 := hvs.length
        have h2 := congrArg List.length hns
        rw [List.length_map] at h1 h2
        rw [List.length_take] at h2
        omega
      have hsp5 := hsp.keep spa k5
      -- places
      refine ⟨.ref a, rfl, .int t, rfl, _, _, rfl, rfl, a, l, 5 - t, rfl, hB5, by omega, by omega, fun r' H6 r0' r1' hB6 k6 => ⟨1, r', rfl, rfl, ?_⟩⟩
      try dsimp only
      have hsp6 := hsp5.keep spa k6
      -- lines
      refine ⟨.int (1 + r'), rfl, 1 + r', rfl, by omega, by omega, fun D nD => ?_⟩
      have nlD := hB6.ne nD
      have Dsp : sp ≠ D := ne_of_none hsp6.1 nD
      refine lc_it walk_range0 (fun i H' => BagAt H' a l ∧ Keep a H6 H' ∧ ∃ ts ar, H' D = some (.lst ts) ∧ DpAll K H' ts (ar.map dA) ∧ ar.length = i ∧ (∀ x ∈ ar, goodA x ∧ x.1 < (i : Int)) ∧ ar.Pairwise lessA) ⟨hB6.upd nlD, Keep.mut (Keep.refl H6) nD, [], [], upd_same, .nil, rfl, fun _ h => (by cases h), .nil⟩ (fun _ _ _ _ => True.intro) (fun i x Ha Hb hi2 hP hy => ?_) (fun H7 hP => ?_)
      · obtain ⟨hB7, k7, ts, ar, hD, hts, hal, hga, hpw⟩ := hP
        obtain ⟨rfl, rfl⟩ := hy
        have hi3 : (i : Int) < 3 := by omega
        refine ⟨rfl, yes_of (iteT ?_)⟩
        have hsp7 := hsp6.keep spa k7
        refine ⟨.int (i : Int), rfl, .ref a, rfl, .ref sp, rfl, a, l, _, _, rfl, hB7, .inl ⟨sp, rfl, spa, .inl (.of hsp7.1)⟩, by rw [List.length_map, List.length_map]; have := hsp.2.1; omega, by rw [List.length_map, List.length_map]; have := hsp.2.2.1; omega, fun v H8 hv hB8 k8 => ?_⟩
        obtain ⟨zz, hzz, rfl⟩ := List.mem_map.mp hv
        obtain ⟨cc, hcc, rfl⟩ := List.mem_map.mp hzz
        try dsimp only
        have tl : ts.length = ar.length := by
          have := hts.length
          rwa [List.length_map] at this
        refine (ev_op (ev_op (ev_var (i := 7) rfl) ev_c rv_I0) (ev_var (i := 5) rfl) (rv_I (C := fun _ j => 0 < j) (g := fun i j => .int (i % j)) (by omega))) H8 (.refl _) _ fun H9 e9 => ?_
        refine ⟨by show 3 ≤ sizeLine; decide, fun Q9 nQ => ?_⟩
        have hD8 := k8 _ _ nlD.1.symm hD
        have hD9 := e9 _ _ hD8
        have eQ := Ex.new (o := .tup [V.int (i : Int), .str (single cc), .int (((i : Int) + 1) % (1 + r'))]) nQ
        have m0 : 0 ≤ ((i : Int) + 1) % (1 + r') := Int.emod_nonneg _ (by omega)
        have m1 : ((i : Int) + 1) % (1 + r') < 1 + r' := Int.emod_lt_of_pos _ (by omega)
        have hB9 := (hB8.same e9).same eQ
        have hts9 := dps_same eQ (dps_same e9 (dps_keep hB7 k8 (fz_map fun x _ => fz_dA x) hts))
        have hnew : Dp K (upd H9 Q9 (.tup [V.int (i : Int), .str (single cc), .int (((i : Int) + 1) % (1 + r'))])) (.ref Q9) (dA ((i : Int), single cc, ((i : Int) + 1) % (1 + r'))) := .tup (.of upd_same) (.cons (.int _) (.cons (.str _) (.cons (.int _) .nil)))
        have t10 : TupK K (upd H9 Q9 (.tup [V.int (i : Int), .str (single cc), .int (((i : Int) + 1) % (1 + r'))])) (upd (upd H9 Q9 (.tup [V.int (i : Int), .str (single cc), .int (((i : Int) + 1) % (1 + r'))])) D (.lst (ts ++ [V.ref Q9]))) := .lst (eQ _ _ hD9)
        refine ⟨ts, eQ _ _ hD9, small_lt (by omega), hB9.upd nlD, Keep.mut (((k7.trans k8).trans (.of_same e9)).trans (.of_same eQ)) nD, ts ++ [V.ref Q9], ar ++ [((i : Int), single cc, ((i : Int) + 1) % (1 + r'))], upd_same, ?_, by rw [List.length_append, hal]; rfl, ?_, ?_⟩
        · rw [List.map_append]
          exact DpAll.app (dps_tk t10 (fz_map fun x _ => fz_dA x) hts9) (.one (dp_tk t10 (fz_dA _) hnew))
        · intro x hx
          rcases List.mem_append.mp hx with hx | hx
          · obtain ⟨g1, g2⟩ := hga x hx
            exact ⟨g1, by omega⟩
          · rw [List.mem_singleton.mp hx]
            exact ⟨⟨by show (0 : Int) ≤ (i : Int); omega, by show ((i : Int)) ≤ 2; omega, ⟨cc, hsp.2.2.2 cc hcc, rfl⟩, m0, by show ((i : Int) + 1) % (1 + r') ≤ 2; omega⟩, by show (i : Int) < ((i + 1 : Nat) : Int); omega⟩
        · refine List.pairwise_append.mpr ⟨hpw, List.pairwise_singleton _ _, fun x hx y hy => ?_⟩
          rw [List.mem_singleton.mp hy]
          exact .inl (hga x hx).2
      · obtain ⟨hB7, k7, ts, ar, hD, hts, hal, hga, hpw⟩ := hP
        refine g_go ?_
        try dsimp only
        have k57 := (k5.trans k6).trans k7
        have hfp7 := k7 _ _ nfa (k6 _ _ nfa hfp5)
        have hvs7 := dps_keep hB6 k7 (fz_dWs ms) (dps_keep hB5 k6 (fz_dWs ms) hvs)
        refine sd_app (K := K) (d := dW (zs[i], ar, t - 1, 0)) rfl hfp7 (ed_tup (eds_cons (ed_str (ev_var (i := 4) rfl)) (eds_cons (ed_tuple (ed_var (i := 6) rfl (.lst (.of hD) hts))) (eds_cons (ed_int (ev_op (ev_var (i := 2) rfl) ev_c rv_I0)) (eds_cons (ed_int ev_c) eds_nil)))) (by show 4 ≤ 100000; decide)) (by omega) fun v8 H8 e8 hv8 => ?_
        have hfp8 := e8 _ _ hfp7
        have t8 : TupK K H8 (upd H8 fp (.lst (vs ++ [v8]))) := .lst hfp8
        refine ⟨⟨_, _, _, _, rfl⟩, (hB7.same e8).upd nl, Keep.mut (k57.trans (.of_same e8)) nfpH, by rw [upd_ne hnfp]; exact e8 _ _ (k7 _ _ nnpa (k6 _ _ nnpa hnp5)), vs ++ [v8], ms ++ [(zs[i], ar, t - 1, 0)], upd_same, ?_, ?_, ?_⟩
        · rw [List.map_append]
          exact DpAll.app (dps_tk t8 (fz_dWs ms) (dps_same e8 hvs7)) (.one (dp_tk t8 (fz_dW _) hv8))
        · rw [List.map_append, hns, take_snoc (List.getElem?_eq_getElem hi)]
          rfl
        · intro w hw
          rcases List.mem_append.mp hw with hw | hw
          · exact hgs w hw
          · rw [List.mem_singleton.mp hw]
            exact ⟨hzi, by show ar.length ≤ 9; omega, fun x hx => (hga x hx).1, hpw, by show 0 ≤ t - 1; omega, by show t - 1 ≤ 3; omega, Int.le_refl _, by show (0 : Int) ≤ 3; decide⟩
    · obtain ⟨⟨y4, y5, y6, y7, rfl⟩, hB5, k5, hnp5, vs, ms, hfp5, hvs, hns, hgs⟩ := hP
      rw [List.length_map, List.take_length] at hns
      have hl := congrArg List.length hns
      rw [List.length_map] at hl
      exact ⟨.ref fp, rfl, q fp ms H' nfpH ⟨by omega, hgs, by rw [hns]; exact hnd⟩ (by omega) ⟨vs, hfp5, hvs, nfa⟩ hB5 k5⟩
theorem ok_delayed {f : Addr} {fd : FuncData} {k : Nat} (F : Fun K "_law_delayed" "_law_delayed" sLDelayed f fd) (T : Txt mg) (C__law_pull : Cal P w K mg base k "_law_pull" ["_law_bag_here", "_law_many"] spPull) (C__law_tight : Cal P w K mg base k "_law_tight" ["_law_bag_here", "_law_letters_here", "_law_limit"] (spMade K))
    (C__law_taking_turns : Cal P w K mg base k "_law_taking_turns" ["_law_bag_here", "_law_letters_here"] (spTurns K)) (C__law_ways : Cal P w K mg base k "_law_ways" ["_law_m", "_law_limit"] (spWays P w K)) :
    FnOk P w K mg base CX0 (k + 1) f fd ["_law_bag_here", "_law_letters_here", "_law_limit"] (spMade K) := by
  refine F.ok sc__law_delayed (fun vs H Q E h => ?_) (fun cdv A outer s H vs Q E hr h => ?_)
  · obtain ⟨a, l, sp, cs, n, rfl, _⟩ := h
    rfl
  · obtain ⟨a, l, sp, cs, n, rfl, hB, hsp, spa, hrise, hn, q⟩ := h
    refine ⟨_, (pss_cons (ps_if (pt_cmpR op_eq (pe_callC C__law_pull hr (by rfl) (pa_cons (pv 0) (pa_cons pe_int pa_nil))) pe_int (nomark _))
    (pss_one (ps_ret (pe_callC C__law_tight hr (by rfl) (pa_cons (pv 0) (pa_cons (pv 1) (pa_cons (pv 2) pa_nil)))))) pss_nil)
    (pss_cons (ps_set (i := 3) sc__law_delayed.nd rfl (.inl rfl) (pe_callC C__law_taking_turns hr (by rfl) (pa_cons (pv 0) (pa_cons (pv 1) pa_nil))))
    (Evl.pss_cut (ps_if (pt_cmpR op_gt (pe_callB cr_lenN (by rfl) T.m_len PySem.boot_len (pa_cons (pe_callC C__law_ways hr (by rfl) (pa_cons (pv 3) (pa_cons (pe_op op_add (pv 2) pe_int) pa_nil))) pa_nil)) (pv 2) (nomark _))
    (pss_one (ps_setLc (i := 3) (own := [("_law_writer_here", 4)]) (g := (gName 4)) (by rfl) sc__law_delayed.nd rfl rfl (sw_true rfl rfl rfl (by decide +kernel)) (pi_list (pe_slice sl_list (pv 3) po_none (po_some pe_int))) (blkOk_by (own := [("_law_writer_here", 4)]) (N := ["_law_bag_here", "_law_letters_here", "_law_limit", "_law_m", "_law_writer_here"]) (sc := defScope sLDelayed) (by decide +kernel)) (fun _ _ _ _ _ => (pg_name (i := 4) sc__law_delayed.nd rfl (Or.inl rfl))) (fun _ _ _ _ _ => pts_nil) (fun _ _ _ _ _ => (pe_op (show OpR _ (binaryOp .Add) (rCatA K) from op_catA) (pe_slice (show SlR _ (rSlA K) from sl_tupA) (pv 4) po_none (po_some pe_int)) (pe_tup (pa_cons pe_int (pa_cons pe_int pa_nil))))))) pss_nil)
    (pss_one (ps_ret (pv 3)))))), ?_⟩
    refine ⟨.ref a, rfl, a, l, 2, rfl, hB, by decide, by decide, fun r H1 _ _ hB1 k1 => ⟨rfl, _, rfl, ite2 (fun _ => ?_) fun _ => ?_⟩⟩
    · refine ⟨.ref a, rfl, .ref sp, rfl, .int n, rfl, a, l, sp, cs, n, rfl, hB1, hsp.keep spa k1, spa, hrise, hn, fun p m H2 np g hm hM hB2 k2 => q p m H2 (Keep.free k1 (hB1.ne np).1 np) g hm hM hB2 (k1.trans k2)⟩
    · refine go_next ?_
      try dsimp only
      refine ⟨.ref a, rfl, .ref sp, rfl, a, l, sp, cs, rfl, hB1, hsp.keep spa k1, spa, fun p m H2 np g hm hM hB2 k2 => ?_⟩
      refine g_go ?_
      try dsimp only
      have k12 := k1.trans k2
      have npH : H p = none := Keep.free k1 (hB1.ne np).1 np
      refine Evl.q_cut (M := fun σ' H' => ∃ p m y4, σ' = [some (.ref a), some (.ref sp), some (.int (n : Int)), some (.ref p), y4] ∧ H p = none ∧ GoodM m ∧ 1 ≤ m.length ∧ MAt K H' a p m ∧ BagAt H' a l ∧ Keep a H H') ?_ fun σ' H3 hM => ?_
      · refine ways_few (P := P) (w := w) (n := n) rfl hM.dp g hn (ev_var rfl) fun b H3 e3 => ⟨_, rfl, _, _, rfl, rfl, _, rfl, ite2 (fun _ => ?_) fun _ => ?_⟩
        · obtain ⟨gs, ls⟩ := shrink_good g hm
          refine sd_asgN (K := K) (en_shrink (i := 3) (j := 4) g.len rfl (hM.same e3).dp (fun _ => rfl) (fun _ => rfl)) fun p2 vs H4 np2 e4 hp2 hvs => ?_
          have np2H : H p2 = none := Keep.free (k12.trans (.of_same e3)) ((hB2.same e3).ne np2).1 np2
          exact ⟨p2, shrinkM m, _, rfl, np2H, gs, ls, ⟨vs, hp2, hvs, ((hB2.same e3).ne np2).1.symm⟩, hB2.same (e3.trans e4), k12.trans (.of_same (e3.trans e4))⟩
        · exact ⟨p, m, _, rfl, npH, g, hm, hM.same e3, hB2.same e3, k12.trans (.of_same e3)⟩
      · obtain ⟨p, m, y4, rfl, np, g, hm1, hM3, hB3, k3⟩ := hM
        exact ⟨.ref p, rfl, q p m H3 np g hm1 hM3 hB3 k3⟩
end
end Ink
namespace Ink
open PySem PySem.Spec PyProof.Rows L2 Evl
/-! ### a strip walked by a row of names -/
def goM (x : Str × Str) (y : Str × Str × Std) : Bool := decide ((y.1, y.2.1) = x)
def goesM (m : List Wr) : Std → List (Str × Str) → Bool
  | _, [] => true
  | s, x :: ps => match (stepsOf m s).filter (goM x) with
    | [] => false
    | y :: _ => goesM m y.2.2 ps
def rowOk (m : List Wr) (ss ns : List Str) : Bool := decide (ss.length = ns.length) && goesM m (beginS m) (ss.zip ns)
def strsOk (ss : List Str) : Prop := ∀ z ∈ ss, PyData.strOk z = true
def allEye (ks : List Knd) (ss n1 n2 : List Str) : Bool := (ss.zip (n1.zip n2)).all fun x => alikeM ks x.1 x.2.1 x.2.2
def doubtM (m : List Wr) (ks : List Knd) (who : Option Str) (ss n1 n2 : List Str) (many : Int) : Bool :=
  decide (0 ≤ many) && decide (many < (ss.length : Int)) && rowOk m ss n1 && rowOk m ss n2 && allEye ks ss n1 n2 && differM who (n1.getD ((ss.length : Int) - 1 - many).toNat ⟨#[]⟩) (n2.getD ((ss.length : Int) - 1 - many).toNat ⟨#[]⟩)
theorem goesM_some {m : List Wr} {s : Std} {x : Str × Str} {ps : List (Str × Str)} {y : Str × Str × Std} {l : List (Str × Str × Std)} (h : (stepsOf m s).filter (goM x) = y :: l) : goesM m s (x :: ps) = goesM m y.2.2 ps := by
  show (match (stepsOf m s).filter (goM x) with | [] => false | y :: _ => goesM m y.2.2 ps) = _
  rw [h]
theorem goesM_none {m : List Wr} {s : Std} {x : Str × Str} {ps : List (Str × Str)} (h : (stepsOf m s).filter (goM x) = []) : goesM m s (x :: ps) = false := by
  show (match (stepsOf m s).filter (goM x) with | [] => false | y :: _ => goesM m y.2.2 ps) = _
  rw [h]
theorem stands_shaped32 (l : List Std) : SeqAt.shaped (.list (l.map dS)) = true := by
  have h1 : PyData.canLayAll0 (l.map dS) = true := lay_map fun x _ => dS_lay x
  have h2 := depth_map (f := dS) (n := 10) (l := l) fun x _ => by
    have := depth_dS x
    omega
  unfold SeqAt.shaped
  rw [Bool.and_eq_true, decide_eq_true_eq]
  refine ⟨by simp only [PyData.canLay0]; exact h1, ?_⟩
  simp only [PyData.depth]
  omega
/-- a list of texts -/
def LsAt (H : Hp) (p : Addr) (ss : List Str) : Prop := H p = some (.lst (ss.map V.str))
theorem dps_strs {K : PySem.W.Frag} {H : Hp} : ∀ ss : List Str, DpAll K H (ss.map V.str) (ss.map PyData.str)
  | [] => .nil
  | z :: ss => .cons (.str z) (dps_strs ss)
theorem LsAt.dp {K : PySem.W.Frag} {H : Hp} {p : Addr} {ss : List Str} (h : LsAt H p ss) : Dp K H (.ref p) (.list (ss.map .str)) := .lst (.of h) (dps_strs ss)
def spWalked (K : PySem.W.Frag) : Sp := fun vs H Q _ => ∃ (v : V) (p1 p2 : Addr) (m : List Wr) (ss ns : List Str), vs = [v, .ref p1, .ref p2] ∧ Dp K H v (dMl m) ∧ GoodM m ∧ LsAt H p1 ss ∧ LsAt H p2 ns ∧ strsOk ss ∧ strsOk ns ∧ ss.length ≤ 1000 ∧
  ∀ u H', Ex H H' → decide (u = .non) = (!rowOk m ss ns) → Q u H'
def spDoubtOk (K : PySem.W.Frag) : Sp := fun vs H Q _ => ∃ (v wv kv : V) (p0 p1 p2 : Addr) (m : List Wr) (ks : List Knd) (who : Option Str) (ss n1 n2 : List Str) (many : Int), vs = [v, .ref p0, .ref p1, .ref p2, .int many, wv, kv] ∧ Dp K H v (dMl m) ∧ GoodM m ∧ GoodKs ks ∧ LsAt H p0 ss ∧ LsAt H p1 n1 ∧ LsAt H p2 n2 ∧
  strsOk ss ∧ strsOk n1 ∧ strsOk n2 ∧ ss.length ≤ 1000 ∧ Dp K H wv (dWho who) ∧ Dp K H kv (.list (ks.map dKd)) ∧ ∀ H', Ex H H' → Q (.bl (doubtM m ks who ss n1 n2 many)) H'
section
variable {P : Program} {w : World} {K : PySem.W.Frag} {mg : Str → Option Value} {base : Heap}
theorem ed_endL {σ : L2.St} {H : Hp} {ta tb : TE} {ds : List PyData} {d : PyData} (ha : EvD K ta σ H (.list (ds ++ [d]))) (hb : Ev tb σ H (.int (-1))) : EvD K (tOp (rIxL K) ta tb) σ H d := fun H1 e Q q =>
  ha H1 e _ fun v H2 e2 hv => hb H2 (e.trans e2) _ fun H3 e3 => by
    obtain ⟨p, xs, rfl, hs, hxs⟩ := dp_lst (dp_same e3 hv)
    have hl := hxs.length
    rw [List.length_append, List.length_singleton] at hl
    obtain ⟨v, hv, hdv⟩ := hxs.get (i := ds.length) (d := d) (by rw [List.getElem?_append_right (Nat.le_refl _), Nat.sub_self]; rfl)
    have hx : xs = xs.take ds.length ++ [v] := by
      have h1 := (List.take_append_drop ds.length xs).symm
      rw [List.drop_eq_getElem_cons (by omega), List.drop_of_length_le (by omega)] at h1
      rw [List.getElem?_eq_getElem (by omega)] at hv
      rw [Option.some.inj hv] at h1
      exact h1
    exact ⟨p, xs, -1, v, rfl, rfl, hs, by rw [hx]; exact atI_last _ _, q v H3 (e2.trans e3) hdv⟩
theorem ok_walked {f : Addr} {fd : FuncData} {k : Nat} (F : Fun K "_law_walked" "_law_walked" sLWalked f fd) (T : Txt mg) (C__law_begin : Cal P w K mg base k "_law_begin" ["_law_m"] (spP K RBegin)) (C__law_steps : Cal P w K mg base k "_law_steps" ["_law_m", "_law_stand"] (spN K RLN)) :
    FnOk P w K mg base CX0 (k + 1) f fd ["_law_m", "_law_strip", "_law_names_here"] (spWalked K) := by
  refine F.ok sc__law_walked (fun vs H Q E h => ?_) (fun cdv A outer s H vs Q E hr h => ?_)
  · obtain ⟨v, p1, p2, m, ss, ns, rfl, _⟩ := h
    rfl
  · obtain ⟨v, p1, p2, m, ss, ns, rfl, hv, g, hu1, hu2, so, no, sl, q⟩ := h
    refine ⟨_, (pss_cons (ps_set (i := 3) sc__law_walked.nd rfl (.inl rfl) (pe_lst (pa_cons (pe_callC C__law_begin hr (by rfl) (pa_cons (pv 0) pa_nil)) pa_nil)))
    (pss_cons (ps_if (pt_cmpR op_ne (pe_callB call_len (by rfl) T.m_len PySem.boot_len (pa_cons (pv 1) pa_nil)) (pe_callB call_len (by rfl) T.m_len PySem.boot_len (pa_cons (pv 2) pa_nil)) (nomark _))
    (pss_one (ps_ret pe_non)) pss_nil)
    (pss_cons (ps_for PassesOwn.never rfl (pi_zip (by rfl) T.m_zip (pa_cons (pv 1) (pa_cons (pv 2) pa_nil))) (pg_tup rfl (pgs_cons (pg_name (i := 4) sc__law_walked.nd rfl (.inr rfl)) (pgs_cons (pg_name (i := 5) sc__law_walked.nd rfl (.inr rfl)) pgs_nil)))
    (pss_cons (ps_setLc (i := 6) (own := [("_law_mark", 7), ("_law_one", 8), ("_law_later", 9)]) (g := (gTup K 3 (gCons (gName 7) (gCons (gName 8) (gCons (gName 9) gNil))))) (by rfl) sc__law_walked.nd rfl rfl (sw_true rfl rfl rfl (by decide +kernel)) (pi_list (pe_callC C__law_steps hr (by rfl) (pa_cons (pv 0) (pa_cons (pe_ix ix_list (pv 3) (pe_un un_neg pe_int) (fun _ _ => rfl)) pa_nil)))) (blkOk_by (own := [("_law_mark", 7), ("_law_one", 8), ("_law_later", 9)]) (N := ["_law_m", "_law_strip", "_law_names_here", "_law_stands", "_law_sign", "_law_name", "_law_some", "_law_mark", "_law_one", "_law_later"]) (sc := defScope sLWalked) (by decide +kernel)) (fun _ _ _ _ _ => (pg_tup rfl (pgs_cons (pg_name (i := 7) sc__law_walked.nd rfl (.inl rfl)) (pgs_cons (pg_name (i := 8) sc__law_walked.nd rfl (.inl rfl)) (pgs_cons (pg_name (i := 9) sc__law_walked.nd rfl (.inl rfl)) pgs_nil))))) (fun _ _ _ _ _ => pts_one (pt_cmpR (show OpR _ _ (rEqD K) from op_eqD hr.units) (pe_tup (pa_cons (pv 7) (pa_cons (pv 8) pa_nil))) (pe_tup (pa_cons (pv 4) (pa_cons (pv 5) pa_nil))) (nomark _))) (fun _ _ _ _ _ => (pv 9)))
    (pss_cons (ps_if (pt_cmpR (show OpR _ _ (rEqD K) from op_eqD hr.units) (pv 6) (pe_lst pa_nil) (nomark _))
    (pss_one (ps_ret pe_non)) pss_nil)
    (pss_one (ps_expr (pe_bm PySem.F.plainAttrs_list PySem.F.slot_list_append PySem.F.type_list_append mt_append (pv 3) (pa_cons (pe_ix ix_list (pv 6) pe_int (fun _ _ => rfl)) pa_nil)))))))
    (pss_one (ps_ret (pv 3)))))), ?_⟩
    refine sd_asgN (K := K) (ds := [dS (beginS m)]) (en_lst (eds_cons (ed_call (R := RBegin) (eds_cons (ed_var rfl hv) eds_nil) ⟨m, g.len, rfl, rfl⟩) eds_nil) (by show 1 ≤ 100000; decide)) fun fp us H1 nfp e1 hfp hus => ?_
    try dsimp only
    have hv1 := dp_same e1 hv
    have hu11 : LsAt H1 p1 ss := e1 _ _ hu1
    have hu21 : LsAt H1 p2 ns := e1 _ _ hu2
    refine Evl.q_when (b := !decide (ss.length = ns.length)) (et_test (ev_is (ev_op (ev_is (ev_lenD (K := K) (ed_var (i := 1) rfl hu11.dp) (.inl rfl)) (by rw [List.length_map])) (ev_is (ev_lenD (K := K) (ed_var (i := 2) rfl hu21.dp) (.inl rfl)) (by rw [List.length_map])) (rv_ne rfl)) ?_)) (fun hb H2 e2 => ?_) fun hb H2 e2 => ?_
    · refine congrArg V.bl (congrArg (! ·) (decide_eq_decide.mpr ⟨fun z => ?_, fun z => by rw [z]⟩))
      injection z with z
      omega
    · refine q .non H2 (e1.trans e2) ?_
      rw [Bool.not_eq_true', decide_eq_false_iff_not] at hb
      unfold rowOk
      rw [decide_eq_false hb]
      rfl
    · have hb : ss.length = ns.length := by
        rw [Bool.not_eq_false', decide_eq_true_eq] at hb
        exact hb
      have hv2 := dp_same e2 hv1
      have hu12 : LsAt H2 p1 ss := e2 _ _ hu11
      have hu22 : LsAt H2 p2 ns := e2 _ _ hu21
      have hfp2 := e2 _ _ hfp
      have hus2 := dps_same e2 hus
      have e12 := e1.trans e2
      have n1 : p1 ≠ fp := ne_of_none hu1 nfp
      have n2 : p2 ≠ fp := ne_of_none hu2 nfp
      refine ⟨.ref p1, rfl, .ref p2, rfl, p1, p2, ss.map V.str, ns.map V.str, rfl, .of hu12, .of hu22, for_it (walk_zip (K := K) (xs := ss.map V.str) (ys := ns.map V.str) rfl) (fun i σ' H' => (∃ y4 y5 y6 y7 y8 y9, σ' = [some v, some (.ref p1), some (.ref p2), some (.ref fp), y4, y5, y6, y7, y8, y9]) ∧ Keep fp H2 H' ∧ TupK K H2 H' ∧ ∃ acc pre t, H' fp = some (.lst acc) ∧ DpAll K H' acc ((pre ++ [t]).map dS) ∧ pre.length = i ∧ Okay m t ∧ goesM m (beginS m) (ss.zip ns) = goesM m t ((ss.zip ns).drop i)) ⟨⟨none, none, none, none, none, none, rfl⟩, Keep.refl _, .refl _, us, [], beginS m, hfp2, hus2, rfl, okay_begin, rfl⟩ (fun _ _ _ _ hP => ⟨.of (hP.2.1 _ _ n1 hu12), .of (hP.2.1 _ _ n2 hu22)⟩) (fun i y σ' Ha Hb hi hP hy => ?_) (fun σ' H' hP => ?_)⟩
      · obtain ⟨⟨y4, y5, y6, y7, y8, y9, rfl⟩, k1, t1, acc, pre, t, hacc, hda, pl, ot, eq⟩ := hP
        obtain ⟨T9, x1, x2, rfl, nT, rfl, hx1, hx2⟩ := hy
        have hx1 : (ss.map V.str)[i]? = some x1 := hx1
        have hx2 : (ns.map V.str)[i]? = some x2 := hx2
        rw [List.getElem?_map, Option.map_eq_some_iff] at hx1 hx2
        obtain ⟨z1, hz1, rfl⟩ := hx1
        obtain ⟨z2, hz2, rfl⟩ := hx2
        have eT := Ex.new (o := .tup [V.str z1, V.str z2]) nT
        have hT : Dp K (upd Ha T9 (.tup [V.str z1, V.str z2])) (.ref T9) (.tuple [.str z1, .str z2]) := .tup (.of upd_same) (.cons (.str _) (.cons (.str _) .nil))
        generalize upd Ha T9 (.tup [V.str z1, V.str z2]) = H3 at eT hT
        refine tg2 hT fun w1 w2 b1 b2 => ?_
        obtain rfl := dp_str b1
        obtain rfl := dp_str b2
        try dsimp only
        have k3 := k1.trans (.of_same eT)
        have e03 : Ex H H3 := fun b o h => k3 b o (ne_of_none h nfp) (e12 b o h)
        have hv3 := dp_same e03 hv
        have hacc3 := eT _ _ hacc
        have hda3 := dps_same eT hda
        rw [List.map_append] at hda3
        have st1 := so _ (List.mem_of_getElem? hz1)
        have st2 := no _ (List.mem_of_getElem? hz2)
        have hzip : (ss.zip ns)[i]? = some (z1, z2) := by
          rw [List.getElem?_zip_eq_some]
          exact ⟨hz1, hz2⟩
        have hdrop : (ss.zip ns).drop i = (z1, z2) :: (ss.zip ns).drop (i + 1) := by
          rw [List.drop_eq_getElem_cons (List.getElem?_eq_some_iff.mp hzip).1, (List.getElem?_eq_some_iff.mp hzip).2]
        have sl9 := steps_len g t
        refine sd_asgN (K := K) (ds := ((stepsOf m t).filter (goM (z1, z2))).map fun y : Str × Str × Std => dS y.2.2) (en_lc (σ := [some v, some (.ref p1), some (.ref p2), some (.ref fp), some (.str z1), some (.str z2), y6, y7, y8, y9]) (g := gTup K 3 (gCons (gName 7) (gCons (gName 8) (gCons (gName 9) gNil)))) (vs := [7, 8, 9]) (stepsOf m t) dStep (goM (z1, z2)) (fun y : Str × Str × Std => dS y.2.2) (ei_lst (EvN.list (en_call (R := RLN) (eds_cons (ed_var (i := 0) rfl hv3) (eds_cons (ed_endL (ds := pre.map dS) (d := dS t) (ed_var (i := 3) rfl (.lst (.of hacc3) hda3)) (ev_un ev_c ru_neg)) eds_nil)) ⟨m, t, g, ot, rfl, rfl⟩))) (by omega) (fun y _ => fz_dS _) fun j y H4 xv hy e4 hdy R kk => ?_) fun gp us2 H4 ngp e4 hgp hus4 => ?_
        · refine tg3 (d1 := .str y.1) (d2 := .str y.2.1) (d3 := dS y.2.2) hdy fun c1 c2 c3 q1 q2 q3 => ?_
          obtain rfl := dp_str q1
          obtain rfl := dp_str q2
          obtain ⟨sy1, sy2⟩ := step_str g (List.mem_of_getElem? hy)
          exact kk [some v, some (.ref p1), some (.ref p2), some (.ref fp), some (.str z1), some (.str z2), y6, some (.str y.1), some (.str y.2.1), some c3] rfl (et_test (ev_is (ev_eqD (K := K) (d1 := dKd (y.1, y.2.1)) (d2 := dKd (z1, z2)) (ed_tup (eds_cons (ed_str (ev_var (i := 7) rfl)) (eds_cons (ed_str (ev_var (i := 8) rfl)) eds_nil)) (by show 2 ≤ 100000; decide)) (ed_tup (eds_cons (ed_str (ev_var (i := 4) rfl)) (eds_cons (ed_str (ev_var (i := 5) rfl)) eds_nil)) (by show 2 ≤ 100000; decide)) (dKd_shaped ⟨sy1, sy2⟩) (dKd_shaped ⟨st1, st2⟩)) (by rw [eqv_dKd]; rfl))) fun _ => ed_var (i := 9) rfl q3
        · try dsimp only
          have hgl : Dp K H4 (.ref gp) (.list (((stepsOf m t).filter (goM (z1, z2))).map fun y : Str × Str × Std => dS y.2.2)) := .lst (.of hgp) hus4
          have e04 : Ex H H4 := fun b o h => e4 _ _ (k3 b o (ne_of_none h nfp) (e12 b o h))
          have t3 : TupK K H2 H4 := (t1.trans (.of eT)).trans (.of e4)
          have shp : SeqAt.shaped (.list (((stepsOf m t).filter (goM (z1, z2))).map fun y : Str × Str × Std => dS y.2.2)) = true := by
            have := stands_shaped32 (((stepsOf m t).filter (goM (z1, z2))).map fun y => y.2.2)
            rw [List.map_map] at this
            exact this
          refine Evl.q_when (b := ((stepsOf m t).filter (goM (z1, z2))).isEmpty) (et_test (ev_is (ev_eqD (K := K) (ed_var (i := 6) rfl hgl) (en_lst eds_nil (by decide)).list shp rfl) (by rw [eqv_nil]))) (fun hE H5 e5 => ?_) fun hE H5 e5 => ?_
          · refine q .non H5 (e04.trans e5) ?_
            unfold rowOk
            rw [eq, hdrop, goesM_none (List.isEmpty_iff.mp hE), Bool.and_false]
            rfl
          · obtain ⟨y, l9, hf⟩ : ∃ y l9, (stepsOf m t).filter (goM (z1, z2)) = y :: l9 := by
              cases hc : (stepsOf m t).filter (goM (z1, z2)) with
              | nil =>
                rw [hc] at hE
                cases hE
              | cons y l9 => exact ⟨y, l9, rfl⟩
            have hym : y ∈ stepsOf m t := (List.mem_filter.mp (by rw [hf]; exact List.mem_cons_self ..)).1
            have al := hda.length
            rw [List.length_map, List.length_append, pl] at al
            have hi9 : i < 1000 := by
              rw [List.length_map] at hi
              omega
            have hacc5 := e5 _ _ (e4 _ _ hacc3)
            have hfpg : gp ≠ fp := fun z => by
              rw [z, hacc3] at ngp
              cases ngp
            refine sd_app (K := K) (d := dS y.2.2) rfl hacc5 (ed_ixL (ed_var (i := 6) rfl (dp_same e5 hgl)) ev_c (by decide) (by rw [hf]; rfl)) (by rw [al]; show i + 1 < 100000; omega) fun v6 H6 e6 hv6 => ?_
            have hacc6 := e6 _ _ hacc5
            have t6 : TupK K H6 (upd H6 fp (.lst (acc ++ [v6]))) := .lst hacc6
            refine ⟨⟨_, _, _, _, _, _, rfl⟩, (k3.trans (.of_same ((e4.trans e5).trans e6))).trans .at, (t3.trans (.of (e5.trans e6))).trans t6, acc ++ [v6], pre ++ [t], y.2.2, upd_same, ?_, by rw [List.length_append, pl]; rfl, okay_of_step g ot hym, ?_⟩
            · rw [List.map_append]
              refine DpAll.app (dps_tk t6 (fz_map fun x _ => fz_dS x) ?_) (.one (dp_tk t6 (fz_dS _) hv6))
              exact dps_same ((eT.trans e4).trans (e5.trans e6)) hda
            · rw [eq, hdrop, goesM_some hf]
      · obtain ⟨⟨y4, y5, y6, y7, y8, y9, rfl⟩, k1, t1, acc, pre, t, hacc, hda, pl, ot, eq⟩ := hP
        rw [List.length_map, List.length_map, ← hb, Nat.min_self] at eq
        rw [List.drop_of_length_le (by rw [List.length_zip]; omega)] at eq
        refine ⟨.ref fp, rfl, q _ H' (fun b o h => k1 b o (ne_of_none h nfp) (e12 b o h)) ?_⟩
        unfold rowOk
        rw [eq, decide_eq_true hb]
        rfl
end
end Ink
namespace Ink
open PySem PySem.Spec PyProof.Rows L2 Evl
/-! ### two rows drawn along a strip; whether they are in doubt, by the law -/
def spTwinRows (K : PySem.W.Frag) : Sp := fun vs H Q _ => ∃ (a l p : Addr) (m : List Wr) (lim : Int), vs = [.ref a, .ref p, .int lim] ∧ BagAt H a l ∧ MAt K H a p m ∧ GoodM m ∧ 0 ≤ lim ∧ lim ≤ 100 ∧
  ∀ (T p0 p1 p2 : Addr) (ss n1 n2 : List Str) H', H' T = some (.tup [.ref p0, .ref p1, .ref p2]) → H p0 = none → H p1 = none → H p2 = none → p0 ≠ p1 → p0 ≠ p2 → p1 ≠ p2 → LsAt H' p0 ss → LsAt H' p1 n1 → LsAt H' p2 n2 → n1.length = ss.length → n2.length = ss.length → (ss.length : Int) ≤ lim → strsOk ss → strsOk n1 → strsOk n2 → BagAt H' a l → Keep a H H' → Q (.ref T) H'
section
variable {P : Program} {w : World} {K : PySem.W.Frag} {mg : Str → Option Value} {base : Heap}
theorem zip3_get {ss n1 n2 : List Str} {i : Nat} {a b c : Str} (h1 : ss[i]? = some a) (h2 : n1[i]? = some b) (h3 : n2[i]? = some c) : (ss.zip (n1.zip n2))[i]? = some (a, b, c) := by
  rw [List.getElem?_zip_eq_some]
  refine ⟨h1, ?_⟩
  rw [List.getElem?_zip_eq_some]
  exact ⟨h2, h3⟩
theorem ls_get {σ : L2.St} {H : Hp} {ta tb : TE} {p : Addr} {ss : List Str} {i : Int} {z : Str} (ha : Ev ta σ H (.ref p)) (hb : Ev tb σ H (.int i)) (h : LsAt H p ss) (h0 : 0 ≤ i) (hz : ss[i.toNat]? = some z) : Ev (tOp (rIxL K) ta tb) σ H (.str z) := ev_ixLv ha hb (.of h) h0 (by rw [List.getElem?_map, hz]; rfl)
theorem ls_len {σ : L2.St} {H : Hp} {te : TE} {p : Addr} {ss : List Str} {n : Nat} (ha : Ev te σ H (.ref p)) (h : LsAt H p ss) (hn : ss.length = n) : Ev (tCB (rLenV K) (tCons te tNil)) σ H (.int (n : Int)) := ev_is (ev_lenD (K := K) (ed_of ha h.dp) (.inl rfl)) (by rw [List.length_map, hn])
theorem getD_of {α : Type} {l : List α} {i : Nat} {x d : α} (h : l[i]? = some x) : l.getD i d = x := by
  rw [List.getD_eq_getElem?_getD, h]
  rfl
theorem ok_doubtok {f : Addr} {fd : FuncData} {k : Nat} (F : Fun K "_law_doubt_ok" "_law_doubt_ok" sLDoubtOk f fd) (T : Txt mg) (C__law_walked : Cal P w K mg base k "_law_walked" ["_law_m", "_law_strip", "_law_names_here"] (spWalked K)) (C__law_alike : Cal P w K mg base k "_law_alike" ["_law_one", "_law_other", "_law_sign", "_law_marked"] (spP K RAlike)) (C__law_differs : Cal P w K mg base k "_law_differs" ["_law_one", "_law_other", "_law_own"] (spP K RDiffers)) :
    FnOk P w K mg base CX0 (k + 1) f fd ["_law_m", "_law_strip", "_law_one", "_law_other", "_law_many", "_law_own", "_law_marked"] (spDoubtOk K) := by
  refine F.ok sc__law_doubt_ok (fun vs H Q E h => ?_) (fun cdv A outer s H vs Q E hr h => ?_)
  · obtain ⟨v, wv, kv, p0, p1, p2, m, ks, who, ss, n1, n2, many, rfl, _⟩ := h
    rfl
  · obtain ⟨v, wv, kv, p0, p1, p2, m, ks, who, ss, n1, n2, many, rfl, hv, g, gk, h0, h1, h2, so, o1, o2, sl, hw, hk, q⟩ := h
    refine ⟨_, (pss_cons (ps_set (i := 7) sc__law_doubt_ok.nd rfl (.inl rfl) (pe_op op_sub (pe_op op_sub (pe_callB call_len (by rfl) T.m_len PySem.boot_len (pa_cons (pv 1) pa_nil)) pe_int) (pv 4)))
    (pss_cons (ps_if (PW.pt (pw_or (pt_cmpR op_lt (pv 4) pe_int (nomark _)) (pw_or (pt_cmpR op_lt (pv 7) pe_int (nomark _)) (pw_or (pt_cmpR op_isN (pe_callC C__law_walked hr (by rfl) (pa_cons (pv 0) (pa_cons (pv 1) (pa_cons (pv 2) pa_nil)))) pe_non (nomark _)) (pw_or1 (pt_cmpR op_isN (pe_callC C__law_walked hr (by rfl) (pa_cons (pv 0) (pa_cons (pv 1) (pa_cons (pv 3) pa_nil)))) pe_non (nomark _)))))))
    (pss_one (ps_ret pe_bl)) pss_nil)
    (pss_cons (ps_setLc (i := 8) (own := [("_law_k", 9)]) (g := (gName 9)) (by rfl) sc__law_doubt_ok.nd rfl rfl (sw_true rfl rfl rfl (by decide +kernel)) (pi_range1 (by rfl) T.m_range (pa_cons (pe_callB call_len (by rfl) T.m_len PySem.boot_len (pa_cons (pv 1) pa_nil)) pa_nil)) (blkOk_by (own := [("_law_k", 9)]) (N := ["_law_m", "_law_strip", "_law_one", "_law_other", "_law_many", "_law_own", "_law_marked", "_law_at", "_law_same_eye", "_law_k"]) (sc := defScope sLDoubtOk) (by decide +kernel)) (fun _ _ _ _ _ => (pg_name (i := 9) sc__law_doubt_ok.nd rfl (Or.inl rfl))) (fun _ _ _ _ _ => pts_nil) (fun _ _ _ _ _ => (pe_callC C__law_alike hr (by rfl) (pa_cons (pe_ix (show IxR _ (rIxL K) from ix_list) (pv 2) (pv 9) (fun _ _ => rfl)) (pa_cons (pe_ix (show IxR _ (rIxL K) from ix_list) (pv 3) (pv 9) (fun _ _ => rfl)) (pa_cons (pe_ix (show IxR _ (rIxL K) from ix_list) (pv 1) (pv 9) (fun _ _ => rfl)) (pa_cons (pv 6) pa_nil)))))))
    (pss_one (ps_ret (pe_and (pe_callB (cr_all rfl) (by rfl) T.m_all (by decide +kernel) (pa_cons (pv 8) pa_nil)) (pe_one (pe_callC C__law_differs hr (by rfl) (pa_cons (pe_ix ix_list (pv 2) (pv 7) (fun _ _ => rfl)) (pa_cons (pe_ix ix_list (pv 3) (pv 7) (fun _ _ => rfl)) (pa_cons (pv 5) pa_nil))))))))))), ?_⟩
    refine use_asg ((ev_op (ev_op (ls_len (K := K) (ev_var (i := 1) rfl) h0 rfl) ev_c rv_I0) (ev_var (i := 4) rfl) rv_I0) H (.refl H) _ fun H1 e1 => g_go ?_)
    try dsimp only
    have wk : ∀ {i j : Nat} {σ : L2.St} {H2 : Hp} {p q : Addr} {xs ys : List Str}, σ[0]? = some (some v) → σ[i]? = some (some (.ref p)) → σ[j]? = some (some (.ref q)) → Ex H H2 → LsAt H p xs → LsAt H q ys → strsOk xs → strsOk ys → xs.length ≤ 1000 → EvT (tTest (tOp (fun x y H Q => y = .non ∧ Q (.bl (decide (x = .non))) H) (tCall (spWalked K) [] E0 (tCons (tVar 0) (tCons (tVar i) (tCons (tVar j) tNil)))) (tC .non))) σ H2 (!rowOk m xs ys) := fun {i j σ H2 p q xs ys} s0 si sj e2 hp hq ox oy lx => fun H3 e3 Q3 q3 => by
      have e := e2.trans e3
      refine ⟨v, s0, .ref p, si, .ref q, sj, v, p, q, m, xs, ys, rfl, dp_same e hv, g, e _ _ hp, e _ _ hq, ox, oy, lx, fun u H4 e4 hu => ⟨rfl, _, rfl, ?_⟩⟩
      rw [hu]
      exact q3 H4 e4
    refine Evl.q_when (b := decide (many < 0) || (decide ((ss.length : Int) - 1 - many < 0) || (!rowOk m ss n1 || !rowOk m ss n2))) ?_ (fun hb H2 e2 => ?_) fun hb H2 e2 => ?_
    · exact et_or2 (et_test (ev_op (ev_var (i := 4) rfl) ev_c rv_I0)) fun _ => et_or2 (et_test (ev_op (ev_var (i := 7) rfl) ev_c rv_I0)) fun _ => et_or2 (wk rfl rfl rfl e1 h0 h1 so o1 sl) fun _ => wk rfl rfl rfl e1 h0 h2 so o2 sl
    · have e12 := e1.trans e2
      refine s_ret (v := .bl false) ev_c fun H3 e3 => ?_
      have := q H3 (e12.trans e3)
      have hf : doubtM m ks who ss n1 n2 many = false := by
        unfold doubtM
        rw [Bool.or_eq_true, Bool.or_eq_true, Bool.or_eq_true, decide_eq_true_eq, decide_eq_true_eq, Bool.not_eq_true', Bool.not_eq_true'] at hb
        rcases hb with h | h | h | h
        · rw [decide_eq_false (by omega : ¬ (0 : Int) ≤ many)]
          rfl
        · rw [decide_eq_false (by omega : ¬ many < (ss.length : Int))]
          simp only [Bool.and_false, Bool.false_and]
        · rw [h]
          simp only [Bool.and_false, Bool.false_and]
        · rw [h]
          simp only [Bool.and_false, Bool.false_and]
      rw [hf] at this
      exact this
    · have e12 := e1.trans e2
      rw [Bool.or_eq_false_iff, Bool.or_eq_false_iff, Bool.or_eq_false_iff, decide_eq_false_iff_not, decide_eq_false_iff_not, Bool.not_eq_false', Bool.not_eq_false'] at hb
      obtain ⟨c1, c2, c3, c4⟩ := hb
      have l1 : ss.length = n1.length := by
        unfold rowOk at c3
        rw [Bool.and_eq_true, decide_eq_true_eq] at c3
        exact c3.1
      have l2 : ss.length = n2.length := by
        unfold rowOk at c4
        rw [Bool.and_eq_true, decide_eq_true_eq] at c4
        exact c4.1
      have h02 : LsAt H2 p0 ss := e12 _ _ h0
      have h12 : LsAt H2 p1 n1 := e12 _ _ h1
      have h22 : LsAt H2 p2 n2 := e12 _ _ h2
      have hk2 := dp_same e12 hk
      have hw2 := dp_same e12 hw
      have gt : ∀ {l : List Str} {i : Nat}, l.length = ss.length → i < ss.length → l[i]? = some (l.getD i ⟨#[]⟩) := fun {l i} hl hi => by
        rw [List.getD_eq_getElem?_getD, List.getElem?_eq_getElem (by omega)]
        rfl
      have ok : ∀ {l : List Str} {i : Nat}, strsOk l → l.length = ss.length → i < ss.length → PyData.strOk (l.getD i ⟨#[]⟩) = true := fun {l i} ho hl hi => ho _ (List.mem_of_getElem? (gt hl hi))
      let F : Nat → Bool := fun i => alikeM ks (ss.getD i ⟨#[]⟩) (n1.getD i ⟨#[]⟩) (n2.getD i ⟨#[]⟩)
      refine sd_asgN (K := K) (ds := (List.range ss.length).map fun i => PyData.bool (F i)) (en_map (σ := [some v, some (.ref p0), some (.ref p1), some (.ref p2), some (.int many), some wv, some kv, some (.int ((ss.length : Int) - 1 - many)), none, none]) (g := gName 9) (vs := [9]) (List.range ss.length) (fun (i : Nat) => PyData.int (i : Int)) (fun i => PyData.bool (F i)) (ei_range (ea_cons (ls_len (K := K) (ev_var (i := 1) rfl) h02 rfl) ea_nil) (by omega)) (by rw [List.length_range]; omega) (fun _ _ => by unfold fz; rfl) fun j i H3 xv hi e3 hd R kk => ?_) fun bp bs H3 nbp e3 hbp hbs => ?_
      · obtain rfl := dp_int hd
        have hi9 : i < ss.length := List.mem_range.mp (List.mem_of_getElem? hi)
        have hin : (((i : Nat) : Int)).toNat = i := by omega
        refine kk [some v, some (.ref p0), some (.ref p1), some (.ref p2), some (.int many), some wv, some kv, some (.int ((ss.length : Int) - 1 - many)), none, some (.int (i : Int))] rfl (ed_call (R := RAlike) (eds_cons (ed_str (ls_get (K := K) (z := n1.getD i ⟨#[]⟩) (ev_var (i := 2) rfl) (ev_var (i := 9) rfl) (e3 _ _ h12) (by omega) (by rw [hin]; exact gt l1.symm hi9))) (eds_cons (ed_str (ls_get (K := K) (z := n2.getD i ⟨#[]⟩) (ev_var (i := 3) rfl) (ev_var (i := 9) rfl) (e3 _ _ h22) (by omega) (by rw [hin]; exact gt l2.symm hi9))) (eds_cons (ed_str (ls_get (K := K) (z := ss.getD i ⟨#[]⟩) (ev_var (i := 1) rfl) (ev_var (i := 9) rfl) (e3 _ _ h02) (by omega) (by rw [hin]; exact gt rfl hi9))) (eds_cons (ed_var (i := 6) rfl (dp_same e3 hk2)) eds_nil)))) ⟨ks, ss.getD i ⟨#[]⟩, n1.getD i ⟨#[]⟩, n2.getD i ⟨#[]⟩, gk, ok so rfl hi9, ok o1 l1.symm hi9, ok o2 l2.symm hi9, rfl, rfl⟩)
      · try dsimp only
        have hat : (((ss.length : Int) - 1 - many).toNat) < ss.length := by omega
        have e13 := e12.trans e3
        have hbl : Dp K H3 (.ref bp) (.list (((List.range ss.length).map F).map PyData.bool)) := by
          refine .lst (.of hbp) ?_
          rw [List.map_map]
          exact hbs
        have h13 : LsAt H3 p1 n1 := e3 _ _ h12
        have h23 : LsAt H3 p2 n2 := e3 _ _ h22
        have hw3 := dp_same e3 hw2
        refine s_ret (v := .bl (doubtM m ks who ss n1 n2 many)) (ev_is (ev_andV (ev_allD (K := K) (bs := (List.range ss.length).map F) (ed_var (i := 8) rfl hbl)) fun _ => ev_bl (ed_call (R := RDiffers) (eds_cons (ed_str (ls_get (K := K) (z := n1.getD ((ss.length : Int) - 1 - many).toNat ⟨#[]⟩) (ev_var (i := 2) rfl) (ev_var (i := 7) rfl) h13 (by omega) (gt l1.symm hat))) (eds_cons (ed_str (ls_get (K := K) (z := n2.getD ((ss.length : Int) - 1 - many).toNat ⟨#[]⟩) (ev_var (i := 3) rfl) (ev_var (i := 7) rfl) h23 (by omega) (gt l2.symm hat))) (eds_cons (ed_var (i := 5) rfl hw3) eds_nil))) ⟨who, _, _, rfl, rfl⟩)) ?_) fun H4 e4 => q H4 (e13.trans e4)
        unfold doubtM
        rw [c3, c4, decide_eq_true (by omega : (0 : Int) ≤ many), decide_eq_true (by omega : many < (ss.length : Int))]
        simp only [Bool.true_and]
        refine congrArg V.bl (congrArg (· && _) ?_)
        unfold allEye
        rw [List.all_map, Bool.eq_iff_iff, List.all_eq_true, List.all_eq_true]
        constructor
        · intro h x hx
          obtain ⟨i, hi, hix⟩ := List.getElem_of_mem hx
          rw [List.length_zip] at hi
          have hi9 : i < ss.length := by omega
          have := h i (List.mem_range.mpr hi9)
          have e9 := zip3_get (gt rfl hi9) (gt l1.symm hi9) (gt l2.symm hi9)
          rw [List.getElem?_eq_getElem (by rw [List.length_zip]; exact hi), hix] at e9
          rw [Option.some.inj e9]
          exact this
        · intro h i hi
          have hi9 := List.mem_range.mp hi
          exact h _ (List.mem_of_getElem? (zip3_get (gt rfl hi9) (gt l1.symm hi9) (gt l2.symm hi9)))
end
end Ink
namespace Ink
open PySem PySem.Spec PyProof.Rows L2 Evl
/-! ### two rows of names drawn step by step by one sign -/
theorem leads_in32 {m : List Wr} {ks : List Knd} {p : Std × Std} {x : Tri × (Std × Std)} (h : x ∈ leadsM m ks p) : ∃ a b, a ∈ stepsOf m p.1 ∧ b ∈ stepsOf m p.2 ∧ x = ((a.1, a.2.1, b.2.1), (a.2.2, b.2.2)) := by
  unfold leadsM at h
  obtain ⟨a, ha, h⟩ := List.mem_flatMap.mp h
  obtain ⟨b, hb, rfl⟩ := List.mem_map.mp h
  exact ⟨a, b, ha, (List.mem_filter.mp hb).1, rfl⟩
theorem leads_shaped32 {m : List Wr} (g : GoodM m) (ks : List Knd) (p : Std × Std) : SeqAt.shaped (.list ((leadsM m ks p).map dTw)) = true := by
  have h1 : PyData.canLayAll0 ((leadsM m ks p).map dTw) = true := lay_map fun x hx => by
    obtain ⟨a, b, ha, hb, rfl⟩ := leads_in32 hx
    have h1 := step_str g ha
    have h2 := step_str g hb
    unfold dTw dPr
    simp only [PyData.canLay0, PyData.canLayAll0, dS_lay, h1.1, h1.2, h2.2, Bool.and_self]
  have h2 := depth_map (f := dTw) (n := 12) (l := leadsM m ks p) fun x _ => by
    have e1 := depth_dS x.2.1
    have e2 := depth_dS x.2.2
    unfold dTw dPr
    simp only [PyData.depth, PyData.depthAll]
    omega
  unfold SeqAt.shaped
  rw [Bool.and_eq_true, decide_eq_true_eq]
  refine ⟨by simp only [PyData.canLay0]; exact h1, ?_⟩
  simp only [PyData.depth]
  omega
theorem leads_len32 {m : List Wr} (g : GoodM m) (ks : List Knd) (p : Std × Std) : (leadsM m ks p).length ≤ 729 := by
  refine Nat.le_trans ?_ (leadsM_len g ks p)
  unfold leadsM
  generalize stepsOf m p.1 = l
  induction l with
  | nil => exact Nat.le_refl _
  | cons a l ih =>
    rw [List.flatMap_cons, List.flatMap_cons, List.length_append, List.length_append, List.length_map]
    have := List.length_filter_le (fun y : Str × Str × Std => decide (V.str y.1 = V.str a.1) && alikeM ks a.1 a.2.1 y.2.1) (stepsOf m p.2)
    omega
section
variable {P : Program} {w : World} {K : PySem.W.Frag} {mg : Str → Option Value} {base : Heap}
theorem tg4_32 {σ : L2.St} {H : Hp} {x : V} {d1 d2 d3 d4 : PyData} {n1 n2 n3 n4 : Nat} {Q : L2.St → Hp → Prop} (hd : Dp K H x (.tuple [d1, d2, d3, d4])) (k : ∀ v1 v2 v3 v4, Dp K H v1 d1 → Dp K H v2 d2 → Dp K H v3 d3 → Dp K H v4 d4 → Q ((((σ.set n1 (some v1)).set n2 (some v2)).set n3 (some v3)).set n4 (some v4)) H) :
    gTup K 4 (gCons (gName n1) (gCons (gName n2) (gCons (gName n3) (gCons (gName n4) gNil)))) x σ H Q := by
  obtain ⟨p, xs, rfl, hs, hxs⟩ := dp_tup hd
  obtain ⟨v1, v2, v3, v4, rfl, h1, h2, h3, h4⟩ := dps4 hxs
  exact ⟨p, _, rfl, hs, rfl, _, _, rfl, _, _, rfl, _, _, rfl, _, _, rfl, rfl, k v1 v2 v3 v4 h1 h2 h3 h4⟩
theorem q_asgT32 {te : TE} {tr : TA} {g : TG} {ts : TS} {D : Ends} {σ : L2.St} {H : Hp} (h : te σ H fun v H1 => tr σ H1 fun vs H2 => (v :: vs).length ≤ sizeLine ∧ ∀ T, H2 T = none → g (.ref T) σ (upd H2 T (.tup (v :: vs))) fun σ2 H3 => ts D σ2 H3) : tSeq (tAsg (tTup (tCons te tr)) g) ts D σ H := h
theorem ok_twinrows {f : Addr} {fd : FuncData} {k : Nat} (F : Fun K "_law_twin_rows" "_law_twin_rows" sLTwinRows f fd) (T : Txt mg) (C__law_pull : Cal P w K mg base k "_law_pull" ["_law_bag_here", "_law_many"] spPull) (C__law_of : Cal P w K mg base k "_law_of" ["_law_bag_here", "_law_things"] (spOf K)) (C__law_begin : Cal P w K mg base k "_law_begin" ["_law_m"] (spP K RBegin)) (C__law_twin_steps : Cal P w K mg base k "_law_twin_steps" ["_law_m", "_law_pair", "_law_marked"] (spN K RTwin)) :
    FnOk P w K mg base CX0 (k + 1) f fd ["_law_bag_here", "_law_m", "_law_limit"] (spTwinRows K) := by
  refine F.ok sc__law_twin_rows (fun vs H Q E h => ?_) (fun cdv A outer s H vs Q E hr h => ?_)
  · obtain ⟨a, l, p, m, lim, rfl, _⟩ := h
    rfl
  · obtain ⟨a, l, p, m, lim, rfl, hB, hM, g, l0, l1, q⟩ := h
    refine ⟨_, (pss_cons (ps_asg (pe_tup (pa_cons (pe_tup (pa_cons (pe_callC C__law_begin hr (by rfl) (pa_cons (pv 1) pa_nil)) (pa_cons (pe_callC C__law_begin hr (by rfl) (pa_cons (pv 1) pa_nil)) pa_nil))) (pa_cons (pe_lst pa_nil) (pa_cons (pe_lst pa_nil) (pa_cons (pe_lst pa_nil) pa_nil))))) (pg_tup rfl (pgs_cons (pg_name (i := 3) sc__law_twin_rows.nd rfl (.inl rfl)) (pgs_cons (pg_name (i := 4) sc__law_twin_rows.nd rfl (.inl rfl)) (pgs_cons (pg_name (i := 5) sc__law_twin_rows.nd rfl (.inl rfl)) (pgs_cons (pg_name (i := 6) sc__law_twin_rows.nd rfl (.inl rfl)) pgs_nil))))))
    (pss_cons (ps_for PassesOwn.never rfl (pi_range1 (by rfl) T.m_range (pa_cons (pe_callC C__law_pull hr (by rfl) (pa_cons (pv 0) (pa_cons (pe_op op_add (pv 2) pe_int) pa_nil))) pa_nil)) (pg_name (i := 7) sc__law_twin_rows.nd rfl (.inl rfl))
    (pss_cons (ps_set (i := 8) sc__law_twin_rows.nd rfl (.inl rfl) (pe_callC C__law_twin_steps hr (by rfl) (pa_cons (pv 1) (pa_cons (pv 3) (pa_cons (pe_lst pa_nil) pa_nil)))))
    (pss_one (ps_if (pt_cmpR (show OpR _ _ (rNeD K) from op_neD hr.units) (pv 8) (pe_lst pa_nil) (nomark _))
    (pss_cons (ps_asg (pe_callC C__law_of hr (by rfl) (pa_cons (pv 0) (pa_cons (pv 8) pa_nil))) (pg_tup rfl (pgs_cons (pg_name (i := 9) sc__law_twin_rows.nd rfl (.inl rfl)) (pgs_cons (pg_name (i := 10) sc__law_twin_rows.nd rfl (.inl rfl)) (pgs_cons (pg_name (i := 3) sc__law_twin_rows.nd rfl (.inl rfl)) (pgs_cons (pg_name (i := 11) sc__law_twin_rows.nd rfl (.inl rfl)) pgs_nil))))))
    (pss_cons (ps_expr (pe_bm PySem.F.plainAttrs_list PySem.F.slot_list_append PySem.F.type_list_append mt_append (pv 4) (pa_cons (pv 11) pa_nil)))
    (pss_cons (ps_expr (pe_bm PySem.F.plainAttrs_list PySem.F.slot_list_append PySem.F.type_list_append mt_append (pv 5) (pa_cons (pv 9) pa_nil)))
    (pss_one (ps_expr (pe_bm PySem.F.plainAttrs_list PySem.F.slot_list_append PySem.F.type_list_append mt_append (pv 6) (pa_cons (pv 10) pa_nil))))))) pss_nil))))
    (pss_one (ps_ret (pe_tup (pa_cons (pv 4) (pa_cons (pv 5) (pa_cons (pv 6) pa_nil)))))))), ?_⟩
    refine q_asgT32 (use_d (K := K) (σ := [some (.ref a), some (.ref p), some (.int lim), none, none, none, none, none, none, none, none, none]) (d := dPr (beginS m, beginS m)) (ed_tup (eds_cons (ed_call (R := RBegin) (eds_cons (ed_var (i := 1) rfl hM.dp) eds_nil) ⟨m, g.len, rfl, rfl⟩) (eds_cons (ed_call (R := RBegin) (eds_cons (ed_var (i := 1) rfl hM.dp) eds_nil) ⟨m, g.len, rfl, rfl⟩) eds_nil)) (by show 2 ≤ 100000; decide)) fun pv H1 e1 hpv => ?_)
    refine ⟨by show 0 ≤ sizeLine; decide, fun p0 np0 => ⟨by show 0 ≤ sizeLine; decide, fun p1 np1 => ⟨by show 0 ≤ sizeLine; decide, fun p2 np2 => ⟨by show 4 ≤ sizeLine; decide, fun T4 nT4 => ⟨T4, _, rfl, .of upd_same, rfl, _, _, rfl, _, _, rfl, _, _, rfl, _, _, rfl, rfl, ?_⟩⟩⟩⟩⟩
    try dsimp only
    have x0 := Ex.new (o := .lst ([] : List V)) np0
    have x1 := Ex.new (o := .lst ([] : List V)) np1
    have x2 := Ex.new (o := .lst ([] : List V)) np2
    have x4 := Ex.new (o := .tup [pv, V.ref p0, V.ref p1, V.ref p2]) nT4
    have g0 : (upd (upd (upd (upd H1 p0 (.lst [])) p1 (.lst [])) p2 (.lst [])) T4 (.tup [pv, V.ref p0, V.ref p1, V.ref p2])) p0 = some (.lst []) := x4 _ _ (x2 _ _ (x1 _ _ upd_same))
    have g1 : (upd (upd (upd (upd H1 p0 (.lst [])) p1 (.lst [])) p2 (.lst [])) T4 (.tup [pv, V.ref p0, V.ref p1, V.ref p2])) p1 = some (.lst []) := x4 _ _ (x2 _ _ upd_same)
    have g2 : (upd (upd (upd (upd H1 p0 (.lst [])) p1 (.lst [])) p2 (.lst [])) T4 (.tup [pv, V.ref p0, V.ref p1, V.ref p2])) p2 = some (.lst []) := x4 _ _ upd_same
    have n01 : p0 ≠ p1 := ne_of_none (H := upd H1 p0 (.lst [])) upd_same np1
    have n02 : p0 ≠ p2 := ne_of_none (x1 _ _ upd_same) np2
    have n12 : p1 ≠ p2 := ne_of_none (H := upd (upd H1 p0 (.lst [])) p1 (.lst [])) upd_same np2
    have np1' : H1 p1 = none := by
      rw [upd_ne n01.symm] at np1
      exact np1
    have np2' : H1 p2 = none := by
      rw [upd_ne n12.symm, upd_ne n02.symm] at np2
      exact np2
    have e1' := e1.trans (((x0.trans x1).trans x2).trans x4)
    have hpv := dp_same (((x0.trans x1).trans x2).trans x4) hpv
    have N0 := Same.free e1 np0
    have N1 := Same.free e1 np1'
    have N2 := Same.free e1 np2'
    have ap0 : p0 ≠ a := (hB.ne N0).1.symm
    have ap1 : p1 ≠ a := (hB.ne N1).1.symm
    have ap2 : p2 ≠ a := (hB.ne N2).1.symm
    have lp0 : l ≠ p0 := (hB.ne N0).2
    clear x0 x1 x2 x4
    generalize upd (upd (upd (upd H1 p0 (.lst [])) p1 (.lst [])) p2 (.lst [])) T4 (.tup [pv, V.ref p0, V.ref p1, V.ref p2]) = H2 at g0 g1 g2 e1' hpv
    have hB2 := hB.same e1'
    refine ⟨.ref a, rfl, .int lim, rfl, _, _, rfl, rfl, a, l, lim + 1, rfl, hB2, by omega, by omega, fun r H3 r0 r1 hB3 k3 => ?_⟩
    have tk3 : ∀ {d : PyData} {v : V}, fz d = true → Dp K H2 v d → Dp K H3 v d := fun hf hd => dp_keep hB2 k3 hf hd
    refine ⟨r, rfl, by omega, by omega, for_it walk_range0 (fun i σ' H' => (∃ u y7 y8 y9 y10 y11 pr, σ' = [some (.ref a), some (.ref p), some (.int lim), some u, some (.ref p0), some (.ref p1), some (.ref p2), y7, y8, y9, y10, y11] ∧ Dp K H' u (dPr pr) ∧ Okay m pr.1 ∧ Okay m pr.2) ∧ BagAt H' a l ∧ Keep a H H' ∧ ∃ ss n1 n2, LsAt H' p0 ss ∧ LsAt H' p1 n1 ∧ LsAt H' p2 n2 ∧ n1.length = ss.length ∧ n2.length = ss.length ∧ ss.length ≤ i ∧ strsOk ss ∧ strsOk n1 ∧ strsOk n2) ⟨⟨pv, none, none, none, none, none, (beginS m, beginS m), rfl, tk3 (fz_dPr _) hpv, okay_begin, okay_begin⟩, hB3, (Keep.of_same e1').trans k3, [], [], [], k3 _ _ ap0 g0, k3 _ _ ap1 g1, k3 _ _ ap2 g2, rfl, rfl, Nat.le_refl _, fun _ h => (by cases h), fun _ h => (by cases h), fun _ h => (by cases h)⟩ (fun _ _ _ _ _ => True.intro) (fun i x σ' Ha Hb hi hP hy => ?_) (fun σ' H' hP => ?_)⟩
    · obtain ⟨⟨u, y7, y8, y9, y10, y11, pr, rfl, hu, o1, o2⟩, hB4, k4, ss, n1, n2, s0, s1, s2, t1, t2, tl, so, so1, so2⟩ := hP
      obtain ⟨rfl, rfl⟩ := hy
      have hM4 := hM.keep hB k4
      refine q_asgE (use_n (K := K) (ds := (leadsM m [] pr).map dTw) (en_call (R := RTwin) (eds_cons (ed_var (i := 1) rfl hM4.dp) (eds_cons (ed_var (i := 3) rfl hu) (eds_cons (en_lst eds_nil (by decide)).list eds_nil))) ⟨m, [], pr, g, o1, o2, (fun _ h => by cases h), rfl, rfl⟩) fun sq us H5 nsq e5 hsq hus => g_go ?_)
      try dsimp only
      have hB5 := hB4.same e5
      have k5 := k4.trans (.of_same e5)
      have hls : Dp K H5 (.ref sq) (.list ((leadsM m [] pr).map dTw)) := .lst (.of hsq) hus
      have ll := leads_len32 g [] pr
      have hul := hus.length
      rw [List.length_map] at hul
      refine s_if (b := !(leadsM m [] pr).isEmpty) (et_test (ev_is (ev_neD (K := K) (ed_var (i := 8) rfl hls) (en_lst eds_nil (by decide)).list (leads_shaped32 g _ _) rfl) (by rw [eqv_nil]))) (fun hb H6 e6 => ?_) fun hb H6 e6 => ?_
      · have hne : 0 < us.length := by
          rw [hul]
          cases hc : leadsM m [] pr with
          | nil =>
            rw [hc] at hb
            cases hb
          | cons y l9 => exact Nat.zero_lt_succ _
        have hB6 := hB5.same e6
        have hsqa : sq ≠ a := (hB4.ne nsq).1.symm
        have hus6 := dps_same e6 hus
        refine ⟨.ref a, rfl, .ref sq, rfl, a, l, _, _, rfl, hB6, .inl ⟨sq, rfl, hsqa, .inl (.of (e6 _ _ hsq))⟩, hne, by omega, fun v7 H7 hv7 hB7 k7 => ?_⟩
        obtain ⟨j, hj, rfl⟩ := List.getElem_of_mem hv7
        obtain ⟨dd, hdd, hxd⟩ := hus6.at (List.getElem?_eq_getElem hj)
        rw [List.getElem?_map, Option.map_eq_some_iff] at hdd
        obtain ⟨x, hx, rfl⟩ := hdd
        obtain ⟨xa, xb, ha, hb2, rfl⟩ := leads_in32 (List.mem_of_getElem? hx)
        have sa := step_str g ha
        have sb := step_str g hb2
        have hxd7 := dp_keep hB6 k7 (fz_dTw _) hxd
        refine tg4_32 (d1 := .str xa.2.1) (d2 := .str xb.2.1) (d3 := dPr (xa.2.2, xb.2.2)) (d4 := .str xa.1) hxd7 fun w1 w2 w3 w4 b1 b2 b3 b4 => ?_
        obtain rfl := dp_str b1
        obtain rfl := dp_str b2
        obtain rfl := dp_str b4
        try dsimp only
        have k67 := (k5.trans (.of_same e6)).trans k7
        have s07 : LsAt H7 p0 ss := k7 _ _ ap0 (e6 _ _ (e5 _ _ s0))
        have s17 : LsAt H7 p1 n1 := k7 _ _ ap1 (e6 _ _ (e5 _ _ s1))
        have s27 : LsAt H7 p2 n2 := k7 _ _ ap2 (e6 _ _ (e5 _ _ s2))
        refine ⟨.ref p0, rfl, .inl ⟨rfl, _, .of s07⟩, .str xa.1, rfl, p0, _, _, rfl, rfl, s07, small_lt (by rw [List.length_map]; omega), ?_⟩
        have q1 : LsAt (upd H7 p0 (.lst (ss.map V.str ++ [V.str xa.1]))) p1 n1 := by
          show upd H7 p0 _ p1 = _
          rw [upd_ne n01.symm]
          exact s17
        refine ⟨.ref p1, rfl, .inl ⟨rfl, _, .of q1⟩, .str xa.2.1, rfl, p1, _, _, rfl, rfl, q1, small_lt (by rw [List.length_map]; omega), ?_⟩
        have q2 : LsAt (upd (upd H7 p0 (.lst (ss.map V.str ++ [V.str xa.1]))) p1 (.lst (n1.map V.str ++ [V.str xa.2.1]))) p2 n2 := by
          show upd (upd H7 p0 _) p1 _ p2 = _
          rw [upd_ne n12.symm, upd_ne n02.symm]
          exact s27
        refine ⟨.ref p2, rfl, .inl ⟨rfl, _, .of q2⟩, .str xb.2.1, rfl, p2, _, _, rfl, rfl, q2, small_lt (by rw [List.length_map]; omega), ?_⟩
        have ta : TupK K H7 (upd H7 p0 (.lst (ss.map V.str ++ [V.str xa.1]))) := .lst s07
        have tb : TupK K (upd H7 p0 (.lst (ss.map V.str ++ [V.str xa.1]))) (upd (upd H7 p0 (.lst (ss.map V.str ++ [V.str xa.1]))) p1 (.lst (n1.map V.str ++ [V.str xa.2.1]))) := .lst q1
        have tc : TupK K (upd (upd H7 p0 (.lst (ss.map V.str ++ [V.str xa.1]))) p1 (.lst (n1.map V.str ++ [V.str xa.2.1]))) (upd (upd (upd H7 p0 (.lst (ss.map V.str ++ [V.str xa.1]))) p1 (.lst (n1.map V.str ++ [V.str xa.2.1]))) p2 (.lst (n2.map V.str ++ [V.str xb.2.1]))) := .lst q2
        have snoc : ∀ {l : List Str} {z : Str}, strsOk l → PyData.strOk z = true → strsOk (l ++ [z]) := fun {l z} h1 h2 y hy => by
          rcases List.mem_append.mp hy with hy | hy
          · exact h1 y hy
          · rw [List.mem_singleton.mp hy]
            exact h2
        refine ⟨⟨w3, _, _, _, _, _, (xa.2.2, xb.2.2), rfl, dp_tk ((ta.trans tb).trans tc) (fz_dPr _) b3, okay_of_step g o1 ha, okay_of_step g o2 hb2⟩, ((hB7.upd (hB.ne N0)).upd (hB.ne N1)).upd (hB.ne N2), Keep.mut (Keep.mut (Keep.mut k67 N0) N1) N2, ss ++ [xa.1], n1 ++ [xa.2.1], n2 ++ [xb.2.1], ?_, ?_, ?_, by rw [List.length_append, List.length_append, t1]; rfl, by rw [List.length_append, List.length_append, t2]; rfl, by rw [List.length_append, List.length_singleton]; omega, snoc so sa.1, snoc so1 sa.2, snoc so2 sb.2⟩
        · show upd (upd (upd H7 p0 _) p1 _) p2 _ p0 = _
          rw [upd_ne n02, upd_ne n01, upd_same, List.map_append]
          rfl
        · show upd (upd (upd H7 p0 _) p1 _) p2 _ p1 = _
          rw [upd_ne n12, upd_same, List.map_append]
          rfl
        · show upd (upd (upd H7 p0 _) p1 _) p2 _ p2 = _
          rw [upd_same, List.map_append]
          rfl
      · have e56 := e5.trans e6
        exact ⟨⟨u, _, _, _, _, _, pr, rfl, dp_same e56 hu, o1, o2⟩, hB5.same e6, k5.trans (.of_same e6), ss, n1, n2, e56 _ _ s0, e56 _ _ s1, e56 _ _ s2, t1, t2, by omega, so, so1, so2⟩
    · obtain ⟨⟨u, y7, y8, y9, y10, y11, pr, rfl, hu, o1, o2⟩, hB4, k4, ss, n1, n2, s0, s1, s2, t1, t2, tl, so, so1, so2⟩ := hP
      refine ⟨.ref p0, rfl, .ref p1, rfl, .ref p2, rfl, by show 3 ≤ sizeLine; decide, fun T5 nT5 => ?_⟩
      have x5 := Ex.new (o := .tup [V.ref p0, V.ref p1, V.ref p2]) nT5
      exact q T5 p0 p1 p2 ss n1 n2 _ upd_same N0 N1 N2 n01 n02 n12 (x5 _ _ s0) (x5 _ _ s1) (x5 _ _ s2) t1 t2 (by omega) so so1 so2 (hB4.same x5) (k4.trans (.of_same x5))
end
end Ink
namespace Ink
open PySem PySem.Spec PyProof.Rows L2 Evl
/-! ### is_doubt -/
def spAlong (P : Program) (w : World) (K : PySem.W.Frag) (C : Addr) : Sp := fun vs H Q _ => ∃ (c d0 : Addr) (m : List Wr) (n : Nat) (kd : Bool) (p1 p2 : Addr) (ss ns : List Str), vs = [.ref c, .ref p1, .ref p2] ∧ CoAtD P w K C H c m n d0 ∧ n ≤ 20000 ∧ GoodM m ∧ RowAt K H kd p1 ss ∧ RowAt K H kd p2 ns ∧ ss.length = ns.length ∧ strsOk ss ∧ strsOk ns ∧ ss.length ≤ 1000 ∧
  ∀ u H', KD d0 H H' → CoAtD P w K C H' c m 20000 d0 → decide (u = .non) = (!goesM m (beginS m) (ss.zip ns)) → Q u H'
def alikeRows (m : List Wr) (ks : List Knd) (ss n1 n2 : List Str) : Bool := rowOk m ss n1 && rowOk m ss n2 && allEye ks ss n1 n2
def spAreAlike (P : Program) (w : World) (K : PySem.W.Frag) (C E : Addr) : Sp := fun vs H Q _ => ∃ (c d0 e de : Addr) (m : List Wr) (n : Nat) (who : Option Str) (ks : List Knd) (kd : Bool) (p0 p1 p2 : Addr) (ss n1 n2 : List Str), vs = [.ref c, .ref e, .ref p0, .ref p1, .ref p2] ∧ CoAtD P w K C H c m n d0 ∧ n ≤ 20000 ∧ GoodM m ∧ EyeAt P w K E H e who ks de ∧ de ≠ d0 ∧
  RowAt K H kd p0 ss ∧ RowAt K H kd p1 n1 ∧ RowAt K H kd p2 n2 ∧ strsOk ss ∧ strsOk n1 ∧ strsOk n2 ∧ ss.length ≤ 1000 ∧ ∀ H', KD d0 H H' → CoAtD P w K C H' c m 20000 d0 → Q (.bl (alikeRows m ks ss n1 n2)) H'
def spDoubt (P : Program) (w : World) (K : PySem.W.Frag) (C : Addr) : Sp := fun vs H Q _ => ∃ (c d0 : Addr) (m : List Wr) (n : Nat) (who : Option Str) (ks : List Knd) (kd : Bool) (p0 p1 p2 : Addr) (ss n1 n2 : List Str) (many : Int) (wv kv : V), vs = [.ref c, .ref p0, .ref p1, .ref p2, .int many, wv, kv] ∧ CoAtD P w K C H c m n d0 ∧ n ≤ 20000 ∧ GoodM m ∧
  RowAt K H kd p0 ss ∧ RowAt K H kd p1 n1 ∧ RowAt K H kd p2 n2 ∧ strsOk ss ∧ strsOk n1 ∧ strsOk n2 ∧ ss.length ≤ 1000 ∧ Dp K H wv (dWho who) ∧ (Dp K H kv (.list (ks.map dKd)) ∨ Dp K H kv (.tuple (ks.map dKd))) ∧ ks.length ≤ 10000 ∧ ∀ H', KD d0 H H' → CoAtD P w K C H' c m 20000 d0 → Q (.bl (doubtM m ks who ss n1 n2 many)) H'
section
variable {P : Program} {w : World} {K : PySem.W.Frag} {mg : Str → Option Value} {base : Heap}
theorem mk_eye32 {E : Addr} {Q : VK} {σ : L2.St} {H : Hp} {ta tb : TE} {kv : V} {ks : List Knd} {who : Option Str} (hu : EvD K ta σ H (dWho who)) (hb : Ev tb σ H kv) (hk : Dp K H kv (.list (ks.map dKd)) ∨ Dp K H kv (.tuple (ks.map dKd))) (hz : ks.length ≤ 10000)
    (q : ∀ x d H2, H x = none → H d = none → Ex H H2 → EyeAt P w K E H2 x who ks d → Q (.ref x) H2) : tMake E (spEye P w K E) [] E0 (tCons ta (tCons tb tNil)) σ H Q := hu H (.refl H) _ fun u H1 e1 hud => hb H1 e1 _ fun H2 e2 => by
  intro x dx nx ndx nxd
  have e12 := e1.trans e2
  have s0 : Same H2 (upd (upd H2 dx (.own x)) x (.ins E dx [])) := (same_new ndx).trans (same_new (by rw [upd_ne nxd.symm]; exact nx))
  have s2 := e12.trans s0
  exact ⟨x, dx, u, kv, who, ks, rfl, upd_same, dp_same (e2.trans s0) hud, hk.imp (dp_same s2) (dp_same s2), hz, fun d H3 nd k3 he => ⟨rfl, q x d H3 (Same.free e12 nx) (Same.free s2 nd) (fun b o h => k3 b o (s2 b o h) (ne_of_none h (Same.free e12 nx))) he⟩⟩
theorem RowAt.ndic {H : Hp} {kd : Bool} {p d0 : Addr} {ss : List Str} {xs : DX} (h : RowAt K H kd p ss) (hd : H d0 = some (DicO P w d0 xs)) {H' : Hp} (k : KD d0 H H') : RowAt K H' kd p ss := by
  cases kd
  · have h : SqL K H p (ss.map V.str) := h
    show SqL K H' p (ss.map V.str)
    rcases h with (h | ⟨o, h⟩) | h
    · exact .inl (.inl (k _ _ h fun z => by rw [z, hd] at h; exact dicO_ne.1 _ (Option.some.inj h)))
    · exact .inl (.inr ⟨o, k _ _ h fun z => by rw [z, hd] at h; unfold DicO at h; cases h⟩)
    · exact .inr h
  · exact k.tk hd _ _ h
/-- a zip of two rows that are as long -/
theorem zip_use {kd : Bool} {p q : Addr} {ss ns : List Str} {n : Nat} (l1 : ss.length = n) (l2 : ns.length = n) : ∃ J, Walk J n (fun H => RowAt K H kd p ss ∧ RowAt K H kd q ns) (fun i H v H' => ∃ T x y, v = .ref T ∧ H T = none ∧ H' = upd H T (.tup [V.str x, V.str y]) ∧ ss[i]? = some x ∧ ns[i]? = some y) ∧
    ∀ {σ : L2.St} {H : Hp} {R : It → Hp → Prop} {i j : Nat}, σ[i]? = some (some (.ref p)) → σ[j]? = some (some (.ref q)) → RowAt K H kd p ss → RowAt K H kd q ns → R J H → RZ.iZipA K (tCons (tVar i) (tCons (tVar j) tNil)) σ H R := by
  have conv : ∀ {i : Nat} {H H' : Hp} {v : V}, YPair (fun i => (ss.map V.str)[i]?) (fun i => (ns.map V.str)[i]?) i H v H' → ∃ T x y, v = .ref T ∧ H T = none ∧ H' = upd H T (.tup [V.str x, V.str y]) ∧ ss[i]? = some x ∧ ns[i]? = some y := fun {i H H' v} h => by
    obtain ⟨T, x, y, h1, h2, h3, h4, h5⟩ := h
    have h4 : (ss.map V.str)[i]? = some x := h4
    have h5 : (ns.map V.str)[i]? = some y := h5
    rw [List.getElem?_map, Option.map_eq_some_iff] at h4 h5
    obtain ⟨a, ha, rfl⟩ := h4
    obtain ⟨b, hb, rfl⟩ := h5
    exact ⟨T, a, b, h1, h2, h3, ha, hb⟩
  have hn : n = min (ss.map V.str).length (ns.map V.str).length := by
    rw [List.length_map, List.length_map]
    omega
  cases kd
  · refine ⟨Itz K p q, (walk_zip (K := K) (a := p) (b := q) (xs := ss.map V.str) (ys := ns.map V.str) hn).mono (fun _ h => h) fun i H x H' _ _ y => conv y, fun s1 s2 h1 h2 r => ⟨.ref p, s1, .ref q, s2, p, q, _, _, rfl, .inl ⟨h1, h2, r⟩⟩⟩
  · refine ⟨RZ.ItzT K p q, (walk_zipT (K := K) (a := p) (b := q) (xs := ss.map V.str) (ys := ns.map V.str) hn).mono (fun _ h => h) fun i H x H' _ _ y => conv y, fun s1 s2 h1 h2 r => ⟨.ref p, s1, .ref q, s2, p, q, _, _, rfl, .inr ⟨h1, h2, r⟩⟩⟩
theorem asg_lc32 {te1 te : TE} {g gn : TG} {tt : TT} {vs : List Nat} {D : Ends} {σ : L2.St} {H : Hp} (h : te1 σ H fun v H1 => tAsg (tLc (iList K (tC v)) g tt te vs) gn D σ H1) : tAsg (tLc (iList K te1) g tt te vs) gn D σ H := h
theorem q_asgS {te : TE} {g : TG} {ts : TS} {D : Ends} {σ : L2.St} {H : Hp} (h : tAsg te g { D with nx := ts D } σ H) : tSeq (tAsg te g) ts D σ H := h
theorem q_forS {ti : TI} {g : TG} {tb tz : TS} {D : Ends} {σ : L2.St} {H : Hp} (h : ti σ H fun J H1 => tFor (iFix J) g tb { D with nx := tz D } σ H1) : tSeq (tFor ti g tb) tz D σ H := h
/-- the truth of a list -/
theorem et_truL {σ : L2.St} {H : Hp} {ta : TE} {ds : List PyData} (h : EvD K ta σ H (.list ds)) : EvT (fun σ H Q => ta σ H fun x H' => ∃ k, TruV K x H' k ∧ Q k H') σ H (!ds.isEmpty) := fun H1 e Q q =>
  h H1 e _ fun v H2 e2 hv => by
    obtain ⟨p, xs, rfl, hs, hxs⟩ := dp_lst hv
    refine ⟨!ds.isEmpty, .inl ⟨xs, hs, ?_⟩, q H2 e2⟩
    cases hxs <;> rfl
theorem ok_along {f C : Addr} {fd : FuncData} {k : Nat} (F : Fun K "_stands_along" "_stands_along" sStandsAlong f fd) (T : Txt mg) (M_Company_begin : MetC P w K mg base k C "begin" ["self"] (spBegin P w K C)) (M_Company_steps : MetC P w K mg base k C "steps" ["self", "stand"] (spStepsD P w K C)) :
    FnOk P w K mg base CX0 (k + 1) f fd ["company", "strip", "names"] (spAlong P w K C) := by
  refine F.ok sc__stands_along (fun vs H Q E h => ?_) (fun cdv A outer s H vs Q E hr h => ?_)
  · obtain ⟨c, d0, m, n, kd, p1, p2, ss, ns, rfl, _⟩ := h
    rfl
  · obtain ⟨c, d0, m, n, kd, p1, p2, ss, ns, rfl, hc, hn, g, h1, h2, hl, so, no, sl, q⟩ := h
    refine ⟨_, (pss_cons (ps_set (i := 3) sc__stands_along.nd rfl (.inl rfl) (pe_lst (pa_cons (pe_methC0 (pv 0) M_Company_begin (hr.mono (by omega))) pa_nil)))
    (pss_cons (ps_for PassesOwn.never rfl (RZ.pi_zipA (by rfl) T.m_zip (pa_cons (pv 1) (pa_cons (pv 2) pa_nil))) (pg_tup rfl (pgs_cons (pg_name (i := 4) sc__stands_along.nd rfl (.inr rfl)) (pgs_cons (pg_name (i := 5) sc__stands_along.nd rfl (.inr rfl)) pgs_nil)))
    (pss_cons (ps_setLc (i := 6) (own := [("found", 7), ("who", 8), ("then", 9)]) (g := (gTup K 3 (gCons (gName 7) (gCons (gName 8) (gCons (gName 9) gNil))))) (by rfl) sc__stands_along.nd rfl rfl (sw_true rfl rfl rfl (by decide +kernel)) (pi_list (pe_methC (pv 0) M_Company_steps (hr.mono (by omega)) (pa_cons (pe_ix ix_list (pv 3) (pe_un un_neg pe_int) (fun _ _ => rfl)) pa_nil))) (blkOk_by (own := [("found", 7), ("who", 8), ("then", 9)]) (N := ["company", "strip", "names", "stands", "sign", "name", "goals", "found", "who", "then"]) (sc := defScope sStandsAlong) (by decide +kernel)) (fun _ _ _ _ _ => (pg_tup rfl (pgs_cons (pg_name (i := 7) sc__stands_along.nd rfl (.inl rfl)) (pgs_cons (pg_name (i := 8) sc__stands_along.nd rfl (.inl rfl)) (pgs_cons (pg_name (i := 9) sc__stands_along.nd rfl (.inl rfl)) pgs_nil))))) (fun _ _ _ _ _ => pts_one (pt_cmpR (show OpR _ _ (rEqD K) from op_eqD hr.units) (pe_tup (pa_cons (pv 7) (pa_cons (pv 8) pa_nil))) (pe_tup (pa_cons (pv 4) (pa_cons (pv 5) pa_nil))) (nomark _))) (fun _ _ _ _ _ => (pv 9)))
    (pss_cons (ps_if (pt_not (pt_truth (pv 6) (by intro _; rfl)))
    (pss_one (ps_ret pe_non)) pss_nil)
    (pss_one (ps_expr (pe_bm PySem.F.plainAttrs_list PySem.F.slot_list_append PySem.F.type_list_append mt_append (pv 3) (pa_cons (pe_ix ix_list (pv 6) pe_int (fun _ _ => rfl)) pa_nil)))))))
    (pss_one (ps_ret (pv 3))))), ?_⟩
    obtain ⟨dx, tw, kvs, hI, _⟩ := id hc
    obtain ⟨xs0, hd0⟩ := hc.ext
    refine ⟨.ref c, rfl, c, dx, _, rfl, hI, coF_no _ _ nbegin1 nbegin2, c, m, n, rfl, hc.co, g.len, fun v1 H1 e1 hv1 => ⟨by show 1 ≤ sizeLine; decide, fun fp nfp => g_go ?_⟩⟩
    have eF := Ex.new (o := .lst [v1]) nfp
    have e2 := Ex.trans e1 eF
    have hfp : upd H1 fp (.lst [v1]) fp = some (.lst [v1]) := upd_same
    have hv2 := dp_same eF hv1
    have nfpH : H fp = none := Same.free e1 nfp
    generalize upd H1 fp (.lst [v1]) = H2 at e2 hfp hv2
    have hc2 := hc.same e2
    have fpd : fp ≠ d0 := fun z => by
      rw [z, hd0] at nfpH
      cases nfpH
    obtain ⟨J, W, use⟩ := zip_use (K := K) (kd := kd) (p := p1) (q := p2) rfl hl.symm
    try dsimp only
    refine q_forS (use (σ := [some (.ref c), some (.ref p1), some (.ref p2), some (.ref fp), none, none, none, none, none, none]) (i := 1) (j := 2) rfl rfl (h1.same e2) (h2.same e2) ?_)
    try dsimp only
    refine for_it W (fun i σ' H' => (∃ y4 y5 y6 y7 y8 y9, σ' = [some (.ref c), some (.ref p1), some (.ref p2), some (.ref fp), y4, y5, y6, y7, y8, y9]) ∧ KD d0 H H' ∧ CoAtD P w K C H' c m 20000 d0 ∧ ∃ acc pre t, H' fp = some (.lst acc) ∧ DpAll K H' acc ((pre ++ [t]).map dS) ∧ pre.length = i ∧ Okay m t ∧ Tiny t ∧ goesM m (beginS m) (ss.zip ns) = goesM m t ((ss.zip ns).drop i)) ⟨⟨none, none, none, none, none, none, rfl⟩, KD.of e2, hc2.cap, [v1], [], beginS m, hfp, .one hv2, rfl, okay_begin, tiny_begin g.len, rfl⟩ (fun _ _ _ _ hP => ⟨h1.ndic hd0 hP.2.1, h2.ndic hd0 hP.2.1⟩) (fun i y σ' Ha Hb hi hP hy => ?_) (fun σ' H' hP => ?_)
    · obtain ⟨⟨y4, y5, y6, y7, y8, y9, rfl⟩, k1, hc1, acc, pre, t, hacc, hda, pl, ot, tt, eq⟩ := hP
      obtain ⟨T9, z1, z2, rfl, nT, rfl, hz1, hz2⟩ := hy
      have eT := Ex.new (o := .tup [V.str z1, V.str z2]) nT
      have hT : Dp K (upd Ha T9 (.tup [V.str z1, V.str z2])) (.ref T9) (.tuple [.str z1, .str z2]) := .tup (.of upd_same) (.cons (.str _) (.cons (.str _) .nil))
      generalize upd Ha T9 (.tup [V.str z1, V.str z2]) = H3 at eT hT
      refine tg2 hT fun w1 w2 b1 b2 => ?_
      obtain rfl := dp_str b1
      obtain rfl := dp_str b2
      try dsimp only
      have k3 : KD d0 H H3 := k1.trans (.of eT)
      have hc3 := hc1.same eT
      have hacc3 := eT _ _ hacc
      have hda3 := dps_same eT hda
      rw [List.map_append] at hda3
      have st1 := so _ (List.mem_of_getElem? hz1)
      have st2 := no _ (List.mem_of_getElem? hz2)
      have hzip : (ss.zip ns)[i]? = some (z1, z2) := by
        rw [List.getElem?_zip_eq_some]
        exact ⟨hz1, hz2⟩
      have hdrop : (ss.zip ns).drop i = (z1, z2) :: (ss.zip ns).drop (i + 1) := by
        rw [List.drop_eq_getElem_cons (List.getElem?_eq_some_iff.mp hzip).1, (List.getElem?_eq_some_iff.mp hzip).2]
      have sl9 := steps_len g t
      obtain ⟨xs3, hd3⟩ := hc3.ext
      have al := hda.length
      rw [List.length_map, List.length_append, pl] at al
      have al : acc.length = i + 1 := al
      -- the last stand
      obtain ⟨vt, hvt, hvd⟩ : ∃ vt, acc[i]? = some vt ∧ Dp K H3 vt (dS t) := hda3.get (i := i) (d := dS t) (by rw [List.getElem?_append_right (by rw [List.length_map, pl]; exact Nat.le_refl _), List.length_map, pl, Nat.sub_self]; rfl)
      have hax : acc = acc.take i ++ [vt] := by
        have q1 := (List.take_append_drop i acc).symm
        rw [List.drop_eq_getElem_cons (by omega), List.drop_of_length_le (by omega)] at q1
        rw [List.getElem?_eq_getElem (by omega)] at hvt
        rw [Option.some.inj hvt] at q1
        exact q1
      refine q_asgS (asg_lc32 (K := K) (use_steps (P := P) (w := w) (K := K) (C := C) (σ := [some (.ref c), some (.ref p1), some (.ref p2), some (.ref fp), some (.str z1), some (.str z2), y6, y7, y8, y9]) (ev_var (i := 0) rfl) (ev_op (ev_var (i := 3) rfl) (ev_un ev_c ru_neg) (rv_ixL (K := K) (xs := acc) (.of hacc3) (by rw [hax]; exact atI_last _ _))) hc3 (Nat.le_refl _) g ot.toFits tt hvd fun sp us H4 nsp kd4 hc4 hsp hus => ?_))
      have k4 := k3.trans kd4
      have hacc4 := kd4 _ _ hacc3 fpd
      have tk4 : TupK K H3 H4 := kd4.tk hd3
      refine sd_asgN (K := K) (ds := ((stepsOf m t).filter (goM (z1, z2))).map fun y : Str × Str × Std => dS y.2.2) (en_lc (σ := [some (.ref c), some (.ref p1), some (.ref p2), some (.ref fp), some (.str z1), some (.str z2), y6, y7, y8, y9]) (g := gTup K 3 (gCons (gName 7) (gCons (gName 8) (gCons (gName 9) gNil)))) (vs := [7, 8, 9]) (stepsOf m t) dStep (goM (z1, z2)) (fun y : Str × Str × Std => dS y.2.2) (ei_lst (ed_of ev_c (.lst (.of hsp) hus))) (by omega) (fun y _ => fz_dS _) fun j y H5 xv hy e5 hdy R kk => ?_) fun gp us2 H5 ngp e5 hgp hus5 => ?_
      · refine tg3 (d1 := .str y.1) (d2 := .str y.2.1) (d3 := dS y.2.2) hdy fun c1 c2 c3 q1 q2 q3 => ?_
        obtain rfl := dp_str q1
        obtain rfl := dp_str q2
        obtain ⟨sy1, sy2⟩ := step_str g (List.mem_of_getElem? hy)
        exact kk [some (.ref c), some (.ref p1), some (.ref p2), some (.ref fp), some (.str z1), some (.str z2), y6, some (.str y.1), some (.str y.2.1), some c3] rfl (et_test (ev_is (ev_eqD (K := K) (d1 := dKd (y.1, y.2.1)) (d2 := dKd (z1, z2)) (ed_tup (eds_cons (ed_str (ev_var (i := 7) rfl)) (eds_cons (ed_str (ev_var (i := 8) rfl)) eds_nil)) (by show 2 ≤ 100000; decide)) (ed_tup (eds_cons (ed_str (ev_var (i := 4) rfl)) (eds_cons (ed_str (ev_var (i := 5) rfl)) eds_nil)) (by show 2 ≤ 100000; decide)) (dKd_shaped ⟨sy1, sy2⟩) (dKd_shaped ⟨st1, st2⟩)) (by rw [eqv_dKd]; rfl))) fun _ => ed_var (i := 9) rfl q3
      · try dsimp only
        have hgl : Dp K H5 (.ref gp) (.list (((stepsOf m t).filter (goM (z1, z2))).map fun y : Str × Str × Std => dS y.2.2)) := .lst (.of hgp) hus5
        have k5 : KD d0 H H5 := k4.trans (.of e5)
        have hc5 := hc4.same e5
        have hul := hus5.length
        rw [List.length_map] at hul
        refine Evl.q_when (b := ((stepsOf m t).filter (goM (z1, z2))).isEmpty) (by
          have h2 : (!(!(((stepsOf m t).filter (goM (z1, z2))).map fun y : Str × Str × Std => dS y.2.2).isEmpty)) = ((stepsOf m t).filter (goM (z1, z2))).isEmpty := by
            rw [Bool.not_not]
            cases (stepsOf m t).filter (goM (z1, z2)) <;> rfl
          exact h2 ▸ et_not (et_truL (K := K) (ed_var (i := 6) rfl hgl))) (fun hE H6 e6 => ?_) fun hE H6 e6 => ?_
        · refine q .non H6 (k5.trans (.of e6)) (hc5.same e6) ?_
          rw [eq, hdrop, goesM_none (List.isEmpty_iff.mp hE)]
          rfl
        · obtain ⟨y, l9, hf⟩ : ∃ y l9, (stepsOf m t).filter (goM (z1, z2)) = y :: l9 := by
            cases hcf : (stepsOf m t).filter (goM (z1, z2)) with
            | nil =>
              rw [hcf] at hE
              cases hE
            | cons y l9 => exact ⟨y, l9, rfl⟩
          have hym : y ∈ stepsOf m t := (List.mem_filter.mp (by rw [hf]; exact List.mem_cons_self ..)).1
          have hacc6 := e6 _ _ (e5 _ _ hacc4)
          refine sd_app (K := K) (d := dS y.2.2) rfl hacc6 (ed_ixL (ed_var (i := 6) rfl (dp_same e6 hgl)) ev_c (by decide) (by rw [hf]; rfl)) (by omega) fun v7 H7 e7 hv7 => ?_
          have hacc7 := e7 _ _ hacc6
          have t8 : TupK K H7 (upd H7 fp (.lst (acc ++ [v7]))) := .lst hacc7
          have k7 : KD d0 H H7 := k5.trans (.of (e6.trans e7))
          have hc7 := (hc5.same e6).same e7
          obtain ⟨dx7, tw7, kvs7, hI7, _⟩ := id hc7
          refine ⟨⟨_, _, _, _, _, _, rfl⟩, fun b o hb nb => ?_, ?_, acc ++ [v7], pre ++ [t], y.2.2, upd_same, ?_, by rw [List.length_append, pl]; rfl, okay_of_step g ot hym, tiny_steps g ot.toFits tt hym, ?_⟩
          · rw [upd_ne (ne_of_none hb nfpH)]
            exact k7 b o hb nb
          · exact hc7.keep (upd_ne fpd.symm) (fun o ho => by rw [upd_ne (ne_of ho hacc7 (by rw [hI7] at ho; cases ho; intro z; cases z))]; exact ho) t8
          · rw [List.map_append]
            refine DpAll.app (dps_tk t8 (fz_map fun x _ => fz_dS x) ?_) (.one (dp_tk t8 (fz_dS _) hv7))
            exact dps_same (e5.trans (e6.trans e7)) (dps_tk tk4 (fz_map fun x _ => fz_dS x) (dps_same eT hda))
          · rw [eq, hdrop, goesM_some hf]
    · obtain ⟨⟨y4, y5, y6, y7, y8, y9, rfl⟩, k1, hc1, acc, pre, t, hacc, hda, pl, ot, tt, eq⟩ := hP
      rw [List.drop_of_length_le (by rw [List.length_zip]; omega)] at eq
      refine ⟨.ref fp, rfl, q _ H' k1 hc1 ?_⟩
      rw [eq]
      rfl
end
end Ink
namespace Ink
open PySem PySem.Spec PyProof.Rows L2 Evl
section
variable {P : Program} {w : World} {K : PySem.W.Frag} {mg : Str → Option Value} {base : Heap}
theorem row_len {σ : L2.St} {H : Hp} {te : TE} {kd : Bool} {p : Addr} {ss : List Str} (h : Ev te σ H (.ref p)) (hr : RowAt K H kd p ss) : Ev (tCB (rLenV K) (tCons te tNil)) σ H (.int (ss.length : Nat)) := by
  cases kd
  · exact ev_is (ev_lenD (K := K) (d := .list (ss.map .str)) (ed_of h (.lst hr (dps_strs ss))) (.inl rfl)) (by rw [List.length_map])
  · exact ev_is (ev_lenD (K := K) (d := .tuple (ss.map .str)) (ed_of h (.tup hr (dps_strs ss))) (.inr rfl)) (by rw [List.length_map])
theorem ev_chainN {σ : L2.St} {H : Hp} {ta tb tc : TE} {a b c : Nat} (ha : Ev ta σ H (.int (a : Int))) (hb : Ev tb σ H (.int (b : Int))) (hc : Ev tc σ H (.int (c : Int))) : Ev (tChain rEq rEq ta tb tc) σ H (.bl (decide (a = b) && decide (b = c))) := fun H1 e Q q => by
  refine ha H1 e _ fun H2 e2 => hb H2 (e.trans e2) _ fun H3 e3 => ⟨rfl, _, rfl, ite2 (fun h => ?_) fun h => ?_⟩
  · have h : a = b := by
      have := of_decide_eq_true h
      injection this with this
      omega
    refine hc H3 ((e.trans e2).trans e3) _ fun H4 e4 => ⟨rfl, ?_⟩
    have := q H4 ((e2.trans e3).trans e4)
    rw [decide_eq_true h, Bool.true_and] at this
    rw [show decide (V.int (b : Int) = V.int (c : Int)) = decide (b = c) from decide_eq_decide.mpr ⟨fun z => by injection z with z; omega, fun z => by rw [z]⟩]
    exact this
  · have h : ¬ a = b := fun z => h (decide_eq_true (by rw [z]))
    have := q H3 (e2.trans e3)
    rw [decide_eq_false h, Bool.false_and] at this
    exact this
theorem ok_arealike {f C E : Addr} {fd : FuncData} {k : Nat} (F : Fun K "_are_alike" "_are_alike" sAreAlike f fd) (T : Txt mg) (Y : EyC K E) (C__stands_along : Cal P w K mg base k "_stands_along" ["company", "strip", "names"] (spAlong P w K C)) (M_Eye_alike : MetC P w K mg base k E "alike" ["self", "sign", "one", "other"] (spAlike P w K E)) :
    FnOk P w K mg base CX0 (k + 1) f fd ["company", "eye", "strip", "one", "other"] (spAreAlike P w K C E) := by
  refine F.ok sc__are_alike (fun vs H Q X9 h => ?_) (fun cdv A outer s H vs Q X9 hr h => ?_)
  · obtain ⟨c, d0, e, de, m, n, who, ks, kd, p0, p1, p2, ss, n1, n2, rfl, _⟩ := h
    rfl
  · obtain ⟨c, d0, e, de, m, n, who, ks, kd, p0, p1, p2, ss, n1, n2, rfl, hc, hn, g, he, nde, h0, h1, h2, so, o1, o2, sl, q⟩ := h
    refine ⟨_, (pss_cons (ps_if (pt_not (pt_chain op_eq op_eq (pe_callB call_len (by rfl) T.m_len PySem.boot_len (pa_cons (pv 2) pa_nil)) (pe_callB call_len (by rfl) T.m_len PySem.boot_len (pa_cons (pv 3) pa_nil)) (pe_callB call_len (by rfl) T.m_len PySem.boot_len (pa_cons (pv 4) pa_nil))))
    (pss_one (ps_ret pe_bl)) pss_nil)
    (pss_cons (ps_if (PW.pt (pw_or (pt_cmpR op_isN (pe_callC C__stands_along hr (by rfl) (pa_cons (pv 0) (pa_cons (pv 2) (pa_cons (pv 3) pa_nil)))) pe_non (nomark _)) (pw_or1 (pt_cmpR op_isN (pe_callC C__stands_along hr (by rfl) (pa_cons (pv 0) (pa_cons (pv 2) (pa_cons (pv 4) pa_nil)))) pe_non (nomark _)))))
    (pss_one (ps_ret pe_bl)) pss_nil)
    (pss_one (ps_ret (pe_callB (cr_all rfl) (by rfl) T.m_all (by decide +kernel) (pa_cons (pe_lc (own := [("sign", 5), ("name", 6), ("second", 7)]) (g := (gTup K 3 (gCons (gName 5) (gCons (gName 6) (gCons (gName 7) gNil))))) (by rfl) sc__are_alike.nd (pi_zip3 (by rfl) T.m_zip (pa_cons (pv 2) (pa_cons (pv 3) (pa_cons (pv 4) pa_nil)))) (blkOk_by (own := [("sign", 5), ("name", 6), ("second", 7)]) (N := ["company", "eye", "strip", "one", "other", "sign", "name", "second"]) (sc := defScope sAreAlike) (by decide +kernel)) (fun _ _ _ _ _ => (pg_tup rfl (pgs_cons (pg_name (i := 5) sc__are_alike.nd rfl (.inl rfl)) (pgs_cons (pg_name (i := 6) sc__are_alike.nd rfl (.inl rfl)) (pgs_cons (pg_name (i := 7) sc__are_alike.nd rfl (.inl rfl)) pgs_nil))))) (fun _ _ _ _ _ => pts_nil) (fun _ _ _ _ _ => (pe_methC (pv 1) M_Eye_alike (hr.mono (by omega)) (pa_cons (pv 5) (pa_cons (pv 6) (pa_cons (pv 7) pa_nil)))))) pa_nil)))))), ?_⟩
    obtain ⟨xs0, hd0⟩ := hc.ext
    refine Evl.q_when (b := !(decide (ss.length = n1.length) && decide (n1.length = n2.length))) (et_not (et_test (ev_chainN (row_len (K := K) (ev_var (i := 2) rfl) h0) (row_len (K := K) (ev_var (i := 3) rfl) h1) (row_len (K := K) (ev_var (i := 4) rfl) h2)))) (fun hb H1 e1 => ?_) fun hb H1 e1 => ?_
    · have := q H1 (KD.of e1) (hc.same e1).cap
      have hf : alikeRows m ks ss n1 n2 = false := by
        unfold alikeRows rowOk
        rw [Bool.not_eq_true', Bool.and_eq_false_iff, decide_eq_false_iff_not, decide_eq_false_iff_not] at hb
        by_cases z : ss.length = n1.length
        · rw [decide_eq_false (by omega : ¬ ss.length = n2.length)]
          simp only [Bool.false_and, Bool.and_false]
        · rw [decide_eq_false z]
          rfl
      rw [hf] at this
      exact s_ret (v := .bl false) ev_c fun H2 e2 => by
        have t2 := q H2 (KD.of (e1.trans e2)) (hc.same (e1.trans e2)).cap
        rw [hf] at t2
        exact t2
    · rw [Bool.not_eq_false', Bool.and_eq_true, decide_eq_true_eq, decide_eq_true_eq] at hb
      obtain ⟨l1, l2⟩ := hb
      have l2 : ss.length = n2.length := l1.trans l2
      have hc1 := hc.same e1
      obtain ⟨xs1, hd1⟩ := hc1.ext
      have h01 := h0.same e1
      have h11 := h1.same e1
      have h21 := h2.same e1
      have fin : ∀ H' b, KD d0 H H' → CoAtD P w K C H' c m 20000 d0 → alikeRows m ks ss n1 n2 = b → Q (.bl b) H' := fun H' b kd hc' hb => hb ▸ q H' kd hc'
      have r1 : rowOk m ss n1 = goesM m (beginS m) (ss.zip n1) := by
        unfold rowOk
        rw [decide_eq_true l1, Bool.true_and]
      have r2 : rowOk m ss n2 = goesM m (beginS m) (ss.zip n2) := by
        unfold rowOk
        rw [decide_eq_true l2, Bool.true_and]
      refine ⟨.ref c, rfl, .ref p0, rfl, .ref p1, rfl, c, d0, m, n, kd, p0, p1, ss, n1, rfl, hc1, hn, g, h01, h11, l1, so, o1, sl, fun u H2 k2 hc2 hu => ⟨rfl, _, rfl, ite2 (fun hz => ?_) fun hz => ?_⟩⟩
      · rw [hu, Bool.not_eq_true'] at hz
        refine iteT ?_
        refine s_ret (v := .bl false) ev_c fun H3 e3 => fin H3 false ((KD.of e1).trans (k2.trans (.of e3))) (hc2.same e3) ?_
        unfold alikeRows
        rw [r1, hz]
        rfl
      · have hz : goesM m (beginS m) (ss.zip n1) = true := by
          rw [hu] at hz
          cases hg : goesM m (beginS m) (ss.zip n1) with
          | true => rfl
          | false =>
            rw [hg] at hz
            exact absurd rfl hz
        have k12 : KD d0 H H2 := (KD.of e1).trans k2
        have h02 := h0.ndic hd0 k12
        have h12 := h1.ndic hd0 k12
        have h22 := h2.ndic hd0 k12
        refine ⟨.ref c, rfl, .ref p0, rfl, .ref p2, rfl, c, d0, m, 20000, kd, p0, p2, ss, n2, rfl, hc2, Nat.le_refl _, g, h02, h22, l2, so, o2, sl, fun u3 H3 k3 hc3 hu3 => ⟨rfl, _, rfl, ite2 (fun hy => ?_) fun hy => ?_⟩⟩
        · rw [hu3, Bool.not_eq_true'] at hy
          refine s_ret (v := .bl false) ev_c fun H4 e4 => fin H4 false (k12.trans (k3.trans (.of e4))) (hc3.same e4) ?_
          unfold alikeRows
          rw [r1, hz, r2, hy]
          rfl
        · have hy : goesM m (beginS m) (ss.zip n2) = true := by
            rw [hu3] at hy
            cases hg : goesM m (beginS m) (ss.zip n2) with
            | true => rfl
            | false =>
              rw [hg] at hy
              exact absurd rfl hy
          refine go_next ?_
          try dsimp only
          have k13 : KD d0 H H3 := k12.trans k3
          have h03 := h0.ndic hd0 k13
          have h13 := h1.ndic hd0 k13
          have h23 := h2.ndic hd0 k13
          obtain ⟨dxe, ue, hei⟩ := he.ins
          have he3 : EyeAt P w K E H3 e who ks de := by
            obtain ⟨xs, ed⟩ := he.ext
            refine he.up (fun o ho => k13 _ _ ho fun z => ?_) ((k13 _ _ ed nde).trans ed.symm) (k13.tk hd0)
            rw [z, hd0] at hei
            unfold DicO at hei
            cases hei
          have zl : (ss.zip (n1.zip n2)).length ≤ 1000 := by
            rw [List.length_zip]
            omega
          refine s_ret (v := .bl (alikeRows m ks ss n1 n2)) (ev_is (ev_allD (K := K) (bs := (ss.zip (n1.zip n2)).map fun x => alikeM ks x.1 x.2.1 x.2.2) (EvN.list (by
            rw [List.map_map]
            exact en_map (σ := [some (.ref c), some (.ref e), some (.ref p0), some (.ref p1), some (.ref p2), none, none, none]) (g := gTup K 3 (gCons (gName 5) (gCons (gName 6) (gCons (gName 7) gNil)))) (vs := [5, 6, 7]) (ss.zip (n1.zip n2)) (fun x => .tuple [.str x.1, .str x.2.1, .str x.2.2]) (fun x => PyData.bool (alikeM ks x.1 x.2.1 x.2.2)) (ei_zip3 (K := K) (ev_var (i := 2) rfl) (ev_var (i := 3) rfl) (ev_var (i := 4) rfl) h03 h13 h23 l1.symm l2.symm) (by omega) (fun _ _ => by unfold fz; rfl) fun j x H4 xv hx e4 hdx R kk => tg3 (d1 := .str x.1) (d2 := .str x.2.1) (d3 := .str x.2.2) hdx fun c1 c2 c3 b1 b2 b3 => by
              obtain rfl := dp_str b1
              obtain rfl := dp_str b2
              obtain rfl := dp_str b3
              obtain ⟨dx4, u4, hi4⟩ := (he3.same e4).ins
              exact kk [some (.ref c), some (.ref e), some (.ref p0), some (.ref p1), some (.ref p2), some (.str x.1), some (.str x.2.1), some (.str x.2.2)] rfl (ed_bl (ev_methV (sp := spAlike P w K E) (X := E0) (ev_var (i := 1) rfl) hi4 (eyF_no _ _ nalike.1 nalike.2) (ea_cons (ev_var (i := 5) rfl) (ea_cons (ev_var (i := 6) rfl) (ea_cons (ev_var (i := 7) rfl) ea_nil))) fun H6 x6 Q6 q6 => ⟨e, de, who, ks, x.1, x.2.1, x.2.2, rfl, (he3.same e4).same x6, q6⟩))))) ?_) fun H4 e4 => q H4 (k13.trans (.of e4)) (hc3.same e4)
          refine congrArg V.bl ?_
          unfold alikeRows allEye
          rw [r1, hz, r2, hy, List.all_map]
          rfl
theorem ndiffer32 : ¬ (("differ" : Str) = "_stamped") ∧ ¬ (("differ" : Str) = "_who") := ndiffer
theorem row_get {σ : L2.St} {H : Hp} {ta tb : TE} {p : Addr} {ss : List Str} {i : Int} {z : Str} (ha : Ev ta σ H (.ref p)) (hb : Ev tb σ H (.int i)) (h0 : 0 ≤ i) (hz : ss[i.toNat]? = some z) : (RowAt K H false p ss → Ev (tOp (rIxL K) ta tb) σ H (.str z)) ∧ (RowAt K H true p ss → Ev (tOp (rIxT K) ta tb) σ H (.str z)) :=
  ⟨fun h => ev_op ha hb (rv_ixL (K := K) (xs := ss.map V.str) h (atI_of h0 (by rw [List.getElem?_map, hz]; rfl))), fun h => ev_op ha hb (rv_ixT (K := K) (xs := ss.map V.str) h (atI_of h0 (by rw [List.getElem?_map, hz]; rfl)))⟩
theorem okND32 {CX : CXT} {x qual : Str} {params : Arguments} {body : List Stmt} {scope : Scope} {dvs : List V} {kws : List (Str × V)} {f : Addr} {fd : FuncData} {N ps : List Str} {k : Nat} {sp : Sp} (F : FunD K x qual params body scope dvs kws f fd) (S : FnScope N ps scope) (len : ∀ vs H Q E, sp vs H Q E → vs.length = ps.length)
    (hbody : ∀ (cdv : Value) (A : Around) (outer : List Env) (s : Shared) (H : Hp) (vs : List V) (Q : VK) (E : XK), Room k (A.deeper (envOfC qual scope s.heap.objs.size f cdv)) → sp vs H Q E →
      ∃ t, PSs (cxOf CX P w K mg base N qual scope f cdv A outer s H E) body t ∧ t { nx := fun _ H' => Q .non H', rt := Q } (start N vs) H) : FnOk P w K mg base CX (k + 1) f fd ps sp := F.ok S len hbody
theorem ok_isdoubt {f C E : Addr} {fd : FuncData} {k : Nat} {df : List V} {kdf : List (Str × V)} (F : FunD K "is_doubt" "is_doubt" (defArgs sIsDoubt) (defBody sIsDoubt) (defScope sIsDoubt) df kdf f fd) (T : Txt mg) (Y : EyC K E) (hk : 3 ≤ k) (K_Eye : MakC P w K mg base k "Eye" E ["self", "who", "stamps"] [] (spEye P w K E)) (C__are_alike : Cal P w K mg base (k + 1) "_are_alike" ["company", "eye", "strip", "one", "other"] (spAreAlike P w K C E)) (M_Eye_differ : MetC P w K mg base (k + 1) E "differ" ["self", "one", "other"] (spDiffer P w K E)) :
    FnOk P w K mg base (L2N.CX P w) (k + 2) f fd ["company", "strip", "one", "other", "many", "who", "stamps"] (spDoubt P w K C) := by
  refine okND32 F sc_is_doubt (fun vs H Q X9 h => ?_) (fun cdv A outer s H vs Q X9 hr h => ?_)
  · obtain ⟨c, d0, m, n, who, ks, kd, p0, p1, p2, ss, n1, n2, many, wv, kv, rfl, _⟩ := h
    rfl
  · obtain ⟨c, d0, m, n, who, ks, kd, p0, p1, p2, ss, n1, n2, many, wv, kv, rfl, hc, hn, g, h0, h1, h2, so, o1, o2, sl, hw, hk, hkl, q⟩ := h
    obtain ⟨xs0, hd0⟩ := hc.ext
    have fin : ∀ H' b, KD d0 H H' → CoAtD P w K C H' c m 20000 d0 → doubtM m ks who ss n1 n2 many = b → Q (.bl b) H' := fun H' b kd hc' hb => hb ▸ q H' kd hc'
    have rest : ∀ (kdv : Bool) (tix : TE → TE → TE), kdv = kd → (∀ {σ : L2.St} {H : Hp} {ta tb : TE} {p : Addr} {ss : List Str} {i : Int} {z : Str}, Ev ta σ H (.ref p) → Ev tb σ H (.int i) → 0 ≤ i → ss[i.toNat]? = some z → RowAt K H kd p ss → Ev (tix ta tb) σ H (.str z)) →
        tSeq (tIfS (tNot (tTest (tChain (rI0 fun i j => .bl (decide (i ≤ j))) (rI0 fun i j => .bl (decide (i < j))) (tC (.int 0)) (tVar 4) (tCB (rLenV K) (tCons (tVar 1) tNil))))) (tRet (tC (.bl false))) tNext)
          (tSeq (tAsg (tMake E (spEye P w K E) [] E0 (tCons (tVar 5) (tCons (tVar 6) tNil))) (gName 7))
          (tSeq (tAsg (tOp (rI0 fun i j => .int (i - j)) (tOp (rI0 fun i j => .int (i - j)) (tCB (rLenV K) (tCons (tVar 1) tNil)) (tC (.int 1))) (tVar 4)) (gName 8))
          (tRet (tAndV (tCall (spAreAlike P w K C E) [] E0 (tCons (tVar 0) (tCons (tVar 7) (tCons (tVar 1) (tCons (tVar 2) (tCons (tVar 3) tNil)))))) (tMeth E "differ" (spDiffer P w K E) [] E0 (tVar 7) (tCons (tix (tVar 2) (tVar 8)) (tCons (tix (tVar 3) (tVar 8)) tNil))))))) { nx := fun _ H' => Q .non H', rt := Q } (start ["company", "strip", "one", "other", "many", "who", "stamps", "eye", "at"] [.ref c, .ref p0, .ref p1, .ref p2, .int many, wv, kv]) H := by
      intro kdv tix hkd get
      refine Evl.q_when (b := !(decide ((0 : Int) ≤ many) && decide (many < (ss.length : Int)))) (et_not (et_test (ev_chainI (f := fun i j => decide (i ≤ j)) (g := fun i j => decide (i < j)) ev_c (ev_var (i := 4) rfl) (row_len (K := K) (ev_var (i := 1) rfl) h0)))) (fun hb H1 e1 => ?_) fun hb H1 e1 => ?_
      · refine s_ret (v := .bl false) ev_c fun H2 e2 => fin H2 false (KD.of (e1.trans e2)) (hc.same (e1.trans e2)).cap ?_
        unfold doubtM
        rw [Bool.not_eq_true'] at hb
        rw [hb]
        simp only [Bool.false_and]
      · rw [Bool.not_eq_false', Bool.and_eq_true, decide_eq_true_eq, decide_eq_true_eq] at hb
        obtain ⟨m0, m1⟩ := hb
        have hc1 := hc.same e1
        refine q_asgE (mk_eye32 (P := P) (w := w) (K := K) (who := who) (ks := ks) (ed_var (i := 5) rfl (dp_same e1 hw)) (ev_var (i := 6) rfl) (hk.imp (dp_same e1) (dp_same e1)) hkl fun e de H2 ne nde e2 he => g_go ?_)
        try dsimp only
        have e12 := e1.trans e2
        have hc2 := hc.same e12
        have nde0 : de ≠ d0 := fun z => by
          rw [z, e1 _ _ hd0] at nde
          cases nde
        refine q_asgE ((ev_op (ev_op (row_len (K := K) (ev_var (i := 1) rfl) (h0.same e12)) ev_c rv_I0) (ev_var (i := 4) rfl) rv_I0) H2 (.refl _) _ fun H3 e3 => g_go ?_)
        try dsimp only
        have e13 := e12.trans e3
        have hc3 := hc.same e13
        have hat : (((ss.length : Int) - 1 - many).toNat) < ss.length := by omega
        refine ⟨.ref c, rfl, .ref e, rfl, .ref p0, rfl, .ref p1, rfl, .ref p2, rfl, c, d0, e, de, m, n, who, ks, kd, p0, p1, p2, ss, n1, n2, rfl, hc3, hn, g, he.same e3, nde0, h0.same e13, h1.same e13, h2.same e13, so, o1, o2, sl, fun H4 k4 hc4 => ⟨_, rfl, ite2 (fun hz => ?_) fun hz => ?_⟩⟩
        · have hz := hz
          have k04 : KD d0 H H4 := (KD.of e13).trans k4
          have hl : ss.length = n1.length ∧ ss.length = n2.length := by
            unfold alikeRows rowOk at hz
            rw [Bool.and_eq_true, Bool.and_eq_true, Bool.and_eq_true, Bool.and_eq_true, decide_eq_true_eq, decide_eq_true_eq] at hz
            exact ⟨hz.1.1.1, hz.1.2.1⟩
          have gt : ∀ {l : List Str} {i : Nat}, l.length = ss.length → i < ss.length → l[i]? = some (l.getD i ⟨#[]⟩) := fun {l i} hl hi => by
            rw [List.getD_eq_getElem?_getD, List.getElem?_eq_getElem (by omega)]
            rfl
          obtain ⟨xs3, hd3⟩ := hc3.ext
          have he3 := he.same e3
          obtain ⟨dxe, ue, hei⟩ := he3.ins
          have he4 : EyeAt P w K E H4 e who ks de := by
            obtain ⟨xs, ed⟩ := he3.ext
            refine he3.up (fun o ho => k4 _ _ ho fun z => ?_) ((k4 _ _ ed nde0).trans ed.symm) (k4.tk hd3)
            rw [z, hd3] at hei
            unfold DicO at hei
            cases hei
          obtain ⟨dx4, u4, hi4⟩ := he4.ins
          refine (ev_methV (sp := spDiffer P w K E) (X := E0) (C := E) (m := "differ") (ev_var (i := 7) rfl) hi4 (eyF_no _ _ ndiffer.1 ndiffer.2) (ea_cons (get (ss := n1) (z := n1.getD ((ss.length : Int) - 1 - many).toNat ⟨#[]⟩) (ev_var (i := 2) rfl) (ev_var (i := 8) rfl) (by omega) (gt hl.1.symm hat) (h1.ndic hd0 k04)) (ea_cons (get (ss := n2) (z := n2.getD ((ss.length : Int) - 1 - many).toNat ⟨#[]⟩) (ev_var (i := 3) rfl) (ev_var (i := 8) rfl) (by omega) (gt hl.2.symm hat) (h2.ndic hd0 k04)) ea_nil)) fun H6 x6 Q6 q6 => ⟨e, de, who, ks, _, _, rfl, he4.same x6, q6⟩) H4 (.refl _) _ fun H5 e5 => fin H5 _ (k04.trans (.of e5)) (hc4.same e5) ?_
          unfold doubtM
          unfold alikeRows at hz
          rw [decide_eq_true m0, decide_eq_true m1]
          simp only [Bool.true_and]
          rw [hz, Bool.true_and]
        · have hz : alikeRows m ks ss n1 n2 = false := by
            cases hg : alikeRows m ks ss n1 n2 with
            | false => rfl
            | true => exact absurd hg hz
          refine fin H4 _ ((KD.of e13).trans k4) hc4 ?_
          unfold doubtM
          unfold alikeRows at hz
          rw [decide_eq_true m0, decide_eq_true m1]
          simp only [Bool.true_and]
          rw [hz, Bool.false_and]
    cases kd
    · refine ⟨_, (pss_cons (ps_if (pt_not (pt_chain op_le op_lt pe_int (pv 4) (pe_callB call_len (by rfl) T.m_len PySem.boot_len (pa_cons (pv 1) pa_nil))))
    (pss_one (ps_ret pe_bl)) pss_nil)
    (pss_cons (ps_set (i := 7) sc_is_doubt.nd rfl (.inl rfl) (pe_makeC K_Eye hr (by rfl) (pa_cons (pv 5) (pa_cons (pv 6) pa_nil))))
    (pss_cons (ps_set (i := 8) sc_is_doubt.nd rfl (.inl rfl) (pe_op op_sub (pe_op op_sub (pe_callB call_len (by rfl) T.m_len PySem.boot_len (pa_cons (pv 1) pa_nil)) pe_int) (pv 4)))
    (pss_one (ps_ret (pe_and (pe_callC C__are_alike hr (by rfl) (pa_cons (pv 0) (pa_cons (pv 7) (pa_cons (pv 1) (pa_cons (pv 2) (pa_cons (pv 3) pa_nil)))))) (pe_one (pe_methC (pv 7) M_Eye_differ (hr.mono (by omega)) (pa_cons (pe_ix ix_list (pv 2) (pv 8) (fun _ _ => rfl)) (pa_cons (pe_ix ix_list (pv 3) (pv 8) (fun _ _ => rfl)) pa_nil)))))))))), ?_⟩
      exact rest false (fun a b => tOp (rIxL K) a b) rfl fun ha hb h0 hz h => (row_get ha hb h0 hz).1 h
    · refine ⟨_, (pss_cons (ps_if (pt_not (pt_chain op_le op_lt pe_int (pv 4) (pe_callB call_len (by rfl) T.m_len PySem.boot_len (pa_cons (pv 1) pa_nil))))
    (pss_one (ps_ret pe_bl)) pss_nil)
    (pss_cons (ps_set (i := 7) sc_is_doubt.nd rfl (.inl rfl) (pe_makeC K_Eye hr (by rfl) (pa_cons (pv 5) (pa_cons (pv 6) pa_nil))))
    (pss_cons (ps_set (i := 8) sc_is_doubt.nd rfl (.inl rfl) (pe_op op_sub (pe_op op_sub (pe_callB call_len (by rfl) T.m_len PySem.boot_len (pa_cons (pv 1) pa_nil)) pe_int) (pv 4)))
    (pss_one (ps_ret (pe_and (pe_callC C__are_alike hr (by rfl) (pa_cons (pv 0) (pa_cons (pv 7) (pa_cons (pv 1) (pa_cons (pv 2) (pa_cons (pv 3) pa_nil)))))) (pe_one (pe_methC (pv 7) M_Eye_differ (hr.mono (by omega)) (pa_cons (pe_ix ix_tup (pv 2) (pv 8) (fun _ _ => rfl)) (pa_cons (pe_ix ix_tup (pv 3) (pv 8) (fun _ _ => rfl)) pa_nil)))))))))), ?_⟩
      exact rest true (fun a b => tOp (rIxT K) a b) rfl fun ha hb h0 hz h => (row_get ha hb h0 hz).2 h
end
end Ink
namespace Ink
open PySem PySem.Spec PyProof.Rows L2 Evl
def spLaw (K : PySem.W.Frag) : Sp := fun vs H Q _ => ∃ (c : Addr) (ns : List Int), vs = [.ref c] ∧ SqL K H c (ns.map V.int) ∧ ns.length ≤ 63 ∧ ∀ H', Q (.bl true) H'
theorem strs_self32 : ∀ zs : List Str, PyData.eqvAll (zs.map PyData.str) (zs.map PyData.str) = true
  | [] => by simp only [List.map_nil, PyData.eqvAll]
  | z :: zs => by simp [List.map_cons, PyData.eqvAll, PyData.eqv, strs_self32 zs]
theorem strs_lay32 {zs : List Str} (h : strsOk zs) : PyData.canLayAll0 (zs.map PyData.str) = true := lay_map fun z hz => by
  simp only [PyData.canLay0]
  exact h z hz
theorem strs_dep32 (zs : List Str) : PyData.depthAll (zs.map PyData.str) ≤ 1 := depth_map (f := PyData.str) (n := 1) (l := zs) fun z _ => by simp only [PyData.depth]; omega
structure At32 (K : PySem.W.Frag) (a l p kp : Addr) (m : List Wr) (ks : List Knd) (wv : V) (who : Option Str) (p0 p1 p2 : Addr) (ss n1 n2 : List Str) (H : Hp) : Prop where
  bag : BagAt H a l
  ma : MAt K H a p m
  kv : ∃ uk, H kp = some (.lst uk) ∧ DpAll K H uk (ks.map dKd)
  kpa : kp ≠ a
  wd : Dp K H wv (dWho who)
  h0 : LsAt H p0 ss
  h1 : LsAt H p1 n1
  h2 : LsAt H p2 n2
  a0 : p0 ≠ a
  a1 : p1 ≠ a
  a2 : p2 ≠ a
  o0 : strsOk ss
  o1 : strsOk n1
  o2 : strsOk n2
  len : ss.length ≤ 8
section
variable {P : Program} {w : World} {K : PySem.W.Frag} {mg : Str → Option Value} {base : Heap} {a l p kp p0 p1 p2 : Addr} {m : List Wr} {ks : List Knd} {wv : V} {who : Option Str} {ss n1 n2 : List Str} {H H' : Hp}
theorem At32.same (A : At32 K a l p kp m ks wv who p0 p1 p2 ss n1 n2 H) (e : Ex H H') : At32 K a l p kp m ks wv who p0 p1 p2 ss n1 n2 H' := by
  obtain ⟨uk, g1, g2⟩ := A.kv
  exact ⟨A.bag.same e, A.ma.same e, ⟨uk, e _ _ g1, dps_same e g2⟩, A.kpa, dp_same e A.wd, e _ _ A.h0, e _ _ A.h1, e _ _ A.h2, A.a0, A.a1, A.a2, A.o0, A.o1, A.o2, A.len⟩
theorem At32.keep (A : At32 K a l p kp m ks wv who p0 p1 p2 ss n1 n2 H) (b : BagAt H' a l) (k : Keep a H H') : At32 K a l p kp m ks wv who p0 p1 p2 ss n1 n2 H' := by
  obtain ⟨uk, g1, g2⟩ := A.kv
  exact ⟨b, A.ma.keep A.bag k, ⟨uk, k _ _ A.kpa g1, dps_keep A.bag k (fz_map fun x _ => fz_dKd x) g2⟩, A.kpa, dp_keep A.bag k (fz_dWho who) A.wd, k _ _ A.a0 A.h0, k _ _ A.a1 A.h1, k _ _ A.a2 A.h2, A.a0, A.a1, A.a2, A.o0, A.o1, A.o2, A.len⟩
theorem At32.dk (A : At32 K a l p kp m ks wv who p0 p1 p2 ss n1 n2 H) : Dp K H (.ref kp) (.list (ks.map dKd)) := by
  obtain ⟨uk, g1, g2⟩ := A.kv
  exact .lst (.of g1) g2
theorem lst_ndic {xs : DX} {d0 q : Addr} {vs : List V} (hd : H d0 = some (DicO P w d0 xs)) (k : KD d0 H H') (h : H q = some (.lst vs)) : H' q = some (.lst vs) := k _ _ h fun z => by
  rw [z, hd] at h
  exact dicO_ne.1 _ (Option.some.inj h)
theorem At32.kd {xs : DX} {d0 : Addr} (A : At32 K a l p kp m ks wv who p0 p1 p2 ss n1 n2 H) (hd : H d0 = some (DicO P w d0 xs)) (k : KD d0 H H') : At32 K a l p kp m ks wv who p0 p1 p2 ss n1 n2 H' := by
  obtain ⟨uk, g1, g2⟩ := A.kv
  obtain ⟨vs, m1, m2, m3⟩ := A.ma
  have t : TupK K H H' := k.tk hd
  exact ⟨bag_kd hd k A.bag, ⟨vs, lst_ndic hd k m1, dps_tk t (fz_dWs m) m2, m3⟩, ⟨uk, lst_ndic hd k g1, dps_tk t (fz_map fun x _ => fz_dKd x) g2⟩, A.kpa, dp_tk t (fz_dWho who) A.wd, lst_ndic hd k A.h0, lst_ndic hd k A.h1, lst_ndic hd k A.h2, A.a0, A.a1, A.a2, A.o0, A.o1, A.o2, A.len⟩
theorem q_of_ints {te ta : TE} {σ : L2.St} {Q : VK} {E : XK} {ns : List Int} (ha : Ev ta σ H (.ref a)) (h : EvN K te σ H (ns.map PyData.int)) (hB : BagAt H a l) (h0 : 0 < ns.length) (h1 : ns.length ≤ 1000) (q : ∀ n H', n ∈ ns → BagAt H' a l → Keep a H H' → Q (.int n) H') : tCall (spOf K) [] E (tCons ta (tCons te tNil)) σ H Q :=
  ha H (.refl H) _ fun H1 e1 => h H1 e1 _ fun cp vs H2 np e2 hcp hvs => by
    have e12 := e1.trans e2
    rw [dps_int hvs] at hcp
    refine ⟨a, l, .ref cp, ns.map V.int, rfl, hB.same e12, .inl ⟨cp, rfl, ((hB.same e1).ne np).1.symm, .inl (.of hcp)⟩, by rw [List.length_map]; exact h0, by rw [List.length_map]; exact h1, fun v H3 hv hB3 k3 => ?_⟩
    obtain ⟨n, hn, rfl⟩ := List.mem_map.mp hv
    exact q n H3 hn hB3 ((Keep.of_same e12).trans k3)
theorem ev_like32 {σ : L2.St} {ta tb : TE} {d : PyData} (ha : EvD K ta σ H d) (hb : EvD K tb σ H d) (ok : okD 5 d) : Ev (tCall (spLike K 5) [] E0 (tCons ta (tCons tb tNil))) σ H (.bl true) := fun H1 e Q q =>
  ha H1 e _ fun v H2 e2 hv => hb H2 (e.trans e2) _ fun u H3 e3 hu => ⟨v, u, rfl, lk_dp 5 d v u ok (dp_same e3 hv) hu, fun H4 s4 => q H4 ((e2.trans e3).trans s4)⟩
theorem asg_cat3 {t1 t2 t3 : TE} {i : Nat} {D : Ends} {σ : L2.St} (h : t1 σ H fun x H1 => t2 σ H1 fun y H2 => rCat x y H2 fun z H3 => t3 σ H3 fun u H4 => rCat z u H4 fun v H5 => D.nx (σ.set i (some v)) H5) : tAsg (tOp rCat (tOp rCat t1 t2) t3) (gName i) D σ H := h
theorem ok_take {zs : List Str} (h : strsOk zs) (k : Nat) : strsOk (zs.take k) := fun z hz => h z (List.mem_of_mem_take hz)
theorem ok_drop {zs : List Str} (h : strsOk zs) (k : Nat) : strsOk (zs.drop k) := fun z hz => h z (List.mem_of_mem_drop hz)
theorem ok_app {xs ys : List Str} (h : strsOk xs) (h2 : strsOk ys) : strsOk (xs ++ ys) := fun z hz => by
  rcases List.mem_append.mp hz with hz | hz
  · exact h z hz
  · exact h2 z hz
end
section
variable {P : Program} {w : World} {K : PySem.W.Frag} {mg : Str → Option Value} {base : Heap}
theorem ok_law32 {f C : Addr} {fd : FuncData} {k : Nat} (F : Fun K "law" "law" sLaw f fd) (T : Txt mg)
    (K_Company : MakC P w K mg base k "Company" C ["self", "writers"] [] (spInitD P w K C .list))
    (C__law_bag : Cal P w K mg base (k + 1) "_law_bag" ["_law_script"] (spBag K)) (C__law_pull : Cal P w K mg base (k + 1) "_law_pull" ["_law_bag_here", "_law_many"] spPull) (C__law_of : Cal P w K mg base (k + 1) "_law_of" ["_law_bag_here", "_law_things"] (spOf K)) (C__law_signs : Cal P w K mg base (k + 1) "_law_signs" ["_law_bag_here", "_law_limit"] spSigns)
    (C__law_delayed : Cal P w K mg base (k + 1) "_law_delayed" ["_law_bag_here", "_law_letters_here", "_law_limit"] (spMade K)) (C__law_kinds : Cal P w K mg base (k + 1) "_law_kinds" ["_law_bag_here", "_law_m", "_law_letters_here"] (spKinds K)) (C__law_twin_rows : Cal P w K mg base (k + 1) "_law_twin_rows" ["_law_bag_here", "_law_m", "_law_limit"] (spTwinRows K))
    (C__law_doubt_ok : Cal P w K mg base (k + 1) "_law_doubt_ok" ["_law_m", "_law_strip", "_law_one", "_law_other", "_law_many", "_law_own", "_law_marked"] (spDoubtOk K))
    (C_is_doubt_K : CalK P w K mg base (k + 1) "is_doubt" ["company", "strip", "one", "other", "many", "who", "stamps"] 5 ["who", "stamps"] (fun vs zs => vs ++ zs) (spDoubt P w K C)) (C_is_doubt_R : CalK P w K mg base (k + 1) "is_doubt" ["company", "strip", "one", "other", "many", "who", "stamps"] 5 ["stamps", "who"] (fun vs zs => vs ++ zs.reverse) (spDoubt P w K C))
    (C__law_like : Cal P w K mg base (k + 1) "_law_like" ["_law_found", "_law_due"] (spLike K 5)) :
    FnOk P w K mg base CX0 (k + 2) f fd ["_law_script"] (spLaw K) := by
  refine F.ok sc_law (fun vs H Q E h => ?_) (fun cdv A outer s H vs Q E hr h => ?_)
  · obtain ⟨c, ns, rfl, _⟩ := h
    rfl
  · obtain ⟨c, ns, rfl, hS, hlen, q⟩ := h
    refine ⟨_, (pss_cons (ps_set (i := 1) sc_law.nd rfl (.inl rfl) (pe_callC C__law_bag hr (by rfl) (pa_cons (pv 0) pa_nil)))
    (pss_cons (ps_for PassesOwn.never rfl (pi_range1 (by rfl) T.m_range (pa_cons pe_int pa_nil)) (pg_name (i := 2) sc_law.nd rfl (.inl rfl))
    (pss_cons (ps_set (i := 3) sc_law.nd rfl (.inl rfl) (pe_callC C__law_signs hr (by rfl) (pa_cons (pv 1) (pa_cons pe_int pa_nil))))
    (pss_cons (ps_set (i := 4) sc_law.nd rfl (.inl rfl) (pe_callC C__law_delayed hr (by rfl) (pa_cons (pv 1) (pa_cons (pv 3) (pa_cons pe_int pa_nil)))))
    (pss_cons (ps_par (i := 5) (j := 6) (by rfl) sc_law.nd rfl rfl (by decide) rfl rfl (pa_cons (pe_callC C__law_kinds hr (by rfl) (pa_cons (pv 1) (pa_cons (pv 4) (pa_cons (pv 3) pa_nil)))) (pa_cons (pe_callC C__law_of hr (by rfl) (pa_cons (pv 1) (pa_cons (pe_lst (pa_cons pe_non (pa_cons pe_non (pa_cons (pe_ix ix_tup (pe_ix ix_list (pv 4) pe_int (fun _ _ => rfl)) pe_int (fun _ _ => rfl)) (pa_cons pe_str pa_nil))))) pa_nil))) pa_nil)) (by rfl))
    (pss_cons (ps_asg (pe_callC C__law_twin_rows hr (by rfl) (pa_cons (pv 1) (pa_cons (pv 4) (pa_cons pe_int pa_nil)))) (pg_tup rfl (pgs_cons (pg_name (i := 7) sc_law.nd rfl (.inr rfl)) (pgs_cons (pg_name (i := 8) sc_law.nd rfl (.inr rfl)) (pgs_cons (pg_name (i := 9) sc_law.nd rfl (.inr rfl)) pgs_nil)))))
    (pss_cons (ps_setLc (i := 10) (own := [("_law_at", 13)]) (g := (gName 13)) (by rfl) sc_law.nd rfl rfl (sw_true rfl rfl rfl (by decide +kernel)) (pi_range1 (by rfl) T.m_range (pa_cons (pe_callB call_len (by rfl) T.m_len PySem.boot_len (pa_cons (pv 7) pa_nil)) pa_nil)) (blkOk_by (own := [("_law_at", 13)]) (N := ["_law_script", "_law_bag_here", "_law_turn", "_law_letters_here", "_law_m", "_law_kinds_here", "_law_own", "_law_strip", "_law_one", "_law_other", "_law_apart", "_law_many", "_law_pick", "_law_at", "_law_due", "_law_company_here", "_law_handed", "_law_found", "_law_writer_here"]) (sc := defScope sLaw) (by decide +kernel)) (fun _ _ _ _ _ => (pg_name (i := 13) sc_law.nd rfl (Or.inl rfl))) (fun _ _ _ _ _ => pts_one (pt_cmpR op_ne (pe_ix (show IxR _ (rIxL K) from ix_list) (pv 8) (pv 13) (fun _ _ => rfl)) (pe_ix (show IxR _ (rIxL K) from ix_list) (pv 9) (pv 13) (fun _ _ => rfl)) (nomark _))) (fun _ _ _ _ _ => (pe_op op_sub (pe_op op_sub (pe_callB (show CallR _ _ (rLenV K) from call_len) (by rfl) T.m_len PySem.boot_len (pa_cons (pv 7) pa_nil)) pe_int) (pv 13))))
    (pss_cons (ps_set (i := 11) sc_law.nd rfl (.inl rfl) (pe_op op_add (pe_callC C__law_of hr (by rfl) (pa_cons (pv 1) (pa_cons (pe_op op_cat (pv 10) (pe_lst (pa_cons pe_int (pa_cons pe_int pa_nil)))) pa_nil))) (pe_callC C__law_of hr (by rfl) (pa_cons (pv 1) (pa_cons (pe_lst (pa_cons pe_int (pa_cons pe_int (pa_cons pe_int (pa_cons pe_int (pa_cons (pe_un un_neg pe_int) pa_nil)))))) pa_nil)))))
    (pss_cons (ps_par (i := 12) (j := 13) (by rfl) sc_law.nd rfl rfl (by decide) rfl rfl (pa_cons (pe_callC C__law_pull hr (by rfl) (pa_cons (pv 1) (pa_cons pe_int pa_nil))) (pa_cons (pe_callC C__law_pull hr (by rfl) (pa_cons (pv 1) (pa_cons (pe_op op_add (pe_callB call_len (by rfl) T.m_len PySem.boot_len (pa_cons (pv 7) pa_nil)) pe_int) pa_nil))) pa_nil)) (by rfl))
    (Evl.pss_cut (ps_if (pt_cmpR op_eq (pv 12) pe_int (nomark _))
    (pss_one (ps_set (i := 9) sc_law.nd rfl (.inr rfl) (pe_op op_cat (pe_slice sl_list (pv 9) po_none (po_some (pv 13))) (pe_slice sl_list (pv 9) (po_some (pe_op op_add (pv 13) pe_int)) po_none)))) pss_nil)
    (Evl.pss_cut (ps_if (pt_cmpR op_eq (pv 12) pe_int (nomark _))
    (pss_one (ps_set (i := 8) sc_law.nd rfl (.inr rfl) (pe_op op_cat (pe_op op_cat (pe_slice sl_list (pv 8) po_none (po_some (pv 13))) (pe_lst (pa_cons (pe_callC C__law_of hr (by rfl) (pa_cons (pv 1) (pa_cons (pe_lc (own := [("_law_writer_here", 18)]) (g := (gName 18)) (by rfl) sc_law.nd (pi_list (pv 4)) (blkOk_by (own := [("_law_writer_here", 18)]) (N := ["_law_script", "_law_bag_here", "_law_turn", "_law_letters_here", "_law_m", "_law_kinds_here", "_law_own", "_law_strip", "_law_one", "_law_other", "_law_apart", "_law_many", "_law_pick", "_law_at", "_law_due", "_law_company_here", "_law_handed", "_law_found", "_law_writer_here"]) (sc := defScope sLaw) (by decide +kernel)) (fun _ _ _ _ _ => (pg_name (i := 18) sc_law.nd rfl (Or.inl rfl))) (fun _ _ _ _ _ => pts_nil) (fun _ _ _ _ _ => (pe_ix (show IxR _ (rIxT K) from ix_tup) (pv 18) pe_int (fun _ _ => rfl)))) pa_nil))) pa_nil))) (pe_slice sl_list (pv 8) (po_some (pe_op op_add (pv 13) pe_int)) po_none)))) pss_nil)
    (pss_cons (ps_set (i := 14) sc_law.nd rfl (.inl rfl) (pe_callC C__law_doubt_ok hr (by rfl) (pa_cons (pv 4) (pa_cons (pv 7) (pa_cons (pv 8) (pa_cons (pv 9) (pa_cons (pv 11) (pa_cons (pv 6) (pa_cons (pv 5) pa_nil)))))))))
    (pss_cons (ps_par (i := 15) (j := 16) (by rfl) sc_law.nd rfl rfl (by decide) rfl rfl (pa_cons (pe_makeC K_Company hr (by rfl) (pa_cons (pv 4) pa_nil)) (pa_cons (pe_lst (pa_cons (pe_callTy call_list_of (by rfl) T.m_list (by decide +kernel) (pa_cons (pv 7) pa_nil)) (pa_cons (pe_callTy call_list_of (by rfl) T.m_list (by decide +kernel) (pa_cons (pv 8) pa_nil)) (pa_cons (pe_callTy call_list_of (by rfl) T.m_list (by decide +kernel) (pa_cons (pv 9) pa_nil)) pa_nil)))) pa_nil)) (by rfl))
    (pss_cons (ps_set (i := 17) sc_law.nd rfl (.inl rfl) (pe_lst (pa_cons (pe_callKN C_is_doubt_K hr passN0 (by rfl) (pa_cons (pv 15) (pa_cons (pe_ix ix_list (pv 16) pe_int (fun _ _ => rfl)) (pa_cons (pe_ix ix_list (pv 16) pe_int (fun _ _ => rfl)) (pa_cons (pe_ix ix_list (pv 16) pe_int (fun _ _ => rfl)) (pa_cons (pv 11) pa_nil))))) (pk_cons (pv 6) (pk_cons (pv 5) pk_nil))) pa_nil)))
    (pss_cons (ps_expr (pe_bm PySem.F.plainAttrs_list PySem.F.slot_list_append PySem.F.type_list_append mt_append (pv 17) (pa_cons (pe_callKN C_is_doubt_R hr passN0 (by rfl) (pa_cons (pv 15) (pa_cons (pe_callTy call_tuple_of (by rfl) T.m_tuple (by decide +kernel) (pa_cons (pv 7) pa_nil)) (pa_cons (pe_callTy call_tuple_of (by rfl) T.m_tuple (by decide +kernel) (pa_cons (pv 8) pa_nil)) (pa_cons (pe_callTy call_tuple_of (by rfl) T.m_tuple (by decide +kernel) (pa_cons (pv 9) pa_nil)) (pa_cons (pv 11) pa_nil))))) (pk_cons (pe_callTy call_tuple_of (by rfl) T.m_tuple (by decide +kernel) (pa_cons (pv 5) pa_nil)) (pk_cons (pv 6) pk_nil))) pa_nil)))
    (pss_one (ps_if (PW.pt (pw_or (pt_not (pt_val (pe_callC C__law_like hr (by rfl) (pa_cons (pv 17) (pa_cons (pe_lst (pa_cons (pv 14) (pa_cons (pv 14) pa_nil))) pa_nil))))) (pw_or1 (pt_cmpR (show OpR _ _ (rNeD K) from op_neD hr.units) (pv 16) (pe_lst (pa_cons (pv 7) (pa_cons (pv 8) (pa_cons (pv 9) pa_nil)))) (nomark _)))))
    (pss_one (ps_ret pe_bl)) pss_nil))))))))))))))))
    (pss_one (ps_ret pe_bl)))), ?_⟩
    refine ⟨.ref c, rfl, c, ns, rfl, hS, hlen, fun a l H1 na hB1 s1 => ?_⟩
    refine ⟨4, rfl, by decide, by decide, for_it walk_range0 (fun i σ' H' => (∃ y2 y3 y4 y5 y6 y7 y8 y9 y10 y11 y12 y13 y14 y15 y16 y17 y18, σ' = [some (.ref c), some (.ref a), y2, y3, y4, y5, y6, y7, y8, y9, y10, y11, y12, y13, y14, y15, y16, y17, y18]) ∧ BagAt H' a l) ⟨⟨none, none, none, none, none, none, none, none, none, none, none, none, none, none, none, none, none, rfl⟩, hB1⟩ (fun _ _ _ _ _ => True.intro) (fun i y σ' Ha Hb hi hP hy => ?_) (fun σ' H' hP => q H')⟩
    obtain ⟨⟨y2, y3, y4, y5, y6, y7, y8, y9, y10, y11, y12, y13, y14, y15, y16, y17, y18, rfl⟩, hB2⟩ := hP
    obtain ⟨rfl, rfl⟩ := hy
    -- the signs and the company
    refine ⟨.ref a, rfl, a, l, 2, rfl, hB2, by decide, by decide, fun sp cs H3 nsp hc1 hc2 hcs hrise hsp hB3 k3 => ?_⟩
    have spa : sp ≠ a := fun z => by
      obtain ⟨_, _, _, _, e, _⟩ := hB2
      rw [z, e] at nsp
      cases nsp
    refine ⟨.ref a, rfl, .ref sp, rfl, a, l, sp, cs, 30, rfl, hB3, ⟨hsp, hc1, by omega, hcs⟩, spa, hrise, by decide, fun p m H4 np g hm1 hM4 hB4 k4 => ?_⟩
    have l3 := g.len
    -- the kinds
    refine ⟨.ref a, rfl, .ref p, rfl, .ref sp, rfl, a, l, p, sp, m, cs, rfl, hB4, hM4, g, k4 _ _ spa hsp, spa, hcs, by omega, fun kp uk ks H5 nkp hkp huk gks lks hB5 k5 => ?_⟩
    have hM5 := hM4.keep hB4 k5
    have kpa : kp ≠ a := (hB4.ne nkp).1.symm
    obtain ⟨w0, hw0⟩ : ∃ w0, m[0]? = some w0 := ⟨m[0]'(by omega), List.getElem?_eq_getElem _⟩
    have gw0 := g.wr w0 (List.mem_of_getElem? hw0)
    refine ⟨.ref a, rfl, ?_⟩
    refine (ev_str (ed_ixT (K := K) (ds := [.str w0.1, .tuple (w0.2.1.map dA), .int w0.2.2.1, .int w0.2.2.2]) (d := .str w0.1) (ed_ixL (ds := m.map dW) (ed_var (i := 4) rfl hM5.dp) ev_c (by decide) (by show (m.map dW)[0]? = _; rw [List.getElem?_map, hw0]; rfl)) ev_c (by decide) rfl)) H5 (.refl _) _ fun H6 e6 => ?_
    refine ⟨by show 4 ≤ sizeLine; decide, fun lp nlp => ?_⟩
    have e7 := Ex.new (o := .lst [V.non, .non, .str w0.1, .str "nobody"]) nlp
    have hB7 := (hB5.same e6).same e7
    refine ⟨a, l, _, _, rfl, hB7, .inl ⟨lp, rfl, ((hB5.same e6).ne nlp).1.symm, .inl (.of upd_same)⟩, by show 0 < 4; decide, by show 4 ≤ 1000; decide, fun wv H8 hwv hB8 k8 => ?_⟩
    have e57 := e6.trans e7
    have k58 : Keep a H5 H8 := (Keep.of_same e57).trans k8
    obtain ⟨who, hwd⟩ : ∃ who, Dp K H8 wv (dWho who) := by
      simp only [List.mem_cons, List.not_mem_nil, or_false] at hwv
      rcases hwv with rfl | rfl | rfl | rfl
      · exact ⟨none, .non⟩
      · exact ⟨none, .non⟩
      · exact ⟨some _, .str _⟩
      · exact ⟨some _, .str _⟩
    refine ⟨_, _, rfl, ?_⟩
    try dsimp only
    have hM8 := hM5.keep hB5 k58
    have hkp8 := k58 _ _ kpa hkp
    have huk8 := dps_keep hB5 k58 (fz_map fun x _ => fz_dKd x) huk
    clear e57 e7 hB7 nlp e6 hwv k8
    -- two rows
    refine ⟨.ref a, rfl, .ref p, rfl, a, l, p, m, 8, rfl, hB8, hM8, g, by decide, by decide, fun T9 p0 p1 p2 ss n1 n2 H9 hT9 np0 np1 np2 _ _ _ s0 s1 s2 t1 t2 tl o0 o1 o2 hB9 k9 => ?_⟩
    refine ⟨T9, _, rfl, .of hT9, rfl, _, _, rfl, _, _, rfl, _, _, rfl, rfl, ?_⟩
    try dsimp only
    have A9 : At32 K a l p kp m ks wv who p0 p1 p2 ss n1 n2 H9 := ⟨hB9, hM8.keep hB8 k9, ⟨uk, k9 _ _ kpa hkp8, dps_keep hB8 k9 (fz_map fun x _ => fz_dKd x) huk8⟩, kpa, dp_keep hB8 k9 (fz_dWho who) hwd, s0, s1, s2, (hB8.ne np0).1.symm, (hB8.ne np1).1.symm, (hB8.ne np2).1.symm, o0, o1, o2, by omega⟩
    clear k9 hB9 s0 s1 s2 hT9 np0 np1 np2 hM8 hkp8 huk8 hwd hB8 k58 hB5 hkp huk hM5 k5 hM4 hB4 k4 hB3 k3 hsp hB2 nkp np nsp
    have gt : ∀ {l : List Str} {i : Nat}, l.length = ss.length → i < ss.length → l[i]? = some (l.getD i ⟨#[]⟩) := fun {l i} hl hi => by
      rw [List.getD_eq_getElem?_getD, List.getElem?_eq_getElem (by omega)]
      rfl
    -- where they differ
    have l8 := A9.len
    refine sd_asgN (K := K) (ds := ((List.range ss.length).filter fun i => !decide (V.str (n1.getD i ⟨#[]⟩) = V.str (n2.getD i ⟨#[]⟩))).map fun (i : Nat) => PyData.int ((ss.length : Int) - 1 - (i : Int))) (en_lc (σ := [some (.ref c), some (.ref a), some (.int (i : Int)), some (.ref sp), some (.ref p), some (.ref kp), some wv, some (.ref p0), some (.ref p1), some (.ref p2), y10, y11, y12, y13, y14, y15, y16, y17, y18]) (g := gName 13) (vs := [13]) (List.range ss.length) (fun (i : Nat) => PyData.int (i : Int)) (fun i => !decide (V.str (n1.getD i ⟨#[]⟩) = V.str (n2.getD i ⟨#[]⟩))) (fun (i : Nat) => PyData.int ((ss.length : Int) - 1 - (i : Int))) (ei_range (ea_cons (ls_len (K := K) (ev_var (i := 7) rfl) A9.h0 rfl) ea_nil) (by omega)) (by rw [List.length_range]; omega) (fun _ _ => by unfold fz; rfl) fun j x H10 xv hx e10 hd R kk => ?_) fun ap av H10 nap e10 hap hav => ?_
    · obtain rfl := dp_int hd
      have hx9 : x < ss.length := List.mem_range.mp (List.mem_of_getElem? hx)
      have hin : (((x : Nat) : Int)).toNat = x := by omega
      have A10 := A9.same e10
      exact kk [some (.ref c), some (.ref a), some (.int (i : Int)), some (.ref sp), some (.ref p), some (.ref kp), some wv, some (.ref p0), some (.ref p1), some (.ref p2), y10, y11, y12, some (.int (x : Int)), y14, y15, y16, y17, y18] rfl (et_test (ev_op (ls_get (K := K) (z := n1.getD x ⟨#[]⟩) (ev_var (i := 8) rfl) (ev_var (i := 13) rfl) A10.h1 (by omega) (by rw [hin]; exact gt t1 hx9)) (ls_get (K := K) (z := n2.getD x ⟨#[]⟩) (ev_var (i := 9) rfl) (ev_var (i := 13) rfl) A10.h2 (by omega) (by rw [hin]; exact gt t2 hx9)) (rv_ne rfl))) fun _ => ed_int (ev_op (ev_op (ls_len (K := K) (ev_var (i := 7) rfl) A10.h0 rfl) ev_c rv_I0) (ev_var (i := 13) rfl) rv_I0)
    try dsimp only
    have A10 := A9.same e10
    clear A9
    obtain ⟨ns, hns, hln⟩ : ∃ ns : List Int, (((List.range ss.length).filter fun i => !decide (V.str (n1.getD i ⟨#[]⟩) = V.str (n2.getD i ⟨#[]⟩))).map fun (i : Nat) => PyData.int ((ss.length : Int) - 1 - (i : Int))) = ns.map PyData.int ∧ ns.length ≤ 8 := by
      refine ⟨((List.range ss.length).filter fun i => !decide (V.str (n1.getD i ⟨#[]⟩) = V.str (n2.getD i ⟨#[]⟩))).map fun (i : Nat) => (ss.length : Int) - 1 - (i : Int), by rw [List.map_map]; rfl, ?_⟩
      rw [List.length_map]
      refine Nat.le_trans (List.length_filter_le _ _) ?_
      rw [List.length_range]
      exact l8
    rw [hns] at hav
    -- the number
    refine q_asgE (q_of_ints (K := K) (ns := ns ++ [0, 1]) (ev_var (i := 1) rfl) (by
      rw [List.map_append]
      exact en_cat (em_var (i := 10) rfl hap hav) (en_lst (eds_cons (ed_int ev_c) (eds_cons (ed_int ev_c) eds_nil)) (by show 2 ≤ 100000; decide)).m (by rw [List.length_map]; show ns.length + 2 ≤ 100000; omega)) A10.bag (by rw [List.length_append]; show 0 < ns.length + 2; omega) (by rw [List.length_append]; show ns.length + 2 ≤ 1000; omega) fun m1 H11 _ hB11 k11 => ?_)
    have A11 := A10.keep hB11 k11
    refine q_of_ints (K := K) (ns := [0, 0, 0, 1, -1]) (ev_var (i := 1) rfl) (en_lst (eds_cons (ed_int ev_c) (eds_cons (ed_int ev_c) (eds_cons (ed_int ev_c) (eds_cons (ed_int ev_c) (eds_cons (ed_int (ev_un ev_c ru_neg)) eds_nil))))) (by show 5 ≤ 100000; decide)) A11.bag (by decide) (by decide) fun m2 H12 _ hB12 k12 => ⟨_, _, rfl, rfl, g_go ?_⟩
    try dsimp only
    have A12 := A11.keep hB12 k12
    clear A10 A11 hap hav e10 nap hB11 hB12 k11 k12
    generalize m1 + m2 = many
    -- pick, at
    refine ⟨.ref a, rfl, a, l, 6, rfl, A12.bag, by decide, by decide, fun pick H13 _ _ hB13 k13 => ⟨.ref a, rfl, ?_⟩⟩
    have A13 := A12.keep hB13 k13
    refine (ev_op (ls_len (K := K) (ev_var (i := 7) rfl) A13.h0 rfl) ev_c rv_I0) H13 (.refl _) _ fun H14 e14 => ?_
    have A14 := A13.same e14
    refine ⟨a, l, (ss.length : Int) + 1, rfl, A14.bag, by omega, by omega, fun atv H15 at0 at1 hB15 k15 => ⟨_, _, rfl, ?_⟩⟩
    try dsimp only
    have A15 := A14.keep hB15 k15
    clear A12 A13 A14 hB13 k13 hB15 k15 e14
    obtain ⟨at', rfl⟩ := Int.eq_ofNat_of_zero_le at0
    -- a name out of the other
    refine Evl.q_cut (M := fun σ' H' => ∃ q2 m2, σ' = [some (.ref c), some (.ref a), some (.int (i : Int)), some (.ref sp), some (.ref p), some (.ref kp), some wv, some (.ref p0), some (.ref p1), some (.ref q2), some (.ref ap), some (.int many), some (.int pick), some (.int ((at' : Nat) : Int)), y14, y15, y16, y17, y18] ∧ At32 K a l p kp m ks wv who p0 p1 q2 ss n1 m2 H' ∧ m2.length ≤ 8) ?_ fun σ' H16 hM => ?_
    · refine s_if (b := decide (V.int pick = V.int 0)) (et_test (ev_op (ev_var (i := 12) rfl) ev_c (rv_eq rfl))) (fun _ H16 e16 => ?_) fun _ H16 e16 => ?_
      · have A16 := A15.same e16
        refine sd_asgN (K := K) (ds := (n2.take at').map PyData.str ++ (n2.drop (at' + 1)).map PyData.str) (en_cat (by
          rw [List.map_take]
          exact (en_slToL (k := at') (ed_var (i := 9) rfl A16.h2.dp) (ev_var (i := 13) rfl)).m) (by
          rw [List.map_drop]
          exact (en_slFromL (k := at' + 1) (ed_var (i := 9) rfl A16.h2.dp) (ev_is (ev_op (ev_var (i := 13) rfl) ev_c rv_I0) (by simp only [Int.natCast_add]; rfl))).m) (by rw [List.length_map, List.length_map, List.length_take, List.length_drop]; omega)) fun q2 vs2 H17 nq2 e17 hq2 hvs2 => ?_
        rw [← List.map_append] at hvs2
        rw [dps_str hvs2] at hq2
        have A17 := A16.same e17
        exact ⟨q2, _, rfl, ⟨A17.bag, A17.ma, A17.kv, A17.kpa, A17.wd, A17.h0, A17.h1, hq2, A17.a0, A17.a1, (A16.bag.ne nq2).1.symm, A17.o0, A17.o1, ok_app (ok_take A17.o2 _) (ok_drop A17.o2 _), A17.len⟩, by rw [List.length_append, List.length_take, List.length_drop]; omega⟩
      · exact ⟨p2, n2, rfl, A15.same e16, by omega⟩
    clear A15
    obtain ⟨q2, m2, rfl, A16, lm2⟩ := hM
    -- a name exchanged
    refine Evl.q_cut (M := fun σ' H' => ∃ q1 m1, σ' = [some (.ref c), some (.ref a), some (.int (i : Int)), some (.ref sp), some (.ref p), some (.ref kp), some wv, some (.ref p0), some (.ref q1), some (.ref q2), some (.ref ap), some (.int many), some (.int pick), some (.int ((at' : Nat) : Int)), y14, y15, y16, y17, y18] ∧ At32 K a l p kp m ks wv who p0 q1 q2 ss m1 m2 H' ∧ m1.length ≤ 9) ?_ fun σ' H17 hM => ?_
    · refine s_if (b := decide (V.int pick = V.int 1)) (et_test (ev_op (ev_var (i := 12) rfl) ev_c (rv_eq rfl))) (fun _ H17 e17 => ?_) fun _ H17 e17 => ?_
      · have A17 := A16.same e17
        refine asg_cat3 ?_
        refine use_n (K := K) (ds := (n1.take at').map PyData.str) (by
          rw [List.map_take]
          exact en_slToL (k := at') (ed_var (i := 8) rfl A17.h1.dp) (ev_var (i := 13) rfl)) fun r1 vr1 H18 nr1 e18 hr1 hvr1 => ?_
        have A18 := A17.same e18
        rw [dps_str hvr1] at hr1
        have r1a : r1 ≠ a := (A17.bag.ne nr1).1.symm
        refine ⟨.ref a, rfl, ?_⟩
        refine (en_map (K := K) (g := gName 18) (vs := [18]) m dW (fun x => PyData.str x.1) (ei_lst (ed_var (i := 4) rfl A18.ma.dp)) (by omega) (fun x _ => by unfold fz; rfl) fun j x H19 xv hx e19 hd R kk => kk _ rfl (ed_ixT (ds := [.str x.1, .tuple (x.2.1.map dA), .int x.2.2.1, .int x.2.2.2]) (ed_var (i := 18) rfl hd) ev_c (by decide) rfl)) H18 (.refl _) _ fun r2 vr2 H19 nr2 e19 hr2 hvr2 => ?_
        have A19 := A18.same e19
        have hvr2 : DpAll K H19 vr2 ((m.map (·.1)).map PyData.str) := by
          rw [List.map_map]
          exact hvr2
        rw [dps_str hvr2] at hr2
        have r2a : r2 ≠ a := (A18.bag.ne nr2).1.symm
        refine ⟨a, l, _, _, rfl, A19.bag, .inl ⟨r2, rfl, r2a, .inl (.of hr2)⟩, by rw [List.length_map, List.length_map]; omega, by rw [List.length_map, List.length_map]; omega, fun vz H20 hvz hB20 k20 => ?_⟩
        obtain ⟨z, hz, rfl⟩ := List.mem_map.mp hvz
        obtain ⟨wz, hwz, rfl⟩ := List.mem_map.mp hz
        have sz := str_ok ((g.wr wz hwz).name.2.2)
        have A20 := A19.keep hB20 k20
        refine ⟨by show 1 ≤ sizeLine; decide, fun r3 nr3 => ?_⟩
        have e21 := Ex.new (o := .lst [V.str wz.1]) nr3
        have hr1' := e21 _ _ (k20 _ _ r1a (e19 _ _ hr1))
        have hr3 : upd H20 r3 (.lst [V.str wz.1]) r3 = some (.lst [V.str wz.1]) := upd_same
        have A21 := A20.same e21
        generalize upd H20 r3 (.lst [V.str wz.1]) = H21 at e21 hr1' hr3 A21
        refine ⟨r1, r3, _, _, rfl, rfl, hr1', hr3, sz_of (by rw [List.length_map, List.length_take]; show _ + 1 ≤ 100000; omega), fun r4 nr4 => ?_⟩
        have e22 := Ex.new (o := .lst ((n1.take at').map V.str ++ [V.str wz.1])) nr4
        have hr4 : upd H21 r4 (.lst ((n1.take at').map V.str ++ [V.str wz.1])) r4 = some (.lst ((n1.take at').map V.str ++ [V.str wz.1])) := upd_same
        have A22 := A21.same e22
        generalize upd H21 r4 (.lst ((n1.take at').map V.str ++ [V.str wz.1])) = H22 at e22 hr4 A22
        try dsimp only
        refine use_n (K := K) (ds := (n1.drop (at' + 1)).map PyData.str) (by
          rw [List.map_drop]
          exact en_slFromL (k := at' + 1) (ed_var (i := 8) rfl A22.h1.dp) (ev_is (ev_op (ev_var (i := 13) rfl) (ev_c (v := .int 1)) (rv_I0 (g := fun i j => .int (i + j)))) (by simp only [Int.natCast_add]; rfl))) fun r5 vr5 H23 nr5 e23 hr5 hvr5 => ?_
        have A23 := A22.same e23
        rw [dps_str hvr5] at hr5
        refine ⟨r4, r5, _, _, rfl, rfl, e23 _ _ hr4, hr5, sz_of (by rw [List.length_append, List.length_map, List.length_map, List.length_take, List.length_drop]; show _ + 1 + _ ≤ 100000; omega), fun r6 nr6 => ?_⟩
        have e24 := Ex.new (o := .lst ((n1.take at').map V.str ++ [V.str wz.1] ++ (n1.drop (at' + 1)).map V.str)) nr6
        have A24 := A23.same e24
        have hr6 : LsAt (upd H23 r6 (.lst ((n1.take at').map V.str ++ [V.str wz.1] ++ (n1.drop (at' + 1)).map V.str))) r6 (n1.take at' ++ [wz.1] ++ n1.drop (at' + 1)) := by
          unfold LsAt
          rw [upd_same, List.map_append, List.map_append]
          rfl
        exact ⟨r6, _, rfl, ⟨A24.bag, A24.ma, A24.kv, A24.kpa, A24.wd, A24.h0, hr6, A24.h2, A24.a0, (A23.bag.ne nr6).1.symm, A24.a2, A24.o0, ok_app (ok_app (ok_take A24.o1 _) (fun z hz => by rw [List.mem_singleton.mp hz]; exact sz)) (ok_drop A24.o1 _), A24.o2, A24.len⟩, by rw [List.length_append, List.length_append, List.length_take, List.length_drop]; show _ + 1 + _ ≤ 9; omega⟩
      · exact ⟨p1, n1, rfl, A16.same e17, by omega⟩
    clear A16
    obtain ⟨q1, m1, rfl, A17, lm1⟩ := hM
    -- what is due
    refine ⟨.ref p, rfl, .ref p0, rfl, .ref q1, rfl, .ref q2, rfl, .int many, rfl, wv, rfl, .ref kp, rfl, .ref p, wv, .ref kp, p0, q1, q2, m, ks, who, ss, m1, m2, many, rfl, A17.ma.dp, g, gks, A17.h0, A17.h1, A17.h2, A17.o0, A17.o1, A17.o2, by omega, A17.wd, A17.dk, fun H18 e18 => ?_⟩
    refine g_go ?_
    try dsimp only
    have A18 := A17.same e18
    clear A17
    -- the company
    refine ⟨.ref p, rfl, fun x dx nx ndx nxd => ?_⟩
    have s6 : Same H18 (upd (upd H18 dx (.own x)) x (.ins C dx [])) := (same_new ndx).trans (same_new (by rw [upd_ne nxd.symm]; exact nx))
    refine ⟨x, dx, .ref p, m, rfl, upd_same, dp_same s6 A18.ma.dp, g, fun d0 H19 nd0 k19 hc19 => ⟨rfl, ?_⟩⟩
    have s19 : Ex H18 H19 := fun b o e => k19 b o (s6 b o e) (ne_of_none e nx)
    have A19 := A18.same s19
    clear A18 k19 s6 nd0
    -- the handed rows
    refine ⟨.ref p0, rfl, p0, _, rfl, .inl (.of A19.h0), fun r0 nr0 => ?_⟩
    have e20 := Ex.new (o := .lst (ss.map V.str)) nr0
    have hr0 : LsAt (upd H19 r0 (.lst (ss.map V.str))) r0 ss := upd_same
    have A20 := A19.same e20
    generalize upd H19 r0 (.lst (ss.map V.str)) = H20 at e20 hr0 A20
    refine ⟨.ref q1, rfl, q1, _, rfl, .inl (.of A20.h1), fun r1 nr1 => ?_⟩
    have e21 := Ex.new (o := .lst (m1.map V.str)) nr1
    have hr1 : LsAt (upd H20 r1 (.lst (m1.map V.str))) r1 m1 := upd_same
    have A21 := A20.same e21
    generalize upd H20 r1 (.lst (m1.map V.str)) = H21 at e21 hr1 A21
    refine ⟨.ref q2, rfl, q2, _, rfl, .inl (.of A21.h2), fun r2 nr2 => ?_⟩
    have e22 := Ex.new (o := .lst (m2.map V.str)) nr2
    have hr2 : LsAt (upd H21 r2 (.lst (m2.map V.str))) r2 m2 := upd_same
    have A22 := A21.same e22
    generalize upd H21 r2 (.lst (m2.map V.str)) = H22 at e22 hr2 A22
    refine ⟨by show 3 ≤ sizeLine; decide, fun hp nhp => ⟨_, _, rfl, ?_⟩⟩
    try dsimp only
    have e23 := Ex.new (o := .lst [V.ref r0, .ref r1, .ref r2]) nhp
    have hhp : upd H22 hp (.lst [V.ref r0, .ref r1, .ref r2]) hp = some (.lst [V.ref r0, .ref r1, .ref r2]) := upd_same
    have A23 := A22.same e23
    have g0 := e23 _ _ (e22 _ _ (e21 _ _ hr0))
    have g1 := e23 _ _ (e22 _ _ hr1)
    have g2 := e23 _ _ hr2
    have hc23 := hc19.same (((e20.trans e21).trans e22).trans e23)
    generalize upd H22 hp (.lst [V.ref r0, .ref r1, .ref r2]) = H23 at hhp A23 g0 g1 g2 hc23
    clear A19 A20 A21 A22 e20 e21 e22 e23 hr0 hr1 hr2 nhp hc19
    obtain ⟨xs23, hd23⟩ := hc23.ext
    -- asked with lists
    refine ⟨.ref x, rfl, .ref hp, rfl, hp, _, 0, .ref r0, rfl, rfl, .of hhp, rfl, .ref hp, rfl, hp, _, 1, .ref r1, rfl, rfl, .of hhp, rfl, .ref hp, rfl, hp, _, 2, .ref r2, rfl, rfl, .of hhp, rfl, .int many, rfl, wv, rfl, .ref kp, rfl, rfl, rfl, ?_⟩
    refine ⟨x, d0, m, 20000, who, ks, false, r0, r1, r2, ss, m1, m2, many, wv, .ref kp, rfl, hc23.cap, Nat.le_refl _, g, .of g0, .of g1, .of g2, A23.o0, A23.o1, A23.o2, by have := A23.len; omega, A23.wd, .inl A23.dk, by omega, fun H24 k24 hc24 => ?_⟩
    refine ⟨by show 1 ≤ sizeLine; decide, fun fp nfp => g_go ?_⟩
    try dsimp only
    have A24 := A23.kd hd23 k24
    obtain ⟨xs24, hd24⟩ := hc24.ext
    have hhp := lst_ndic hd23 k24 hhp
    have g0 : LsAt H24 r0 ss := lst_ndic hd23 k24 g0
    have g1 : LsAt H24 r1 m1 := lst_ndic hd23 k24 g1
    have g2 : LsAt H24 r2 m2 := lst_ndic hd23 k24 g2
    have e25 := Ex.new (o := .lst [V.bl (doubtM m ks who ss m1 m2 many)]) nfp
    have hfp : upd H24 fp (.lst [V.bl (doubtM m ks who ss m1 m2 many)]) fp = some (.lst [V.bl (doubtM m ks who ss m1 m2 many)]) := upd_same
    generalize upd H24 fp (.lst [V.bl (doubtM m ks who ss m1 m2 many)]) = H25 at hfp e25
    clear A23 hc23 hd23 k24
    have A25 := A24.same e25
    -- asked with tuples
    refine ⟨.ref fp, rfl, .inl ⟨rfl, _, .of hfp⟩, .ref x, rfl, .ref p0, rfl, p0, _, rfl, .inl ⟨.of A25.h0, fun t0 nt0 => ?_⟩⟩
    have e26 := Ex.new (o := .tup (ss.map V.str)) nt0
    have ht0 : RowAt K (upd H25 t0 (.tup (ss.map V.str))) true t0 ss := .of upd_same
    generalize upd H25 t0 (.tup (ss.map V.str)) = H26 at e26 ht0
    have A26 := A25.same e26
    refine ⟨.ref q1, rfl, q1, _, rfl, .inl ⟨.of A26.h1, fun t1' nt1 => ?_⟩⟩
    have e27 := Ex.new (o := .tup (m1.map V.str)) nt1
    have ht1 : RowAt K (upd H26 t1' (.tup (m1.map V.str))) true t1' m1 := .of upd_same
    generalize upd H26 t1' (.tup (m1.map V.str)) = H27 at e27 ht1
    have A27 := A26.same e27
    refine ⟨.ref q2, rfl, q2, _, rfl, .inl ⟨.of A27.h2, fun t2' nt2 => ?_⟩⟩
    have e28 := Ex.new (o := .tup (m2.map V.str)) nt2
    have ht2 : RowAt K (upd H27 t2' (.tup (m2.map V.str))) true t2' m2 := .of upd_same
    generalize upd H27 t2' (.tup (m2.map V.str)) = H28 at e28 ht2
    have A28 := A27.same e28
    obtain ⟨uk9, hk1, hk2⟩ := A28.kv
    refine ⟨.int many, rfl, .ref kp, rfl, kp, _, rfl, .inl ⟨.of hk1, fun kt nkt => ?_⟩⟩
    have e29 := Ex.new (o := .tup uk9) nkt
    have hkt : Dp K (upd H28 kt (.tup uk9)) (.ref kt) (.tuple (ks.map dKd)) := .tup (.of upd_same) (dps_same e29 hk2)
    generalize upd H28 kt (.tup uk9) = H29 at e29 hkt
    have A29 := A28.same e29
    have e59 : Ex H25 H29 := ((e26.trans e27).trans e28).trans e29
    have hc29 := (hc24.same e25).same e59
    obtain ⟨xs29, hd29⟩ := hc29.ext
    refine ⟨wv, rfl, rfl, rfl, ?_⟩
    refine ⟨x, d0, m, 20000, who, ks, true, t0, t1', t2', ss, m1, m2, many, wv, .ref kt, rfl, hc29.cap, Nat.le_refl _, g, ht0.same ((e27.trans e28).trans e29), ht1.same (e28.trans e29), ht2.same e29, A29.o0, A29.o1, A29.o2, by have := A29.len; omega, A29.wd, .inr hkt, by omega, fun H30 k30 hc30 => ?_⟩
    have hfp30 := lst_ndic hd29 k30 (e59 _ _ hfp)
    refine ⟨fp, _, _, rfl, rfl, hfp30, by show 1 < sizeLine; decide, ?_⟩
    have kk : KD d0 H24 (upd H30 fp (.lst ([V.bl (doubtM m ks who ss m1 m2 many)] ++ [V.bl (doubtM m ks who ss m1 m2 many)]))) := fun b o hb nb => by
      rw [upd_ne (ne_of_none hb nfp)]
      exact k30 _ _ (e59 _ _ (e25 _ _ hb)) nb
    have A31 := A24.kd hd24 kk
    have hfp31 : upd H30 fp (.lst ([V.bl (doubtM m ks who ss m1 m2 many)] ++ [V.bl (doubtM m ks who ss m1 m2 many)])) fp = some (.lst ([V.bl (doubtM m ks who ss m1 m2 many)] ++ [V.bl (doubtM m ks who ss m1 m2 many)])) := upd_same
    have hhp := lst_ndic hd24 kk hhp
    have g0 : LsAt _ r0 ss := lst_ndic hd24 kk g0
    have g1 : LsAt _ r1 m1 := lst_ndic hd24 kk g1
    have g2 : LsAt _ r2 m2 := lst_ndic hd24 kk g2
    clear kk
    try dsimp only
    generalize upd H30 fp (.lst ([V.bl (doubtM m ks who ss m1 m2 many)] ++ [V.bl (doubtM m ks who ss m1 m2 many)])) = H31 at A31 hfp31 hhp g0 g1 g2
    have hf31 : Dp K H31 (.ref fp) (.list [.bool (doubtM m ks who ss m1 m2 many), .bool (doubtM m ks who ss m1 m2 many)]) := .lst (.of hfp31) (.cons (.bl _) (.cons (.bl _) .nil))
    have hh31 : Dp K H31 (.ref hp) (.list [.list (ss.map .str), .list (m1.map .str), .list (m2.map .str)]) := .lst (.of hhp) (.cons (LsAt.dp g0) (.cons (LsAt.dp g1) (.cons (LsAt.dp g2) .nil)))
    have shp : SeqAt.shaped (.list [.list (ss.map .str), .list (m1.map .str), .list (m2.map .str)]) = true := by
      have d0 := strs_dep32 ss
      have d1 := strs_dep32 m1
      have d2 := strs_dep32 m2
      unfold SeqAt.shaped
      rw [Bool.and_eq_true, decide_eq_true_eq]
      refine ⟨by simp only [PyData.canLay0, PyData.canLayAll0, strs_lay32 A31.o0, strs_lay32 A31.o1, strs_lay32 A31.o2, Bool.and_self], ?_⟩
      simp only [PyData.depth, PyData.depthAll]
      omega
    have self3 : PyData.eqv (.list [.list (ss.map .str), .list (m1.map .str), .list (m2.map .str)]) (.list [.list (ss.map .str), .list (m1.map .str), .list (m2.map .str)]) = true := by
      simp only [PyData.eqv, PyData.eqvAll, strs_self32, Bool.and_self]
    refine s_if (b := false) (show EvT _ _ _ (false || false) from et_or2 (b := false) (c := false) (et_not (a := true) (et_B (ev_like32 (K := K) (d := .list [.bool (doubtM m ks who ss m1 m2 many), .bool (doubtM m ks who ss m1 m2 many)]) (ed_var (i := 17) rfl hf31) (en_lst (eds_cons (ed_bl (ev_var (i := 14) rfl)) (eds_cons (ed_bl (ev_var (i := 14) rfl)) eds_nil)) (by show 2 ≤ 100000; decide)).list ⟨by show 2 ≤ 100000; decide, fun d hd => ?_⟩))) fun _ => et_test (ev_is (ev_neD (K := K) (ed_var (i := 16) rfl hh31) (en_lst (eds_cons (ed_var (i := 7) rfl A31.h0.dp) (eds_cons (ed_var (i := 8) rfl A31.h1.dp) (eds_cons (ed_var (i := 9) rfl A31.h2.dp) eds_nil))) (by show 3 ≤ 100000; decide)).list shp shp) (by rw [self3]; rfl))) (fun h => by cases h) fun _ H32 e32 => ?_
    · simp only [List.mem_cons, List.not_mem_nil, or_false] at hd
      rcases hd with rfl | rfl <;> exact True.intro
    · exact ⟨⟨_, _, _, _, _, _, _, _, _, _, _, _, _, _, _, _, _, rfl⟩, (A31.same e32).bag⟩
end
end Ink
namespace Ink
open PySem PySem.Spec PyProof.Rows L2 Evl
theorem kb_doubt {K : PySem.W.Frag} {f e9 : Addr} {fd : FuncData} (F : FunD K "is_doubt" "is_doubt" (defArgs sIsDoubt) (defBody sIsDoubt) (defScope sIsDoubt) [] [(("who" : Str), V.non), (("stamps" : Str), V.ref e9)] f fd) :
    ∃ g, KBn K fd ["company", "strip", "one", "other", "many", "who", "stamps"] 5 ["who", "stamps"] g (fun vs zs => vs ++ zs) := by
  obtain ⟨mv, h⟩ := F.kbinds0 (ps := ["company", "strip", "one", "other", "many", "who", "stamps"]) 5 ["who", "stamps"] [] (fun vs _ zs => vs ++ zs) (by simp) (fun q h => by cases h) (fun r1 _ r3 => r1.append r3) (fun D doc pm an cdv ct us mv ws l1 l2 l3 => match us, mv, ws, l1, l2, l3 with | [_, _, _, _, _], [], [_, _], _, _, _ => rfl)
  exact ⟨_, h⟩
theorem kb_doubtR {K : PySem.W.Frag} {f e9 : Addr} {fd : FuncData} (F : FunD K "is_doubt" "is_doubt" (defArgs sIsDoubt) (defBody sIsDoubt) (defScope sIsDoubt) [] [(("who" : Str), V.non), (("stamps" : Str), V.ref e9)] f fd) :
    ∃ g, KBn K fd ["company", "strip", "one", "other", "many", "who", "stamps"] 5 ["stamps", "who"] g (fun vs zs => vs ++ zs.reverse) := by
  obtain ⟨mv, h⟩ := F.kbinds0 (ps := ["company", "strip", "one", "other", "many", "who", "stamps"]) 5 ["stamps", "who"] [] (fun vs _ zs => vs ++ zs.reverse) (by simp) (fun q h => by cases h) (fun r1 _ r3 => r1.append r3.reverse) (fun D doc pm an cdv ct us mv ws l1 l2 l3 => match us, mv, ws, l1, l2, l3 with | [_, _, _, _, _], [], [_, _], _, _, _ => rfl)
  exact ⟨_, h⟩
end Ink
namespace Ink
open PySem PySem.W PySem.Calls PyProof.Rows HandSHeadRun
/-- a law's head by a run of its own, the written part and the tables of code looked at -/
theorem head_km {r : OpenRow} {q : Program} {K : Params → Frag} {as : List Addr} {ek : ∀ P, as = (K P).map (·.1)} {ts : List Addr} {M : Nat} {loose : List PySem.Str} {d : DefRec} {kwd : List (PySem.Str × PySem.Expr)}
    (e : opening r.prog = plainProg r.prog.main.scope.names) (f : ∀ s, fenceModules? r.prog s = some s)
    (run : ∀ (w : World) (os : OsState), (endF (stepQ (denQ tabQ) r.prog w) M r.prog w os).map (fun s => (looksF r.prog (boot_heap w.params) s.abs, seenQ q loose (importedModules r.prog.main.body) (fun s => xlAt q [] s && recOk r.toRowW.records s) s.abs, ((as.map (getT s), ts.map (getT s)) : List (Option Obj) × List (Option Obj)))) = some (true, openGood q loose, ((K w.params).map fun p => some p.2, ts.map fun _ => some (tabObj #[]))))
    (hdef : defOf q r.name = some (d, kwd)) (hp : r.prog.theDef r.name = some (d.params, d.body, d.scope)) (hk : kwWritten? d.params.kwonlyargs d.params.kw_defaults = some kwd)
    (hwr : (!r.writes || r.records.isEmpty) = true) (k1 : r.wellSaid = true) (ok : (chainsOk q && opensWell r.prog && (frees r.toRowW && r.within.isEmpty)) = true) (hb : r.prog.bare) (hw : r.toRowW.promised)
    (call : WalkO q loose (XL q []) (kmHook K as ek ts).says r.toRowW d kwd fun f vs => PySem.call f vs) : r.Holds :=
  head_any (H := kmHook K as ek ts) (ob := fun s => (as.map (getT s), ts.map (getT s))) (fun s => by
    show ((as.map (getT s), ts.map (getT s)) : List (Option Obj) × List (Option Obj)) = (as.map s.abs.heap.get?, ts.map s.abs.heap.get?)
    rw [List.map_congr_left (f := getT s) (g := s.abs.heap.get?) (l := as) fun a _ => getT_eq s a, List.map_congr_left (f := getT s) (g := s.abs.heap.get?) (l := ts) fun a _ => getT_eq s a]) e f (fun w os => run w os) hdef hp hk hwr k1 ok hb hw call
/-- a law's head by a run of its own, the written part looked at -/
theorem head_k {r : OpenRow} {q : Program} {K : Params → Frag} {as : List Addr} {ek : ∀ P, as = (K P).map (·.1)} {M : Nat} {loose : List PySem.Str} {d : DefRec} {kwd : List (PySem.Str × PySem.Expr)}
    (e : opening r.prog = plainProg r.prog.main.scope.names) (f : ∀ s, fenceModules? r.prog s = some s)
    (run : ∀ (w : World) (os : OsState), (endF (stepQ (denQ tabQ) r.prog w) M r.prog w os).map (fun s => (looksF r.prog (boot_heap w.params) s.abs, seenQ q loose (importedModules r.prog.main.body) (fun s => xlAt q [] s && recOk r.toRowW.records s) s.abs, as.map (getT s))) = some (true, openGood q loose, (K w.params).map fun p => some p.2))
    (hdef : defOf q r.name = some (d, kwd)) (hp : r.prog.theDef r.name = some (d.params, d.body, d.scope)) (hk : kwWritten? d.params.kwonlyargs d.params.kw_defaults = some kwd)
    (hwr : (!r.writes || r.records.isEmpty) = true) (k1 : r.wellSaid = true) (ok : (chainsOk q && opensWell r.prog && (frees r.toRowW && r.within.isEmpty)) = true) (hb : r.prog.bare) (hw : r.toRowW.promised)
    (call : WalkO q loose (XL q []) (kHook K as ek).says r.toRowW d kwd fun f vs => PySem.call f vs) : r.Holds :=
  head_any (H := kHook K as ek) (ob := fun s => as.map (getT s)) (fun s => by
    show as.map (getT s) = as.map s.abs.heap.get?
    exact List.map_congr_left fun a _ => getT_eq s a) e f (fun w os => run w os) hdef hp hk hwr k1 ok hb hw call
end Ink
namespace Ink
open PySem PySem.Spec PyProof.Rows L2
theorem all_mk {l : PySem.W.OpenLaw} {w : World} {K : PySem.W.Frag} {h : Heap} {mg : Str → Option Value} {fa fl : Addr} (X : K.In h) (G : h.Ns mainGlobals mg) (hfa : mg "law" = some (.ref fa))
    {oc1 kV1 dc1 pm1 cd1 ct1 : Value} {od1 an1 : Option Addr} {sl1 : Array (Option Value)} {f1 : Addr} {oc2 kV2 dc2 pm2 cd2 ct2 : Value} {od2 an2 : Option Addr} {sl2 : Array (Option Value)} {f2 : Addr} {oc3 kV3 dc3 pm3 cd3 ct3 : Value} {od3 an3 : Option Addr} {sl3 : Array (Option Value)} {f3 : Addr} {oc4 kV4 dc4 pm4 cd4 ct4 : Value} {od4 an4 : Option Addr} {sl4 : Array (Option Value)} {f4 : Addr} {oc5 kV5 dc5 pm5 cd5 ct5 : Value} {od5 an5 : Option Addr} {sl5 : Array (Option Value)} {f5 : Addr} {oc6 kV6 dc6 pm6 cd6 ct6 : Value} {od6 an6 : Option Addr} {sl6 : Array (Option Value)} {f6 : Addr} {oc7 kV7 dc7 pm7 cd7 ct7 : Value} {od7 an7 : Option Addr} {sl7 : Array (Option Value)} {f7 : Addr} {oc8 kV8 dc8 pm8 cd8 ct8 : Value} {od8 an8 : Option Addr} {sl8 : Array (Option Value)} {f8 : Addr} {oc9 kV9 dc9 pm9 cd9 ct9 : Value} {od9 an9 : Option Addr} {sl9 : Array (Option Value)} {f9 : Addr} {oc10 kV10 dc10 pm10 cd10 ct10 : Value} {od10 an10 : Option Addr} {sl10 : Array (Option Value)} {f10 : Addr} {oc11 kV11 dc11 pm11 cd11 ct11 : Value} {od11 an11 : Option Addr} {sl11 : Array (Option Value)} {f11 : Addr} {oc12 kV12 dc12 pm12 cd12 ct12 : Value} {od12 an12 : Option Addr} {sl12 : Array (Option Value)} {f12 : Addr} {oc13 kV13 dc13 pm13 cd13 ct13 : Value} {od13 an13 : Option Addr} {sl13 : Array (Option Value)} {f13 : Addr} {oc14 kV14 dc14 pm14 cd14 ct14 : Value} {od14 an14 : Option Addr} {sl14 : Array (Option Value)} {f14 : Addr} {oc15 kV15 dc15 pm15 cd15 ct15 : Value} {od15 an15 : Option Addr} {sl15 : Array (Option Value)} {f15 : Addr} {oc16 kV16 dc16 pm16 cd16 ct16 : Value} {od16 an16 : Option Addr} {sl16 : Array (Option Value)} {f16 : Addr} {oc17 kV17 dc17 pm17 cd17 ct17 : Value} {od17 an17 : Option Addr} {sl17 : Array (Option Value)} {f17 : Addr} {oc18 kV18 dc18 pm18 cd18 ct18 : Value} {od18 an18 : Option Addr} {sl18 : Array (Option Value)} {f18 : Addr} {oc19 kV19 dc19 pm19 cd19 ct19 : Value} {od19 an19 : Option Addr} {sl19 : Array (Option Value)} {f19 : Addr} {oc20 kV20 dc20 pm20 cd20 ct20 : Value} {od20 an20 : Option Addr} {sl20 : Array (Option Value)} {f20 : Addr} {oc21 kV21 dc21 pm21 cd21 ct21 : Value} {od21 an21 : Option Addr} {sl21 : Array (Option Value)} {f21 : Addr} {oc22 kV22 dc22 pm22 cd22 ct22 : Value} {od22 an22 : Option Addr} {sl22 : Array (Option Value)} {f22 : Addr} {oc23 kV23 dc23 pm23 cd23 ct23 : Value} {od23 an23 : Option Addr} {sl23 : Array (Option Value)} {f23 : Addr} {oc24 kV24 dc24 pm24 cd24 ct24 : Value} {od24 an24 : Option Addr} {sl24 : Array (Option Value)} {f24 : Addr} {oc25 kV25 dc25 pm25 cd25 ct25 : Value} {od25 an25 : Option Addr} {sl25 : Array (Option Value)} {f25 : Addr} {oc26 kV26 dc26 pm26 cd26 ct26 : Value} {od26 an26 : Option Addr} {sl26 : Array (Option Value)} {f26 : Addr} {oc27 kV27 dc27 pm27 cd27 ct27 : Value} {od27 an27 : Option Addr} {sl27 : Array (Option Value)} {f27 : Addr} {oc28 kV28 dc28 pm28 cd28 ct28 : Value} {od28 an28 : Option Addr} {sl28 : Array (Option Value)} {f28 : Addr} {oc29 kV29 dc29 pm29 cd29 ct29 : Value} {od29 an29 : Option Addr} {sl29 : Array (Option Value)} {f29 : Addr} {oc30 kV30 dc30 pm30 cd30 ct30 : Value} {od30 an30 : Option Addr} {sl30 : Array (Option Value)} {f30 : Addr} {oc31 kV31 dc31 pm31 cd31 ct31 : Value} {od31 an31 : Option Addr} {sl31 : Array (Option Value)} {f31 : Addr} {oc32 kV32 dc32 pm32 cd32 ct32 : Value} {od32 an32 : Option Addr} {sl32 : Array (Option Value)} {f32 : Addr} {oc33 kV33 dc33 pm33 cd33 ct33 : Value} {od33 an33 : Option Addr} {sl33 : Array (Option Value)} {f33 : Addr} {oc34 kV34 dc34 pm34 cd34 ct34 : Value} {od34 an34 : Option Addr} {sl34 : Array (Option Value)} {f34 : Addr} {oc35 kV35 dc35 pm35 cd35 ct35 : Value} {od35 an35 : Option Addr} {sl35 : Array (Option Value)} {f35 : Addr} {oc36 kV36 dc36 pm36 cd36 ct36 : Value} {od36 an36 : Option Addr} {sl36 : Array (Option Value)} {f36 : Addr} {oc37 kV37 dc37 pm37 cd37 ct37 : Value} {od37 an37 : Option Addr} {sl37 : Array (Option Value)} {f37 : Addr} {oc38 kV38 dc38 pm38 cd38 ct38 : Value} {od38 an38 : Option Addr} {sl38 : Array (Option Value)} {f38 : Addr} {oc39 kV39 dc39 pm39 cd39 ct39 : Value} {od39 an39 : Option Addr} {sl39 : Array (Option Value)} {f39 : Addr} {oc40 kV40 dc40 pm40 cd40 ct40 : Value} {od40 an40 : Option Addr} {sl40 : Array (Option Value)} {f40 : Addr} {oc41 kV41 dc41 pm41 cd41 ct41 : Value} {od41 an41 : Option Addr} {sl41 : Array (Option Value)} {t1 : Tok} {t2 : Tok} {t3 : Tok} {t4 : Tok} {t5 : Tok} {C T0 e0 r0 : Addr} {cT : Value} {oT oE oN : Option Addr} {nT nE nN : Nat} {sT sE sN : Array (Option Value)} {u1 u2 : Tok} {EY : Addr} {ocA kVA dcA pmA cdA ctA : Value} {odA anA : Option Addr} {slA : Array (Option Value)} {fA : Addr} {ocB kVB dcB pmB cdB ctB : Value} {odB anB : Option Addr} {slB : Array (Option Value)} {fB : Addr} {ocD kVD dcD pmD cdD ctD : Value} {odD anD : Option Addr} {slD : Array (Option Value)} {fD : Addr} {ocEi kVEi dcEi pmEi cdEi ctEi : Value} {odEi anEi : Option Addr} {slEi : Array (Option Value)} {fEi : Addr} {ocEf kVEf dcEf pmEf cdEf ctEf : Value} {odEf anEf : Option Addr} {slEf : Array (Option Value)} {fEf : Addr} {ocEa kVEa dcEa pmEa cdEa ctEa : Value} {odEa anEa : Option Addr} {slEa : Array (Option Value)} {fEa : Addr} {ocEd kVEd dcEd pmEd cdEd ctEd : Value} {odEd anEd : Option Addr} {slEd : Array (Option Value)} {fEd : Addr} {ocZ dcZ pmZ cdZ ctZ : Value} {odZ anZ : Option Addr} {slZ : Array (Option Value)} {fZ DT e9 : Addr}
    (a1 : PySem.W.nsIn K mainGlobals "is_name" = some (some (.ref f1))) (l1 : K.lookup f1 = some ⟨oc1, od1, .func (PySem.W.fnOf "is_name" "is_name" (defArgs sIsName) (defBody sIsName) (defScope sIsName) .none kV1 dc1 pm1 an1 cd1 ct1), sl1⟩) (c1 : PySem.W.codeIn K cd1 "is_name" = true) (k1 : PySem.W.keepIn K (.ref f1) = true)
    (a2 : PySem.W.nsIn K mainGlobals "is_sign" = some (some (.ref f2))) (l2 : K.lookup f2 = some ⟨oc2, od2, .func (PySem.W.fnOf "is_sign" "is_sign" (defArgs sIsSign) (defBody sIsSign) (defScope sIsSign) .none kV2 dc2 pm2 an2 cd2 ct2), sl2⟩) (c2 : PySem.W.codeIn K cd2 "is_sign" = true) (k2 : PySem.W.keepIn K (.ref f2) = true)
    (a3 : PySem.W.nsIn K mainGlobals "is_writer" = some (some (.ref f3))) (l3 : K.lookup f3 = some ⟨oc3, od3, .func (PySem.W.fnOf "is_writer" "is_writer" (defArgs sIsWriter) (defBody sIsWriter) (defScope sIsWriter) .none kV3 dc3 pm3 an3 cd3 ct3), sl3⟩) (c3 : PySem.W.codeIn K cd3 "is_writer" = true) (k3 : PySem.W.keepIn K (.ref f3) = true)
    (a4 : PySem.W.nsIn K mainGlobals "_is_count" = some (some (.ref f4))) (l4 : K.lookup f4 = some ⟨oc4, od4, .func (PySem.W.fnOf "_is_count" "_is_count" (defArgs sIsCount) (defBody sIsCount) (defScope sIsCount) .none kV4 dc4 pm4 an4 cd4 ct4), sl4⟩) (c4 : PySem.W.codeIn K cd4 "_is_count" = true) (k4 : PySem.W.keepIn K (.ref f4) = true)
    (a5 : PySem.W.nsIn K mainGlobals "_is_place" = some (some (.ref f5))) (l5 : K.lookup f5 = some ⟨oc5, od5, .func (PySem.W.fnOf "_is_place" "_is_place" (defArgs sIsPlace) (defBody sIsPlace) (defScope sIsPlace) .none kV5 dc5 pm5 an5 cd5 ct5), sl5⟩) (c5 : PySem.W.codeIn K cd5 "_is_place" = true) (k5 : PySem.W.keepIn K (.ref f5) = true)
    (a6 : PySem.W.nsIn K mainGlobals "_are_arrows" = some (some (.ref f6))) (l6 : K.lookup f6 = some ⟨oc6, od6, .func (PySem.W.fnOf "_are_arrows" "_are_arrows" (defArgs sAreArrows) (defBody sAreArrows) (defScope sAreArrows) .none kV6 dc6 pm6 an6 cd6 ct6), sl6⟩) (c6 : PySem.W.codeIn K cd6 "_are_arrows" = true) (k6 : PySem.W.keepIn K (.ref f6) = true)
    (a7 : PySem.W.nsIn K mainGlobals "_minds" = some (some (.ref f7))) (l7 : K.lookup f7 = some ⟨oc7, od7, .func (PySem.W.fnOf "_minds" "_minds" (defArgs sMinds) (defBody sMinds) (defScope sMinds) .none kV7 dc7 pm7 an7 cd7 ct7), sl7⟩) (c7 : PySem.W.codeIn K cd7 "_minds" = true) (k7 : PySem.W.keepIn K (.ref f7) = true)
    (a8 : PySem.W.nsIn K mainGlobals "_may_write" = some (some (.ref f8))) (l8 : K.lookup f8 = some ⟨oc8, od8, .func (PySem.W.fnOf "_may_write" "_may_write" (defArgs sMayWrite) (defBody sMayWrite) (defScope sMayWrite) .none kV8 dc8 pm8 an8 cd8 ct8), sl8⟩) (c8 : PySem.W.codeIn K cd8 "_may_write" = true) (k8 : PySem.W.keepIn K (.ref f8) = true)
    (a9 : PySem.W.nsIn K mainGlobals "_behind" = some (some (.ref f9))) (l9 : K.lookup f9 = some ⟨oc9, od9, .func (PySem.W.fnOf "_behind" "_behind" (defArgs sBehind) (defBody sBehind) (defScope sBehind) .none kV9 dc9 pm9 an9 cd9 ct9), sl9⟩) (c9 : PySem.W.codeIn K cd9 "_behind" = true) (k9 : PySem.W.keepIn K (.ref f9) = true)
    (a10 : PySem.W.nsIn K mainGlobals "_steps_of" = some (some (.ref f10))) (l10 : K.lookup f10 = some ⟨oc10, od10, .func (PySem.W.fnOf "_steps_of" "_steps_of" (defArgs sStepsOf) (defBody sStepsOf) (defScope sStepsOf) .none kV10 dc10 pm10 an10 cd10 ct10), sl10⟩) (c10 : PySem.W.codeIn K cd10 "_steps_of" = true) (k10 : PySem.W.keepIn K (.ref f10) = true)
    (a11 : PySem.W.nsIn K mainGlobals "_law_bag" = some (some (.ref f11))) (l11 : K.lookup f11 = some ⟨oc11, od11, .func (PySem.W.fnOf "_law_bag" "_law_bag" (defArgs sLBag) (defBody sLBag) (defScope sLBag) .none kV11 dc11 pm11 an11 cd11 ct11), sl11⟩) (c11 : PySem.W.codeIn K cd11 "_law_bag" = true) (k11 : PySem.W.keepIn K (.ref f11) = true)
    (a12 : PySem.W.nsIn K mainGlobals "_law_pull" = some (some (.ref f12))) (l12 : K.lookup f12 = some ⟨oc12, od12, .func (PySem.W.fnOf "_law_pull" "_law_pull" (defArgs sLPull) (defBody sLPull) (defScope sLPull) .none kV12 dc12 pm12 an12 cd12 ct12), sl12⟩) (c12 : PySem.W.codeIn K cd12 "_law_pull" = true) (k12 : PySem.W.keepIn K (.ref f12) = true)
    (a13 : PySem.W.nsIn K mainGlobals "_law_of" = some (some (.ref f13))) (l13 : K.lookup f13 = some ⟨oc13, od13, .func (PySem.W.fnOf "_law_of" "_law_of" (defArgs sLOf) (defBody sLOf) (defScope sLOf) .none kV13 dc13 pm13 an13 cd13 ct13), sl13⟩) (c13 : PySem.W.codeIn K cd13 "_law_of" = true) (k13 : PySem.W.keepIn K (.ref f13) = true)
    (a14 : PySem.W.nsIn K mainGlobals "_law_letters" = some (some (.ref f14))) (l14 : K.lookup f14 = some ⟨oc14, od14, .func (PySem.W.fnOf "_law_letters" "_law_letters" (defArgs sLLetters) (defBody sLLetters) (defScope sLLetters) .none kV14 dc14 pm14 an14 cd14 ct14), sl14⟩) (c14 : PySem.W.codeIn K cd14 "_law_letters" = true) (k14 : PySem.W.keepIn K (.ref f14) = true)
    (a15 : PySem.W.nsIn K mainGlobals "_law_like" = some (some (.ref f15))) (l15 : K.lookup f15 = some ⟨oc15, od15, .func (PySem.W.fnOf "_law_like" "_law_like" (defArgs sLLike) (defBody sLLike) (defScope sLLike) .none kV15 dc15 pm15 an15 cd15 ct15), sl15⟩) (c15 : PySem.W.codeIn K cd15 "_law_like" = true) (k15 : PySem.W.keepIn K (.ref f15) = true)
    (a16 : PySem.W.nsIn K mainGlobals "_law_names" = some (some (.ref f16))) (l16 : K.lookup f16 = some ⟨oc16, od16, .func (PySem.W.fnOf "_law_names" "_law_names" (defArgs sLNames) (defBody sLNames) (defScope sLNames) .none kV16 dc16 pm16 an16 cd16 ct16), sl16⟩) (c16 : PySem.W.codeIn K cd16 "_law_names" = true) (k16 : PySem.W.keepIn K (.ref f16) = true)
    (a17 : PySem.W.nsIn K mainGlobals "_law_signs" = some (some (.ref f17))) (l17 : K.lookup f17 = some ⟨oc17, od17, .func (PySem.W.fnOf "_law_signs" "_law_signs" (defArgs sLSigns) (defBody sLSigns) (defScope sLSigns) .none kV17 dc17 pm17 an17 cd17 ct17), sl17⟩) (c17 : PySem.W.codeIn K cd17 "_law_signs" = true) (k17 : PySem.W.keepIn K (.ref f17) = true)
    (a18 : PySem.W.nsIn K mainGlobals "_law_writer" = some (some (.ref f18))) (l18 : K.lookup f18 = some ⟨oc18, od18, .func (PySem.W.fnOf "_law_writer" "_law_writer" (defArgs sLWriter) (defBody sLWriter) (defScope sLWriter) .none kV18 dc18 pm18 an18 cd18 ct18), sl18⟩) (c18 : PySem.W.codeIn K cd18 "_law_writer" = true) (k18 : PySem.W.keepIn K (.ref f18) = true)
    (a19 : PySem.W.nsIn K mainGlobals "_law_arrows" = some (some (.ref f19))) (l19 : K.lookup f19 = some ⟨oc19, od19, .func (PySem.W.fnOf "_law_arrows" "_law_arrows" (defArgs sLArrows) (defBody sLArrows) (defScope sLArrows) .none kV19 dc19 pm19 an19 cd19 ct19), sl19⟩) (c19 : PySem.W.codeIn K cd19 "_law_arrows" = true) (k19 : PySem.W.keepIn K (.ref f19) = true)
    (a20 : PySem.W.nsIn K mainGlobals "_law_begin" = some (some (.ref f20))) (l20 : K.lookup f20 = some ⟨oc20, od20, .func (PySem.W.fnOf "_law_begin" "_law_begin" (defArgs sLBegin) (defBody sLBegin) (defScope sLBegin) .none kV20 dc20 pm20 an20 cd20 ct20), sl20⟩) (c20 : PySem.W.codeIn K cd20 "_law_begin" = true) (k20 : PySem.W.keepIn K (.ref f20) = true)
    (a21 : PySem.W.nsIn K mainGlobals "_law_waits_count" = some (some (.ref f21))) (l21 : K.lookup f21 = some ⟨oc21, od21, .func (PySem.W.fnOf "_law_waits_count" "_law_waits_count" (defArgs sLWaitsCount) (defBody sLWaitsCount) (defScope sLWaitsCount) .none kV21 dc21 pm21 an21 cd21 ct21), sl21⟩) (c21 : PySem.W.codeIn K cd21 "_law_waits_count" = true) (k21 : PySem.W.keepIn K (.ref f21) = true)
    (a22 : PySem.W.nsIn K mainGlobals "_law_can" = some (some (.ref f22))) (l22 : K.lookup f22 = some ⟨oc22, od22, .func (PySem.W.fnOf "_law_can" "_law_can" (defArgs sLCan) (defBody sLCan) (defScope sLCan) .none kV22 dc22 pm22 an22 cd22 ct22), sl22⟩) (c22 : PySem.W.codeIn K cd22 "_law_can" = true) (k22 : PySem.W.keepIn K (.ref f22) = true)
    (a23 : PySem.W.nsIn K mainGlobals "_law_after" = some (some (.ref f23))) (l23 : K.lookup f23 = some ⟨oc23, od23, .func (PySem.W.fnOf "_law_after" "_law_after" (defArgs sLAfter) (defBody sLAfter) (defScope sLAfter) .none kV23 dc23 pm23 an23 cd23 ct23), sl23⟩) (c23 : PySem.W.codeIn K cd23 "_law_after" = true) (k23 : PySem.W.keepIn K (.ref f23) = true)
    (a24 : PySem.W.nsIn K mainGlobals "_law_steps" = some (some (.ref f24))) (l24 : K.lookup f24 = some ⟨oc24, od24, .func (PySem.W.fnOf "_law_steps" "_law_steps" (defArgs sLSteps) (defBody sLSteps) (defScope sLSteps) .none kV24 dc24 pm24 an24 cd24 ct24), sl24⟩) (c24 : PySem.W.codeIn K cd24 "_law_steps" = true) (k24 : PySem.W.keepIn K (.ref f24) = true)
    (a25 : PySem.W.nsIn K mainGlobals "_law_company" = some (some (.ref f25))) (l25 : K.lookup f25 = some ⟨oc25, od25, .func (PySem.W.fnOf "_law_company" "_law_company" (defArgs sLCompany) (defBody sLCompany) (defScope sLCompany) .none kV25 dc25 pm25 an25 cd25 ct25), sl25⟩) (c25 : PySem.W.codeIn K cd25 "_law_company" = true) (k25 : PySem.W.keepIn K (.ref f25) = true)
    (a26 : PySem.W.nsIn K mainGlobals "_need_company" = some (some (.ref f26))) (l26 : K.lookup f26 = some ⟨oc26, od26, .func (PySem.W.fnOf "_need_company" "_need_company" (defArgs sNeedCompany) (defBody sNeedCompany) (defScope sNeedCompany) .none kV26 dc26 pm26 an26 cd26 ct26), sl26⟩) (c26 : PySem.W.codeIn K cd26 "_need_company" = true) (k26 : PySem.W.keepIn K (.ref f26) = true)
    (a27 : PySem.W.nsIn K mainGlobals "_law_ways" = some (some (.ref f27))) (l27 : K.lookup f27 = some ⟨oc27, od27, .func (PySem.W.fnOf "_law_ways" "_law_ways" (defArgs sLWays) (defBody sLWays) (defScope sLWays) .none kV27 dc27 pm27 an27 cd27 ct27), sl27⟩) (c27 : PySem.W.codeIn K cd27 "_law_ways" = true) (k27 : PySem.W.keepIn K (.ref f27) = true)
    (a28 : PySem.W.nsIn K mainGlobals "_law_alike" = some (some (.ref f28))) (l28 : K.lookup f28 = some ⟨oc28, od28, .func (PySem.W.fnOf "_law_alike" "_law_alike" (defArgs sLAlike) (defBody sLAlike) (defScope sLAlike) .none kV28 dc28 pm28 an28 cd28 ct28), sl28⟩) (c28 : PySem.W.codeIn K cd28 "_law_alike" = true) (k28 : PySem.W.keepIn K (.ref f28) = true)
    (a29 : PySem.W.nsIn K mainGlobals "_law_differs" = some (some (.ref f29))) (l29 : K.lookup f29 = some ⟨oc29, od29, .func (PySem.W.fnOf "_law_differs" "_law_differs" (defArgs sLDiffers) (defBody sLDiffers) (defScope sLDiffers) .none kV29 dc29 pm29 an29 cd29 ct29), sl29⟩) (c29 : PySem.W.codeIn K cd29 "_law_differs" = true) (k29 : PySem.W.keepIn K (.ref f29) = true)
    (a30 : PySem.W.nsIn K mainGlobals "_law_twin_steps" = some (some (.ref f30))) (l30 : K.lookup f30 = some ⟨oc30, od30, .func (PySem.W.fnOf "_law_twin_steps" "_law_twin_steps" (defArgs sLTwinSteps) (defBody sLTwinSteps) (defScope sLTwinSteps) .none kV30 dc30 pm30 an30 cd30 ct30), sl30⟩) (c30 : PySem.W.codeIn K cd30 "_law_twin_steps" = true) (k30 : PySem.W.keepIn K (.ref f30) = true)
    (a31 : PySem.W.nsIn K mainGlobals "_law_kinds" = some (some (.ref f31))) (l31 : K.lookup f31 = some ⟨oc31, od31, .func (PySem.W.fnOf "_law_kinds" "_law_kinds" (defArgs sLKinds) (defBody sLKinds) (defScope sLKinds) .none kV31 dc31 pm31 an31 cd31 ct31), sl31⟩) (c31 : PySem.W.codeIn K cd31 "_law_kinds" = true) (k31 : PySem.W.keepIn K (.ref f31) = true)
    (a32 : PySem.W.nsIn K mainGlobals "_law_filled" = some (some (.ref f32))) (l32 : K.lookup f32 = some ⟨oc32, od32, .func (PySem.W.fnOf "_law_filled" "_law_filled" (defArgs sLFilled) (defBody sLFilled) (defScope sLFilled) .none kV32 dc32 pm32 an32 cd32 ct32), sl32⟩) (c32 : PySem.W.codeIn K cd32 "_law_filled" = true) (k32 : PySem.W.keepIn K (.ref f32) = true)
    (a33 : PySem.W.nsIn K mainGlobals "_law_tight" = some (some (.ref f33))) (l33 : K.lookup f33 = some ⟨oc33, od33, .func (PySem.W.fnOf "_law_tight" "_law_tight" (defArgs sLTight) (defBody sLTight) (defScope sLTight) .none kV33 dc33 pm33 an33 cd33 ct33), sl33⟩) (c33 : PySem.W.codeIn K cd33 "_law_tight" = true) (k33 : PySem.W.keepIn K (.ref f33) = true)
    (a34 : PySem.W.nsIn K mainGlobals "_law_taking_turns" = some (some (.ref f34))) (l34 : K.lookup f34 = some ⟨oc34, od34, .func (PySem.W.fnOf "_law_taking_turns" "_law_taking_turns" (defArgs sLTakingTurns) (defBody sLTakingTurns) (defScope sLTakingTurns) .none kV34 dc34 pm34 an34 cd34 ct34), sl34⟩) (c34 : PySem.W.codeIn K cd34 "_law_taking_turns" = true) (k34 : PySem.W.keepIn K (.ref f34) = true)
    (a35 : PySem.W.nsIn K mainGlobals "_law_delayed" = some (some (.ref f35))) (l35 : K.lookup f35 = some ⟨oc35, od35, .func (PySem.W.fnOf "_law_delayed" "_law_delayed" (defArgs sLDelayed) (defBody sLDelayed) (defScope sLDelayed) .none kV35 dc35 pm35 an35 cd35 ct35), sl35⟩) (c35 : PySem.W.codeIn K cd35 "_law_delayed" = true) (k35 : PySem.W.keepIn K (.ref f35) = true)
    (a36 : PySem.W.nsIn K mainGlobals "_law_walked" = some (some (.ref f36))) (l36 : K.lookup f36 = some ⟨oc36, od36, .func (PySem.W.fnOf "_law_walked" "_law_walked" (defArgs sLWalked) (defBody sLWalked) (defScope sLWalked) .none kV36 dc36 pm36 an36 cd36 ct36), sl36⟩) (c36 : PySem.W.codeIn K cd36 "_law_walked" = true) (k36 : PySem.W.keepIn K (.ref f36) = true)
    (a37 : PySem.W.nsIn K mainGlobals "_law_doubt_ok" = some (some (.ref f37))) (l37 : K.lookup f37 = some ⟨oc37, od37, .func (PySem.W.fnOf "_law_doubt_ok" "_law_doubt_ok" (defArgs sLDoubtOk) (defBody sLDoubtOk) (defScope sLDoubtOk) .none kV37 dc37 pm37 an37 cd37 ct37), sl37⟩) (c37 : PySem.W.codeIn K cd37 "_law_doubt_ok" = true) (k37 : PySem.W.keepIn K (.ref f37) = true)
    (a38 : PySem.W.nsIn K mainGlobals "_law_twin_rows" = some (some (.ref f38))) (l38 : K.lookup f38 = some ⟨oc38, od38, .func (PySem.W.fnOf "_law_twin_rows" "_law_twin_rows" (defArgs sLTwinRows) (defBody sLTwinRows) (defScope sLTwinRows) .none kV38 dc38 pm38 an38 cd38 ct38), sl38⟩) (c38 : PySem.W.codeIn K cd38 "_law_twin_rows" = true) (k38 : PySem.W.keepIn K (.ref f38) = true)
    (a39 : PySem.W.nsIn K mainGlobals "_are_alike" = some (some (.ref f39))) (l39 : K.lookup f39 = some ⟨oc39, od39, .func (PySem.W.fnOf "_are_alike" "_are_alike" (defArgs sAreAlike) (defBody sAreAlike) (defScope sAreAlike) .none kV39 dc39 pm39 an39 cd39 ct39), sl39⟩) (c39 : PySem.W.codeIn K cd39 "_are_alike" = true) (k39 : PySem.W.keepIn K (.ref f39) = true)
    (a40 : PySem.W.nsIn K mainGlobals "_stands_along" = some (some (.ref f40))) (l40 : K.lookup f40 = some ⟨oc40, od40, .func (PySem.W.fnOf "_stands_along" "_stands_along" (defArgs sStandsAlong) (defBody sStandsAlong) (defScope sStandsAlong) .none kV40 dc40 pm40 an40 cd40 ct40), sl40⟩) (c40 : PySem.W.codeIn K cd40 "_stands_along" = true) (k40 : PySem.W.keepIn K (.ref f40) = true)
    (a41 : PySem.W.nsIn K mainGlobals "law" = some (some (.ref fl))) (l41 : K.lookup fl = some ⟨oc41, od41, .func (PySem.W.fnOf "law" "law" (defArgs sLaw) (defBody sLaw) (defScope sLaw) .none kV41 dc41 pm41 an41 cd41 ct41), sl41⟩) (c41 : PySem.W.codeIn K cd41 "law" = true) (k41 : PySem.W.keepIn K (.ref fl) = true)
    (z1 : PySem.W.nsIn K mainGlobals "len" = some none)
    (z2 : PySem.W.nsIn K mainGlobals "all" = some none)
    (z3 : PySem.W.nsIn K mainGlobals "list" = some none)
    (z4 : PySem.W.nsIn K mainGlobals "range" = some none)
    (z5 : PySem.W.nsIn K mainGlobals "zip" = some none)
    (z6 : PySem.W.nsIn K mainGlobals "isinstance" = some none)
    (z7 : PySem.W.nsIn K mainGlobals "tuple" = some none)
    (z8 : PySem.W.nsIn K mainGlobals "bool" = some none)
    (z9 : PySem.W.nsIn K mainGlobals "int" = some none)
    (z10 : PySem.W.nsIn K mainGlobals "str" = some none)
    (z11 : PySem.W.nsIn K mainGlobals "max" = some none)
    (z12 : PySem.W.nsIn K mainGlobals "sorted" = some none)
    (z13 : PySem.W.nsIn K mainGlobals "enumerate" = some none)
    (z14 : PySem.W.nsIn K mainGlobals "min" = some none)
    (z15 : PySem.W.nsIn K mainGlobals "any" = some none)
    (y1 : PySem.W.nsIn K mainGlobals "_MOST_LETTERS" = some (some (.int 6 t1)))
    (y2 : PySem.W.nsIn K mainGlobals "MOST_ARROWS" = some (some (.int 9 t2)))
    (y3 : PySem.W.nsIn K mainGlobals "MOST_COUNT" = some (some (.int 3 t3)))
    (y4 : PySem.W.nsIn K mainGlobals "_LAST_PLACE" = some (some (.int 2 t4)))
    (y5 : PySem.W.nsIn K mainGlobals "MOST_WRITERS" = some (some (.int 3 t5)))
    (aC : PySem.W.nsIn K mainGlobals "Company" = some (some (.ref C))) (aEY : PySem.W.nsIn K mainGlobals "Eye" = some (some (.ref EY)))
    (aA : PySem.W.findIn K (.ref C) "__init__" = some (some (.ref fA))) (iA : PySem.W.isFn K (.ref fA) = true) (lA : K.lookup fA = some ⟨ocA, odA, .func (PySem.W.fnOf "__init__" "Company.__init__" (defArgs sCompanyInit) (defBody sCompanyInit) (defScope sCompanyInit) (.ref T0) kVA dcA pmA anA cdA ctA), slA⟩) (cA : PySem.W.codeIn K cdA "Company.__init__" = true) (kA : PySem.W.keepIn K (.ref fA) = true)
    (aB : PySem.W.findIn K (.ref C) "begin" = some (some (.ref fB))) (iB : PySem.W.isFn K (.ref fB) = true) (lB : K.lookup fB = some ⟨ocB, odB, .func (PySem.W.fnOf "begin" "Company.begin" (defArgs sCompanyBegin) (defBody sCompanyBegin) (defScope sCompanyBegin) .none kVB dcB pmB anB cdB ctB), slB⟩) (cB : PySem.W.codeIn K cdB "Company.begin" = true) (kB : PySem.W.keepIn K (.ref fB) = true)
    (aD : PySem.W.findIn K (.ref C) "steps" = some (some (.ref fD))) (iD : PySem.W.isFn K (.ref fD) = true) (lD : K.lookup fD = some ⟨ocD, odD, .func (PySem.W.fnOf "steps" "Company.steps" (defArgs sCompanySteps) (defBody sCompanySteps) (defScope sCompanySteps) .none kVD dcD pmD anD cdD ctD), slD⟩) (cD : PySem.W.codeIn K cdD "Company.steps" = true) (kD : PySem.W.keepIn K (.ref fD) = true)
    (aEi : PySem.W.findIn K (.ref EY) "__init__" = some (some (.ref fEi))) (iEi : PySem.W.isFn K (.ref fEi) = true) (lEi : K.lookup fEi = some ⟨ocEi, odEi, .func (PySem.W.fnOf "__init__" "Eye.__init__" (defArgs sEyeInit) (defBody sEyeInit) (defScope sEyeInit) .none kVEi dcEi pmEi anEi cdEi ctEi), slEi⟩) (cEi : PySem.W.codeIn K cdEi "Eye.__init__" = true) (kEi : PySem.W.keepIn K (.ref fEi) = true)
    (aEf : PySem.W.findIn K (.ref EY) "free" = some (some (.ref fEf))) (iEf : PySem.W.isFn K (.ref fEf) = true) (lEf : K.lookup fEf = some ⟨ocEf, odEf, .func (PySem.W.fnOf "free" "Eye.free" (defArgs sEyeFree) (defBody sEyeFree) (defScope sEyeFree) .none kVEf dcEf pmEf anEf cdEf ctEf), slEf⟩) (cEf : PySem.W.codeIn K cdEf "Eye.free" = true) (kEf : PySem.W.keepIn K (.ref fEf) = true)
    (aEa : PySem.W.findIn K (.ref EY) "alike" = some (some (.ref fEa))) (iEa : PySem.W.isFn K (.ref fEa) = true) (lEa : K.lookup fEa = some ⟨ocEa, odEa, .func (PySem.W.fnOf "alike" "Eye.alike" (defArgs sEyeAlike) (defBody sEyeAlike) (defScope sEyeAlike) .none kVEa dcEa pmEa anEa cdEa ctEa), slEa⟩) (cEa : PySem.W.codeIn K cdEa "Eye.alike" = true) (kEa : PySem.W.keepIn K (.ref fEa) = true)
    (aEd : PySem.W.findIn K (.ref EY) "differ" = some (some (.ref fEd))) (iEd : PySem.W.isFn K (.ref fEd) = true) (lEd : K.lookup fEd = some ⟨ocEd, odEd, .func (PySem.W.fnOf "differ" "Eye.differ" (defArgs sEyeDiffer) (defBody sEyeDiffer) (defScope sEyeDiffer) .none kVEd dcEd pmEd anEd cdEd ctEd), slEd⟩) (cEd : PySem.W.codeIn K cdEd "Eye.differ" = true) (kEd : PySem.W.keepIn K (.ref fEd) = true)
    (lT : K.lookup T0 = some ⟨cT, oT, .seq #[.ref e0] nT, sT⟩) (lE0 : K.lookup e0 = some ⟨.type "tuple", oE, .seq #[] nE, sE⟩) (aNr : PySem.W.nsIn K mainGlobals "_NO_RUN" = some (some (.ref r0))) (lNr : K.lookup r0 = some ⟨.type "tuple", oN, .seq #[.int (-1) u1, .int 0 u2] nN, sN⟩)
    (pg1c : PySem.W.plainGet K C Str.empty = true) (hd1c : PySem.W.hasDictIn K C = true) (po1c : PySem.W.plainOver K C = true) (sa1c : PySem.W.findIn K (.ref C) "__setattr__" = some (some (.builtin "object.__setattr__"))) (mk1c : PySem.W.makesIn K C = true) (kp1c : PySem.W.keepIn K (.ref C) = true) (n1c1 : PySem.W.findIn K (.ref C) "_writers" = some none) (n1c2 : PySem.W.findIn K (.ref C) "_found" = some none)
    (pg3c : PySem.W.plainGet K EY Str.empty = true) (hd3c : PySem.W.hasDictIn K EY = true) (po3c : PySem.W.plainOver K EY = true) (sa3c : PySem.W.findIn K (.ref EY) "__setattr__" = some (some (.builtin "object.__setattr__"))) (mk3c : PySem.W.makesIn K EY = true) (kp3c : PySem.W.keepIn K (.ref EY) = true) (n3c1 : PySem.W.findIn K (.ref EY) "_who" = some none) (n3c2 : PySem.W.findIn K (.ref EY) "_stamped" = some none)
    (aZ : PySem.W.nsIn K mainGlobals "is_doubt" = some (some (.ref fZ))) (lZ : K.lookup fZ = some ⟨ocZ, odZ, .func (PySem.W.fnOf "is_doubt" "is_doubt" (defArgs sIsDoubt) (defBody sIsDoubt) (defScope sIsDoubt) .none (.ref DT) dcZ pmZ anZ cdZ ctZ), slZ⟩) (cZ : PySem.W.codeIn K cdZ "is_doubt" = true) (kZ : PySem.W.keepIn K (.ref fZ) = true) (nZ1 : PySem.W.nsIn K DT "who" = some (some .none)) (nZ2 : PySem.W.nsIn K DT "stamps" = some (some (.ref e9))) :
    ∃ fd : FuncData, (∀ (s : Shared) (v : Value), BindsTo s fd ⟨[v], []⟩ [("_law_script", v)]) ∧ ∀ base : Heap, K.In base → base.Ns mainGlobals mg → FnOk l.prog w K mg base CX0 9 fa fd ["_law_script"] (spLaw K) := by
  have e := hfa.symm.trans (PySem.W.mg_of X G a41)
  cases e
  have F1 := fun_mk (st := sIsName) l1 c1 k1
  have F2 := fun_mk (st := sIsSign) l2 c2 k2
  have F3 := fun_mk (st := sIsWriter) l3 c3 k3
  have F4 := fun_mk (st := sIsCount) l4 c4 k4
  have F5 := fun_mk (st := sIsPlace) l5 c5 k5
  have F6 := fun_mk (st := sAreArrows) l6 c6 k6
  have F7 := fun_mk (st := sMinds) l7 c7 k7
  have F8 := fun_mk (st := sMayWrite) l8 c8 k8
  have F9 := fun_mk (st := sBehind) l9 c9 k9
  have F10 := fun_mk (st := sStepsOf) l10 c10 k10
  have F11 := fun_mk (st := sLBag) l11 c11 k11
  have F12 := fun_mk (st := sLPull) l12 c12 k12
  have F13 := fun_mk (st := sLOf) l13 c13 k13
  have F14 := fun_mk (st := sLLetters) l14 c14 k14
  have F15 := fun_mk (st := sLLike) l15 c15 k15
  have F16 := fun_mk (st := sLNames) l16 c16 k16
  have F17 := fun_mk (st := sLSigns) l17 c17 k17
  have F18 := fun_mk (st := sLWriter) l18 c18 k18
  have F19 := fun_mk (st := sLArrows) l19 c19 k19
  have F20 := fun_mk (st := sLBegin) l20 c20 k20
  have F21 := fun_mk (st := sLWaitsCount) l21 c21 k21
  have F22 := fun_mk (st := sLCan) l22 c22 k22
  have F23 := fun_mk (st := sLAfter) l23 c23 k23
  have F24 := fun_mk (st := sLSteps) l24 c24 k24
  have F25 := fun_mk (st := sLCompany) l25 c25 k25
  have F26 := fun_mk (st := sNeedCompany) l26 c26 k26
  have F27 := fun_mk (st := sLWays) l27 c27 k27
  have F28 := fun_mk (st := sLAlike) l28 c28 k28
  have F29 := fun_mk (st := sLDiffers) l29 c29 k29
  have F30 := fun_mk (st := sLTwinSteps) l30 c30 k30
  have F31 := fun_mk (st := sLKinds) l31 c31 k31
  have F32 := fun_mk (st := sLFilled) l32 c32 k32
  have F33 := fun_mk (st := sLTight) l33 c33 k33
  have F34 := fun_mk (st := sLTakingTurns) l34 c34 k34
  have F35 := fun_mk (st := sLDelayed) l35 c35 k35
  have F36 := fun_mk (st := sLWalked) l36 c36 k36
  have F37 := fun_mk (st := sLDoubtOk) l37 c37 k37
  have F38 := fun_mk (st := sLTwinRows) l38 c38 k38
  have F39 := fun_mk (st := sAreAlike) l39 c39 k39
  have F40 := fun_mk (st := sStandsAlong) l40 c40 k40
  have F41 := fun_mk (st := sLaw) l41 c41 k41
  have b1 := F1.binds (ps := ["text"]) fun _ _ _ _ _ _ us hl => match us, hl with | [_], _ => rfl
  have b2 := F2.binds (ps := ["text"]) fun _ _ _ _ _ _ us hl => match us, hl with | [_], _ => rfl
  have b3 := F3.binds (ps := ["thing"]) fun _ _ _ _ _ _ us hl => match us, hl with | [_], _ => rfl
  have b4 := F4.binds (ps := ["number"]) fun _ _ _ _ _ _ us hl => match us, hl with | [_], _ => rfl
  have b5 := F5.binds (ps := ["number"]) fun _ _ _ _ _ _ us hl => match us, hl with | [_], _ => rfl
  have b6 := F6.binds (ps := ["arrows"]) fun _ _ _ _ _ _ us hl => match us, hl with | [_], _ => rfl
  have b7 := F7.binds (ps := ["writers", "stand", "at"]) fun _ _ _ _ _ _ us hl => match us, hl with | [_, _, _], _ => rfl
  have b8 := F8.binds (ps := ["writers", "stand", "at"]) fun _ _ _ _ _ _ us hl => match us, hl with | [_, _, _], _ => rfl
  have b9 := F9.binds (ps := ["writers", "stand", "at", "to"]) fun _ _ _ _ _ _ us hl => match us, hl with | [_, _, _, _], _ => rfl
  have b10 := F10.binds (ps := ["writers", "stand"]) fun _ _ _ _ _ _ us hl => match us, hl with | [_, _], _ => rfl
  have b11 := F11.binds (ps := ["_law_script"]) fun _ _ _ _ _ _ us hl => match us, hl with | [_], _ => rfl
  have b12 := F12.binds (ps := ["_law_bag_here", "_law_many"]) fun _ _ _ _ _ _ us hl => match us, hl with | [_, _], _ => rfl
  have b13 := F13.binds (ps := ["_law_bag_here", "_law_things"]) fun _ _ _ _ _ _ us hl => match us, hl with | [_, _], _ => rfl
  have b14 := F14.binds (ps := []) fun _ _ _ _ _ _ us hl => match us, hl with | [], _ => rfl
  have b15 := F15.binds (ps := ["_law_found", "_law_due"]) fun _ _ _ _ _ _ us hl => match us, hl with | [_, _], _ => rfl
  have b16 := F16.binds (ps := ["_law_bag_here", "_law_many"]) fun _ _ _ _ _ _ us hl => match us, hl with | [_, _], _ => rfl
  have b17 := F17.binds (ps := ["_law_bag_here", "_law_limit"]) fun _ _ _ _ _ _ us hl => match us, hl with | [_, _], _ => rfl
  have b18 := F18.binds (ps := ["_law_bag_here", "_law_name", "_law_places", "_law_signs_here", "_law_thick"]) fun _ _ _ _ _ _ us hl => match us, hl with | [_, _, _, _, _], _ => rfl
  have b19 := F19.binds (ps := ["_law_writer_here", "_law_place"]) fun _ _ _ _ _ _ us hl => match us, hl with | [_, _], _ => rfl
  have b20 := F20.binds (ps := ["_law_m"]) fun _ _ _ _ _ _ us hl => match us, hl with | [_], _ => rfl
  have b21 := F21.binds (ps := ["_law_m", "_law_places", "_law_at"]) fun _ _ _ _ _ _ us hl => match us, hl with | [_, _, _], _ => rfl
  have b22 := F22.binds (ps := ["_law_m", "_law_stand", "_law_spot"]) fun _ _ _ _ _ _ us hl => match us, hl with | [_, _, _], _ => rfl
  have b23 := F23.binds (ps := ["_law_m", "_law_stand", "_law_spot", "_law_to"]) fun _ _ _ _ _ _ us hl => match us, hl with | [_, _, _, _], _ => rfl
  have b24 := F24.binds (ps := ["_law_m", "_law_stand"]) fun _ _ _ _ _ _ us hl => match us, hl with | [_, _], _ => rfl
  have b25 := F25.binds (ps := ["_law_bag_here", "_law_limit", "_law_signs_here"]) fun _ _ _ _ _ _ us hl => match us, hl with | [_, _, _], _ => rfl
  have b26 := F26.binds (ps := ["writers"]) fun _ _ _ _ _ _ us hl => match us, hl with | [_], _ => rfl
  have b27 := F27.binds (ps := ["_law_m", "_law_limit"]) fun _ _ _ _ _ _ us hl => match us, hl with | [_, _], _ => rfl
  have b28 := F28.binds (ps := ["_law_one", "_law_other", "_law_sign", "_law_marked"]) fun _ _ _ _ _ _ us hl => match us, hl with | [_, _, _, _], _ => rfl
  have b29 := F29.binds (ps := ["_law_one", "_law_other", "_law_own"]) fun _ _ _ _ _ _ us hl => match us, hl with | [_, _, _], _ => rfl
  have b30 := F30.binds (ps := ["_law_m", "_law_pair", "_law_marked"]) fun _ _ _ _ _ _ us hl => match us, hl with | [_, _, _], _ => rfl
  have b31 := F31.binds (ps := ["_law_bag_here", "_law_m", "_law_letters_here"]) fun _ _ _ _ _ _ us hl => match us, hl with | [_, _, _], _ => rfl
  have b32 := F32.binds (ps := ["_law_writer_here", "_law_letters_here"]) fun _ _ _ _ _ _ us hl => match us, hl with | [_, _], _ => rfl
  have b33 := F33.binds (ps := ["_law_bag_here", "_law_letters_here", "_law_limit"]) fun _ _ _ _ _ _ us hl => match us, hl with | [_, _, _], _ => rfl
  have b34 := F34.binds (ps := ["_law_bag_here", "_law_letters_here"]) fun _ _ _ _ _ _ us hl => match us, hl with | [_, _], _ => rfl
  have b35 := F35.binds (ps := ["_law_bag_here", "_law_letters_here", "_law_limit"]) fun _ _ _ _ _ _ us hl => match us, hl with | [_, _, _], _ => rfl
  have b36 := F36.binds (ps := ["_law_m", "_law_strip", "_law_names_here"]) fun _ _ _ _ _ _ us hl => match us, hl with | [_, _, _], _ => rfl
  have b37 := F37.binds (ps := ["_law_m", "_law_strip", "_law_one", "_law_other", "_law_many", "_law_own", "_law_marked"]) fun _ _ _ _ _ _ us hl => match us, hl with | [_, _, _, _, _, _, _], _ => rfl
  have b38 := F38.binds (ps := ["_law_bag_here", "_law_m", "_law_limit"]) fun _ _ _ _ _ _ us hl => match us, hl with | [_, _, _], _ => rfl
  have b39 := F39.binds (ps := ["company", "eye", "strip", "one", "other"]) fun _ _ _ _ _ _ us hl => match us, hl with | [_, _, _, _, _], _ => rfl
  have b40 := F40.binds (ps := ["company", "strip", "names"]) fun _ _ _ _ _ _ us hl => match us, hl with | [_, _, _], _ => rfl
  have T : Txt mg := ⟨PySem.W.mg_none_of X G z1, PySem.W.mg_none_of X G z2, PySem.W.mg_none_of X G z3, PySem.W.mg_none_of X G z4, PySem.W.mg_none_of X G z5, PySem.W.mg_none_of X G z6, PySem.W.mg_none_of X G z7, PySem.W.mg_none_of X G z8, PySem.W.mg_none_of X G z9, PySem.W.mg_none_of X G z10, PySem.W.mg_none_of X G z11, PySem.W.mg_none_of X G z12, PySem.W.mg_none_of X G z13, PySem.W.mg_none_of X G z14, PySem.W.mg_none_of X G z15, ⟨_, PySem.W.mg_of X G y1⟩, ⟨_, PySem.W.mg_of X G y2⟩, ⟨_, PySem.W.mg_of X G y3⟩, ⟨_, PySem.W.mg_of X G y4⟩, ⟨_, PySem.W.mg_of X G y5⟩⟩
  refine ⟨PySem.W.fnOf "law" "law" (defArgs sLaw) (defBody sLaw) (defScope sLaw) .none kV41 dc41 pm41 an41 cd41 ct41, fun s v => .of_eq rfl, fun base _ _ => ?_⟩
  have Z : CoC K C := ⟨⟨pg1c, hd1c, po1c, sa1c⟩, n1c1, n1c2⟩
  have G__NO_RUN : GlobT K mg "_NO_RUN" (.tuple [.int (-1), .int 0]) := ⟨r0, PySem.W.mg_of X G aNr, fun H => .tup (show SqT K H r0 [.int (-1), .int 0] from .inr ⟨_, _, _, lNr, rfl, rfl, (by show 2 ≤ sizeLine; decide), .cons ⟨u1, rfl⟩ (.cons ⟨u2, rfl⟩ .nil)⟩) (.cons (.int _) (.cons (.int _) .nil))⟩
  have MI : Mk K C fA := ⟨mk1c, aA, iA, kp1c⟩
  have FI : FunD K "__init__" "Company.__init__" (defArgs sCompanyInit) (defBody sCompanyInit) (defScope sCompanyInit) [.ref e0] [] fA _ := ⟨⟨_, _, _, _, _, _, _, _, _, _, rfl, lA, cA, .inr ⟨by simp, T0, _, [.ref e0], _, rfl, lT, rfl, .cons rfl .nil⟩, .inl rfl⟩, kA⟩
  have bI2 := FI.binds1 (ps := ["self", "writers"]) 2 1 (by simp) rfl fun _ _ _ _ _ _ _ us its h1 h2 => match us, its, h1, h2 with | [_, _], [_], _, _ => ⟨_, rfl, rfl⟩
  have YE : EyC K EY := ⟨⟨pg3c, hd3c, po3c, sa3c⟩, n3c1, n3c2⟩
  have ME : Mk K EY fEi := ⟨mk3c, aEi, iEi, kp3c⟩
  have FNEi := fun_mk (st := sEyeInit) lEi cEi kEi
  have bNEi := FNEi.binds (ps := ["self", "who", "stamps"]) fun _ _ _ _ _ _ us hl => match us, hl with | [_, _, _], _ => rfl
  have KEy : ∀ k, 1 ≤ k → MakC l.prog w K mg base k "Eye" EY ["self", "who", "stamps"] [] (spEye l.prog w K EY) := fun k hk => ⟨fEi, _, _, (ok_eye (k := 0) FNEi T YE).mono hk, ME, PySem.W.mg_of X G aEY, bNEi, .nil⟩
  have FNB := fun_mk (st := sCompanyBegin) lB cB kB
  have bNB := FNB.binds (ps := ["self"]) fun _ _ _ _ _ _ us hl => match us, hl with | [_], _ => rfl
  have FND := fun_mk (st := sCompanySteps) lD cD kD
  have bND := FND.binds (ps := ["self", "stand"]) fun _ _ _ _ _ _ us hl => match us, hl with | [_, _], _ => rfl
  have FNEf := fun_mk (st := sEyeFree) lEf cEf kEf
  have bNEf := FNEf.binds (ps := ["self", "name", "sign"]) fun _ _ _ _ _ _ us hl => match us, hl with | [_, _, _], _ => rfl
  have FNEa := fun_mk (st := sEyeAlike) lEa cEa kEa
  have bNEa := FNEa.binds (ps := ["self", "sign", "one", "other"]) fun _ _ _ _ _ _ us hl => match us, hl with | [_, _, _, _], _ => rfl
  have FNEd := fun_mk (st := sEyeDiffer) lEd cEd kEd
  have bNEd := FNEd.binds (ps := ["self", "one", "other"]) fun _ _ _ _ _ _ us hl => match us, hl with | [_, _, _], _ => rfl
  have C_law_pull : Cal l.prog w K mg base 1 "_law_pull" _ _ := ⟨_, _, ok_pull F12 T, PySem.W.mg_of X G a12, F12.kp, b12⟩
  have C_law_bag : Cal l.prog w K mg base 1 "_law_bag" _ _ := ⟨_, _, ok_bag F11 T, PySem.W.mg_of X G a11, F11.kp, b11⟩
  have C_law_letters : Cal l.prog w K mg base 1 "_law_letters" _ _ := ⟨_, _, ok_letters F14, PySem.W.mg_of X G a14, F14.kp, b14⟩
  have C_is_sign : Cal l.prog w K mg base 1 "is_sign" _ _ := ⟨_, _, ok_is_sign F2 T, PySem.W.mg_of X G a2, F2.kp, b2⟩
  have C_is_count : Cal l.prog w K mg base 1 "_is_count" _ _ := ⟨_, _, ok_count F4 T, PySem.W.mg_of X G a4, F4.kp, b4⟩
  have C_is_place : Cal l.prog w K mg base 1 "_is_place" _ _ := ⟨_, _, ok_place F5 T, PySem.W.mg_of X G a5, F5.kp, b5⟩
  have C_minds : Cal l.prog w K mg base 1 "_minds" _ _ := ⟨_, _, ok_minds F7, PySem.W.mg_of X G a7, F7.kp, b7⟩
  have C_law_arrows : Cal l.prog w K mg base 1 "_law_arrows" _ _ := ⟨_, _, ok_arrs F19, PySem.W.mg_of X G a19, F19.kp, b19⟩
  have C_law_begin : Cal l.prog w K mg base 1 "_law_begin" _ _ := ⟨_, _, ok_lbegin F20 T, PySem.W.mg_of X G a20, F20.kp, b20⟩
  have C_law_of : Cal l.prog w K mg base 2 "_law_of" _ _ := ⟨_, _, ok_of F13 T C_law_pull, PySem.W.mg_of X G a13, F13.kp, b13⟩
  have C_is_name : Cal l.prog w K mg base 2 "is_name" _ _ := ⟨_, _, ok_is_name F1 T C_is_sign, PySem.W.mg_of X G a1, F1.kp, b1⟩
  have C_are_arrows : Cal l.prog w K mg base 2 "_are_arrows" _ _ := ⟨_, _, ok_areD F6 T C_is_place C_is_sign, PySem.W.mg_of X G a6, F6.kp, b6⟩
  have C_may_write : Cal l.prog w K mg base 2 "_may_write" _ _ := ⟨_, _, ok_may F8 T C_minds, PySem.W.mg_of X G a8, F8.kp, b8⟩
  have C_behind : Cal l.prog w K mg base 2 "_behind" _ _ := ⟨_, _, ok_behind F9 T G__NO_RUN C_minds, PySem.W.mg_of X G a9, F9.kp, b9⟩
  have C_law_waits_count : Cal l.prog w K mg base 2 "_law_waits_count" _ _ := ⟨_, _, ok_counts F21 C_law_arrows, PySem.W.mg_of X G a21, F21.kp, b21⟩
  have C_law_like := cal_like (P := l.prog) (w := w) (base := base) F15 T (PySem.W.mg_of X G a15) b15 5
  have C_is_writer : Cal l.prog w K mg base 3 "is_writer" _ _ := ⟨_, _, ok_is_writerD F3 T C_is_name C_are_arrows (C_is_count.mono (by decide)), PySem.W.mg_of X G a3, F3.kp, b3⟩
  have C_steps_of : Cal l.prog w K mg base 3 "_steps_of" _ _ := ⟨_, _, ok_steps_of F10 T C_may_write C_behind, PySem.W.mg_of X G a10, F10.kp, b10⟩
  have C_law_names : Cal l.prog w K mg base 3 "_law_names" _ _ := ⟨_, _, ok_names F16 T (C_law_pull.mono (by decide)) C_law_of (C_law_letters.mono (by decide)), PySem.W.mg_of X G a16, F16.kp, b16⟩
  have C_law_signs : Cal l.prog w K mg base 3 "_law_signs" _ _ := ⟨_, _, ok_signs F17 T (C_law_pull.mono (by decide)) C_law_of (C_law_letters.mono (by decide)), PySem.W.mg_of X G a17, F17.kp, b17⟩
  have C_law_writer : Cal l.prog w K mg base 3 "_law_writer" _ _ := ⟨_, _, ok_writer F18 T (C_law_pull.mono (by decide)) C_law_of, PySem.W.mg_of X G a18, F18.kp, b18⟩
  have C_law_can : Cal l.prog w K mg base 3 "_law_can" _ _ := ⟨_, _, ok_can F22 T C_law_waits_count, PySem.W.mg_of X G a22, F22.kp, b22⟩
  have C_law_after : Cal l.prog w K mg base 3 "_law_after" _ _ := ⟨_, _, ok_after F23 T C_law_waits_count, PySem.W.mg_of X G a23, F23.kp, b23⟩
  have C_need_L : Cal l.prog w K mg base 4 "_need_company" _ _ := ⟨_, _, ok_needL F26 T C_is_writer, PySem.W.mg_of X G a26, F26.kp, b26⟩
  have C_need_T : Cal l.prog w K mg base 4 "_need_company" _ _ := ⟨_, _, ok_needT F26 T C_is_writer, PySem.W.mg_of X G a26, F26.kp, b26⟩
  have C_law_company : Cal l.prog w K mg base 4 "_law_company" _ _ := ⟨_, _, ok_company F25 T (C_law_pull.mono (by decide)) (C_law_of.mono (by decide)) C_law_names C_law_writer, PySem.W.mg_of X G a25, F25.kp, b25⟩
  have C_law_steps : Cal l.prog w K mg base 4 "_law_steps" _ _ := ⟨_, _, ok_lsteps F24 T C_law_can (C_law_arrows.mono (by decide)) C_law_after, PySem.W.mg_of X G a24, F24.kp, b24⟩
  have KCo : ∀ k, 5 ≤ k → MakC l.prog w K mg base k "Company" C ["self", "writers"] [] (spInitD l.prog w K C .list) := fun k hk => by
    obtain ⟨ds, hv, b⟩ := bI2
    exact ⟨fA, _, ds, (ok_initD FI T Z (.inl rfl) C_need_L).mono hk, MI, PySem.W.mg_of X G aC, b, hv⟩
  have KCT : MakC l.prog w K mg base 5 "Company" C ["self", "writers"] [] (spInitD l.prog w K C .tuple) := by
    obtain ⟨ds, hv, b⟩ := bI2
    exact ⟨fA, _, ds, ok_initD FI T Z (.inr rfl) C_need_T, MI, PySem.W.mg_of X G aC, b, hv⟩
  have MSt : MetC l.prog w K mg base 4 C "steps" ["self", "stand"] (spStepsD l.prog w K C) := ⟨fD, _, ok_stepsD FND T Z C_steps_of, ⟨aD, iD, kD⟩, Z.cl, bND⟩
  have MBe : ∀ k, 1 ≤ k → MetC l.prog w K mg base k C "begin" ["self"] (spBegin l.prog w K C) := fun k hk => ⟨fB, _, (ok_begin (k := 0) FNB T Z G__NO_RUN).mono hk, ⟨aB, iB, kB⟩, Z.cl, bNB⟩
  have C_law_ways : Cal l.prog w K mg base 5 "_law_ways" _ _ := ⟨_, _, ok_ways F27 T (C_law_begin.mono (by decide)) C_law_steps, PySem.W.mg_of X G a27, F27.kp, b27⟩
  have C_law_alike : Cal l.prog w K mg base 1 "_law_alike" _ _ := ⟨_, _, ok_lalike (k := 0) F28 T, PySem.W.mg_of X G a28, F28.kp, b28⟩
  have C_law_differs : Cal l.prog w K mg base 1 "_law_differs" _ _ := ⟨_, _, ok_ldiffers (k := 0) F29 T, PySem.W.mg_of X G a29, F29.kp, b29⟩
  have C_law_twin_steps : Cal l.prog w K mg base 5 "_law_twin_steps" _ _ := ⟨_, _, ok_ltwin F30 T C_law_steps (C_law_alike.mono (by decide)), PySem.W.mg_of X G a30, F30.kp, b30⟩
  have C_law_kinds : Cal l.prog w K mg base 3 "_law_kinds" _ _ := ⟨_, _, ok_kinds F31 T (C_law_pull.mono (by decide)) C_law_of, PySem.W.mg_of X G a31, F31.kp, b31⟩
  have C_law_filled : Cal l.prog w K mg base 1 "_law_filled" _ _ := ⟨_, _, ok_filled (k := 0) F32 T, PySem.W.mg_of X G a32, F32.kp, b32⟩
  have C_law_tight : Cal l.prog w K mg base 6 "_law_tight" _ _ := ⟨_, _, ok_tight (k := 5) F33 T (C_law_pull.mono (by decide)) (C_law_company.mono (by decide)) (C_law_filled.mono (by decide)) C_law_ways, PySem.W.mg_of X G a33, F33.kp, b33⟩
  have C_law_taking_turns : Cal l.prog w K mg base 4 "_law_taking_turns" _ _ := ⟨_, _, ok_turns (k := 3) F34 T (C_law_pull.mono (by decide)) (C_law_of.mono (by decide)) C_law_names, PySem.W.mg_of X G a34, F34.kp, b34⟩
  have C_law_delayed : Cal l.prog w K mg base 7 "_law_delayed" _ _ := ⟨_, _, ok_delayed (k := 6) F35 T (C_law_pull.mono (by decide)) C_law_tight (C_law_taking_turns.mono (by decide)) (C_law_ways.mono (by decide)), PySem.W.mg_of X G a35, F35.kp, b35⟩
  have C_law_walked : Cal l.prog w K mg base 5 "_law_walked" _ _ := ⟨_, _, ok_walked (k := 4) F36 T (C_law_begin.mono (by decide)) C_law_steps, PySem.W.mg_of X G a36, F36.kp, b36⟩
  have C_law_doubt_ok : Cal l.prog w K mg base 6 "_law_doubt_ok" _ _ := ⟨_, _, ok_doubtok (k := 5) F37 T C_law_walked (C_law_alike.mono (by decide)) (C_law_differs.mono (by decide)), PySem.W.mg_of X G a37, F37.kp, b37⟩
  have C_law_twin_rows : Cal l.prog w K mg base 6 "_law_twin_rows" _ _ := ⟨_, _, ok_twinrows (k := 5) F38 T (C_law_pull.mono (by decide)) (C_law_of.mono (by decide)) (C_law_begin.mono (by decide)) C_law_twin_steps, PySem.W.mg_of X G a38, F38.kp, b38⟩
  have MFr : MetC l.prog w K mg base 4 EY "free" ["self", "name", "sign"] (spFree l.prog w K EY) := ⟨fEf, _, (ok_free (k := 0) FNEf T YE).mono (by decide), ⟨aEf, iEf, kEf⟩, YE.cl, bNEf⟩
  have MAl : MetC l.prog w K mg base 5 EY "alike" ["self", "sign", "one", "other"] (spAlike l.prog w K EY) := ⟨fEa, _, ok_alike (k := 4) FNEa T YE MFr, ⟨aEa, iEa, kEa⟩, YE.cl, bNEa⟩
  have MDf : ∀ k, 1 ≤ k → MetC l.prog w K mg base k EY "differ" ["self", "one", "other"] (spDiffer l.prog w K EY) := fun k hk => ⟨fEd, _, (ok_differ (k := 0) FNEd T YE).mono hk, ⟨aEd, iEd, kEd⟩, YE.cl, bNEd⟩
  have C_stands_along : Cal l.prog w K mg base 5 "_stands_along" _ _ := ⟨_, _, ok_along (k := 4) F40 T (MBe 4 (by decide)) MSt, PySem.W.mg_of X G a40, F40.kp, b40⟩
  have C_are_alike : Cal l.prog w K mg base 6 "_are_alike" _ _ := ⟨_, _, ok_arealike (k := 5) F39 T YE C_stands_along MAl, PySem.W.mg_of X G a39, F39.kp, b39⟩
  have FT : FunD K "is_doubt" "is_doubt" (defArgs sIsDoubt) (defBody sIsDoubt) (defScope sIsDoubt) [] [(("who" : Str), .non), (("stamps" : Str), .ref e9)] fZ _ := ⟨⟨_, _, _, _, _, _, _, _, _, _, rfl, lZ, cZ, .inl ⟨rfl, rfl⟩, .inr ⟨DT, rfl, fun q hq => by
      simp only [List.mem_cons, List.not_mem_nil, or_false] at hq
      rcases hq with rfl | rfl
      · exact ⟨_, nZ1, rfl⟩
      · exact ⟨_, nZ2, rfl⟩⟩⟩, kZ⟩
  have OT := ok_isdoubt (k := 5) FT T YE (by decide) (KEy 5 (by decide)) C_are_alike (MDf 6 (by decide))
  have CTK : CalK l.prog w K mg base 8 "is_doubt" ["company", "strip", "one", "other", "many", "who", "stamps"] 5 ["who", "stamps"] (fun vs zs => vs ++ zs) (spDoubt l.prog w K C) := by
    obtain ⟨g, kb⟩ := kb_doubt FT
    exact ⟨fZ, _, g, OT.mono (by decide), PySem.W.mg_of X G aZ, kZ, kb⟩
  have CTR : CalK l.prog w K mg base 8 "is_doubt" ["company", "strip", "one", "other", "many", "who", "stamps"] 5 ["stamps", "who"] (fun vs zs => vs ++ zs.reverse) (spDoubt l.prog w K C) := by
    obtain ⟨g, kb⟩ := kb_doubtR FT
    exact ⟨fZ, _, g, OT.mono (by decide), PySem.W.mg_of X G aZ, kZ, kb⟩
  exact ok_law32 (k := 7) F41 T (KCo 7 (by decide)) (C_law_bag.mono (by decide)) (C_law_pull.mono (by decide)) (C_law_of.mono (by decide)) (C_law_signs.mono (by decide)) (C_law_delayed.mono (by decide)) (C_law_kinds.mono (by decide)) (C_law_twin_rows.mono (by decide)) (C_law_doubt_ok.mono (by decide)) CTK CTR (C_law_like.mono (by decide))
end Ink
namespace Ink
open PySem PySem.W PySem.Calls PyProof.Rows HandSHeadRun
def loose0 : List PySem.Str := ["_wall", "InkError", "BadWriter", "Taken", "Full", "TooMany", "Eye", "is_doubt", "_are_alike", "_stands_along", "MOST_ARROWS", "MOST_COUNT", "_MOST_LETTERS", "_LAST_PLACE", "is_name", "is_sign", "is_writer", "_is_count", "_is_place", "_are_arrows", "writer_text", "MOST_WRITERS", "MOST_STANDS", "_NO_RUN", "Company", "_need_company", "_strips_to", "_steps_of", "_may_write", "_minds"]
def loose1 : List PySem.Str := ["_behind", "_law_bag", "_law_pull", "_law_of", "_law_letters", "_law_like", "_law_names", "_law_signs", "_law_writer", "_law_company", "_law_arrows", "_law_begin", "_law_waits_count", "_law_can", "_law_after", "_law_steps", "_law_ways", "_law_alike", "_law_differs", "_law_twin_steps", "_law_filled", "_law_tight", "_law_kinds", "_law_walked", "_law_doubt_ok", "_law_taking_turns", "_law_delayed", "_law_twin_rows"]
def looseAll : List PySem.Str := loose0 ++ loose1
abbrev R0 : OpenRow := OpenLaw.row PySem.Challenge.rw_whoseink_k32_doubts_judged
abbrev q0 : Program := view R0.prog [63]
end Ink
open PySem PySem.W PyProof.Rows
local macro_rules | `(tactic| o_head ($f $k $a $e)) => `(tactic| (refine Ink.head_k (r := Ink.R0) (q := Ink.q0) (K := $k) (as := $a) (ek := $e) (M := 20000) (loose := Ink.looseAll) (d := HandSHeadRun.topDef Ink.R0.prog 63) (kwd := []) (by kernel_rfl) (fun s => by kernel_rfl) (fun w os => by kernel_rfl) (by kernel_rfl) (by kernel_rfl) (by kernel_rfl) (by rfl) (by first | assumption | decide +kernel) (by decide +kernel) ⟨rfl, rfl, rfl, rfl, rfl, by decide +kernel⟩ ?_ ?_))
set_option maxHeartbeats 0 in
theorem PySem.Challenge.cw_whoseink_k32_doubts_judged_holds : PySem.Challenge.rw_whoseink_k32_doubts_judged.Holds := by
  w_on; o_law; k_head; (next => w_witness2)
  k_fill
  refine L2.walk_of (l := PySem.Challenge.rw_whoseink_k32_doubts_judged) (n := 63) (k := 9) (x := "_law_script") (CX := fun _ => L2.CX0) (sp := fun w => Ink.spLaw _) rfl (by decide) (by kernel_rfl) ⟨rfl, by decide, by decide⟩ (fun w h Y => PySem.W.kIn_of Y) ?F (fun _ _ a ns hl _ hS => ⟨a, ns, rfl, hS, hl, fun _ => rfl⟩) (fun _ _ _ _ _ h => h)
  case F =>
    intro w mg fa h KX G hmg0
    have hmg : mg ("law" : PySem.Str) = some (.ref fa) := by
      have e : (HandSHeadRun.topDef Ink.R0.prog 63).name = ("law" : PySem.Str) := by kernel_rfl
      rw [← e]
      exact hmg0
    refine' Ink.all_mk KX G hmg ?a1 ?l1 ?c1 ?k1 ?a2 ?l2 ?c2 ?k2 ?a3 ?l3 ?c3 ?k3 ?a4 ?l4 ?c4 ?k4 ?a5 ?l5 ?c5 ?k5 ?a6 ?l6 ?c6 ?k6 ?a7 ?l7 ?c7 ?k7 ?a8 ?l8 ?c8 ?k8 ?a9 ?l9 ?c9 ?k9 ?a10 ?l10 ?c10 ?k10 ?a11 ?l11 ?c11 ?k11 ?a12 ?l12 ?c12 ?k12 ?a13 ?l13 ?c13 ?k13 ?a14 ?l14 ?c14 ?k14 ?a15 ?l15 ?c15 ?k15 ?a16 ?l16 ?c16 ?k16 ?a17 ?l17 ?c17 ?k17 ?a18 ?l18 ?c18 ?k18 ?a19 ?l19 ?c19 ?k19 ?a20 ?l20 ?c20 ?k20 ?a21 ?l21 ?c21 ?k21 ?a22 ?l22 ?c22 ?k22 ?a23 ?l23 ?c23 ?k23 ?a24 ?l24 ?c24 ?k24 ?a25 ?l25 ?c25 ?k25 ?a26 ?l26 ?c26 ?k26 ?a27 ?l27 ?c27 ?k27 ?a28 ?l28 ?c28 ?k28 ?a29 ?l29 ?c29 ?k29 ?a30 ?l30 ?c30 ?k30 ?a31 ?l31 ?c31 ?k31 ?a32 ?l32 ?c32 ?k32 ?a33 ?l33 ?c33 ?k33 ?a34 ?l34 ?c34 ?k34 ?a35 ?l35 ?c35 ?k35 ?a36 ?l36 ?c36 ?k36 ?a37 ?l37 ?c37 ?k37 ?a38 ?l38 ?c38 ?k38 ?a39 ?l39 ?c39 ?k39 ?a40 ?l40 ?c40 ?k40 ?a41 ?l41 ?c41 ?k41 ?z1 ?z2 ?z3 ?z4 ?z5 ?z6 ?z7 ?z8 ?z9 ?z10 ?z11 ?z12 ?z13 ?z14 ?z15 ?y1 ?y2 ?y3 ?y4 ?y5 ?aC ?aEY ?aA ?iA ?lA ?cA ?kA ?aB ?iB ?lB ?cB ?kB ?aD ?iD ?lD ?cD ?kD ?aEi ?iEi ?lEi ?cEi ?kEi ?aEf ?iEf ?lEf ?cEf ?kEf ?aEa ?iEa ?lEa ?cEa ?kEa ?aEd ?iEd ?lEd ?cEd ?kEd ?lT ?lE0 ?aNr ?lNr ?pg1c ?hd1c ?po1c ?sa1c ?mk1c ?kp1c ?n1c1 ?n1c2 ?pg3c ?hd3c ?po3c ?sa3c ?mk3c ?kp3c ?n3c1 ?n3c2 ?aZ ?lZ ?cZ ?kZ ?nZ1 ?nZ2
    (case a1 => k_is); (case l1 => k_is); (case c1 => k_is); (case k1 => k_is); (case a2 => k_is); (case l2 => k_is)
    (case c2 => k_is); (case k2 => k_is); (case a3 => k_is); (case l3 => k_is); (case c3 => k_is); (case k3 => k_is)
    (case a4 => k_is); (case l4 => k_is); (case c4 => k_is); (case k4 => k_is); (case a5 => k_is); (case l5 => k_is)
    (case c5 => k_is); (case k5 => k_is); (case a6 => k_is); (case l6 => k_is); (case c6 => k_is); (case k6 => k_is)
    (case a7 => k_is); (case l7 => k_is); (case c7 => k_is); (case k7 => k_is); (case a8 => k_is); (case l8 => k_is)
    (case c8 => k_is); (case k8 => k_is); (case a9 => k_is); (case l9 => k_is); (case c9 => k_is); (case k9 => k_is)
    (case a10 => k_is); (case l10 => k_is); (case c10 => k_is); (case k10 => k_is); (case a11 => k_is); (case l11 => k_is)
    (case c11 => k_is); (case k11 => k_is); (case a12 => k_is); (case l12 => k_is); (case c12 => k_is); (case k12 => k_is)
    (case a13 => k_is); (case l13 => k_is); (case c13 => k_is); (case k13 => k_is); (case a14 => k_is); (case l14 => k_is)
    (case c14 => k_is); (case k14 => k_is); (case a15 => k_is); (case l15 => k_is); (case c15 => k_is); (case k15 => k_is)
    (case a16 => k_is); (case l16 => k_is); (case c16 => k_is); (case k16 => k_is); (case a17 => k_is); (case l17 => k_is)
    (case c17 => k_is); (case k17 => k_is); (case a18 => k_is); (case l18 => k_is); (case c18 => k_is); (case k18 => k_is)
    (case a19 => k_is); (case l19 => k_is); (case c19 => k_is); (case k19 => k_is); (case a20 => k_is); (case l20 => k_is)
    (case c20 => k_is); (case k20 => k_is); (case a21 => k_is); (case l21 => k_is); (case c21 => k_is); (case k21 => k_is)
    (case a22 => k_is); (case l22 => k_is); (case c22 => k_is); (case k22 => k_is); (case a23 => k_is); (case l23 => k_is)
    (case c23 => k_is); (case k23 => k_is); (case a24 => k_is); (case l24 => k_is); (case c24 => k_is); (case k24 => k_is)
    (case a25 => k_is); (case l25 => k_is); (case c25 => k_is); (case k25 => k_is); (case a26 => k_is); (case l26 => k_is)
    (case c26 => k_is); (case k26 => k_is); (case a27 => k_is); (case l27 => k_is); (case c27 => k_is); (case k27 => k_is)
    (case a28 => k_is); (case l28 => k_is); (case c28 => k_is); (case k28 => k_is); (case a29 => k_is); (case l29 => k_is)
    (case c29 => k_is); (case k29 => k_is); (case a30 => k_is); (case l30 => k_is); (case c30 => k_is); (case k30 => k_is)
    (case a31 => k_is); (case l31 => k_is); (case c31 => k_is); (case k31 => k_is); (case a32 => k_is); (case l32 => k_is)
    (case c32 => k_is); (case k32 => k_is); (case a33 => k_is); (case l33 => k_is); (case c33 => k_is); (case k33 => k_is)
    (case a34 => k_is); (case l34 => k_is); (case c34 => k_is); (case k34 => k_is); (case a35 => k_is); (case l35 => k_is)
    (case c35 => k_is); (case k35 => k_is); (case a36 => k_is); (case l36 => k_is); (case c36 => k_is); (case k36 => k_is)
    (case a37 => k_is); (case l37 => k_is); (case c37 => k_is); (case k37 => k_is); (case a38 => k_is); (case l38 => k_is)
    (case c38 => k_is); (case k38 => k_is); (case a39 => k_is); (case l39 => k_is); (case c39 => k_is); (case k39 => k_is)
    (case a40 => k_is); (case l40 => k_is); (case c40 => k_is); (case k40 => k_is); (case a41 => k_is); (case l41 => k_is)
    (case c41 => k_is); (case k41 => k_is); (case z1 => k_is); (case z2 => k_is); (case z3 => k_is); (case z4 => k_is)
    (case z5 => k_is); (case z6 => k_is); (case z7 => k_is); (case z8 => k_is); (case z9 => k_is); (case z10 => k_is)
    (case z11 => k_is); (case z12 => k_is); (case z13 => k_is); (case z14 => k_is); (case z15 => k_is); (case y1 => k_is)
    (case y2 => k_is); (case y3 => k_is); (case y4 => k_is); (case y5 => k_is); (case aC => k_is); (case aEY => k_is)
    (case aA => k_is); (case iA => k_is); (case lA => k_is); (case cA => k_is); (case kA => k_is); (case aB => k_is)
    (case iB => k_is); (case lB => k_is); (case cB => k_is); (case kB => k_is); (case aD => k_is); (case iD => k_is)
    (case lD => k_is); (case cD => k_is); (case kD => k_is); (case aEi => k_is); (case iEi => k_is); (case lEi => k_is)
    (case cEi => k_is); (case kEi => k_is); (case aEf => k_is); (case iEf => k_is); (case lEf => k_is); (case cEf => k_is)
    (case kEf => k_is); (case aEa => k_is); (case iEa => k_is); (case lEa => k_is); (case cEa => k_is); (case kEa => k_is)
    (case aEd => k_is); (case iEd => k_is); (case lEd => k_is); (case cEd => k_is); (case kEd => k_is); (case lT => k_is)
    (case lE0 => k_is); (case aNr => k_is); (case lNr => k_is); (case pg1c => k_is); (case hd1c => k_is); (case po1c => k_is)
    (case sa1c => k_is); (case mk1c => k_is); (case kp1c => k_is); (case n1c1 => k_is); (case n1c2 => k_is); (case pg3c => k_is)
    (case hd3c => k_is); (case po3c => k_is); (case sa3c => k_is); (case mk3c => k_is); (case kp3c => k_is); (case n3c1 => k_is)
    (case n3c2 => k_is); (case aZ => k_is); (case lZ => k_is); (case cZ => k_is); (case kZ => k_is); (case nZ1 => k_is)
    (case nZ2 => k_is)
