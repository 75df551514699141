import PyProof.Rows.All
import HandS.ForMost
import HandS.Walk
import HandS.IsInst
import HandS.Zip
import HandS.EndBits
import HandS.Evl
import HandS.TupAny
import HandS.Style
import HandS.TupLe
import PyProof.ExcBaseAll.LookupError
import KE.SortData
import KE.KDictKeyed
import HandS.TupMul
import KE.GoesEnum
import HandS.Star
import HandS.Defaults
import HandS.Deep
import HandS.More
import HandS.FStr
import HandS.Flow
import HandS.ForExc
import HandS.MakeKwOnly
import OpenK.KOps
import HandS.ExcIs
import HandS.ExcCtx
import HandS.Hot
import HandS.HotCalls
import HandS.ExcInitHot
import HandS.Lambda
import HandS.ExcField
import HandS.ExcInit
import KE.KExcMore
import KE.KTypeName
import HandS.EndTab
import KE.KNestM
import PySem.Challenge.RW_whoseink_k14_confessions_let
set_option Elab.async false
set_option linter.all false
set_option maxRecDepth 100000
set_option maxHeartbeats 4000000
namespace Ink
open PySem PySem.Spec PyProof.Rows L2
/-! ### a def that is called, by its module name -/
def Cal (P : Program) (w : World) (K : PySem.W.Frag) (mg : Str → Option Value) (base : Heap) (k : Nat) (x : Str) (ps : List Str) (sp : Sp) : Prop :=
  ∃ f fd, FnOk P w K mg base CX0 k f fd ps sp ∧ mg x = some (.ref f) ∧ PySem.W.keepIn K (.ref f) = true ∧ Binds K fd ps []
theorem Cal.mono {P : Program} {w : World} {K : PySem.W.Frag} {mg : Str → Option Value} {base : Heap} {j k : Nat} {x : Str} {ps : List Str} {sp : Sp} (c : Cal P w K mg base j x ps sp) (h : j ≤ k) : Cal P w K mg base k x ps sp := by
  obtain ⟨f, fd, G, g, kp, b⟩ := c
  exact ⟨f, fd, G.mono h, g, kp, b⟩
section
variable {X : Cx} {k : Nat} {x : Str} {ps : List Str} {sp : Sp} {p pos : Pos} {e : Expr} {es : List Expr} {t : TA}
theorem pe_callC (c : Cal X.prog X.w X.K X.mg X.base k x ps sp) (hr : Room k X.A) (hg : Gl X x)
    (ha : PA X (e :: es) t) (hdb : (x == ("__debug__" : Str)) = false := by decide) (he : starEach (e :: es) X.env = (false, eval e X.env) :: starEach es X.env := by rfl) (hpl : (backTo pos (starEach es X.env)).any (·.1) = false := by rfl)
    (hp : ∀ f fd, FnOk X.prog X.w X.K X.mg X.base CX0 k f fd ps sp → Passes CX0 X E0 := by exact fun _ _ _ => pass0) :
    PE X (.Call (.Name x p) (e :: es) [] pos) (tCall sp [] E0 t) := by
  obtain ⟨f, fd, G, g, kp, b⟩ := c
  exact pe_call G hr hg g kp b .nil pass0 ha hdb he hpl
theorem pe_callC0 (c : Cal X.prog X.w X.K X.mg X.base k x ps sp) (hr : Room k X.A) (hg : Gl X x) (hdb : (x == ("__debug__" : Str)) = false := by decide) :
    PE X (.Call (.Name x p) [] [] pos) (tCall sp [] E0 tNil) := by
  obtain ⟨f, fd, G, g, kp, b⟩ := c
  exact pe_call0 G hr hg g kp b .nil pass0 hdb
end
theorem pe_globI {X : Cx} {x : Str} {n : Int} {pos : Pos} (hg : Gl X x) (hm : ∃ t, X.mg x = some (.int n t)) (hd : (x == ("__debug__" : Str)) = false := by decide) : PE X (.Name x pos) (tC (.int n)) := by
  obtain ⟨t, e⟩ := hm
  exact pe_glob hg e ⟨t, rfl⟩ hd
/-! ### heaps -/
/-- all but what stands at a is as it was -/
def Keep (a : Addr) (H H' : Hp) : Prop := ∀ b o, b ≠ a → H b = some o → H' b = some o
theorem Keep.refl {a : Addr} (H : Hp) : Keep a H H := fun _ _ _ h => h
theorem Keep.trans {a : Addr} {H H1 H2 : Hp} (x : Keep a H H1) (y : Keep a H1 H2) : Keep a H H2 := fun b o n h => y b o n (x b o n h)
theorem Keep.of_same {a : Addr} {H H' : Hp} (h : Same H H') : Keep a H H' := fun b o _ e => h b o e
theorem Keep.at {a : Addr} {H : Hp} {o : HO} : Keep a H (upd H a o) := fun b _ n h => by
  rw [upd_ne n]
  exact h
theorem Keep.seq {K : PySem.W.Frag} {a b : Addr} {H H' : Hp} {xs : List V} (e : Keep a H H') (n : b ≠ a) (h : SqL K H b xs) : SqL K H' b xs := by
  rcases h with (h | ⟨o, h⟩) | h
  · exact .inl (.inl (e _ _ n h))
  · exact .inl (.inr ⟨o, e _ _ n h⟩)
  · exact .inr h
theorem same_new {H : Hp} {p : Addr} {o : HO} (h : H p = none) : Same H (upd H p o) := fun b x e => by
  rw [upd_ne (ne_of_none e h)]
  exact e
theorem same_tup {K : PySem.W.Frag} {H H' : Hp} {a : Addr} {xs : List V} (e : Same H H') (h : SqT K H a xs) : SqT K H' a xs := Evl.ex_t e h
theorem atI_of {α : Type} {xs : List α} {r : Int} {v : α} (h0 : 0 ≤ r) (h : xs[r.toNat]? = some v) : atI xs r = some v := by
  have e : ((r.toNat : Nat) : Int) = r := by omega
  rw [← e]
  exact atI_nat h
theorem walk_range0 {n : Nat} : Walk (Itr 0 n) n (fun _ => True) (YFn fun i => .int (i : Int)) :=
  walk_range.mono (fun _ h => h) fun i H x H' _ _ y => ⟨y.1, y.2.trans (by show V.int (0 + (i : Int)) = V.int (i : Int); rw [Int.zero_add])⟩
/-! ### the bag of the drawn numbers -/
def BagAt (H : Hp) (a l : Addr) : Prop := ∃ (ns : List Int) (p h s : Int), H a = some (.lst [.ref l, .int p, .int h, .int s]) ∧ H l = some (.lst (ns.map V.int)) ∧ 0 ≤ p ∧ 0 ≤ h ∧ 0 ≤ s ∧ s < 2147483563
theorem bag_ne {H : Hp} {a l : Addr} {ns : List Int} {x y z w : V} (h : H a = some (.lst [x, y, z, w])) (hx : ∀ i, x ≠ .int i) (h' : H l = some (.lst (ns.map V.int))) : l ≠ a := by
  intro e
  rw [e, h] at h'
  injection h' with h'
  injection h' with h'
  cases ns with
  | nil => cases h'
  | cons n r =>
    injection h' with h1 _
    exact hx n h1
theorem BagAt.same {H H' : Hp} {a l : Addr} (b : BagAt H a l) (e : Same H H') : BagAt H' a l := by
  obtain ⟨ns, p, h, s, h1, h2, r⟩ := b
  exact ⟨ns, p, h, s, e _ _ h1, e _ _ h2, r⟩
theorem BagAt.ne {H : Hp} {a l D : Addr} (b : BagAt H a l) (h : H D = none) : a ≠ D ∧ l ≠ D := by
  obtain ⟨ns, p, h', s, h1, h2, r⟩ := b
  exact ⟨ne_of_none h1 h, ne_of_none h2 h⟩
theorem BagAt.upd {H : Hp} {a l D : Addr} {o : HO} (b : BagAt H a l) (n : a ≠ D ∧ l ≠ D) : BagAt (upd H D o) a l := by
  obtain ⟨ns, p, h, s, h1, h2, r⟩ := b
  exact ⟨ns, p, h, s, by rw [upd_ne n.1]; exact h1, by rw [upd_ne n.2]; exact h2, r⟩
theorem Keep.mut {a D : Addr} {H H' : Hp} {o : HO} (k : Keep a H H') (h : H D = none) : Keep a H (L2.upd H' D o) := fun b u n e => by
  rw [upd_ne (ne_of_none e h)]
  exact k b u n e
theorem Keep.seqT {K : PySem.W.Frag} {a b : Addr} {H H' : Hp} {xs : List V} (e : Keep a H H') (n : b ≠ a) (h : SqT K H b xs) : SqT K H' b xs := by
  rcases h with (h | ⟨o, h⟩) | h
  · exact .inl (.inl (e _ _ n h))
  · exact .inl (.inr ⟨o, e _ _ n h⟩)
  · exact .inr h
/-- the bag's own list, written anew -/
theorem BagAt.set {H : Hp} {a l : Addr} {ns : List Int} {p h s p' h' s' : Int} (h1 : H a = some (.lst [.ref l, .int p, .int h, .int s])) (h2 : H l = some (.lst (ns.map V.int)))
    (r : 0 ≤ p' ∧ 0 ≤ h' ∧ 0 ≤ s' ∧ s' < 2147483563) : BagAt (L2.upd H a (.lst [.ref l, .int p', .int h', .int s'])) a l :=
  ⟨ns, p', h', s', upd_same, by rw [upd_ne (bag_ne h1 (fun _ => nofun) h2)]; exact h2, r⟩
def spPull : Sp := fun vs H Q _ => ∃ (a l : Addr) (m : Int), vs = [.ref a, .int m] ∧ BagAt H a l ∧ 0 < m ∧ m < 1073741824 ∧ ∀ r H', 0 ≤ r → r < m → BagAt H' a l → Keep a H H' → Q (.int r) H'
def spBag (K : PySem.W.Frag) : Sp := fun vs H Q _ => ∃ (c : Addr) (ns : List Int), vs = [.ref c] ∧ SqL K H c (ns.map V.int) ∧ ns.length ≤ 63 ∧ ∀ a l H', H a = none → BagAt H' a l → Same H H' → Q (.ref a) H'
/-- x is a list, a tuple or a text of these things, apart from the bag -/
def ItemsOf (K : PySem.W.Frag) (H : Hp) (a : Addr) (x : V) (xs : List V) : Prop := (∃ p, x = .ref p ∧ p ≠ a ∧ (SqL K H p xs ∨ SqT K H p xs)) ∨ ∃ z : Str, x = .str z ∧ xs = z.cps.toList.map fun c => .str ⟨#[c]⟩
def spOf (K : PySem.W.Frag) : Sp := fun vs H Q _ => ∃ (a l : Addr) (x : V) (xs : List V), vs = [.ref a, x] ∧ BagAt H a l ∧ ItemsOf K H a x xs ∧ 0 < xs.length ∧ xs.length ≤ 1000 ∧ ∀ v H', v ∈ xs → BagAt H' a l → Keep a H H' → Q v H'
section
variable {K : PySem.W.Frag} {σ : L2.St} {H : Hp} {Q : VK}
theorem rd_ix {i : Nat} {a : Addr} {xs : List V} {j : Nat} {v : V} (hs : σ[i]? = some (some (.ref a))) (h : SqL K H a xs) (hv : xs[j]? = some v) (q : Q v H) : tOp (rIxL K) (tVar i) (tC (.int (j : Int))) σ H Q :=
  ⟨.ref a, hs, a, xs, (j : Int), v, rfl, rfl, h, atI_nat hv, q⟩
end
end Ink
namespace Ink
open PySem PySem.Spec PyProof.Rows L2
def topS (i : Nat) : Stmt := PySem.Challenge.pw_whoseink_k14_confessions_let.main.body.getD i (.Pass ⟨0, 0, 0, 0⟩)
abbrev sIsName : Stmt := topS 17
theorem sc_is_name : FnScope ["text", "letter"] ["text"] (defScope sIsName) := ⟨rfl, rfl, rfl, by decide +kernel, rfl, by decide +kernel, by decide +kernel⟩
abbrev sIsSign : Stmt := topS 18
theorem sc_is_sign : FnScope ["text"] ["text"] (defScope sIsSign) := ⟨rfl, rfl, rfl, by decide +kernel, rfl, by decide +kernel, by decide +kernel⟩
abbrev sIsWriter : Stmt := topS 19
theorem sc_is_writer : FnScope ["thing", "name", "arrows", "patience", "cap"] ["thing"] (defScope sIsWriter) := ⟨rfl, rfl, rfl, by decide +kernel, rfl, by decide +kernel, by decide +kernel⟩
abbrev sIsCount : Stmt := topS 20
theorem sc__is_count : FnScope ["number"] ["number"] (defScope sIsCount) := ⟨rfl, rfl, rfl, by decide +kernel, rfl, by decide +kernel, by decide +kernel⟩
abbrev sIsPlace : Stmt := topS 21
theorem sc__is_place : FnScope ["number"] ["number"] (defScope sIsPlace) := ⟨rfl, rfl, rfl, by decide +kernel, rfl, by decide +kernel, by decide +kernel⟩
abbrev sAreArrows : Stmt := topS 22
theorem sc__are_arrows : FnScope ["arrows", "heads", "place", "sign", "to", "_", "head", "following"] ["arrows"] (defScope sAreArrows) := ⟨rfl, rfl, rfl, by decide +kernel, rfl, by decide +kernel, by decide +kernel⟩
abbrev sMinds : Stmt := topS 33
theorem sc__minds : FnScope ["writers", "stand", "at", "_", "arrows", "patience", "place"] ["writers", "stand", "at"] (defScope sMinds) := ⟨rfl, rfl, rfl, by decide +kernel, rfl, by decide +kernel, by decide +kernel⟩
abbrev sMayWrite : Stmt := topS 32
theorem sc__may_write : FnScope ["writers", "stand", "at", "_", "waits", "run", "cap", "others", "k"] ["writers", "stand", "at"] (defScope sMayWrite) := ⟨rfl, rfl, rfl, by decide +kernel, rfl, by decide +kernel, by decide +kernel⟩
abbrev sBehind : Stmt := topS 34
theorem sc__behind : FnScope ["writers", "stand", "at", "to", "places", "waits", "run", "then", "kept", "many", "k", "wait"] ["writers", "stand", "at", "to"] (defScope sBehind) := ⟨rfl, rfl, rfl, by decide +kernel, rfl, by decide +kernel, by decide +kernel⟩
abbrev sStepsOf : Stmt := topS 31
theorem sc__steps_of : FnScope ["writers", "stand", "moves", "at", "writer", "place", "sign", "to"] ["writers", "stand"] (defScope sStepsOf) := ⟨rfl, rfl, rfl, by decide +kernel, rfl, by decide +kernel, by decide +kernel⟩
abbrev sLBag : Stmt := topS 42
theorem sc__law_bag : FnScope ["_law_script", "_law_salt", "_law_cell"] ["_law_script"] (defScope sLBag) := ⟨rfl, rfl, rfl, by decide +kernel, rfl, by decide +kernel, by decide +kernel⟩
abbrev sLPull : Stmt := topS 43
theorem sc__law_pull : FnScope ["_law_bag_here", "_law_many", "_law_cell", "_law_got", "_law_seed"] ["_law_bag_here", "_law_many"] (defScope sLPull) := ⟨rfl, rfl, rfl, by decide +kernel, rfl, by decide +kernel, by decide +kernel⟩
abbrev sLOf : Stmt := topS 44
theorem sc__law_of : FnScope ["_law_bag_here", "_law_things"] ["_law_bag_here", "_law_things"] (defScope sLOf) := ⟨rfl, rfl, rfl, by decide +kernel, rfl, by decide +kernel, by decide +kernel⟩
abbrev sLLetters : Stmt := topS 45
theorem sc__law_letters : FnScope [] [] (defScope sLLetters) := ⟨rfl, rfl, rfl, by decide +kernel, rfl, by decide +kernel, by decide +kernel⟩
abbrev sLLike : Stmt := topS 46
theorem sc__law_like : FnScope ["_law_found", "_law_due", "_law_one", "_law_other"] ["_law_found", "_law_due"] (defScope sLLike) := ⟨rfl, rfl, rfl, by decide +kernel, rfl, by decide +kernel, by decide +kernel⟩
abbrev sLNames : Stmt := topS 50
theorem sc__law_names : FnScope ["_law_bag_here", "_law_many", "_law_size", "_law_letters_here", "_law_at", "_law_start", "_law_step", "_law_base", "_law_found", "_law_k", "_law_sign", "_law_name"] ["_law_bag_here", "_law_many"] (defScope sLNames) := ⟨rfl, rfl, rfl, by decide +kernel, rfl, by decide +kernel, by decide +kernel⟩
abbrev sLSigns : Stmt := topS 51
theorem sc__law_signs : FnScope ["_law_bag_here", "_law_limit", "_law_start", "_law_step", "_law_many", "_law_letters_here", "_law_k"] ["_law_bag_here", "_law_limit"] (defScope sLSigns) := ⟨rfl, rfl, rfl, by decide +kernel, rfl, by decide +kernel, by decide +kernel⟩
abbrev sLWriter : Stmt := topS 52
theorem sc__law_writer : FnScope ["_law_bag_here", "_law_name", "_law_places", "_law_signs_here", "_law_thick", "_law_lines", "_law_place", "_law_sign", "_law_counts"] ["_law_bag_here", "_law_name", "_law_places", "_law_signs_here", "_law_thick"] (defScope sLWriter) := ⟨rfl, rfl, rfl, by decide +kernel, rfl, by decide +kernel, by decide +kernel⟩
abbrev sNeedCompany : Stmt := topS 29
theorem sc__need_company : FnScope ["writers", "at", "writer", "names", "name"] ["writers"] (defScope sNeedCompany) := ⟨rfl, rfl, rfl, by decide +kernel, rfl, by decide +kernel, by decide +kernel⟩
abbrev sCompanyInit : Stmt := inClass (topS 28) 0
theorem sc_Company___init__ : FnScope ["self", "writers"] ["self", "writers"] (defScope sCompanyInit) := ⟨rfl, rfl, rfl, by decide +kernel, rfl, by decide +kernel, by decide +kernel⟩
abbrev sCompanyBegin : Stmt := inClass (topS 28) 7
theorem sc_Company_begin : FnScope ["self", "noughts"] ["self"] (defScope sCompanyBegin) := ⟨rfl, rfl, rfl, by decide +kernel, rfl, by decide +kernel, by decide +kernel⟩
abbrev sCompanySteps : Stmt := inClass (topS 28) 8
theorem sc_Company_steps : FnScope ["self", "stand"] ["self", "stand"] (defScope sCompanySteps) := ⟨rfl, rfl, rfl, by decide +kernel, rfl, by decide +kernel, by decide +kernel⟩
abbrev sCompanyWriters : Stmt := inClass (topS 28) 5
theorem sc_Company_writers : FnScope ["self"] ["self"] (defScope sCompanyWriters) := ⟨rfl, rfl, rfl, by decide +kernel, rfl, by decide +kernel, by decide +kernel⟩
abbrev sScrollInit : Stmt := inClass (topS 36) 0
theorem sc_Scroll___init__ : FnScope ["self", "company", "steps", "said", "step", "at", "name", "so"] ["self", "company", "steps", "said"] (defScope sScrollInit) := ⟨rfl, rfl, rfl, by decide +kernel, rfl, by decide +kernel, by decide +kernel⟩
abbrev sScrollLets : Stmt := inClass (topS 36) 5
theorem sc_Scroll_lets : FnScope ["self", "at", "name", "number", "who", "so"] ["self", "at", "name"] (defScope sScrollLets) := ⟨rfl, rfl, rfl, by decide +kernel, rfl, by decide +kernel, by decide +kernel⟩
abbrev sReadSteps : Stmt := topS 37
theorem sc__read_steps : FnScope ["steps", "at", "step"] ["steps"] (defScope sReadSteps) := ⟨rfl, rfl, rfl, by decide +kernel, rfl, by decide +kernel, by decide +kernel⟩
abbrev sIsStep : Stmt := topS 38
theorem sc__is_step : FnScope ["step"] ["step"] (defScope sIsStep) := ⟨rfl, rfl, rfl, by decide +kernel, rfl, by decide +kernel, by decide +kernel⟩
abbrev sNeedSaid : Stmt := topS 39
theorem sc__need_said : FnScope ["said", "many", "place", "at", "name", "_"] ["said", "many"] (defScope sNeedSaid) := ⟨rfl, rfl, rfl, by decide +kernel, rfl, by decide +kernel, by decide +kernel⟩
abbrev sChains : Stmt := topS 40
theorem sc__chains : FnScope ["company", "steps", "chains", "step"] ["company", "steps"] (defScope sChains) := ⟨rfl, rfl, rfl, by decide +kernel, rfl, by decide +kernel, by decide +kernel⟩
abbrev sLArrows : Stmt := topS 54
theorem sc__law_arrows : FnScope ["_law_writer_here", "_law_place", "_law_at", "_law_sign", "_law_to"] ["_law_writer_here", "_law_place"] (defScope sLArrows) := ⟨rfl, rfl, rfl, by decide +kernel, rfl, by decide +kernel, by decide +kernel⟩
abbrev sLBegin : Stmt := topS 56
theorem sc__law_begin : FnScope ["_law_m"] ["_law_m"] (defScope sLBegin) := ⟨rfl, rfl, rfl, by decide +kernel, rfl, by decide +kernel, by decide +kernel⟩
abbrev sLWaitsCount : Stmt := topS 57
theorem sc__law_waits_count : FnScope ["_law_m", "_law_places", "_law_at"] ["_law_m", "_law_places", "_law_at"] (defScope sLWaitsCount) := ⟨rfl, rfl, rfl, by decide +kernel, rfl, by decide +kernel, by decide +kernel⟩
abbrev sLCan : Stmt := topS 58
theorem sc__law_can : FnScope ["_law_m", "_law_stand", "_law_spot", "_law_places", "_law_waits", "_law_run", "_law_others", "_law_at"] ["_law_m", "_law_stand", "_law_spot"] (defScope sLCan) := ⟨rfl, rfl, rfl, by decide +kernel, rfl, by decide +kernel, by decide +kernel⟩
abbrev sLAfter : Stmt := topS 59
theorem sc__law_after : FnScope ["_law_m", "_law_stand", "_law_spot", "_law_to", "_law_places", "_law_waits", "_law_run", "_law_later", "_law_many", "_law_fresh_here", "_law_at", "_law_wait"] ["_law_m", "_law_stand", "_law_spot", "_law_to"] (defScope sLAfter) := ⟨rfl, rfl, rfl, by decide +kernel, rfl, by decide +kernel, by decide +kernel⟩
abbrev sLSteps : Stmt := topS 60
theorem sc__law_steps : FnScope ["_law_m", "_law_stand", "_law_found", "_law_spot", "_law_some", "_law_sign", "_law_to", "_law_later"] ["_law_m", "_law_stand"] (defScope sLSteps) := ⟨rfl, rfl, rfl, by decide +kernel, rfl, by decide +kernel, by decide +kernel⟩
abbrev sLCompany : Stmt := topS 53
theorem sc__law_company : FnScope ["_law_bag_here", "_law_limit", "_law_signs_here", "_law_thick", "_law_found", "_law_name"] ["_law_bag_here", "_law_limit", "_law_signs_here"] (defScope sLCompany) := ⟨rfl, rfl, rfl, by decide +kernel, rfl, by decide +kernel, by decide +kernel⟩
abbrev sLFresh : Stmt := topS 61
theorem sc__law_fresh : FnScope ["_law_names_here", "_law_name"] ["_law_names_here"] (defScope sLFresh) := ⟨rfl, rfl, rfl, by decide +kernel, rfl, by decide +kernel, by decide +kernel⟩
abbrev sLCarried : Stmt := topS 62
theorem sc__law_carried : FnScope ["_law_one", "_law_other", "_law_stand", "_law_places", "_law_waits", "_law_run", "_law_spots", "_law_fresh_here", "_law_later", "_law_writer_here", "_law_spot"] ["_law_one", "_law_other", "_law_stand"] (defScope sLCarried) := ⟨rfl, rfl, rfl, by decide +kernel, rfl, by decide +kernel, by decide +kernel⟩
abbrev sLParts : Stmt := topS 63
theorem sc__law_parts : FnScope ["_law_m", "_law_track", "_law_signs_here", "_law_crews", "_law_step"] ["_law_m", "_law_track"] (defScope sLParts) := ⟨rfl, rfl, rfl, by decide +kernel, rfl, by decide +kernel, by decide +kernel⟩
abbrev sLBroken : Stmt := topS 64
theorem sc__law_broken : FnScope ["_law_talk", "_law_at", "_law_name", "_law_sign", "_law_other", "_law_yes"] ["_law_talk", "_law_at", "_law_name"] (defScope sLBroken) := ⟨rfl, rfl, rfl, by decide +kernel, rfl, by decide +kernel, by decide +kernel⟩
abbrev sLSaidDrawn : Stmt := topS 65
theorem sc__law_said_drawn : FnScope ["_law_bag_here", "_law_many", "_law_names_here", "_law_limit", "_law_found", "_law_k", "_law_name"] ["_law_bag_here", "_law_many", "_law_names_here", "_law_limit"] (defScope sLSaidDrawn) := ⟨rfl, rfl, rfl, by decide +kernel, rfl, by decide +kernel, by decide +kernel⟩
abbrev sLStepsDrawn : Stmt := topS 66
theorem sc__law_steps_drawn : FnScope ["_law_bag_here", "_law_m", "_law_letters_here", "_law_limit", "_law_stand", "_law_crew", "_law_found", "_law_k", "_law_some", "_law_full", "_law_fresh_here", "_law_step"] ["_law_bag_here", "_law_m", "_law_letters_here", "_law_limit"] (defScope sLStepsDrawn) := ⟨rfl, rfl, rfl, by decide +kernel, rfl, by decide +kernel, by decide +kernel⟩
abbrev sLOtherCrew : Stmt := topS 67
theorem sc__law_other_crew : FnScope ["_law_bag_here", "_law_m", "_law_found", "_law_writer_here", "_law_pick", "_law_fresh_here", "_law_name"] ["_law_bag_here", "_law_m"] (defScope sLOtherCrew) := ⟨rfl, rfl, rfl, by decide +kernel, rfl, by decide +kernel, by decide +kernel⟩
abbrev sLScrollDrawn : Stmt := topS 68
theorem sc__law_scroll_drawn : FnScope ["_law_bag_here", "_law_signs_most", "_law_steps_most", "_law_said_most", "_law_letters_here", "_law_m", "_law_track", "_law_parts_here", "_law_talk", "_law_writer_here"] ["_law_bag_here", "_law_signs_most", "_law_steps_most", "_law_said_most"] (defScope sLScrollDrawn) := ⟨rfl, rfl, rfl, by decide +kernel, rfl, by decide +kernel, by decide +kernel⟩
abbrev sLMade : Stmt := topS 69
theorem sc__law_made : FnScope ["_law_drawn"] ["_law_drawn"] (defScope sLMade) := ⟨rfl, rfl, rfl, by decide +kernel, rfl, by decide +kernel, by decide +kernel⟩
abbrev sMissingInit : Stmt := inClass (topS 9) 0
theorem sc_Missing___init__ : FnScope ["self", "told"] ["self", "told"] (defScope sMissingInit) := ⟨rfl, rfl, rfl, by decide +kernel, rfl, by decide +kernel, by decide +kernel⟩
abbrev sNosignInit : Stmt := inClass (topS 10) 0
theorem sc_NoSign___init__ : FnScope ["self", "at"] ["self", "at"] (defScope sNosignInit) := ⟨rfl, rfl, rfl, by decide +kernel, rfl, by decide +kernel, by decide +kernel⟩
abbrev sLField : Stmt := topS 47
theorem sc__law_field : FnScope ["_law_e", "_law_plain"] ["_law_e"] (defScope sLField) := ⟨rfl, rfl, rfl, by decide +kernel, rfl, by decide +kernel, by decide +kernel⟩
abbrev sLTried : Stmt := topS 48
theorem sc__law_tried : FnScope ["_law_ask", "_law_told", "_law_word", "_law_field_here", "_law_e"] ["_law_ask"] (defScope sLTried) := ⟨rfl, rfl, rfl, by decide +kernel, rfl, by decide +kernel, by decide +kernel⟩
abbrev sLRefused : Stmt := topS 49
theorem sc__law_refused : FnScope ["_law_ask"] ["_law_ask"] (defScope sLRefused) := ⟨rfl, rfl, rfl, by decide +kernel, rfl, by decide +kernel, by decide +kernel⟩
abbrev sLFar : Stmt := topS 55
theorem sc__law_far : FnScope ["_law_bag_here", "_law_near", "_law_wide", "_law_figure"] ["_law_bag_here"] (defScope sLFar) := ⟨rfl, rfl, rfl, by decide +kernel, rfl, by decide +kernel, by decide +kernel⟩
abbrev sLaw : Stmt := topS 70
theorem sc_law : FnScope ["_law_script", "_law_bag_here", "_law_turn", "_law_drawn", "_law_scroll", "_law_many", "_law_names_here", "_law_at", "_law_due", "_law_writer_here", "_law_name", "_law_yes"] ["_law_script"] (defScope sLaw) := ⟨rfl, rfl, rfl, by decide +kernel, rfl, by decide +kernel, by decide +kernel⟩
structure Txt (mg : Str → Option Value) : Prop where
  m_len : mg "len" = none
  m_all : mg "all" = none
  m_list : mg "list" = none
  m_range : mg "range" = none
  m_zip : mg "zip" = none
  m_isinstance : mg "isinstance" = none
  m_tuple : mg "tuple" = none
  m_bool : mg "bool" = none
  m_int : mg "int" = none
  m_str : mg "str" = none
  m_max : mg "max" = none
  m_sorted : mg "sorted" = none
  m_enumerate : mg "enumerate" = none
  e__MOST_LETTERS : ∃ t, mg "_MOST_LETTERS" = some (.int 6 t)
  e_MOST_ARROWS : ∃ t, mg "MOST_ARROWS" = some (.int 9 t)
  e_MOST_COUNT : ∃ t, mg "MOST_COUNT" = some (.int 3 t)
  e__LAST_PLACE : ∃ t, mg "_LAST_PLACE" = some (.int 2 t)
  e_MOST_WRITERS : ∃ t, mg "MOST_WRITERS" = some (.int 3 t)
end Ink
namespace PySem.W
open PySem PySem.Spec PySem.Calls PyProof.Rows Builtin Builtin.ObjectAttr Builtin.Getset_descriptor
section
variable {prog : Program} {w : World} {A : Around} {E : Value → Shared → Prop} {s : Shared} {K : Frag} {R : Result → Shared → Prop} {C : Addr}
/-- the kept name of an own class -/
theorem own_name_get {v : Value} {o : Obj} (X : K.In s.heap) (hC : K.lookup C = some o) (ho : (o.slots[2]?).join = some v) (ht : typeIn K (.ref C) = some (.type "type")) (h : R (.ok (.ret v)) s) :
    codeAny (model prog w) A (.call (.builtin "getset_descriptor.__get__") ⟨[.builtin "type.__name__", .ref C, .type "type"], []⟩) R s := by
  obtain ⟨hh, g, dr, t, os⟩ := s
  have L0 : Looks (model prog w) hh (typeOf (.ref C)) (.type "type") := looks_typeIn X ht
  have L1 : Looks (model prog w) hh (isSubtype (.type "type") (.type "type")) true := Looks.of_pure (by rw [isSubtype_type]; kernel_rfl)
  have hx : hh.get? C = some o := X _ _ hC
  refine codeAny_call_builtin KF.slot_gs.plain KF.entry_gs (KF.slot_gs.check _ _ _ _ _ _ _ _ ktyn_type (KF.args_gs _ _ _) ?_)
  unfold Builtin.«getset_descriptor.__get__» descrGet
  have hd : descrGetArgs ⟨[.builtin "type.__name__", .ref C, .type "type"], []⟩ = pure (.builtin "type.__name__", some (.ref C), given (.type "type")) := by kernel_rfl
  rw [hd]
  refine wpAny_bind (wpAny_pure ?_)
  unfold descrGetter descrCheckInstance descrNameAndClass isInstance
  simp only [ktyn_owner]
  repeat lk
  refine ⟨Code.quiet_builtin _ (by decide +kernel), codeAny_builtin ktyn_entry ?_⟩
  unfold Builtin.«type.__name__»
  dsimp only
  unfold keptObject PySem.slotAt
  dsimp only
  refine wpAny_bind (wpAny_bind (wpAny_loadPart hx ?_))
  refine wpAny_pure ?_
  rw [ho]
  dsimp only
  first
    | exact wpAny_pure h
    | exact wpAny_bind (wpAny_pure (wpAny_pure h))
    | exact wpAny_bind (wpAny_pure h)
/-- `C.__name__`, C an own class -/
theorem own_name_attr {expr : Bool} {Q : Value → Shared → Prop} {v : Value} {o : Obj} (X : K.In s.heap) (hC : K.lookup C = some o) (ho : (o.slots[2]?).join = some v) (hv : handedIn v = true) (ht : typeIn K (.ref C) = some (.type "type")) (hr : readsIn K C (.type "type") = true)
    (e : findCls K (.ref C) (.type "type") "__name__" = some (.get (.builtin "getset_descriptor.__get__") (.builtin "type.__name__") (.ref C) (.type "type")))
    (h : Q v { s with toks := s.toks + 1 }) : wpAny (model prog w) A (getAttr (.ref C) "__name__" expr) Q E s := by
  refine cls_bind X hr e (wpAny_call (own_name_get (s := { s with toks := s.toks + 1 }) X hC ho ht ?_))
  exact handed_on hv h
/-- `e.__class__`, e an exception of an own class, its dict none as yet -/
theorem exc_class_attr {D x : Addr} {ox : Obj} {expr : Bool} {Q : Value → Shared → Prop} (hga : findIn K (.ref D) "__getattribute__" = some (some (.builtin "BaseException.__getattribute__"))) (hgt : findIn K (.ref D) "__getattr__" = some none) (hsub : subIn K (.ref D) (.type "BaseException") = some true)
    (hdct : hasDictIn K D = true) (ha : findIn K (.ref D) "__class__" = some (some (.builtin "object.__class__")))
    (hn : specialIn K (.builtin "object.__class__") "__get__" = some (some (.builtin "getset_descriptor.__get__"))) (htk : takesIn K (.builtin "object.__class__") = some true) (hm : mroIn K D (.type "object") = some true)
    (X : K.In s.heap) (I : InstAt s.heap x ox D none) (h : Q (.ref D) { s with toks := s.toks + 1 }) : wpAny (model prog w) A (getAttr (.ref x) "__class__" expr) Q E s := by
  have hf : findObj K D none "__class__" = some (.bind (.builtin "getset_descriptor.__get__") (.builtin "object.__class__")) := findObj_dataN (by obtain ⟨cd, hc, _⟩ := any_some hdct; rw [hc]; rfl) ha hn htk
  obtain ⟨hp, g, d, t, os⟩ := s
  have L0 := I.type (M := model prog w)
  have L1 := looks_findIn (M := model prog w) X hga
  have L2 := looks_findIn (M := model prog w) X hgt
  have L3 := looks_find (M := model prog w) X I hf
  have sub : Looks (model prog w) hp (isInstance (.ref x) (.type "BaseException")) true := L0.andThen (looks_subIn X hsub)
  have hx0 : (expr && onTheHeap (Value.builtin "BaseException.__getattribute__")) = false := by cases expr <;> rfl
  have hx2 : (Value.builtin "BaseException.__getattribute__" == Value.builtin "object.__getattribute__") = false := by decide +kernel
  have hx1 : (onTheHeap (Value.ref D) && Value.builtin "BaseException.__getattribute__" == Value.builtin "object.__getattribute__") = false := by rw [hx2]; rfl
  unfold getAttr getAttrBy
  refine wpAny_bind (wpAny_mkText (wpAny_holding (wpAny_bind (L0.at (wpAny_bind (L1.at ?_))))))
  show wpAny _ _ (if (onTheHeap (Value.ref D) && Value.builtin "BaseException.__getattribute__" == Value.builtin "object.__getattribute__") = true then _ else _) _ _ _
  rw [hx1, if_neg Bool.false_ne_true]
  unfold getAttrByItsOwn hookBefore
  refine wpAny_bind ?_
  rw [if_pos (show onTheHeap (Value.ref D) = true from rfl)]
  refine L2.at ?_
  refine wpAny_bind (wpAny_attempt (wpAny_holding ?_))
  unfold callGetattribute
  rw [hx0, if_neg Bool.false_ne_true]
  unfold boundAndCalled
  rw [PySem.F.excAttr_ValueError.ga.bind (.ref x)]
  refine wpAny_bind (wpAny_pure ?_)
  show wpAny _ _ (call (.builtin "BaseException.__getattribute__") [.ref x, .str "__class__" t]) _ _ _
  refine wpAny_call (codeAny_call_builtin PySem.F.excAttr_ValueError.ga.plain PySem.F.entry_bexc_ga ?_)
  refine @check_slot (model prog w) _ _ ⟨hp, g, d, t + 1, os⟩ "BaseException.__getattribute__" "BaseException" "__getattribute__" (.ref x) [.str "__class__" t] [] _ (by decide +kernel) (by decide +kernel) sub (PySem.F.args_bexc_ga (.ref x) (.str "__class__" t)) ?_
  unfold Builtin.«object.__getattribute__»
  refine wpAny_bind (wpAny_of_eq (a := ((Value.ref x : Value), [Value.str "__class__" t])) (by first | rfl | (simp only [slotArgs]; rfl)) ?_)
  refine wpAny_bind (wpAny_pure (wpAny_bind (L0.at (wpAny_bind (L3.at ?_)))))
  show wpAny _ _ (holding [Value.builtin "object.__class__"] (call (.builtin "getset_descriptor.__get__") [.builtin "object.__class__", .ref x, .ref D]) >>= ret) _ _ _
  refine wpAny_bind (wpAny_holding (wpAny_call (class_get (s := ⟨hp, g, d, t + 1, os⟩) (ox := ox) (od := none) X I hm ?_)))
  refine wpAny_pure ?_
  show wpAny _ _ (handedOut (.ref D)) _ _ _
  rw [handedOut_of (v := .ref D) rfl]
  first
    | exact wpAny_pure h
    | exact wpAny_pure (wpAny_pure h)
    | exact wpAny_bind (wpAny_pure h)
end
end PySem.W
namespace L2
open PySem PySem.Spec PyProof.Rows
/-- what an own refusal's class says of `__class__` and `__name__` -/
structure Named (K : PySem.W.Frag) (C : Addr) (nm : Str) : Prop where
  ex : ExcC K C
  ox : OexC K C
  nm : ∃ o tk, K.lookup C = some o ∧ (o.slots[2]?).join = some (.str nm tk)
  rd : PySem.W.readsIn K C (.type "type") = true
  fd : PySem.W.findCls K (.ref C) (.type "type") "__name__" = some (.get (.builtin "getset_descriptor.__get__") (.builtin "type.__name__") (.ref C) (.type "type"))
/-- o.__class__.__name__, o a refusal that has no field yet -/
def tCN (K : PySem.W.Frag) (to : TE) : TE := fun σ H Q => to σ H fun x H1 => ∃ (a C : Addr) (nm : Str), x = .ref a ∧ Named K C nm ∧ H1 a = some (exo a C none) ∧ Q (.str nm) H1
section
variable {X : Cx} {o e : Expr} {es : List Expr} {to te : TE} {ta : TA} {p p' p1 p2 pos : Pos}
theorem pe_cname (ho : PE X o to) (h1 : attributeBase o "__class__" X.env (eval o X.env) = eval o X.env := by rfl) (h2 : attributeBase (.Attribute o "__class__" p) "__name__" X.env (eval (.Attribute o "__class__" p) X.env) = eval (.Attribute o "__class__" p) X.env := by rfl) :
    PE X (.Attribute (.Attribute o "__class__" p) "__name__" p') (tCN X.K to) := by
  refine ⟨fun pins s σ H Q I h => ?_⟩
  refine attr_of h2 (attr_of h1 (thn (ho.run pins s σ H _ I h) fun u s1 ⟨x, H1, I1, rx, a, C, nm, ex, N, ea, q⟩ => ?_))
  subst ex
  obtain rfl : u = Value.ref a := rx
  obtain ⟨t1, hoe⟩ := exo_at I1.hok ea
  obtain ⟨oc, tk, hoc, hsl⟩ := N.nm
  have T := N.ex
  refine PySem.W.exc_class_attr (ox := ({ cls := .ref C, dict := none, data := .fields #[.ref t1, .none, .none, .none, .bool false, .none] } : Obj)) T.hg T.hk T.hs T.hd T.ha T.hn T.ht T.hm I1.kIn ⟨hoe, rfl, rfl, trivial⟩ ?_
  refine PySem.W.own_name_attr (s := { s1 with toks := s1.toks + 1 }) I1.kIn hoc hsl rfl N.ox.tyC N.rd N.fd ?_
  exact ⟨.str nm, H1, (I1.tok _).tok _, ⟨tk, rfl⟩, q⟩
/-- B.__init__(e, ..), B an own class: its own def runs -/
structure OwnI (K : PySem.W.Frag) (B f : Addr) : Prop where
  ga : PySem.W.specialIn K (.ref B) "__getattribute__" = some (some (.builtin "type.__getattribute__"))
  rd : PySem.W.readsIn K B (.type "type") = true
  ty : PySem.W.typeIn K (.ref B) = some (.type "type")
  fd : PySem.W.findCls K (.ref B) (.type "type") "__init__" = some (.val (.ref f))
  kp : PySem.W.keepIn K (.ref f) = true
theorem pe_owninit {pl : Sem Bool} {x : Str} {B f : Addr} {CX : CXT} {k : Nat} {fd : FuncData} {ps : List Str} {sp : Sp} {ds : List Value} {dvs : List V} {Ex : XK} (O : OwnI X.K B f) (F : FnOk X.prog X.w X.K X.mg X.base CX k f fd ps sp) (hr : Room k X.A) (hg : Gl X x) (hm : X.mg x = some (.ref B))
    (hb : Binds X.K fd ps ds) (hd : Vals dvs ds) (hx : Passes CX X Ex) (ha : PA X (e :: es) ta) (hdb : (x == ("__debug__" : Str)) = false := by decide)
    (hc : eval (.Call (.Attribute (.Name x p1) "__init__" p2) (e :: es) [] pos) X.env = (do
      let ov ← eval (.Name x p1) X.env
      standAt p2.atName
      let (f, first) ← holding [ov] (getMethod ov "__init__" pl)
      callWith pos f first (backTo pos (starEach (e :: es) X.env)) (backToKw pos (keywordEach [] X.env))) := by rfl)
    (he : starEach (e :: es) X.env = (false, eval e X.env) :: starEach es X.env := by rfl) (hpl : (backTo pos (starEach es X.env)).any (·.1) = false := by rfl) :
    PE X (.Call (.Attribute (.Name x p1) "__init__" p2) (e :: es) [] pos) (tCall sp dvs Ex ta) := by
  refine ⟨fun pins s σ H Q I h => ?_⟩
  refine PySem.W.methodCall_KW (ld_glob I hg hm ?_ hdb) hc
  refine PySem.W.method_cls I.kIn O.ga (PySem.W.cls_value I.kIn O.rd O.fd rfl ?_)
  refine PySem.W.callWith_K (first := []) (h₀ := X.base) I.ok.mod.kin O.kp (thn (ha.run pos pins _ σ H _ (I.tok _) h) fun us s2 ⟨vs, H2, I2, r, q2⟩ => ⟨I2.kIn, ?_⟩) he hpl
  exact run_fn F hr hb hd hx I2 r q2
end
end L2
namespace PySem.OwnL
open PySem PySem.Spec PySem.Calls PyProof.Rows Builtin Builtin.ObjectAttr PySem.W PySem.HandSPX
/-! ### own classes over whatever base of exceptions -/
/-- own classes, then the base's own line -/
inductive Over (tl : List Value) : List Value → Prop
  | base : Over tl tl
  | own {c : Addr} {l : List Value} : Over tl l → Over tl (.ref c :: l)
theorem Over.has {tl l : List Value} (h : Over tl l) (X : String) : l.contains (.type X) = tl.contains (.type X) := by
  induction h with
  | base => rfl
  | own _ ih => rw [List.contains_cons, ih]; rfl
theorem Over.lets {tl l : List Value} (h : Over tl l) {self : Value} (hb : refuseLoop self "__setattr__" tl = pure ()) : refuseLoop self "__setattr__" l = pure () := by
  induction h with
  | base => exact hb
  | own _ ih => rw [refuseLoop_ref]; exact ih
theorem Over.some {tl l : List Value} (h : Over tl l) (hb : tl.isEmpty = false) : l.isEmpty = false := by
  cases h with
  | base => exact hb
  | own _ => rfl
abbrev leTail : List Value := [.type "LookupError", .type "Exception", .type "BaseException", .type "object"]
theorem le_lets (self : Value) : refuseLoop self "__setattr__" leTail = pure () := by kernel_rfl
/-- what is asked of a class's line so that a field may be stored -/
structure Line (x : Addr) (mro : List Value) : Prop where
  ne : mro.isEmpty = false
  ob : mro.contains (.type "object") = true
  ok : refuseLoop (.ref x) "__setattr__" mro = pure ()
theorem Over.line {l : List Value} (h : Over leTail l) (x : Addr) : Line x l := ⟨h.some rfl, (h.has "object").trans (by decide +kernel), h.lets (le_lets _)⟩
section
variable {prog : Program} {w : World} {A : Around} {R : Result → Shared → Prop} {hp : Heap} {g : Array GenState} {d : Drawn} {t : Nat} {os : OsState} {K : W.Frag} {nm0 : Str} {tk : Tok} {u : Value} {x C dx : Addr} {fv : Array Value} {cd : ClassData}
/-- the first field of an exception -/
theorem field_new (X : K.In hp) (hx : hp.get? x = some { cls := .ref C, data := .fields fv }) (hcd : W.clsIn K C = some cd) (hm : Line x cd.mro) (hh : cd.hasDict = true) (ha : W.findIn K (.ref C) nm0 = some none)
    (hq : ∀ h' tk' dx, (∀ b o, b ≠ x → hp.get? b = some o → h'.get? b = some o) → hp.objs.size ≤ dx → dx ≠ x → h'.get? x = some { cls := .ref C, dict := some dx, data := .fields fv } → h'.Ns1 dx (fun y => if y = nm0 then some u else none) → R (.ok (.ret .none)) ⟨h', g, d, tk', os⟩) :
    codeAny (model prog w) A (.call (.builtin "object.__setattr__") ⟨[.ref x, .str nm0 tk, u], []⟩) R ⟨hp, g, d, t, os⟩ := by
  have inst : W.InstAt hp x { cls := .ref C, data := .fields fv } C none := ⟨hx, rfl, rfl, trivial⟩
  have sf := F.store_object
  have xs : x ≠ hp.objs.size := Nat.ne_of_lt (Heap.lt_size hx)
  have isO : W.Looks (model prog w) hp (isInstance (.ref x) (.type "object")) true := inst.type.andThen (W.looks_mroIn X (by unfold W.mroIn; rw [hcd, Option.bind_some, if_neg (by rw [hm.ne]; decide), hm.ob]))
  refine codeAny_call_builtin sf.slot.plain sf.entry (@W.check_slot (model prog w) _ _ ⟨hp, g, d, t, os⟩ "object.__setattr__" "object" "__setattr__" (.ref x) [.str nm0 tk, u] [] _ sf.kind sf.split isO (sf.args (.ref x) (.str nm0 tk) u) ?_)
  have m1 : W.Looks (model prog w) hp (mroOf (.ref C)) cd.mro := (W.looks_clsIn X hcd).andThen .now
  have m2 : W.Looks (model prog w) hp (storeTaker? none) none := .now
  have m3 : W.Looks (model prog w) hp (classData C) cd := W.looks_clsIn X hcd
  rw [W.osa_eq, refuse_eq]
  apply wpAny_bind; apply wpAny_bind; apply inst.type.at; apply wpAny_bind; apply m1.at
  rw [hm.ok]
  apply wpAny_pure; apply wpAny_bind; apply inst.type.at; apply wpAny_bind; apply (W.looks_findIn X ha).at; apply wpAny_bind; apply m2.at
  change wpAny _ _ (storeInOwnDict (Value.ref x) (.ref C) (.str nm0 tk) nm0 u false) _ _ _
  obtain ⟨c1, c2, c3, c4, c5, hd, c7, c8, c9, c10, c11⟩ := cd
  dsimp only at hh
  subst hh
  unfold storeInOwnDict ownDictForStores
  repeat (first | with_reducible refine store_in_new ?_ ?_ | with_reducible refine wpAny_loadPart_at hx ?_ | with_reducible refine m3.at ?_ | wp_step)
  · exact ⟨_, #[], _, (Heap.get?_update_ne _ _ _ _ xs.symm).trans (Heap.get?_push_at rfl rfl), rfl, fun e he => absurd he (by simp), fun _ => rfl⟩
  · intro h2 tk2 hn hs
    have hx1 : (hp.push { cls := .type "dict", data := .dict #[] }).get? x = some { cls := .ref C, data := .fields fv } := Heap.get?_push_of_some _ hx
    exact hq h2 tk2 hp.objs.size (fun b o hb ho => (hs.2 b (Nat.ne_of_lt (Heap.lt_size ho))).trans ((Heap.get?_update_ne _ _ _ _ hb).trans (Heap.get?_push_of_some _ ho))) (Nat.le_refl _) xs.symm ((hs.2 x xs).trans (Heap.get?_update_self _ hx1 rfl)) hn
/-- a further field -/
theorem field_more {m0 : Str → Option Value} {nl : List Str} (X : K.In hp) (hx : hp.get? x = some { cls := .ref C, dict := some dx, data := .fields fv }) (hns : hp.Ns1 dx m0) (hw : Within m0 nl) (hz : nl.length ≤ 1000) (hcd : W.clsIn K C = some cd) (hm : Line x cd.mro) (hh : cd.hasDict = true) (ha : W.findIn K (.ref C) nm0 = some none)
    (hq : ∀ h' tk', (∀ b o, b ≠ dx → hp.get? b = some o → h'.get? b = some o) → h'.Ns1 dx (fun y => if y = nm0 then some u else m0 y) → R (.ok (.ret .none)) ⟨h', g, d, tk', os⟩) :
    codeAny (model prog w) A (.call (.builtin "object.__setattr__") ⟨[.ref x, .str nm0 tk, u], []⟩) R ⟨hp, g, d, t, os⟩ := by
  obtain ⟨oD, _, _, hoD, _, _⟩ := hns.count hw
  have inst : W.InstAt hp x { cls := .ref C, dict := some dx, data := .fields fv } C (some oD) := ⟨hx, rfl, rfl, hoD⟩
  have sf := F.store_object
  have isO : W.Looks (model prog w) hp (isInstance (.ref x) (.type "object")) true := inst.type.andThen (W.looks_mroIn X (by unfold W.mroIn; rw [hcd, Option.bind_some, if_neg (by rw [hm.ne]; decide), hm.ob]))
  refine codeAny_call_builtin sf.slot.plain sf.entry (@W.check_slot (model prog w) _ _ ⟨hp, g, d, t, os⟩ "object.__setattr__" "object" "__setattr__" (.ref x) [.str nm0 tk, u] [] _ sf.kind sf.split isO (sf.args (.ref x) (.str nm0 tk) u) ?_)
  have m1 : W.Looks (model prog w) hp (mroOf (.ref C)) cd.mro := (W.looks_clsIn X hcd).andThen .now
  have m2 : W.Looks (model prog w) hp (storeTaker? none) none := .now
  have m3 : W.Looks (model prog w) hp (classData C) cd := W.looks_clsIn X hcd
  rw [W.osa_eq, refuse_eq]
  apply wpAny_bind; apply wpAny_bind; apply inst.type.at; apply wpAny_bind; apply m1.at
  rw [hm.ok]
  apply wpAny_pure; apply wpAny_bind; apply inst.type.at; apply wpAny_bind; apply (W.looks_findIn X ha).at; apply wpAny_bind; apply m2.at
  change wpAny _ _ (storeInOwnDict (Value.ref x) (.ref C) (.str nm0 tk) nm0 u false) _ _ _
  obtain ⟨c1, c2, c3, c4, c5, hd, c7, c8, c9, c10, c11⟩ := cd
  dsimp only at hh
  subst hh
  unfold storeInOwnDict ownDictForStores
  repeat (first | with_reducible refine OEX.store_in_old hns hw hz ?_ | with_reducible refine wpAny_loadPart_at hx ?_ | with_reducible refine m3.at ?_ | wp_step)
  exact fun h2 tk2 hn hs => hq h2 tk2 (fun b o hb ho => (hs.2 b hb).trans ho) hn
end
end PySem.OwnL
namespace L2
open PySem PySem.Spec PyProof.Rows
/-! ### own refusals over LookupError: made by their own __init__ -/
/-- what the written part says of the class -/
structure LexC (K : PySem.W.Frag) (C : Addr) : Prop where
  cls : ∃ nm q N bs bm sn sub ab col dd k0 k1 k2 k3 k5, K.lookup C = some (excClassObj nm q C N bs bm true sn sub ab col dd k0 k1 k2 k3 k5 "LookupError.__new__") ∧ PySem.OwnL.Over PySem.OwnL.leTail bm
  sa : PySem.W.findIn K (.ref C) "__setattr__" = some (some (.builtin "object.__setattr__"))
  exC : PySem.W.subIn K (.ref C) (.type "BaseException") = some true
  tyC : PySem.W.typeIn K (.ref C) = some (.type "type")
  kC : PySem.W.keepIn K (.ref C) = true
section
variable {X : Cx} {pins : List (Addr × Obj)} {σ : St} {H : Hp} {s : Shared} {a C dx : Addr} {f : Str} {y : V} {u : Value} {fs : List (Str × V)} {Q : Unit → Shared → Prop} {E : Value → Shared → Prop} {A : Around}
theorem LexC.data (T : LexC X.K C) : ∃ cd : ClassData, PySem.W.clsIn X.K C = some cd ∧ cd.hasDict = true ∧ PySem.OwnL.Over PySem.OwnL.leTail cd.mro := by
  obtain ⟨nm, q, N, bs, bm, sn, sub, ab, col, dd, k0, k1, k2, k3, k5, hC, hbm⟩ := T.cls
  refine ⟨{ name := nm, bases := bs, mro := .ref C :: bm, ns := N, qualname := q, hasDict := true, slotNames := sn, subclasses := sub, abstract := ab, collection := col, hasDel := false }, ?_, rfl, .own hbm⟩
  unfold PySem.W.clsIn
  rw [hC] <;> rfl
/-- the first field -/
theorem lst_new (T : LexC X.K C) (I : Inv X pins σ H s) (e : H a = some (exo a C none)) (hno : PySem.W.findIn X.K (.ref C) f = some none) (ry : RelV y u)
    (h : ∀ dx s', H dx = none → dx ≠ a → Inv X pins σ (upd (upd H dx (exd dx [(f, y)])) a (exo a C (some dx))) s' → Q () s') : wpAny (model X.prog X.w) A (setAttr (.ref a) f u) Q E s := by
  obtain ⟨cd, hcl, hd, ov⟩ := T.data
  obtain ⟨t1, ho⟩ := exo_at I.hok e
  obtain ⟨hp, g, d, t, os⟩ := s
  refine PySem.W.set_plain I.kIn (ox := { cls := .ref C, dict := none, data := .fields #[.ref t1, .none, .none, .none, .bool false, .none] }) (od := none) ⟨ho, rfl, rfl, trivial⟩ T.sa ?_
  refine PySem.OwnL.field_new I.kIn ho hcl (ov.line a) hd hno fun h2 tk2 dx k dn dne hx hn => ?_
  have fresh : H dx = none := I.hok.fresh dn
  have offD : ∀ {b : Addr} {o : Obj}, hp.get? b = some o → b ≠ dx := fun z => Nat.ne_of_lt (Nat.lt_of_lt_of_le (Heap.lt_size z) dn)
  have offA : ∀ {b : Addr}, H b = none → b ≠ a := fun n z => by
    rw [z, e] at n
    cases n
  refine h dx _ fresh dne (I.un (t' := tk2) {
    keep := fun b o z n _ _ => k b o (offA n) z
    slot := fun b o z n _ _ => ⟨o.slots, k b o (offA n) z⟩
    free := fun b o z n _ => by rw [upd_ne (offA n), upd_ne (offD z)]; exact n
    there := fun b o z _ => by
      by_cases hb : b = a
      · exact ⟨_, by rw [hb]; exact hx⟩
      · exact ⟨o, k b o hb z⟩
    tups := fun b xs z => by rw [upd_ne (at_ne e z exo_tup), upd_ne (ne_of_none z fresh)]; exact z
    frzs := fun b o v z => by rw [upd_ne (at_ne e z exo_frz), upd_ne (ne_of_none z fresh)]; exact z
    tbls := fun b ps z => ⟨#[], by rw [upd_ne (at_ne e z exo_tbl), upd_ne (ne_of_none z fresh), z]; simp⟩ } fun b o z => ?_)
  rcases Decidable.em (b = a) with hb | hb
  · subst hb
    rw [upd_same] at z
    cases z
    exact exo_ok hx
  · rw [upd_ne hb] at z
    rcases Decidable.em (b = dx) with hbd | hbd
    · subst hbd
      rw [upd_same] at z
      cases z
      exact exd_ok hn (relO_put (fs := []) ry fun g => True.intro)
    · rw [upd_ne hbd] at z
      refine (I.hok b o z).stay (fun c v hc w => k c v ?_ w) (fun c hc => ?_) fun c xs hc => ?_
      · rcases hc with hc | hc
        · rw [hc]
          exact hb
        · exact at_ne e hc exo_own
      · rw [upd_ne (at_ne e hc exo_own), upd_ne (ne_of_none hc fresh)]
        exact hc
      · rw [upd_ne (at_ne e hc exo_tup), upd_ne (ne_of_none hc fresh)]
        exact hc
/-- a further field -/
theorem lst_more (T : LexC X.K C) (I : Inv X pins σ H s) (e : H a = some (exo a C (some dx))) (ed : H dx = some (exd dx fs)) (hl : fs.length ≤ 900) (hno : PySem.W.findIn X.K (.ref C) f = some none) (ry : RelV y u)
    (h : ∀ s', Inv X pins σ (upd H dx (exd dx ((f, y) :: fs))) s' → Q () s') : wpAny (model X.prog X.w) A (setAttr (.ref a) f u) Q E s := by
  obtain ⟨cd, hcl, hd, ov⟩ := T.data
  obtain ⟨t1, ho⟩ := exo_at I.hok e
  obtain ⟨mA, hns, rel⟩ := exd_at I.hok ed
  have hw := within_of rel
  obtain ⟨hp, g, d, t, os⟩ := s
  obtain ⟨oD, _, _, hoD, _, _⟩ := hns.count hw
  refine PySem.W.set_plain I.kIn (ox := { cls := .ref C, dict := some dx, data := .fields #[.ref t1, .none, .none, .none, .bool false, .none] }) (od := some oD) ⟨ho, rfl, rfl, hoD⟩ T.sa ?_
  refine PySem.OwnL.field_more I.kIn ho hns hw (by rw [List.length_map]; omega) hcl (ov.line a) hd hno fun h2 tk2 k hn => ?_
  obtain ⟨o2, _, _, e2, _⟩ := id hn
  exact h _ (I.write (t' := tk2) (x := dx) (e := dx) (o := exd dx ((f, y) :: fs)) (by rw [ed]; exact True.intro) (.inl rfl) k ⟨o2, e2⟩ (exd_ok hn (relO_put ry rel)))
/-- LookupError.__init__(self, ..) -/
theorem linit_ok {us : List Value} {Q : Value → Shared → Prop} (T : LexC X.K C) (I : Inv X pins σ H s) (e : H a = some (exo a C none)) (hl : us.length ≤ sizeLine) (h : ∀ s', Inv X pins σ H s' → Q .none s') :
    wpAny (model X.prog X.w) A (call (.builtin "LookupError.__init__") (.ref a :: us)) Q E s := by
  obtain ⟨nm, q, N, bs, bm, sn, sub, ab, col, dd, k0, k1, k2, k3, k5, hC, hbm⟩ := T.cls
  obtain ⟨t1, ho⟩ := exo_at I.hok e
  obtain ⟨hp, g, d, t, os⟩ := s
  refine wpAny_call (PySem.HandSPX.init_base F.excBase_LookupError hbm.has (I.kIn _ _ hC) ho hl fun h2 t2 k hx => ?_)
  have J := I.write (t' := t) (x := a) (e := a) (o := exo a C none) (by rw [e]; exact True.intro) (.inl rfl) k ⟨_, hx⟩ (exo_ok hx)
  have eu : upd H a (exo a C none) = H := funext fun b => by
    by_cases hb : b = a
    · rw [hb, upd_same, e]
    · rw [upd_ne hb]
  rw [eu] at J
  exact h _ J
end
/-- LookupError.__init__(self, ..) -/
def tLeI (K : PySem.W.Frag) (ta : TA) : TE := fun σ H Q => ta σ H fun vs H1 => ∃ (a C : Addr) (ws : List V), vs = .ref a :: ws ∧ ws.length ≤ 1000 ∧ LexC K C ∧ H1 a = some (exo a C none) ∧ Q .non H1
/-- self.f = e -/
def tLst' (K : PySem.W.Frag) (f : Str) (to te : TE) : TS := fun D σ H => te σ H fun y H1 => to σ H1 fun x H2 => ∃ a C : Addr, x = .ref a ∧ LexC K C ∧ PySem.W.findIn K (.ref C) f = some none ∧
  ((H2 a = some (exo a C none) ∧ ∀ dx, H2 dx = none → dx ≠ a → D.nx σ (upd (upd H2 dx (exd dx [(f, y)])) a (exo a C (some dx)))) ∨
    ∃ (dx : Addr) (fs : List (Str × V)), H2 a = some (exo a C (some dx)) ∧ H2 dx = some (exd dx fs) ∧ fs.length ≤ 900 ∧ D.nx σ (upd H2 dx (exd dx ((f, y) :: fs))))
theorem typ_LE : typeOf (.type "LookupError") = pure (.type "type") := by kernel_rfl
section
variable {X : Cx} {o e : Expr} {es : List Expr} {to te : TE} {ta : TA} {f : Str} {p p' p1 p2 pos : Pos}
theorem ps_lst (ho : PE X o to) (he : PE X e te) (hs : swapsWith e (some (.Attribute o f p')) pos.line X.env = pure false := by rfl) : PS X (.Assign [.Attribute o f p'] e pos) (tLst' X.K f to te) := by
  refine ⟨fun pins s σ H D I h => ?_⟩
  refine plainObj_wpAny_Assign_Attribute (thn (he.run pins s σ H _ I h) fun v s1 ⟨y, H1, I1, r1, q1⟩ => thn (ho.run pins s1 σ H1 _ I1 q1) fun u s2 ⟨x, H2, I2, r2, a, C, ex, T, hno, q⟩ => ?_) hs
  subst ex
  obtain rfl : u = Value.ref a := r2
  rcases q with ⟨ea, q⟩ | ⟨dx, fs, ea, ed, hl, q⟩
  · exact lst_new T I2 ea hno r1 fun dx z n ne J => ⟨σ, _, J, q dx n ne⟩
  · exact lst_more T I2 ea ed hl hno r1 fun z J => ⟨σ, _, J, q⟩
theorem pe_leinit {pl : Sem Bool} (hg : Gl X "LookupError") (hm : X.mg "LookupError" = none) (vV : PySem.W.findCls X.K (.type "LookupError") (.type "type") "__init__" = some (.val (.builtin "LookupError.__init__"))) (ha : PA X (e :: es) ta)
    (hc : eval (.Call (.Attribute (.Name "LookupError" p1) "__init__" p2) (e :: es) [] pos) X.env = (do
      let ov ← eval (.Name "LookupError" p1) X.env
      standAt p2.atName
      let (f, first) ← holding [ov] (getMethod ov "__init__" pl)
      callWith pos f first (backTo pos (starEach (e :: es) X.env)) (backToKw pos (keywordEach [] X.env))) := by rfl)
    (he : starEach (e :: es) X.env = (false, eval e X.env) :: starEach es X.env := by rfl) (hpl : (backTo pos (starEach es X.env)).any (·.1) = false := by rfl) :
    PE X (.Call (.Attribute (.Name "LookupError" p1) "__init__" p2) (e :: es) [] pos) (tLeI X.K ta) := by
  refine ⟨fun pins s σ H Q I h => ?_⟩
  refine PySem.W.methodCall_KW (ld_blt I hg hm PyProof.Rows.Boot.«LookupError» ?_ (by decide) (by decide)) hc
  obtain ⟨m, fr⟩ := I.fr
  refine PySem.W.method_type fr I.ok.mod.kin typ_LE (by decide +kernel) vV (by decide +kernel) ?_
  change wpAny _ _ (callWith pos (Value.builtin "LookupError.__init__") [] (backTo pos (starEach (e :: es) X.env)) []) _ _ _
  refine PyProof.Rows.callWith_method1 (thn (ha.run pos pins _ σ H _ (I.tok _) h) fun us s1 ⟨vs, H1, I1, r1, a, C, ws, ev, hl, T, ea, q⟩ => ?_) he hpl
  subst ev
  cases r1 with
  | @cons _ v0 _ vr ra rs =>
    obtain rfl : v0 = Value.ref a := ra
    exact linit_ok T I1 ea (by rw [← Paired.length rs, sizeLine_eq]; omega) fun z J => ⟨.non, H1, J, rfl, q⟩
end
end L2
namespace L2N
open PySem PySem.Spec PyProof.Rows L2
section
variable {X : Cx} {e : Expr} {es : List Expr} {ta : TA} {p pos : Pos}
/-- C(e, ..), C an own class over LookupError; its context is None -/
theorem pmk_lexN {CX : CXT} {x : Str} {C fI : Addr} {k : Nat} {fd : FuncData} {ps : List Str} {sp : Sp} (T : LexC X.K C) (iC : PySem.W.findIn X.K (.ref C) "__init__" = some (some (.ref fI))) (tI : PySem.W.typeIn X.K (.ref fI) = some (.type "function"))
    (F1 : FnOk X.prog X.w X.K X.mg X.base CX k fI fd ps sp) (hr : Room (k + 1) X.A) (hb : Binds X.K fd ps []) (hx : Passes CX X (fun _ _ _ => False)) (hg : Gl X x) (hm : X.mg x = some (.ref C)) (ha : PA X (e :: es) ta)
    (hdb : (x == ("__debug__" : Str)) = false := by decide) (he : starEach (e :: es) X.env = (false, eval e X.env) :: starEach es X.env := by rfl) (hpl : (backTo pos (starEach es X.env)).any (·.1) = false := by rfl) :
    PMk X (.Call (.Name x p) (e :: es) [] pos) (tMkO C sp [] ta) := by
  intro pins s σ H Q I h
  obtain ⟨nm, q, N, bs, bm, sn, sub, ab, col, dd, k0, k1, k2, k3, k5, hC, hbm⟩ := T.cls
  refine wpAny_Call_Name_kw (ld_glob I hg hm ?_ hdb)
  refine PySem.W.callWith_K (h₀ := X.base) I.ok.mod.kin T.kC (thn (ha.run pos pins s σ H _ I h) fun us s1 ⟨vs, H1, I1, r1, hz, q1⟩ => ⟨I1.kIn, ?_⟩) he hpl
  change wpAny _ _ (call (Value.ref C) us) _ _ _
  obtain ⟨hp, g, dr, tk, os⟩ := s1
  let a : Addr := hp.objs.size + 1
  let hN : Heap := (hp.push (PySem.W.kdv_tup us)).push (PySem.HandSPX.excO C hp.objs.size)
  have hsz : hp.objs.size ≤ a := Nat.le_succ _
  have hq := q1 a (I1.hok.fresh hsz)
  rw [List.append_nil] at hq
  have kk : ∀ b o, hp.get? b = some o → hN.get? b = some o := fun b o e => Heap.get?_push_of_some _ (Heap.get?_push_of_some _ e)
  have ga : hN.get? a = some (PySem.HandSPX.excO C hp.objs.size) := by
    change ((hp.push (PySem.W.kdv_tup us)).push (PySem.HandSPX.excO C hp.objs.size)).get? (hp.objs.size + 1) = _
    heap_get
  have I2 : Inv X pins σ (upd H1 a (exo a C none)) ⟨hN, g, dr, tk, os⟩ := I1.laid (t' := tk) kk hsz (exo_ok ga)
  have r2 : Vals (V.ref a :: vs) (Value.ref a :: us) := .cons rfl r1
  have b2 := hb ⟨hN, g, dr, tk, os⟩ (Value.ref a :: us) I2.kIn (by rw [List.append_nil, ← r2.length]; exact F1.len _ _ _ _ hq)
  rw [List.append_nil] at b2
  refine wpAny_call (PySem.HandSPX.call_own F.excBase_LookupError hbm.has (I1.kIn _ _ hC) (PySem.W.looks_findIn I1.kIn iC) (fun self => PySem.W.bind_fn I1.kIn self tI) (by rw [← Paired.length r1, sizeLine_eq]; omega)
    (codeAny_mono (F1.run _ X.stack ⟨hN, g, dr, tk, os⟩ _ ⟨Value.ref a :: us, []⟩ (Value.ref a :: us) _ _ (fun _ _ _ => False) (hr.make C us []) (I2.env0.make C us []) b2 r2 hq) fun r z hz2 => ?_))
  match r, hz2 with
  | .error er, hz2 => exact hx pins σ _ _ er z I2 hz2
  | .ok (.ret u), hz2 =>
    obtain ⟨v, H2, os2, bare2, un2, hok2, rv, ev, d, fs, ea, ed, hd1, q2⟩ := hz2
    subst ev
    obtain ⟨h2, g2, d2, t2, os'⟩ := z
    obtain ⟨t0, G, J, kG, ge, hoe, nd⟩ := mk_end0 (d2 := d2) (t2 := t2) I1 hsz kk un2 hok2 os2 bare2 ea ed hd1
    exact ⟨rv, a, _, _, ⟨G, g2, d2, t2, os'⟩, _, .ref C, some d, rfl, J, kG, ge, hoe, ⟨rfl, rfl, fun ws e => by cases e; rfl⟩, rfl, rfl, nd, rfl, bare2, raises_own T.exC T.tyC, q2⟩
  | .ok .next, hz2 => exact False.elim hz2
  | .ok .brk, hz2 => exact False.elim hz2
  | .ok .cont, hz2 => exact False.elim hz2
end
end L2N
namespace L2
open PySem PySem.Spec PyProof.Rows
/-- what an own refusal's class over LookupError says of `__class__` and `__name__` -/
structure NamedL (K : PySem.W.Frag) (C : Addr) (nm : Str) : Prop where
  ex : ExcC K C
  ox : LexC K C
  nm : ∃ o tk, K.lookup C = some o ∧ (o.slots[2]?).join = some (.str nm tk)
  rd : PySem.W.readsIn K C (.type "type") = true
  fd : PySem.W.findCls K (.ref C) (.type "type") "__name__" = some (.get (.builtin "getset_descriptor.__get__") (.builtin "type.__name__") (.ref C) (.type "type"))
/-- o.__class__.__name__, o such a refusal that has no field yet -/
def tCNl (K : PySem.W.Frag) (to : TE) : TE := fun σ H Q => to σ H fun x H1 => ∃ (a C : Addr) (nm : Str), x = .ref a ∧ NamedL K C nm ∧ H1 a = some (exo a C none) ∧ Q (.str nm) H1
section
variable {X : Cx} {o : Expr} {to : TE} {p p' : Pos}
theorem pe_cnameL (ho : PE X o to) (h1 : attributeBase o "__class__" X.env (eval o X.env) = eval o X.env := by rfl) (h2 : attributeBase (.Attribute o "__class__" p) "__name__" X.env (eval (.Attribute o "__class__" p) X.env) = eval (.Attribute o "__class__" p) X.env := by rfl) :
    PE X (.Attribute (.Attribute o "__class__" p) "__name__" p') (tCNl X.K to) := by
  refine ⟨fun pins s σ H Q I h => ?_⟩
  refine attr_of h2 (attr_of h1 (thn (ho.run pins s σ H _ I h) fun u s1 ⟨x, H1, I1, rx, a, C, nm, ex, N, ea, q⟩ => ?_))
  subst ex
  obtain rfl : u = Value.ref a := rx
  obtain ⟨t1, hoe⟩ := exo_at I1.hok ea
  obtain ⟨oc, tk, hoc, hsl⟩ := N.nm
  have T := N.ex
  refine PySem.W.exc_class_attr (ox := ({ cls := .ref C, dict := none, data := .fields #[.ref t1, .none, .none, .none, .bool false, .none] } : Obj)) T.hg T.hk T.hs T.hd T.ha T.hn T.ht T.hm I1.kIn ⟨hoe, rfl, rfl, trivial⟩ ?_
  refine PySem.W.own_name_attr (s := { s1 with toks := s1.toks + 1 }) I1.kIn hoc hsl rfl N.ox.tyC N.rd N.fd ?_
  exact ⟨.str nm, H1, (I1.tok _).tok _, ⟨tk, rfl⟩, q⟩
end
end L2
namespace Ink
open PySem PySem.Spec PyProof.Rows L2
/-- Missing.__init__ of a refusal without a field: the word is written -/
def spMis (K : PySem.W.Frag) : Sp := fun vs H Q _ => ∃ (a C : Addr) (nm t : Str), vs = [.ref a, .str t] ∧ NamedL K C nm ∧ PySem.W.findIn K (.ref C) "word" = some none ∧ H a = some (exo a C none) ∧
  ∀ dx, H dx = none → dx ≠ a → Q .non (upd (upd H dx (exd dx [("word", .str nm)])) a (exo a C (some dx)))
/-- NoSign.__init__: the word and at -/
def spNoS (K : PySem.W.Frag) : Sp := fun vs H Q _ => ∃ (a C : Addr) (nm : Str) (n : Int), vs = [.ref a, .int n] ∧ n.natAbs.log2 < 1920 ∧ (Str.ofString (toString n)).length ≤ 1000 ∧ NamedL K C nm ∧ PySem.W.findIn K (.ref C) "word" = some none ∧ PySem.W.findIn K (.ref C) "at" = some none ∧ H a = some (exo a C none) ∧
  ∀ dx, H dx = none → dx ≠ a → ∀ H', H' = upd (upd (upd H dx (exd dx [("word", .str nm)])) a (exo a C (some dx))) dx (exd dx [("at", .int n), ("word", .str nm)]) → Q .non H'
section
variable {P : Program} {w : World} {K : PySem.W.Frag} {mg : Str → Option Value} {base : Heap}
theorem ok_mis {f : Addr} {fd : FuncData} {k : Nat} (F : FunD K "__init__" "Missing.__init__" (defArgs sMissingInit) (defBody sMissingInit) (defScope sMissingInit) [.str ""] [] f fd) (mV : mg "LookupError" = none)
    (vV : PySem.W.findCls K (.type "LookupError") (.type "type") "__init__" = some (.val (.builtin "LookupError.__init__"))) : FnOk P w K mg base CX0 (k + 1) f fd ["self", "told"] (spMis K) := by
  refine F.ok sc_Missing___init__ (fun vs H Q E h => ?_) (fun cdv A outer s H vs Q E hr h => ?_)
  · obtain ⟨a, C, nm, t, rfl, _⟩ := h
    rfl
  · obtain ⟨a, C, nm, t, rfl, N, hw, ea, q⟩ := h
    refine ⟨_, (pss_cons (ps_expr (pe_leinit (by rfl) mV vV (pa_cons (pv 0) (pa_cons (pv 1) pa_nil)))) (pss_one (ps_lst (pv 0) (pe_cnameL (pv 0))))), ?_⟩
    refine ⟨_, rfl, _, rfl, a, C, _, rfl, by simp, N.ox, ea, ?_⟩
    refine ⟨_, rfl, a, C, nm, rfl, N, ea, ?_⟩
    refine ⟨_, rfl, a, C, rfl, N.ox, hw, .inl ⟨ea, fun dx n ne => ?_⟩⟩
    exact q dx n ne
theorem ok_nos {f B fI : Addr} {fd fdI : FuncData} {k : Nat} (F : Fun K "__init__" "NoSign.__init__" sNosignInit f fd) (mI : mg "Missing" = some (.ref B)) (O : OwnI K B fI)
    (G : FnOk P w K mg base CX0 k fI fdI ["self", "told"] (spMis K)) (b : Binds K fdI ["self", "told"] []) : FnOk P w K mg base CX0 (k + 1) f fd ["self", "at"] (spNoS K) := by
  refine F.ok sc_NoSign___init__ (fun vs H Q E h => ?_) (fun cdv A outer s H vs Q E hr h => ?_)
  · obtain ⟨a, C, nm, n, rfl, _⟩ := h
    rfl
  · obtain ⟨a, C, nm, n, rfl, hn, hz, N, hw, hmo, ea, q⟩ := h
    refine ⟨_, (pss_cons (ps_expr (pe_owninit O G hr (by rfl) mI b .nil pass0 (pa_cons (pv 0) (pa_cons (pe_joined (PJ.cons pe_str (PJ.cons (pe_fmt (pv 1)) PJ.nil))) pa_nil)))) (pss_one (ps_lst (pv 0) (pv 1)))), ?_⟩
    refine ⟨_, rfl, ?_⟩
    have l1 : (Str.empty ++ Str.ofString "no sign ").length ≤ 100 := by decide +kernel
    have e1 : ∀ x y : Str, (x ++ y).length = x.length + y.length := Str.length_append
    refine ⟨_, rfl, Nat.le_trans l1 (by rw [sizeLine_eq]; omega), ?_⟩
    refine ⟨_, rfl, .inr ⟨_, rfl, hn, _, rfl, by rw [e1, sizeLine_eq]; omega, ?_⟩⟩
    refine ⟨a, C, nm, _, rfl, N, hw, ea, fun dx n0 ne => ?_⟩
    refine ⟨_, rfl, _, rfl, a, C, rfl, N.ox, hmo, .inr ⟨dx, [("word", .str nm)], upd_same, ?_, by simp, ?_⟩⟩
    · rw [upd_ne ne, upd_same]
    · exact q dx n0 ne _ rfl
end
/-- what NoSign(n) leaves: its dict alone is new -/
def tNoS (C : Addr) (n : Int) : L2.St → Hp → XK → Prop := fun _ H Q => ∀ d, H d = none → Q (.ref C) (some d) (upd H d (.xd [("at", .int n), ("word", .str "NoSign")]))
theorem nos_made {K : PySem.W.Frag} {C : Addr} {n : Int} {ta : TA} {σ : L2.St} {H : Hp} {Q : XK} (N : NamedL K C "NoSign") (hw : PySem.W.findIn K (.ref C) "word" = some none) (hat : PySem.W.findIn K (.ref C) "at" = some none)
    (hn : n.natAbs.log2 < 1920) (hz : (Str.ofString (toString n)).length ≤ 1000) (ht : ∀ R : List V → Hp → Prop, R [.int n] H → ta σ H R) (h : tNoS C n σ H Q) : tMkO C (spNoS K) [] ta σ H Q := by
  refine ht _ ⟨by simp, fun a na => ⟨a, C, "NoSign", n, rfl, hn, hz, N, hw, hat, upd_same, fun dx ndx ne H' eH => ⟨rfl, dx, [("at", .int n), ("word", .str "NoSign")], ?_, ?_, ?_, ?_⟩⟩⟩
  · rw [eH, upd_ne (Ne.symm ne), upd_same]
  · rw [eH, upd_same]
  · rw [upd_ne ne] at ndx
    exact ndx
  · rw [upd_ne ne] at ndx
    have e : upd (del H' a) dx (.xd [("at", .int n), ("word", .str "NoSign")]) = upd H dx (.xd [("at", .int n), ("word", .str "NoSign")]) := by
      funext b
      by_cases hb : b = dx
      · rw [hb, upd_same, upd_same]
      · rw [upd_ne hb, upd_ne hb]
        by_cases hba : b = a
        · rw [hba, del_same]
          exact na.symm
        · rw [del_ne hba, eH, upd_ne hb, upd_ne hba, upd_ne hb, upd_ne hba]
    rw [e]
    exact h dx ndx
structure NoSR (P : Program) (w : World) (K : PySem.W.Frag) (mg : Str → Option Value) (base : Heap) (k : Nat) (C : Addr) : Prop where
  nm : NamedL K C "NoSign"
  hw : PySem.W.findIn K (.ref C) "word" = some none
  hat : PySem.W.findIn K (.ref C) "at" = some none
  gB : mg "NoSign" = some (.ref C)
  init : ∃ f fd, PySem.W.findIn K (.ref C) "__init__" = some (some (.ref f)) ∧ PySem.W.typeIn K (.ref f) = some (.type "function") ∧ FnOk P w K mg base CX0 k f fd ["self", "at"] (spNoS K) ∧ Binds K fd ["self", "at"] []
section
variable {X : Cx} {W : WX} {k : Nat} {C : Addr} {e : Expr} {es : List Expr} {ta : TA} {p pos pos' : Pos}
theorem ps_raiseNoS (B : NoSR X.prog X.w X.K X.mg X.base k C) (hr : Room (k + 1) X.A) (hg : Gl X "NoSign") (hc : X.calm = true) (tk : L2N.Takes X W) (ha : PA X (e :: es) ta)
    (he : starEach (e :: es) X.env = (false, eval e X.env) :: starEach es X.env := by rfl) (hpl : (backTo pos (starEach es X.env)).any (·.1) = false := by rfl) :
    PS X (.Raise (some (.Call (.Name "NoSign" p) (e :: es) [] pos)) none pos') (fun _ σ H => tMkO C (spNoS X.K) [] ta σ H fun cls d H' => W cls d σ H') := by
  obtain ⟨f, fd, iC, tI, G, b⟩ := B.init
  exact L2N.ps_raise hc tk (L2N.pmk_lexN B.nm.ox iC tI G hr b pass0 hg B.gB ha (by decide) he hpl)
end
end Ink
namespace Ink
open PySem PySem.Spec PyProof.Rows L2
section
variable {P : Program} {w : World} {K : PySem.W.Frag} {mg : Str → Option Value} {base : Heap}
theorem emod_in (x : Int) : 0 ≤ x % 2147483563 ∧ x % 2147483563 < 2147483563 := ⟨Int.emod_nonneg _ (by decide), Int.emod_lt_of_pos _ (by decide)⟩
theorem pos1 : (0 : Int) < 2147483563 := by decide
theorem pos2 : (0 : Int) < 8191 := by decide
theorem ok_pull {f : Addr} {fd : FuncData} {k : Nat} (F : Fun K "_law_pull" "_law_pull" sLPull f fd) (T : Txt mg) : FnOk P w K mg base CX0 (k + 1) f fd ["_law_bag_here", "_law_many"] spPull := by
  refine F.ok sc__law_pull (fun vs H Q E h => ?_) (fun cdv A outer s H vs Q E hr h => ?_)
  · obtain ⟨a, l, m, rfl, _⟩ := h
    rfl
  · obtain ⟨a, l, m, rfl, hB, hm0, hm1, q⟩ := h
    refine ⟨_, (Evl.pss_cut (ps_if (PW.pt (pw_and (pt_cmpR op_eq (pe_ix ix_list (pv 0) pe_int (fun _ _ => rfl)) pe_int (nomark _)) (pw_and1 (pt_cmpR op_lt (pe_ix ix_list (pv 0) pe_int (fun _ _ => rfl)) (pe_callB call_len (by rfl) T.m_len PySem.boot_len (pa_cons (pe_ix ix_list (pv 0) pe_int (fun _ _ => rfl)) pa_nil)) (nomark _)))))
    (pss_cons (ps_set (i := 2) sc__law_pull.nd rfl (.inl rfl) (pe_ix ix_list (pe_ix ix_list (pv 0) pe_int (fun _ _ => rfl)) (pe_ix ix_list (pv 0) pe_int (fun _ _ => rfl)) (fun _ _ => rfl)))
    (pss_cons (ps_asg (pe_op op_add (pe_ix ix_list (pv 0) pe_int (fun _ _ => rfl)) pe_int) (pg_sub (pv 0) pe_int set_list))
    (pss_one (ps_if (pt_cmpR op_ge (pv 2) (pe_op op_pow pe_int pe_int) (nomark _))
    (pss_one (ps_asg (pe_op op_sub (pv 2) (pe_op op_pow pe_int pe_int)) (pg_sub (pv 0) pe_int set_list))) (pss_one (ps_asg (pe_op op_mod (pe_op op_add (pe_op op_add (pe_op op_mul (pe_ix ix_list (pv 0) pe_int (fun _ _ => rfl)) pe_int) (pe_op op_mul (pe_op op_mod (pv 2) pe_int) pe_int)) pe_int) pe_int) (pg_sub (pv 0) pe_int set_list))))))) pss_nil)
    (pss_cons (ps_if (pt_cmpR op_gt (pe_ix ix_list (pv 0) pe_int (fun _ _ => rfl)) pe_int (nomark _))
    (pss_cons (ps_set (i := 3) sc__law_pull.nd rfl (.inl rfl) (pe_op op_mod (pe_ix ix_list (pv 0) pe_int (fun _ _ => rfl)) (pv 1)))
    (pss_cons (ps_asg (pe_op op_fdiv (pe_ix ix_list (pv 0) pe_int (fun _ _ => rfl)) (pv 1)) (pg_sub (pv 0) pe_int set_list))
    (pss_one (ps_ret (pv 3))))) pss_nil)
    (pss_cons (ps_set (i := 4) sc__law_pull.nd rfl (.inl rfl) (pe_ix ix_list (pv 0) pe_int (fun _ _ => rfl)))
    (pss_cons (ps_asg (pe_op op_mod (pe_op op_add (pe_op op_add (pe_op op_mul (pe_op op_mul (pv 4) (pv 4)) pe_int) (pe_op op_mul (pv 4) pe_int)) pe_int) pe_int) (pg_sub (pv 0) pe_int set_list))
    (pss_one (ps_ret (pe_op op_mod (pe_op op_add (pe_op op_fdiv (pe_ix ix_list (pv 0) pe_int (fun _ _ => rfl)) pe_int) (pe_op op_mul (pe_op op_mod (pe_ix ix_list (pv 0) pe_int (fun _ _ => rfl)) pe_int) pe_int)) (pv 1)))))))), ?_⟩
    refine ⟨fun σ H1 => ∃ c, σ = [some (.ref a), some (.int m), c, none, none] ∧ BagAt H1 a l ∧ Keep a H H1, ?_, fun σ H1 hσ => ?_⟩
    · obtain ⟨ns, p, h, s, h1, h2, h3, h4, h5, h6⟩ := hB
      have L : SqL K H a _ := .of h1
      -- bag[2] == 0
      refine ⟨.ref a, rfl, a, _, 2, .int h, rfl, rfl, L, rfl, rfl, _, rfl, ?_⟩
      by_cases e0 : V.int h = V.int 0
      · rw [decide_eq_true e0]
        refine iteT ?_
        refine ⟨.ref a, rfl, a, _, 1, .int p, rfl, rfl, L, rfl, .ref a, rfl, a, _, 0, .ref l, rfl, rfl, L, rfl, .ref l, _, rfl, .inl ⟨_, .of h2, rfl⟩, _, _, rfl, rfl, _, rfl, ?_⟩
        refine ite2 (fun e1 => ?_) (fun e1 => ?_)
        · have e2 : p < ((ns.map V.int).length : Int) := of_decide_eq_true e1
          rw [List.length_map] at e2
          have hc : (ns.map V.int)[p.toNat]? = some (.int (ns[p.toNat]'(by omega))) := by
            rw [List.getElem?_map, List.getElem?_eq_getElem (by omega)]
            rfl
          have ep : ((p.toNat : Nat) : Int) = p := by omega
          generalize ns[p.toNat]'(by omega) = c at hc
          refine ⟨.ref a, rfl, a, _, 0, .ref l, rfl, rfl, L, rfl, .ref a, rfl, a, _, 1, .int p, rfl, rfl, L, rfl, l, _, p, .int c, rfl, rfl, .of h2, ?_, ?_⟩
          · rw [← ep]
            exact atI_nat hc
          · -- bag[1] = bag[1] + 1
            refine ⟨.ref a, rfl, a, _, 1, .int p, rfl, rfl, L, rfl, p, 1, rfl, rfl, .ref a, rfl, a, _, 1, 1, rfl, rfl, h1, rfl, ?_⟩
            -- cell >= 10 ** 18
            have n1 : (upd H a (.lst [.ref l, .int (p + 1), .int h, .int s])) a = some (.lst [.ref l, .int (p + 1), .int h, .int s]) := upd_same
            have n2 : (upd H a (.lst [.ref l, .int (p + 1), .int h, .int s])) l = some (.lst (ns.map V.int)) := by
              rw [upd_ne (bag_ne h1 (fun _ => nofun) h2)]
              exact h2
            refine ⟨.int c, rfl, 10, 18, rfl, rfl, ⟨by decide, by decide, by decide⟩, c, _, rfl, rfl, _, rfl, ?_⟩
            refine ite2 (fun e3 => ?_) (fun e3 => ?_)
            · refine ⟨.int c, rfl, 10, 18, rfl, rfl, ⟨by decide, by decide, by decide⟩, c, _, rfl, rfl, .ref a, rfl, a, _, 2, 2, rfl, rfl, n1, rfl, some (.int c), rfl, ?_, ?_⟩
              · have e4 : (10 : Int) ^ ((18 : Int).toNat) ≤ c := of_decide_eq_true e3
                exact BagAt.set (p' := p + 1) (h' := c - 10 ^ ((18 : Int).toNat)) (s' := s) n1 n2 ⟨by omega, by omega, h5, h6⟩
              · exact Keep.at.trans Keep.at
            · refine ⟨.ref a, rfl, a, _, 3, .int s, rfl, rfl, .of n1, rfl, s, 48271, rfl, rfl, .inl ⟨by omega, by omega⟩, .int c, rfl, c, 2147483563, rfl, rfl, pos1, _, 69621, rfl, rfl, .inr ⟨by decide, by decide⟩, _, _, rfl, rfl, _, 7, rfl, rfl, _, 2147483563, rfl, rfl, pos1, .ref a, rfl, a, _, 3, 3, rfl, rfl, n1, rfl, some (.int c), rfl, ?_, ?_⟩
              · exact BagAt.set (p' := p + 1) (h' := h) n1 n2 ⟨by omega, h4, (emod_in _).1, (emod_in _).2⟩
              · exact Keep.at.trans Keep.at
        · exact ⟨none, rfl, ⟨ns, p, h, s, h1, h2, h3, h4, h5, h6⟩, Keep.refl H⟩
      · rw [decide_eq_false e0]
        exact iteF (iteF ⟨none, rfl, ⟨ns, p, h, s, h1, h2, h3, h4, h5, h6⟩, Keep.refl H⟩)
    · obtain ⟨c, rfl, hB1, k1⟩ := hσ
      obtain ⟨ns, p, h, s, h1, h2, h3, h4, h5, h6⟩ := hB1
      have L : SqL K H1 a _ := .of h1
      refine ⟨.ref a, rfl, a, _, 2, .int h, rfl, rfl, L, rfl, _, _, rfl, rfl, _, rfl, ite2 (fun e1 => ?_) (fun e1 => ?_)⟩
      · have e2 : (0 : Int) < h := of_decide_eq_true e1
        refine ⟨.ref a, rfl, a, _, 2, .int h, rfl, rfl, L, rfl, .int m, rfl, h, m, rfl, rfl, hm0, ?_⟩
        refine ⟨.ref a, rfl, a, _, 2, .int h, rfl, rfl, L, rfl, .int m, rfl, h, m, rfl, rfl, ⟨hm0, hm1⟩, .ref a, rfl, a, _, 2, 2, rfl, rfl, h1, rfl, .int (h % m), rfl, ?_⟩
        exact q _ _ (Int.emod_nonneg _ (by omega)) (Int.emod_lt_of_pos _ hm0) (BagAt.set (p' := p) (h' := h / m) (s' := s) h1 h2 ⟨h3, Int.ediv_nonneg h4 (by omega), h5, h6⟩) (k1.trans Keep.at)
      · refine ⟨.ref a, rfl, a, _, 3, .int s, rfl, rfl, L, rfl, ?_⟩
        refine ⟨.int s, rfl, .int s, rfl, s, s, rfl, rfl, .inl ⟨by omega, by omega⟩, s * s, 3, rfl, rfl, .inr ⟨by decide, by decide⟩, .int s, rfl, s, 16807, rfl, rfl, .inl ⟨by omega, by omega⟩, _, _, rfl, rfl, _, 1013904223, rfl, rfl, _, 2147483563, rfl, rfl, pos1, .ref a, rfl, a, _, 3, 3, rfl, rfl, h1, rfl, ?_⟩
        have b := emod_in (s * s * 3 + s * 16807 + 1013904223)
        have hB2 : BagAt (upd H1 a (.lst [.ref l, .int p, .int h, .int ((s * s * 3 + s * 16807 + 1013904223) % 2147483563)])) a l := BagAt.set h1 h2 ⟨h3, h4, b.1, b.2⟩
        have n1 : (upd H1 a (.lst [.ref l, .int p, .int h, .int ((s * s * 3 + s * 16807 + 1013904223) % 2147483563)])) a = _ := upd_same
        refine ⟨.ref a, rfl, a, _, 3, .int ((s * s * 3 + s * 16807 + 1013904223) % 2147483563), rfl, rfl, .of n1, rfl, _, 61, rfl, rfl, ⟨by decide, by decide⟩, .ref a, rfl, a, _, 3, .int ((s * s * 3 + s * 16807 + 1013904223) % 2147483563), rfl, rfl, .of n1, rfl, _, 8191, rfl, rfl, pos2, _, 17, rfl, rfl, .inr ⟨by decide, by decide⟩, _, _, rfl, rfl, .int m, rfl, _, m, rfl, rfl, hm0, ?_⟩
        exact q _ _ (Int.emod_nonneg _ (by omega)) (Int.emod_lt_of_pos _ hm0) hB2 (k1.trans Keep.at)
theorem cut_ints (ns : List Int) (lo hi : Option Int) : ∃ ms : List Int, cutV (ns.map V.int) lo hi = ms.map V.int ∧ ms.length ≤ ns.length := by
  refine ⟨(ns.drop (HT.sIx (ns.map V.int).length 0 lo)).take (HT.sIx (ns.map V.int).length (ns.map V.int).length hi - HT.sIx (ns.map V.int).length 0 lo), ?_, ?_⟩
  · unfold cutV
    rw [List.map_take, List.map_drop]
  · rw [List.length_take, List.length_drop]
    omega
theorem ok_bag {f : Addr} {fd : FuncData} {k : Nat} (F : Fun K "_law_bag" "_law_bag" sLBag f fd) (T : Txt mg) : FnOk P w K mg base CX0 (k + 1) f fd ["_law_script"] (spBag K) := by
  refine F.ok sc__law_bag (fun vs H Q E h => ?_) (fun cdv A outer s H vs Q E hr h => ?_)
  · obtain ⟨c, ns, rfl, _⟩ := h
    rfl
  · obtain ⟨c, ns, rfl, hS, hlen, q⟩ := h
    refine ⟨_, (pss_cons (ps_set (i := 1) sc__law_bag.nd rfl (.inl rfl) pe_int)
    (pss_cons (ps_for PassesOwn.never rfl (pi_list (pe_slice sl_list (pv 0) po_none (po_some pe_int))) (pg_name (i := 2) sc__law_bag.nd rfl (.inl rfl))
    (pss_one (ps_set (i := 1) sc__law_bag.nd rfl (.inl rfl) (pe_op op_mod (pe_op op_add (pe_op op_add (pe_op op_mul (pv 1) pe_int) (pe_op op_mod (pv 2) pe_int)) pe_int) pe_int))))
    (pss_one (ps_ret (pe_lst (pa_cons (pe_callTy call_list_of (by rfl) T.m_list (by decide +kernel) (pa_cons (pe_slice sl_list (pv 0) po_none (po_some pe_int)) pa_nil)) (pa_cons pe_int (pa_cons pe_int (pa_cons (pv 1) pa_nil))))))))), ?_⟩
    obtain ⟨ms, ems, hms⟩ := cut_ints ns none (some 63)
    refine ⟨.ref c, rfl, 63, rfl, c, _, rfl, hS, fun p np => ?_⟩
    have s1 : Same H (upd H p (.lst (cutV (ns.map V.int) none (some 63)))) := same_new np
    rw [ems] at s1
    show ∃ a, V.ref p = .ref a ∧ (∃ xs, SqL K (upd H p (.lst (cutV (ns.map V.int) none (some 63)))) a xs) ∧ _
    rw [ems]
    have hp : SqL K (upd H p (.lst (ms.map V.int))) p (ms.map V.int) := .of upd_same
    refine ⟨p, rfl, ⟨_, hp⟩, for_it (walk_list (xs := ms.map V.int)) (fun i σ H' => ∃ (s : Int) (y : Option V), σ = [some (.ref c), some (.int s), y] ∧ 0 ≤ s ∧ s < 2147483563 ∧ H' = upd H p (.lst (ms.map V.int))) ⟨9450, none, rfl, by decide, by decide, rfl⟩ (fun i σ H' _ hP => ?_) (fun i x σ H' H2 hi hP hy => ?_) (fun σ H' hP => ?_)⟩
    · obtain ⟨s, y, _, _, _, rfl⟩ := hP
      exact hp
    · obtain ⟨s, y, rfl, hs0, hs1, rfl⟩ := hP
      obtain ⟨rfl, hx⟩ := hy
      have hi2 : i < ms.length := by
        rw [List.length_map] at hi
        exact hi
      rw [List.getElem?_map, List.getElem?_eq_getElem hi2] at hx
      have hx := Option.some.inj hx
      subst hx
      refine ⟨.int s, rfl, s, 40014, rfl, rfl, .inl ⟨by omega, by omega⟩, .int ms[i], rfl, ms[i], 2147483563, rfl, rfl, pos1, _, _, rfl, rfl, _, 13, rfl, rfl, _, 2147483563, rfl, rfl, pos1, ?_⟩
      exact ⟨_, _, rfl, (emod_in _).1, (emod_in _).2, rfl⟩
    · obtain ⟨s, y, rfl, hs0, hs1, rfl⟩ := hP
      refine ⟨.ref c, rfl, 63, rfl, c, _, rfl, s1.seq hS, fun p2 np2 => ?_⟩
      have s2 : Same (upd H p (.lst (ms.map V.int))) (upd (upd H p (.lst (ms.map V.int))) p2 (.lst (cutV (ns.map V.int) none (some 63)))) := same_new np2
      refine ⟨p2, _, rfl, .inl (.of upd_same), fun l nl => ?_⟩
      refine ⟨.int s, rfl, by show 4 ≤ sizeLine; decide, fun a na => ?_⟩
      have s3 := same_new (o := .lst (cutV (ns.map V.int) none (some 63))) nl
      have s4 := same_new (o := .lst [V.ref l, .int 0, .int 0, .int s]) na
      refine q a l _ ((s1.trans (s2.trans s3)).free na) ⟨ms, 0, 0, s, upd_same, ?_, by decide, by decide, hs0, hs1⟩ ((s1.trans (s2.trans s3)).trans s4)
      rw [s4 l _ upd_same, ems]
theorem ok_of {f : Addr} {fd : FuncData} {k : Nat} (F : Fun K "_law_of" "_law_of" sLOf f fd) (T : Txt mg) (C__law_pull : Cal P w K mg base k "_law_pull" ["_law_bag_here", "_law_many"] spPull) : FnOk P w K mg base CX0 (k + 1) f fd ["_law_bag_here", "_law_things"] (spOf K) := by
  refine F.ok sc__law_of (fun vs H Q E h => ?_) (fun cdv A outer s H vs Q E hr h => ?_)
  · obtain ⟨a, l, x, xs, rfl, _⟩ := h
    rfl
  · obtain ⟨a, l, x, xs, rfl, hB, hI, h0, h1, q⟩ := h
    refine ⟨_, (pss_one (ps_ret (pe_ix ix_seq (pv 1) (pe_callC C__law_pull hr (by rfl) (pa_cons (pv 0) (pa_cons (pe_callB call_len (by rfl) T.m_len PySem.boot_len (pa_cons (pv 1) pa_nil)) pa_nil))) (fun _ _ => rfl)))), ?_⟩
    have hL : LenV K x H xs.length := by
      rcases hI with ⟨p, rfl, n, h | h⟩ | ⟨z, rfl, rfl⟩
      · exact .inl ⟨_, h, rfl⟩
      · exact .inr ⟨_, h, rfl⟩
      · rw [List.length_map] at h1 ⊢
        exact ⟨Nat.le_trans h1 (by decide), rfl⟩
    refine ⟨x, rfl, .ref a, rfl, x, rfl, x, _, rfl, hL, a, l, _, rfl, hB, by omega, by omega, fun r H' r0 r1 hB' k' => ?_⟩
    have hr2 : r.toNat < xs.length := by omega
    have er : ((r.toNat : Nat) : Int) = r := by omega
    have hx : xs[r.toNat]? = some (xs[r.toNat]) := List.getElem?_eq_getElem hr2
    have hq := q _ H' (List.mem_of_getElem? hx) hB' k'
    rcases hI with ⟨p, rfl, n, h | h⟩ | ⟨z, rfl, rfl⟩
    · exact .inl ⟨p, xs, r, _, rfl, rfl, k'.seq n h, atI_of r0 hx, hq⟩
    · exact .inr (.inl ⟨p, xs, r, _, rfl, rfl, k'.seqT n h, atI_of r0 hx, hq⟩)
    · rw [List.length_map] at h1 hr2
      have hc : z.cps.toList[r.toNat]? = some (z.cps.toList[r.toNat]) := List.getElem?_eq_getElem hr2
      rw [List.getElem?_map, hc] at hx
      have hx := Option.some.inj hx
      rw [← hx] at hq
      exact .inr (.inr ⟨z, r, _, rfl, rfl, Nat.le_trans h1 (by decide), atI_of r0 hc, hq⟩)
end
end Ink
namespace Ink
open PySem PySem.Spec PyProof.Rows L2
/-- None, a bool, a whole number, a text -/
def flatD : V → Bool
  | .non => true
  | .bl _ => true
  | .int _ => true
  | .str _ => true
  | _ => false
/-- v and w hold the same, at most n deep -/
def Lk (K : PySem.W.Frag) (H : Hp) : Nat → V → V → Prop
  | 0, _, _ => False
  | n + 1, v, w => (v = w ∧ flatD w = true) ∨ ∃ (p q : Addr) (xs ys : List V), v = .ref p ∧ w = .ref q ∧ ((SqL K H p xs ∧ SqL K H q ys) ∨ (SqT K H p xs ∧ SqT K H q ys)) ∧ xs.length = ys.length ∧ xs.length ≤ 100000 ∧
      ∀ (i : Nat) (x y : V), xs[i]? = some x → ys[i]? = some y → Lk K H n x y
theorem Lk.same {K : PySem.W.Frag} {H H' : Hp} (e : Same H H') : ∀ {n : Nat} {v w : V}, Lk K H n v w → Lk K H' n v w
  | 0, _, _, h => h.elim
  | n + 1, v, w, h => by
    rcases h with h | ⟨p, q, xs, ys, h1, h2, h3, h4, h5, h6⟩
    · exact .inl h
    · refine .inr ⟨p, q, xs, ys, h1, h2, ?_, h4, h5, fun i x y a b => Lk.same e (h6 i x y a b)⟩
      rcases h3 with ⟨a, b⟩ | ⟨a, b⟩
      · exact .inl ⟨e.seq a, e.seq b⟩
      · exact .inr ⟨same_tup e a, same_tup e b⟩
def spLike (K : PySem.W.Frag) (n : Nat) : Sp := fun vs H Q _ => ∃ v w, vs = [v, w] ∧ Lk K H n v w ∧ ∀ H', Same H H' → Q (.bl true) H'
theorem tyx_l {K : PySem.W.Frag} {H : Hp} {a : Addr} {xs : List V} (h : SqL K H a xs) : TyX K H (.ref a) (.type "list") := by
  rcases h with (h | ⟨o, h⟩) | ⟨o, its, n, h1, h2, _⟩
  · exact .base (.lst h)
  · exact .base (.frz h)
  · exact .kList h1 h2
theorem tyx_t {K : PySem.W.Frag} {H : Hp} {a : Addr} {xs : List V} (h : SqT K H a xs) : TyX K H (.ref a) (.type "tuple") := by
  rcases h with (h | ⟨o, h⟩) | ⟨o, its, n, h1, h2, _⟩
  · exact .base (.tup h)
  · exact .fTuple h
  · exact .kTuple h1 h2
def tyD : V → String
  | .non => "NoneType"
  | .bl _ => "bool"
  | .int _ => "int"
  | _ => "str"
theorem tyx_f {K : PySem.W.Frag} {H : Hp} : ∀ {v : V}, flatD v = true → TyX K H v (.type (tyD v))
  | .non, _ => .base .non
  | .bl b, _ => .base (.bl b)
  | .int i, _ => .base (.int i)
  | .str z, _ => .base (.str z)
theorem kit_f {K : PySem.W.Frag} {T : String} : ∀ {v : V}, flatD v = true → kitB (tyD v) T = kitB (tyD v) T := fun _ => rfl
theorem kt {K : PySem.W.Frag} {a b : String} {r : Bool} (h : kitB a b = some r) : PySem.W.kitOne K (.type a) (.type b) = some r := kit_ty h
theorem kit2 {K : PySem.W.Frag} {t a b : String} {x y r : Bool} (h1 : kitB t a = some x) (h2 : kitB t b = some y) (hr : r = (x || y)) : PySem.W.kitAny K (.type t) [.type a, .type b] = some r := by
  subst hr
  refine kitAny_cons (kt h1) (fun e => ?_) (fun e => by rw [e]; rfl)
  subst e
  exact kitAny_cons (kt h2) (fun e => by rw [e]; exact kitAny_nil) (fun e => by rw [e]; rfl)
theorem kit_lt {K : PySem.W.Frag} : ∀ {v : V}, flatD v = true → PySem.W.kitAny K (.type (tyD v)) [.type "list", .type "tuple"] = some false
  | .non, _ => kit2 (t := "NoneType") (x := false) (y := false) (by decide +kernel) (by decide +kernel) rfl
  | .bl b, _ => kit2 (t := "bool") (x := false) (y := false) (by decide +kernel) (by decide +kernel) rfl
  | .int i, _ => kit2 (t := "int") (x := false) (y := false) (by decide +kernel) (by decide +kernel) rfl
  | .str z, _ => kit2 (t := "str") (x := false) (y := false) (by decide +kernel) (by decide +kernel) rfl
theorem same_mut {H H' : Hp} {p : Addr} {o : HO} (e : Same H H') (h : H p = none) : Same H (upd H' p o) := Evl.Ex.mut e h
theorem small_lt {n : Nat} (h : n < 1000000) : n < sizeLine := Nat.lt_of_lt_of_le h (by decide)
theorem small_le {n : Nat} (h : n ≤ 1000000) : n ≤ sizeLine := Nat.le_trans h (by decide)
theorem yes_of {σ : L2.St} {H : Hp} {Q : Bool → Hp → Prop} (h : Q true H) : tYes σ H Q := h
theorem pair_lt : Paired ClsV [V.ty "list", V.ty "tuple"] [Value.type "list", Value.type "tuple"] := .cons (.ty _) (.cons (.ty _) .nil)
theorem walk_zipT {K : PySem.W.Frag} {a b : Addr} {xs ys : List V} {n : Nat} (hn : n = min xs.length ys.length) : Walk (RZ.ItzT K a b) n (fun H => SqT K H a xs ∧ SqT K H b ys) (YPair (fun i => xs[i]?) (fun i => ys[i]?)) := by
  subst hn
  refine ⟨fun i _ hi q => ?_, fun _ q => ⟨xs, ys, q.1, q.2, by omega⟩, fun i H v H' _ q y => ?_⟩
  · have h1 : i < xs.length := by omega
    have h2 : i < ys.length := by omega
    exact ⟨xs, ys, xs[i], ys[i], q.1, q.2, by simp [h1], by simp [h2]⟩
  · obtain ⟨T, x, z, h1, h2, h3, h4, h5⟩ := y
    exact ⟨T, x, z, h1, h2, h3, h4 xs q.1, h5 ys q.2⟩
theorem rep_all (n : Nat) : (List.replicate n true).all id = true := by
  induction n with
  | zero => rfl
  | succ n ih =>
    rw [List.replicate_succ, List.all_cons, ih]
    rfl
theorem rep_snoc {α : Type} (n : Nat) (x : α) : List.replicate n x ++ [x] = List.replicate (n + 1) x := by
  induction n with
  | zero => rfl
  | succ n ih =>
    rw [List.replicate_succ, List.cons_append, ih]
    rfl
section
variable {P : Program} {w : World} {K : PySem.W.Frag} {mg : Str → Option Value} {base : Heap}
theorem ok_like_step {f : Addr} {fd : FuncData} {k n : Nat} (F : Fun K "_law_like" "_law_like" sLLike f fd) (T : Txt mg)
    (C__law_like : Cal P w K mg base k "_law_like" ["_law_found", "_law_due"] (spLike K n)) :
    FnOk P w K mg base CX0 (k + 1) f fd ["_law_found", "_law_due"] (spLike K (n + 1)) := by
  refine F.ok sc__law_like (fun vs H Q E h => ?_) (fun cdv A outer s H vs Q E hr h => ?_)
  · obtain ⟨a, m, rfl, _⟩ := h
    rfl
  · obtain ⟨v, w', rfl, hL, q⟩ := h
    refine ⟨_, (pss_cons (ps_if (pt_val (pe_callB call_isiT (by rfl) T.m_isinstance (by decide +kernel) (pa_cons (pv 1) (pa_cons (pe_tup (pa_cons (pe_bltn (v := .ty "list") (by rfl) T.m_list (by decide +kernel) rfl) (pa_cons (pe_bltn (v := .ty "tuple") (by rfl) T.m_tuple (by decide +kernel) rfl) pa_nil))) pa_nil))))
    (pss_cons (ps_if (PW.pt (pw_or (pt_cmpR op_ne (pe_callB call_isi (by rfl) T.m_isinstance (by decide +kernel) (pa_cons (pv 0) (pa_cons (pe_bltn (v := .ty "list") (by rfl) T.m_list (by decide +kernel) rfl) pa_nil))) (pe_callB call_isi (by rfl) T.m_isinstance (by decide +kernel) (pa_cons (pv 1) (pa_cons (pe_bltn (v := .ty "list") (by rfl) T.m_list (by decide +kernel) rfl) pa_nil))) (nomark _)) (pw_or1 (pt_cmpR op_ne (pe_callB call_isi (by rfl) T.m_isinstance (by decide +kernel) (pa_cons (pv 0) (pa_cons (pe_bltn (v := .ty "tuple") (by rfl) T.m_tuple (by decide +kernel) rfl) pa_nil))) (pe_callB call_isi (by rfl) T.m_isinstance (by decide +kernel) (pa_cons (pv 1) (pa_cons (pe_bltn (v := .ty "tuple") (by rfl) T.m_tuple (by decide +kernel) rfl) pa_nil))) (nomark _)))))
    (pss_one (ps_ret pe_bl)) pss_nil)
    (pss_one (ps_ret (pe_and (pe_cmpR op_eq (pe_callB call_len (by rfl) T.m_len PySem.boot_len (pa_cons (pv 0) pa_nil)) (pe_callB call_len (by rfl) T.m_len PySem.boot_len (pa_cons (pv 1) pa_nil)) (nomark _)) (pe_one (pe_callB (cr_all rfl) (by rfl) T.m_all (by decide +kernel) (pa_cons (pe_lc (own := [("_law_one", 2), ("_law_other", 3)]) (g := (gTup K 2 (gCons (gName 2) (gCons (gName 3) gNil)))) (by rfl) sc__law_like.nd (RZ.pi_zipA (by rfl) T.m_zip (pa_cons (pv 0) (pa_cons (pv 1) pa_nil))) (blkOk_by (own := [("_law_one", 2), ("_law_other", 3)]) (N := ["_law_found", "_law_due", "_law_one", "_law_other"]) (sc := defScope sLLike) (by decide +kernel)) (fun _ _ _ _ _ => (pg_tup rfl (pgs_cons (pg_name (i := 2) sc__law_like.nd rfl (.inl rfl)) (pgs_cons (pg_name (i := 3) sc__law_like.nd rfl (.inl rfl)) pgs_nil)))) (fun _ _ _ _ _ => pts_nil) (fun _ _ _ _ _ => (pe_callC C__law_like hr (by rfl) (pa_cons (pv 2) (pa_cons (pv 3) pa_nil))))) pa_nil))))))) pss_nil)
    (pss_cons (ps_if (PW.pt (pw_or (pt_cmpR op_isN (pv 0) pe_non (nomark _)) (pw_or1 (pt_cmpR op_isN (pv 1) pe_non (nomark _)))))
    (pss_one (ps_ret (pe_and (pe_cmpR op_isN (pv 0) pe_non (nomark _)) (pe_one (pe_cmpR op_isN (pv 1) pe_non (nomark _)))))) pss_nil)
    (pss_cons (ps_if (PW.pt (pw_or (pt_cmpR op_ne (pe_callB call_isi (by rfl) T.m_isinstance (by decide +kernel) (pa_cons (pv 0) (pa_cons (pe_bltn (v := .ty "bool") (by rfl) T.m_bool (by decide +kernel) rfl) pa_nil))) (pe_callB call_isi (by rfl) T.m_isinstance (by decide +kernel) (pa_cons (pv 1) (pa_cons (pe_bltn (v := .ty "bool") (by rfl) T.m_bool (by decide +kernel) rfl) pa_nil))) (nomark _)) (pw_or1 (pt_cmpR op_ne (pe_callB call_isi (by rfl) T.m_isinstance (by decide +kernel) (pa_cons (pv 0) (pa_cons (pe_bltn (v := .ty "int") (by rfl) T.m_int (by decide +kernel) rfl) pa_nil))) (pe_callB call_isi (by rfl) T.m_isinstance (by decide +kernel) (pa_cons (pv 1) (pa_cons (pe_bltn (v := .ty "int") (by rfl) T.m_int (by decide +kernel) rfl) pa_nil))) (nomark _)))))
    (pss_one (ps_ret pe_bl)) pss_nil)
    (pss_one (ps_ret (pe_and (pe_cmpR op_eq (pe_callB call_isi (by rfl) T.m_isinstance (by decide +kernel) (pa_cons (pv 0) (pa_cons (pe_bltn (v := .ty "str") (by rfl) T.m_str (by decide +kernel) rfl) pa_nil))) (pe_callB call_isi (by rfl) T.m_isinstance (by decide +kernel) (pa_cons (pv 1) (pa_cons (pe_bltn (v := .ty "str") (by rfl) T.m_str (by decide +kernel) rfl) pa_nil))) (nomark _)) (pe_one (pe_cmpR op_eq (pv 0) (pv 1) (nomark _))))))))), ?_⟩
    rcases hL with ⟨rfl, hf⟩ | ⟨p, q', xs, ys, rfl, rfl, hS, hlen, hmax, hit⟩
    · -- a flat thing
      have ty : ∀ H', TyX K H' v (.type (tyD v)) := fun _ => tyx_f hf
      refine ⟨v, rfl, by show 2 ≤ sizeLine; decide, fun tp htp => ⟨v, tp, _, .type (tyD v), _, false, rfl, upd_same, pair_lt, ty _, ?_, false, rfl, iteF ?_⟩⟩
      · exact kit_lt hf
      have sm : Same H (upd H tp (.tup [V.ty "list", V.ty "tuple"])) := same_new htp
      generalize upd H tp (.tup [V.ty "list", V.ty "tuple"]) = H1 at sm
      by_cases hn : v = .non
      · subst hn
        refine ⟨.non, rfl, rfl, true, rfl, iteT (iteT ?_)⟩
        exact ⟨.non, rfl, rfl, true, rfl, iteT ⟨.non, rfl, rfl, q _ sm⟩⟩
      · have dn : decide (v = .non) = false := decide_eq_false hn
        refine ⟨v, rfl, rfl, _, rfl, ?_⟩
        rw [dn]
        refine iteF ⟨v, rfl, rfl, _, rfl, ?_⟩
        rw [dn]
        refine iteF ?_
        obtain ⟨rb, ri, rs, eb, ei, es, sc⟩ : ∃ rb ri rs, kitB (tyD v) "bool" = some rb ∧ kitB (tyD v) "int" = some ri ∧ kitB (tyD v) "str" = some rs ∧ scal v v = true := by
          cases v with
          | non => exact absurd rfl hn
          | bl b => exact ⟨_, _, _, (by decide +kernel : kitB "bool" "bool" = some true), (by decide +kernel : kitB "bool" "int" = some true), (by decide +kernel : kitB "bool" "str" = some false), rfl⟩
          | int b => exact ⟨_, _, _, (by decide +kernel : kitB "int" "bool" = some false), (by decide +kernel : kitB "int" "int" = some true), (by decide +kernel : kitB "int" "str" = some false), rfl⟩
          | str b => exact ⟨_, _, _, (by decide +kernel : kitB "str" "bool" = some false), (by decide +kernel : kitB "str" "int" = some false), (by decide +kernel : kitB "str" "str" = some true), rfl⟩
          | byt b => cases hf
          | flt b => cases hf
          | ref b => cases hf
          | ty b => cases hf
        refine ⟨v, rfl, v, .ty "bool", .type (tyD v), .type "bool", rb, rfl, .ty _, ty _, kt eb, v, rfl, v, .ty "bool", .type (tyD v), .type "bool", rb, rfl, .ty _, ty _, kt eb, rfl, _, rfl, iteNS rfl ?_⟩
        refine ⟨v, rfl, v, .ty "int", .type (tyD v), .type "int", ri, rfl, .ty _, ty _, kt ei, v, rfl, v, .ty "int", .type (tyD v), .type "int", ri, rfl, .ty _, ty _, kt ei, rfl, _, rfl, iteNS rfl ?_⟩
        refine ⟨v, rfl, v, .ty "str", .type (tyD v), .type "str", rs, rfl, .ty _, ty _, kt es, v, rfl, v, .ty "str", .type (tyD v), .type "str", rs, rfl, .ty _, ty _, kt es, rfl, _, rfl, ?_⟩
        rw [decide_eq_true rfl]
        refine iteT ⟨v, rfl, v, rfl, sc, ?_⟩
        rw [decide_eq_true rfl]
        exact q _ sm
    · obtain ⟨Tn, rl, rt, el, et, eo, tp, tq⟩ : ∃ (Tn : String) (rl rt : Bool), kitB Tn "list" = some rl ∧ kitB Tn "tuple" = some rt ∧ (rl || rt) = true ∧ (∀ H', Same H H' → TyX K H' (.ref p) (.type Tn)) ∧ (∀ H', Same H H' → TyX K H' (.ref q') (.type Tn)) := by
        rcases hS with ⟨hp, hq⟩ | ⟨hp, hq⟩
        · exact ⟨"list", true, false, by decide +kernel, by decide +kernel, rfl, fun H' s' => tyx_l (s'.seq hp), fun H' s' => tyx_l (s'.seq hq)⟩
        · exact ⟨"tuple", false, true, by decide +kernel, by decide +kernel, rfl, fun H' s' => tyx_t (same_tup s' hp), fun H' s' => tyx_t (same_tup s' hq)⟩
      refine ⟨.ref q', rfl, by show 2 ≤ sizeLine; decide, fun t htp => ⟨.ref q', t, _, .type Tn, _, true, rfl, upd_same, pair_lt, tq _ (same_new htp), kit2 el et eo.symm, true, rfl, iteT ?_⟩⟩
      have sm : Same H (upd H t (.tup [V.ty "list", V.ty "tuple"])) := same_new htp
      generalize upd H t (.tup [V.ty "list", V.ty "tuple"]) = H1 at sm
      refine ⟨.ref p, rfl, .ref p, .ty "list", .type Tn, .type "list", rl, rfl, .ty _, tp _ sm, kt el, .ref q', rfl, .ref q', .ty "list", .type Tn, .type "list", rl, rfl, .ty _, tq _ sm, kt el, rfl, _, rfl, iteNS rfl ?_⟩
      refine ⟨.ref p, rfl, .ref p, .ty "tuple", .type Tn, .type "tuple", rt, rfl, .ty _, tp _ sm, kt et, .ref q', rfl, .ref q', .ty "tuple", .type Tn, .type "tuple", rt, rfl, .ty _, tq _ sm, kt et, rfl, _, rfl, iteNS rfl ?_⟩
      have lp : LenV K (.ref p) H1 xs.length := by
        rcases hS with ⟨a, b⟩ | ⟨a, b⟩
        · exact .inl ⟨_, sm.seq a, rfl⟩
        · exact .inr ⟨_, same_tup sm a, rfl⟩
      have lq : LenV K (.ref q') H1 ys.length := by
        rcases hS with ⟨a, b⟩ | ⟨a, b⟩
        · exact .inl ⟨_, sm.seq b, rfl⟩
        · exact .inr ⟨_, same_tup sm b, rfl⟩
      refine ⟨.ref p, rfl, .ref p, _, rfl, lp, .ref q', rfl, .ref q', _, rfl, lq, rfl, _, rfl, ?_⟩
      rw [hlen, decide_eq_true rfl]
      refine iteT ⟨.ref p, rfl, .ref q', rfl, p, q', xs, ys, rfl, ?_⟩
      have fin : ∀ (D : Addr) (H' : Hp), H1 D = none → Same H1 H' → H' D = some (.lst (List.replicate xs.length (.bl true))) → rAll K [.ref D] H' Q := fun D H' nD sD eD =>
        ⟨D, List.replicate xs.length true, rfl, .of (by rw [List.map_replicate]; exact eD), by rw [rep_all]; exact q _ (sm.trans sD)⟩
      rcases hS with ⟨hp, hq⟩ | ⟨hp, hq⟩
      · refine .inl ⟨sm.seq hp, sm.seq hq, fun D nD => ?_⟩
        refine lc_it (walk_zip (n := xs.length) (by rw [← hlen, Nat.min_self])) (fun i H' => Same H1 H' ∧ H' D = some (.lst (List.replicate i (.bl true)))) ⟨same_new nD, upd_same⟩ (fun i H' _ hP => ⟨hP.1.seq (sm.seq hp), hP.1.seq (sm.seq hq)⟩) (fun i v H2 H3 hi hP hy => ?_) (fun H' hP => fin D H' nD hP.1 hP.2)
        obtain ⟨s2, e2⟩ := hP
        obtain ⟨T', x, y, rfl, nT, rfl, hx, hy⟩ := hy
        refine ⟨T', [x, y], rfl, .of upd_same, rfl, x, [y], rfl, y, [], rfl, rfl, rfl, yes_of (iteT ?_)⟩
        refine ⟨x, rfl, y, rfl, x, y, rfl, (hit i x y hx hy).same ((sm.trans s2).trans (same_new nT)), fun H5 s5 => ⟨List.replicate i (.bl true), s5 _ _ (same_new nT _ _ e2), small_lt (by rw [List.length_replicate]; omega), ?_, ?_⟩⟩
        · exact same_mut ((s2.trans (same_new nT)).trans s5) nD
        · rw [upd_same, rep_snoc]
      · refine .inr ⟨same_tup sm hp, same_tup sm hq, fun D nD => ?_⟩
        refine lc_it (walk_zipT (n := xs.length) (by rw [← hlen, Nat.min_self])) (fun i H' => Same H1 H' ∧ H' D = some (.lst (List.replicate i (.bl true)))) ⟨same_new nD, upd_same⟩ (fun i H' _ hP => ⟨same_tup hP.1 (same_tup sm hp), same_tup hP.1 (same_tup sm hq)⟩) (fun i v H2 H3 hi hP hy => ?_) (fun H' hP => fin D H' nD hP.1 hP.2)
        obtain ⟨s2, e2⟩ := hP
        obtain ⟨T', x, y, rfl, nT, rfl, hx, hy⟩ := hy
        refine ⟨T', [x, y], rfl, .of upd_same, rfl, x, [y], rfl, y, [], rfl, rfl, rfl, yes_of (iteT ?_)⟩
        refine ⟨x, rfl, y, rfl, x, y, rfl, (hit i x y hx hy).same ((sm.trans s2).trans (same_new nT)), fun H5 s5 => ⟨List.replicate i (.bl true), s5 _ _ (same_new nT _ _ e2), small_lt (by rw [List.length_replicate]; omega), ?_, ?_⟩⟩
        · exact same_mut ((s2.trans (same_new nT)).trans s5) nD
        · rw [upd_same, rep_snoc]
theorem cal_never {f : Addr} {fd : FuncData} {x : Str} {st : Stmt} {ps : List Str} (F : Fun K x x st f fd) (g : mg x = some (.ref f)) (b : Binds K fd ps []) : Cal P w K mg base 0 x ps (fun _ _ _ _ => False) :=
  ⟨f, fd, ⟨fun _ _ _ _ h => h.elim, fun _ _ _ _ _ _ _ _ _ _ _ _ _ h => h.elim⟩, g, F.kp, b⟩
theorem cal_like {f : Addr} {fd : FuncData} (F : Fun K "_law_like" "_law_like" sLLike f fd) (T : Txt mg) (g : mg "_law_like" = some (.ref f)) (b : Binds K fd ["_law_found", "_law_due"] []) :
    ∀ n, Cal P w K mg base n "_law_like" ["_law_found", "_law_due"] (spLike K n)
  | 0 => ⟨f, fd, ⟨fun _ _ _ _ h => by obtain ⟨_, _, _, h, _⟩ := h; exact h.elim, fun _ _ _ _ _ _ _ _ _ _ _ _ _ h => by obtain ⟨_, _, _, h, _⟩ := h; exact h.elim⟩, g, F.kp, b⟩
  | n + 1 => ⟨f, fd, ok_like_step F T (cal_like F T g b n), g, F.kp, b⟩
end
end Ink
namespace Ink
open PySem PySem.Spec PyProof.Rows L2
/-! ### what the defs reckon -/
def isSign (z : Str) : Bool := decide (V.int (z.length : Nat) = V.int 1) && (!decide (z.cps.toList < [97]) && !decide (([122] : List Nat) < z.cps.toList))
def lets : List Nat := [97, 98, 99, 100, 101, 102, 103, 104, 105, 106, 107, 108, 109, 110, 111, 112, 113, 114, 115, 116, 117, 118, 119, 120, 121, 122]
def lawName (z : Str) : Bool := decide ((0 : Int) < (z.length : Nat)) && decide (((z.length : Nat) : Int) < 7) && (z.cps.toList.map fun c => decide (c ∈ lets)).all id
def isName (z : Str) : Bool := decide ((1 : Int) ≤ (z.length : Nat)) && decide (((z.length : Nat) : Int) ≤ 6) && (z.cps.toList.map fun c => isSign ⟨#[c]⟩).all id
theorem lets_iff (c : Nat) : c ∈ lets ↔ 97 ≤ c ∧ c ≤ 122 := by
  unfold lets
  simp only [List.mem_cons, List.not_mem_nil, or_false]
  omega
theorem lt_one (a b : Nat) : (([a] : List Nat) < [b]) ↔ a < b := by
  constructor
  · intro h
    cases h with
    | rel h => exact h
    | cons h => cases h
  · intro h
    exact .rel h
theorem sign_one (c : Nat) : isSign ⟨#[c]⟩ = decide (c ∈ lets) := by
  unfold isSign
  rw [show decide (V.int (((⟨#[c]⟩ : Str).length : Nat) : Int) = V.int 1) = true from decide_eq_true rfl, Bool.true_and]
  show (!decide (([c] : List Nat) < [97]) && !decide (([122] : List Nat) < [c])) = _
  rw [decide_eq_decide.mpr (lt_one c 97), decide_eq_decide.mpr (lt_one 122 c), decide_eq_decide.mpr (lets_iff c)]
  by_cases h1 : c < 97
  · rw [decide_eq_true h1, decide_eq_false (by omega : ¬ (97 ≤ c ∧ c ≤ 122))]
    rfl
  · rw [decide_eq_false h1]
    by_cases h2 : 122 < c
    · rw [decide_eq_true h2, decide_eq_false (by omega : ¬ (97 ≤ c ∧ c ≤ 122))]
      rfl
    · rw [decide_eq_false h2, decide_eq_true (by omega : (97 ≤ c ∧ c ≤ 122))]
      rfl
theorem name_eq (z : Str) : isName z = lawName z := by
  unfold isName lawName
  rw [show (fun c => isSign ⟨#[c]⟩) = fun c => decide (c ∈ lets) from funext sign_one]
  rw [decide_eq_decide.mpr (show ((1 : Int) ≤ (z.length : Nat)) ↔ ((0 : Int) < (z.length : Nat)) by omega), decide_eq_decide.mpr (show (((z.length : Nat) : Int) ≤ 6) ↔ (((z.length : Nat) : Int) < 7) by omega)]
theorem sign_eq (z : Str) : isSign z = (lawName z && decide (V.int (z.length : Nat) = V.int 1)) := by
  by_cases h : z.length = 1
  · obtain ⟨c, rfl⟩ : ∃ c, z = ⟨#[c]⟩ := by
      obtain ⟨⟨l⟩⟩ := z
      have h : l.length = 1 := h
      cases l with
      | nil => cases h
      | cons c r =>
        cases r with
        | nil => exact ⟨c, rfl⟩
        | cons d r =>
          rw [List.length_cons, List.length_cons] at h
          omega
    rw [sign_one]
    unfold lawName
    show decide (c ∈ lets) = ((decide ((0 : Int) < 1) && decide ((1 : Int) < 7) && ([decide (c ∈ lets)]).all id) && decide (V.int 1 = V.int 1))
    rw [decide_eq_true (rfl : V.int 1 = V.int 1)]
    cases decide (c ∈ lets) <;> rfl
  · have e : decide (V.int (z.length : Nat) = V.int 1) = false := decide_eq_false fun q => h (by
      injection q with q
      omega)
    unfold isSign
    rw [e, Bool.and_false, Bool.false_and]
/-! ### a comprehension over a text, its items reckoned from the signs -/
theorem take_snoc {α : Type} {l : List α} {i : Nat} {x : α} (h : l[i]? = some x) : l.take (i + 1) = l.take i ++ [x] := by
  rw [List.take_add_one, h]
  rfl
theorem el_lcS {σ : L2.St} {H : Hp} {z : Str} {tl te : TE} {j : Nat} {vs : List Nat} (f : Nat → V) (h : Evl.Ev tl σ H (.str z)) (hz : z.length ≤ 40000) (hw : ∀ x, wipe ((wipe σ vs).set j (some x)) vs = wipe σ vs)
    (he : ∀ (c : Nat) H1, Evl.Ex H H1 → c ∈ z.cps.toList → Evl.Ev te ((wipe σ vs).set j (some (.str ⟨#[c]⟩))) H1 (f c)) : Evl.EvL (tLc (iStr tl) (gName j) tYes te vs) σ H (z.cps.toList.map f) := fun H0 e Q q => h H0 e _ fun H1 e1 => ⟨z, rfl, fun D nD =>
  lc_it walk_str (fun i H' => Evl.Ex H1 H' ∧ H' D = some (.lst ((z.cps.toList.map f).take i))) ⟨Evl.Ex.new nD, upd_same⟩ (fun _ _ _ _ => True.intro) (fun i v H2 H3 hi hP hy => by
    obtain ⟨rfl, c, hc, rfl⟩ := hy
    obtain ⟨s2, e2⟩ := hP
    have hc2 : z.cps.toList[i]? = some c := by rw [Array.getElem?_toList]; exact hc
    refine ⟨hw _, yes_of (iteT ?_)⟩
    refine he c H3 ((e.trans e1).trans s2) (List.mem_of_getElem? hc2) H3 (Evl.Ex.refl H3) _ fun H4 e4 => ⟨_, e4 _ _ e2, ?_, Evl.Ex.mut (s2.trans e4) nD, ?_⟩
    · rw [List.length_take, List.length_map]
      have hz2 : z.cps.size ≤ 40000 := hz
      exact small_lt (by omega)
    · rw [upd_same, take_snoc (x := f c) (by rw [List.getElem?_map, hc2]; rfl)]) (fun H' hP => by
    have ez : ((z.cps.toList.map f).take z.cps.size) = z.cps.toList.map f := List.take_of_length_le (by rw [List.length_map]; exact Nat.le_refl _)
    have h2 := hP.2
    rw [ez] at h2
    exact q D H' (Evl.fresh_back e1 nD) (e1.trans hP.1) h2)⟩
section
open Evl
variable {K : PySem.W.Frag} {σ : L2.St} {H : Hp} {ta tb tc te : TE}
theorem ev_all {bs : List Bool} (h : EvL te σ H (bs.map V.bl)) : Ev (tCB (rAll K) (tCons te tNil)) σ H (.bl (bs.all id)) := fun H1 e Q q => h H1 e _ fun p H2 np e2 hp => ⟨p, bs, rfl, .of hp, q H2 e2⟩
theorem ev_lenS {z : Str} (h : Ev te σ H (.str z)) (hz : z.length ≤ 1000000) : Ev (tCB (fun xs H Q => ∃ z : Str, xs = [.str z] ∧ z.length ≤ sizeLine ∧ Q (.int z.length) H) (tCons te tNil)) σ H (.int (z.length : Nat)) := fun H1 e Q q =>
  h H1 e _ fun H2 e2 => ⟨z, rfl, small_le hz, q H2 e2⟩
theorem ev_chainI {f g : Int → Int → Bool} {i j k : Int} (ha : Ev ta σ H (.int i)) (hb : Ev tb σ H (.int j)) (hc : Ev tc σ H (.int k)) : Ev (tChain (rI0 fun i j => .bl (f i j)) (rI0 fun i j => .bl (g i j)) ta tb tc) σ H (.bl (f i j && g j k)) := fun H1 e Q q =>
  ha H1 e _ fun H2 e2 => hb H2 (e.trans e2) _ fun H3 e3 => ⟨i, j, rfl, rfl, f i j, rfl, by
    cases h : f i j with
    | true =>
      rw [h] at q
      exact iteT (hc H3 ((e.trans e2).trans e3) _ fun H4 e4 => ⟨j, k, rfl, rfl, q H4 ((e2.trans e3).trans e4)⟩)
    | false =>
      rw [h] at q
      exact iteF (q H3 (e2.trans e3))⟩
theorem ev_chainS {R R' : R2} {f g : Str → Str → Bool} {x y z : Str} (hR : ∀ x y H (Q : VK), Q (.bl (f x y)) H → R (.str x) (.str y) H Q) (hR' : ∀ x y H (Q : VK), Q (.bl (g x y)) H → R' (.str x) (.str y) H Q)
    (ha : Ev ta σ H (.str x)) (hb : Ev tb σ H (.str y)) (hc : Ev tc σ H (.str z)) : Ev (tChain R R' ta tb tc) σ H (.bl (f x y && g y z)) := fun H1 e Q q =>
  ha H1 e _ fun H2 e2 => hb H2 (e.trans e2) _ fun H3 e3 => hR x y H3 _ ⟨f x y, rfl, by
    cases h : f x y with
    | true =>
      rw [h] at q
      exact iteT (hc H3 ((e.trans e2).trans e3) _ fun H4 e4 => hR' y z H4 Q (q H4 ((e2.trans e3).trans e4)))
    | false =>
      rw [h] at q
      exact iteF (q H3 (e2.trans e3))⟩
theorem ev_call {sp : Sp} {ta : TA} {vs : List V} {v : V} (h : EvA ta σ H vs) (hsp : ∀ H1 (Q : VK), Ex H H1 → (∀ H2, Ex H1 H2 → Q v H2) → sp vs H1 Q E0) : Ev (tCall sp [] E0 ta) σ H v := fun H1 e Q q =>
  h H1 e _ fun H2 e2 => by
    show sp (vs ++ []) H2 Q E0
    rw [List.append_nil]
    exact hsp H2 Q (e.trans e2) fun H3 e3 => q H3 (e2.trans e3)
end
def spSign : Sp := fun vs H Q _ => ∃ z, vs = [.str z] ∧ z.length ≤ 1000 ∧ ∀ H', Same H H' → Q (.bl (isSign z)) H'
def spLetters : Sp := fun vs H Q _ => vs = [] ∧ ∀ H', Same H H' → Q (.str ⟨lets.toArray⟩) H'
def spLawName : Sp := fun vs H Q _ => ∃ z, vs = [.str z] ∧ z.length ≤ 1000 ∧ ∀ H', Same H H' → Q (.bl (lawName z)) H'
def spName : Sp := fun vs H Q _ => ∃ z, vs = [.str z] ∧ z.length ≤ 1000 ∧ ∀ H', Same H H' → Q (.bl (isName z)) H'
section
variable {P : Program} {w : World} {K : PySem.W.Frag} {mg : Str → Option Value} {base : Heap}
theorem and_bl {b : Bool} {A : Prop} {Q : VK} {H : Hp} (h0 : b = false → Q (.bl false) H) (h1 : b = true → A) : if b = true then A else Q (.bl false) H := by
  cases b with
  | true => exact iteT (h1 rfl)
  | false => exact iteF (h0 rfl)
theorem bls_eq {α : Type} (l : List α) (g : α → Bool) : l.map (fun c => V.bl (g c)) = (l.map g).map V.bl := by
  rw [List.map_map]
  rfl
end
end Ink
namespace Ink
open PySem PySem.Spec PyProof.Rows L2
theorem joinL_len : ∀ ps : List (List Nat), (TL.joinL [] ps).length = (ps.map List.length).sum
  | [] => rfl
  | [p] => by
    show p.length = p.length + 0
    rfl
  | p :: q :: r => by
    show (p ++ ([] ++ TL.joinL [] (q :: r))).length = p.length + ((q :: r).map List.length).sum
    rw [List.length_append, List.nil_append, joinL_len (q :: r)]
theorem join_len (zs : List Str) : (Txt.join ⟨#[]⟩ zs).length = (zs.map (·.length)).sum := by
  rw [TL.join_eq]
  show (Str.join ⟨#[]⟩ zs).cps.toList.length = _
  have h := TL.tl_join ⟨#[]⟩ zs
  unfold TL.tl at h
  rw [h, joinL_len, List.map_map]
  rfl
theorem sum_ones : ∀ zs : List Str, (∀ z ∈ zs, z.length ≤ 1) → (zs.map (·.length)).sum ≤ zs.length
  | [], _ => Nat.le_refl _
  | z :: r, h => by
    have h1 := h z (List.mem_cons_self ..)
    have h2 := sum_ones r fun y hy => h y (List.mem_cons_of_mem _ hy)
    show z.length + (r.map (·.length)).sum ≤ r.length + 1
    omega

/-- texts cut at places -/
theorem cut_to {z : Str} {t : Int} (h : 0 ≤ t) : (cutS z none (some t)).cps.toList = z.cps.toList.take t.toNat := by
  have e : ((t.toNat : Nat) : Int) = t := by omega
  show (((z.cps.toList.drop (HT.sIx z.length 0 none)).take (HT.sIx z.length z.length (some t) - HT.sIx z.length 0 none)).toArray).toList = _
  rw [List.toList_toArray, HT.sIx_none, ← e, HT.sIx_nat, List.drop_zero, Nat.sub_zero, Int.toNat_natCast]
  by_cases hz : t.toNat ≤ z.length
  · rw [Nat.min_eq_left hz]
  · have hl : z.cps.toList.length = z.length := Array.length_toList
    rw [Nat.min_eq_right (by omega), List.take_of_length_le (by omega), List.take_of_length_le (by omega)]
theorem cut_from {z : Str} {t : Int} (h : 0 ≤ t) : (cutS z (some t) none).cps.toList = z.cps.toList.drop t.toNat := by
  have e : ((t.toNat : Nat) : Int) = t := by omega
  show (((z.cps.toList.drop (HT.sIx z.length 0 (some t))).take (HT.sIx z.length z.length none - HT.sIx z.length 0 (some t))).toArray).toList = _
  have hl : z.cps.toList.length = z.length := Array.length_toList
  rw [List.toList_toArray, HT.sIx_none, ← e, HT.sIx_nat, Int.toNat_natCast]
  by_cases hz : t.toNat ≤ z.length
  · rw [Nat.min_eq_left hz]
    exact List.take_of_length_le (by rw [List.length_drop]; omega)
  · rw [Nat.min_eq_right (by omega), List.drop_eq_nil_of_le (by omega), List.drop_eq_nil_of_le (by omega), List.take_nil]
theorem join_list (zs : List Str) : (Txt.join ⟨#[]⟩ zs).cps.toList = (zs.map fun z => z.cps.toList).flatten := by
  rw [TL.join_eq]
  have h := TL.tl_join ⟨#[]⟩ zs
  unfold TL.tl at h
  rw [h]
  have g : ∀ ps : List (List Nat), TL.joinL [] ps = ps.flatten := by
    intro ps
    induction ps with
    | nil => rfl
    | cons p r ih =>
      cases r with
      | nil =>
        show p = ([p] : List (List Nat)).flatten
        rw [List.flatten_cons, List.flatten_nil, List.append_nil]
      | cons q r =>
        show p ++ ([] ++ TL.joinL [] (q :: r)) = _
        rw [List.nil_append, ih]
        rfl
  exact g _
theorem join_ones (cs : List Nat) : (Txt.join ⟨#[]⟩ (cs.map fun c => ⟨#[c]⟩)).cps.toList = cs := by
  rw [join_list, List.map_map]
  induction cs with
  | nil => rfl
  | cons c r ih =>
    rw [List.map_cons, List.flatten_cons, ih]
    rfl
/-- a name: one to six small letters -/
def NameZ (z : Str) : Prop := 1 ≤ z.length ∧ z.length ≤ 6 ∧ ∀ c ∈ z.cps.toList, c ∈ lets
theorem NameZ.is {z : Str} (h : NameZ z) : lawName z = true := by
  unfold lawName
  obtain ⟨h1, h2, h3⟩ := h
  rw [decide_eq_true (by omega : (0 : Int) < (z.length : Nat)), decide_eq_true (by omega : ((z.length : Nat) : Int) < 7), Bool.true_and, Bool.true_and, List.all_map, List.all_eq_true]
  intro c hc
  exact decide_eq_true (h3 c hc)
def single (c : Nat) : Str := ⟨#[c]⟩
theorem lets_at {i : Int} (h0 : 0 ≤ i) (h1 : i < 26) : lets[i.toNat]? = some (97 + i.toNat) ∧ 97 + i.toNat ∈ lets := by
  have h : ∀ n : Nat, n < 26 → lets[n]? = some (97 + n) ∧ 97 + n ∈ lets := by decide
  exact h i.toNat (by omega)
end Ink
namespace Ink
open PySem PySem.Spec PyProof.Rows L2
section
variable {P : Program} {w : World} {K : PySem.W.Frag} {mg : Str → Option Value} {base : Heap}
theorem ok_letters {f : Addr} {fd : FuncData} {k : Nat} (F : Fun K "_law_letters" "_law_letters" sLLetters f fd) : FnOk P w K mg base CX0 (k + 1) f fd [] spLetters := by
  refine F.ok sc__law_letters (fun vs H Q E h => ?_) (fun cdv A outer s H vs Q E hr h => ?_)
  · obtain ⟨rfl, _⟩ := h
    rfl
  · obtain ⟨rfl, q⟩ := h
    refine ⟨_, (pss_one (ps_ret pe_str)), ?_⟩
    exact q H (Same.refl H)
end
end Ink
namespace Ink
open PySem PySem.Spec PyProof.Rows L2
/-- names: one to six small letters each, unlike -/
def spNames : Sp := fun vs H Q _ => ∃ (a l : Addr) (m : Int), vs = [.ref a, .int m] ∧ BagAt H a l ∧ 0 ≤ m ∧ m ≤ 20 ∧ ∀ p (zs : List Str) H', H p = none → zs.length = m.toNat → (∀ z ∈ zs, NameZ z) → zs.Nodup → H' p = some (.lst (zs.map V.str)) → BagAt H' a l → Keep a H H' → Q (.ref p) H'
theorem mod_apart {s t : Int} {i j : Nat} (ht : t = 1 ∨ t = 3 ∨ t = 5 ∨ t = 7) (hi : i < 26) (hj : j < 26) (h : (s + t * (i : Int)) % 26 = (s + t * (j : Int)) % 26) : i = j := by
  rcases ht with rfl | rfl | rfl | rfl <;> omega
theorem odd_of {v : V} (h : v ∈ [V.int 1, V.int 3, V.int 5, V.int 7]) : ∃ t : Int, v = .int t ∧ (t = 1 ∨ t = 3 ∨ t = 5 ∨ t = 7) := by
  simp only [List.mem_cons, List.not_mem_nil, or_false] at h
  rcases h with rfl | rfl | rfl | rfl
  · exact ⟨_, rfl, .inl rfl⟩
  · exact ⟨_, rfl, .inr (.inl rfl)⟩
  · exact ⟨_, rfl, .inr (.inr (.inl rfl))⟩
  · exact ⟨_, rfl, .inr (.inr (.inr rfl))⟩
/-- the sign at one place tells the names apart -/
def Apart (s t at' : Int) (zs : List Str) : Prop := ∀ (j : Nat) z, zs[j]? = some z → z.cps.toList[at'.toNat]? = some (97 + ((s + t * (j : Int)) % 26).toNat)
theorem Apart.nodup {s t at' : Int} {zs : List Str} (ht : t = 1 ∨ t = 3 ∨ t = 5 ∨ t = 7) (hl : zs.length ≤ 20) (h : Apart s t at' zs) : zs.Nodup := by
  rw [List.nodup_iff_pairwise_ne, List.pairwise_iff_getElem]
  intro i j hi hj hij e
  have h1 := h i _ (List.getElem?_eq_getElem hi)
  have h2 := h j _ (List.getElem?_eq_getElem hj)
  rw [e] at h1
  have h3 := Option.some.inj (h1.symm.trans h2)
  have m1 := Int.emod_nonneg (s + t * (i : Int)) (show (26 : Int) ≠ 0 by decide)
  have m2 := Int.emod_nonneg (s + t * (j : Int)) (show (26 : Int) ≠ 0 by decide)
  have := mod_apart (s := s) (t := t) (i := i) (j := j) ht (by omega) (by omega) (by omega)
  omega
/-- base[:at] + sign + base[at + 1:], then cut -/
theorem name_made {b z : Str} {at' u : Int} {c : Nat} (hb : NameZ b) (h0 : 0 ≤ at') (h1 : at' < (b.length : Nat)) (hc : c ∈ lets) (hz : z.cps.toList = b.cps.toList.take at'.toNat ++ [c] ++ b.cps.toList.drop (at' + 1).toNat) :
    (NameZ z ∧ z.cps.toList[at'.toNat]? = some c) ∧ (at' + 1 ≤ u → NameZ (cutS z none (some u)) ∧ (cutS z none (some u)).cps.toList[at'.toNat]? = some c) := by
  obtain ⟨b1, b2, b3⟩ := hb
  have bl : b.cps.toList.length = b.length := Array.length_toList
  have zl : z.cps.toList.length = z.length := Array.length_toList
  have zl2 : z.length = b.length := by
    rw [← zl, hz, List.length_append, List.length_append, List.length_take, List.length_drop, List.length_singleton]
    omega
  have zm : ∀ x ∈ z.cps.toList, x ∈ lets := by
    intro x hx
    rw [hz] at hx
    rcases List.mem_append.mp hx with hx | hx
    · rcases List.mem_append.mp hx with hx | hx
      · exact b3 x (List.mem_of_mem_take hx)
      · rw [List.mem_singleton.mp hx]
        exact hc
    · exact b3 x (List.mem_of_mem_drop hx)
  have zat : z.cps.toList[at'.toNat]? = some c := by
    have tl : (b.cps.toList.take at'.toNat).length = at'.toNat := by
      rw [List.length_take]
      omega
    rw [hz, List.append_assoc, List.getElem?_append_right (by omega), tl, Nat.sub_self]
    rfl
  refine ⟨⟨⟨by omega, by omega, zm⟩, zat⟩, fun hu => ?_⟩
  have e := cut_to (z := z) (t := u) (by omega)
  have cl : (cutS z none (some u)).cps.toList.length = (cutS z none (some u)).length := Array.length_toList
  refine ⟨⟨?_, ?_, fun x hx => ?_⟩, ?_⟩
  · rw [← cl, e, List.length_take]
    omega
  · have := cutS_length z none (some u)
    omega
  · rw [e] at hx
    exact zm x (List.mem_of_mem_take hx)
  · rw [e, List.getElem?_take_of_lt (by omega)]
    exact zat
theorem sum_single : ∀ cs : List Nat, ((cs.map fun c => (⟨#[c]⟩ : Str)).map (·.length)).sum = cs.length
  | [] => rfl
  | c :: r => by
    rw [List.map_cons, List.map_cons, List.sum_cons, sum_single r, List.length_cons]
    show 1 + r.length = r.length + 1
    omega
section
variable {P : Program} {w : World} {K : PySem.W.Frag} {mg : Str → Option Value} {base : Heap}
theorem ok_names {f : Addr} {fd : FuncData} {k : Nat} (F : Fun K "_law_names" "_law_names" sLNames f fd) (T : Txt mg)
    (C__law_pull : Cal P w K mg base k "_law_pull" ["_law_bag_here", "_law_many"] spPull) (C__law_of : Cal P w K mg base k "_law_of" ["_law_bag_here", "_law_things"] (spOf K)) (C__law_letters : Cal P w K mg base k "_law_letters" [] spLetters) :
    FnOk P w K mg base CX0 (k + 1) f fd ["_law_bag_here", "_law_many"] spNames := by
  refine F.ok sc__law_names (fun vs H Q E h => ?_) (fun cdv A outer s H vs Q E hr h => ?_)
  · obtain ⟨a, l, m, rfl, _⟩ := h
    rfl
  · obtain ⟨a, l, m, rfl, hB, m0, m1, q⟩ := h
    refine ⟨_, (pss_cons (ps_asg (pe_tup (pa_cons (pe_op op_add pe_int (pe_callC C__law_pull hr (by rfl) (pa_cons (pv 0) (pa_cons pe_int pa_nil)))) (pa_cons (pe_callC0 C__law_letters hr (by rfl)) pa_nil))) (pg_tup rfl (pgs_cons (pg_name (i := 2) sc__law_names.nd rfl (.inl rfl)) (pgs_cons (pg_name (i := 3) sc__law_names.nd rfl (.inr rfl)) pgs_nil))))
    (pss_cons (ps_par (i := 4) (j := 5) (by rfl) sc__law_names.nd rfl rfl (by decide) rfl rfl (pa_cons (pe_callC C__law_pull hr (by rfl) (pa_cons (pv 0) (pa_cons (pv 2) pa_nil))) (pa_cons (pe_callC C__law_pull hr (by rfl) (pa_cons (pv 0) (pa_cons pe_int pa_nil))) pa_nil)) (by rfl))
    (pss_cons (ps_set (i := 6) sc__law_names.nd rfl (.inl rfl) (pe_callC C__law_of hr (by rfl) (pa_cons (pv 0) (pa_cons (pe_lst (pa_cons pe_int (pa_cons pe_int (pa_cons pe_int (pa_cons pe_int pa_nil))))) pa_nil))))
    (pss_cons (ps_par (i := 7) (j := 8) (by rfl) sc__law_names.nd rfl rfl (by decide) rfl rfl (pa_cons (pe_join pe_str (pe_lc (own := [("_law_k", 9)]) (g := (gName 9)) (by rfl) sc__law_names.nd (pi_range1 (by rfl) T.m_range (pa_cons (pv 2) pa_nil)) (blkOk_by (own := [("_law_k", 9)]) (N := ["_law_bag_here", "_law_many", "_law_size", "_law_letters_here", "_law_at", "_law_start", "_law_step", "_law_base", "_law_found", "_law_k", "_law_sign", "_law_name"]) (sc := defScope sLNames) (by decide +kernel)) (fun _ _ _ _ _ => (pg_name (i := 9) sc__law_names.nd rfl (Or.inl rfl))) (fun _ _ _ _ _ => pts_nil) (fun _ _ _ _ _ => (pe_callC C__law_of hr (by rfl) (pa_cons (pv 0) (pa_cons (pv 3) pa_nil)))))) (pa_cons (pe_lst pa_nil) pa_nil)) (by rfl))
    (pss_cons (ps_for PassesOwn.never rfl (pi_range1 (by rfl) T.m_range (pa_cons (pv 1) pa_nil)) (pg_name (i := 9) sc__law_names.nd rfl (.inl rfl))
    (pss_cons (ps_set (i := 10) sc__law_names.nd rfl (.inl rfl) (pe_ix ix_str (pv 3) (pe_op op_mod (pe_op op_add (pv 5) (pe_op op_mul (pv 6) (pv 9))) pe_int) (fun _ _ => rfl)))
    (pss_cons (ps_set (i := 11) sc__law_names.nd rfl (.inl rfl) (pe_op op_add_str (pe_op op_add_str (pe_slice sl_str (pv 7) po_none (po_some (pv 4))) (pv 10)) (pe_slice sl_str (pv 7) (po_some (pe_op op_add (pv 4) pe_int)) po_none)))
    (pss_one (ps_expr (pe_bm PySem.F.plainAttrs_list PySem.F.slot_list_append PySem.F.type_list_append mt_append (pv 8) (pa_cons (pe_ifExp (pt_cmpR op_eq (pe_callC C__law_pull hr (by rfl) (pa_cons (pv 0) (pa_cons pe_int pa_nil))) pe_int (nomark _)) (pe_slice sl_str (pv 11) po_none (po_some (pe_callB (call_max2 rfl) (by rfl) T.m_max (by decide +kernel) (pa_cons (pe_op op_add (pv 4) pe_int) (pa_cons (pe_op op_sub (pv 2) (pv 9)) pa_nil))))) (pv 11)) pa_nil)))))))
    (pss_one (ps_ret (pv 8)))))))), ?_⟩
    -- size, letters
    refine ⟨.ref a, rfl, a, l, 6, rfl, hB, by decide, by decide, fun sz' H1 z0 z1 hB1 k1 => ⟨1, sz', rfl, rfl, rfl, fun H2 s2 => ⟨by show 2 ≤ sizeLine; decide, fun p1 np1 => ?_⟩⟩⟩
    have hB2 := hB1.same s2
    have hB3 := hB2.upd (o := .tup [V.int (1 + sz'), V.str ⟨lets.toArray⟩]) (hB2.ne np1)
    have k3 : Keep a H (upd H2 p1 (.tup [V.int (1 + sz'), V.str ⟨lets.toArray⟩])) := (k1.trans (Keep.of_same s2)).trans (Keep.of_same (same_new np1))
    refine ⟨p1, _, rfl, .of upd_same, rfl, _, _, rfl, _, _, rfl, rfl, ?_⟩
    -- at, start
    refine ⟨.ref a, rfl, .int (1 + sz'), rfl, a, l, _, rfl, hB3, by omega, by omega, fun at' H4 a0 a1 hB4 k4 => ?_⟩
    refine ⟨.ref a, rfl, a, l, 26, rfl, hB4, by decide, by decide, fun st H5 s0 s1 hB5 k5 => ⟨_, _, rfl, ?_⟩⟩
    -- step
    refine ⟨.ref a, rfl, by show 4 ≤ sizeLine; decide, fun p2 np2 => ?_⟩
    refine ⟨a, l, _, _, rfl, hB5.upd (hB5.ne np2), .inl ⟨p2, rfl, (hB5.ne np2).1.symm, .inl (.of upd_same)⟩, by decide, by decide, fun v H6 hv hB6 k6 => ?_⟩
    obtain ⟨t, rfl, ht⟩ := odd_of hv
    have k56 : Keep a H H6 := ((k3.trans k4).trans k5).trans ((Keep.of_same (same_new np2)).trans k6)
    -- base, found
    refine ⟨⟨_, rfl⟩, .int (1 + sz'), rfl, _, rfl, by omega, by omega, fun D nD => ?_⟩
    refine lc_it walk_range (fun i H' => BagAt H' a l ∧ Keep a H6 H' ∧ ∃ cs : List Nat, cs.length = i ∧ (∀ c ∈ cs, c ∈ lets) ∧ H' D = some (.lst ((cs.map fun c => (⟨#[c]⟩ : Str)).map V.str))) ⟨hB6.upd (hB6.ne nD), Keep.mut (Keep.refl H6) nD, [], rfl, fun _ h => (nomatch h), upd_same⟩ (fun _ _ _ _ => True.intro) (fun i x H7 H8 hi hP hy => ?_) (fun H7 hP => ?_)
    · obtain ⟨hB7, k7, cs, rfl, hcs, eD⟩ := hP
      obtain ⟨rfl, rfl⟩ := hy
      refine ⟨rfl, yes_of (iteT ?_)⟩
      refine ⟨.ref a, rfl, _, rfl, a, l, _, _, rfl, hB7, .inr ⟨_, rfl, rfl⟩, by decide, by decide, fun v H9 hv hB9 k9 => ?_⟩
      obtain ⟨c, hc, rfl⟩ := List.mem_map.mp hv
      have hc : c ∈ lets := by simpa using hc
      refine ⟨_, k9 D _ (hB6.ne nD).1.symm eD, ?_, hB9.upd (hB6.ne nD), Keep.mut (k7.trans k9) nD, cs ++ [c], ?_, ?_, ?_⟩
      · rw [List.length_map, List.length_map]
        exact small_lt (by omega)
      · rw [List.length_append]
        rfl
      · intro x h
        rcases List.mem_append.mp h with h | h
        · exact hcs x h
        · rw [List.mem_singleton.mp h]
          exact hc
      · rw [upd_same, List.map_append, List.map_append]
        rfl
    · obtain ⟨hB7, k7, cs, ecs, hcs, eD⟩ := hP
      refine ⟨_, D, _, rfl, rfl, .inl (.of eD), ?_, ?_⟩
      · rw [sum_single, List.length_map]
        show cs.length + cs.length * 0 ≤ 16777216
        omega
      have jb := join_ones cs
      change (Txt.join (Str.ofString "") (cs.map fun c => ⟨#[c]⟩)).cps.toList = cs at jb
      generalize Txt.join (Str.ofString "") (cs.map fun c => ⟨#[c]⟩) = b at jb
      have bl : b.length = cs.length := by
        rw [← jb]
        exact Array.length_toList.symm
      have hb : NameZ b := ⟨by omega, by omega, by rw [jb]; exact hcs⟩
      -- found
      refine ⟨by show 0 ≤ sizeLine; decide, fun fo nfo => ⟨_, _, rfl, ?_⟩⟩
      have hB8 := hB7.upd (o := .lst []) (hB7.ne nfo)
      have nfo0 : H fo = none := by
        cases h : H fo with
        | none => rfl
        | some o =>
          by_cases e : fo = a
          · exact absurd e.symm (hB7.ne nfo).1
          · rw [(k56.trans k7) fo o e h] at nfo
            cases nfo
      have k8 : Keep a H (upd H7 fo (.lst [])) := (k56.trans k7).trans (Keep.of_same (same_new nfo))
      have fa : a ≠ fo ∧ l ≠ fo := hB7.ne nfo
      have e8 : (upd H7 fo (.lst [])) fo = some (.lst []) := upd_same
      generalize upd H7 fo (.lst []) = H8 at hB8 k8 e8
      -- the loop
      refine ⟨.int m, rfl, m, rfl, by omega, by omega, for_it walk_range0 (fun i σ H' => (∃ y9 y10 y11, σ = [some (.ref a), some (.int m), some (.int (1 + sz')), some (.str ⟨lets.toArray⟩), some (.int at'), some (.int st), some (.int t), some (.str b), some (.ref fo), y9, y10, y11]) ∧ BagAt H' a l ∧ Keep a H H' ∧
        ∃ zs : List Str, zs.length = i ∧ (∀ z ∈ zs, NameZ z) ∧ Apart st t at' zs ∧ H' fo = some (.lst (zs.map V.str))) ⟨⟨none, none, none, rfl⟩, hB8, k8, [], rfl, fun _ h => (nomatch h), fun j z h => by simp at h, e8⟩ (fun _ _ _ _ _ => True.intro) (fun i x σ H9 H10 hi hP hy => ?_) (fun σ H9 hP => ?_)⟩
      · obtain ⟨⟨y9, y10, y11, rfl⟩, hB9, k9, zs, rfl, hzs, hap, efo⟩ := hP
        obtain ⟨rfl, rfl⟩ := hy
        have n0 := Int.emod_nonneg (st + t * (zs.length : Int)) (show (26 : Int) ≠ 0 by decide)
        have n1 := Int.emod_lt_of_pos (st + t * (zs.length : Int)) (show (0 : Int) < 26 by decide)
        obtain ⟨l1, l2⟩ := lets_at n0 n1
        -- sign
        refine ⟨.str ⟨lets.toArray⟩, rfl, .int st, rfl, .int t, rfl, _, rfl, t, (zs.length : Int), rfl, rfl, .inl ⟨by omega, by omega⟩, st, _, rfl, rfl, _, 26, rfl, rfl, (by show (0 : Int) < 26; decide), ⟨lets.toArray⟩, _, 97 + ((st + t * (zs.length : Int)) % 26).toNat, rfl, rfl, (by decide), atI_of n0 (by rw [List.toList_toArray]; exact l1), ?_⟩
        have hcc : some (97 + ((st + t * (zs.length : Int)) % 26).toNat) = some (97 + ((st + t * (zs.length : Int)) % 26).toNat) := rfl
        generalize hc : 97 + ((st + t * (zs.length : Int)) % 26).toNat = c at l1 l2
        have ez : ∀ z : Str, z = (cutS b none (some at') ++ ⟨#[c]⟩) ++ cutS b (some (at' + 1)) none → z.cps.toList = b.cps.toList.take at'.toNat ++ [c] ++ b.cps.toList.drop (at' + 1).toNat := fun z e => by
          rw [e, Str.cps_append, Str.cps_append, Array.toList_append, Array.toList_append, cut_to a0, cut_from (by omega)]
        have c1 := cutS_length b none (some at')
        have c2 := cutS_length b (some (at' + 1)) none
        have cb : (⟨#[c]⟩ : Str).length = 1 := rfl
        -- name
        refine ⟨.str b, rfl, .int at', rfl, at', rfl, b, rfl, small_le (by omega), .str ⟨#[c]⟩, rfl, _, _, rfl, rfl, small_le (by omega), .str b, rfl, .int at', rfl, at', 1, rfl, rfl, _, rfl, b, rfl, small_le (by omega), _, _, rfl, rfl, ?_, ?_⟩
        · rw [Str.length_append]
          exact small_le (by omega)
        obtain ⟨z, hz⟩ : ∃ z, z = (cutS b none (some at') ++ ⟨#[c]⟩) ++ cutS b (some (at' + 1)) none := ⟨_, rfl⟩
        rw [← hz]
        have ⟨⟨nz, za⟩, nu⟩ := name_made (u := if (1 + sz') - (zs.length : Int) > at' + 1 then (1 + sz') - (zs.length : Int) else at' + 1) hb a0 (by omega) l2 (ez z hz)
        have nu := nu (by split <;> omega)
        have fin : ∀ (y : Str) (H11 : Hp), BagAt H11 a l → Keep a H10 H11 → NameZ y → y.cps.toList[at'.toNat]? = some c → BagAt (upd H11 fo (.lst (zs.map V.str ++ [.str y]))) a l ∧ Keep a H (upd H11 fo (.lst (zs.map V.str ++ [.str y]))) ∧
            ∃ zs' : List Str, zs'.length = zs.length + 1 ∧ (∀ z ∈ zs', NameZ z) ∧ Apart st t at' zs' ∧ (upd H11 fo (.lst (zs.map V.str ++ [.str y]))) fo = some (.lst (zs'.map V.str)) := fun y H11 hB11 k11 ny ya => by
          refine ⟨hB11.upd fa, Keep.mut (k9.trans k11) nfo0, zs ++ [y], ?_, ?_, ?_, ?_⟩
          · rw [List.length_append]
            rfl
          · intro x hx
            rcases List.mem_append.mp hx with hx | hx
            · exact hzs x hx
            · rw [List.mem_singleton.mp hx]
              exact ny
          · intro j x hj
            by_cases hjl : j < zs.length
            · rw [List.getElem?_append_left hjl] at hj
              exact hap j x hj
            · have hlt := (List.getElem?_eq_some_iff.mp hj).1
              rw [List.length_append, List.length_singleton] at hlt
              have ej : j = zs.length := by omega
              subst ej
              rw [List.getElem?_append_right (Nat.le_refl _), Nat.sub_self] at hj
              rw [← Option.some.inj hj, hc]
              exact ya
          · rw [upd_same, List.map_append]
            rfl
        refine ⟨.ref fo, rfl, .inl ⟨rfl, _, .of efo⟩, .ref a, rfl, a, l, 3, rfl, hB9, by decide, by decide, fun r H11 r0 r1 hB11 k11 => ⟨rfl, _, rfl, ite2 (fun e => ?_) (fun e => ?_)⟩⟩
        · have efo2 := k11 fo _ fa.1.symm efo
          refine ⟨.str z, rfl, .int at', rfl, at', 1, rfl, rfl, .int (1 + sz'), rfl, .int (zs.length : Int), rfl, _, _, rfl, rfl, _, _, rfl, _, rfl, z, rfl, small_le (by have := nz.2.1; omega), fo, _, _, rfl, rfl, efo2, by rw [List.length_map]; exact small_lt (by omega), ?_⟩
          exact ⟨⟨_, _, _, rfl⟩, fin _ H11 hB11 k11 nu.1 nu.2⟩
        · have efo2 := k11 fo _ fa.1.symm efo
          exact ⟨.str z, rfl, fo, _, _, rfl, rfl, efo2, by rw [List.length_map]; exact small_lt (by omega), ⟨_, _, _, rfl⟩, fin _ H11 hB11 k11 nz za⟩
      · obtain ⟨⟨y9, y10, y11, rfl⟩, hB9, k9, zs, ezs, hzs, hap, efo⟩ := hP
        exact ⟨.ref fo, rfl, q fo zs H9 nfo0 ezs hzs (hap.nodup ht (by omega)) efo hB9 k9⟩
end
end Ink
namespace Ink
open PySem PySem.Spec PyProof.Rows L2
/-- signs: unlike small letters, rising -/
def spSigns : Sp := fun vs H Q _ => ∃ (a l : Addr) (m : Int), vs = [.ref a, .int m] ∧ BagAt H a l ∧ 1 ≤ m ∧ m ≤ 20 ∧ ∀ p (cs : List Nat) H', H p = none → 1 ≤ cs.length → (cs.length : Int) ≤ m → (∀ c ∈ cs, c ∈ lets) → cs.Pairwise (· < ·) → H' p = some (.lst ((cs.map single).map V.str)) → BagAt H' a l → Keep a H H' → Q (.ref p) H'
theorem lt_single (c d : Nat) : ltCps (single c).cps.toList (single d).cps.toList = decide (c < d) := by
  show (decide (c < d) || (c == d && ltCps [] [])) = _
  rw [show ltCps [] [] = false from rfl, Bool.and_false, Bool.or_false]
theorem rising_lt : ∀ (cs : List Nat) (c : Nat), risingS (single c) (cs.map single) = true → (c :: cs).Nodup → (c :: cs).Pairwise (· < ·)
  | [], c, _, _ => List.pairwise_singleton _ _
  | d :: r, c, h, hn => by
    have h : (!ltCps (single d).cps.toList (single c).cps.toList && risingS (single d) (r.map single)) = true := h
    rw [Bool.and_eq_true, lt_single] at h
    have hcd : ¬ d < c := fun q => by
      rw [decide_eq_true q] at h
      exact nomatch h.1
    have hn2 := List.nodup_cons.mp hn
    have ih := rising_lt r d h.2 hn2.2
    have hne : c ≠ d := fun e => hn2.1 (by rw [e]; exact List.mem_cons_self ..)
    refine List.pairwise_cons.mpr ⟨fun e he => ?_, ih⟩
    rcases List.mem_cons.mp he with he | he
    · omega
    · have := (List.pairwise_cons.mp ih).1 e he
      omega
def hdZ (z : Str) : Nat := z.cps.toList.headD 0
theorem map_hd (cs : List Nat) : (cs.map single).map hdZ = cs := by
  rw [List.map_map]
  exact List.map_id _
theorem sorted_singles {ys : List Str} {cs : List Nat} (hp : ys.Perm (cs.map single)) (hs : sortedS ys = true) (hn : cs.Nodup) :
    ∃ ds : List Nat, ys = ds.map single ∧ ds.Perm cs ∧ ds.Pairwise (· < ·) := by
  have e : ys = (ys.map hdZ).map single := by
    rw [List.map_map]
    refine (List.map_id ys).symm.trans (List.map_congr_left fun y hy => ?_)
    obtain ⟨c, _, rfl⟩ := List.mem_map.mp (hp.mem_iff.mp hy)
    rfl
  have pm : (ys.map hdZ).Perm cs := by
    have := hp.map hdZ
    rw [map_hd] at this
    exact this
  refine ⟨ys.map hdZ, e, pm, ?_⟩
  have nd : (ys.map hdZ).Nodup := pm.nodup_iff.mpr hn
  rw [e] at hs
  generalize ys.map hdZ = ds at hs nd
  cases ds with
  | nil => exact .nil
  | cons d r => exact rising_lt r d hs nd
section
variable {P : Program} {w : World} {K : PySem.W.Frag} {mg : Str → Option Value} {base : Heap}
theorem ok_signs {f : Addr} {fd : FuncData} {k : Nat} (F : Fun K "_law_signs" "_law_signs" sLSigns f fd) (T : Txt mg)
    (C__law_pull : Cal P w K mg base k "_law_pull" ["_law_bag_here", "_law_many"] spPull) (C__law_of : Cal P w K mg base k "_law_of" ["_law_bag_here", "_law_things"] (spOf K)) (C__law_letters : Cal P w K mg base k "_law_letters" [] spLetters) :
    FnOk P w K mg base CX0 (k + 1) f fd ["_law_bag_here", "_law_limit"] spSigns := by
  refine F.ok sc__law_signs (fun vs H Q E h => ?_) (fun cdv A outer s H vs Q E hr h => ?_)
  · obtain ⟨a, l, m, rfl, _⟩ := h
    rfl
  · obtain ⟨a, l, m, rfl, hB, m0, m1, q⟩ := h
    refine ⟨_, (pss_cons (ps_asg (pe_tup (pa_cons (pe_callC C__law_pull hr (by rfl) (pa_cons (pv 0) (pa_cons pe_int pa_nil))) (pa_cons (pe_callC C__law_of hr (by rfl) (pa_cons (pv 0) (pa_cons (pe_lst (pa_cons pe_int (pa_cons pe_int (pa_cons pe_int (pa_cons pe_int pa_nil))))) pa_nil))) pa_nil))) (pg_tup rfl (pgs_cons (pg_name (i := 2) sc__law_signs.nd rfl (.inr rfl)) (pgs_cons (pg_name (i := 3) sc__law_signs.nd rfl (.inr rfl)) pgs_nil))))
    (pss_cons (ps_asg (pe_tup (pa_cons (pe_op op_add pe_int (pe_callC C__law_pull hr (by rfl) (pa_cons (pv 0) (pa_cons (pv 1) pa_nil)))) (pa_cons (pe_callC0 C__law_letters hr (by rfl)) pa_nil))) (pg_tup rfl (pgs_cons (pg_name (i := 4) sc__law_signs.nd rfl (.inl rfl)) (pgs_cons (pg_name (i := 5) sc__law_signs.nd rfl (.inr rfl)) pgs_nil))))
    (pss_one (ps_ret (pe_callB cr_sortedS (by rfl) T.m_sorted (by decide +kernel) (pa_cons (pe_lc (own := [("_law_k", 6)]) (g := (gName 6)) (by rfl) sc__law_signs.nd (pi_range1 (by rfl) T.m_range (pa_cons (pv 4) pa_nil)) (blkOk_by (own := [("_law_k", 6)]) (N := ["_law_bag_here", "_law_limit", "_law_start", "_law_step", "_law_many", "_law_letters_here", "_law_k"]) (sc := defScope sLSigns) (by decide +kernel)) (fun _ _ _ _ _ => (pg_name (i := 6) sc__law_signs.nd rfl (Or.inl rfl))) (fun _ _ _ _ _ => pts_nil) (fun _ _ _ _ _ => (pe_ix ix_str (pv 5) (pe_op op_mod (pe_op op_add (pv 2) (pe_op op_mul (pv 3) (pv 6))) pe_int) (fun _ _ => rfl)))) pa_nil)))))), ?_⟩
    -- start, step
    refine ⟨.ref a, rfl, a, l, 26, rfl, hB, by decide, by decide, fun st H1 s0 s1 hB1 k1 => ?_⟩
    refine ⟨.ref a, rfl, by show 4 ≤ sizeLine; decide, fun p2 np2 => ?_⟩
    refine ⟨a, l, _, _, rfl, hB1.upd (hB1.ne np2), .inl ⟨p2, rfl, (hB1.ne np2).1.symm, .inl (.of upd_same)⟩, by decide, by decide, fun v H2 hv hB2 k2 => ?_⟩
    obtain ⟨t, rfl, ht⟩ := odd_of hv
    refine ⟨by show 2 ≤ sizeLine; decide, fun p3 np3 => ?_⟩
    have hB3 := hB2.upd (o := .tup [V.int st, V.int t]) (hB2.ne np3)
    have k3 : Keep a H (upd H2 p3 (.tup [V.int st, V.int t])) := (k1.trans ((Keep.of_same (same_new np2)).trans k2)).trans (Keep.of_same (same_new np3))
    refine ⟨p3, _, rfl, .of upd_same, rfl, _, _, rfl, _, _, rfl, rfl, ?_⟩
    -- many, letters
    refine ⟨.ref a, rfl, .int m, rfl, a, l, m, rfl, hB3, by omega, by omega, fun n H4 n0 n1 hB4 k4 => ⟨1, n, rfl, rfl, rfl, fun H5 s5 => ⟨by show 2 ≤ sizeLine; decide, fun p6 np6 => ?_⟩⟩⟩
    have hB5 := hB4.same s5
    have hB6 := hB5.upd (o := .tup [V.int (1 + n), V.str ⟨lets.toArray⟩]) (hB5.ne np6)
    have k6 : Keep a H (upd H5 p6 (.tup [V.int (1 + n), V.str ⟨lets.toArray⟩])) := ((k3.trans k4).trans (Keep.of_same s5)).trans (Keep.of_same (same_new np6))
    refine ⟨p6, _, rfl, .of upd_same, rfl, _, _, rfl, _, _, rfl, rfl, ?_⟩
    -- the signs
    refine ⟨.int (1 + n), rfl, 1 + n, rfl, by omega, by omega, fun D nD => ?_⟩
    refine lc_it walk_range0 (fun i H' => BagAt H' a l ∧ Keep a H H' ∧ H' D = some (.lst ((((List.range i).map fun j : Nat => 97 + ((st + t * (j : Int)) % 26).toNat).map single).map V.str))) ⟨hB6.upd (hB6.ne nD), k6.trans (Keep.of_same (same_new nD)), upd_same⟩ (fun _ _ _ _ => True.intro) (fun i x H7 H8 hi hP hy => ?_) (fun H7 hP => ?_)
    · obtain ⟨hB7, k7, eD⟩ := hP
      obtain ⟨rfl, rfl⟩ := hy
      have n0 := Int.emod_nonneg (st + t * (i : Int)) (show (26 : Int) ≠ 0 by decide)
      have n1 := Int.emod_lt_of_pos (st + t * (i : Int)) (show (0 : Int) < 26 by decide)
      obtain ⟨l1, l2⟩ := lets_at n0 n1
      have nD0 : H D = none := by
        cases h : H D with
        | none => rfl
        | some o =>
          by_cases e : D = a
          · exact absurd e.symm (hB6.ne nD).1
          · rw [k6 D o e h] at nD
            cases nD
      refine ⟨rfl, yes_of (iteT ?_)⟩
      refine ⟨.str ⟨lets.toArray⟩, rfl, .int st, rfl, .int t, rfl, _, rfl, t, (i : Int), rfl, rfl, .inl ⟨by omega, by omega⟩, st, _, rfl, rfl, _, 26, rfl, rfl, (by show (0 : Int) < 26; decide), ⟨lets.toArray⟩, _, 97 + ((st + t * (i : Int)) % 26).toNat, rfl, rfl, (by decide), atI_of n0 (by rw [List.toList_toArray]; exact l1), ?_⟩
      refine ⟨_, eD, ?_, hB7.upd (hB6.ne nD), Keep.mut k7 nD0, ?_⟩
      · rw [List.length_map, List.length_map, List.length_map, List.length_range]
        exact small_lt (by omega)
      · rw [upd_same, List.range_succ, List.map_append, List.map_append, List.map_append]
        rfl
    · obtain ⟨hB7, k7, eD⟩ := hP
      refine ⟨D, _, rfl, .of eD, ?_, fun ys p pm hs np => ?_⟩
      · rw [List.length_map, List.length_map, List.length_range]
        omega
      have nd : ((List.range (1 + n).toNat).map fun j : Nat => 97 + ((st + t * (j : Int)) % 26).toNat).Nodup := by
        rw [List.nodup_iff_pairwise_ne, List.pairwise_map]
        refine List.Pairwise.imp_of_mem (fun {i j} hi hj hij e => hij ?_) (List.nodup_iff_pairwise_ne.mp List.nodup_range)
        have hi := List.mem_range.mp hi
        have hj := List.mem_range.mp hj
        have m1 := Int.emod_nonneg (st + t * (i : Int)) (show (26 : Int) ≠ 0 by decide)
        have m2 := Int.emod_nonneg (st + t * (j : Int)) (show (26 : Int) ≠ 0 by decide)
        exact mod_apart (s := st) (t := t) ht (by omega) (by omega) (by omega)
      obtain ⟨ds, rfl, pd, hlt⟩ := sorted_singles pm hs nd
      have hlen : ds.length = (1 + n).toNat := by
        rw [pd.length_eq, List.length_map, List.length_range]
      have np0 : H p = none := by
        cases h : H p with
        | none => rfl
        | some o =>
          by_cases e : p = a
          · exact absurd e.symm (hB7.ne np).1
          · rw [k7 p o e h] at np
            cases np
      refine q p ds _ np0 (by omega) (by omega) (fun c hc => ?_) hlt upd_same (hB7.upd (hB7.ne np)) (k7.trans (Keep.of_same (same_new np)))
      obtain ⟨j, _, rfl⟩ := List.mem_map.mp (pd.mem_iff.mp hc)
      exact (lets_at (Int.emod_nonneg _ (by decide)) (Int.emod_lt_of_pos _ (by decide))).2
end
end Ink
namespace Ink
open PySem PySem.Spec PyProof.Rows L2
/-- an arrow: place, sign, place -/
abbrev Arw := Int × Str × Int
def ArwAt (H : Hp) (p : Addr) (x : Arw) : Prop := H p = some (.tup [.int x.1, .str x.2.1, .int x.2.2])
def ArsAt (H : Hp) (ps : List Addr) (ar : List Arw) : Prop := Paired (ArwAt H) ps ar
theorem tup_ne {H : Hp} {a l p : Addr} {xs : List V} (b : BagAt H a l) (h : H p = some (.tup xs)) : p ≠ a := by
  obtain ⟨ns, x, y, z, h1, _⟩ := b
  exact fun e => by
    rw [e, h1] at h
    cases h
theorem ArsAt.keep {H H' : Hp} {a l : Addr} {ps : List Addr} {ar : List Arw} (b : BagAt H a l) (k : Keep a H H') (h : ArsAt H ps ar) : ArsAt H' ps ar := L2.Paired.mapP h fun p x hx => k p _ (tup_ne b hx) hx
theorem ArsAt.same {H H' : Hp} {ps : List Addr} {ar : List Arw} (k : Same H H') (h : ArsAt H ps ar) : ArsAt H' ps ar := L2.Paired.mapP h fun p x hx => k p _ hx
theorem prd_snoc {α β : Type} {F : α → β → Prop} : ∀ {xs : List α} {ys : List β} {x : α} {y : β}, Paired F xs ys → F x y → Paired F (xs ++ [x]) (ys ++ [y])
  | _, _, _, _, .nil, h => .cons h .nil
  | _, _, _, _, .cons r t, h => .cons r (prd_snoc t h)
def goodA (x : Arw) : Prop := 0 ≤ x.1 ∧ x.1 ≤ 2 ∧ (∃ c ∈ lets, x.2.1 = single c) ∧ 0 ≤ x.2.2 ∧ x.2.2 ≤ 2
def lessA (x y : Arw) : Prop := x.1 < y.1 ∨ (x.1 = y.1 ∧ x.2.1.cps.toList < y.2.1.cps.toList)
/-- what a drawn writer has -/
structure GoodW (z : Str) (ar : List Arw) (p c : Int) : Prop where
  name : NameZ z
  len : ar.length ≤ 9
  each : ∀ x ∈ ar, goodA x
  rise : ar.Pairwise lessA
  p0 : 0 ≤ p
  p3 : p ≤ 3
  c0 : 0 ≤ c
  c3 : c ≤ 3
def WrAt (H : Hp) (W : Addr) (z : Str) (ar : List Arw) (p c : Int) : Prop := ∃ tp ps, H W = some (.tup [.str z, .ref tp, .int p, .int c]) ∧ H tp = some (.tup (ps.map V.ref)) ∧ ArsAt H ps ar
theorem WrAt.keep {H H' : Hp} {a l W : Addr} {z : Str} {ar : List Arw} {p c : Int} (b : BagAt H a l) (k : Keep a H H') (h : WrAt H W z ar p c) : WrAt H' W z ar p c := by
  obtain ⟨tp, ps, h1, h2, h3⟩ := h
  exact ⟨tp, ps, k _ _ (tup_ne b h1) h1, k _ _ (tup_ne b h2) h2, h3.keep b k⟩
theorem WrAt.same {H H' : Hp} {W : Addr} {z : Str} {ar : List Arw} {p c : Int} (k : Same H H') (h : WrAt H W z ar p c) : WrAt H' W z ar p c := by
  obtain ⟨tp, ps, h1, h2, h3⟩ := h
  exact ⟨tp, ps, k _ _ h1, k _ _ h2, h3.same k⟩
theorem Keep.free {a D : Addr} {H H' : Hp} (k : Keep a H H') (n : a ≠ D) (h : H' D = none) : H D = none := by
  cases e : H D with
  | none => rfl
  | some o =>
    rw [k D o n.symm e] at h
    cases h
def spWriter : Sp := fun vs H Q _ => ∃ (a l : Addr) (z : Str) (m : Int) (sp : Addr) (cs : List Nat) (th : Int), vs = [.ref a, .str z, .int m, .ref sp, .int th] ∧ BagAt H a l ∧ NameZ z ∧ 1 ≤ m ∧ m ≤ 3 ∧
  H sp = some (.lst ((cs.map single).map V.str)) ∧ sp ≠ a ∧ (∀ c ∈ cs, c ∈ lets) ∧ cs.Pairwise (· < ·) ∧ ∀ W ar p c H', H W = none → WrAt H' W z ar p c → GoodW z ar p c → BagAt H' a l → Keep a H H' → Q (.ref W) H'
section
variable {P : Program} {w : World} {K : PySem.W.Frag} {mg : Str → Option Value} {base : Heap}
theorem count_of {v : V} (h : v ∈ [V.int 0, V.int 0, V.int 0, V.int 1, V.int 2, V.int 3]) : ∃ t : Int, v = .int t ∧ 0 ≤ t ∧ t ≤ 3 := by
  simp only [List.mem_cons, List.not_mem_nil, or_false] at h
  rcases h with rfl | rfl | rfl | rfl | rfl | rfl <;> exact ⟨_, rfl, by decide, by decide⟩
theorem pair_get {cs : List Nat} (hp : cs.Pairwise (· < ·)) {i j x y : Nat} (hi : cs[i]? = some x) (hj : cs[j]? = some y) (h : i < j) : x < y := by
  obtain ⟨h1, e1⟩ := List.getElem?_eq_some_iff.mp hi
  obtain ⟨h2, e2⟩ := List.getElem?_eq_some_iff.mp hj
  have := (List.pairwise_iff_getElem.mp hp) i j h1 h2 h
  rw [e1, e2] at this
  exact this
/-- the lines so far, ahead of the j-th sign at the place i -/
def Lines (cs : List Nat) (i j : Nat) (ar : List Arw) : Prop := ar.length ≤ 9 ∧ (∀ x ∈ ar, goodA x) ∧ ar.Pairwise lessA ∧ ∀ x ∈ ar, x.1 < (i : Int) ∨ (x.1 = (i : Int) ∧ ∃ (j' c : Nat), j' < j ∧ cs[j']? = some c ∧ x.2.1 = single c)
theorem Lines.next {cs : List Nat} {i j : Nat} {ar : List Arw} (h : Lines cs i j ar) : Lines cs i (j + 1) ar := by
  obtain ⟨h1, h2, h3, h4⟩ := h
  refine ⟨h1, h2, h3, fun x hx => ?_⟩
  rcases h4 x hx with h | ⟨e, j', c, h5, h6⟩
  · exact .inl h
  · exact .inr ⟨e, j', c, by omega, h6⟩
theorem Lines.row {cs : List Nat} {i j : Nat} {ar : List Arw} (h : Lines cs i j ar) : Lines cs (i + 1) 0 ar := by
  obtain ⟨h1, h2, h3, h4⟩ := h
  refine ⟨h1, h2, h3, fun x hx => .inl ?_⟩
  rcases h4 x hx with h | ⟨e, _⟩ <;> omega
theorem Lines.more {cs : List Nat} {i j c : Nat} {t : Int} {ar : List Arw} (h : Lines cs i j ar) (hl : ar.length < 9) (hc : cs[j]? = some c) (hm : c ∈ lets) (hp : cs.Pairwise (· < ·)) (hi : i ≤ 2) (t0 : 0 ≤ t) (t1 : t ≤ 2) : Lines cs i (j + 1) (ar ++ [((i : Int), single c, t)]) := by
  obtain ⟨h1, h2, h3, h4⟩ := h
  refine ⟨by rw [List.length_append, List.length_singleton]; omega, fun x hx => ?_, ?_, fun x hx => ?_⟩
  · rcases List.mem_append.mp hx with hx | hx
    · exact h2 x hx
    · rw [List.mem_singleton.mp hx]
      exact ⟨by show (0 : Int) ≤ (i : Int); omega, by show ((i : Int)) ≤ 2; omega, ⟨c, hm, rfl⟩, t0, t1⟩
  · refine List.pairwise_append.mpr ⟨h3, List.pairwise_singleton _ _, fun x hx y hy => ?_⟩
    rw [List.mem_singleton.mp hy]
    rcases h4 x hx with h | ⟨e, j', d, h5, h6, h7⟩
    · exact .inl h
    · refine .inr ⟨e, ?_⟩
      show x.2.1.cps.toList < (single c).cps.toList
      rw [h7]
      exact (lt_one d c).mpr (pair_get hp h6 hc h5)
  · rcases List.mem_append.mp hx with hx | hx
    · rcases h4 x hx with h | ⟨e, j', d, h5, h6⟩
      · exact .inl h
      · exact .inr ⟨e, j', d, by omega, h6⟩
    · rw [List.mem_singleton.mp hx]
      exact .inr ⟨rfl, j, c, by omega, hc, rfl⟩
theorem ok_writer {f : Addr} {fd : FuncData} {k : Nat} (F : Fun K "_law_writer" "_law_writer" sLWriter f fd) (T : Txt mg)
    (C__law_pull : Cal P w K mg base k "_law_pull" ["_law_bag_here", "_law_many"] spPull) (C__law_of : Cal P w K mg base k "_law_of" ["_law_bag_here", "_law_things"] (spOf K)) :
    FnOk P w K mg base CX0 (k + 1) f fd ["_law_bag_here", "_law_name", "_law_places", "_law_signs_here", "_law_thick"] spWriter := by
  refine F.ok sc__law_writer (fun vs H Q E h => ?_) (fun cdv A outer s H vs Q E hr h => ?_)
  · obtain ⟨a, l, z, m, sp, cs, th, rfl, _⟩ := h
    rfl
  · obtain ⟨a, l, z, m, sp, cs, th, rfl, hB, hz, m0, m1, hsp, nsp, hcs, hrise, q⟩ := h
    refine ⟨_, (pss_cons (ps_set (i := 5) sc__law_writer.nd rfl (.inl rfl) (pe_lst pa_nil))
    (pss_cons (ps_for PassesOwn.never rfl (pi_range1 (by rfl) T.m_range (pa_cons (pv 2) pa_nil)) (pg_name (i := 6) sc__law_writer.nd rfl (.inl rfl))
    (pss_one (ps_for PassesOwn.never rfl (pi_list (pv 3)) (pg_name (i := 7) sc__law_writer.nd rfl (.inl rfl))
    (pss_one (ps_if (PW.pt (pw_and (pt_cmpR op_lt (pe_callB call_len (by rfl) T.m_len PySem.boot_len (pa_cons (pv 5) pa_nil)) pe_int (nomark _)) (pw_and1 (pt_cmpR op_lt (pe_callC C__law_pull hr (by rfl) (pa_cons (pv 0) (pa_cons pe_int pa_nil))) (pv 4) (nomark _)))))
    (pss_one (ps_expr (pe_bm PySem.F.plainAttrs_list PySem.F.slot_list_append PySem.F.type_list_append mt_append (pv 5) (pa_cons (pe_tup (pa_cons (pv 6) (pa_cons (pv 7) (pa_cons (pe_callC C__law_pull hr (by rfl) (pa_cons (pv 0) (pa_cons (pv 2) pa_nil))) pa_nil)))) pa_nil)))) pss_nil)))))
    (pss_cons (ps_set (i := 8) sc__law_writer.nd rfl (.inl rfl) (pe_lst (pa_cons pe_int (pa_cons pe_int (pa_cons pe_int (pa_cons pe_int (pa_cons pe_int (pa_cons pe_int pa_nil))))))))
    (pss_one (ps_ret (pe_tup (pa_cons (pv 1) (pa_cons (pe_callTy call_tuple_of (by rfl) T.m_tuple (by decide +kernel) (pa_cons (pv 5) pa_nil)) (pa_cons (pe_callC C__law_of hr (by rfl) (pa_cons (pv 0) (pa_cons (pv 8) pa_nil))) (pa_cons (pe_callC C__law_of hr (by rfl) (pa_cons (pv 0) (pa_cons (pv 8) pa_nil))) pa_nil)))))))))), ?_⟩
    refine ⟨by show 0 ≤ sizeLine; decide, fun ln nln => ?_⟩
    have nl := hB.ne nln
    have nls : sp ≠ ln := ne_of_none hsp nln
    refine ⟨.int m, rfl, m, rfl, by omega, by omega, for_it walk_range0 (fun i σ H' => (∃ y6 y7 y8, σ = [some (.ref a), some (.str z), some (.int m), some (.ref sp), some (.int th), some (.ref ln), y6, y7, y8]) ∧ BagAt H' a l ∧ Keep a H H' ∧
      ∃ ps ar, H' ln = some (.lst (ps.map V.ref)) ∧ ArsAt H' ps ar ∧ Lines cs i 0 ar) ⟨⟨none, none, none, rfl⟩, hB.upd nl, Keep.mut (Keep.refl H) nln, [], [], upd_same, .nil, by decide, (fun _ h => nomatch h), .nil, (fun _ h => nomatch h)⟩ (fun _ _ _ _ _ => True.intro) (fun i x σ H1 H2 hi hP hy => ?_) (fun σ H1 hP => ?_)⟩
    · obtain ⟨⟨y6, y7, y8, rfl⟩, hB1, k1, ps, ar, eln, hps, hL⟩ := hP
      obtain ⟨rfl, rfl⟩ := hy
      have es : ∀ H', Keep a H H' → H' sp = some (.lst ((cs.map single).map V.str)) := fun H' k => k sp _ nsp hsp
      refine ⟨.ref sp, rfl, sp, rfl, ⟨_, .of (es _ k1)⟩, for_it (walk_list (xs := (cs.map single).map V.str)) (fun j σ H' => (∃ y7 y8, σ = [some (.ref a), some (.str z), some (.int m), some (.ref sp), some (.int th), some (.ref ln), some (.int (i : Int)), y7, y8]) ∧ BagAt H' a l ∧ Keep a H H' ∧
        ∃ ps ar, H' ln = some (.lst (ps.map V.ref)) ∧ ArsAt H' ps ar ∧ Lines cs i j ar) ⟨⟨_, _, rfl⟩, hB1, k1, ps, ar, eln, hps, hL⟩ (fun _ _ H' _ hP => .of (es _ hP.2.2.1)) (fun j x σ H3 H4 hj hP hy => ?_) (fun σ H3 hP => ?_)⟩
      · obtain ⟨⟨y7, y8, rfl⟩, hB3, k3, ps, ar, eln, hps, hL⟩ := hP
        obtain ⟨rfl, hx⟩ := hy
        obtain ⟨c, hc, rfl⟩ : ∃ c, cs[j]? = some c ∧ x = .str (single c) := by
          rw [List.getElem?_map, List.getElem?_map] at hx
          cases h : cs[j]? with
          | none =>
            rw [h] at hx
            cases hx
          | some c =>
            rw [h] at hx
            exact ⟨c, rfl, (Option.some.inj hx).symm⟩
        have hm : c ∈ lets := hcs c (List.mem_of_getElem? hc)
        have elen : ps.length = ar.length := Paired.length hps
        -- len(lines) < 9
        refine ⟨.ref ln, rfl, .ref ln, _, rfl, .inl ⟨_, .of eln, rfl⟩, _, _, rfl, rfl, _, rfl, ite2 (fun e => ?_) (fun e => ?_)⟩
        · have e : (((ps.map V.ref).length : Nat) : Int) < 9 := of_decide_eq_true e
          rw [List.length_map] at e
          refine ⟨.ref a, rfl, a, l, 8, rfl, hB3, by decide, by decide, fun r H5 _ _ hB5 k5 => ⟨.int th, rfl, _, _, rfl, rfl, _, rfl, ite2 (fun e2 => ?_) (fun e2 => ?_)⟩⟩
          · refine ⟨.ref ln, rfl, .inl ⟨rfl, _, .of (k5 ln _ nl.1.symm eln)⟩, _, rfl, _, rfl, .ref a, rfl, .int m, rfl, a, l, m, rfl, hB5, by omega, by omega, fun t H6 t0 t1 hB6 k6 => ⟨by show 3 ≤ sizeLine; decide, fun p np => ?_⟩⟩
            have hps5 := hps.keep hB3 k5
            have hps6 := (hps5.keep hB5 k6).same (same_new (o := .tup [V.int (i : Int), V.str (single c), V.int t]) np)
            have eln6 := k6 ln _ nl.1.symm (k5 ln _ nl.1.symm eln)
            have npl : ln ≠ p := ne_of_none eln6 np
            refine ⟨ln, _, _, rfl, rfl, (same_new np ln _ eln6), by rw [List.length_map]; exact small_lt (by omega), ⟨_, _, rfl⟩, (hB6.upd (hB6.ne np)).upd nl, Keep.mut ((k3.trans (k5.trans k6)).trans (Keep.of_same (same_new np))) nln, ps ++ [p], ar ++ [((i : Int), single c, t)], ?_, ?_, hL.more (by omega) hc hm hrise (by omega) t0 (by omega)⟩
            · rw [upd_same, List.map_append]
              rfl
            · refine prd_snoc (L2.Paired.mapP hps6 fun p' x' hx' => ?_) ?_
              · show upd _ ln _ p' = _
                rw [upd_ne (ne_of hx' (same_new np ln _ eln6) (by intro z; cases z))]
                exact hx'
              · show upd _ ln _ p = _
                rw [upd_ne npl.symm, upd_same]
          · exact ⟨⟨_, _, rfl⟩, hB5, k3.trans k5, ps, ar, k5 ln _ nl.1.symm eln, hps.keep hB3 k5, hL.next⟩
        · exact iteF ⟨⟨_, _, rfl⟩, hB3, k3, ps, ar, eln, hps, hL.next⟩
      · obtain ⟨⟨y7, y8, rfl⟩, hB3, k3, ps, ar, eln, hps, hL⟩ := hP
        exact ⟨⟨_, _, _, rfl⟩, hB3, k3, ps, ar, eln, hps, hL.row⟩
    · obtain ⟨⟨y6, y7, y8, rfl⟩, hB1, k1, ps, ar, eln, hps, hL⟩ := hP
      -- counts
      refine ⟨by show 6 ≤ sizeLine; decide, fun cp ncp => ?_⟩
      have hB2 := hB1.upd (o := .lst [V.int 0, .int 0, .int 0, .int 1, .int 2, .int 3]) (hB1.ne ncp)
      have k2 := Keep.of_same (a := a) (same_new (o := .lst [V.int 0, .int 0, .int 0, .int 1, .int 2, .int 3]) ncp)
      have ncpa : cp ≠ a := (hB1.ne ncp).1.symm
      -- the tuple of lines
      refine ⟨.str z, rfl, .ref ln, rfl, ln, _, rfl, .inl ⟨.of (k2 ln _ nl.1.symm eln), fun tp ntp => ?_⟩⟩
      have hB3 := hB2.upd (o := .tup (ps.map V.ref)) (hB2.ne ntp)
      have k3 := Keep.of_same (a := a) (same_new (o := .tup (ps.map V.ref)) ntp)
      refine ⟨.ref a, rfl, .ref cp, rfl, a, l, _, _, rfl, hB3, .inl ⟨cp, rfl, ncpa, .inl (.of (k3 cp _ ncpa upd_same))⟩, by decide, by decide, fun v H4 hv hB4 k4 => ?_⟩
      obtain ⟨p, rfl, p0, p3⟩ := count_of hv
      refine ⟨.ref a, rfl, .ref cp, rfl, a, l, _, _, rfl, hB4, .inl ⟨cp, rfl, ncpa, .inl (.of (k4 cp _ ncpa (k3 cp _ ncpa upd_same)))⟩, by decide, by decide, fun v H5 hv hB5 k5 => ?_⟩
      obtain ⟨c, rfl, c0, c3⟩ := count_of hv
      refine ⟨by show 4 ≤ sizeLine; decide, fun W nW => ?_⟩
      have k25 := (k2.trans k3).trans (k4.trans k5)
      have k6 := Keep.of_same (a := a) (same_new (o := .tup [V.str z, .ref tp, .int p, .int c]) nW)
      have nW1 : H W = none := (k1.trans k25).free (hB5.ne nW).1 nW
      refine q W ar p c _ nW1 ⟨tp, ps, upd_same, ?_, ?_⟩ ⟨hz, hL.1, hL.2.1, hL.2.2.1, p0, p3, c0, c3⟩ (hB5.upd (hB5.ne nW)) ((k1.trans k25).trans k6)
      · exact k6 tp _ (hB2.ne ntp).1.symm ((k4.trans k5) tp _ (hB2.ne ntp).1.symm upd_same)
      · exact (hps.keep hB1 k25).keep hB5 k6
end
end Ink
namespace Ink
open PySem PySem.Spec PyProof.Rows L2
/-- (i, x) < (j, y) -/
def ltIS (i : Int) (x : Str) (j : Int) (y : Str) : Bool := if i = j then (if x = y then false else decide (x.cps.toList < y.cps.toList)) else decide (i < j)
def rLtIS (K : PySem.W.Frag) : R2 := fun u v H Q => ∃ a b i x j y, u = .ref a ∧ v = .ref b ∧ SqT K H a [.int i, .str x] ∧ SqT K H b [.int j, .str y] ∧ Q (.bl (ltIS i x j y)) H
theorem op_ltIS {X : Cx} (hu : X.A.units < cLine) : OpR X (compareOp .Lt) (rLtIS X.K) := by
  intro pins s σ H u v uu vv Q I ru rv h
  obtain ⟨a, b, i, x, j, y, rfl, rfl, ha, hb, q⟩ := h
  cases ru
  cases rv
  obtain ⟨its, r1, p1, _⟩ := I.tuple ha
  obtain ⟨its2, r2, p2, _⟩ := I.tuple hb
  cases r1 with
  | cons q1 r1 =>
  cases r1 with
  | cons q2 r1 =>
  cases r1
  cases r2 with
  | cons q3 r2 =>
  cases r2 with
  | cons q4 r2 =>
  cases r2
  obtain ⟨t1, rfl⟩ := q1
  obtain ⟨t2, rfl⟩ := q2
  obtain ⟨t3, rfl⟩ := q3
  obtain ⟨t4, rfl⟩ := q4
  have R := Ob.RcOp.tuples_lt (A := X.A) (s := s) (e := fun n => if n = 0 then i == j else x == y) (r := fun n => if n = 0 then decide (i < j) else decide (x.cps.toList < y.cps.toList)) p1 p2 hu
    (fun n h1 h2 => by
      have hn : n = 0 ∨ n = 1 := by
        have : n < 2 := h1
        omega
      rcases hn with rfl | rfl
      · exact SeqAt.EqAt.int_int i t1 j t3
      · exact SeqAt.EqAt.str_str x t2 y t4)
    (fun n h1 h2 _ => by
      have hn : n = 0 ∨ n = 1 := by
        have : n < 2 := h1
        omega
      rcases hn with rfl | rfl
      · exact Ob.RcOp.lt_int i j t1 t3
      · exact fun _ _ _ _ h => PySem.P.lt_str h)
  refine R _ _ _ _ ⟨.bl (ltIS i x j y), H, I, ?_, q⟩
  show Value.bool _ = Value.bool _
  congr 1
  show (if (i == j) = true then (if (x == y) = true then decide ((2 : Nat) < 2) else decide (x.cps.toList < y.cps.toList)) else decide (i < j)) = ltIS i x j y
  unfold ltIS
  by_cases h : i = j
  · rw [if_pos (beq_iff_eq.mpr h), if_pos h]
    by_cases h2 : x = y
    · rw [if_pos (beq_iff_eq.mpr h2), if_pos h2]
      rfl
    · rw [if_neg (fun z => h2 (beq_iff_eq.mp z)), if_neg h2]
  · rw [if_neg (fun z => h (beq_iff_eq.mp z)), if_neg h]
end Ink
namespace Ink
open PySem PySem.Spec PyProof.Rows L2
section
variable {P : Program} {w : World} {K : PySem.W.Frag} {mg : Str → Option Value} {base : Heap}
theorem ok_is_sign {f : Addr} {fd : FuncData} {k : Nat} (F : Fun K "is_sign" "is_sign" sIsSign f fd) (T : Txt mg) : FnOk P w K mg base CX0 (k + 1) f fd ["text"] spSign := by
  refine F.ok sc_is_sign (fun vs H Q E h => ?_) (fun cdv A outer s H vs Q E hr h => ?_)
  · obtain ⟨z, rfl, _⟩ := h
    rfl
  · obtain ⟨z, rfl, hz, q⟩ := h
    refine ⟨_, (pss_one (ps_ret (pe_and (pe_cmpR op_eq (pe_callB call_len_str (by rfl) T.m_len PySem.boot_len (pa_cons (pv 0) pa_nil)) pe_int (nomark _)) (pe_one (pe_chain op_le_str op_le_str pe_str (pv 0) pe_str))))), ?_⟩
    refine (Evl.ev_andV (Evl.ev_op (ev_lenS (Evl.ev_var rfl) (by omega)) Evl.ev_c (Evl.rv_eq rfl)) fun _ => ev_chainS (f := fun x y => !decide (y.cps.toList < x.cps.toList)) (g := fun x y => !decide (y.cps.toList < x.cps.toList)) (fun x y H Q h => ⟨x, y, rfl, rfl, h⟩) (fun x y H Q h => ⟨x, y, rfl, rfl, h⟩) Evl.ev_c (Evl.ev_var rfl) Evl.ev_c) H (Same.refl H) _ fun H2 e2 => q H2 e2
theorem ok_is_name {f : Addr} {fd : FuncData} {k : Nat} (F : Fun K "is_name" "is_name" sIsName f fd) (T : Txt mg) (C_is_sign : Cal P w K mg base k "is_sign" ["text"] spSign) : FnOk P w K mg base CX0 (k + 1) f fd ["text"] spName := by
  refine F.ok sc_is_name (fun vs H Q E h => ?_) (fun cdv A outer s H vs Q E hr h => ?_)
  · obtain ⟨z, rfl, _⟩ := h
    rfl
  · obtain ⟨z, rfl, hz, q⟩ := h
    refine ⟨_, (pss_one (ps_ret (pe_and (pe_chain op_le op_le pe_int (pe_callB call_len_str (by rfl) T.m_len PySem.boot_len (pa_cons (pv 0) pa_nil)) (pe_globI (by rfl) T.e__MOST_LETTERS)) (pe_one (pe_callB (cr_all rfl) (by rfl) T.m_all (by decide +kernel) (pa_cons (pe_lc (own := [("letter", 1)]) (g := (gName 1)) (by rfl) sc_is_name.nd (pi_str (pv 0)) (blkOk_by (own := [("letter", 1)]) (N := ["text", "letter"]) (sc := defScope sIsName) (by decide +kernel)) (fun _ _ _ _ _ => (pg_name (i := 1) sc_is_name.nd rfl (Or.inl rfl))) (fun _ _ _ _ _ => pts_nil) (fun _ _ _ _ _ => (pe_callC C_is_sign hr (by rfl) (pa_cons (pv 1) pa_nil)))) pa_nil)))))), ?_⟩
    refine (Evl.ev_andV (ev_chainI (f := fun i j => decide (i ≤ j)) (g := fun i j => decide (i ≤ j)) Evl.ev_c (ev_lenS (Evl.ev_var rfl) (by omega)) Evl.ev_c) fun _ => ev_all (bs := z.cps.toList.map fun c => isSign ⟨#[c]⟩) ?_) H (Same.refl H) _ fun H2 e2 => q H2 e2
    rw [← bls_eq]
    refine el_lcS _ (Evl.ev_var rfl) (by omega) (fun _ => rfl) (fun c H1 e1 _ => ?_)
    exact ev_call (Evl.ea_cons (Evl.ev_var rfl) Evl.ea_nil) fun H2 Q2 _ q2 => ⟨_, rfl, by show 1 ≤ 1000; decide, q2⟩
end
end Ink
namespace Ink
open PySem PySem.Spec PyProof.Rows L2
def within (n m : Int) : Bool := decide (0 ≤ n) && decide (n ≤ m)
def okA (x : Arw) : Bool := within x.1 2 && (isSign x.2.1 && within x.2.2 2)
def ltAt (ar : List Arw) (k : Nat) : Bool := match ar[k]?, ar[k + 1]? with
  | some x, some y => ltIS x.1 x.2.1 y.1 y.2.1
  | _, _ => true
def riseB (ar : List Arw) : Bool := ((List.range (ar.length - 1)).map (ltAt ar)).all id
def areArr (ar : List Arw) : Bool := if (9 : Int) < (ar.length : Nat) then false else if (ar.map okA).all id = false then false else riseB ar
def isWr (z : Str) (ar : List Arw) (p c : Int) : Bool := isName z && (areArr ar && (within p 3 && within c 3))
/-- texts of arrows are short -/
def ShortA (ar : List Arw) : Prop := ar.length ≤ 1000 ∧ ∀ x ∈ ar, x.2.1.length ≤ 1000
def spCount : Sp := fun vs H Q _ => ∃ n : Int, vs = [.int n] ∧ ∀ H', Same H H' → Q (.bl (within n 3)) H'
def spPlace : Sp := fun vs H Q _ => ∃ n : Int, vs = [.int n] ∧ ∀ H', Same H H' → Q (.bl (within n 2)) H'
def spAre : Sp := fun vs H Q _ => ∃ (t : Addr) (ps : List Addr) (ar : List Arw), vs = [.ref t] ∧ H t = some (.tup (ps.map V.ref)) ∧ ArsAt H ps ar ∧ ShortA ar ∧ ∀ H', Same H H' → Q (.bl (areArr ar)) H'
/-- of any tuple: of four things a text, arrows, two numbers -/
def spIsWriter (g : Str → List Arw → Int → Int → Bool) : Sp := fun vs H Q _ => ∃ (t : Addr) (xs : List V), vs = [.ref t] ∧ H t = some (.tup xs) ∧ ((xs.length ≠ 4 ∧ ∀ H', Same H H' → Q (.bl false) H') ∨
  ∃ z tp ps ar p c, xs = [.str z, .ref tp, .int p, .int c] ∧ H tp = some (.tup (ps.map V.ref)) ∧ ArsAt H ps ar ∧ ShortA ar ∧ z.length ≤ 1000 ∧ ∀ H', Same H H' → Q (.bl (g z ar p c)) H')
theorem ArsAt.get {H : Hp} : ∀ {ps : List Addr} {ar : List Arw} {i : Nat} {p : Addr}, ArsAt H ps ar → ps[i]? = some p → ∃ x, ar[i]? = some x ∧ ArwAt H p x
  | _, _, _, _, .nil, h => by simp at h
  | _, _, 0, _, .cons r _, h => by
    have e := Option.some.inj h
    subst e
    exact ⟨_, rfl, r⟩
  | _, _, i + 1, p, .cons _ t, h => ArsAt.get (i := i) t h
theorem refs_at {ps : List Addr} {i : Nat} {v : V} (h : (ps.map V.ref)[i]? = some v) : ∃ p, ps[i]? = some p ∧ v = .ref p := by
  rw [List.getElem?_map] at h
  cases e : ps[i]? with
  | none =>
    rw [e] at h
    cases h
  | some p =>
    rw [e] at h
    exact ⟨p, rfl, (Option.some.inj h).symm⟩
theorem go_next {D : Ends} {σ : L2.St} {H : Hp} (h : D.nx σ H) : tNext D σ H := h
section
open Evl
/-- a comprehension over a tuple that stands, its items reckoned by their places -/
theorem el_lcT {K : PySem.W.Frag} {σ : L2.St} {H : Hp} {a : Addr} {xs : List V} {tl te : TE} {g : TG} {vs : List Nat} (f : Nat → V) (σf : Nat → L2.St) (h : Ev tl σ H (.ref a)) (hx : SqT K H a xs) (hz : xs.length ≤ 40000)
    (hg : ∀ i x H1, Ex H H1 → xs[i]? = some x → ∀ Q : L2.St → Hp → Prop, Q (σf i) H1 → g x (wipe σ vs) H1 Q) (hw : ∀ i, i < xs.length → wipe (σf i) vs = wipe σ vs)
    (he : ∀ i H1, Ex H H1 → i < xs.length → Ev te (σf i) H1 (f i)) : EvL (tLc (iTup K tl) g tYes te vs) σ H ((List.range xs.length).map f) := fun H0 e Q q => h H0 e _ fun H1 e1 => ⟨a, rfl, ⟨xs, ex_t (e.trans e1) hx⟩, fun D nD =>
  lc_it (walk_tup (xs := xs)) (fun i H' => Ex H1 H' ∧ H' D = some (.lst ((List.range i).map f))) ⟨Ex.new nD, upd_same⟩ (fun i H' _ hP => ex_t ((e.trans e1).trans hP.1) hx) (fun i v H2 H3 hi hP hy => by
    obtain ⟨rfl, hv⟩ := hy
    obtain ⟨s2, e2⟩ := hP
    refine hg i v H3 ((e.trans e1).trans s2) hv _ ⟨hw i hi, yes_of (iteT ?_)⟩
    refine he i H3 ((e.trans e1).trans s2) hi H3 (Ex.refl H3) _ fun H4 e4 => ⟨_, e4 _ _ e2, ?_, Ex.mut (s2.trans e4) nD, ?_⟩
    · rw [List.length_map, List.length_range]
      exact small_lt (by omega)
    · rw [upd_same, List.range_succ, List.map_append]
      rfl) (fun H' hP => q D H' (fresh_back e1 nD) (e1.trans hP.1) hP.2)⟩
end
theorem range_map {α : Type} (ar : List α) (f : α → Bool) (g : Nat → Bool) (h : ∀ i x, ar[i]? = some x → g i = f x) : (List.range ar.length).map g = ar.map f := by
  refine List.ext_getElem? fun i => ?_
  rw [List.getElem?_map, List.getElem?_map]
  by_cases hi : i < ar.length
  · rw [List.getElem?_range hi, List.getElem?_eq_getElem hi]
    exact congrArg some (h i _ (List.getElem?_eq_getElem hi))
  · rw [List.getElem?_eq_none (by rw [List.length_range]; omega), List.getElem?_eq_none (by omega)]
    rfl
section
variable {P : Program} {w : World} {K : PySem.W.Frag} {mg : Str → Option Value} {base : Heap}
theorem ok_count {f : Addr} {fd : FuncData} {k : Nat} (F : Fun K "_is_count" "_is_count" sIsCount f fd) (T : Txt mg) : FnOk P w K mg base CX0 (k + 1) f fd ["number"] spCount := by
  refine F.ok sc__is_count (fun vs H Q E h => ?_) (fun cdv A outer s H vs Q E hr h => ?_)
  · obtain ⟨n, rfl, _⟩ := h
    rfl
  · obtain ⟨n, rfl, q⟩ := h
    exact ⟨_, (pss_one (ps_ret (pe_chain op_le op_le pe_int (pv 0) (pe_globI (by rfl) T.e_MOST_COUNT)))), Evl.s_ret (ev_chainI (f := fun i j => decide (i ≤ j)) (g := fun i j => decide (i ≤ j)) Evl.ev_c (Evl.ev_var (by rfl)) Evl.ev_c) q⟩
theorem ok_place {f : Addr} {fd : FuncData} {k : Nat} (F : Fun K "_is_place" "_is_place" sIsPlace f fd) (T : Txt mg) : FnOk P w K mg base CX0 (k + 1) f fd ["number"] spPlace := by
  refine F.ok sc__is_place (fun vs H Q E h => ?_) (fun cdv A outer s H vs Q E hr h => ?_)
  · obtain ⟨n, rfl, _⟩ := h
    rfl
  · obtain ⟨n, rfl, q⟩ := h
    exact ⟨_, (pss_one (ps_ret (pe_chain op_le op_le pe_int (pv 0) (pe_globI (by rfl) T.e__LAST_PLACE)))), Evl.s_ret (ev_chainI (f := fun i j => decide (i ≤ j)) (g := fun i j => decide (i ≤ j)) Evl.ev_c (Evl.ev_var (by rfl)) Evl.ev_c) q⟩
theorem ok_are {f : Addr} {fd : FuncData} {k : Nat} (F : Fun K "_are_arrows" "_are_arrows" sAreArrows f fd) (T : Txt mg)
    (C__is_place : Cal P w K mg base k "_is_place" ["number"] spPlace) (C_is_sign : Cal P w K mg base k "is_sign" ["text"] spSign) : FnOk P w K mg base CX0 (k + 1) f fd ["arrows"] spAre := by
  refine F.ok sc__are_arrows (fun vs H Q E h => ?_) (fun cdv A outer s H vs Q E hr h => ?_)
  · obtain ⟨t, ps, ar, rfl, _⟩ := h
    rfl
  · obtain ⟨t, ps, ar, rfl, ht, hps, hsh, q⟩ := h
    refine ⟨_, (pss_cons (ps_if (pt_cmpR op_gt (pe_callB call_len (by rfl) T.m_len PySem.boot_len (pa_cons (pv 0) pa_nil)) (pe_globI (by rfl) T.e_MOST_ARROWS) (nomark _))
    (pss_one (ps_ret pe_bl)) pss_nil)
    (pss_cons (ps_if (pt_not (pt_val (pe_callB (cr_all rfl) (by rfl) T.m_all (by decide +kernel) (pa_cons (pe_lc (own := [("place", 2), ("sign", 3), ("to", 4)]) (g := (gTup K 3 (gCons (gName 2) (gCons (gName 3) (gCons (gName 4) gNil))))) (by rfl) sc__are_arrows.nd (pi_tup (pv 0)) (blkOk_by (own := [("place", 2), ("sign", 3), ("to", 4)]) (N := ["arrows", "heads", "place", "sign", "to", "_", "head", "following"]) (sc := defScope sAreArrows) (by decide +kernel)) (fun _ _ _ _ _ => (pg_tup rfl (pgs_cons (pg_name (i := 2) sc__are_arrows.nd rfl (.inl rfl)) (pgs_cons (pg_name (i := 3) sc__are_arrows.nd rfl (.inl rfl)) (pgs_cons (pg_name (i := 4) sc__are_arrows.nd rfl (.inl rfl)) pgs_nil))))) (fun _ _ _ _ _ => pts_nil) (fun _ _ _ _ _ => (pe_and (pe_callC C__is_place hr (by rfl) (pa_cons (pv 2) pa_nil)) (pe_and (pe_callC C_is_sign hr (by rfl) (pa_cons (pv 3) pa_nil)) (pe_one (pe_callC C__is_place hr (by rfl) (pa_cons (pv 4) pa_nil))))))) pa_nil))))
    (pss_one (ps_ret pe_bl)) pss_nil)
    (pss_cons (ps_setLc (i := 1) (own := [("place", 2), ("sign", 3), ("_", 5)]) (g := (gTup K 3 (gCons (gName 2) (gCons (gName 3) (gCons (gName 5) gNil))))) (by rfl) sc__are_arrows.nd rfl rfl (sw_true rfl rfl rfl (by decide +kernel)) (pi_tup (pv 0)) (blkOk_by (own := [("place", 2), ("sign", 3), ("_", 5)]) (N := ["arrows", "heads", "place", "sign", "to", "_", "head", "following"]) (sc := defScope sAreArrows) (by decide +kernel)) (fun _ _ _ _ _ => (pg_tup rfl (pgs_cons (pg_name (i := 2) sc__are_arrows.nd rfl (.inl rfl)) (pgs_cons (pg_name (i := 3) sc__are_arrows.nd rfl (.inl rfl)) (pgs_cons (pg_name (i := 5) sc__are_arrows.nd rfl (.inl rfl)) pgs_nil))))) (fun _ _ _ _ _ => pts_nil) (fun _ _ _ _ _ => (pe_tup (pa_cons (pv 2) (pa_cons (pv 3) pa_nil)))))
    (pss_one (ps_ret (pe_callB (cr_all rfl) (by rfl) T.m_all (by decide +kernel) (pa_cons (pe_lc (own := [("head", 6), ("following", 7)]) (g := (gTup K 2 (gCons (gName 6) (gCons (gName 7) gNil)))) (by rfl) sc__are_arrows.nd (pi_zip (by rfl) T.m_zip (pa_cons (pv 1) (pa_cons (pe_slice sl_list (pv 1) (po_some pe_int) po_none) pa_nil))) (blkOk_by (own := [("head", 6), ("following", 7)]) (N := ["arrows", "heads", "place", "sign", "to", "_", "head", "following"]) (sc := defScope sAreArrows) (by decide +kernel)) (fun _ _ _ _ _ => (pg_tup rfl (pgs_cons (pg_name (i := 6) sc__are_arrows.nd rfl (.inl rfl)) (pgs_cons (pg_name (i := 7) sc__are_arrows.nd rfl (.inl rfl)) pgs_nil)))) (fun _ _ _ _ _ => pts_nil) (fun _ _ _ _ _ => (pe_cmpR (show OpR _ _ (rLtIS K) from op_ltIS hr.units0) (pv 6) (pv 7) (nomark _)))) pa_nil))))))), ?_⟩
    have elen : ps.length = ar.length := Paired.length hps
    refine ⟨.ref t, rfl, .ref t, _, rfl, .inr ⟨_, .of ht, rfl⟩, _, _, rfl, rfl, _, rfl, ite2 (fun e => ?_) (fun e => ?_)⟩
    · have e : (9 : Int) < (((ps.map V.ref).length : Nat) : Int) := of_decide_eq_true e
      rw [List.length_map, elen] at e
      have h := q H (Same.refl H)
      unfold areArr at h
      rw [if_pos e] at h
      exact h
    · have e : ¬ (9 : Int) < (((ps.map V.ref).length : Nat) : Int) := fun h => e (decide_eq_true h)
      rw [List.length_map, elen] at e
      -- all([..])
      refine go_next ?_
      dsimp only
      refine Evl.q_when (b := !(ar.map okA).all id) (Evl.et_not (Evl.et_B (ev_all (bs := ar.map okA) ?_))) (fun hb H1 e1 => ?_) (fun hb H1 e1 => ?_)
      · rw [← range_map ar okA (fun i => match ar[i]? with | some x => okA x | none => true) (fun i x h => by rw [h]), ← elen, show ps.length = (ps.map V.ref).length from (List.length_map _).symm, ← bls_eq]
        refine el_lcT (a := t) (xs := ps.map V.ref) _ (fun i => match ar[i]? with | some x => [some (.ref t), none, some (.int x.1), some (.str x.2.1), some (.int x.2.2), none, none, none] | none => []) (Evl.ev_var (by rfl)) (.of ht) (by rw [List.length_map, elen]; have := hsh.1; omega) (fun i v H1 e1 hv Q2 q2 => ?_) (fun i hi => ?_) (fun i H1 e1 hi => ?_)
        · obtain ⟨p, hp, rfl⟩ := refs_at hv
          obtain ⟨x, hx, hpx⟩ := hps.get hp
          rw [hx] at q2
          exact ⟨p, _, rfl, .of (e1 _ _ hpx), rfl, _, _, rfl, _, _, rfl, _, _, rfl, rfl, q2⟩
        · rw [List.length_map, elen] at hi
          rw [List.getElem?_eq_getElem hi]
          rfl
        · rw [List.length_map, elen] at hi
          have hm := List.getElem_mem hi
          rw [List.getElem?_eq_getElem hi]
          generalize ar[i] = x at hm
          refine Evl.ev_andV (ev_call (Evl.ea_cons (Evl.ev_var (by rfl)) Evl.ea_nil) fun H2 Q2 _ q2 => ⟨_, rfl, q2⟩) fun _ => Evl.ev_andV (ev_call (Evl.ea_cons (Evl.ev_var (by rfl)) Evl.ea_nil) fun H2 Q2 _ q2 => ⟨_, rfl, hsh.2 x hm, q2⟩) fun _ => ev_call (Evl.ea_cons (Evl.ev_var (by rfl)) Evl.ea_nil) fun H2 Q2 _ q2 => ⟨_, rfl, q2⟩
      · have h := q H1 e1
        unfold areArr at h
        have hb2 : (ar.map okA).all id = false := by
          cases h : (ar.map okA).all id with
          | false => rfl
          | true =>
            rw [h] at hb
            cases hb
        rw [if_neg e, if_pos hb2] at h
        exact h
      · have hb2 : ¬ (ar.map okA).all id = false := fun h => by
          rw [h] at hb
          cases hb
        have hq : ∀ H', Same H1 H' → Q (.bl (riseB ar)) H' := fun H' s' => by
          have h := q H' (Same.trans e1 s')
          unfold areArr at h
          rw [if_neg e, if_neg hb2] at h
          exact h
        have ht1 := e1 _ _ ht
        have hps1 := hps.same e1
        -- heads
        refine ⟨.ref t, rfl, t, rfl, ⟨_, .of ht1⟩, fun D nD => ?_⟩
        refine lc_it (walk_tup (xs := ps.map V.ref)) (fun i H' => Same H1 H' ∧ ∃ qs : List Addr, H' D = some (.lst (qs.map V.ref)) ∧ qs.length = i ∧ ∀ j p, qs[j]? = some p → ∃ x : Arw, ar[j]? = some x ∧ H' p = some (.tup [.int x.1, .str x.2.1])) ⟨same_new nD, [], upd_same, rfl, fun j p h => by rw [List.getElem?_nil] at h; cases h⟩ (fun i H' _ hP => .of (hP.1 _ _ ht1)) (fun i v H2 H3 hi hP hy => ?_) (fun H2 hP => ?_)
        · obtain ⟨rfl, hv⟩ := hy
          obtain ⟨s2, qs, eD, rfl, hq2⟩ := hP
          obtain ⟨p, hp, rfl⟩ := refs_at hv
          obtain ⟨x, hx, hpx⟩ := hps1.get hp
          refine ⟨p, _, rfl, .of (s2 _ _ hpx), rfl, _, _, rfl, _, _, rfl, _, _, rfl, rfl, rfl, yes_of (iteT ?_)⟩
          refine ⟨_, rfl, _, rfl, by show 2 ≤ sizeLine; decide, fun p' np' => ⟨_, same_new np' _ _ eD, ?_, same_mut (s2.trans (same_new np')) nD, qs ++ [p'], ?_, ?_, fun j p2 hj => ?_⟩⟩
          · rw [List.length_map]
            rw [List.length_map, elen] at hi
            have := hsh.1
            exact small_lt (by omega)
          · rw [upd_same, List.map_append]
            rfl
          · rw [List.length_append]
            rfl
          · have nDp : ∀ p3 xs', H3 p3 = some (.tup xs') → p3 ≠ D := fun p3 xs' h3 => ne_of h3 eD (by intro z; cases z)
            by_cases hjl : j < qs.length
            · rw [List.getElem?_append_left hjl] at hj
              obtain ⟨y, hy1, hy2⟩ := hq2 j p2 hj
              exact ⟨y, hy1, by rw [upd_ne (nDp _ _ hy2)]; exact same_new np' _ _ hy2⟩
            · have hlt := (List.getElem?_eq_some_iff.mp hj).1
              rw [List.length_append, List.length_singleton] at hlt
              have ej : j = qs.length := by omega
              subst ej
              rw [List.getElem?_append_right (Nat.le_refl _), Nat.sub_self] at hj
              have hj := Option.some.inj hj
              subst hj
              exact ⟨x, hx, by rw [upd_ne (ne_of_none eD np').symm, upd_same]⟩
        · obtain ⟨s2, qs, eD, eq, hq2⟩ := hP
          rw [List.length_map, elen] at eq
          -- zip(heads, heads[1:])
          have hcut : cutV (qs.map V.ref) (some 1) none = (qs.drop 1).map V.ref := by
            unfold cutV
            rw [show HT.sIx (qs.map V.ref).length 0 (some 1) = min 1 (qs.map V.ref).length from HT.sIx_nat _ 0 1, HT.sIx_none, List.length_map]
            cases qs with
            | nil => rfl
            | cons x r =>
              rw [show min 1 (x :: r).length = 1 by rw [List.length_cons]; omega]
              show List.take ((x :: r).length - 1) (r.map V.ref) = r.map V.ref
              exact List.take_of_length_le (by rw [List.length_map, List.length_cons]; omega)
          refine ⟨.ref D, rfl, .ref D, rfl, 1, rfl, D, _, rfl, .of eD, fun c nc => ?_⟩
          rw [hcut]
          have s3 := same_new (o := .lst ((qs.drop 1).map V.ref)) nc
          refine ⟨D, c, _, _, rfl, .of (s3 _ _ eD), .of upd_same, fun E' nE => ?_⟩
          have fin : ∀ H', Same H2 H' → H' E' = some (.lst ((((List.range (ar.length - 1)).map (ltAt ar))).map V.bl)) → rAll K [.ref E'] H' Q := fun H' s' h' => ⟨E', _, rfl, .of h', hq H' (s2.trans s')⟩
          have eD3 := s3 _ _ eD
          have eC3 : (upd H2 c (.lst ((qs.drop 1).map V.ref))) c = some (.lst ((qs.drop 1).map V.ref)) := upd_same
          have hn : ar.length - 1 = min (qs.map V.ref).length ((qs.drop 1).map V.ref).length := by
            rw [List.length_map, List.length_map, List.length_drop]
            omega
          refine lc_it (walk_zip (xs := qs.map V.ref) (ys := (qs.drop 1).map V.ref) hn) (fun i H' => Same (upd H2 c (.lst ((qs.drop 1).map V.ref))) H' ∧ H' E' = some (.lst (((List.range i).map (ltAt ar)).map V.bl))) ⟨same_new nE, upd_same⟩ (fun i H' _ hP => ⟨.of (hP.1 _ _ eD3), .of (hP.1 _ _ eC3)⟩) (fun i v H4 H5 hi hP hy => ?_) (fun H' hP => fin H' (s3.trans hP.1) hP.2)
          obtain ⟨T', x, y, rfl, nT, rfl, hx, hy⟩ := hy
          obtain ⟨s4, e4⟩ := hP
          obtain ⟨p, hp, rfl⟩ := refs_at hx
          obtain ⟨p', hp', rfl⟩ := refs_at hy
          rw [List.getElem?_drop, Nat.add_comm] at hp'
          obtain ⟨x1, hx1, hx2⟩ := hq2 _ _ hp
          obtain ⟨y1, hy1, hy2⟩ := hq2 _ _ hp'
          have e5 : ltIS x1.1 x1.2.1 y1.1 y1.2.1 = ltAt ar i := by
            unfold ltAt
            rw [hx1, hy1]
          refine ⟨T', _, rfl, .of upd_same, rfl, _, _, rfl, _, _, rfl, rfl, rfl, yes_of (iteT ?_)⟩
          refine ⟨.ref p, rfl, .ref p', rfl, p, p', x1.1, x1.2.1, y1.1, y1.2.1, rfl, rfl, .of (same_new nT _ _ (s4 _ _ (s3 _ _ hx2))), .of (same_new nT _ _ (s4 _ _ (s3 _ _ hy2))), _, same_new nT _ _ e4, ?_, same_mut (s4.trans (same_new nT)) nE, ?_⟩
          · rw [List.length_map, List.length_map, List.length_range]
            have := hsh.1
            exact small_lt (by omega)
          · rw [upd_same, List.range_succ, List.map_append, List.map_append, e5]
            rfl
theorem ok_is_writer {f : Addr} {fd : FuncData} {k : Nat} (F : Fun K "is_writer" "is_writer" sIsWriter f fd) (T : Txt mg) (C_is_name : Cal P w K mg base k "is_name" ["text"] spName)
    (C__are_arrows : Cal P w K mg base k "_are_arrows" ["arrows"] spAre) (C__is_count : Cal P w K mg base k "_is_count" ["number"] spCount) : FnOk P w K mg base CX0 (k + 1) f fd ["thing"] (spIsWriter isWr) := by
  refine F.ok sc_is_writer (fun vs H Q E h => ?_) (fun cdv A outer s H vs Q E hr h => ?_)
  · obtain ⟨t, xs, rfl, _⟩ := h
    rfl
  · obtain ⟨t, xs, rfl, ht, h⟩ := h
    refine ⟨_, (pss_cons (ps_if (pt_cmpR op_ne (pe_callB call_len (by rfl) T.m_len PySem.boot_len (pa_cons (pv 0) pa_nil)) pe_int (nomark _))
    (pss_one (ps_ret pe_bl)) pss_nil)
    (pss_cons (ps_asg (pv 0) (pg_tup rfl (pgs_cons (pg_name (i := 1) sc_is_writer.nd rfl (.inl rfl)) (pgs_cons (pg_name (i := 2) sc_is_writer.nd rfl (.inl rfl)) (pgs_cons (pg_name (i := 3) sc_is_writer.nd rfl (.inl rfl)) (pgs_cons (pg_name (i := 4) sc_is_writer.nd rfl (.inl rfl)) pgs_nil))))))
    (pss_one (ps_ret (pe_and (pe_callC C_is_name hr (by rfl) (pa_cons (pv 1) pa_nil)) (pe_and (pe_callC C__are_arrows hr (by rfl) (pa_cons (pv 2) pa_nil)) (pe_and (pe_callC C__is_count hr (by rfl) (pa_cons (pv 3) pa_nil)) (pe_one (pe_callC C__is_count hr (by rfl) (pa_cons (pv 4) pa_nil)))))))))), ?_⟩
    refine ⟨.ref t, rfl, .ref t, _, rfl, .inr ⟨_, .of ht, rfl⟩, rfl, _, rfl, ?_⟩
    rcases h with ⟨hne, q⟩ | ⟨z, tp, ps, ar, p, c, rfl, htp, hps, hsh, hz, q⟩
    · rw [decide_eq_false (show ¬ V.int ((xs.length : Nat) : Int) = V.int 4 from fun e => hne (by injection e with e; omega))]
      exact iteT (q H (Same.refl H))
    · refine iteNS rfl ?_
      refine ⟨.ref t, rfl, t, _, rfl, .of ht, rfl, _, _, rfl, _, _, rfl, _, _, rfl, _, _, rfl, rfl, ?_⟩
      exact Evl.s_ret (Evl.ev_andV (ev_call (Evl.ea_cons (Evl.ev_var (by rfl)) Evl.ea_nil) fun H2 Q2 _ q2 => ⟨_, rfl, hz, q2⟩) fun _ => Evl.ev_andV (ev_call (Evl.ea_cons (Evl.ev_var (by rfl)) Evl.ea_nil) fun H2 Q2 e2 q2 => ⟨_, _, _, rfl, e2 _ _ htp, hps.same e2, hsh, q2⟩) fun _ =>
        Evl.ev_andV (ev_call (Evl.ea_cons (Evl.ev_var (by rfl)) Evl.ea_nil) fun H2 Q2 _ q2 => ⟨_, rfl, q2⟩) fun _ => ev_call (Evl.ea_cons (Evl.ev_var (by rfl)) Evl.ea_nil) fun H2 Q2 _ q2 => ⟨_, rfl, q2⟩) q
end
end Ink
namespace Ink
open PySem PySem.Spec PyProof.Rows L2
def spFarB : Sp := fun vs H Q _ => ∃ a l : Addr, vs = [.ref a] ∧ BagAt H a l ∧ ∀ n H', n.natAbs < 10 ^ 25 → BagAt H' a l → Keep a H H' → Q (.int n) H'
section
variable {P : Program} {w : World} {K : PySem.W.Frag} {mg : Str → Option Value} {base : Heap}
theorem ok_farB {f : Addr} {fd : FuncData} {k : Nat} (F : Fun K "_law_far" "_law_far" sLFar f fd) (T : Txt mg)
    (C__law_pull : Cal P w K mg base k "_law_pull" ["_law_bag_here", "_law_many"] spPull) (C__law_of : Cal P w K mg base k "_law_of" ["_law_bag_here", "_law_things"] (spOf K)) : FnOk P w K mg base CX0 (k + 1) f fd ["_law_bag_here"] spFarB := by
  refine F.ok sc__law_far (fun vs H Q E h => ?_) (fun cdv A outer s H vs Q E hr h => ?_)
  · obtain ⟨a, l, rfl, _⟩ := h
    rfl
  · obtain ⟨a, l, rfl, hB, q⟩ := h
    refine ⟨_, (pss_cons (ps_par (i := 1) (j := 2) (by rfl) sc__law_far.nd rfl rfl (by decide) rfl rfl (pa_cons (pe_op op_add (pe_callC C__law_pull hr (by rfl) (pa_cons (pv 0) (pa_cons pe_int pa_nil))) pe_int) (pa_cons (pe_op op_add (pe_callC C__law_pull hr (by rfl) (pa_cons (pv 0) (pa_cons (pe_op op_pow pe_int pe_int) pa_nil))) pe_int) pa_nil)) (by rfl))
    (pss_cons (ps_set (i := 3) sc__law_far.nd rfl (.inl rfl) (pe_callC C__law_of hr (by rfl) (pa_cons (pv 0) (pa_cons (pe_lst (pa_cons (pv 1) (pa_cons (pv 2) (pa_cons (pe_op op_add (pv 2) (pe_op op_pow pe_int pe_int)) pa_nil)))) pa_nil))))
    (pss_one (ps_ret (pe_callC C__law_of hr (by rfl) (pa_cons (pv 0) (pa_cons (pe_lst (pa_cons (pv 3) (pa_cons (pe_un un_neg pe_int) (pa_cons (pe_op op_sub pe_int (pv 3)) pa_nil)))) pa_nil))))))), ?_⟩
    refine ⟨.ref a, rfl, a, l, 9, rfl, hB, by decide, by decide, fun n H1 n0 n1 hB1 k1 => ⟨n, 4, rfl, rfl, .ref a, rfl, 10, 9, rfl, rfl, ⟨by decide, by decide, by decide⟩, a, l, _, rfl, hB1, by decide, by decide, fun m H2 m0 m1 hB2 k2 => ⟨m, 4, rfl, rfl, _, _, rfl, ?_⟩⟩⟩
    refine ⟨.ref a, rfl, .int (n + 4), rfl, .int (m + 4), rfl, .int (m + 4), rfl, 10, 20, rfl, rfl, ⟨by decide, by decide, by decide⟩, m + 4, _, rfl, rfl, by show 3 ≤ sizeLine; decide, fun p np => ?_⟩
    refine ⟨a, l, _, _, rfl, hB2.upd (hB2.ne np), .inl ⟨p, rfl, (hB2.ne np).1.symm, .inl (.of upd_same)⟩, by show 0 < 3; decide, by show 3 ≤ 1000; decide, fun v H3 hv hB3 k3 => ?_⟩
    have m1 : m < 10 ^ 9 := m1
    obtain ⟨g, rfl, hg⟩ : ∃ g : Int, v = .int g ∧ g.natAbs < 10 ^ 21 := by
      simp only [List.mem_cons, List.not_mem_nil, or_false] at hv
      rcases hv with rfl | rfl | rfl
      · exact ⟨_, rfl, by omega⟩
      · exact ⟨_, rfl, by omega⟩
      · refine ⟨_, rfl, ?_⟩
        show (m + 4 + 10 ^ 20).natAbs < _
        omega
    have k13 := (k1.trans k2).trans ((Keep.of_same (same_new np)).trans k3)
    refine ⟨.ref a, rfl, .int g, rfl, 1, rfl, .int g, rfl, 0, g, rfl, rfl, by show 3 ≤ sizeLine; decide, fun p2 np2 => ?_⟩
    refine ⟨a, l, _, _, rfl, hB3.upd (hB3.ne np2), .inl ⟨p2, rfl, (hB3.ne np2).1.symm, .inl (.of upd_same)⟩, by show 0 < 3; decide, by show 3 ≤ 1000; decide, fun v H4 hv hB4 k4 => ?_⟩
    obtain ⟨g, rfl, hg⟩ : ∃ g : Int, v = .int g ∧ g.natAbs < 10 ^ 25 := by
      simp only [List.mem_cons, List.not_mem_nil, or_false] at hv
      rcases hv with rfl | rfl | rfl
      · exact ⟨_, rfl, by omega⟩
      · exact ⟨_, rfl, by decide⟩
      · refine ⟨_, rfl, ?_⟩
        show (0 - g).natAbs < _
        omega
    exact q g H4 hg hB4 (k13.trans ((Keep.of_same (same_new np2)).trans k4))
end
end Ink
namespace Ink
open PySem PySem.Spec PyProof.Rows L2
/-! ### data as a reading gives it: None, bools, numbers, texts, tuples and lists of such -/
mutual
theorem dp_up {K : PySem.W.Frag} {H H' : Hp} (hl : ∀ b xs, SqL K H b xs → SqL K H' b xs) (ht : ∀ b xs, SqT K H b xs → SqT K H' b xs) : ∀ (d : PyData) (v : V), Dp K H v d → Dp K H' v d
  | .none, _, h => by cases h; exact .non
  | .bool b, _, h => by cases h; exact .bl b
  | .int i, _, h => by cases h; exact .int i
  | .str x, _, h => by cases h; exact .str x
  | .list ds, _, h => by
    cases h with
    | lst hs ha => exact .lst (hl _ _ hs) (dps_up hl ht ds _ ha)
  | .tuple ds, _, h => by
    cases h with
    | tup hs ha => exact .tup (ht _ _ hs) (dps_up hl ht ds _ ha)
  | .dict _, _, h => by cases h
theorem dps_up {K : PySem.W.Frag} {H H' : Hp} (hl : ∀ b xs, SqL K H b xs → SqL K H' b xs) (ht : ∀ b xs, SqT K H b xs → SqT K H' b xs) : ∀ (ds : List PyData) (vs : List V), DpAll K H vs ds → DpAll K H' vs ds
  | [], _, h => by cases h; exact .nil
  | d :: ds, _, h => by
    cases h with
    | cons h1 h2 => exact .cons (dp_up hl ht d _ h1) (dps_up hl ht ds _ h2)
end
mutual
/-- no list in it: it never changes -/
def fz : PyData → Bool
  | .list _ => false
  | .tuple ds => fzAll ds
  | .dict _ => false
  | .none => true
  | .bool _ => true
  | .int _ => true
  | .str _ => true
def fzAll : List PyData → Bool
  | [] => true
  | d :: ds => fz d && fzAll ds
end
mutual
theorem dp_fz {K : PySem.W.Frag} {H H' : Hp} (ht : ∀ b xs, SqT K H b xs → SqT K H' b xs) : ∀ (d : PyData) (v : V), fz d = true → Dp K H v d → Dp K H' v d
  | .none, _, _, h => by cases h; exact .non
  | .bool b, _, _, h => by cases h; exact .bl b
  | .int i, _, _, h => by cases h; exact .int i
  | .str x, _, _, h => by cases h; exact .str x
  | .list _, _, f, _ => by
    unfold fz at f
    cases f
  | .tuple ds, _, f, h => by
    cases h with
    | tup hs ha => exact .tup (ht _ _ hs) (dps_fz ht ds _ (by unfold fz at f; exact f) ha)
  | .dict _, _, _, h => by cases h
theorem dps_fz {K : PySem.W.Frag} {H H' : Hp} (ht : ∀ b xs, SqT K H b xs → SqT K H' b xs) : ∀ (ds : List PyData) (vs : List V), fzAll ds = true → DpAll K H vs ds → DpAll K H' vs ds
  | [], _, _, h => by cases h; exact .nil
  | d :: ds, _, f, h => by
    unfold fzAll at f
    rw [Bool.and_eq_true] at f
    cases h with
    | cons h1 h2 => exact .cons (dp_fz ht d _ f.1 h1) (dps_fz ht ds _ f.2 h2)
end
theorem fzAll_iff : ∀ {ds : List PyData}, fzAll ds = true ↔ ∀ d ∈ ds, fz d = true
  | [] => by unfold fzAll; exact ⟨fun _ _ h => (by cases h), fun _ => rfl⟩
  | d :: ds => by
    unfold fzAll
    rw [Bool.and_eq_true, fzAll_iff]
    exact ⟨fun h e he => (List.mem_cons.mp he).elim (fun z => z ▸ h.1) (h.2 e), fun h => ⟨h d (List.mem_cons_self ..), fun e he => h e (List.mem_cons_of_mem _ he)⟩⟩
theorem fz_map {α : Type} {e : α → PyData} {xs : List α} (h : ∀ x ∈ xs, fz (e x) = true) : fzAll (xs.map e) = true := fzAll_iff.mpr fun d hd => by
  obtain ⟨x, hx, rfl⟩ := List.mem_map.mp hd
  exact h x hx
section
variable {K : PySem.W.Frag} {H H' : Hp} {v : V} {d : PyData} {vs : List V} {ds : List PyData}
theorem dp_same (e : Evl.Ex H H') (h : Dp K H v d) : Dp K H' v d := dp_up (fun _ _ => Evl.ex_l e) (fun _ _ => Evl.ex_t e) d v h
theorem dps_same (e : Evl.Ex H H') (h : DpAll K H vs ds) : DpAll K H' vs ds := dps_up (fun _ _ => Evl.ex_l e) (fun _ _ => Evl.ex_t e) ds vs h
/-- what is drawn from the bag leaves the tuples -/
theorem keep_t {a l : Addr} (b : BagAt H a l) (k : Keep a H H') : ∀ c xs, SqT K H c xs → SqT K H' c xs := fun c xs h => by
  obtain ⟨ns, p, q, s, h1, _⟩ := b
  rcases h with (h | ⟨o, h⟩) | h
  · exact .inl (.inl (k c _ (fun z => by rw [z, h1] at h; cases h) h))
  · exact .inl (.inr ⟨o, k c _ (fun z => by rw [z, h1] at h; cases h) h⟩)
  · exact .inr h
theorem dp_keep {a l : Addr} (b : BagAt H a l) (k : Keep a H H') (f : fz d = true) (h : Dp K H v d) : Dp K H' v d := dp_fz (keep_t b k) d v f h
theorem dps_keep {a l : Addr} (b : BagAt H a l) (k : Keep a H H') (f : fzAll ds = true) (h : DpAll K H vs ds) : DpAll K H' vs ds := dps_fz (keep_t b k) ds vs f h
end
end Ink
namespace L2
open PySem PySem.Spec PyProof.Rows
section
variable {K : PySem.W.Frag} {H H' : Hp} {v : V} {d : PyData} {vs : List V} {ds : List PyData}
theorem DpAll.length : ∀ {vs : List V} {ds : List PyData}, DpAll K H vs ds → vs.length = ds.length
  | _, _, .nil => rfl
  | _, _, .cons _ t => by rw [List.length_cons, List.length_cons, DpAll.length t]
theorem DpAll.get : ∀ {vs : List V} {ds : List PyData} {i : Nat} {d : PyData}, DpAll K H vs ds → ds[i]? = some d → ∃ v, vs[i]? = some v ∧ Dp K H v d
  | _, _, 0, d, .cons h _, e => ⟨_, rfl, by rw [← Option.some.inj e]; exact h⟩
  | _, _, i + 1, d, .cons _ t, e => DpAll.get (i := i) t e
theorem DpAll.at : ∀ {vs : List V} {ds : List PyData} {i : Nat} {v : V}, DpAll K H vs ds → vs[i]? = some v → ∃ d, ds[i]? = some d ∧ Dp K H v d
  | _, _, 0, v, .cons h _, e => ⟨_, rfl, by rw [← Option.some.inj e]; exact h⟩
  | _, _, i + 1, v, .cons _ t, e => DpAll.at (i := i) t e
theorem DpAll.app : ∀ {vs ws : List V} {ds es : List PyData}, DpAll K H vs ds → DpAll K H ws es → DpAll K H (vs ++ ws) (ds ++ es)
  | _, _, _, _, .nil, h => h
  | _, _, _, _, .cons h t, h2 => .cons h (t.app h2)
theorem DpAll.one (h : Dp K H v d) : DpAll K H [v] [d] := .cons h .nil
theorem DpAll.take : ∀ {vs : List V} {ds : List PyData} (n : Nat), DpAll K H vs ds → DpAll K H (vs.take n) (ds.take n)
  | _, _, 0, _ => .nil
  | _, _, _ + 1, .nil => .nil
  | _, _, n + 1, .cons h t => .cons h (t.take n)
theorem DpAll.drop : ∀ {vs : List V} {ds : List PyData} (n : Nat), DpAll K H vs ds → DpAll K H (vs.drop n) (ds.drop n)
  | _, _, 0, h => h
  | _, _, _ + 1, .nil => .nil
  | _, _, n + 1, .cons _ t => t.drop n
theorem DpAll.set : ∀ {vs : List V} {ds : List PyData} (n : Nat), DpAll K H vs ds → Dp K H v d → DpAll K H (vs.set n v) (ds.set n d)
  | _, _, 0, .cons _ t, h => .cons h t
  | _, _, _, .nil, _ => .nil
  | _, _, n + 1, .cons h t, h2 => .cons h (t.set n h2)
end
end L2
namespace Ink
open PySem PySem.Spec PyProof.Rows L2
section
variable {K : PySem.W.Frag} {H H' : Hp} {v : V} {d : PyData} {vs : List V} {ds : List PyData}
theorem dps_ints : ∀ (ns : List Int), DpAll K H (ns.map V.int) (ns.map PyData.int)
  | [] => .nil
  | n :: ns => .cons (.int n) (dps_ints ns)
theorem dp_int {i : Int} (h : Dp K H v (.int i)) : v = .int i := by cases h; rfl
theorem dp_str {z : Str} (h : Dp K H v (.str z)) : v = .str z := by cases h; rfl
theorem dp_bl {b : Bool} (h : Dp K H v (.bool b)) : v = .bl b := by cases h; rfl
theorem dp_non (h : Dp K H v .none) : v = .non := by cases h; rfl
theorem dps_int : ∀ {vs : List V} {ns : List Int}, DpAll K H vs (ns.map PyData.int) → vs = ns.map V.int
  | _, [], h => by cases h; rfl
  | _, n :: ns, h => by
    cases h with
    | cons h t =>
      rw [dp_int h, dps_int t]
      rfl
theorem dp_tup (h : Dp K H v (.tuple ds)) : ∃ p xs, v = .ref p ∧ SqT K H p xs ∧ DpAll K H xs ds := by
  cases h with
  | tup hs ha => exact ⟨_, _, rfl, hs, ha⟩
theorem dp_lst (h : Dp K H v (.list ds)) : ∃ p xs, v = .ref p ∧ SqL K H p xs ∧ DpAll K H xs ds := by
  cases h with
  | lst hs ha => exact ⟨_, _, rfl, hs, ha⟩
theorem dps1 {d1 : PyData} (h : DpAll K H vs [d1]) : ∃ v1, vs = [v1] ∧ Dp K H v1 d1 := by
  cases h with
  | cons h1 t => cases t; exact ⟨_, rfl, h1⟩
theorem dps2 {d1 d2 : PyData} (h : DpAll K H vs [d1, d2]) : ∃ v1 v2, vs = [v1, v2] ∧ Dp K H v1 d1 ∧ Dp K H v2 d2 := by
  cases h with
  | cons h1 t =>
    obtain ⟨v2, rfl, h2⟩ := dps1 t
    exact ⟨_, _, rfl, h1, h2⟩
theorem dps3 {d1 d2 d3 : PyData} (h : DpAll K H vs [d1, d2, d3]) : ∃ v1 v2 v3, vs = [v1, v2, v3] ∧ Dp K H v1 d1 ∧ Dp K H v2 d2 ∧ Dp K H v3 d3 := by
  cases h with
  | cons h1 t =>
    obtain ⟨v2, v3, rfl, h2, h3⟩ := dps2 t
    exact ⟨_, _, _, rfl, h1, h2, h3⟩
theorem dps4 {d1 d2 d3 d4 : PyData} (h : DpAll K H vs [d1, d2, d3, d4]) : ∃ v1 v2 v3 v4, vs = [v1, v2, v3, v4] ∧ Dp K H v1 d1 ∧ Dp K H v2 d2 ∧ Dp K H v3 d3 ∧ Dp K H v4 d4 := by
  cases h with
  | cons h1 t =>
    obtain ⟨v2, v3, v4, rfl, h2, h3, h4⟩ := dps3 t
    exact ⟨_, _, _, _, rfl, h1, h2, h3, h4⟩
end
/-! ### what evaluates to data -/
open Evl
/-- to d, whatever the value -/
def EvD (K : PySem.W.Frag) (te : TE) (σ : L2.St) (H : Hp) (d : PyData) : Prop := ∀ H1, Ex H H1 → ∀ Q : VK, (∀ v H2, Ex H1 H2 → Dp K H2 v d → Q v H2) → te σ H1 Q
def EvDs (K : PySem.W.Frag) (ta : TA) (σ : L2.St) (H : Hp) (ds : List PyData) : Prop := ∀ H1, Ex H H1 → ∀ Q : List V → Hp → Prop, (∀ vs H2, Ex H1 H2 → DpAll K H2 vs ds → Q vs H2) → ta σ H1 Q
/-- to a new list of ds -/
def EvN (K : PySem.W.Frag) (te : TE) (σ : L2.St) (H : Hp) (ds : List PyData) : Prop := ∀ H1, Ex H H1 → ∀ Q : VK, (∀ p vs H2, H1 p = none → Ex H1 H2 → H2 p = some (.lst vs) → DpAll K H2 vs ds → Q (.ref p) H2) → te σ H1 Q
/-- what is walked gives ds -/
def EvI (K : PySem.W.Frag) (ti : TI) (σ : L2.St) (H : Hp) (ds : List PyData) : Prop := ∀ H1, Ex H H1 → ∀ R : It → Hp → Prop, (∀ J H2, Ex H1 H2 → Walk J ds.length (fun H' => Ex H2 H') (fun i Ha x Hb => Ex Ha Hb ∧ ∃ d, ds[i]? = some d ∧ Dp K Hb x d) → R J H2) → ti σ H1 R
section
variable {K : PySem.W.Frag} {σ : L2.St} {H H' : Hp} {ta tb te tc : TE} {t : TT} {d d1 d2 : PyData} {ds es : List PyData} {v : V} {i : Nat}
theorem EvD.mono (e : Ex H H') (h : EvD K te σ H d) : EvD K te σ H' d := fun H1 a Q q => h H1 (e.trans a) Q q
theorem EvN.mono (e : Ex H H') (h : EvN K te σ H ds) : EvN K te σ H' ds := fun H1 a Q q => h H1 (e.trans a) Q q
theorem EvN.list (h : EvN K te σ H ds) : EvD K te σ H (.list ds) := fun H1 e Q q => h H1 e _ fun p vs H2 _ e2 hp hd => q _ H2 e2 (.lst (.of hp) hd)
theorem ed_of (h : Ev te σ H v) (hd : Dp K H v d) : EvD K te σ H d := fun H1 e Q q => h H1 e _ fun H2 e2 => q v H2 e2 (dp_same (e.trans e2) hd)
theorem ev_int {n : Int} (h : EvD K te σ H (.int n)) : Ev te σ H (.int n) := fun H1 e Q q => h H1 e _ fun v H2 e2 hd => by rw [dp_int hd]; exact q H2 e2
theorem ev_str {z : Str} (h : EvD K te σ H (.str z)) : Ev te σ H (.str z) := fun H1 e Q q => h H1 e _ fun v H2 e2 hd => by rw [dp_str hd]; exact q H2 e2
theorem ev_bl {b : Bool} (h : EvD K te σ H (.bool b)) : Ev te σ H (.bl b) := fun H1 e Q q => h H1 e _ fun v H2 e2 hd => by rw [dp_bl hd]; exact q H2 e2
theorem ed_int {n : Int} (h : Ev te σ H (.int n)) : EvD K te σ H (.int n) := ed_of h (.int n)
theorem ed_str {z : Str} (h : Ev te σ H (.str z)) : EvD K te σ H (.str z) := ed_of h (.str z)
theorem ed_bl {b : Bool} (h : Ev te σ H (.bl b)) : EvD K te σ H (.bool b) := ed_of h (.bl b)
theorem ed_non (h : Ev te σ H .non) : EvD K te σ H .none := ed_of h .non
theorem ed_var (h : σ[i]? = some (some v)) (hd : Dp K H v d) : EvD K (tVar i) σ H d := ed_of (ev_var h) hd
theorem ed_is (h : EvD K te σ H d1) (e : d1 = d2) : EvD K te σ H d2 := e ▸ h
theorem eds_nil : EvDs K tNil σ H [] := fun H1 _ _ q => q [] H1 (Ex.refl H1) .nil
theorem eds_cons {tr : TA} (h : EvD K ta σ H d) (hr : EvDs K tr σ H ds) : EvDs K (tCons ta tr) σ H (d :: ds) := fun H1 e _ q =>
  h H1 e _ fun v H2 e2 hd => hr H2 (e.trans e2) _ fun vs H3 e3 hds => q _ H3 (e2.trans e3) (.cons (dp_same e3 hd) hds)
theorem ed_tup {ta : TA} (h : EvDs K ta σ H ds) (hl : ds.length ≤ 100000) : EvD K (tTup ta) σ H (.tuple ds) := fun H1 e Q q =>
  h H1 e _ fun vs H2 e2 hds => ⟨sz_of (by rw [hds.length]; exact hl), fun p hp => q _ _ (e2.trans (Ex.new hp)) (.tup (.of upd_same) (dps_same (Ex.new hp) hds))⟩
theorem en_lst {ta : TA} (h : EvDs K ta σ H ds) (hl : ds.length ≤ 100000) : EvN K (tLst ta) σ H ds := fun H1 e Q q =>
  h H1 e _ fun vs H2 e2 hds => ⟨sz_of (by rw [hds.length]; exact hl), fun p hp => q p vs _ (fresh_back e2 hp) (e2.trans (Ex.new hp)) upd_same (dps_same (Ex.new hp) hds)⟩
theorem ed_ixT {n : Int} (ha : EvD K ta σ H (.tuple ds)) (hb : Ev tb σ H (.int n)) (h0 : 0 ≤ n) (hd : ds[n.toNat]? = some d) : EvD K (tOp (rIxT K) ta tb) σ H d := fun H1 e Q q =>
  ha H1 e _ fun v H2 e2 hv => hb H2 (e.trans e2) _ fun H3 e3 => by
    obtain ⟨p, xs, rfl, hs, hxs⟩ := dp_tup (dp_same e3 hv)
    obtain ⟨x, hx, hxd⟩ := hxs.get hd
    exact ⟨p, xs, n, x, rfl, rfl, hs, atI_of h0 hx, q x H3 (e2.trans e3) hxd⟩
theorem ed_ixL {n : Int} (ha : EvD K ta σ H (.list ds)) (hb : Ev tb σ H (.int n)) (h0 : 0 ≤ n) (hd : ds[n.toNat]? = some d) : EvD K (tOp (rIxL K) ta tb) σ H d := fun H1 e Q q =>
  ha H1 e _ fun v H2 e2 hv => hb H2 (e.trans e2) _ fun H3 e3 => by
    obtain ⟨p, xs, rfl, hs, hxs⟩ := dp_lst (dp_same e3 hv)
    obtain ⟨x, hx, hxd⟩ := hxs.get hd
    exact ⟨p, xs, n, x, rfl, rfl, hs, atI_of h0 hx, q x H3 (e2.trans e3) hxd⟩
theorem ev_eqD (ha : EvD K ta σ H d1) (hb : EvD K tb σ H d2) (h1 : SeqAt.shaped d1 = true) (h2 : SeqAt.shaped d2 = true) : Ev (tOp (rEqD K) ta tb) σ H (.bl (PyData.eqv d1 d2)) := fun H1 e Q q =>
  ha H1 e _ fun v H2 e2 hv => hb H2 (e.trans e2) _ fun w H3 e3 hw => ⟨d1, d2, dp_same e3 hv, hw, h1, h2, q H3 (e2.trans e3)⟩
theorem ev_neD (ha : EvD K ta σ H d1) (hb : EvD K tb σ H d2) (h1 : SeqAt.shaped d1 = true) (h2 : SeqAt.shaped d2 = true) : Ev (tOp (rNeD K) ta tb) σ H (.bl (!PyData.eqv d1 d2)) := fun H1 e Q q =>
  ha H1 e _ fun v H2 e2 hv => hb H2 (e.trans e2) _ fun w H3 e3 hw => ⟨d1, d2, dp_same e3 hv, hw, h1, h2, q H3 (e2.trans e3)⟩
theorem ev_lenD (ha : EvD K ta σ H d) (h : d = .list ds ∨ d = .tuple ds) : Ev (tCB (fun xs H Q => ∃ x n, xs = [x] ∧ LenV K x H n ∧ Q (.int n) H) (tCons ta tNil)) σ H (.int (ds.length : Nat)) := fun H1 e Q q =>
  ha H1 e _ fun v H2 e2 hv => by
    rcases h with rfl | rfl
    · obtain ⟨p, xs, rfl, hs, hxs⟩ := dp_lst hv
      exact ⟨.ref p, _, rfl, .inl ⟨_, hs, rfl⟩, by rw [hxs.length]; exact q H2 e2⟩
    · obtain ⟨p, xs, rfl, hs, hxs⟩ := dp_tup hv
      exact ⟨.ref p, _, rfl, .inr ⟨_, hs, rfl⟩, by rw [hxs.length]; exact q H2 e2⟩
theorem ed_if {b : Bool} (h : EvT t σ H b) (h1 : b = true → EvD K ta σ H d) (h2 : b = false → EvD K tb σ H d) : EvD K (tIf t ta tb) σ H d := fun H1 e Q q => h H1 e _ fun H2 e2 => by
  cases b with
  | true => exact iteT (h1 rfl H2 (e.trans e2) Q fun v H3 e3 => q v H3 (e2.trans e3))
  | false => exact iteF (h2 rfl H2 (e.trans e2) Q fun v H3 e3 => q v H3 (e2.trans e3))
theorem et_yes : EvT tYes σ H true := fun H1 _ Q q => q H1 (Ex.refl H1)
/-- a contract of data alone: what stood stands -/
def spP (K : PySem.W.Frag) (R : List PyData → PyData → Prop) : Sp := fun vs H Q _ => ∃ ds d, DpAll K H vs ds ∧ R ds d ∧ ∀ v H', Same H H' → Dp K H' v d → Q v H'
theorem ed_call {R : List PyData → PyData → Prop} {E : XK} {ta : TA} (h : EvDs K ta σ H ds) (hR : R ds d) : EvD K (tCall (spP K R) [] E ta) σ H d := fun H1 e Q q =>
  h H1 e _ fun vs H2 e2 hds => by
    show spP K R (vs ++ []) H2 Q E
    rw [List.append_nil]
    exact ⟨ds, d, hds, hR, fun v H3 s3 hd => q v H3 (e2.trans s3) hd⟩
/-! ### statements -/
variable {D : Ends} {tu : TS}
theorem sd_asg (h : EvD K te σ H d) (k : ∀ v H1, Ex H H1 → Dp K H1 v d → D.nx (σ.set i (some v)) H1) : tAsg te (gName i) D σ H := h H (Ex.refl H) _ fun v H1 e hd => k v H1 e hd
theorem sd_asgN (h : EvN K te σ H ds) (k : ∀ p vs H1, H p = none → Ex H H1 → H1 p = some (.lst vs) → DpAll K H1 vs ds → D.nx (σ.set i (some (.ref p))) H1) : tAsg te (gName i) D σ H := h H (Ex.refl H) _ fun p vs H1 np e hp hd => k p vs H1 np e hp hd
theorem sd_ret (h : EvD K te σ H d) (k : ∀ v H1, Ex H H1 → Dp K H1 v d → D.rt v H1) : tRet te D σ H := h H (Ex.refl H) _ k
theorem sd_un2 {n1 n2 : Nat} (h : EvD K te σ H (.tuple [d1, d2])) (k : ∀ v1 v2 H1, Ex H H1 → Dp K H1 v1 d1 → Dp K H1 v2 d2 → D.nx ((σ.set n1 (some v1)).set n2 (some v2)) H1) : tAsg te (gTup K 2 (gCons (gName n1) (gCons (gName n2) gNil))) D σ H := h H (Ex.refl H) _ fun v H1 e hd => by
  obtain ⟨p, xs, rfl, hs, hxs⟩ := dp_tup hd
  obtain ⟨v1, v2, rfl, h1, h2⟩ := dps2 hxs
  exact ⟨p, _, rfl, hs, rfl, _, _, rfl, _, _, rfl, rfl, k v1 v2 H1 e h1 h2⟩
theorem sd_un3 {d3 : PyData} {n1 n2 n3 : Nat} (h : EvD K te σ H (.tuple [d1, d2, d3])) (k : ∀ v1 v2 v3 H1, Ex H H1 → Dp K H1 v1 d1 → Dp K H1 v2 d2 → Dp K H1 v3 d3 → D.nx (((σ.set n1 (some v1)).set n2 (some v2)).set n3 (some v3)) H1) : tAsg te (gTup K 3 (gCons (gName n1) (gCons (gName n2) (gCons (gName n3) gNil)))) D σ H := h H (Ex.refl H) _ fun v H1 e hd => by
  obtain ⟨p, xs, rfl, hs, hxs⟩ := dp_tup hd
  obtain ⟨v1, v2, v3, rfl, h1, h2, h3⟩ := dps3 hxs
  exact ⟨p, _, rfl, hs, rfl, _, _, rfl, _, _, rfl, _, _, rfl, rfl, k v1 v2 v3 H1 e h1 h2 h3⟩
theorem sd_un4 {d3 d4 : PyData} {n1 n2 n3 n4 : Nat} (h : EvD K te σ H (.tuple [d1, d2, d3, d4])) (k : ∀ v1 v2 v3 v4 H1, Ex H H1 → Dp K H1 v1 d1 → Dp K H1 v2 d2 → Dp K H1 v3 d3 → Dp K H1 v4 d4 → D.nx ((((σ.set n1 (some v1)).set n2 (some v2)).set n3 (some v3)).set n4 (some v4)) H1) :
    tAsg te (gTup K 4 (gCons (gName n1) (gCons (gName n2) (gCons (gName n3) (gCons (gName n4) gNil))))) D σ H := h H (Ex.refl H) _ fun v H1 e hd => by
  obtain ⟨p, xs, rfl, hs, hxs⟩ := dp_tup hd
  obtain ⟨v1, v2, v3, v4, rfl, h1, h2, h3, h4⟩ := dps4 hxs
  exact ⟨p, _, rfl, hs, rfl, _, _, rfl, _, _, rfl, _, _, rfl, _, _, rfl, rfl, k v1 v2 v3 v4 H1 e h1 h2 h3 h4⟩
/-! ### what is walked -/
theorem ei_tup (h : EvD K te σ H (.tuple ds)) : EvI K (iTup K te) σ H ds := fun H1 e R q => h H1 e _ fun v H2 e2 hd => by
  obtain ⟨p, xs, rfl, hs, hxs⟩ := dp_tup hd
  refine ⟨p, rfl, ⟨xs, hs⟩, q _ H2 e2 ?_⟩
  rw [← hxs.length]
  refine (walk_tup (xs := xs)).mono (fun H3 e3 => ex_t e3 hs) fun i Ha x Hb hi e3 hy => ?_
  obtain ⟨rfl, hx⟩ := hy
  obtain ⟨dx, h1, h2⟩ := hxs.at hx
  exact ⟨Ex.refl _, dx, h1, dp_same e3 h2⟩
theorem ei_lst (h : EvD K te σ H (.list ds)) : EvI K (iList K te) σ H ds := fun H1 e R q => h H1 e _ fun v H2 e2 hd => by
  obtain ⟨p, xs, rfl, hs, hxs⟩ := dp_lst hd
  refine ⟨p, rfl, ⟨xs, hs⟩, q _ H2 e2 ?_⟩
  rw [← hxs.length]
  refine (walk_list (xs := xs)).mono (fun H3 e3 => ex_l e3 hs) fun i Ha x Hb hi e3 hy => ?_
  obtain ⟨rfl, hx⟩ := hy
  obtain ⟨dx, h1, h2⟩ := hxs.at hx
  exact ⟨Ex.refl _, dx, h1, dp_same e3 h2⟩
theorem ei_range {ta : TA} {n : Nat} (h : EvA ta σ H [.int (n : Int)]) (hn : n ≤ 100000) : EvI K (iRng1 ta) σ H ((List.range n).map fun (i : Nat) => PyData.int (i : Int)) := fun H1 e R q => h H1 e _ fun H2 e2 => ⟨(n : Int), rfl, by omega, by omega, q _ H2 e2 (by
  rw [List.length_map, List.length_range, Int.toNat_natCast]
  refine walk_range0.mono (fun _ _ => True.intro) fun i Ha x Hb hi e3 hy => ?_
  obtain ⟨rfl, rfl⟩ := hy
  refine ⟨Ex.refl _, .int (i : Int), ?_, .int _⟩
  rw [List.getElem?_map, List.getElem?_range hi]
  rfl)⟩
theorem ei_zip {ta tb : TE} {tx : TA} (ha : EvD K ta σ H (.list ds)) (hb : EvD K tb σ H (.list es)) (hl : ds.length = es.length ∨ True) : EvI K (iZip K (tCons ta (tCons tb tNil))) σ H ((ds.zip es).map fun p => .tuple [p.1, p.2]) := fun H1 e R q => ha H1 e _ fun v H2 e2 hv => hb H2 (e.trans e2) _ fun w H3 e3 hw => by
  obtain ⟨p, xs, rfl, hs, hxs⟩ := dp_lst (dp_same e3 hv)
  obtain ⟨p', ys, rfl, hs', hys⟩ := dp_lst hw
  refine ⟨p, p', xs, ys, rfl, hs, hs', q _ H3 (e2.trans e3) ?_⟩
  rw [List.length_map, List.length_zip, ← hxs.length, ← hys.length]
  refine (walk_zip (xs := xs) (ys := ys) rfl).mono (fun H4 e4 => ⟨ex_l e4 hs, ex_l e4 hs'⟩) fun i Ha x Hb hi e4 hy => ?_
  obtain ⟨T, x1, y1, rfl, nT, rfl, hx, hy⟩ := hy
  obtain ⟨dx, h1, h2⟩ := hxs.at hx
  obtain ⟨dy, h3, h4⟩ := hys.at hy
  refine ⟨Ex.new nT, .tuple [dx, dy], ?_, .tup (.of upd_same) (.cons (dp_same (e4.trans (Ex.new nT)) h2) (.cons (dp_same (e4.trans (Ex.new nT)) h4) .nil))⟩
  rw [List.getElem?_map, show (ds.zip es)[i]? = some (dx, dy) from by rw [List.getElem?_zip_eq_some]; exact ⟨h1, h3⟩]
  rfl
/-! ### comprehensions -/
theorem filter_snoc {α : Type} {xs : List α} {i : Nat} {a : α} (b : α → Bool) (h : xs[i]? = some a) : (xs.take (i + 1)).filter b = (xs.take i).filter b ++ (if b a = true then [a] else []) := by
  rw [take_snoc h, List.filter_append]
  cases hb : b a <;> simp [hb]
theorem en_lc {α : Type} {ti : TI} {g : TG} {vs : List Nat} (xs : List α) (enc : α → PyData) (b : α → Bool) (f : α → PyData) (hi : EvI K ti σ H (xs.map enc)) (hz : xs.length ≤ 40000) (hf : ∀ a ∈ xs, fz (f a) = true)
    (ht : ∀ (i : Nat) (a : α) (H1 : Hp) (x : V), xs[i]? = some a → Ex H H1 → Dp K H1 x (enc a) → ∀ R : L2.St → Hp → Prop, (∀ σ2, wipe σ2 vs = wipe σ vs → EvT t σ2 H1 (b a) → (b a = true → EvD K te σ2 H1 (f a)) → R σ2 H1) → g x (wipe σ vs) H1 R) :
    EvN K (tLc ti g t te vs) σ H ((xs.filter b).map f) := fun H0 e Q q => hi H0 e _ fun J H1 e1 W D nD => by
  refine lc_it W (fun i H' => Ex H1 H' ∧ ∃ vs, H' D = some (.lst vs) ∧ DpAll K H' vs (((xs.take i).filter b).map f)) ⟨Ex.new nD, [], upd_same, .nil⟩ (fun _ _ _ hP => hP.1) (fun i x Ha Hb hi hP hy => ?_) (fun H' hP => ?_)
  · obtain ⟨s1, acc, eD, hacc⟩ := hP
    obtain ⟨s2, d, hd, hx⟩ := hy
    rw [List.getElem?_map] at hd
    cases ha : xs[i]? with
    | none =>
      rw [ha] at hd
      cases hd
    | some a =>
      rw [ha] at hd
      have hd := Option.some.inj hd
      subst hd
      refine ht i a Hb x ha ((e.trans e1).trans (s1.trans s2)) hx _ fun σ2 hw tt he => ⟨hw, tt Hb (Ex.refl Hb) _ fun H3 e3 => ?_⟩
      have hn := filter_snoc b ha
      cases hb : b a with
      | false =>
        rw [hb] at hn
        refine iteF ⟨s1.trans (s2.trans e3), acc, e3 _ _ (s2 _ _ eD), ?_⟩
        rw [hn]
        show DpAll K H3 acc (((xs.take i).filter b ++ []).map f)
        rw [List.append_nil]
        exact dps_same (s2.trans e3) hacc
      | true =>
        rw [hb] at hn
        refine iteT (he hb H3 e3 _ fun y H4 e4 hy => ⟨acc, e4 _ _ (e3 _ _ (s2 _ _ eD)), ?_, ?_, acc ++ [y], upd_same, ?_⟩)
        · have h1 := hacc.length
          have h2 := List.length_filter_le b (xs.take i)
          have h3 := List.length_take_le i xs
          rw [List.length_map] at hi
          rw [List.length_map] at h1
          exact sz_lt (by omega)
        · exact Ex.mut (s1.trans (s2.trans (e3.trans e4))) nD
        · rw [hn]
          show DpAll K _ (acc ++ [y]) (((xs.take i).filter b ++ [a]).map f)
          rw [List.map_append]
          have eD4 := e4 _ _ (e3 _ _ (s2 _ _ eD))
          have ht : ∀ c xs, SqT K H4 c xs → SqT K (upd H4 D (.lst (acc ++ [y]))) c xs := fun c xs h => by
            rcases h with (h | ⟨o, h⟩) | h
            · exact .inl (.inl (by rw [upd_ne (ne_of h eD4 (by intro z; cases z))]; exact h))
            · exact .inl (.inr ⟨o, by rw [upd_ne (ne_of h eD4 (by intro z; cases z))]; exact h⟩)
            · exact .inr h
          have hfa : ∀ a ∈ (xs.take i).filter b, fz (f a) = true := fun a h => hf a (List.mem_of_mem_take (List.mem_filter.mp h).1)
          exact (dps_fz ht _ _ (fz_map hfa) (dps_same (s2.trans (e3.trans e4)) hacc)).app (.one (dp_fz ht _ _ (hf a (List.mem_of_getElem? ha)) hy))
  · obtain ⟨s1, acc, eD, hacc⟩ := hP
    rw [List.length_map, List.take_length] at hacc
    exact q D acc H' (fresh_back e1 nD) (e1.trans s1) eD hacc
end
end Ink
namespace Ink
open PySem PySem.Spec PyProof.Rows L2
/-! ### sorted(xs), the items alike data of any depth -/
def rSortedD (K : PySem.W.Frag) : List V → Hp → VK → Prop := fun vs H Q => ∃ (x : V) (ds : List PyData), vs = [x] ∧ Dp K H x (.list ds) ∧ PySem.W.AllAlike ds ∧ PySem.W.Sortable ds ∧ (∀ d ∈ ds, d.depth ≤ 64) ∧
  ∀ p ws, H p = none → DpAll K H ws (ds.mergeSort (PySem.W.dataLe false id)) → Q (.ref p) (upd H p (.lst ws))
theorem each_pairs {K : PySem.W.Frag} {H : Hp} : ∀ {xs : List V} {its : List Value} {ds : List PyData}, Vals xs its → DpAll K H xs ds → PySem.W.EachIs (fun u (b : V × PyData) => RelV b.1 u ∧ Dp K H b.1 b.2) its (xs.zip ds)
  | _, _, _, .nil, .nil => .nil
  | _, _, _, .cons r rs, .cons h hs => .cons ⟨r, h⟩ (each_pairs rs hs)
theorem pairs_each {K : PySem.W.Frag} {H : Hp} : ∀ {out : List Value} {bs : List (V × PyData)}, PySem.W.EachIs (fun u (b : V × PyData) => RelV b.1 u ∧ Dp K H b.1 b.2) out bs → Vals (bs.map Prod.fst) out ∧ DpAll K H (bs.map Prod.fst) (bs.map Prod.snd)
  | _, _, .nil => ⟨.nil, .nil⟩
  | _, _, .cons ⟨r, h⟩ t => ⟨.cons r (pairs_each t).1, .cons h (pairs_each t).2⟩
theorem each_imp {α β : Type} {R S : α → β → Prop} (h : ∀ a b, R a b → S a b) : ∀ {as : List α} {bs : List β}, PySem.W.EachIs R as bs → PySem.W.EachIs S as bs
  | _, _, .nil => .nil
  | _, _, .cons r t => .cons (h _ _ r) (each_imp h t)
theorem zip_snd {α β : Type} : ∀ {as : List α} {bs : List β}, as.length = bs.length → (as.zip bs).map Prod.snd = bs
  | [], [], _ => rfl
  | _ :: _, _ :: _, h => by
    rw [List.zip_cons_cons, List.map_cons, zip_snd (by simpa using h)]
theorem cr_sortedD {X : Cx} (hu : X.A.units + 100 < cLine) : CallR X (.builtin "sorted") (rSortedD X.K) := by
  intro pins s σ H vs us Q I r h
  obtain ⟨x, ds, rfl, hx, ha, hs, hd, q⟩ := h
  obtain ⟨p, xs, rfl, hl, hds⟩ := dp_lst hx
  obtain ⟨its, rv, pl, hz⟩ := I.list hl
  rw [Vals.ref1 r]
  have hlen := hds.length
  have esnd : (xs.zip ds).map Prod.snd = ds := zip_snd hlen
  have e := each_pairs rv hds
  refine PySem.W.sorted_data (enc := Prod.snd) pl.isList e (each_imp (fun u b ⟨r, h⟩ => Dp.reads I b.2 b.1 u h r) e) (by rw [esnd]; exact ha) (by rw [esnd]; exact hs) (by rw [List.length_zip]; omega) (fun b hb => ?_) fun out ho hout => ?_
  · have : b.2 ∈ ds := by
      rw [← esnd]
      exact List.mem_map_of_mem hb
    have := hd _ this
    omega
  · obtain ⟨v1, d1⟩ := pairs_each hout
    obtain ⟨ep, he'⟩ := PyProof.Rows.sortedAll_at s.heap its out.toArray
    have em : ((xs.zip ds).mergeSort (PySem.W.dataLe false Prod.snd)).map Prod.snd = ds.mergeSort (PySem.W.dataLe false id) := by
      have z := List.map_mergeSort (r := PySem.W.dataLe false (Prod.snd : V × PyData → PyData)) (s := PySem.W.dataLe false id) (f := Prod.snd) (l := xs.zip ds) (fun a _ b _ => rfl)
      rw [z, esnd]
    rw [em] at d1
    have hwl : (((xs.zip ds).mergeSort (PySem.W.dataLe false Prod.snd)).map Prod.fst).length ≤ sizeLine := by
      rw [List.length_map, List.length_mergeSort, List.length_zip]
      omega
    exact ⟨.ref _, upd H (s.heap.objs.size + 1) (.lst _), I.laid (t' := s.toks) (fun _ _ => PyProof.Rows.sortedAll_old) (Nat.le_succ _) ⟨hwl, out, ep, v1, he'⟩, rfl, q _ _ (I.hok.fresh (Nat.le_succ _)) d1⟩
open Evl
theorem en_sorted {K : PySem.W.Frag} {σ : L2.St} {H : Hp} {te : TE} {ds : List PyData} (h : EvD K te σ H (.list ds)) (ha : PySem.W.AllAlike ds) (hs : PySem.W.Sortable ds) (hd : ∀ d ∈ ds, d.depth ≤ 64) : EvN K (tCB (rSortedD K) (tCons te tNil)) σ H (ds.mergeSort (PySem.W.dataLe false id)) := fun H1 e Q q =>
  h H1 e _ fun v H2 e2 hv => ⟨v, ds, rfl, hv, ha, hs, hd, fun p ws np hw => q p ws _ (fresh_back e2 np) (e2.trans (Ex.new np)) upd_same (dps_same (Ex.new np) hw)⟩
end Ink
namespace Ink
open PySem PySem.Spec PyProof.Rows L2
/-! ### dicts whose keys are nested tuples -/
abbrev NK := NestedKey
mutual
theorem nest_of {X : Cx} {pins : List (Addr × Obj)} {σ : L2.St} {H : Hp} {s : Shared} (I : Inv X pins σ H s) : ∀ (k : NK) (v : V) (u : Value), Dp X.K H v k.data → RelV v u → NestedIs s.heap k u
  | .none, _, _, h, r => by
    have h : Dp X.K H _ .none := h
    cases h
    cases r
    exact .none
  | .num i, _, _, h, r => by
    have h : Dp X.K H _ (.int i) := h
    cases h
    obtain ⟨t, rfl⟩ := r
    exact .int i t
  | .text x, _, _, h, r => by
    have h : Dp X.K H _ (.str x) := h
    cases h
    obtain ⟨t, rfl⟩ := r
    exact .text x t
  | .tup ks, v, u, h, r => by
    have h : Dp X.K H v (.tuple (NestedKey.datas ks)) := by
      unfold NestedKey.data at h
      exact h
    cases h with
    | tup hs ha =>
      cases r
      obtain ⟨its, rv, ⟨o, ho, hc, n, hd⟩, _⟩ := I.tuple hs
      exact .tup ho hc hd (nests_of I ks _ its ha rv)
theorem nests_of {X : Cx} {pins : List (Addr × Obj)} {σ : L2.St} {H : Hp} {s : Shared} (I : Inv X pins σ H s) : ∀ (ks : List NK) (vs : List V) (us : List Value), DpAll X.K H vs (NestedKey.datas ks) → Vals vs us → NestedAll s.heap ks us
  | [], _, _, h, r => by
    unfold NestedKey.datas at h
    cases h
    cases r
    exact .nil
  | k :: ks, _, _, h, r => by
    unfold NestedKey.datas at h
    cases h with
    | cons h1 h2 =>
      cases r with
      | cons r1 r2 => exact .cons (nest_of I k _ _ h1 r1) (nests_of I ks _ _ h2 r2)
end
mutual
theorem fz_key : ∀ k : NK, fz k.data = true
  | .none => by unfold NestedKey.data fz; rfl
  | .num _ => by unfold NestedKey.data fz; rfl
  | .text _ => by unfold NestedKey.data fz; rfl
  | .tup ks => by
    unfold NestedKey.data fz
    exact fz_keys ks
theorem fz_keys : ∀ ks : List NK, fzAll (NestedKey.datas ks) = true
  | [] => by unfold NestedKey.datas fzAll; rfl
  | k :: ks => by
    unfold NestedKey.datas fzAll
    rw [fz_key k, fz_keys ks]
    rfl
end
/-- a key as a reading gives it: a tuple, not too deep -/
def KeyAt (K : PySem.W.Frag) (H : Hp) (v : V) (k : NK) : Prop := Dp K H v k.data ∧ k.depth ≤ 8 ∧ ∃ ks, k = .tup ks
def lookN (kvs : List (NK × V)) (k : NK) : Option V := (kvs.find? fun kv => decide (kv.1 = k)).map (·.2)
def putN (kvs : List (NK × V)) (k : NK) (v : V) : List (NK × V) := if (lookN kvs k).isSome then kvs.map (fun kv => if kv.1 = k then (kv.1, v) else kv) else kvs ++ [(k, v)]
/-- what is known of a dict: its rows, and the very object -/
abbrev DX := List (NK × Addr × Value) × Obj
def DicO (P : Program) (w : World) (d : Addr) (x : DX) : HO := .ext fun h => (d == sysModules) = false ∧ ∃ es ep, h.get? d = some x.2 ∧ x.2.ExactDict ∧ x.2.data = .dict es ep ∧ es.toList = x.1.map (entryOfKey (nestedKind P w))
def PairN (p : NK × V) (x : NK × Addr × Value) : Prop := p.1 = x.1 ∧ RelV p.2 x.2.2
/-- at d stands a dict with these keys and values, in the order in which they came -/
def DicAt (P : Program) (w : World) (K : PySem.W.Frag) (H : Hp) (d : Addr) (kvs : List (NK × V)) : Prop :=
  ∃ xs : DX, H d = some (DicO P w d xs) ∧ Paired PairN kvs xs.1 ∧ (∀ x ∈ xs.1, KeyAt K H (.ref x.2.1) x.1) ∧ (xs.1.map (·.1)).Nodup ∧ kvs.length ≤ 100000
theorem dicO_ne {P : Program} {w : World} {d : Addr} {xs : DX} : (∀ ys, DicO P w d xs ≠ .lst ys) ∧ (∀ ys, DicO P w d xs ≠ .tup ys) := ⟨fun ys z => (by unfold DicO at z; cases z), fun ys z => (by unfold DicO at z; cases z)⟩
section
variable {P : Program} {w : World} {K : PySem.W.Frag} {H H' : Hp} {d : Addr} {kvs : List (NK × V)} {v : V} {k : NK}
theorem KeyAt.up (ht : ∀ b xs, SqT K H b xs → SqT K H' b xs) (h : KeyAt K H v k) : KeyAt K H' v k := ⟨dp_fz ht _ _ (fz_key k) h.1, h.2⟩
theorem DicAt.up (hd : H' d = H d) (ht : ∀ b xs, SqT K H b xs → SqT K H' b xs) (h : DicAt P w K H d kvs) : DicAt P w K H' d kvs := by
  obtain ⟨xs, e, p, hk, r⟩ := h
  exact ⟨xs, hd.trans e, p, fun x hx => (hk x hx).up ht, r⟩
theorem DicAt.same (e : Evl.Ex H H') (h : DicAt P w K H d kvs) : DicAt P w K H' d kvs := by
  obtain ⟨xs, ed, p, hk, r⟩ := h
  exact ⟨xs, e _ _ ed, p, fun x hx => (hk x hx).up fun _ _ => Evl.ex_t e, r⟩
theorem DicAt.keep {a l : Addr} (b : BagAt H a l) (k : Keep a H H') (h : DicAt P w K H d kvs) : DicAt P w K H' d kvs := by
  obtain ⟨xs, ed, p, hk, r⟩ := h
  refine ⟨xs, k d _ (fun z => ?_) ed, p, fun x hx => (hk x hx).up (keep_t b k), r⟩
  obtain ⟨ns, _, _, _, h1, _⟩ := b
  rw [z, h1] at ed
  exact dicO_ne.1 _ (Option.some.inj ed).symm
theorem DicAt.free (h : DicAt P w K H d kvs) : ∃ o, H d = some o := by
  obtain ⟨xs, e, _⟩ := h
  exact ⟨_, e⟩
theorem paired_look : ∀ {kvs : List (NK × V)} {xs : List (NK × Addr × Value)} (k : NK), Paired PairN kvs xs → RelO (lookN kvs k) ((atKey xs k).map (·.2))
  | _, _, k, .nil => by
    unfold lookN atKey
    exact True.intro
  | _, _, k, .cons (a := p) (b := x) r t => by
    have ih := paired_look k t
    unfold lookN atKey at ih ⊢
    rw [List.find?_cons, List.find?_cons, r.1]
    cases decide (x.1 = k) with
    | true => exact r.2
    | false => exact ih
theorem relO_isSome {x : Option V} {y : Option Value} (r : RelO x y) : y.isSome = x.isSome := by
  cases x <;> cases y <;> first | rfl | exact r.elim
theorem paired_put {kvs : List (NK × V)} {xs : List (NK × Addr × Value)} (k : NK) (a : Addr) {v : V} {u : Value} (r : RelV v u) (p : Paired PairN kvs xs) : Paired PairN (putN kvs k v) (storedH xs k a u) := by
  have e := relO_isSome (paired_look k p)
  rw [Option.isSome_map] at e
  unfold putN storedH
  rw [e]
  cases (lookN kvs k).isSome with
  | false => exact Paired.snoc p ⟨rfl, r⟩
  | true =>
    show Paired PairN (kvs.map fun kv => if kv.1 = k then (kv.1, v) else kv) (xs.map (putAt k u))
    clear e
    induction p with
    | nil => exact .nil
    | @cons p x kvs xs q t ih =>
      rw [List.map_cons, List.map_cons]
      refine .cons ?_ ih
      unfold putAt
      by_cases h : p.1 = k
      · rw [if_pos h, if_pos (q.1.symm.trans h)]
        exact ⟨q.1, r⟩
      · rw [if_neg h, if_neg (fun z => h (q.1.trans z))]
        exact q
theorem putN_len {kvs : List (NK × V)} {k : NK} {v : V} : (putN kvs k v).length ≤ kvs.length + 1 := by
  unfold putN
  split
  · rw [List.length_map]
    omega
  · rw [List.length_append]
    exact Nat.le_refl _
end
section
variable {X : Cx} {pins : List (Addr × Obj)} {σ : L2.St} {H : Hp} {s : Shared} {d : Addr} {kvs : List (NK × V)}
theorem DicAt.raw (I : Inv X pins σ H s) (h : DicAt X.prog X.w X.K H d kvs) : ∃ xs o, s.heap.DictOfH (nestedKind X.prog X.w) d xs ∧ (d == sysModules) = false ∧ H d = some (DicO X.prog X.w d (xs, o)) ∧ Paired PairN kvs xs ∧ (∀ x ∈ xs, KeyAt X.K H (.ref x.2.1) x.1) := by
  obtain ⟨⟨xs, o⟩, e, p, hk, nd, hz⟩ := h
  obtain ⟨⟨hs, es, ep, h1, h2, h3, h4⟩, _, _⟩ : ObjOk X.prog X.w H s.heap d (.ext fun h => (d == sysModules) = false ∧ ∃ es ep, h.get? d = some o ∧ o.ExactDict ∧ o.data = .dict es ep ∧ es.toList = xs.map (entryOfKey (nestedKind X.prog X.w))) := I.hok d _ e
  exact ⟨xs, o, ⟨o, es, ep, h1, h2, h3, h4, fun x hx => ⟨nest_of I _ _ _ (hk x hx).1 rfl, (hk x hx).2.1⟩, nd⟩, hs, e, p, hk⟩
/-- the object that stands at d -/
theorem dic_obj (I : Inv X pins σ H s) {x : DX} (e : H d = some (DicO X.prog X.w d x)) : (d == sysModules) = false ∧ ∃ es ep, s.heap.get? d = some x.2 ∧ x.2.ExactDict ∧ x.2.data = .dict es ep ∧ es.toList = x.1.map (entryOfKey (nestedKind X.prog X.w)) := by
  obtain ⟨q, _, _⟩ : ObjOk X.prog X.w H s.heap d (.ext fun h => (d == sysModules) = false ∧ ∃ es ep, h.get? d = some x.2 ∧ x.2.ExactDict ∧ x.2.data = .dict es ep ∧ es.toList = x.1.map (entryOfKey (nestedKind X.prog X.w))) := I.hok d _ e
  exact q
theorem key_is (I : Inv X pins σ H s) {v : V} {u : Value} {k : NK} (h : KeyAt X.K H v k) (r : RelV v u) : ∃ a, u = .ref a ∧ v = .ref a ∧ (nestedKind X.prog X.w).is s.heap k a := by
  obtain ⟨h1, h2, ks, rfl⟩ := h
  have n := nest_of I _ _ _ h1 r
  cases n with
  | @tup a o vs n ks e1 e2 e3 e4 =>
    refine ⟨a, rfl, ?_, .tup e1 e2 e3 e4, h2⟩
    cases v <;> first | (cases r; done) | skip
    all_goals first | (cases r; rfl) | (obtain ⟨_, z⟩ := r; cases z)
/-- x in d, x not in d -/
def rInN (P : Program) (w : World) (K : PySem.W.Frag) (neg : Bool) : R2 := fun x y H Q => ∃ (k : NK) (d : Addr) (kvs : List (NK × V)), y = .ref d ∧ KeyAt K H x k ∧ DicAt P w K H d kvs ∧ Q (.bl (if neg then !(lookN kvs k).isSome else (lookN kvs k).isSome)) H
theorem at_look {xs : List (NK × Addr × Value)} {k : NK} (p : Paired PairN kvs xs) : (valueAt (pairsH xs) k).isSome = (lookN kvs k).isSome := by
  rw [valueAt_pairsH]
  exact relO_isSome (paired_look k p)
theorem op_inN (hu : X.A.units + 100 < cLine) : OpR X (compareOp .In) (rInN X.prog X.w X.K false) := by
  intro pins s σ H x y v u Q I rx ry h
  obtain ⟨k, d, kvs, rfl, hk, hd, q⟩ := h
  cases ry
  obtain ⟨a, rfl, _, ha⟩ := key_is I hk rx
  obtain ⟨xs, ob, hm, hs, e, p, _⟩ := hd.raw I
  refine in_keyed (knd := nestedKind X.prog X.w) (show X.A.units + 1 + 8 < cLine by omega) ha hs ⟨xs, hm, rfl⟩ ?_
  rw [at_look p]
  exact ⟨.bl _, H, I.tok _, rfl, q⟩
theorem op_notinN (hu : X.A.units + 100 < cLine) : OpR X (compareOp .NotIn) (rInN X.prog X.w X.K true) := by
  intro pins s σ H x y v u Q I rx ry h
  obtain ⟨k, d, kvs, rfl, hk, hd, q⟩ := h
  cases ry
  obtain ⟨a, rfl, _, ha⟩ := key_is I hk rx
  obtain ⟨xs, ob, hm, hs, e, p, _⟩ := hd.raw I
  refine notIn_keyed (knd := nestedKind X.prog X.w) (show X.A.units + 1 + 8 < cLine by omega) ha hs ⟨xs, hm, rfl⟩ ?_
  rw [at_look p]
  exact ⟨.bl _, H, I.tok _, rfl, q⟩
/-- d[k], k there -/
def tDGetN (P : Program) (w : World) (K : PySem.W.Frag) (td ty : TE) : TE := fun σ H Q => td σ H fun x H1 => ty σ H1 fun y H2 => ∃ (d : Addr) (kvs : List (NK × V)) (k : NK) (v : V), x = .ref d ∧ DicAt P w K H2 d kvs ∧ KeyAt K H2 y k ∧ lookN kvs k = some v ∧ Q v H2
theorem pe_dgetN {o i : Expr} {td ty : TE} {pos : Pos} (hu : X.A.units + 100 < cLine) (ho : PE X o td) (hi : PE X i ty) (hs : NoSl i) : PE X (.Subscript o i pos) (tDGetN X.prog X.w X.K td ty) := by
  refine ⟨fun pins s σ H Q I h => ?_⟩
  refine subD_of PySem.F.slot_dict_getitem.lookup hs (thn (ho.run pins s σ H _ I h) fun u s1 ⟨x, H1, I1, rx, q1⟩ => thn (hi.run pins s1 σ H1 _ I1 q1) fun iv s2 ⟨y, H2, I2, ry, d, kvs, k, v, ex, hd, hk, hl, q2⟩ => ?_)
  subst ex
  obtain rfl : u = Value.ref d := rx
  obtain ⟨a, rfl, _, ha⟩ := key_is I2 hk ry
  obtain ⟨xs, ob, hm, hs', e, p, _⟩ := hd.raw I2
  have r := paired_look k p
  rw [hl] at r
  cases hv : (atKey xs k).map (·.2) with
  | none =>
    rw [hv] at r
    exact r.elim
  | some z =>
    rw [hv] at r
    exact ⟨hm.typeIs, getItem_keyed (knd := nestedKind X.prog X.w) (show X.A.units + 1 + 8 < cLine by omega) ha ⟨xs, hm, rfl⟩ (by rw [valueAt_pairsH]; exact hv) ⟨v, H2, I2.tok _, r, q2⟩⟩
/-- d[k] = v -/
def rSetN (P : Program) (w : World) (K : PySem.W.Frag) : TSet := fun o i v H Q => ∃ (d : Addr) (kvs : List (NK × V)) (k : NK), o = .ref d ∧ DicAt P w K H d kvs ∧ KeyAt K H i k ∧ kvs.length < 100000 ∧
  ∀ H', DicAt P w K H' d (putN kvs k v) → (∀ b, b ≠ d → H' b = H b) → Q H'
theorem set_dicN (hu : X.A.units + 100 < cLine) : PSet X (rSetN X.prog X.w X.K) := by
  intro pins s σ H o i v ov iv u Q I ro ri rv h
  obtain ⟨d, kvs, k, rfl, hd, hk, hz, q⟩ := h
  cases ro
  obtain ⟨a, rfl, ea, ha⟩ := key_is I hk ri
  obtain ⟨xs, ob, hm, hs, e, p, hks⟩ := hd.raw I
  have hl : xs.length = kvs.length := (Paired.length p).symm
  refine wpAny_setItem_heap (knd := nestedKind X.prog X.w) (hsz := by rw [hl]; exact Evl.sz_of (by omega)) (show X.A.units + 1 + 8 < cLine by omega) ha hm fun h' hm' sb => ?_
  obtain ⟨o', es, ep, h1, h2, h3, h4, h5, h6⟩ := hm'
  have ok : ObjOk X.prog X.w (upd H d (DicO X.prog X.w d (storedH xs k a u, o'))) h' d (DicO X.prog X.w d (storedH xs k a u, o')) := ⟨⟨hs, es, ep, h1, h2, h3, h4⟩, ⟨o', h1⟩, fun g1 g2 ⟨z, es, ep, e1, r⟩ st => ⟨z, es, ep, st _ e1, r⟩⟩
  have I' := I.write (e := d) (t' := s.toks + (nestedKind X.prog X.w).draws k) (by rw [e]; trivial) (.inl rfl) (fun b w hb hw => (sb.2 b hb).trans hw) ⟨o', h1⟩ ok
  have ht : ∀ b xs', SqT X.K H b xs' → SqT X.K (upd H d (DicO X.prog X.w d (storedH xs k a u, o'))) b xs' := fun b xs' hb => by
    rcases hb with (hb | ⟨oo, hb⟩) | hb
    · exact .inl (.inl (by rw [upd_ne (ne_of hb e (fun z => dicO_ne.2 _ z.symm))]; exact hb))
    · exact .inl (.inr ⟨oo, by rw [upd_ne (ne_of hb e (fun z => by unfold DicO at z; cases z))]; exact hb⟩)
    · exact .inr hb
  refine ⟨_, I', q _ ⟨(_, _), upd_same, paired_put k a rv p, fun x hx => ?_, h6, Nat.le_trans putN_len (by omega)⟩ fun b hb => upd_ne hb⟩
  unfold storedH at hx
  split at hx
  · obtain ⟨y, hy, rfl⟩ := List.mem_map.mp hx
    unfold putAt
    split
    · exact (hks y hy).up ht
    · exact (hks y hy).up ht
  · rcases List.mem_append.mp hx with hx | hx
    · exact (hks x hx).up ht
    · rw [List.mem_singleton] at hx
      subst hx
      rw [← ea]
      exact hk.up ht
/-- {} -/
def tDNewN (P : Program) (w : World) (K : PySem.W.Frag) : TE := fun _ H Q => ∀ p H', H p = none → (∀ b, b ≠ p → H' b = H b) → DicAt P w K H' p [] → Q (.ref p) H'
theorem pe_dnewN {pos : Pos} : PE X (.Dict [] [] pos) (tDNewN X.prog X.w X.K) := ⟨fun pins s σ H Q I h => by
  have hs : (s.heap.objs.size == sysModules) = false := beq_eq_false_iff_ne.mpr (Ne.symm (Nat.ne_of_lt I.big))
  have ok : ObjOk X.prog X.w (upd H s.heap.objs.size (DicO X.prog X.w s.heap.objs.size ([], { cls := .type "dict", data := .dict #[] }))) (s.heap.push { cls := .type "dict", data := .dict #[] }) s.heap.objs.size (DicO X.prog X.w s.heap.objs.size ([], { cls := .type "dict", data := .dict #[] })) :=
    ⟨⟨hs, #[], 0, Heap.get?_push_size _ rfl, ⟨rfl, rfl, rfl⟩, rfl, rfl⟩, ⟨_, Heap.get?_push_size _ rfl⟩, fun g1 g2 ⟨z, es, ep, e1, r⟩ st => ⟨z, es, ep, st _ e1, r⟩⟩
  exact wpAny_Dict_empty ⟨.ref s.heap.objs.size, _, I.laid (a := s.heap.objs.size) (t' := s.toks) (fun _ _ q => Heap.get?_push_of_some _ q) (Nat.le_refl _) ok, rfl,
    h _ _ (I.hok.fresh (Nat.le_refl _)) (fun b hb => upd_ne hb) ⟨([], _), upd_same, .nil, fun x hx => (by cases hx), List.nodup_nil, Nat.zero_le _⟩⟩⟩
end
end Ink
namespace Ink
open PySem PySem.Spec PyProof.Rows L2
/-! ### enumerate(t), t a tuple -/
set_option maxHeartbeats 8000000 in
theorem enum_one {v : Value} {o : Obj} {G : Heap → Prop} (B : Begins v o G) : Meets (Builtin.«enumerate.__new__» ⟨[.type "enumerate", v], []⟩) (fun _ R s => G s.heap ∧
    R (.ok (.ret (.ref (s.heap.push o).objs.size))) { s with heap := (s.heap.push o).push { cls := .type "enumerate", data := .fields #[.none, .bool false, .ref s.heap.objs.size, rawInt 0, .none, .none] } }) :=
  .of_wp fun prog w A R s hw => by
    obtain ⟨hp, gs, dr, tk, os⟩ := s
    obtain ⟨hG, hR⟩ := hw
    have hsub := sub_enumerate
    have it : ∀ {A' : Around} {E : Value → Shared → Prop} {Q : Value → Shared → Prop}, Q (.ref hp.objs.size) ⟨hp.push o, gs, dr, tk, os⟩ → wpAny (model prog w) A' (pyIter v) Q E ⟨hp, gs, dr, tk, os⟩ := fun q => B.iter prog w _ _ ⟨hp, gs, dr, tk, os⟩ _ hG q
    wp_walk using it
    refine wpAny_stack_any fun st => wpAny_pure ?_
    split
    · rename_i c _ _ _ _ _
      cases (c == Value.type "enumerate") <;> (wp_walk using it; exact ⟨_, rfl, hR⟩)
    · wp_walk using it
      exact ⟨_, rfl, hR⟩
section
variable {prog : Program} {w : World} {A : Around} {E : Value → Shared → Prop} {s : Shared}
theorem enum_call {v : Value} {o : Obj} {G : Heap → Prop} {Q : Value → Shared → Prop} (B : Begins v o G) (hG : G s.heap)
    (h : ∀ h', IsEnum h' (s.heap.objs.size + 1) s.heap.objs.size 0 .none → h'.get? s.heap.objs.size = some o → (∀ b u, s.heap.get? b = some u → h'.get? b = some u) → Q (.ref (s.heap.objs.size + 1)) { s with heap := h' }) :
    wpAny (model prog w) A (call (.type "enumerate") [v]) Q E s := by
  refine callType_new F.called_enumerate (by decide) (F.typeCall_enumerate_1 _) (F.newCall_enumerate_1 _) (fun obj => F.args_object_init_2 obj _) F.entry_enumerate_new (enum_one B) ⟨hG, ?_⟩
  have hz : (s.heap.push o).objs.size = s.heap.objs.size + 1 := Heap.size_push ..
  show _ ∧ _
  rw [hz]
  have he := Heap.get?_push_size (s.heap.push o) (o := { cls := .type "enumerate", data := .fields #[.none, .bool false, .ref s.heap.objs.size, rawInt 0, .none, .none] }) rfl
  rw [hz] at he
  exact ⟨⟨_, he, rfl⟩, h _ he (Heap.get?_push_of_some _ (Heap.get?_push_size _ B.free)) fun b u x => Heap.get?_push_of_some _ (Heap.get?_push_of_some _ x)⟩
end
/-- the tuple at a, each item in a new pair with its place -/
def IteT (K : PySem.W.Frag) (a : Addr) : It :=
  ⟨fun i H => ∃ (xs : List V) (x : V), SqT K H a xs ∧ xs[i]? = some x, fun i H v H' => ∃ T x, v = .ref T ∧ H T = none ∧ H' = upd H T (.tup [.int (i : Nat), x]) ∧ ∀ xs, SqT K H a xs → xs[i]? = some x, fun i H => ∃ xs : List V, SqT K H a xs ∧ xs.length = i⟩
theorem walk_enumT {K : PySem.W.Frag} {a : Addr} {xs : List V} : Walk (IteT K a) xs.length (fun H => SqT K H a xs) (YPair (fun i => some (.int (i : Nat))) (fun i => xs[i]?)) := by
  refine ⟨fun i _ hi q => ⟨xs, xs[i], q, List.getElem?_eq_getElem hi⟩, fun _ q => ⟨xs, q, rfl⟩, fun i H v H' _ q y => ?_⟩
  obtain ⟨T, x, h1, h2, h3, h4⟩ := y
  exact ⟨T, _, x, h1, h2, h3, rfl, h4 xs q⟩
theorem turn_enumT {P : Program} {w : World} {K : PySem.W.Frag} {elts : List Expr} {kk : Nat} {tpos : Pos} (a e it : Addr) (nit : a ≠ it) (nea : e ≠ a) (nei : e ≠ it) :
    Turn P w K (.Tuple elts kk tpos) (IteT K a) [e, it] e (fun i h => (∃ old, IsEnum h e it ((i : Nat) : Int) old) ∧ h.IsTupleIter it a i) where
  mem := List.mem_cons_self ..
  obj i h st b hb := by
    obtain ⟨⟨old, he⟩, o, ho, hc, hd⟩ := st
    rcases List.mem_cons.mp hb with z | z
    · rw [z]
      exact ⟨_, he, fun v q => nomatch q⟩
    · rw [List.mem_singleton.mp z]
      exact ⟨o, ho, fun v q => by rw [hd] at q; cases q⟩
  keep i h h' st k := by
    obtain ⟨⟨old, he⟩, hi⟩ := st
    exact ⟨⟨old, k e (List.mem_cons_self ..) _ he⟩, hi.at fun o q => k it (List.mem_cons_of_mem _ (List.mem_cons_self ..)) o q⟩
  item := by
    intro X hP hw hK hc i pins s σ H E I hf st hg
    subst hP hw hK
    obtain ⟨⟨old, he⟩, hit⟩ := st
    obtain ⟨ys, x, hq, hx⟩ := hg
    obtain ⟨its, ry, tp, hz⟩ := I.tuple hq
    obtain ⟨u, hu, ru⟩ := ry.get hx
    have hui : its.toArray[i]? = some u := by rw [List.getElem?_toArray]; exact hu
    have hlt : i < its.toArray.size := (Array.getElem?_eq_some_iff.mp hui).1
    have hel : e < s.heap.objs.size := Heap.lt_size he
    have hil : it < s.heap.objs.size := by
      obtain ⟨_, q, _⟩ := hit
      exact Heap.lt_size q
    have hD := Draws.tuple (prog := X.prog) (w := X.w) (A := X.A.in1) (I.ok.hd hc) it a nit its.toArray
    refine wpAny_pyNext_enum_itemD hD he ⟨hit, tp⟩ hlt nei (fun m => by
      rcases List.mem_cons.mp m with z | z
      · exact nei z
      · exact nea (List.mem_singleton.mp z)) fun u' h' tk hP ho hst hT hsz hk => ?_
    have hP : its.toArray[i]? = some u' := hP
    rw [hui] at hP
    cases hP
    refine ⟨_, rfl, wpAny_letOwnedTupleGo_enum (s := { s with heap := h', toks := tk + 1 }) ho fun h2 he2 sb => ?_⟩
    have hT2 : h2.get? s.heap.objs.size = some { cls := .type "tuple", data := .seq #[.int i tk, u] } := (sb.2 _ (Nat.ne_of_gt hel)).trans hT
    have new : ObjOk X.prog X.w (upd H s.heap.objs.size (.tup [.int (i : Nat), x])) h2 s.heap.objs.size (.tup [.int (i : Nat), x]) :=
      ⟨by show 2 ≤ sizeLine; decide, [.int i tk, u], .cons ⟨_, rfl⟩ (.cons ru .nil), ⟨_, hT2, rfl, _, rfl⟩⟩
    have I1 : Inv X pins σ (upd H s.heap.objs.size (.tup [.int (i : Nat), x])) { s with heap := h2, toks := tk + 1 } :=
      I.turnedNew (ch := [e, it]) (fun b ob hb q => (sb.2 b (fun z => hb (by simp [z]))).trans (hk b ob (fun z => hb (by simp [z])) (fun z => hb (by simp [z])) q)) hf (Nat.le_refl _) new
    refine ⟨.ref s.heap.objs.size, _, I1, rfl, ⟨_, x, rfl, I.hok.fresh (Nat.le_refl _), rfl, fun zs hy => by rw [I.tuple_inj hy hq]; exact hx⟩, ⟨⟨u, ?_⟩, hst.1.at fun o q => (sb.2 it (Ne.symm nei)).trans q⟩, fun b hb => ?_⟩
    · rw [show ((i + 1 : Nat) : Int) = (i : Int) + 1 by omega]
      exact he2
    · have hb' : b < s.heap.objs.size := by
        rcases List.mem_cons.mp hb with z | z
        · rw [z]
          exact hel
        · rw [List.mem_singleton.mp z]
          exact hil
      rw [upd_ne (Nat.ne_of_lt hb')]
      exact (hf b hb).1
  done := by
    intro X hP hw hK hc i pins s σ H E I hf st hg
    subst hP hw hK
    obtain ⟨⟨old, he⟩, hit⟩ := st
    obtain ⟨ys, hq, hx⟩ := hg
    obtain ⟨its, ry, tp, hz⟩ := I.tuple hq
    obtain ⟨f0, f1, f2, f3, f4, f5⟩ := hf it (List.mem_cons_of_mem _ (List.mem_cons_self ..))
    have hn : its.toArray.size = i := by
      rw [List.size_toArray, ← ry.length]
      exact hx
    have hD := Draws.tuple (prog := X.prog) (w := X.w) (A := X.A.in1) (I.ok.hd hc) it a nit its.toArray
    exact wpAny_pyNext_enum_endD hD he ⟨by rw [hn]; exact hit, tp⟩ fun h' eb => ⟨rfl, I.turned (t' := s.toks) (fun b o hb q => eb b o hb q) f0 f1 f3 f4 f5⟩
  self A i s Q E st h := by
    obtain ⟨⟨_, he⟩, _⟩ := st
    exact wpAny_pyIter_enum he h
def iEnumT (K : PySem.W.Frag) (ta : TA) : TI := fun σ H R => ta σ H fun vs H1 => ∃ a xs, vs = [.ref a] ∧ SqT K H1 a xs ∧ R (IteT K a) H1
theorem pi_enumT {X : Cx} {e : Expr} {ta : TA} {p pos tpos : Pos} {elts : List Expr} {kk : Nat} (hg : Gl X "enumerate") (hm : X.mg "enumerate" = none) (ha : PA X [e] ta) (hs : starEach [e] X.env = [(false, eval e X.env)] := by rfl) :
    PI X (.Tuple elts kk tpos) (.Call (.Name "enumerate" p) [e] [] pos) (iEnumT X.K ta) := by
  refine ⟨fun pins s σ H R I h => ?_⟩
  refine Call_ (ld_blt I hg hm boot_enumerate (PyProof.Rows.callWith_type1 (thn (ha.run pos pins s σ H _ I h) fun us s1 ⟨vs, H1, I1, r1, a, xs, ev, hq, q⟩ => ?_) hs rfl))
  subst ev
  rw [Vals.ref1 r1]
  obtain ⟨its, ry, tp, hz⟩ := I1.tuple hq
  have hal : a < s1.heap.objs.size := by
    obtain ⟨o, ho, _⟩ := tp
    exact Heap.lt_size ho
  refine enum_call (begins_tuple a its.toArray) tp fun h' he hit hk => wpAny_pyIter_enum he ?_
  have I2 : Inv X pins σ H1 { s1 with heap := h' } := I1.kept (t' := s1.toks) hk
  refine ⟨s1.heap.objs.size + 1, [s1.heap.objs.size + 1, s1.heap.objs.size], _, _, H1, rfl, I2, turn_enumT a (s1.heap.objs.size + 1) s1.heap.objs.size (Nat.ne_of_lt hal) (Nat.ne_of_gt (Nat.lt_succ_of_lt hal)) (Nat.succ_ne_self _), ⟨⟨.none, he⟩, ⟨_, hit, rfl, rfl⟩⟩, fun b hb => ?_, q⟩
  have hle : s1.heap.objs.size ≤ b := by
    rcases List.mem_cons.mp hb with z | z
    · rw [z]
      exact Nat.le_succ _
    · rw [List.mem_singleton.mp z]
      exact Nat.le_refl _
  exact I1.fpOk hle (I1.hok.fresh hle)
open Evl
/-- the pairs (place, thing) -/
def enumD (ds : List PyData) : List PyData := (List.range ds.length).map fun (i : Nat) => PyData.tuple [.int (i : Int), ds.getD i .none]
theorem enumD_get {ds : List PyData} {i : Nat} {d : PyData} (h : ds[i]? = some d) : (enumD ds)[i]? = some (.tuple [.int (i : Int), d]) := by
  unfold enumD
  rw [List.getElem?_map, List.getElem?_range (List.getElem?_eq_some_iff.mp h).1]
  show some (PyData.tuple [.int (i : Int), ds.getD i .none]) = _
  rw [List.getD_eq_getElem?_getD, h]
  rfl
theorem ei_enumT {K : PySem.W.Frag} {σ : L2.St} {H : Hp} {te : TE} {ds : List PyData} (h : EvD K te σ H (.tuple ds)) : EvI K (iEnumT K (tCons te tNil)) σ H (enumD ds) := fun H1 e R q => h H1 e _ fun v H2 e2 hd => by
  obtain ⟨p, xs, rfl, hs, hxs⟩ := dp_tup hd
  refine ⟨p, xs, rfl, hs, q _ H2 e2 ?_⟩
  have hl : (enumD ds).length = xs.length := by
    unfold enumD
    rw [List.length_map, List.length_range, hxs.length]
  rw [hl]
  refine (walk_enumT (xs := xs)).mono (fun H3 e3 => ex_t e3 hs) fun i Ha x Hb hi e3 hy => ?_
  obtain ⟨T, x1, y1, rfl, nT, rfl, hx, hy⟩ := hy
  cases hx
  obtain ⟨dy, h3, h4⟩ := hxs.at hy
  exact ⟨Ex.new nT, _, enumD_get h3, .tup (.of upd_same) (.cons (.int _) (.cons (dp_same (e3.trans (Ex.new nT)) h4) .nil))⟩
theorem ei_enum {K : PySem.W.Frag} {σ : L2.St} {H : Hp} {te : TE} {ds : List PyData} (h : EvD K te σ H (.list ds)) : EvI K (iEnum K (tCons te tNil)) σ H (enumD ds) := fun H1 e R q => h H1 e _ fun v H2 e2 hd => by
  obtain ⟨p, xs, rfl, hs, hxs⟩ := dp_lst hd
  refine ⟨p, xs, rfl, hs, q _ H2 e2 ?_⟩
  have hl : (enumD ds).length = xs.length := by
    unfold enumD
    rw [List.length_map, List.length_range, hxs.length]
  rw [hl]
  refine (walk_enum (xs := xs)).mono (fun H3 e3 => ex_l e3 hs) fun i Ha x Hb hi e3 hy => ?_
  obtain ⟨T, x1, y1, rfl, nT, rfl, hx, hy⟩ := hy
  cases hx
  obtain ⟨dy, h3, h4⟩ := hxs.at hy
  exact ⟨Ex.new nT, _, enumD_get h3, .tup (.of upd_same) (.cons (.int _) (.cons (dp_same (e3.trans (Ex.new nT)) h4) .nil))⟩
end Ink
namespace Ink
open PySem PySem.Spec PyProof.Rows L2
/-! ### t * k, k any number of times from none on -/
theorem mul_once (l : Addr) (items : Array Value) (n : Nat) (dd : Option Addr) (sl : Array (Option Value)) (u : Tok) :
    Meets (Builtin.«tuple.__mul__» ⟨[.ref l, .int 1 u], []⟩) (fun _ R s => s.heap.get? l = some { cls := .type "tuple", dict := dd, data := .seq items n, slots := sl } ∧ R (.ok (.ret (Value.ref l))) s) :=
  .of_wp fun prog w A R s h => by
    obtain ⟨hp, g, d, tk, os⟩ := s
    obtain ⟨hl, h⟩ := h
    have f1 := AutoSeq1.idx_int
    wp_walk using AutoSeq1.wpAny_loadPart' hl
    repeat (first
      | (refine wpAny_ite_false (by decide) ?_; wp_walk using AutoSeq1.wpAny_loadPart' hl)
      | (refine wpAny_ite_true (by simp) ?_; wp_walk using AutoSeq1.wpAny_loadPart' hl))
    exact ⟨_, rfl, h⟩
theorem mul_none (l : Addr) (items : Array Value) (n : Nat) (dd : Option Addr) (sl : Array (Option Value)) (u : Tok) (hi : items.isEmpty = false) :
    Meets (Builtin.«tuple.__mul__» ⟨[.ref l, .int 0 u], []⟩) (fun _ R s => s.heap.get? l = some { cls := .type "tuple", dict := dd, data := .seq items n, slots := sl } ∧
      R (.ok (.ret (Value.ref s.heap.objs.size))) { s with heap := s.heap.push { cls := .type "tuple", data := .seq #[] } }) :=
  .of_wp fun prog w A R s h => by
    obtain ⟨hp, g, d, tk, os⟩ := s
    obtain ⟨hl, h⟩ := h
    have f1 := AutoSeq1.idx_int
    wp_walk using AutoSeq1.wpAny_loadPart' hl
    repeat (first
      | (refine wpAny_ite_false (by decide) ?_; wp_walk using AutoSeq1.wpAny_loadPart' hl)
      | (refine wpAny_ite_false (by rw [hi]; decide) ?_; wp_walk using AutoSeq1.wpAny_loadPart' hl)
      | (refine wpAny_ite_true (by decide) ?_; wp_walk using AutoSeq1.wpAny_loadPart' hl))
    exact ⟨_, rfl, h⟩
/-- (x,) * n -/
def rRep (K : PySem.W.Frag) : R2 := fun x y H Q => ∃ (l : Addr) (v : V) (n : Nat), x = .ref l ∧ y = .int (n : Int) ∧ SqT K H l [v] ∧ n ≤ 1000 ∧ (n = 1 → Q (.ref l) H) ∧ (n ≠ 1 → ∀ p, H p = none → Q (.ref p) (upd H p (.tup (List.replicate n v))))
theorem op_rep {X : Cx} : OpR X (binaryOp .Mult) (rRep X.K) := by
  intro pins s σ H x y v u Q I rx ry h
  obtain ⟨l, v0, n, rfl, rfl, hT, hn, q1, q2⟩ := h
  by_cases h2 : 2 ≤ n
  · refine op_repT pins s σ H _ _ v u Q I rx ry ⟨l, (n : Int), [v0], rfl, rfl, hT, by simp, by omega, by omega, by show 1 ≤ 1000; decide, fun p np => ?_⟩
    have e : (List.replicate (n : Int).toNat [v0]).flatten = List.replicate n v0 := by
      rw [Int.toNat_natCast]
      clear q1 q2 h2 hn ry
      induction n with
      | zero => rfl
      | succ n ih => rw [List.replicate_succ, List.flatten_cons, ih]; rfl
    rw [e]
    exact q2 (by omega) p np
  · cases rx
    obtain ⟨t, rfl⟩ := ry
    obtain ⟨its, r, ⟨⟨cls, dd, data, sl⟩, ho, hc, m, hd⟩, hs⟩ := I.tuple hT
    simp only at hc hd
    subst hc hd
    have hi : its.toArray.isEmpty = false := by
      cases r with
      | cons _ _ => rfl
    by_cases h1 : n = 1
    · subst h1
      exact wpAny_binaryOp_repeat_ref (T := "tuple") (U := "int") (by decide) ⟨_, ho, rfl⟩ (fun s' => typeIs_int s' _ t) noFill_tuple_mul F.fills_int_mul F.slot_int_rmul repeat_tuple F.slot_int_index.lookup
        (call_meets F.slot_int_rmul (typeIs_int s _ t) F.entry_int_rmul (F.args_int_rmul_2 _ _) (int_rmul_tuple _ t l its.toArray m dd sl)
          ⟨ho, rfl, ⟨_, ho, rfl⟩, call_meets F.slot_tuple_mul ⟨_, ho, rfl⟩ F.entry_tuple_mul (F.args_tuple_mul_2 _ _) (mul_once l its.toArray m dd sl t) ⟨ho, .ref l, H, I, rfl, q1 rfl⟩⟩)
    · obtain rfl : n = 0 := by omega
      exact wpAny_binaryOp_repeat_ref (T := "tuple") (U := "int") (by decide) ⟨_, ho, rfl⟩ (fun s' => typeIs_int s' _ t) noFill_tuple_mul F.fills_int_mul F.slot_int_rmul repeat_tuple F.slot_int_index.lookup
        (call_meets F.slot_int_rmul (typeIs_int s _ t) F.entry_int_rmul (F.args_int_rmul_2 _ _) (int_rmul_tuple _ t l its.toArray m dd sl)
          ⟨ho, rfl, ⟨_, ho, rfl⟩, call_meets F.slot_tuple_mul ⟨_, ho, rfl⟩ F.entry_tuple_mul (F.args_tuple_mul_2 _ _) (mul_none l its.toArray m dd sl t hi)
            ⟨ho, .ref s.heap.objs.size, _, I.laid (t' := s.toks) (o := .tup []) (fun b ob q => Heap.get?_push_of_some _ q) (Nat.le_refl _) ⟨Nat.zero_le _, [], .nil, IsTup.new _ _⟩, rfl, q2 (by omega) _ (I.hok.fresh (Nat.le_refl _))⟩⟩)
open Evl
theorem dps_rep {K : PySem.W.Frag} {H : Hp} {v : V} {d : PyData} (h : Dp K H v d) : ∀ n, DpAll K H (List.replicate n v) (List.replicate n d)
  | 0 => .nil
  | n + 1 => .cons h (dps_rep h n)
theorem ed_rep {K : PySem.W.Frag} {σ : L2.St} {H : Hp} {ta tb : TE} {d : PyData} {n : Nat} (ha : EvD K ta σ H (.tuple [d])) (hb : Ev tb σ H (.int (n : Int))) (hn : n ≤ 1000) : EvD K (tOp (rRep K) ta tb) σ H (.tuple (List.replicate n d)) := fun H1 e Q q =>
  ha H1 e _ fun v H2 e2 hv => hb H2 (e.trans e2) _ fun H3 e3 => by
    obtain ⟨p, xs, rfl, hs, hxs⟩ := dp_tup (dp_same e3 hv)
    obtain ⟨v1, rfl, h1⟩ := dps1 hxs
    refine ⟨p, v1, n, rfl, rfl, hs, hn, fun hn1 => ?_, fun _ p' np => ?_⟩
    · subst hn1
      exact q _ H3 (e2.trans e3) (.tup hs hxs)
    · refine q _ _ ((e2.trans e3).trans (Ex.new np)) (.tup (.of upd_same) ?_)
      have h2 := dp_same (Ex.new (o := .tup (List.replicate n v1)) np) h1
      exact dps_rep h2 n
end Ink
namespace Ink
open PySem PySem.Spec PyProof.Rows L2 Evl
section
variable {K : PySem.W.Frag} {σ : L2.St} {H H' : Hp} {ta tb te tc : TE} {t : TT} {d d1 d2 : PyData} {ds es : List PyData} {v : V} {i : Nat}
/-! ### more of data: tuples joined, cut, starred; lists of numbers and of bools -/
theorem ed_catA (ha : EvD K ta σ H (.tuple ds)) (hb : EvD K tb σ H (.tuple es)) (hz : ds.length + es.length ≤ 100000) : EvD K (tOp (rCatA K) ta tb) σ H (.tuple (ds ++ es)) := fun H1 e Q q =>
  ha H1 e _ fun v H2 e2 hv => hb H2 (e.trans e2) _ fun w H3 e3 hw => by
    obtain ⟨p, xs, rfl, hs, hxs⟩ := dp_tup (dp_same e3 hv)
    obtain ⟨p', ys, rfl, hs', hys⟩ := dp_tup hw
    have l1 := hxs.length
    have l2 := hys.length
    refine ⟨p, p', xs, ys, rfl, rfl, hs, hs', sz_of (by omega), fun h0 => ?_, fun h0 h1 => ?_, fun h0 h1 p2 np => ?_⟩
    · subst h0
      cases hxs
      exact q _ H3 (e2.trans e3) (.tup hs' hys)
    · subst h1
      cases hys
      refine q _ H3 (e2.trans e3) (.tup hs ?_)
      rw [List.append_nil]
      exact hxs
    · exact q _ _ ((e2.trans e3).trans (Ex.new np)) (.tup (.of upd_same) (dps_same (Ex.new np) (hxs.app hys)))
/-- to a list that may change: a new one, or a known one -/
def EvM (K : PySem.W.Frag) (te : TE) (σ : L2.St) (H : Hp) (ds : List PyData) : Prop := ∀ H1, Ex H H1 → ∀ Q : VK, (∀ p vs H2, Ex H1 H2 → H2 p = some (.lst vs) → DpAll K H2 vs ds → Q (.ref p) H2) → te σ H1 Q
theorem EvN.m (h : EvN K te σ H ds) : EvM K te σ H ds := fun H1 e Q q => h H1 e Q fun p vs H2 _ e2 hp hd => q p vs H2 e2 hp hd
theorem em_var {p : Addr} {xs : List V} (hs : σ[i]? = some (some (.ref p))) (hp : H p = some (.lst xs)) (hd : DpAll K H xs ds) : EvM K (tVar i) σ H ds := fun H1 e Q q => ⟨.ref p, hs, q p xs H1 (Ex.refl H1) (e _ _ hp) (dps_same e hd)⟩
theorem en_cat (ha : EvM K ta σ H ds) (hb : EvM K tb σ H es) (hz : ds.length + es.length ≤ 100000) : EvN K (tOp rCat ta tb) σ H (ds ++ es) := fun H1 e Q q =>
  ha H1 e _ fun p xs H2 e2 hp hxs => hb H2 (e.trans e2) _ fun p' ys H3 e3 hp' hys => by
    have l1 := hxs.length
    have l2 := hys.length
    exact ⟨p, p', xs, ys, rfl, rfl, e3 _ _ hp, hp', sz_of (by omega), fun p2 np => q p2 _ _ (fresh_back (e2.trans e3) np) ((e2.trans e3).trans (Ex.new np)) upd_same (dps_same (Ex.new np) ((dps_same e3 hxs).app hys))⟩
theorem vcut_to (xs : List V) (k : Nat) : cutV xs none (some (k : Int)) = xs.take k := by
  unfold cutV
  rw [HT.sIx_none, HT.sIx_nat, List.drop_zero, Nat.sub_zero]
  by_cases h : k ≤ xs.length
  · rw [Nat.min_eq_left h]
  · rw [Nat.min_eq_right (by omega), List.take_of_length_le (Nat.le_refl _), List.take_of_length_le (by omega)]
theorem vcut_from (xs : List V) (k : Nat) : cutV xs (some (k : Int)) none = xs.drop k := by
  unfold cutV
  rw [HT.sIx_none, HT.sIx_nat]
  by_cases h : k ≤ xs.length
  · rw [Nat.min_eq_left h, List.take_of_length_le (by rw [List.length_drop]; exact Nat.le_refl _)]
  · rw [Nat.min_eq_right (by omega), List.drop_of_length_le (Nat.le_refl _), List.drop_of_length_le (by omega), List.take_nil]
theorem ed_slTo {k : Nat} (h : EvD K te σ H (.tuple ds)) (hk : Ev tb σ H (.int (k : Int))) : EvD K (tSl (rSlA K) te tNoPart (tPart tb)) σ H (.tuple (ds.take k)) := fun H1 e Q q =>
  h H1 e _ fun v H2 e2 hv => hk H2 (e.trans e2) _ fun H3 e3 => ⟨(k : Int), rfl, by
    obtain ⟨p, xs, rfl, hs, hxs⟩ := dp_tup (dp_same e3 hv)
    have l1 := hxs.length
    refine ⟨p, xs, rfl, hs, fun h0 => ?_, fun h0 p2 np => ?_⟩
    · have h1 := h0.2
      rw [HT.sIx_nat] at h1
      exact q _ H3 (e2.trans e3) (.tup hs (by rw [List.take_of_length_le (by omega)]; exact hxs))
    · rw [vcut_to]
      exact q _ _ ((e2.trans e3).trans (Ex.new np)) (.tup (.of upd_same) (dps_same (Ex.new np) (hxs.take k)))⟩
theorem ed_slFrom {k : Nat} (h : EvD K te σ H (.tuple ds)) (hk : Ev tb σ H (.int (k : Int))) : EvD K (tSl (rSlA K) te (tPart tb) tNoPart) σ H (.tuple (ds.drop k)) := fun H1 e Q q =>
  h H1 e _ fun v H2 e2 hv => hk H2 (e.trans e2) _ fun H3 e3 => ⟨(k : Int), rfl, by
    obtain ⟨p, xs, rfl, hs, hxs⟩ := dp_tup (dp_same e3 hv)
    have l1 := hxs.length
    refine ⟨p, xs, rfl, hs, fun h0 => ?_, fun h0 p2 np => ?_⟩
    · have h1 := h0.1
      rw [HT.sIx_nat] at h1
      by_cases hk0 : k = 0
      · exact q _ H3 (e2.trans e3) (.tup hs (by rw [hk0, List.drop_zero]; exact hxs))
      · have : xs.length = 0 := by omega
        have : ds = [] := List.eq_nil_of_length_eq_zero (by omega)
        subst this
        exact q _ H3 (e2.trans e3) (.tup hs (by rw [List.drop_nil]; exact hxs))
    · rw [vcut_from]
      exact q _ _ ((e2.trans e3).trans (Ex.new np)) (.tup (.of upd_same) (dps_same (Ex.new np) (hxs.drop k)))⟩
theorem eds_star {tr : TA} (h : EvD K te σ H (.tuple ds)) (hr : EvDs K tr σ H es) : EvDs K (StX.tStar K te tr) σ H (ds ++ es) := fun H1 e Q q =>
  h H1 e _ fun v H2 e2 hv => by
    obtain ⟨p, xs, rfl, hs, hxs⟩ := dp_tup hv
    exact ⟨p, xs, rfl, .inl hs, hr H2 (e.trans e2) _ fun vs H3 e3 hds => q _ H3 (e2.trans e3) ((dps_same e3 hxs).app hds)⟩
theorem ed_tuple (h : EvD K te σ H (.list ds)) : EvD K (tCB (fun xs H Q => ∃ p ys, xs = [.ref p] ∧ ((SqL K H p ys ∧ ∀ l, H l = none → Q (.ref l) (upd H l (.tup ys))) ∨ (SqT K H p ys ∧ Q (.ref p) H))) (tCons te tNil)) σ H (.tuple ds) := fun H1 e Q q =>
  h H1 e _ fun v H2 e2 hv => by
    obtain ⟨p, xs, rfl, hs, hxs⟩ := dp_lst hv
    exact ⟨p, xs, rfl, .inl ⟨hs, fun l nl => q _ _ (e2.trans (Ex.new nl)) (.tup (.of upd_same) (dps_same (Ex.new nl) hxs))⟩⟩
theorem ed_tupleT (h : EvD K te σ H (.tuple ds)) : EvD K (tCB (fun xs H Q => ∃ p ys, xs = [.ref p] ∧ ((SqL K H p ys ∧ ∀ l, H l = none → Q (.ref l) (upd H l (.tup ys))) ∨ (SqT K H p ys ∧ Q (.ref p) H))) (tCons te tNil)) σ H (.tuple ds) := fun H1 e Q q =>
  h H1 e _ fun v H2 e2 hv => by
    obtain ⟨p, xs, rfl, hs, hxs⟩ := dp_tup hv
    exact ⟨p, xs, rfl, .inr ⟨hs, q _ _ e2 (.tup hs hxs)⟩⟩
theorem en_list (h : EvD K te σ H d) (hd : d = .list ds ∨ d = .tuple ds) : EvN K (tCB (fun xs H Q => ∃ p ys, xs = [.ref p] ∧ (SqL K H p ys ∨ SqT K H p ys) ∧ ∀ l, H l = none → Q (.ref l) (upd H l (.lst ys))) (tCons te tNil)) σ H ds := fun H1 e Q q =>
  h H1 e _ fun v H2 e2 hv => by
    rcases hd with rfl | rfl
    · obtain ⟨p, xs, rfl, hs, hxs⟩ := dp_lst hv
      exact ⟨p, xs, rfl, .inl hs, fun l nl => q l xs _ (fresh_back e2 nl) (e2.trans (Ex.new nl)) upd_same (dps_same (Ex.new nl) hxs)⟩
    · obtain ⟨p, xs, rfl, hs, hxs⟩ := dp_tup hv
      exact ⟨p, xs, rfl, .inr hs, fun l nl => q l xs _ (fresh_back e2 nl) (e2.trans (Ex.new nl)) upd_same (dps_same (Ex.new nl) hxs)⟩
theorem dps_bool : ∀ {vs : List V} {bs : List Bool}, DpAll K H vs (bs.map PyData.bool) → vs = bs.map V.bl
  | _, [], h => by cases h; rfl
  | _, b :: bs, h => by
    cases h with
    | cons h t =>
      rw [dp_bl h, dps_bool t]
      rfl
theorem ev_allD {bs : List Bool} (h : EvD K te σ H (.list (bs.map PyData.bool))) : Ev (tCB (rAll K) (tCons te tNil)) σ H (.bl (bs.all id)) := fun H1 e Q q =>
  h H1 e _ fun v H2 e2 hv => by
    obtain ⟨p, xs, rfl, hs, hxs⟩ := dp_lst hv
    rw [dps_bool hxs] at hs
    exact ⟨p, bs, rfl, hs, q H2 e2⟩
theorem ev_anyD {bs : List Bool} (h : EvD K te σ H (.list (bs.map PyData.bool))) : Ev (tCB (rAny K) (tCons te tNil)) σ H (.bl (bs.any id)) := fun H1 e Q q =>
  h H1 e _ fun v H2 e2 hv => by
    obtain ⟨p, xs, rfl, hs, hxs⟩ := dp_lst hv
    rw [dps_bool hxs] at hs
    exact ⟨p, bs, rfl, hs, q H2 e2⟩
theorem inV_ints (n : Int) : ∀ ns : List Int, inV (.int n) (ns.map V.int) = decide (n ∈ ns)
  | [] => rfl
  | m :: ns => by
    have ih := inV_ints n ns
    unfold inV at ih ⊢
    rw [List.map_cons, List.any_cons, ih]
    show ((m == n) || decide (n ∈ ns)) = decide (n ∈ m :: ns)
    rw [Bool.eq_iff_iff]
    simp only [Bool.or_eq_true, beq_iff_eq, decide_eq_true_eq, List.mem_cons]
    exact or_congr ⟨Eq.symm, Eq.symm⟩ Iff.rfl
theorem ev_inI {n : Int} {ns : List Int} {neg : Bool} (ha : Ev ta σ H (.int n)) (hb : EvD K tb σ H d) (hd : d = .list (ns.map PyData.int) ∨ d = .tuple (ns.map PyData.int)) : Ev (tOp (rIn K neg) ta tb) σ H (.bl (if neg then !decide (n ∈ ns) else decide (n ∈ ns))) := fun H1 e Q q =>
  ha H1 e _ fun H2 e2 => hb H2 (e.trans e2) _ fun v H3 e3 hv => by
    have fl : (ns.map V.int).all flatV = true := List.all_eq_true.mpr fun x hx => by
      obtain ⟨m, _, rfl⟩ := List.mem_map.mp hx
      rfl
    rcases hd with rfl | rfl
    · obtain ⟨p, xs, rfl, hs, hxs⟩ := dp_lst hv
      rw [dps_int hxs] at hs
      exact ⟨p, _, rfl, .inl hs, rfl, fl, by rw [inV_ints]; exact q H3 (e2.trans e3)⟩
    · obtain ⟨p, xs, rfl, hs, hxs⟩ := dp_tup hv
      rw [dps_int hxs] at hs
      exact ⟨p, _, rfl, .inr hs, rfl, fl, by rw [inV_ints]; exact q H3 (e2.trans e3)⟩
/-- int(b) -/
theorem ev_intB {b : Bool} (h : Ev te σ H (.bl b)) : Ev (tCB (fun xs H Q => (∃ i, xs = [.int i] ∧ Q (.int i) H) ∨ ∃ k, xs = [.bl k] ∧ Q (.int (if k then 1 else 0)) H) (tCons te tNil)) σ H (.int (if b then 1 else 0)) := fun H1 e Q q =>
  h H1 e _ fun H2 e2 => .inr ⟨b, rfl, q H2 e2⟩
/-- a list that is known by its place grows -/
theorem sd_app {D : Ends} {p : Addr} {xs : List V} (hs : σ[i]? = some (some (.ref p))) (hp : H p = some (.lst xs)) (h : EvD K te σ H d) (hz : xs.length < 100000) (k : ∀ v H1, Ex H H1 → Dp K H1 v d → D.nx σ (upd H1 p (.lst (xs ++ [v])))) :
    tDrop (tBM K "list" rAppend (tVar i) (tCons te tNil)) D σ H := ⟨.ref p, hs, .inl ⟨rfl, xs, .of hp⟩, h H (Ex.refl H) _ fun v H1 e hv => ⟨p, xs, v, rfl, rfl, e _ _ hp, sz_lt hz, k v H1 e hv⟩⟩
theorem sd_ext {D : Ends} {p : Addr} {xs : List V} (hs : σ[i]? = some (some (.ref p))) (hp : H p = some (.lst xs)) (h : EvN K te σ H ds) (hz : xs.length + ds.length ≤ 100000) (k : ∀ vs H1, Ex H H1 → DpAll K H1 vs ds → D.nx σ (upd H1 p (.lst (xs ++ vs)))) :
    tDrop (tBM K "list" rExtend (tVar i) (tCons te tNil)) D σ H := ⟨.ref p, hs, .inl ⟨rfl, xs, .of hp⟩, h H (Ex.refl H) _ fun q vs H1 nq e hq hv => ⟨p, q, xs, vs, rfl, rfl, e _ _ hp, hq, sz_of (by rw [hv.length]; exact hz), k vs H1 e hv⟩⟩
theorem sd_if {D : Ends} {b : Bool} {tu tw : TS} (h : EvT t σ H b) (h1 : b = true → ∀ H1, Ex H H1 → tu D σ H1) (h2 : b = false → ∀ H1, Ex H H1 → tw D σ H1) : tIfS t tu tw D σ H := s_if h h1 h2
end
end Ink
namespace Ink
open PySem PySem.Spec PyProof.Rows L2 Evl
theorem hu9 {k : Nat} {A : Around} (hr : Room k A) : A.units + 100 < cLine := by
  have := hr.un
  omega
abbrev rLenV (K : PySem.W.Frag) : List V → Hp → VK → Prop := fun xs H Q => ∃ x n, xs = [x] ∧ LenV K x H n ∧ Q (.int n) H
/-- a method of the class at C -/
def MetC (P : Program) (w : World) (K : PySem.W.Frag) (mg : Str → Option Value) (base : Heap) (k : Nat) (C : Addr) (m : Str) (ps : List Str) (sp : Sp) : Prop :=
  ∃ f fd, FnOk P w K mg base CX0 k f fd ps sp ∧ Meth K C m f ∧ Cls K C ∧ Binds K fd ps []
/-- the class at C, called by its name with these values behind those that are written -/
def MakC (P : Program) (w : World) (K : PySem.W.Frag) (mg : Str → Option Value) (base : Heap) (k : Nat) (x : Str) (C : Addr) (ps : List Str) (dvs : List V) (sp : Sp) : Prop :=
  ∃ f fd ds, FnOk P w K mg base CX0 k f fd ps sp ∧ Mk K C f ∧ mg x = some (.ref C) ∧ Binds K fd ps ds ∧ Vals dvs ds
section
variable {X : Cx} {k : Nat} {C : Addr} {x m : Str} {ps : List Str} {dvs : List V} {sp : Sp} {p pos apos : Pos} {o e : Expr} {es : List Expr} {ta : TE} {t : TA}
theorem pe_methC {pl : Sem Bool} (he : PE X o ta) (c : MetC X.prog X.w X.K X.mg X.base k C m ps sp) (hr : Room k X.A) (ha : PA X (e :: es) t)
    (hst : starEach (e :: es) X.env = (false, eval e X.env) :: starEach es X.env := by rfl) (hpl : (backTo pos (starEach es X.env)).any (·.1) = false := by rfl)
    (ht : eval (.Call (.Attribute o m apos) (e :: es) [] pos) X.env = (do
      let ov ← eval o X.env
      standAt apos.atName
      let (f, first) ← holding [ov] (getMethod ov m pl)
      callWith pos f first (backTo pos (starEach (e :: es) X.env)) (backToKw pos (keywordEach [] X.env))) := by rfl)
    (hp : ∀ f fd, FnOk X.prog X.w X.K X.mg X.base CX0 k f fd ps sp → Passes CX0 X E0 := by exact fun _ _ _ => pass0) : PE X (.Call (.Attribute o m apos) (e :: es) [] pos) (tMeth C m sp [] E0 ta t) := by
  obtain ⟨f, fd, G, hm, hc, b⟩ := c
  exact pe_meth he hc hm G hr b .nil pass0 ha hst hpl ht
theorem pe_methC0 {pl : Sem Bool} (he : PE X o ta) (c : MetC X.prog X.w X.K X.mg X.base k C m ps sp) (hr : Room k X.A)
    (ht : eval (.Call (.Attribute o m apos) [] [] pos) X.env = (do
      let ov ← eval o X.env
      standAt apos.atName
      let (f, first) ← holding [ov] (getMethod ov m pl)
      callWith pos f first (backTo pos (starEach [] X.env)) (backToKw pos (keywordEach [] X.env))) := by rfl) : PE X (.Call (.Attribute o m apos) [] [] pos) (tMeth C m sp [] E0 ta tNil) := by
  obtain ⟨f, fd, G, hm, hc, b⟩ := c
  exact pe_meth0 he hc hm G hr b .nil pass0 ht
theorem pe_makeC (c : MakC X.prog X.w X.K X.mg X.base k x C ps dvs sp) (hr : Room (k + 1) X.A) (hg : Gl X x) (ha : PA X (e :: es) t) (hdb : (x == ("__debug__" : Str)) = false := by decide)
    (he : starEach (e :: es) X.env = (false, eval e X.env) :: starEach es X.env := by rfl) (hpl : (backTo pos (starEach es X.env)).any (·.1) = false := by rfl) : PE X (.Call (.Name x p) (e :: es) [] pos) (tMake C sp dvs E0 t) := by
  obtain ⟨f, fd, ds, G, M, g, b, hd⟩ := c
  exact pe_make M G hr hg g b hd pass0 ha hdb he hpl
theorem pe_makeC0 (c : MakC X.prog X.w X.K X.mg X.base k x C ps dvs sp) (hr : Room (k + 1) X.A) (hg : Gl X x) (hdb : (x == ("__debug__" : Str)) = false := by decide) : PE X (.Call (.Name x p) [] [] pos) (tMake C sp dvs E0 tNil) := by
  obtain ⟨f, fd, ds, G, M, g, b, hd⟩ := c
  exact pe_make0 M G hr hg g b hd pass0 hdb
end
/-- a constant of the module that is a tuple -/
def GlobT (K : PySem.W.Frag) (mg : Str → Option Value) (x : Str) (d : PyData) : Prop := ∃ a, mg x = some (.ref a) ∧ ∀ H, Dp K H (.ref a) d
def tGlobT (K : PySem.W.Frag) (d : PyData) : TE := fun _ H Q => ∀ a, (∀ H', Dp K H' (.ref a) d) → Q (.ref a) H
theorem pe_globT {X : Cx} {x : Str} {d : PyData} {pos : Pos} (hg : Gl X x) (hm : GlobT X.K X.mg x d) (hd : (x == ("__debug__" : Str)) = false := by decide) : PE X (.Name x pos) (tGlobT X.K d) := by
  obtain ⟨a, e, h⟩ := hm
  have p := pe_glob (X := X) (x := x) (pos := pos) (v := .ref a) hg e rfl hd
  exact ⟨fun pins s σ H Q I hq => p.run pins s σ H Q I (hq a h)⟩
theorem ed_globT {K : PySem.W.Frag} {σ : L2.St} {H : Hp} {d : PyData} : EvD K (tGlobT K d) σ H d := fun H1 e Q q a h => q (.ref a) H1 (Ex.refl H1) (h H1)
end Ink
namespace Ink
open PySem PySem.Spec PyProof.Rows L2 Evl
section
variable {K : PySem.W.Frag} {σ : L2.St} {H : Hp} {te : TE} {t : TT} {d1 d2 d3 : PyData} {x : V}
theorem tg2 {n1 n2 : Nat} {Q : L2.St → Hp → Prop} (hd : Dp K H x (.tuple [d1, d2])) (k : ∀ v1 v2, Dp K H v1 d1 → Dp K H v2 d2 → Q ((σ.set n1 (some v1)).set n2 (some v2)) H) : gTup K 2 (gCons (gName n1) (gCons (gName n2) gNil)) x σ H Q := by
  obtain ⟨p, xs, rfl, hs, hxs⟩ := dp_tup hd
  obtain ⟨v1, v2, rfl, h1, h2⟩ := dps2 hxs
  exact ⟨p, _, rfl, hs, rfl, _, _, rfl, _, _, rfl, rfl, k v1 v2 h1 h2⟩
theorem tg3 {n1 n2 n3 : Nat} {Q : L2.St → Hp → Prop} (hd : Dp K H x (.tuple [d1, d2, d3])) (k : ∀ v1 v2 v3, Dp K H v1 d1 → Dp K H v2 d2 → Dp K H v3 d3 → Q (((σ.set n1 (some v1)).set n2 (some v2)).set n3 (some v3)) H) : gTup K 3 (gCons (gName n1) (gCons (gName n2) (gCons (gName n3) gNil))) x σ H Q := by
  obtain ⟨p, xs, rfl, hs, hxs⟩ := dp_tup hd
  obtain ⟨v1, v2, v3, rfl, h1, h2, h3⟩ := dps3 hxs
  exact ⟨p, _, rfl, hs, rfl, _, _, rfl, _, _, rfl, _, _, rfl, rfl, k v1 v2 v3 h1 h2 h3⟩
theorem en_map {α : Type} {ti : TI} {g : TG} {vs : List Nat} (xs : List α) (enc : α → PyData) (f : α → PyData) (hi : EvI K ti σ H (xs.map enc)) (hz : xs.length ≤ 40000) (hf : ∀ a ∈ xs, fz (f a) = true)
    (ht : ∀ (i : Nat) (a : α) (H1 : Hp) (x : V), xs[i]? = some a → Ex H H1 → Dp K H1 x (enc a) → ∀ R : L2.St → Hp → Prop, (∀ σ2, wipe σ2 vs = wipe σ vs → EvD K te σ2 H1 (f a) → R σ2 H1) → g x (wipe σ vs) H1 R) :
    EvN K (tLc ti g tYes te vs) σ H (xs.map f) := by
  have h := en_lc (K := K) (t := tYes) (te := te) (σ := σ) (H := H) (ti := ti) (g := g) (vs := vs) xs enc (fun _ => true) f hi hz hf fun i a H1 x hx e hd R k => ht i a H1 x hx e hd R fun σ2 hw he => k σ2 hw et_yes fun _ => he
  rw [show xs.filter (fun _ => true) = xs from List.filter_eq_self.mpr fun _ _ => rfl] at h
  exact h
end
end Ink
namespace Ink
open PySem PySem.Spec PyProof.Rows L2 Evl
/-! ### loops over tuples that stand while lists change -/
def TupK (K : PySem.W.Frag) (H H' : Hp) : Prop := ∀ c xs, SqT K H c xs → SqT K H' c xs
theorem TupK.refl {K : PySem.W.Frag} (H : Hp) : TupK K H H := fun _ _ h => h
theorem TupK.trans {K : PySem.W.Frag} {H H1 H2 : Hp} (a : TupK K H H1) (b : TupK K H1 H2) : TupK K H H2 := fun c xs h => b c xs (a c xs h)
theorem TupK.of {K : PySem.W.Frag} {H H' : Hp} (e : Ex H H') : TupK K H H' := fun _ _ h => ex_t e h
/-- what is no tuple changes -/
theorem TupK.upd {K : PySem.W.Frag} {H : Hp} {a : Addr} {o o' : HO} (h : H a = some o) (n1 : ∀ xs, o ≠ .tup xs) (n2 : ∀ ob xs, o ≠ .frz ob (.tup xs)) : TupK K H (upd H a o') := fun c xs hc => by
  rcases hc with (hc | ⟨ob, hc⟩) | hc
  · exact .inl (.inl (by rw [upd_ne (ne_of hc h (fun z => n1 _ z.symm))]; exact hc))
  · exact .inl (.inr ⟨ob, by rw [upd_ne (ne_of hc h (fun z => n2 _ _ z.symm))]; exact hc⟩)
  · exact .inr hc
theorem TupK.lst {K : PySem.W.Frag} {H : Hp} {a : Addr} {xs : List V} {o' : HO} (h : H a = some (.lst xs)) : TupK K H (L2.upd H a o') := .upd h (fun _ z => by cases z) (fun _ _ z => by cases z)
theorem TupK.mut {K : PySem.W.Frag} {H H' : Hp} {a : Addr} {o' : HO} (k : TupK K H H') (h : H' a = none) : TupK K H (L2.upd H' a o') := k.trans (.of (Ex.new h))
theorem TupK.keep {K : PySem.W.Frag} {H H' : Hp} {a l : Addr} (b : BagAt H a l) (k : Keep a H H') : TupK K H H' := keep_t b k
section
variable {K : PySem.W.Frag} {σ : L2.St} {H H' : Hp} {te : TE} {ds : List PyData} {d : PyData} {v : V} {vs : List V} {D : Ends} {tu : TS} {ti : TI} {g : TG}
theorem dp_tk (k : TupK K H H') (f : fz d = true) (h : Dp K H v d) : Dp K H' v d := dp_fz k d v f h
theorem dps_tk (k : TupK K H H') (f : fzAll ds = true) (h : DpAll K H vs ds) : DpAll K H' vs ds := dps_fz k ds vs f h
/-- what is walked gives ds, as long as the tuples stand -/
def EvJ (K : PySem.W.Frag) (ti : TI) (σ : L2.St) (H : Hp) (ds : List PyData) : Prop := ∀ H1, Ex H H1 → ∀ R : It → Hp → Prop, (∀ J H2, Ex H1 H2 → Walk J ds.length (fun H' => TupK K H2 H') (fun i Ha x Hb => Ex Ha Hb ∧ ∃ d, ds[i]? = some d ∧ Dp K Hb x d) → R J H2) → ti σ H1 R
theorem ej_tup (h : EvD K te σ H (.tuple ds)) (f : fzAll ds = true) : EvJ K (iTup K te) σ H ds := fun H1 e R q => h H1 e _ fun v H2 e2 hd => by
  obtain ⟨p, xs, rfl, hs, hxs⟩ := dp_tup hd
  refine ⟨p, rfl, ⟨xs, hs⟩, q _ H2 e2 ?_⟩
  rw [← hxs.length]
  refine (walk_tup (xs := xs)).mono (fun H3 k3 => k3 _ _ hs) fun i Ha x Hb hi k3 hy => ?_
  obtain ⟨rfl, hx⟩ := hy
  obtain ⟨dx, h1, h2⟩ := hxs.at hx
  exact ⟨Ex.refl _, dx, h1, dp_tk k3 (fzAll_iff.mp f dx (List.mem_of_getElem? h1)) h2⟩
theorem ej_enumT (h : EvD K te σ H (.tuple ds)) (f : fzAll ds = true) : EvJ K (iEnumT K (tCons te tNil)) σ H (enumD ds) := fun H1 e R q => h H1 e _ fun v H2 e2 hd => by
  obtain ⟨p, xs, rfl, hs, hxs⟩ := dp_tup hd
  refine ⟨p, xs, rfl, hs, q _ H2 e2 ?_⟩
  have hl : (enumD ds).length = xs.length := by
    unfold enumD
    rw [List.length_map, List.length_range, hxs.length]
  rw [hl]
  refine (walk_enumT (xs := xs)).mono (fun H3 k3 => k3 _ _ hs) fun i Ha x Hb hi k3 hy => ?_
  obtain ⟨T, x1, y1, rfl, nT, rfl, hx, hy⟩ := hy
  cases hx
  obtain ⟨dy, h3, h4⟩ := hxs.at hy
  exact ⟨Ex.new nT, _, enumD_get h3, .tup (.of upd_same) (.cons (.int _) (.cons (dp_tk (k3.mut nT) (fzAll_iff.mp f dy (List.mem_of_getElem? h3)) h4) .nil))⟩
theorem ej_range {ta : TA} {n : Nat} (h : EvA ta σ H [.int (n : Int)]) (hn : n ≤ 100000) : EvJ K (iRng1 ta) σ H ((List.range n).map fun (i : Nat) => PyData.int (i : Int)) := fun H1 e R q => h H1 e _ fun H2 e2 => ⟨(n : Int), rfl, by omega, by omega, q _ H2 e2 (by
  rw [List.length_map, List.length_range, Int.toNat_natCast]
  refine walk_range0.mono (fun _ _ => True.intro) fun i Ha x Hb hi e3 hy => ?_
  obtain ⟨rfl, rfl⟩ := hy
  refine ⟨Ex.refl _, .int (i : Int), ?_, .int _⟩
  rw [List.getElem?_map, List.getElem?_range hi]
  rfl)⟩
theorem sd_for (hi : EvJ K ti σ H ds) (Pv : Hp → Nat → L2.St → Hp → Prop) (h0 : ∀ H2, Ex H H2 → Pv H2 0 σ H2) (hT : ∀ H2 i σ' H', Pv H2 i σ' H' → TupK K H2 H')
    (hs : ∀ H2 i d x σ' H' H'', Ex H H2 → ds[i]? = some d → Pv H2 i σ' H' → Ex H' H'' → Dp K H'' x d → g x σ' H'' fun σ2 H3 => tu { D with nx := Pv H2 (i + 1), ct := Pv H2 (i + 1), bk := D.nx } σ2 H3)
    (hd : ∀ H2 σ' H', Ex H H2 → Pv H2 ds.length σ' H' → D.nx σ' H') : tFor ti g tu D σ H :=
  hi H (Ex.refl H) _ fun J H2 e2 W => for_it W (Pv H2) (h0 H2 e2) (fun i σ' H' _ hP => hT H2 i σ' H' hP) (fun i x σ' Ha Hb hi hP hy => by
    obtain ⟨e3, d, h1, h2⟩ := hy
    exact hs H2 i d x σ' Ha Hb e2 h1 hP e3 h2) (fun σ' H' hP => hd H2 σ' H' e2 hP)
end
end Ink
namespace Ink
open PySem PySem.Spec PyProof.Rows L2
/-! ### companies: what the defs reckon -/
/-- a writer; a stand: places, waits, who wrote last, how many -/
abbrev Wr := Str × List Arw × Int × Int
abbrev Std := List Int × List Int × Int × Int
def dA (x : Arw) : PyData := .tuple [.int x.1, .str x.2.1, .int x.2.2]
def dW (w : Wr) : PyData := .tuple [.str w.1, .tuple (w.2.1.map dA), .int w.2.2.1, .int w.2.2.2]
def dMt (m : List Wr) : PyData := .tuple (m.map dW)
def dMl (m : List Wr) : PyData := .list (m.map dW)
def dI (ns : List Int) : PyData := .tuple (ns.map PyData.int)
def dS (s : Std) : PyData := .tuple [dI s.1, dI s.2.1, .tuple [.int s.2.2.1, .int s.2.2.2]]
def dStep (x : Str × Str × Std) : PyData := .tuple [.str x.1, .str x.2.1, dS x.2.2]
def wr (m : List Wr) (k : Nat) : Wr := m.getD k (Str.empty, [], 0, 0)
def pl (s : Std) (k : Nat) : Int := s.1.getD k 0
def wt (s : Std) (k : Nat) : Int := s.2.1.getD k 0
structure GoodM (m : List Wr) : Prop where
  len : m.length ≤ 3
  wr : ∀ w ∈ m, GoodW w.1 w.2.1 w.2.2.1 w.2.2.2
  nd : (m.map (·.1)).Nodup
/-- that writer has a patience and isn't done -/
def minds (m : List Wr) (s : Std) (k : Nat) : Bool := !decide (V.int (wr m k).2.2.1 = V.int 0) && decide (pl s k ∈ (wr m k).2.1.map (·.1))
def mayW (m : List Wr) (s : Std) (k : Nat) : Bool :=
  if (!decide (V.int (wr m k).2.2.2 = V.int 0) && (decide (V.int s.2.2.1 = V.int (k : Int)) && decide (s.2.2.2 ≥ (wr m k).2.2.2))) = true then false
  else (((List.range m.length).filter fun (j : Nat) => !decide (V.int (j : Int) = V.int (k : Int)) && minds m s j).map fun (j : Nat) => decide (wt s j < (wr m j).2.2.1)).all id
def behind (m : List Wr) (s : Std) (k : Nat) (to : Int) : Std :=
  (s.1.take k ++ to :: s.1.drop (k + 1), (List.range s.2.1.length).map (fun (j : Nat) => if (!decide (V.int (j : Int) = V.int (k : Int)) && minds m s j) = true then wt s j + 1 else 0),
    if V.int (wr m k).2.2.2 = V.int 0 then (-1, 0) else ((k : Int), if V.int s.2.2.1 = V.int (k : Int) then s.2.2.2 + 1 else 1))
/-- a sign, by whom, whereto -/
abbrev Mv := Str × Nat × Int
def dMv (x : Mv) : PyData := .tuple [.str x.1, .int (x.2.1 : Int), .int x.2.2]
def movesAt (m : List Wr) (s : Std) (k : Nat) : List Mv := if mayW m s k = true then ((wr m k).2.1.filter fun x => decide (V.int x.1 = V.int (pl s k))).map fun x => (x.2.1, k, x.2.2) else []
def moves (m : List Wr) (s : Std) : List Mv := (List.range m.length).flatMap (movesAt m s)
def leMv (a b : Mv) : Bool := PySem.W.dataLe false id (dMv a) (dMv b)
def stepsOf (m : List Wr) (s : Std) : List (Str × Str × Std) := ((moves m s).mergeSort leMv).map fun x => (x.1, (wr m x.2.1).1, behind m s x.2.1 x.2.2)
/-- as many places and waits as writers -/
structure Fits (m : List Wr) (s : Std) : Prop where
  l1 : s.1.length = m.length
  l2 : s.2.1.length = m.length
theorem GoodM.at {m : List Wr} (g : GoodM m) {k : Nat} (h : k < m.length) : GoodW (Ink.wr m k).1 (Ink.wr m k).2.1 (Ink.wr m k).2.2.1 (Ink.wr m k).2.2.2 := by
  unfold Ink.wr
  rw [List.getD_eq_getElem?_getD, List.getElem?_eq_getElem h]
  exact g.wr _ (List.getElem_mem h)
theorem wr_get {m : List Wr} {k : Nat} (h : k < m.length) : m[k]? = some (wr m k) := by
  unfold wr
  rw [List.getD_eq_getElem?_getD, List.getElem?_eq_getElem h]
  rfl
theorem getD_get {ns : List Int} {k : Nat} (h : k < ns.length) : ns[k]? = some (ns.getD k 0) := by
  rw [List.getD_eq_getElem?_getD, List.getElem?_eq_getElem h]
  rfl
theorem dW_get {m : List Wr} {k : Nat} (h : k < m.length) : (m.map dW)[(k : Int).toNat]? = some (dW (wr m k)) := by
  rw [Int.toNat_natCast, List.getElem?_map, wr_get h]
  rfl
theorem dI_get {ns : List Int} {k : Nat} (h : k < ns.length) : (ns.map PyData.int)[(k : Int).toNat]? = some (.int (ns.getD k 0)) := by
  rw [Int.toNat_natCast, List.getElem?_map, getD_get h]
  rfl
/-! frozen, of bounded depth -/
theorem fz_dI (ns : List Int) : fz (dI ns) = true := by
  unfold dI fz
  exact fz_map fun _ _ => by unfold fz; rfl
theorem fz_dA (x : Arw) : fz (dA x) = true := by
  unfold dA fz fzAll fzAll fzAll fzAll fz
  rfl
theorem fz_dS (s : Std) : fz (dS s) = true := by
  have h1 := fz_dI s.1
  have h2 := fz_dI s.2.1
  unfold dS
  simp only [fz, fzAll, h1, h2, Bool.and_true]
theorem fz_dW (w : Wr) : fz (dW w) = true := by
  have h : fzAll (w.2.1.map dA) = true := fz_map fun x _ => fz_dA x
  unfold dW
  simp only [fz, fzAll, h, Bool.and_true]
theorem fz_dStep (x : Str × Str × Std) : fz (dStep x) = true := by
  have h := fz_dS x.2.2
  unfold dStep
  simp only [fz, fzAll, h, Bool.and_true]
theorem fz_dMt (m : List Wr) : fz (dMt m) = true := by
  unfold dMt fz
  exact fz_map fun x _ => fz_dW x
theorem fz_dMv (x : Mv) : fz (dMv x) = true := by
  unfold dMv
  simp only [fz, fzAll, Bool.and_true]
theorem moves_len {m : List Wr} (g : GoodM m) (s : Std) : (moves m s).length ≤ 27 := by
  unfold moves
  have h : ∀ k ∈ List.range m.length, (movesAt m s k).length ≤ 9 := fun k hk => by
    unfold movesAt
    split
    · rw [List.length_map]
      have h1 := List.length_filter_le (fun x : Arw => decide (V.int x.1 = V.int (pl s k))) (wr m k).2.1
      have h2 := (g.at (List.mem_range.mp hk)).len
      omega
    · exact Nat.zero_le _
  have hs : ∀ l : List Nat, (∀ k ∈ l, (movesAt m s k).length ≤ 9) → (l.flatMap (movesAt m s)).length ≤ 9 * l.length := fun l => by
    induction l with
    | nil => intro _; exact Nat.le_refl _
    | cons k l ih =>
      intro hl
      rw [List.flatMap_cons, List.length_append, List.length_cons]
      have := hl k (List.mem_cons_self ..)
      have := ih fun j hj => hl j (List.mem_cons_of_mem _ hj)
      omega
  have := hs _ h
  rw [List.length_range] at this
  have := g.len
  omega
end Ink
namespace Ink
open PySem PySem.Spec PyProof.Rows L2 Evl
/-! ### companies: the program's defs -/
def RMinds : List PyData → PyData → Prop := fun ds d => ∃ m s, ∃ k : Nat, GoodM m ∧ Fits m s ∧ k < m.length ∧ ds = [dMt m, dS s, .int (k : Int)] ∧ d = .bool (minds m s k)
def RMay : List PyData → PyData → Prop := fun ds d => ∃ m s, ∃ k : Nat, GoodM m ∧ Fits m s ∧ k < m.length ∧ ds = [dMt m, dS s, .int (k : Int)] ∧ d = .bool (mayW m s k)
def RBehind : List PyData → PyData → Prop := fun ds d => ∃ m s, ∃ k : Nat, ∃ to, GoodM m ∧ Fits m s ∧ k < m.length ∧ ds = [dMt m, dS s, .int (k : Int), .int to] ∧ d = dS (behind m s k to)
def RSteps : List PyData → PyData → Prop := fun ds d => ∃ m s, GoodM m ∧ Fits m s ∧ ds = [dMt m, dS s] ∧ d = .list ((stepsOf m s).map dStep)
section
variable {P : Program} {w : World} {K : PySem.W.Frag} {mg : Str → Option Value} {base : Heap}
theorem places_in (ar : List Arw) : (ar.map fun x => PyData.int x.1) = (ar.map (·.1)).map PyData.int := by
  rw [List.map_map]
  rfl
theorem ok_minds {f : Addr} {fd : FuncData} {k : Nat} (F : Fun K "_minds" "_minds" sMinds f fd) : FnOk P w K mg base CX0 (k + 1) f fd ["writers", "stand", "at"] (spP K RMinds) := by
  refine F.ok sc__minds (fun vs H Q E h => ?_) (fun cdv A outer s H vs Q E hr h => ?_)
  · obtain ⟨ds, d, hd, ⟨m, s, k, _, _, _, rfl, _⟩, _⟩ := h
    exact hd.length
  · obtain ⟨ds, d, hd, ⟨m, st, k, g, ft, hk, rfl, rfl⟩, q⟩ := h
    obtain ⟨v0, v1, v2, rfl, h0, h1, h2⟩ := dps3 hd
    obtain rfl := dp_int h2
    refine ⟨_, (pss_cons (ps_asg (pe_ix ix_tup (pv 0) (pv 2) (fun _ _ => rfl)) (pg_tup rfl (pgs_cons (pg_name (i := 3) sc__minds.nd rfl (.inl rfl)) (pgs_cons (pg_name (i := 4) sc__minds.nd rfl (.inl rfl)) (pgs_cons (pg_name (i := 5) sc__minds.nd rfl (.inl rfl)) (pgs_cons (pg_name (i := 3) sc__minds.nd rfl (.inl rfl)) pgs_nil))))))
    (pss_one (ps_ret (pe_and (pe_cmpR op_ne (pv 5) pe_int (nomark _)) (pe_one (pe_cmpR (show OpR _ _ (rIn K false) from op_in_seq) (pe_ix ix_tup (pe_ix ix_tup (pv 1) pe_int (fun _ _ => rfl)) (pv 2) (fun _ _ => rfl)) (pe_lc (own := [("place", 6), ("_", 3)]) (g := (gTup K 3 (gCons (gName 6) (gCons (gName 3) (gCons (gName 3) gNil))))) (by rfl) sc__minds.nd (pi_tup (pv 4)) (blkOk_by (own := [("place", 6), ("_", 3)]) (N := ["writers", "stand", "at", "_", "arrows", "patience", "place"]) (sc := defScope sMinds) (by decide +kernel)) (fun _ _ _ _ _ => (pg_tup rfl (pgs_cons (pg_name (i := 6) sc__minds.nd rfl (.inl rfl)) (pgs_cons (pg_name (i := 3) sc__minds.nd rfl (.inl rfl)) (pgs_cons (pg_name (i := 3) sc__minds.nd rfl (.inl rfl)) pgs_nil))))) (fun _ _ _ _ _ => pts_nil) (fun _ _ _ _ _ => (pv 6))) (by rfl))))))), ?_⟩
    refine sd_un4 (ed_ixT (ed_var rfl h0) (ev_var rfl) (by omega) (dW_get hk)) fun w0 w1 w2 w3 H1 e1 g0 g1 g2 g3 => ?_
    obtain rfl := dp_int g2
    have h1 := dp_same e1 h1
    refine sd_ret (ed_bl (ev_andV (ev_op (ev_var rfl) ev_c (rv_ne rfl)) fun _ => ev_inI (neg := false) (ns := (wr m k).2.1.map (·.1)) (ev_int (ed_ixT (ed_ixT (ed_var rfl h1) ev_c (by decide) rfl) (ev_var rfl) (by omega) (dI_get (by rw [ft.l1]; exact hk)))) (EvN.list ?_) (.inl rfl))) fun v H2 e2 hv => q v H2 (e1.trans e2) hv
    rw [← places_in]
    exact en_map _ dA _ (ei_tup (ed_var rfl g1)) (by have := (g.at hk).len; omega) (fun _ _ => by unfold fz; rfl) fun i a H3 x hx e3 hdx R kk => tg3 hdx fun u1 u2 u3 a1 a2 a3 => kk _ rfl (ed_var rfl a1)
theorem m_le {m : List Wr} (g : GoodM m) {n : Nat} (h : 3 ≤ n) : m.length ≤ n := Nat.le_trans g.len h
theorem ok_may {f : Addr} {fd : FuncData} {k : Nat} (F : Fun K "_may_write" "_may_write" sMayWrite f fd) (T : Txt mg) (C__minds : Cal P w K mg base k "_minds" ["writers", "stand", "at"] (spP K RMinds)) : FnOk P w K mg base CX0 (k + 1) f fd ["writers", "stand", "at"] (spP K RMay) := by
  refine F.ok sc__may_write (fun vs H Q E h => ?_) (fun cdv A outer s H vs Q E hr h => ?_)
  · obtain ⟨ds, d, hd, ⟨m, s, k, _, _, _, rfl, _⟩, _⟩ := h
    exact hd.length
  · obtain ⟨ds, d, hd, ⟨m, st, k, g, ft, hk, rfl, rfl⟩, q⟩ := h
    obtain ⟨v0, v1, v2, rfl, h0, h1, h2⟩ := dps3 hd
    obtain rfl := dp_int h2
    refine ⟨_, (pss_cons (ps_asg (pv 1) (pg_tup rfl (pgs_cons (pg_name (i := 3) sc__may_write.nd rfl (.inl rfl)) (pgs_cons (pg_name (i := 4) sc__may_write.nd rfl (.inr rfl)) (pgs_cons (pg_name (i := 5) sc__may_write.nd rfl (.inl rfl)) pgs_nil)))))
    (pss_cons (ps_set (i := 6) sc__may_write.nd rfl (.inl rfl) (pe_ix ix_tup (pe_ix ix_tup (pv 0) (pv 2) (fun _ _ => rfl)) pe_int (fun _ _ => rfl)))
    (pss_cons (ps_if (PW.pt (pw_and (pt_cmpR op_ne (pv 6) pe_int (nomark _)) (pw_and (pt_cmpR op_eq (pe_ix ix_tup (pv 5) pe_int (fun _ _ => rfl)) (pv 2) (nomark _)) (pw_and1 (pt_cmpR op_ge (pe_ix ix_tup (pv 5) pe_int (fun _ _ => rfl)) (pv 6) (nomark _))))))
    (pss_one (ps_ret pe_bl)) pss_nil)
    (pss_cons (ps_setLc (i := 7) (own := [("k", 8)]) (g := (gName 8)) (by rfl) sc__may_write.nd rfl rfl (sw_true rfl rfl rfl (by decide +kernel)) (pi_range1 (by rfl) T.m_range (pa_cons (pe_callB call_len (by rfl) T.m_len PySem.boot_len (pa_cons (pv 0) pa_nil)) pa_nil)) (blkOk_by (own := [("k", 8)]) (N := ["writers", "stand", "at", "_", "waits", "run", "cap", "others", "k"]) (sc := defScope sMayWrite) (by decide +kernel)) (fun _ _ _ _ _ => (pg_name (i := 8) sc__may_write.nd rfl (Or.inl rfl))) (fun _ _ _ _ _ => pts_one (PW.pt (pw_and (pt_cmpR op_ne (pv 8) (pv 2) (nomark _)) (pw_and1 (pt_val (pe_callC C__minds hr (by rfl) (pa_cons (pv 0) (pa_cons (pv 1) (pa_cons (pv 8) pa_nil))))))))) (fun _ _ _ _ _ => (pv 8)))
    (pss_one (ps_ret (pe_callB (cr_all rfl) (by rfl) T.m_all (by decide +kernel) (pa_cons (pe_lc (own := [("k", 8)]) (g := (gName 8)) (by rfl) sc__may_write.nd (pi_list (pv 7)) (blkOk_by (own := [("k", 8)]) (N := ["writers", "stand", "at", "_", "waits", "run", "cap", "others", "k"]) (sc := defScope sMayWrite) (by decide +kernel)) (fun _ _ _ _ _ => (pg_name (i := 8) sc__may_write.nd rfl (Or.inl rfl))) (fun _ _ _ _ _ => pts_nil) (fun _ _ _ _ _ => (pe_cmpR op_lt (pe_ix (show IxR _ (rIxT K) from ix_tup) (pv 4) (pv 8) (fun _ _ => rfl)) (pe_ix (show IxR _ (rIxT K) from ix_tup) (pe_ix (show IxR _ (rIxT K) from ix_tup) (pv 0) (pv 8) (fun _ _ => rfl)) pe_int (fun _ _ => rfl)) (nomark _)))) pa_nil)))))))), ?_⟩
    refine sd_un3 (ed_var rfl h1) fun w0 w1 w2 H1 e1 g0 g1 g2 => ?_
    have h0 := dp_same e1 h0
    have h1 := dp_same e1 h1
    refine sd_asg (ed_ixT (ed_ixT (ed_var rfl h0) (ev_var rfl) (by omega) (dW_get hk)) ev_c (by decide) rfl) fun w3 H2 e2 g3 => ?_
    obtain rfl := dp_int g3
    have h0 := dp_same e2 h0
    have h1 := dp_same e2 h1
    have g1 := dp_same e2 g1
    have g2 := dp_same e2 g2
    have e12 := e1.trans e2
    refine Evl.q_when (b := !decide (V.int (wr m k).2.2.2 = V.int 0) && (decide (V.int st.2.2.1 = V.int (k : Int)) && decide (st.2.2.2 ≥ (wr m k).2.2.2))) (et_and (et_test (ev_op (ev_var rfl) ev_c (rv_ne rfl))) fun _ => et_and (et_test (ev_op (ev_int (ed_ixT (ed_var rfl g2) ev_c (by decide) rfl)) (ev_var rfl) (rv_eq rfl))) fun _ =>
      et_test (ev_op (ev_int (ed_ixT (ed_var rfl g2) ev_c (by decide) rfl)) (ev_var rfl) rv_I0)) (fun hb H3 e3 => ?_) fun hb H3 e3 => ?_
    · refine q (.bl false) H3 (e12.trans e3) ?_
      unfold mayW
      rw [if_pos hb]
      exact .bl false
    · have h0 := dp_same e3 h0
      have h1 := dp_same e3 h1
      have g1 := dp_same e3 g1
      have e13 := e12.trans e3
      refine sd_asg (K := K) (EvN.list (en_lc (List.range m.length) (fun j : Nat => PyData.int (j : Int)) (fun j : Nat => !decide (V.int (j : Int) = V.int (k : Int)) && minds m st j) (fun j : Nat => PyData.int (j : Int)) (ei_range (ea_cons (ev_is (ev_lenD (ed_var rfl h0) (.inr rfl)) (by rw [List.length_map])) ea_nil) (m_le g (by decide))) (by rw [List.length_range]; exact m_le g (by decide)) (fun _ _ => by unfold fz; rfl) fun i a H4 x hx e4 hdx R kk => ?_)) fun w4 H4 e4 g4 => ?_
      · obtain rfl := dp_int hdx
        have ha : a < m.length := by
          have := List.mem_of_getElem? hx
          exact List.mem_range.mp this
        refine kk _ rfl (et_and (et_test (ev_op (ev_var rfl) (ev_var rfl) (rv_ne rfl))) fun _ => et_B (ev_bl (ed_call (eds_cons (ed_var rfl (dp_same e4 h0)) (eds_cons (ed_var rfl (dp_same e4 h1)) (eds_cons (ed_var rfl (.int _)) eds_nil))) ⟨m, st, a, g, ft, ha, rfl, rfl⟩))) fun _ => ed_var rfl (.int _)
      · have h0 := dp_same e4 h0
        have g1 := dp_same e4 g1
        dsimp only
        refine sd_ret (K := K) (ed_bl (ev_allD (bs := ((List.range m.length).filter fun (j : Nat) => !decide (V.int (j : Int) = V.int (k : Int)) && minds m st j).map fun (j : Nat) => decide (wt st j < (wr m j).2.2.1)) (EvN.list ?_))) fun v H5 e5 hv => ?_
        · rw [List.map_map]
          refine en_map _ (fun j : Nat => PyData.int (j : Int)) _ (ei_lst (ed_var rfl g4)) ?_ (fun _ _ => by show fz (PyData.bool _) = true; unfold fz; rfl) fun i a H6 x hx e6 hdx R kk => ?_
          · have h1 := List.length_filter_le (fun j : Nat => !decide (V.int (j : Int) = V.int (k : Int)) && minds m st j) (List.range m.length)
            rw [List.length_range] at h1
            exact Nat.le_trans h1 (m_le g (by decide))
          · obtain rfl := dp_int hdx
            have ha : a < m.length := List.mem_range.mp (List.mem_filter.mp (List.mem_of_getElem? hx)).1
            exact kk _ rfl (ed_bl (ev_op (ev_int (ed_ixT (ed_var rfl (dp_same e6 g1)) (ev_var rfl) (by omega) (dI_get (by rw [ft.l2]; exact ha)))) (ev_int (ed_ixT (ed_ixT (ed_var rfl (dp_same e6 h0)) (ev_var rfl) (by omega) (dW_get ha)) ev_c (by decide) rfl)) rv_I0))
        · refine q v H5 (e13.trans (e4.trans e5)) ?_
          unfold mayW
          rw [if_neg (by rw [hb]; exact Bool.false_ne_true)]
          exact hv
end
end Ink
namespace Ink
open PySem PySem.Spec PyProof.Rows L2 Evl
section
variable {P : Program} {w : World} {K : PySem.W.Frag} {mg : Str → Option Value} {base : Heap}
theorem enum_range (ns : List Int) : enumD (ns.map PyData.int) = (List.range ns.length).map fun j : Nat => PyData.tuple [.int (j : Int), .int (ns.getD j 0)] := by
  unfold enumD
  rw [List.length_map]
  refine List.map_congr_left fun j hj => ?_
  have hj := List.mem_range.mp hj
  rw [List.getD_eq_getElem?_getD, List.getElem?_map, getD_get hj]
  rfl
theorem ok_behind {f : Addr} {fd : FuncData} {k : Nat} (F : Fun K "_behind" "_behind" sBehind f fd) (T : Txt mg) (G__NO_RUN : GlobT K mg "_NO_RUN" (.tuple [.int (-1), .int 0])) (C__minds : Cal P w K mg base k "_minds" ["writers", "stand", "at"] (spP K RMinds)) : FnOk P w K mg base CX0 (k + 1) f fd ["writers", "stand", "at", "to"] (spP K RBehind) := by
  refine F.ok sc__behind (fun vs H Q E h => ?_) (fun cdv A outer s H vs Q E hr h => ?_)
  · obtain ⟨ds, d, hd, ⟨m, s, k, to, _, _, _, rfl, _⟩, _⟩ := h
    exact hd.length
  · obtain ⟨ds, d, hd, ⟨m, st, k, to, g, ft, hk, rfl, rfl⟩, q⟩ := h
    obtain ⟨v0, v1, v2, v3, rfl, h0, h1, h2, h3⟩ := dps4 hd
    obtain rfl := dp_int h2
    obtain rfl := dp_int h3
    refine ⟨_, (pss_cons (ps_asg (pv 1) (pg_tup rfl (pgs_cons (pg_name (i := 4) sc__behind.nd rfl (.inl rfl)) (pgs_cons (pg_name (i := 5) sc__behind.nd rfl (.inl rfl)) (pgs_cons (pg_name (i := 6) sc__behind.nd rfl (.inl rfl)) pgs_nil)))))
    (pss_cons (ps_set (i := 7) sc__behind.nd rfl (.inl rfl) (pe_tup (StX.pa_star (pe_slice sl_tupA (pv 4) po_none (po_some (pv 2))) (pa_cons (pv 3) (StX.pa_star (pe_slice sl_tupA (pv 4) (po_some (pe_op op_add (pv 2) pe_int)) po_none) pa_nil)))))
    (pss_cons (ps_setLc (i := 8) (own := [("k", 10), ("wait", 11)]) (g := (gTup K 2 (gCons (gName 10) (gCons (gName 11) gNil)))) (by rfl) sc__behind.nd rfl rfl (sw_true rfl rfl rfl (by decide +kernel)) (pi_enumT (by rfl) T.m_enumerate (pa_cons (pv 5) pa_nil)) (blkOk_by (own := [("k", 10), ("wait", 11)]) (N := ["writers", "stand", "at", "to", "places", "waits", "run", "then", "kept", "many", "k", "wait"]) (sc := defScope sBehind) (by decide +kernel)) (fun _ _ _ _ _ => (pg_tup rfl (pgs_cons (pg_name (i := 10) sc__behind.nd rfl (.inl rfl)) (pgs_cons (pg_name (i := 11) sc__behind.nd rfl (.inl rfl)) pgs_nil)))) (fun _ _ _ _ _ => pts_nil) (fun _ _ _ _ _ => (pe_ifExp (PW.pt (pw_and (pt_cmpR op_ne (pv 10) (pv 2) (nomark _)) (pw_and1 (pt_val (pe_callC C__minds hr (by rfl) (pa_cons (pv 0) (pa_cons (pv 1) (pa_cons (pv 10) pa_nil)))))))) (pe_op op_add (pv 11) pe_int) pe_int)))
    (pss_cons (ps_if (pt_cmpR op_eq (pe_ix ix_tup (pe_ix ix_tup (pv 0) (pv 2) (fun _ _ => rfl)) pe_int (fun _ _ => rfl)) pe_int (nomark _))
    (pss_one (ps_ret (pe_tup (pa_cons (pv 7) (pa_cons (pe_callTy call_tuple_of (by rfl) T.m_tuple (by decide +kernel) (pa_cons (pv 8) pa_nil)) (pa_cons (pe_globT (by rfl) G__NO_RUN) pa_nil)))))) pss_nil)
    (pss_cons (ps_set (i := 9) sc__behind.nd rfl (.inl rfl) (pe_ifExp (pt_cmpR op_eq (pe_ix ix_tup (pv 6) pe_int (fun _ _ => rfl)) (pv 2) (nomark _)) (pe_op op_add (pe_ix ix_tup (pv 6) pe_int (fun _ _ => rfl)) pe_int) pe_int))
    (pss_one (ps_ret (pe_tup (pa_cons (pv 7) (pa_cons (pe_callTy call_tuple_of (by rfl) T.m_tuple (by decide +kernel) (pa_cons (pv 8) pa_nil)) (pa_cons (pe_tup (pa_cons (pv 2) (pa_cons (pv 9) pa_nil))) pa_nil))))))))))), ?_⟩
    refine sd_un3 (ed_var rfl h1) fun w0 w1 w2 H1 e1 g0 g1 g2 => ?_
    have h0 := dp_same e1 h0
    have h1 := dp_same e1 h1
    refine sd_asg (d := dI (st.1.take k ++ to :: st.1.drop (k + 1))) (ed_is (ed_tup (eds_star (ed_slTo (ed_var rfl g0) (ev_var rfl)) (eds_cons (ed_int (ev_var rfl)) (eds_star (ed_slFrom (k := k + 1) (ed_var rfl g0) (ev_op (ev_var rfl) ev_c rv_I0)) eds_nil))) ?_) ?_) fun w3 H2 e2 g3 => ?_
    · have := g.len
      have := ft.l1
      simp only [List.length_append, List.length_cons, List.length_take, List.length_drop, List.length_map, List.length_nil]
      omega
    · unfold dI
      rw [List.append_nil, List.map_append, List.map_take, List.map_cons, List.map_drop]
    have h0 := dp_same e2 h0
    have h1 := dp_same e2 h1
    have g1 := dp_same e2 g1
    have g2 := dp_same e2 g2
    have e12 := e1.trans e2
    let kept : List Int := (List.range st.2.1.length).map fun (j : Nat) => if (!decide (V.int (j : Int) = V.int (k : Int)) && minds m st j) = true then wt st j + 1 else 0
    have hl2 : st.2.1.length ≤ 40000 := by rw [ft.l2]; exact m_le g (by decide)
    dsimp only
    refine sd_asg (K := K) (EvN.list (ds := kept.map PyData.int) ?_) fun w4 H3 e3 g4 => ?_
    · rw [show kept.map PyData.int = (List.range st.2.1.length).map fun (j : Nat) => PyData.int (if (!decide (V.int (j : Int) = V.int (k : Int)) && minds m st j) = true then wt st j + 1 else 0) from List.map_map]
      refine en_map _ (fun j : Nat => PyData.tuple [.int (j : Int), .int (st.2.1.getD j 0)]) _ (enum_range st.2.1 ▸ ei_enumT (ed_var rfl g1)) (by rw [List.length_range]; exact hl2) (fun _ _ => by show fz (PyData.int _) = true; unfold fz; rfl) fun i a H6 x hx e6 hdx R kk => tg2 hdx fun u1 u2 a1 a2 => ?_
      obtain rfl := dp_int a1
      obtain rfl := dp_int a2
      have ha : a < m.length := by
        rw [← ft.l2]
        exact List.mem_range.mp (List.mem_of_getElem? hx)
      refine kk _ rfl (ed_if (b := !decide (V.int (a : Int) = V.int (k : Int)) && minds m st a) (et_and (et_test (ev_op (ev_var rfl) (ev_var rfl) (rv_ne rfl))) fun _ => et_B (ev_bl (ed_call (eds_cons (ed_var rfl (dp_same e6 h0)) (eds_cons (ed_var rfl (dp_same e6 h1)) (eds_cons (ed_var rfl (.int _)) eds_nil))) ⟨m, st, a, g, ft, ha, rfl, rfl⟩))) (fun hb => ?_) fun hb => ?_)
      · rw [if_pos hb]
        exact ed_int (ev_op (ev_var rfl) ev_c rv_I0)
      · rw [if_neg (by rw [hb]; exact Bool.false_ne_true)]
        exact ed_int ev_c
    · dsimp only
      have h0 := dp_same e3 h0
      have g2 := dp_same e3 g2
      have g3 := dp_same e3 g3
      have e13 := e12.trans e3
      refine Evl.q_when (b := decide (V.int (wr m k).2.2.2 = V.int 0)) (et_test (ev_op (ev_int (ed_ixT (ed_ixT (ed_var rfl h0) (ev_var rfl) (by omega) (dW_get hk)) ev_c (by decide) rfl)) ev_c (rv_eq rfl))) (fun hb H4 e4 => ?_) fun hb H4 e4 => ?_
      · refine sd_ret (K := K) (ed_tup (eds_cons (ed_var rfl (dp_same e4 g3)) (eds_cons (ed_tuple (ed_var rfl (dp_same e4 g4))) (eds_cons ed_globT eds_nil))) (by show 3 ≤ 100000; decide)) fun v H5 e5 hv => ?_
        refine q v H5 (e13.trans (e4.trans e5)) ?_
        unfold behind
        rw [if_pos (of_decide_eq_true hb)]
        exact hv
      · have g2 := dp_same e4 g2
        have g3 := dp_same e4 g3
        have g4 := dp_same e4 g4
        refine sd_asg (K := K) (d := .int (if V.int st.2.2.1 = V.int (k : Int) then st.2.2.2 + 1 else 1)) (ed_if (b := decide (V.int st.2.2.1 = V.int (k : Int))) (et_test (ev_op (ev_int (ed_ixT (ed_var rfl g2) ev_c (by decide) rfl)) (ev_var rfl) (rv_eq rfl))) (fun hm => ?_) fun hm => ?_) fun w5 H5 e5 g5 => ?_
        · rw [if_pos (of_decide_eq_true hm)]
          exact ed_int (ev_op (ev_int (ed_ixT (ed_var rfl g2) ev_c (by decide) rfl)) ev_c rv_I0)
        · rw [if_neg (of_decide_eq_false hm)]
          exact ed_int ev_c
        · dsimp only
          refine sd_ret (K := K) (ed_tup (eds_cons (ed_var rfl (dp_same e5 g3)) (eds_cons (ed_tuple (ed_var rfl (dp_same e5 g4))) (eds_cons (ed_tup (eds_cons (ed_int (ev_var rfl)) (eds_cons (ed_var rfl g5) eds_nil)) (by show 2 ≤ 100000; decide)) eds_nil))) (by show 3 ≤ 100000; decide)) fun v H6 e6 hv => ?_
          refine q v H6 (e13.trans (e4.trans (e5.trans e6))) ?_
          unfold behind
          rw [if_neg (of_decide_eq_false hb)]
          exact hv
end
end Ink
namespace Ink
open PySem PySem.Spec PyProof.Rows L2 Evl
section
variable {P : Program} {w : World} {K : PySem.W.Frag} {mg : Str → Option Value} {base : Heap}
theorem alike_mv (a b : Mv) : PySem.W.alike (dMv a) (dMv b) = true := by
  unfold dMv
  simp only [PySem.W.alike, PySem.W.alikeAll, Bool.and_true]
theorem depth_mv (a : Mv) : (dMv a).depth ≤ 64 := by
  unfold dMv
  simp only [PyData.depth, PyData.depthAll]
  decide
theorem sort_mv (l : List Mv) : (l.map dMv).mergeSort (PySem.W.dataLe false id) = (l.mergeSort leMv).map dMv := by
  have z := List.map_mergeSort (r := leMv) (s := PySem.W.dataLe false id) (f := dMv) (l := l) (fun a _ b _ => rfl)
  exact z.symm
theorem enum_w (m : List Wr) {i : Nat} {d : PyData} (h : (enumD (m.map dW))[i]? = some d) : i < m.length ∧ d = .tuple [.int (i : Int), dW (wr m i)] := by
  have hi : i < m.length := by
    have := (List.getElem?_eq_some_iff.mp h).1
    unfold enumD at this
    rw [List.length_map, List.length_range, List.length_map] at this
    exact this
  have e : (m.map dW)[i]? = some (dW (wr m i)) := by
    rw [List.getElem?_map, wr_get hi]
    rfl
  rw [enumD_get e] at h
  exact ⟨hi, (Option.some.inj h).symm⟩
theorem enum_len (ds : List PyData) : (enumD ds).length = ds.length := by
  unfold enumD
  rw [List.length_map, List.length_range]
theorem ok_steps_of {f : Addr} {fd : FuncData} {k : Nat} (F : Fun K "_steps_of" "_steps_of" sStepsOf f fd) (T : Txt mg) (C__may_write : Cal P w K mg base k "_may_write" ["writers", "stand", "at"] (spP K RMay)) (C__behind : Cal P w K mg base k "_behind" ["writers", "stand", "at", "to"] (spP K RBehind)) :
    FnOk P w K mg base CX0 (k + 1) f fd ["writers", "stand"] (spP K RSteps) := by
  refine F.ok sc__steps_of (fun vs H Q E h => ?_) (fun cdv A outer s H vs Q E hr h => ?_)
  · obtain ⟨ds, d, hd, ⟨m, s, _, _, rfl, _⟩, _⟩ := h
    exact hd.length
  · obtain ⟨ds, d, hd, ⟨m, st, g, ft, rfl, rfl⟩, q⟩ := h
    obtain ⟨v0, v1, rfl, h0, h1⟩ := dps2 hd
    refine ⟨_, (pss_cons (ps_set (i := 2) sc__steps_of.nd rfl (.inl rfl) (pe_lst pa_nil))
    (pss_cons (ps_for PassesOwn.never rfl (pi_enumT (by rfl) T.m_enumerate (pa_cons (pv 0) pa_nil)) (pg_tup rfl (pgs_cons (pg_name (i := 3) sc__steps_of.nd rfl (.inr rfl)) (pgs_cons (pg_name (i := 4) sc__steps_of.nd rfl (.inl rfl)) pgs_nil)))
    (pss_one (ps_if (pt_val (pe_callC C__may_write hr (by rfl) (pa_cons (pv 0) (pa_cons (pv 1) (pa_cons (pv 3) pa_nil)))))
    (pss_one (ps_expr (pe_bm PySem.F.plainAttrs_list PySem.F.slot_list_extend PySem.F.type_list_extend mt_extend (pv 2) (pa_cons (pe_lc (own := [("place", 5), ("sign", 6), ("to", 7)]) (g := (gTup K 3 (gCons (gName 5) (gCons (gName 6) (gCons (gName 7) gNil))))) (by rfl) sc__steps_of.nd (pi_tup (pe_ix ix_tup (pv 4) pe_int (fun _ _ => rfl))) (blkOk_by (own := [("place", 5), ("sign", 6), ("to", 7)]) (N := ["writers", "stand", "moves", "at", "writer", "place", "sign", "to"]) (sc := defScope sStepsOf) (by decide +kernel)) (fun _ _ _ _ _ => (pg_tup rfl (pgs_cons (pg_name (i := 5) sc__steps_of.nd rfl (.inl rfl)) (pgs_cons (pg_name (i := 6) sc__steps_of.nd rfl (.inl rfl)) (pgs_cons (pg_name (i := 7) sc__steps_of.nd rfl (.inl rfl)) pgs_nil))))) (fun _ _ _ _ _ => pts_one (pt_cmpR op_eq (pv 5) (pe_ix (show IxR _ (rIxT K) from ix_tup) (pe_ix (show IxR _ (rIxT K) from ix_tup) (pv 1) pe_int (fun _ _ => rfl)) (pv 3) (fun _ _ => rfl)) (nomark _))) (fun _ _ _ _ _ => (pe_tup (pa_cons (pv 6) (pa_cons (pv 3) (pa_cons (pv 7) pa_nil)))))) pa_nil)))) pss_nil)))
    (pss_one (ps_ret (pe_lc (own := [("sign", 6), ("at", 3), ("to", 7)]) (g := (gTup K 3 (gCons (gName 6) (gCons (gName 3) (gCons (gName 7) gNil))))) (by rfl) sc__steps_of.nd (pi_list (pe_callB (cr_sortedD (hu9 hr)) (by rfl) T.m_sorted (by decide +kernel) (pa_cons (pv 2) pa_nil))) (blkOk_by (own := [("sign", 6), ("at", 3), ("to", 7)]) (N := ["writers", "stand", "moves", "at", "writer", "place", "sign", "to"]) (sc := defScope sStepsOf) (by decide +kernel)) (fun _ _ _ _ _ => (pg_tup rfl (pgs_cons (pg_name (i := 6) sc__steps_of.nd rfl (.inl rfl)) (pgs_cons (pg_name (i := 3) sc__steps_of.nd rfl (.inl rfl)) (pgs_cons (pg_name (i := 7) sc__steps_of.nd rfl (.inl rfl)) pgs_nil))))) (fun _ _ _ _ _ => pts_nil) (fun _ _ _ _ _ => (pe_tup (pa_cons (pv 6) (pa_cons (pe_ix (show IxR _ (rIxT K) from ix_tup) (pe_ix (show IxR _ (rIxT K) from ix_tup) (pv 0) (pv 3) (fun _ _ => rfl)) pe_int (fun _ _ => rfl)) (pa_cons (pe_callC C__behind hr (by rfl) (pa_cons (pv 0) (pa_cons (pv 1) (pa_cons (pv 3) (pa_cons (pv 7) pa_nil))))) pa_nil)))))))))), ?_⟩
    refine sd_asgN (K := K) (en_lst eds_nil (by decide)) fun p vs H1 np e1 hp hvs => ?_
    cases hvs
    dsimp only
    have h0 := dp_same e1 h0
    have h1 := dp_same e1 h1
    have ml := moves_len g st
    refine sd_for (K := K) (ej_enumT (ed_var rfl h0) (fz_map fun x _ => fz_dW x)) (fun H2 i σ' H' => (∃ y3 y4, σ' = [some v0, some v1, some (.ref p), y3, y4, none, none, none]) ∧ TupK K H2 H' ∧ Ex H H' ∧ ∃ vs, H' p = some (.lst vs) ∧ DpAll K H' vs (((List.range i).flatMap (movesAt m st)).map dMv)) (fun H2 e2 => ⟨⟨none, none, rfl⟩, .refl _, e1.trans e2, [], e2 _ _ hp, .nil⟩) (fun H2 i σ' H' hP => hP.2.1) (fun H2 i d x σ' Ha Hb e2 hd hP eab hx => ?_) (fun H2 σ' H' e2 hP => ?_)
    · obtain ⟨⟨y3, y4, rfl⟩, tk, eH, vs, hpa, hvs⟩ := hP
      obtain ⟨hi, rfl⟩ := enum_w m hd
      refine tg2 hx fun u1 u2 a1 a2 => ?_
      obtain rfl := dp_int a1
      have tk1 : TupK K H1 Hb := ((TupK.of e2).trans tk).trans (.of eab)
      have h0 := dp_tk tk1 (fz_dMt m) h0
      have h1 := dp_tk tk1 (fz_dS st) h1
      have hpb := eab _ _ hpa
      have hvs := dps_same eab hvs
      have ef : (List.range (i + 1)).flatMap (movesAt m st) = (List.range i).flatMap (movesAt m st) ++ movesAt m st i := by
        rw [List.range_succ, List.flatMap_append, List.flatMap_cons, List.flatMap_nil, List.append_nil]
      have lb : ((List.range i).flatMap (movesAt m st)).length ≤ 27 := by
        refine Nat.le_trans ?_ ml
        unfold moves
        have : (List.range m.length) = List.range i ++ (List.range (m.length - i)).map (i + ·) := by
          rw [← List.range_add]
          congr 1
          omega
        rw [this, List.flatMap_append, List.length_append]
        omega
      refine s_if (b := mayW m st i) (et_B (ev_bl (ed_call (eds_cons (ed_var rfl h0) (eds_cons (ed_var rfl h1) (eds_cons (ed_var rfl (.int _)) eds_nil))) ⟨m, st, i, g, ft, hi, rfl, rfl⟩))) (fun hb H3 e3 => ?_) fun hb H3 e3 => ?_
      · have h1 := dp_same e3 h1
        have a2 := dp_same e3 a2
        have hl : vs.length ≤ 27 := by
          rw [hvs.length, List.length_map]
          exact lb
        have h9 := (g.at hi).len
        have emv : movesAt m st i = ((wr m i).2.1.filter fun x => decide (V.int x.1 = V.int (pl st i))).map fun x => (x.2.1, i, x.2.2) := by
          unfold movesAt
          rw [if_pos hb]
        refine sd_ext (K := K) (p := p) rfl (e3 _ _ hpb) (ds := (movesAt m st i).map dMv) ?_ (by rw [List.length_map, emv, List.length_map]; have := List.length_filter_le (fun x : Arw => decide (V.int x.1 = V.int (pl st i))) (wr m i).2.1; omega) fun ws H4 e4 hws => ?_
        · rw [emv, List.map_map]
          refine en_lc (wr m i).2.1 dA (fun x => decide (V.int x.1 = V.int (pl st i))) _ (ei_tup (ed_ixT (ed_var rfl a2) ev_c (by decide) rfl)) (by omega) (fun x _ => fz_dMv (x.2.1, i, x.2.2)) fun j a H5 x hx e5 hdx R kk => tg3 hdx fun u1 u2 u3 b1 b2 b3 => ?_
          obtain rfl := dp_int b1
          exact kk _ rfl (et_test (ev_op (ev_var rfl) (ev_int (ed_ixT (ed_ixT (ed_var rfl (dp_same e5 h1)) ev_c (by decide) rfl) (ev_var rfl) (by omega) (dI_get (by rw [ft.l1]; exact hi)))) (rv_eq rfl))) fun _ => ed_tup (eds_cons (ed_var rfl b2) (eds_cons (ed_int (ev_var rfl)) (eds_cons (ed_var rfl b3) eds_nil))) (by show 3 ≤ 100000; decide)
        · have hp4 := e4 _ _ (e3 _ _ hpb)
          have t4 : TupK K H4 (upd H4 p (.lst (vs ++ ws))) := .lst hp4
          refine ⟨⟨_, _, rfl⟩, ((tk.trans (.of eab)).trans (.of (e3.trans e4))).trans t4, Ex.mut (((eH.trans eab).trans e3).trans e4) np, vs ++ ws, upd_same, ?_⟩
          rw [ef, List.map_append]
          exact (dps_tk t4 (fz_map fun x _ => fz_dMv x) (dps_same (e3.trans e4) hvs)).app (dps_tk t4 (fz_map fun x _ => fz_dMv x) hws)
      · refine ⟨⟨_, _, rfl⟩, (tk.trans (.of eab)).trans (.of e3), (eH.trans eab).trans e3, vs, e3 _ _ hpb, ?_⟩
        have emv : movesAt m st i = [] := by
          unfold movesAt
          rw [if_neg (by rw [hb]; exact Bool.false_ne_true)]
        rw [ef, emv, List.append_nil]
        exact dps_same e3 hvs
    · obtain ⟨⟨y3, y4, rfl⟩, tk, eH, vs, hpa, hvs⟩ := hP
      rw [enum_len, List.length_map] at hvs
      have hvs : DpAll K H' vs ((moves m st).map dMv) := hvs
      have tk1 : TupK K H1 H' := (TupK.of e2).trans tk
      have h0 := dp_tk tk1 (fz_dMt m) h0
      have h1 := dp_tk tk1 (fz_dS st) h1
      dsimp only
      refine sd_ret (K := K) (EvN.list (ds := (stepsOf m st).map dStep) ?_) fun v H3 e3 hv => q v H3 (eH.trans e3) hv
      unfold stepsOf
      rw [List.map_map]
      refine en_map ((moves m st).mergeSort leMv) dMv _ ?_ (by rw [List.length_mergeSort]; omega) (fun x _ => fz_dStep (x.1, (wr m x.2.1).1, behind m st x.2.1 x.2.2)) fun j a H5 x hx e5 hdx R kk => tg3 hdx fun u1 u2 u3 b1 b2 b3 => ?_
      · rw [← sort_mv]
        exact ei_lst (EvN.list (en_sorted (ed_var rfl (.lst (.of hpa) hvs)) (PySem.W.AllAlike.of alike_mv) (PySem.W.Sortable.tuples fun b => ⟨_, _, rfl⟩) (fun d hd => by
          obtain ⟨a, _, rfl⟩ := List.mem_map.mp hd
          exact depth_mv a)))
      · obtain rfl := dp_int b2
        have ha : a.2.1 < m.length := by
          have hm := List.mem_of_getElem? hx
          rw [List.mem_mergeSort] at hm
          unfold moves at hm
          obtain ⟨j, hj, hmj⟩ := List.mem_flatMap.mp hm
          unfold movesAt at hmj
          split at hmj
          · obtain ⟨y, _, rfl⟩ := List.mem_map.mp hmj
            exact List.mem_range.mp hj
          · cases hmj
        exact kk _ rfl (ed_tup (eds_cons (ed_var rfl b1) (eds_cons (ed_ixT (ed_ixT (ed_var rfl (dp_same e5 h0)) (ev_var rfl) (by omega) (dW_get ha)) ev_c (by decide) rfl) (eds_cons (ed_call (eds_cons (ed_var rfl (dp_same e5 h0)) (eds_cons (ed_var rfl (dp_same e5 h1)) (eds_cons (ed_var rfl (.int _)) (eds_cons (ed_var rfl b3) eds_nil)))) ⟨m, st, a.2.1, a.2.2, g, ft, ha, rfl, rfl⟩) eds_nil))) (by show 3 ≤ 100000; decide))
end
end Ink
namespace Ink
open PySem PySem.Spec PyProof.Rows L2
/-! ### a drawn writer is one -/
theorem good_okA {x : Arw} (h : goodA x) : okA x = true := by
  obtain ⟨h1, h2, ⟨c, hc, e⟩, h3, h4⟩ := h
  unfold okA within
  rw [e, show isSign (single c) = decide (c ∈ lets) from sign_one c, decide_eq_true hc, decide_eq_true h1, decide_eq_true h2, decide_eq_true h3, decide_eq_true h4]
  rfl
theorem less_lt {x y : Arw} (hx : goodA x) (hy : goodA y) (h : lessA x y) : ltIS x.1 x.2.1 y.1 y.2.1 = true := by
  unfold ltIS
  rcases h with h | ⟨e, h⟩
  · rw [if_neg (by omega)]
    exact decide_eq_true h
  · rw [if_pos e]
    by_cases e2 : x.2.1 = y.2.1
    · rw [e2] at h
      exact absurd h (List.lt_irrefl _)
    · rw [if_neg e2]
      exact decide_eq_true h
theorem good_rise {ar : List Arw} (hg : ∀ x ∈ ar, goodA x) (hr : ar.Pairwise lessA) : riseB ar = true := by
  unfold riseB
  rw [List.all_map]
  refine List.all_eq_true.mpr fun k hk => ?_
  have hk := List.mem_range.mp hk
  show ltAt ar k = true
  have h1 : k < ar.length := by omega
  have h2 : k + 1 < ar.length := by omega
  unfold ltAt
  rw [List.getElem?_eq_getElem h1, List.getElem?_eq_getElem h2]
  exact less_lt (hg _ (List.getElem_mem h1)) (hg _ (List.getElem_mem h2)) ((List.pairwise_iff_getElem.mp hr) k (k + 1) h1 h2 (by omega))
theorem GoodW.is {z : Str} {ar : List Arw} {p c : Int} (g : GoodW z ar p c) : isWr z ar p c = true := by
  unfold isWr areArr within
  have hl := g.len
  rw [name_eq, g.name.is, if_neg (by omega), if_neg (by
    rw [show (ar.map okA).all id = true from by
      rw [List.all_map]
      exact List.all_eq_true.mpr fun x hx => good_okA (g.each x hx)]
    exact fun e => nomatch e), good_rise g.each g.rise, decide_eq_true g.p0, decide_eq_true g.p3, decide_eq_true g.c0, decide_eq_true g.c3]
  rfl
theorem GoodW.short {z : Str} {ar : List Arw} {p c : Int} (g : GoodW z ar p c) : ShortA ar := ⟨by have := g.len; omega, fun x hx => by
  obtain ⟨_, _, ⟨c, _, e⟩, _⟩ := g.each x hx
  rw [e]
  show 1 ≤ 1000
  decide⟩
end Ink
namespace Ink
open PySem PySem.Spec PyProof.Rows L2 Evl
/-! ### writers looked at, as data -/
def dH (x : Arw) : PyData := .tuple [.int x.1, .str x.2.1]
def RAre : List PyData → PyData → Prop := fun ds d => ∃ ar, ShortA ar ∧ ds = [.tuple (ar.map dA)] ∧ d = .bool (areArr ar)
def RIsW : List PyData → PyData → Prop := fun ds d => ∃ w : Wr, ShortA w.2.1 ∧ w.1.length ≤ 1000 ∧ ds = [dW w] ∧ d = .bool (isWr w.1 w.2.1 w.2.2.1 w.2.2.2)
theorem fz_dH (x : Arw) : fz (dH x) = true := by
  unfold dH fz fzAll fzAll fzAll fz
  rfl
def ltP (p : Arw × Arw) : Bool := ltIS p.1.1 p.1.2.1 p.2.1 p.2.2.1
theorem rise_zip (ar : List Arw) : riseB ar = ((ar.zip (ar.drop 1)).map ltP).all id := by
  unfold riseB
  congr 1
  refine List.ext_getElem? fun i => ?_
  rw [List.getElem?_map, List.getElem?_map]
  by_cases h : i < ar.length - 1
  · have h1 : i < ar.length := by omega
    have h2 : i + 1 < ar.length := by omega
    have z : (ar.zip (ar.drop 1))[i]? = some (ar[i], ar[i + 1]) := by
      rw [List.getElem?_zip_eq_some]
      refine ⟨List.getElem?_eq_getElem h1, ?_⟩
      rw [List.getElem?_drop, Nat.add_comm]
      exact List.getElem?_eq_getElem h2
    rw [z, List.getElem?_range h]
    show some (ltAt ar i) = some _
    unfold ltAt
    rw [List.getElem?_eq_getElem h1, List.getElem?_eq_getElem h2]
    rfl
  · rw [List.getElem?_eq_none (by rw [List.length_range]; omega), List.getElem?_eq_none (by rw [List.length_zip, List.length_drop]; omega)]
    rfl
theorem zip_heads (ar : List Arw) : (((ar.map dH).zip ((ar.map dH).drop 1)).map fun p => PyData.tuple [p.1, p.2]) = (ar.zip (ar.drop 1)).map fun p => .tuple [dH p.1, dH p.2] := by
  rw [← List.map_drop, List.zip_map, List.map_map]
  rfl
section
variable {K : PySem.W.Frag} {σ : L2.St} {H : Hp} {ta tb te : TE} {ds : List PyData}
theorem ev_ltISD {i j : Int} {x y : Str} (ha : EvD K ta σ H (.tuple [.int i, .str x])) (hb : EvD K tb σ H (.tuple [.int j, .str y])) : Ev (tOp (rLtIS K) ta tb) σ H (.bl (ltIS i x j y)) := fun H1 e Q q =>
  ha H1 e _ fun v H2 e2 hv => hb H2 (e.trans e2) _ fun u H3 e3 hu => by
    obtain ⟨p, xs, rfl, hs, hxs⟩ := dp_tup (dp_same e3 hv)
    obtain ⟨p', ys, rfl, hs', hys⟩ := dp_tup hu
    obtain ⟨v1, v2, rfl, h1, h2⟩ := dps2 hxs
    obtain ⟨u1, u2, rfl, g1, g2⟩ := dps2 hys
    rw [dp_int h1, dp_str h2] at hs
    rw [dp_int g1, dp_str g2] at hs'
    exact ⟨p, p', i, x, j, y, rfl, rfl, hs, hs', q H3 (e2.trans e3)⟩
theorem en_slFromL {k : Nat} (h : EvD K te σ H (.list ds)) (hk : Ev tb σ H (.int (k : Int))) : EvN K (tSl (rSlL K) te (tPart tb) tNoPart) σ H (ds.drop k) := fun H1 e Q q =>
  h H1 e _ fun v H2 e2 hv => hk H2 (e.trans e2) _ fun H3 e3 => ⟨(k : Int), rfl, by
    obtain ⟨p, xs, rfl, hs, hxs⟩ := dp_lst (dp_same e3 hv)
    refine ⟨p, xs, rfl, hs, fun p2 np => ?_⟩
    rw [vcut_from]
    exact q _ _ _ (fresh_back (e2.trans e3) np) ((e2.trans e3).trans (Ex.new np)) upd_same (dps_same (Ex.new np) (hxs.drop k))⟩
theorem en_slToL {k : Nat} (h : EvD K te σ H (.list ds)) (hk : Ev tb σ H (.int (k : Int))) : EvN K (tSl (rSlL K) te tNoPart (tPart tb)) σ H (ds.take k) := fun H1 e Q q =>
  h H1 e _ fun v H2 e2 hv => hk H2 (e.trans e2) _ fun H3 e3 => ⟨(k : Int), rfl, by
    obtain ⟨p, xs, rfl, hs, hxs⟩ := dp_lst (dp_same e3 hv)
    refine ⟨p, xs, rfl, hs, fun p2 np => ?_⟩
    rw [vcut_to]
    exact q _ _ _ (fresh_back (e2.trans e3) np) ((e2.trans e3).trans (Ex.new np)) upd_same (dps_same (Ex.new np) (hxs.take k))⟩
end
section
variable {P : Program} {w : World} {K : PySem.W.Frag} {mg : Str → Option Value} {base : Heap}
theorem ok_areD {f : Addr} {fd : FuncData} {k : Nat} (F : Fun K "_are_arrows" "_are_arrows" sAreArrows f fd) (T : Txt mg)
    (C__is_place : Cal P w K mg base k "_is_place" ["number"] spPlace) (C_is_sign : Cal P w K mg base k "is_sign" ["text"] spSign) : FnOk P w K mg base CX0 (k + 1) f fd ["arrows"] (spP K RAre) := by
  refine F.ok sc__are_arrows (fun vs H Q E h => ?_) (fun cdv A outer s H vs Q E hr h => ?_)
  · obtain ⟨ds, d, hd, ⟨ar, _, rfl, _⟩, _⟩ := h
    exact hd.length
  · obtain ⟨ds, d, hd, ⟨ar, hsh, rfl, rfl⟩, q⟩ := h
    obtain ⟨v0, rfl, h0⟩ := dps1 hd
    have hz : ar.length ≤ 40000 := by have := hsh.1; omega
    refine ⟨_, (pss_cons (ps_if (pt_cmpR op_gt (pe_callB call_len (by rfl) T.m_len PySem.boot_len (pa_cons (pv 0) pa_nil)) (pe_globI (by rfl) T.e_MOST_ARROWS) (nomark _))
    (pss_one (ps_ret pe_bl)) pss_nil)
    (pss_cons (ps_if (pt_not (pt_val (pe_callB (cr_all rfl) (by rfl) T.m_all (by decide +kernel) (pa_cons (pe_lc (own := [("place", 2), ("sign", 3), ("to", 4)]) (g := (gTup K 3 (gCons (gName 2) (gCons (gName 3) (gCons (gName 4) gNil))))) (by rfl) sc__are_arrows.nd (pi_tup (pv 0)) (blkOk_by (own := [("place", 2), ("sign", 3), ("to", 4)]) (N := ["arrows", "heads", "place", "sign", "to", "_", "head", "following"]) (sc := defScope sAreArrows) (by decide +kernel)) (fun _ _ _ _ _ => (pg_tup rfl (pgs_cons (pg_name (i := 2) sc__are_arrows.nd rfl (.inl rfl)) (pgs_cons (pg_name (i := 3) sc__are_arrows.nd rfl (.inl rfl)) (pgs_cons (pg_name (i := 4) sc__are_arrows.nd rfl (.inl rfl)) pgs_nil))))) (fun _ _ _ _ _ => pts_nil) (fun _ _ _ _ _ => (pe_and (pe_callC C__is_place hr (by rfl) (pa_cons (pv 2) pa_nil)) (pe_and (pe_callC C_is_sign hr (by rfl) (pa_cons (pv 3) pa_nil)) (pe_one (pe_callC C__is_place hr (by rfl) (pa_cons (pv 4) pa_nil))))))) pa_nil))))
    (pss_one (ps_ret pe_bl)) pss_nil)
    (pss_cons (ps_setLc (i := 1) (own := [("place", 2), ("sign", 3), ("_", 5)]) (g := (gTup K 3 (gCons (gName 2) (gCons (gName 3) (gCons (gName 5) gNil))))) (by rfl) sc__are_arrows.nd rfl rfl (sw_true rfl rfl rfl (by decide +kernel)) (pi_tup (pv 0)) (blkOk_by (own := [("place", 2), ("sign", 3), ("_", 5)]) (N := ["arrows", "heads", "place", "sign", "to", "_", "head", "following"]) (sc := defScope sAreArrows) (by decide +kernel)) (fun _ _ _ _ _ => (pg_tup rfl (pgs_cons (pg_name (i := 2) sc__are_arrows.nd rfl (.inl rfl)) (pgs_cons (pg_name (i := 3) sc__are_arrows.nd rfl (.inl rfl)) (pgs_cons (pg_name (i := 5) sc__are_arrows.nd rfl (.inl rfl)) pgs_nil))))) (fun _ _ _ _ _ => pts_nil) (fun _ _ _ _ _ => (pe_tup (pa_cons (pv 2) (pa_cons (pv 3) pa_nil)))))
    (pss_one (ps_ret (pe_callB (cr_all rfl) (by rfl) T.m_all (by decide +kernel) (pa_cons (pe_lc (own := [("head", 6), ("following", 7)]) (g := (gTup K 2 (gCons (gName 6) (gCons (gName 7) gNil)))) (by rfl) sc__are_arrows.nd (pi_zip (by rfl) T.m_zip (pa_cons (pv 1) (pa_cons (pe_slice sl_list (pv 1) (po_some pe_int) po_none) pa_nil))) (blkOk_by (own := [("head", 6), ("following", 7)]) (N := ["arrows", "heads", "place", "sign", "to", "_", "head", "following"]) (sc := defScope sAreArrows) (by decide +kernel)) (fun _ _ _ _ _ => (pg_tup rfl (pgs_cons (pg_name (i := 6) sc__are_arrows.nd rfl (.inl rfl)) (pgs_cons (pg_name (i := 7) sc__are_arrows.nd rfl (.inl rfl)) pgs_nil)))) (fun _ _ _ _ _ => pts_nil) (fun _ _ _ _ _ => (pe_cmpR (show OpR _ _ (rLtIS K) from op_ltIS hr.units0) (pv 6) (pv 7) (nomark _)))) pa_nil))))))), ?_⟩
    refine Evl.q_when (b := decide (((ar.length : Nat) : Int) > 9)) (et_test (ev_op (ev_is (ev_lenD (ed_var rfl h0) (.inr rfl)) (by rw [List.length_map])) ev_c rv_I0)) (fun hb H1 e1 => ?_) fun hb H1 e1 => ?_
    · refine q (.bl false) H1 e1 ?_
      unfold areArr
      rw [if_pos (of_decide_eq_true hb)]
      exact .bl false
    · have h0 := dp_same e1 h0
      have hb : ¬ (9 : Int) < (ar.length : Nat) := of_decide_eq_false hb
      refine Evl.q_when (b := !(ar.map okA).all id) (et_not (et_B (ev_allD (bs := ar.map okA) (EvN.list ?_)))) (fun hb2 H2 e2 => ?_) fun hb2 H2 e2 => ?_
      · rw [List.map_map]
        refine en_map ar dA _ (ei_tup (ed_var rfl h0)) hz (fun x _ => by show fz (PyData.bool _) = true; unfold fz; rfl) fun i x H5 y hx e5 hdx R kk => tg3 hdx fun u1 u2 u3 a1 a2 a3 => ?_
        obtain rfl := dp_int a1
        obtain rfl := dp_str a2
        obtain rfl := dp_int a3
        exact kk _ rfl (ed_bl (ev_andV (ev_call (ea_cons (ev_var rfl) ea_nil) fun H2 Q2 _ q2 => ⟨_, rfl, q2⟩) fun _ => ev_andV (ev_call (ea_cons (ev_var rfl) ea_nil) fun H2 Q2 _ q2 => ⟨_, rfl, hsh.2 x (List.mem_of_getElem? hx), q2⟩) fun _ => ev_call (ea_cons (ev_var rfl) ea_nil) fun H2 Q2 _ q2 => ⟨_, rfl, q2⟩))
      · have hb3 : (ar.map okA).all id = false := Bool.not_eq_true' _ ▸ hb2
        refine q (.bl false) H2 (e1.trans e2) ?_
        unfold areArr
        rw [if_neg hb, if_pos hb3]
        exact .bl false
      · have hb3 : ¬ (ar.map okA).all id = false := fun z => by
          rw [z] at hb2
          cases hb2
        have h0 := dp_same e2 h0
        refine sd_asg (K := K) (EvN.list (ds := ar.map dH) (en_map ar dA dH (ei_tup (ed_var rfl h0)) hz (fun x _ => fz_dH x) fun i x H5 y hx e5 hdx R kk => tg3 hdx fun u1 u2 u3 a1 a2 a3 => ?_)) fun w1 H3 e3 g1 => ?_
        · exact kk _ rfl (ed_tup (eds_cons (ed_var rfl a1) (eds_cons (ed_var rfl a2) eds_nil)) (by show 2 ≤ 100000; decide))
        · dsimp only
          refine sd_ret (K := K) (ed_bl (ev_allD (bs := (ar.zip (ar.drop 1)).map ltP) (EvN.list ?_))) fun v H4 e4 hv => ?_
          · rw [List.map_map]
            refine en_map (ar.zip (ar.drop 1)) (fun p => .tuple [dH p.1, dH p.2]) _ ?_ (by rw [List.length_zip]; omega) (fun x _ => by show fz (PyData.bool _) = true; unfold fz; rfl) fun i x H5 y hx e5 hdx R kk => tg2 hdx fun u1 u2 a1 a2 => ?_
            · rw [← zip_heads]
              exact ei_zip (tx := tNil) (ed_var rfl g1) (en_slFromL (k := 1) (ed_var rfl g1) ev_c).list (.inr trivial)
            · exact kk _ rfl (ed_bl (ev_ltISD (ed_var rfl a1) (ed_var rfl a2)))
          · refine q v H4 (((e1.trans e2).trans e3).trans e4) ?_
            unfold areArr
            rw [if_neg hb, if_neg hb3, rise_zip]
            exact hv
theorem ok_is_writerD {f : Addr} {fd : FuncData} {k : Nat} (F : Fun K "is_writer" "is_writer" sIsWriter f fd) (T : Txt mg) (C_is_name : Cal P w K mg base k "is_name" ["text"] spName)
    (C__are_arrows : Cal P w K mg base k "_are_arrows" ["arrows"] (spP K RAre)) (C__is_count : Cal P w K mg base k "_is_count" ["number"] spCount) : FnOk P w K mg base CX0 (k + 1) f fd ["thing"] (spP K RIsW) := by
  refine F.ok sc_is_writer (fun vs H Q E h => ?_) (fun cdv A outer s H vs Q E hr h => ?_)
  · obtain ⟨ds, d, hd, ⟨w, _, _, rfl, _⟩, _⟩ := h
    exact hd.length
  · obtain ⟨ds, d, hd, ⟨w, hsh, hz, rfl, rfl⟩, q⟩ := h
    obtain ⟨v0, rfl, h0⟩ := dps1 hd
    refine ⟨_, (pss_cons (ps_if (pt_cmpR op_ne (pe_callB call_len (by rfl) T.m_len PySem.boot_len (pa_cons (pv 0) pa_nil)) pe_int (nomark _))
    (pss_one (ps_ret pe_bl)) pss_nil)
    (pss_cons (ps_asg (pv 0) (pg_tup rfl (pgs_cons (pg_name (i := 1) sc_is_writer.nd rfl (.inl rfl)) (pgs_cons (pg_name (i := 2) sc_is_writer.nd rfl (.inl rfl)) (pgs_cons (pg_name (i := 3) sc_is_writer.nd rfl (.inl rfl)) (pgs_cons (pg_name (i := 4) sc_is_writer.nd rfl (.inl rfl)) pgs_nil))))))
    (pss_one (ps_ret (pe_and (pe_callC C_is_name hr (by rfl) (pa_cons (pv 1) pa_nil)) (pe_and (pe_callC C__are_arrows hr (by rfl) (pa_cons (pv 2) pa_nil)) (pe_and (pe_callC C__is_count hr (by rfl) (pa_cons (pv 3) pa_nil)) (pe_one (pe_callC C__is_count hr (by rfl) (pa_cons (pv 4) pa_nil)))))))))), ?_⟩
    refine Evl.q_when (b := !decide (V.int (([PyData.str w.1, .tuple (w.2.1.map dA), .int w.2.2.1, .int w.2.2.2].length : Nat) : Int) = V.int 4)) (et_test (ev_op (ev_lenD (ed_var rfl h0) (.inr rfl)) ev_c (rv_ne rfl))) (fun hb H1 e1 => ?_) fun hb H1 e1 => ?_
    · cases hb
    · have h0 := dp_same e1 h0
      refine sd_un4 (ed_var rfl h0) fun w0 w1 w2 w3 H2 e2 g0 g1 g2 g3 => ?_
      obtain rfl := dp_str g0
      obtain rfl := dp_int g2
      obtain rfl := dp_int g3
      dsimp only
      refine sd_ret (K := K) (ed_bl (ev_andV (ev_call (ea_cons (ev_var rfl) ea_nil) fun H2 Q2 _ q2 => ⟨_, rfl, hz, q2⟩) fun _ => ev_andV (ev_bl (ed_call (eds_cons (ed_var rfl g1) eds_nil) ⟨w.2.1, hsh, rfl, rfl⟩)) fun _ => ev_andV (ev_call (ea_cons (ev_var rfl) ea_nil) fun H2 Q2 _ q2 => ⟨_, rfl, q2⟩) fun _ => ev_call (ea_cons (ev_var rfl) ea_nil) fun H2 Q2 _ q2 => ⟨_, rfl, q2⟩)) fun v H3 e3 hv => q v H3 ((e1.trans e2).trans e3) hv
end
end Ink
namespace Ink
open PySem PySem.Spec PyProof.Rows L2 Evl
/-! ### companies as objects -/
/-- all but lists stay -/
def Fr (H H' : Hp) : Prop := ∀ b o, H b = some o → (∀ xs, o ≠ .lst xs) → H' b = some o
theorem Fr.refl (H : Hp) : Fr H H := fun _ _ e _ => e
theorem Fr.trans {H H1 H2 : Hp} (a : Fr H H1) (b : Fr H1 H2) : Fr H H2 := fun c o e n => b c o (a c o e n) n
theorem Fr.of {H H' : Hp} (e : Same H H') : Fr H H' := fun b o h _ => e b o h
theorem Fr.keep {a l : Addr} {H H' : Hp} (b : BagAt H a l) (k : Keep a H H') : Fr H H' := fun c o e n => k c o (fun z => by
  obtain ⟨ns, p, h, s, h1, _⟩ := b
  rw [z, h1] at e
  exact n _ (Option.some.inj e).symm) e
theorem Fr.lst {H : Hp} {p : Addr} {xs : List V} {o : HO} (h : H p = some (.lst xs)) : Fr H (upd H p o) := fun c o' e n => by
  rw [upd_ne (fun z => by rw [z, h] at e; exact n _ (Option.some.inj e).symm)]
  exact e
theorem Fr.tk {K : PySem.W.Frag} {H H' : Hp} (f : Fr H H') : TupK K H H' := fun b xs h => by
  rcases h with (h | ⟨o, h⟩) | h
  · exact .inl (.inl (f _ _ h fun _ z => by cases z))
  · exact .inl (.inr ⟨o, f _ _ h fun _ z => by cases z⟩)
  · exact .inr h
/-- all but what is kept of dicts stays -/
def KX (H H' : Hp) : Prop := ∀ b o, H b = some o → (∀ f, o ≠ .ext f) → H' b = some o
theorem KX.refl (H : Hp) : KX H H := fun _ _ e _ => e
theorem KX.trans {H H1 H2 : Hp} (a : KX H H1) (b : KX H1 H2) : KX H H2 := fun c o e n => b c o (a c o e n) n
theorem KX.of {H H' : Hp} (e : Same H H') : KX H H' := fun b o h _ => e b o h
theorem KX.l {K : PySem.W.Frag} {H H' : Hp} (f : KX H H') : ∀ b xs, SqL K H b xs → SqL K H' b xs := fun b xs h => by
  rcases h with (h | ⟨o, h⟩) | h
  · exact .inl (.inl (f _ _ h fun _ z => by cases z))
  · exact .inl (.inr ⟨o, f _ _ h fun _ z => by cases z⟩)
  · exact .inr h
theorem KX.t {K : PySem.W.Frag} {H H' : Hp} (f : KX H H') : ∀ b xs, SqT K H b xs → SqT K H' b xs := fun b xs h => by
  rcases h with (h | ⟨o, h⟩) | h
  · exact .inl (.inl (f _ _ h fun _ z => by cases z))
  · exact .inl (.inr ⟨o, f _ _ h fun _ z => by cases z⟩)
  · exact .inr h
theorem KX.dp {K : PySem.W.Frag} {H H' : Hp} {v : V} {d : PyData} (f : KX H H') (h : Dp K H v d) : Dp K H' v d := dp_up f.l f.t d v h
theorem KX.dps {K : PySem.W.Frag} {H H' : Hp} {vs : List V} {ds : List PyData} (f : KX H H') (h : DpAll K H vs ds) : DpAll K H' vs ds := dps_up f.l f.t ds vs h
theorem KX.lst {H H' : Hp} {p : Addr} {xs : List V} (f : KX H H') (h : H p = some (.lst xs)) : H' p = some (.lst xs) := f _ _ h fun _ z => by cases z
theorem KX.bag {H H' : Hp} {a l : Addr} (f : KX H H') (b : BagAt H a l) : BagAt H' a l := by
  obtain ⟨ns, p, h, s, h1, h2, r⟩ := b
  exact ⟨ns, p, h, s, f.lst h1, f.lst h2, r⟩
structure CoC (K : PySem.W.Frag) (C : Addr) : Prop where
  cl : Cls K C
  nW : NoAttr K C "_writers"
  nF : NoAttr K C "_found"
theorem kwf : ¬ (("_writers" : Str) = "_found") := by decide +kernel
def coF (tw d : Addr) : List (Str × V) := putF "_found" (.ref d) (putF "_writers" (.ref tw) [])
theorem coF_eq (tw d : Addr) : coF tw d = ([("_writers", V.ref tw), ("_found", V.ref d)] : List (Str × V)) := by
  show (if ("_writers" : Str) = "_found" then [(("_writers" : Str), V.ref d)] else (("_writers" : Str), V.ref tw) :: putF "_found" (V.ref d) []) = _
  rw [if_neg kwf]
  rfl
theorem coF_w (tw d : Addr) : (coF tw d).lookup ("_writers" : Str) = some (.ref tw) := by
  unfold coF
  rw [lookup_putF, if_neg kwf, lookup_putF, if_pos rfl]
theorem coF_f (tw d : Addr) : (coF tw d).lookup ("_found" : Str) = some (.ref d) := by
  unfold coF
  rw [lookup_putF, if_pos rfl]
theorem coF_no (tw d : Addr) {m : Str} (h1 : ¬ m = "_found") (h2 : ¬ m = "_writers") : (coF tw d).lookup m = none := by
  unfold coF
  rw [lookup_putF, if_neg h1, lookup_putF, if_neg h2]
  rfl
/-- a stand as a key -/
def kS (s : Std) : NK := .tup [.tup (s.1.map .num), .tup (s.2.1.map .num), .tup [.num s.2.2.1, .num s.2.2.2]]
theorem datas_num : ∀ ns : List Int, NestedKey.datas (ns.map .num) = ns.map PyData.int
  | [] => by
    simp only [List.map_nil]
    unfold NestedKey.datas
    rfl
  | n :: ns => by
    simp only [List.map_cons]
    unfold NestedKey.datas NestedKey.data
    rw [datas_num ns]
theorem depth_num : ∀ ns : List Int, NestedKey.depthAll (ns.map .num) ≤ 1
  | [] => by
    simp only [List.map_nil, NestedKey.depthAll]
    decide
  | n :: ns => by
    have := depth_num ns
    simp only [List.map_cons, NestedKey.depthAll, NestedKey.depth]
    omega
theorem kS_data (s : Std) : (kS s).data = dS s := by
  unfold kS dS dI
  simp only [NestedKey.data, NestedKey.datas, datas_num]
theorem kS_depth (s : Std) : (kS s).depth ≤ 8 := by
  have h1 := depth_num s.1
  have h2 := depth_num s.2.1
  unfold kS
  simp only [NestedKey.depth, NestedKey.depthAll]
  omega
theorem num_inj : ∀ {a b : List Int}, a.map NestedKey.num = b.map NestedKey.num → a = b
  | [], [], _ => rfl
  | [], _ :: _, h => by cases h
  | _ :: _, [], h => by cases h
  | x :: a, y :: b, h => by
    rw [List.map_cons, List.map_cons] at h
    injection h with h1 h2
    injection h1 with h1
    rw [h1, num_inj h2]
theorem kS_inj {s s' : Std} (h : kS s = kS s') : s = s' := by
  obtain ⟨p, q, r, t⟩ := s
  obtain ⟨p', q', r', t'⟩ := s'
  unfold kS at h
  injection h with h
  injection h with h1 h
  injection h with h2 h
  injection h with h3 _
  injection h1 with h1
  injection h2 with h2
  injection h3 with h3
  injection h3 with h3 h4
  injection h4 with h4 _
  injection h3 with h3
  injection h4 with h4
  have h1 := num_inj h1
  have h2 := num_inj h2
  subst h1 h2 h3 h4
  rfl
theorem key_at {K : PySem.W.Frag} {H : Hp} {v : V} {s : Std} (h : Dp K H v (dS s)) : KeyAt K H v (kS s) := ⟨by rw [kS_data]; exact h, kS_depth s, _, rfl⟩
/-- what it keeps are steps of stands -/
def Cached (K : PySem.W.Frag) (H : Hp) (m : List Wr) (kvs : List (NK × V)) : Prop := ∀ kv ∈ kvs, ∃ s, kv.1 = kS s ∧ Dp K H kv.2 (.tuple ((stepsOf m s).map dStep))
theorem fz_steps (m : List Wr) (s : Std) : fz (.tuple ((stepsOf m s).map dStep)) = true := by
  unfold fz
  exact fz_map fun x _ => fz_dStep x
theorem Cached.up {K : PySem.W.Frag} {H H' : Hp} {m : List Wr} {kvs : List (NK × V)} (t : TupK K H H') (h : Cached K H m kvs) : Cached K H' m kvs := fun kv hk => by
  obtain ⟨s, e, hd⟩ := h kv hk
  exact ⟨s, e, dp_tk t (fz_steps m s) hd⟩
def CoAt (P : Program) (w : World) (K : PySem.W.Frag) (C : Addr) (H : Hp) (c : Addr) (m : List Wr) (n : Nat) : Prop :=
  ∃ dx tw d kvs, H c = some (.ins C dx (coF tw d)) ∧ Dp K H (.ref tw) (dMt m) ∧ DicAt P w K H d kvs ∧ Cached K H m kvs ∧ kvs.length ≤ n
theorem CoAt.fr {P : Program} {w : World} {K : PySem.W.Frag} {C : Addr} {H H' : Hp} {c : Addr} {m : List Wr} {n : Nat} (f : Fr H H') (h : CoAt P w K C H c m n) : CoAt P w K C H' c m n := by
  obtain ⟨dx, tw, d, kvs, h1, h2, h3, h4, h5⟩ := h
  refine ⟨dx, tw, d, kvs, f _ _ h1 (fun _ z => by cases z), dp_tk f.tk (fz_dMt m) h2, h3.up ?_ f.tk, h4.up f.tk, h5⟩
  obtain ⟨xs, e, _⟩ := h3
  rw [e]
  exact f _ _ e dicO_ne.1
theorem look_new {kvs : List (NK × V)} {k : NK} {v : V} (h : lookN kvs k = none) : putN kvs k v = kvs ++ [(k, v)] ∧ lookN (putN kvs k v) k = some v := by
  have e : putN kvs k v = kvs ++ [(k, v)] := by
    unfold putN
    rw [h]
    rfl
  refine ⟨e, ?_⟩
  rw [e]
  unfold lookN at h ⊢
  rw [List.find?_append]
  cases hf : kvs.find? (fun kv => decide (kv.1 = k)) with
  | some x =>
    rw [hf] at h
    cases h
  | none => simp
theorem look_in {kvs : List (NK × V)} {k : NK} {v : V} (h : lookN kvs k = some v) : (k, v) ∈ kvs := by
  unfold lookN at h
  cases hf : kvs.find? (fun kv => decide (kv.1 = k)) with
  | none =>
    rw [hf] at h
    cases h
  | some x =>
    rw [hf] at h
    have e := Option.some.inj h
    have e1 := of_decide_eq_true (List.find?_some (p := fun kv : NK × V => decide (kv.1 = k)) hf)
    have e2 := List.mem_of_find?_eq_some hf
    have z : x = (k, v) := by
      obtain ⟨x1, x2⟩ := x
      exact Prod.ext e1 e
    rw [← z]
    exact e2
/-! ### readings with fields -/
section
variable {P : Program} {w : World} {K : PySem.W.Frag} {σ : L2.St} {H : Hp} {ta tb te : TE} {v : V} {ds : List PyData}
theorem ev_fld {c C dx : Addr} {fs : List (Str × V)} {f : Str} (ha : Ev ta σ H (.ref c)) (hc : H c = some (.ins C dx fs)) (cl : Cls K C) (no : NoAttr K C f) (l : fs.lookup f = some v) : Ev (tFld K ta f) σ H v := fun H1 e Q q =>
  ha H1 e _ fun H2 e2 => ⟨c, C, dx, fs, v, rfl, e2 _ _ (e _ _ hc), cl, no, l, q H2 e2⟩
theorem ev_notinN {d : Addr} {kvs : List (NK × V)} {k : NK} (ha : Ev ta σ H v) (hv : KeyAt K H v k) (hb : Ev tb σ H (.ref d)) (hd : DicAt P w K H d kvs) : Ev (tOp (rInN P w K true) ta tb) σ H (.bl (!(lookN kvs k).isSome)) := fun H1 e Q q =>
  ha H1 e _ fun H2 e2 => hb H2 (e.trans e2) _ fun H3 e3 => ⟨k, d, kvs, rfl, hv.up fun _ _ h => ex_t ((e.trans e2).trans e3) h, hd.same ((e.trans e2).trans e3), q H3 (e2.trans e3)⟩
theorem ev_dget {d : Addr} {kvs : List (NK × V)} {k : NK} {u : V} (hb : Ev tb σ H (.ref d)) (hd : DicAt P w K H d kvs) (ha : Ev ta σ H v) (hv : KeyAt K H v k) (l : lookN kvs k = some u) : Ev (tDGetN P w K tb ta) σ H u := fun H1 e Q q =>
  hb H1 e _ fun H2 e2 => ha H2 (e.trans e2) _ fun H3 e3 => ⟨d, kvs, k, u, rfl, hd.same ((e.trans e2).trans e3), hv.up fun _ _ h => ex_t ((e.trans e2).trans e3) h, l, q H3 (e2.trans e3)⟩
theorem inV_strs (z : Str) : ∀ zs : List Str, inV (.str z) (zs.map V.str) = decide (z ∈ zs)
  | [] => rfl
  | y :: zs => by
    have ih := inV_strs z zs
    unfold inV at ih ⊢
    rw [List.map_cons, List.any_cons, ih]
    show ((y == z) || decide (z ∈ zs)) = decide (z ∈ y :: zs)
    rw [Bool.eq_iff_iff]
    simp only [Bool.or_eq_true, beq_iff_eq, decide_eq_true_eq, List.mem_cons]
    exact or_congr ⟨Eq.symm, Eq.symm⟩ Iff.rfl
theorem dps_str : ∀ {vs : List V} {zs : List Str}, DpAll K H vs (zs.map PyData.str) → vs = zs.map V.str
  | _, [], h => by cases h; rfl
  | _, z :: zs, h => by
    cases h with
    | cons h t =>
      rw [dp_str h, dps_str t]
      rfl
theorem ev_inS {z : Str} {zs : List Str} {neg : Bool} {d : PyData} (ha : Ev ta σ H (.str z)) (hb : EvD K tb σ H d) (hd : d = .list (zs.map PyData.str) ∨ d = .tuple (zs.map PyData.str)) : Ev (tOp (rIn K neg) ta tb) σ H (.bl (if neg then !decide (z ∈ zs) else decide (z ∈ zs))) := fun H1 e Q q =>
  ha H1 e _ fun H2 e2 => hb H2 (e.trans e2) _ fun v H3 e3 hv => by
    have fl : (zs.map V.str).all flatV = true := List.all_eq_true.mpr fun x hx => by
      obtain ⟨m, _, rfl⟩ := List.mem_map.mp hx
      rfl
    rcases hd with rfl | rfl
    · obtain ⟨p, xs, rfl, hs, hxs⟩ := dp_lst hv
      rw [dps_str hxs] at hs
      exact ⟨p, _, rfl, .inl hs, rfl, fl, by rw [inV_strs]; exact q H3 (e2.trans e3)⟩
    · obtain ⟨p, xs, rfl, hs, hxs⟩ := dp_tup hv
      rw [dps_str hxs] at hs
      exact ⟨p, _, rfl, .inr hs, rfl, fl, by rw [inV_strs]; exact q H3 (e2.trans e3)⟩
/-- a loop that leaves all as it stands -/
theorem sd_forS {D : Ends} {tu : TS} {ti : TI} {g : TG} (hi : EvI K ti σ H ds) (Pv : Hp → Nat → L2.St → Hp → Prop) (h0 : ∀ H2, Ex H H2 → Pv H2 0 σ H2) (hT : ∀ H2 i σ' H', Pv H2 i σ' H' → Ex H2 H')
    (hs : ∀ H2 i d x σ' H' H'', Ex H H2 → ds[i]? = some d → Pv H2 i σ' H' → Ex H' H'' → Dp K H'' x d → g x σ' H'' fun σ2 H3 => tu { D with nx := Pv H2 (i + 1), ct := Pv H2 (i + 1), bk := D.nx } σ2 H3)
    (hd : ∀ H2 σ' H', Ex H H2 → Pv H2 ds.length σ' H' → D.nx σ' H') : tFor ti g tu D σ H :=
  hi H (Ex.refl H) _ fun J H2 e2 W => for_it W (Pv H2) (h0 H2 e2) (fun i σ' H' _ hP => hT H2 i σ' H' hP) (fun i x σ' Ha Hb hi hP hy => by
    obtain ⟨e3, d, h1, h2⟩ := hy
    exact hs H2 i d x σ' Ha Hb e2 h1 hP e3 h2) (fun σ' H' hP => hd H2 σ' H' e2 hP)
end
end Ink
namespace Ink
open PySem PySem.Spec PyProof.Rows L2 Evl
def RNeed (c : List PyData → PyData) : List PyData → PyData → Prop := fun ds d => ∃ m, GoodM m ∧ ds = [c (m.map dW)] ∧ d = .none
def beginS (m : List Wr) : Std := (List.replicate m.length 0, List.replicate m.length 0, -1, 0)
def spInit (P : Program) (w : World) (K : PySem.W.Frag) (C : Addr) (c : List PyData → PyData) : Sp := fun vs H Q _ => ∃ p dx v m, vs = [.ref p, v] ∧ H p = some (.ins C dx []) ∧ Dp K H v (c (m.map dW)) ∧ GoodM m ∧
  ∀ H', (∀ b o, H b = some o → b ≠ p → H' b = some o) → CoAt P w K C H' p m 0 → Q .non H'
def spBegin (P : Program) (w : World) (K : PySem.W.Frag) (C : Addr) : Sp := fun vs H Q _ => ∃ c m n, vs = [.ref c] ∧ CoAt P w K C H c m n ∧ m.length ≤ 3 ∧ ∀ v H', Same H H' → Dp K H' v (dS (beginS m)) → Q v H'
def spSteps (P : Program) (w : World) (K : PySem.W.Frag) (C : Addr) : Sp := fun vs H Q _ => ∃ c m n v s, vs = [.ref c, v] ∧ CoAt P w K C H c m n ∧ n < 90000 ∧ GoodM m ∧ Fits m s ∧ Dp K H v (dS s) ∧
  ∀ p vs H', H p = none → KX H H' → CoAt P w K C H' c m (n + 1) → H' p = some (.lst vs) → DpAll K H' vs ((stepsOf m s).map dStep) → Q (.ref p) H'
theorem sd_fld {K : PySem.W.Frag} {σ : L2.St} {H : Hp} {ta tv : TE} {f : Str} {d : PyData} {D : Ends} (h : EvD K tv σ H d)
    (k : ∀ y H1, Ex H H1 → Dp K H1 y d → ta σ H1 fun x H2 => ∃ a C dx fs, x = .ref a ∧ H2 a = some (.ins C dx fs) ∧ Cls K C ∧ NoAttr K C f ∧ fs.length < 1000 ∧ D.nx σ (upd H2 a (.ins C dx (putF f y fs)))) : sFld K ta tv f D σ H := h H (.refl H) _ k
theorem GoodM.isw {m : List Wr} (g : GoodM m) {x : Wr} (h : x ∈ m) : ShortA x.2.1 ∧ x.1.length ≤ 1000 ∧ isWr x.1 x.2.1 x.2.2.1 x.2.2.2 = true := by
  have w := g.wr x h
  refine ⟨w.short, ?_, w.is⟩
  have := w.name.2.1
  omega
theorem names_get {m : List Wr} {i : Nat} {d : PyData} (h : (enumD ((m.map (·.1)).map PyData.str))[i]? = some d) : i < m.length ∧ d = .tuple [.int (i : Int), .str (wr m i).1] := by
  have hi : i < m.length := by
    have := (List.getElem?_eq_some_iff.mp h).1
    rw [enum_len, List.length_map, List.length_map] at this
    exact this
  have e : ((m.map (·.1)).map PyData.str)[i]? = some (.str (wr m i).1) := by
    rw [List.getElem?_map, List.getElem?_map, wr_get hi]
    rfl
  rw [enumD_get e] at h
  exact ⟨hi, (Option.some.inj h).symm⟩
theorem name_not {m : List Wr} (g : GoodM m) {i : Nat} (hi : i < m.length) : (wr m i).1 ∉ (m.map (·.1)).take i := by
  have nd := g.nd
  have e : (m.map (·.1))[i]? = some (wr m i).1 := by
    rw [List.getElem?_map, wr_get hi]
    rfl
  obtain ⟨h1, h2⟩ := List.getElem?_eq_some_iff.mp e
  intro hm
  obtain ⟨j, hj, ej⟩ := List.mem_take_iff_getElem.mp hm
  rw [← h2] at ej
  exact (List.pairwise_iff_getElem.mp nd) j i (by omega) h1 (by omega) ej
section
variable {P : Program} {w : World} {K : PySem.W.Frag} {mg : Str → Option Value} {base : Heap}
theorem ok_needL {f : Addr} {fd : FuncData} {k : Nat} (F : Fun K "_need_company" "_need_company" sNeedCompany f fd) (T : Txt mg) (C_is_writer : Cal P w K mg base k "is_writer" ["thing"] (spP K RIsW)) : FnOk P w K mg base CX0 (k + 1) f fd ["writers"] (spP K (RNeed .list)) := by
  refine F.ok sc__need_company (fun vs H Q E h => ?_) (fun cdv A outer s H vs Q E hr h => ?_)
  · obtain ⟨ds, d, hd, ⟨m, _, rfl, _⟩, _⟩ := h
    exact hd.length
  · obtain ⟨ds, d, hd, ⟨m, g, rfl, rfl⟩, q⟩ := h
    obtain ⟨v0, rfl, h0⟩ := dps1 hd
    have l3 := g.len
    refine ⟨_, (pss_cons (ps_for PassesOwn.never rfl (pi_enum (by rfl) T.m_enumerate (pa_cons (pv 0) pa_nil)) (pg_tup rfl (pgs_cons (pg_name (i := 1) sc__need_company.nd rfl (.inl rfl)) (pgs_cons (pg_name (i := 2) sc__need_company.nd rfl (.inl rfl)) pgs_nil)))
    (pss_one (ps_if (pt_not (pt_val (pe_callC C_is_writer hr (by rfl) (pa_cons (pv 2) pa_nil))))
    (pss_one ps_never) pss_nil)))
    (pss_cons (ps_setLc (i := 3) (own := [("writer", 2)]) (g := (gName 2)) (by rfl) sc__need_company.nd rfl rfl (sw_true rfl rfl rfl (by decide +kernel)) (pi_list (pv 0)) (blkOk_by (own := [("writer", 2)]) (N := ["writers", "at", "writer", "names", "name"]) (sc := defScope sNeedCompany) (by decide +kernel)) (fun _ _ _ _ _ => (pg_name (i := 2) sc__need_company.nd rfl (Or.inl rfl))) (fun _ _ _ _ _ => pts_nil) (fun _ _ _ _ _ => (pe_ix (show IxR _ (rIxT K) from ix_tup) (pv 2) pe_int (fun _ _ => rfl))))
    (pss_cons (ps_for PassesOwn.never rfl (pi_enum (by rfl) T.m_enumerate (pa_cons (pv 3) pa_nil)) (pg_tup rfl (pgs_cons (pg_name (i := 1) sc__need_company.nd rfl (.inl rfl)) (pgs_cons (pg_name (i := 4) sc__need_company.nd rfl (.inl rfl)) pgs_nil)))
    (pss_one (ps_if (pt_cmpR (show OpR _ _ (rIn K false) from op_in_seq) (pv 4) (pe_slice sl_list (pv 3) po_none (po_some (pv 1))) (by rfl))
    (pss_one ps_never) pss_nil)))
    (pss_one (ps_if (pt_cmpR op_gt (pe_callB call_len (by rfl) T.m_len PySem.boot_len (pa_cons (pv 0) pa_nil)) (pe_globI (by rfl) T.e_MOST_WRITERS) (nomark _))
    (pss_one ps_never) pss_nil))))), ?_⟩
    refine sd_forS (K := K) (ei_enum (ed_var rfl h0)) (fun H2 i σ' H' => (∃ y1 y2, σ' = [some v0, y1, y2, none, none]) ∧ Ex H2 H') (fun H2 e2 => ⟨⟨none, none, rfl⟩, .refl _⟩) (fun H2 i σ' H' hP => hP.2) (fun H2 i d x σ' Ha Hb e2 hd hP eab hx => ?_) (fun H2 σ' H' e2 hP => ?_)
    · obtain ⟨⟨y1, y2, rfl⟩, ex⟩ := hP
      obtain ⟨hi, rfl⟩ := enum_w m hd
      obtain ⟨i1, i2, i3⟩ := g.isw (List.mem_of_getElem? (wr_get hi))
      refine tg2 hx fun u1 u2 a1 a2 => ?_
      refine Evl.s_when (b := !isWr (wr m i).1 (wr m i).2.1 (wr m i).2.2.1 (wr m i).2.2.2) (et_not (et_B (ev_bl (ed_call (eds_cons (ed_var rfl a2) eds_nil) ⟨wr m i, i1, i2, rfl, rfl⟩)))) (fun hb => ?_) fun hb H3 e3 => ⟨⟨_, _, rfl⟩, ex.trans (eab.trans e3)⟩
      rw [i3] at hb
      cases hb
    · obtain ⟨⟨y1, y2, rfl⟩, ex⟩ := hP
      have e1 := e2.trans ex
      have h0 := dp_same e1 h0
      dsimp only
      refine sd_asg (K := K) (EvN.list (ds := (m.map (·.1)).map PyData.str) ?_) fun w1 H3 e3 g1 => ?_
      · rw [List.map_map]
        refine en_map m dW _ (ei_lst (ed_var rfl h0)) (m_le g (by decide)) (fun x _ => by show fz (PyData.str _) = true; unfold fz; rfl) fun j x H5 y hx e5 hdx R kk => ?_
        exact kk _ rfl (ed_ixT (ed_var rfl hdx) ev_c (by decide) rfl)
      · dsimp only
        have e13 := e1.trans e3
        have h0 := dp_same e3 h0
        refine sd_forS (K := K) (ei_enum (ed_var rfl g1)) (fun H2 i σ' H' => (∃ y1 y2 y4, σ' = [some v0, y1, y2, some w1, y4]) ∧ Ex H2 H') (fun H2 e2 => ⟨⟨_, _, _, rfl⟩, .refl _⟩) (fun H2 i σ' H' hP => hP.2) (fun H4 i d x σ' Ha Hb e4 hd hP eab hx => ?_) (fun H4 σ' H5 e4 hP => ?_)
        · obtain ⟨⟨y1, y2, y4, rfl⟩, ex⟩ := hP
          obtain ⟨hi, rfl⟩ := names_get hd
          refine tg2 hx fun u1 u2 a1 a2 => ?_
          obtain rfl := dp_int a1
          obtain rfl := dp_str a2
          have g1 := dp_same ((e4.trans ex).trans eab) g1
          refine Evl.s_when (b := decide ((wr m i).1 ∈ (m.map (·.1)).take i)) (et_test (ev_inS (neg := false) (zs := (m.map (·.1)).take i) (ev_var rfl) (en_slToL (k := i) (ed_var rfl g1) (ev_var rfl)).list (.inl (by rw [List.map_take])))) (fun hb => ?_) fun hb H6 e6 => ⟨⟨_, _, _, rfl⟩, ex.trans (eab.trans e6)⟩
          exact absurd (of_decide_eq_true hb) (name_not g hi)
        · obtain ⟨⟨y1, y2, y4, rfl⟩, ex⟩ := hP
          have e15 := e13.trans (e4.trans ex)
          have h0 := dp_same (e4.trans ex) h0
          refine Evl.s_when (b := decide (((m.length : Nat) : Int) > 3)) (et_test (ev_op (ev_is (ev_lenD (ed_var rfl h0) (.inl rfl)) (by rw [List.length_map])) ev_c rv_I0)) (fun hb => ?_) fun hb H6 e6 => q .non H6 (e15.trans e6) .non
          have := of_decide_eq_true hb
          omega
theorem ok_needT {f : Addr} {fd : FuncData} {k : Nat} (F : Fun K "_need_company" "_need_company" sNeedCompany f fd) (T : Txt mg) (C_is_writer : Cal P w K mg base k "is_writer" ["thing"] (spP K RIsW)) : FnOk P w K mg base CX0 (k + 1) f fd ["writers"] (spP K (RNeed .tuple)) := by
  refine F.ok sc__need_company (fun vs H Q E h => ?_) (fun cdv A outer s H vs Q E hr h => ?_)
  · obtain ⟨ds, d, hd, ⟨m, _, rfl, _⟩, _⟩ := h
    exact hd.length
  · obtain ⟨ds, d, hd, ⟨m, g, rfl, rfl⟩, q⟩ := h
    obtain ⟨v0, rfl, h0⟩ := dps1 hd
    have l3 := g.len
    refine ⟨_, (pss_cons (ps_for PassesOwn.never rfl (pi_enumT (by rfl) T.m_enumerate (pa_cons (pv 0) pa_nil)) (pg_tup rfl (pgs_cons (pg_name (i := 1) sc__need_company.nd rfl (.inl rfl)) (pgs_cons (pg_name (i := 2) sc__need_company.nd rfl (.inl rfl)) pgs_nil)))
    (pss_one (ps_if (pt_not (pt_val (pe_callC C_is_writer hr (by rfl) (pa_cons (pv 2) pa_nil))))
    (pss_one ps_never) pss_nil)))
    (pss_cons (ps_setLc (i := 3) (own := [("writer", 2)]) (g := (gName 2)) (by rfl) sc__need_company.nd rfl rfl (sw_true rfl rfl rfl (by decide +kernel)) (pi_tup (pv 0)) (blkOk_by (own := [("writer", 2)]) (N := ["writers", "at", "writer", "names", "name"]) (sc := defScope sNeedCompany) (by decide +kernel)) (fun _ _ _ _ _ => (pg_name (i := 2) sc__need_company.nd rfl (Or.inl rfl))) (fun _ _ _ _ _ => pts_nil) (fun _ _ _ _ _ => (pe_ix (show IxR _ (rIxT K) from ix_tup) (pv 2) pe_int (fun _ _ => rfl))))
    (pss_cons (ps_for PassesOwn.never rfl (pi_enum (by rfl) T.m_enumerate (pa_cons (pv 3) pa_nil)) (pg_tup rfl (pgs_cons (pg_name (i := 1) sc__need_company.nd rfl (.inl rfl)) (pgs_cons (pg_name (i := 4) sc__need_company.nd rfl (.inl rfl)) pgs_nil)))
    (pss_one (ps_if (pt_cmpR (show OpR _ _ (rIn K false) from op_in_seq) (pv 4) (pe_slice sl_list (pv 3) po_none (po_some (pv 1))) (by rfl))
    (pss_one ps_never) pss_nil)))
    (pss_one (ps_if (pt_cmpR op_gt (pe_callB call_len (by rfl) T.m_len PySem.boot_len (pa_cons (pv 0) pa_nil)) (pe_globI (by rfl) T.e_MOST_WRITERS) (nomark _))
    (pss_one ps_never) pss_nil))))), ?_⟩
    refine sd_forS (K := K) (ei_enumT (ed_var rfl h0)) (fun H2 i σ' H' => (∃ y1 y2, σ' = [some v0, y1, y2, none, none]) ∧ Ex H2 H') (fun H2 e2 => ⟨⟨none, none, rfl⟩, .refl _⟩) (fun H2 i σ' H' hP => hP.2) (fun H2 i d x σ' Ha Hb e2 hd hP eab hx => ?_) (fun H2 σ' H' e2 hP => ?_)
    · obtain ⟨⟨y1, y2, rfl⟩, ex⟩ := hP
      obtain ⟨hi, rfl⟩ := enum_w m hd
      obtain ⟨i1, i2, i3⟩ := g.isw (List.mem_of_getElem? (wr_get hi))
      refine tg2 hx fun u1 u2 a1 a2 => ?_
      refine Evl.s_when (b := !isWr (wr m i).1 (wr m i).2.1 (wr m i).2.2.1 (wr m i).2.2.2) (et_not (et_B (ev_bl (ed_call (eds_cons (ed_var rfl a2) eds_nil) ⟨wr m i, i1, i2, rfl, rfl⟩)))) (fun hb => ?_) fun hb H3 e3 => ⟨⟨_, _, rfl⟩, ex.trans (eab.trans e3)⟩
      rw [i3] at hb
      cases hb
    · obtain ⟨⟨y1, y2, rfl⟩, ex⟩ := hP
      have e1 := e2.trans ex
      have h0 := dp_same e1 h0
      dsimp only
      refine sd_asg (K := K) (EvN.list (ds := (m.map (·.1)).map PyData.str) ?_) fun w1 H3 e3 g1 => ?_
      · rw [List.map_map]
        refine en_map m dW _ (ei_tup (ed_var rfl h0)) (m_le g (by decide)) (fun x _ => by show fz (PyData.str _) = true; unfold fz; rfl) fun j x H5 y hx e5 hdx R kk => ?_
        exact kk _ rfl (ed_ixT (ed_var rfl hdx) ev_c (by decide) rfl)
      · dsimp only
        have e13 := e1.trans e3
        have h0 := dp_same e3 h0
        refine sd_forS (K := K) (ei_enum (ed_var rfl g1)) (fun H2 i σ' H' => (∃ y1 y2 y4, σ' = [some v0, y1, y2, some w1, y4]) ∧ Ex H2 H') (fun H2 e2 => ⟨⟨_, _, _, rfl⟩, .refl _⟩) (fun H2 i σ' H' hP => hP.2) (fun H4 i d x σ' Ha Hb e4 hd hP eab hx => ?_) (fun H4 σ' H5 e4 hP => ?_)
        · obtain ⟨⟨y1, y2, y4, rfl⟩, ex⟩ := hP
          obtain ⟨hi, rfl⟩ := names_get hd
          refine tg2 hx fun u1 u2 a1 a2 => ?_
          obtain rfl := dp_int a1
          obtain rfl := dp_str a2
          have g1 := dp_same ((e4.trans ex).trans eab) g1
          refine Evl.s_when (b := decide ((wr m i).1 ∈ (m.map (·.1)).take i)) (et_test (ev_inS (neg := false) (zs := (m.map (·.1)).take i) (ev_var rfl) (en_slToL (k := i) (ed_var rfl g1) (ev_var rfl)).list (.inl (by rw [List.map_take])))) (fun hb => ?_) fun hb H6 e6 => ⟨⟨_, _, _, rfl⟩, ex.trans (eab.trans e6)⟩
          exact absurd (of_decide_eq_true hb) (name_not g hi)
        · obtain ⟨⟨y1, y2, y4, rfl⟩, ex⟩ := hP
          have e15 := e13.trans (e4.trans ex)
          have h0 := dp_same (e4.trans ex) h0
          refine Evl.s_when (b := decide (((m.length : Nat) : Int) > 3)) (et_test (ev_op (ev_is (ev_lenD (ed_var rfl h0) (.inr rfl)) (by rw [List.length_map])) ev_c rv_I0)) (fun hb => ?_) fun hb H6 e6 => q .non H6 (e15.trans e6) .non
          have := of_decide_eq_true hb
          omega
theorem ok_init {f C : Addr} {fd : FuncData} {k : Nat} {c : List PyData → PyData} {df : List V} (F : FunD K "__init__" "Company.__init__" (defArgs sCompanyInit) (defBody sCompanyInit) (defScope sCompanyInit) df [] f fd) (T : Txt mg) (Z : CoC K C) (hc : c = .list ∨ c = .tuple)
    (C__need_company : Cal P w K mg base k "_need_company" ["writers"] (spP K (RNeed c))) : FnOk P w K mg base CX0 (k + 1) f fd ["self", "writers"] (spInit P w K C c) := by
  refine F.ok sc_Company___init__ (fun vs H Q E h => ?_) (fun cdv A outer s H vs Q E hr h => ?_)
  · obtain ⟨p, dx, v, m, rfl, _⟩ := h
    rfl
  · obtain ⟨p, dx, v, m, rfl, hp, hv, g, q⟩ := h
    refine ⟨_, (pss_cons (ps_expr (pe_callC C__need_company hr (by rfl) (pa_cons (pv 1) pa_nil)))
    (pss_cons (ps_fld (pv 0) (pe_callTy call_tuple_of (by rfl) T.m_tuple (by decide +kernel) (pa_cons (pv 1) pa_nil)) rfl)
    (pss_one (ps_fld (pv 0) pe_dnewN rfl)))), ?_⟩
    refine (ed_call (K := K) (d := .none) (eds_cons (ed_var rfl hv) eds_nil) ⟨m, g, rfl, rfl⟩) H (.refl H) _ fun _ H1 e1 _ => ?_
    have hv := dp_same e1 hv
    have hw : EvD K (tCB (fun xs H Q => ∃ p ys, xs = [.ref p] ∧ ((SqL K H p ys ∧ ∀ l, H l = none → Q (.ref l) (upd H l (.tup ys))) ∨ (SqT K H p ys ∧ Q (.ref p) H))) (tCons (tVar 1) tNil)) [some (.ref p), some v] H1 (dMt m) := by
      rcases hc with rfl | rfl
      · exact ed_tuple (ed_var rfl hv)
      · exact ed_tupleT (ed_var rfl hv)
    refine sd_fld hw fun u H2 e2 hu => ?_
    obtain ⟨tw, xs, rfl, htw, hxs⟩ := dp_tup hu
    have hp2 := e2 _ _ (e1 _ _ hp)
    refine ⟨.ref p, rfl, p, C, dx, [], rfl, hp2, Z.cl, Z.nW, (by show 0 < 1000; decide), ?_⟩
    intro d H3 nd hb hd
    have pd : p ≠ d := ne_of_none (upd_same (H := H2) (a := p) (o := .ins C dx (putF "_writers" (.ref tw) []))) nd
    refine ⟨.ref p, rfl, p, C, dx, _, rfl, (hb p pd).trans upd_same, Z.cl, Z.nF, (by show 1 < 1000; decide), ?_⟩
    have t3 : ∀ b o, H2 b = some o → b ≠ p → upd H3 p (.ins C dx (coF tw d)) b = some o := fun b o e nb => by
      have nbd : b ≠ d := ne_of_none (by rw [upd_ne nb]; exact e) nd
      rw [upd_ne nb, hb b nbd, upd_ne nb]
      exact e
    have tk : TupK K H2 (upd H3 p (.ins C dx (coF tw d))) := fun b xs h => by
      rcases h with (h | ⟨o, h⟩) | h
      · exact .inl (.inl (t3 _ _ h (ne_of h hp2 (by intro z; cases z))))
      · exact .inl (.inr ⟨o, t3 _ _ h (ne_of h hp2 (by intro z; cases z))⟩)
      · exact .inr h
    refine q _ (fun b o e nb => t3 b o (e2 _ _ (e1 _ _ e)) nb) ⟨dx, tw, d, [], upd_same, dp_tk tk (fz_dMt m) (.tup htw hxs), hd.up (upd_ne pd.symm) ?_, fun kv hk => (by cases hk), Nat.le_refl _⟩
    exact TupK.upd ((hb p pd).trans upd_same) (fun _ z => by cases z) fun _ _ z => by cases z
theorem ok_begin {f C : Addr} {fd : FuncData} {k : Nat} (F : Fun K "begin" "Company.begin" sCompanyBegin f fd) (T : Txt mg) (Z : CoC K C) (G__NO_RUN : GlobT K mg "_NO_RUN" (.tuple [.int (-1), .int 0])) : FnOk P w K mg base CX0 (k + 1) f fd ["self"] (spBegin P w K C) := by
  refine F.ok sc_Company_begin (fun vs H Q E h => ?_) (fun cdv A outer s H vs Q E hr h => ?_)
  · obtain ⟨c, m, n, rfl, _⟩ := h
    rfl
  · obtain ⟨c, m, n, rfl, ⟨dx, tw, d, kvs, hc, hw, _⟩, hl, q⟩ := h
    refine ⟨_, (pss_cons (ps_set (i := 1) sc_Company_begin.nd rfl (.inl rfl) (pe_op op_rep (pe_tup (pa_cons pe_int pa_nil)) (pe_callB call_len (by rfl) T.m_len PySem.boot_len (pa_cons (pe_fld (pv 0) rfl) pa_nil))))
    (pss_one (ps_ret (pe_tup (pa_cons (pv 1) (pa_cons (pv 1) (pa_cons (pe_globT (by rfl) G__NO_RUN) pa_nil))))))), ?_⟩
    refine sd_asg (K := K) (d := .tuple (List.replicate m.length (.int 0))) (ed_rep (ed_tup (eds_cons (ed_int ev_c) eds_nil) (by show 1 ≤ 100000; decide)) (ev_is (ev_lenD (ed_of (ev_fld (ev_var rfl) hc Z.cl Z.nW (coF_w _ _)) hw) (.inr rfl)) (by rw [List.length_map])) (by omega)) fun v1 H1 e1 g1 => ?_
    dsimp only
    refine sd_ret (K := K) (ed_tup (eds_cons (ed_var rfl g1) (eds_cons (ed_var rfl g1) (eds_cons ed_globT eds_nil))) (by show 3 ≤ 100000; decide)) fun v H2 e2 hv => q v H2 (e1.trans e2) ?_
    unfold dS dI beginS
    dsimp only
    rw [List.map_replicate]
    exact hv
theorem ok_steps {f C : Addr} {fd : FuncData} {k : Nat} (F : Fun K "steps" "Company.steps" sCompanySteps f fd) (T : Txt mg) (Z : CoC K C) (C__steps_of : Cal P w K mg base k "_steps_of" ["writers", "stand"] (spP K RSteps)) : FnOk P w K mg base CX0 (k + 1) f fd ["self", "stand"] (spSteps P w K C) := by
  refine F.ok sc_Company_steps (fun vs H Q E h => ?_) (fun cdv A outer s H vs Q E hr h => ?_)
  · obtain ⟨c, m, n, v, s, rfl, _⟩ := h
    rfl
  · obtain ⟨c, m, n, v, st, rfl, ⟨dx, tw, d, kvs, hc, hw, hd, hch, hl⟩, hn, g, ft, hv, q⟩ := h
    refine ⟨_, (Evl.pss_cut (ps_if (pt_cmpR (op_notinN (hu9 hr)) (pv 1) (pe_fld (pv 0) rfl) (by rfl))
    (pss_one (ps_asg (pe_callTy call_tuple_of (by rfl) T.m_tuple (by decide +kernel) (pa_cons (pe_callC C__steps_of hr (by rfl) (pa_cons (pe_fld (pv 0) rfl) (pa_cons (pv 1) pa_nil))) pa_nil)) (pg_sub (pe_fld (pv 0) rfl) (pv 1) (set_dicN (hu9 hr))))) pss_nil)
    (pss_one (ps_ret (pe_callTy call_list_of (by rfl) T.m_list (by decide +kernel) (pa_cons (pe_dgetN (hu9 hr) (pe_fld (pv 0) rfl) (pv 1) (fun _ _ => rfl)) pa_nil))))), ?_⟩
    refine Evl.q_cut (M := fun σ' H1 => σ' = [some (.ref c), some v] ∧ ∃ kvs1 u, KX H H1 ∧ (∀ b, H1 b = none → H b = none) ∧ H1 c = some (.ins C dx (coF tw d)) ∧ DicAt P w K H1 d kvs1 ∧ Cached K H1 m kvs1 ∧ kvs1.length ≤ n + 1 ∧ lookN kvs1 (kS st) = some u) ?_ fun σ' H1 hM => ?_
    · refine s_if (b := !(lookN kvs (kS st)).isSome) (et_test (ev_notinN (ev_var rfl) (key_at hv) (ev_fld (ev_var rfl) hc Z.cl Z.nF (coF_f _ _)) hd)) (fun hb H1 e1 => ?_) fun hb H1 e1 => ?_
      · have lk : lookN kvs (kS st) = none := by
          cases e : lookN kvs (kS st) with
          | none => rfl
          | some u =>
            rw [e] at hb
            cases hb
        have hc1 := e1 _ _ hc
        refine ed_tuple (K := K) (ds := (stepsOf m st).map dStep) (ed_call (eds_cons (ed_of (ev_fld (ev_var rfl) hc1 Z.cl Z.nW (coF_w _ _)) (dp_same e1 hw)) (eds_cons (ed_var rfl (dp_same e1 hv)) eds_nil)) ⟨m, st, g, ft, rfl, rfl⟩) H1 (.refl H1) _ fun u H2 e2 hu => ?_
        have e12 := e1.trans e2
        have hc2 := e2 _ _ hc1
        have hd2 := hd.same e12
        refine ⟨.ref c, rfl, c, C, dx, _, .ref d, rfl, hc2, Z.cl, Z.nF, coF_f _ _, v, rfl, d, kvs, kS st, rfl, hd2, key_at (dp_same e12 hv), by omega, fun H3 hd3 h3 => ?_⟩
        obtain ⟨n1, n2⟩ := look_new (v := u) lk
        have kx : KX H2 H3 := fun b o e no => by
          obtain ⟨xs, ed, _⟩ := hd2
          have nb : b ≠ d := fun z => by
            rw [z, ed] at e
            exact no _ (Option.some.inj e).symm
          rw [h3 b nb]
          exact e
        have tk : TupK K H2 H3 := kx.t
        refine ⟨rfl, _, u, (KX.of e12).trans kx, fun b hb => ?_, kx _ _ hc2 (fun _ z => by cases z), hd3, fun kv hk => ?_, ?_, n2⟩
        · refine Same.free e12 ?_
          by_cases hbd : b = d
          · obtain ⟨xs, ed, _⟩ := hd3
            rw [hbd, ed] at hb
            cases hb
          · rw [← h3 b hbd]
            exact hb
        · rw [n1] at hk
          rcases List.mem_append.mp hk with hk | hk
          · exact (hch.up ((TupK.of e12).trans tk)) kv hk
          · rw [List.mem_singleton] at hk
            subst hk
            exact ⟨st, rfl, kx.dp hu⟩
        · have := putN_len (kvs := kvs) (k := kS st) (v := u)
          omega
      · obtain ⟨u, lk⟩ : ∃ u, lookN kvs (kS st) = some u := by
          cases e : lookN kvs (kS st) with
          | none =>
            rw [e] at hb
            cases hb
          | some u => exact ⟨u, rfl⟩
        exact ⟨rfl, kvs, u, .of e1, fun b hb => Same.free e1 hb, e1 _ _ hc, hd.same e1, hch.up (.of e1), by omega, lk⟩
    · obtain ⟨rfl, kvs1, u, kx, fr, hc1, hd1, hch1, hl1, lk⟩ := hM
      obtain ⟨s', e, hu⟩ := hch1 _ (look_in lk)
      obtain rfl := kS_inj e
      refine en_list (K := K) (ds := (stepsOf m st).map dStep) (ed_of (ev_dget (ev_fld (ev_var rfl) hc1 Z.cl Z.nF (coF_f _ _)) hd1 (ev_var rfl) (key_at (kx.dp hv)) lk) hu) (.inr rfl) H1 (.refl H1) _ fun p vs H2 np e2 hp hvs => ?_
      exact q p vs H2 (fr _ np) (kx.trans (.of e2)) ⟨dx, tw, d, kvs1, e2 _ _ hc1, dp_same e2 (kx.dp hw), hd1.same e2, hch1.up (.of e2), hl1⟩ hp hvs
end
end Ink
namespace Ink
open PySem PySem.Spec PyProof.Rows L2 Evl
/-! ### the law's own steps -/
def dP (x : Arw) : PyData := .tuple [.str x.2.1, .int x.2.2]
def arrsAt (w : Wr) (p : Int) : List Arw := w.2.1.filter fun x => decide (V.int x.1 = V.int p)
def RArrs : List PyData → PyData → Prop := fun ds d => ∃ (w : Wr) (p : Int), w.2.1.length ≤ 9 ∧ ds = [dW w, .int p] ∧ d = .list ((arrsAt w p).map dP)
def RBegin : List PyData → PyData → Prop := fun ds d => ∃ m, m.length ≤ 3 ∧ ds = [dMl m] ∧ d = dS (beginS m)
def RCounts : List PyData → PyData → Prop := fun ds d => ∃ m s, ∃ k : Nat, GoodM m ∧ s.1.length = m.length ∧ k < m.length ∧ ds = [dMl m, dI s.1, .int (k : Int)] ∧ d = .bool (minds m s k)
/-- a stand as steps lead to it: who does not wait has waited no time, who wrote last has not written more than is let -/
structure Okay (m : List Wr) (s : Std) : Prop extends Fits m s where
  w0 : ∀ j, j < m.length → minds m s j = false → wt s j = 0
  run : s.2.2 = (-1, 0) ∨ ∃ k : Nat, k < m.length ∧ s.2.2.1 = (k : Int) ∧ (wr m k).2.2.2 ≠ 0 ∧ s.2.2.2 ≤ (wr m k).2.2.2
def RCan : List PyData → PyData → Prop := fun ds d => ∃ m s, ∃ k : Nat, GoodM m ∧ Okay m s ∧ k < m.length ∧ ds = [dMl m, dS s, .int (k : Int)] ∧ d = .bool (mayW m s k)
def RAfter : List PyData → PyData → Prop := fun ds d => ∃ m s, ∃ k : Nat, ∃ to, GoodM m ∧ Okay m s ∧ k < m.length ∧ ds = [dMl m, dS s, .int (k : Int), .int to] ∧ d = dS (behind m s k to)
def RLSteps : List PyData → PyData → Prop := fun ds d => ∃ m s, GoodM m ∧ Okay m s ∧ ds = [dMl m, dS s] ∧ d = .list ((stepsOf m s).map dStep)
theorem fz_dP (x : Arw) : fz (dP x) = true := by
  unfold dP fz fzAll fzAll fzAll fz
  rfl
theorem lets_ok : ∀ c ∈ lets, PyData.strOk (single c) = true := by decide +kernel
theorem dP_lay {x : Arw} (h : goodA x) : (dP x).canLay0 = true := by
  obtain ⟨_, _, ⟨c, hc, e⟩, _⟩ := h
  unfold dP
  simp only [PyData.canLay0, PyData.canLayAll0, e, lets_ok c hc, Bool.and_true]
theorem dP_depth (x : Arw) : (dP x).depth ≤ 3 := by
  unfold dP
  simp only [PyData.depth, PyData.depthAll]
  decide
theorem lay_map {α : Type} {f : α → PyData} : ∀ {l : List α}, (∀ x ∈ l, (f x).canLay0 = true) → PyData.canLayAll0 (l.map f) = true
  | [], _ => by simp only [List.map_nil, PyData.canLayAll0]
  | x :: l, h => by
    simp only [List.map_cons, PyData.canLayAll0, h x (List.mem_cons_self ..), Bool.true_and]
    exact lay_map fun y hy => h y (List.mem_cons_of_mem _ hy)
theorem depth_map {α : Type} {f : α → PyData} {n : Nat} : ∀ {l : List α}, (∀ x ∈ l, (f x).depth ≤ n) → PyData.depthAll (l.map f) ≤ n
  | [], _ => by simp only [List.map_nil, PyData.depthAll]; omega
  | x :: l, h => by
    have h1 := h x (List.mem_cons_self ..)
    have h2 := depth_map (f := f) (l := l) fun y hy => h y (List.mem_cons_of_mem _ hy)
    simp only [List.map_cons, PyData.depthAll]
    omega
theorem arrs_shaped {w : Wr} (h : ∀ x ∈ w.2.1, goodA x) (p : Int) : SeqAt.shaped (.list ((arrsAt w p).map dP)) = true := by
  have hm : ∀ x ∈ arrsAt w p, goodA x := fun x hx => h x (List.mem_filter.mp hx).1
  have h1 := lay_map fun x hx => dP_lay (hm x hx)
  have h2 := depth_map (f := dP) (l := arrsAt w p) fun x _ => dP_depth x
  unfold SeqAt.shaped
  rw [Bool.and_eq_true, decide_eq_true_eq]
  refine ⟨by simp only [PyData.canLay0]; exact h1, ?_⟩
  simp only [PyData.depth]
  omega
theorem eqv_nil {α : Type} (l : List α) (f : α → PyData) : PyData.eqv (.list (l.map f)) (.list []) = l.isEmpty := by
  cases l with
  | nil => simp only [List.map_nil, PyData.eqv, PyData.eqvAll, List.isEmpty_nil]
  | cons x l => simp only [List.map_cons, PyData.eqv, PyData.eqvAll, List.isEmpty_cons]
/-- the law's look is the program's -/
theorem counts_eq {m : List Wr} (g : GoodM m) {s : Std} {k : Nat} (hk : k < m.length) : (decide ((wr m k).2.2.1 > 0) && !(arrsAt (wr m k) (pl s k)).isEmpty) = minds m s k := by
  unfold minds
  have h0 := (g.at hk).p0
  have e1 : decide ((wr m k).2.2.1 > 0) = !decide (V.int (wr m k).2.2.1 = V.int 0) := by
    rw [← decide_not]
    refine decide_eq_decide.mpr ⟨fun h e => ?_, fun h => ?_⟩
    · injection e with e
      omega
    · have : (wr m k).2.2.1 ≠ 0 := fun e => h (by rw [e])
      omega
  have e2 : (!(arrsAt (wr m k) (pl s k)).isEmpty) = decide (pl s k ∈ (wr m k).2.1.map (·.1)) := by
    rw [Bool.eq_iff_iff, Bool.not_eq_true', List.isEmpty_eq_false_iff_exists_mem, decide_eq_true_eq, List.mem_map]
    constructor
    · rintro ⟨x, hx⟩
      obtain ⟨h1, h2⟩ := List.mem_filter.mp hx
      have h2 := of_decide_eq_true h2
      injection h2 with h2
      exact ⟨x, h1, h2⟩
    · rintro ⟨x, h1, h2⟩
      exact ⟨x, List.mem_filter.mpr ⟨h1, by rw [h2]; exact decide_eq_true rfl⟩⟩
  rw [e1, e2]
section
variable {P : Program} {w : World} {K : PySem.W.Frag} {mg : Str → Option Value} {base : Heap}
theorem ok_arrs {f : Addr} {fd : FuncData} {k : Nat} (F : Fun K "_law_arrows" "_law_arrows" sLArrows f fd) : FnOk P w K mg base CX0 (k + 1) f fd ["_law_writer_here", "_law_place"] (spP K RArrs) := by
  refine F.ok sc__law_arrows (fun vs H Q E h => ?_) (fun cdv A outer s H vs Q E hr h => ?_)
  · obtain ⟨ds, d, hd, ⟨w, p, _, rfl, _⟩, _⟩ := h
    exact hd.length
  · obtain ⟨ds, d, hd, ⟨w, p, h9, rfl, rfl⟩, q⟩ := h
    obtain ⟨v0, v1, rfl, h0, h1⟩ := dps2 hd
    obtain rfl := dp_int h1
    refine ⟨_, (pss_one (ps_ret (pe_lc (own := [("_law_at", 2), ("_law_sign", 3), ("_law_to", 4)]) (g := (gTup K 3 (gCons (gName 2) (gCons (gName 3) (gCons (gName 4) gNil))))) (by rfl) sc__law_arrows.nd (pi_tup (pe_ix ix_tup (pv 0) pe_int (fun _ _ => rfl))) (blkOk_by (own := [("_law_at", 2), ("_law_sign", 3), ("_law_to", 4)]) (N := ["_law_writer_here", "_law_place", "_law_at", "_law_sign", "_law_to"]) (sc := defScope sLArrows) (by decide +kernel)) (fun _ _ _ _ _ => (pg_tup rfl (pgs_cons (pg_name (i := 2) sc__law_arrows.nd rfl (.inl rfl)) (pgs_cons (pg_name (i := 3) sc__law_arrows.nd rfl (.inl rfl)) (pgs_cons (pg_name (i := 4) sc__law_arrows.nd rfl (.inl rfl)) pgs_nil))))) (fun _ _ _ _ _ => pts_one (pt_cmpR op_eq (pv 2) (pv 1) (nomark _))) (fun _ _ _ _ _ => (pe_tup (pa_cons (pv 3) (pa_cons (pv 4) pa_nil))))))), ?_⟩
    refine sd_ret (K := K) (EvN.list (ds := (arrsAt w p).map dP) ?_) q
    refine en_lc w.2.1 dA (fun x => decide (V.int x.1 = V.int p)) dP (ei_tup (ed_ixT (ed_var rfl h0) ev_c (by decide) rfl)) (by omega) (fun x _ => fz_dP x) fun j a H5 x hx e5 hdx R kk => tg3 hdx fun u1 u2 u3 b1 b2 b3 => ?_
    obtain rfl := dp_int b1
    exact kk _ rfl (et_test (ev_op (ev_var rfl) (ev_var rfl) (rv_eq rfl))) fun _ => ed_tup (eds_cons (ed_var rfl b2) (eds_cons (ed_var rfl b3) eds_nil)) (by show 2 ≤ 100000; decide)
theorem ok_lbegin {f : Addr} {fd : FuncData} {k : Nat} (F : Fun K "_law_begin" "_law_begin" sLBegin f fd) (T : Txt mg) : FnOk P w K mg base CX0 (k + 1) f fd ["_law_m"] (spP K RBegin) := by
  refine F.ok sc__law_begin (fun vs H Q E h => ?_) (fun cdv A outer s H vs Q E hr h => ?_)
  · obtain ⟨ds, d, hd, ⟨m, _, rfl, _⟩, _⟩ := h
    exact hd.length
  · obtain ⟨ds, d, hd, ⟨m, hl, rfl, rfl⟩, q⟩ := h
    obtain ⟨v0, rfl, h0⟩ := dps1 hd
    refine ⟨_, (pss_one (ps_ret (pe_tup (pa_cons (pe_op op_rep (pe_tup (pa_cons pe_int pa_nil)) (pe_callB call_len (by rfl) T.m_len PySem.boot_len (pa_cons (pv 0) pa_nil))) (pa_cons (pe_op op_rep (pe_tup (pa_cons pe_int pa_nil)) (pe_callB call_len (by rfl) T.m_len PySem.boot_len (pa_cons (pv 0) pa_nil))) (pa_cons (pe_tup (pa_cons (pe_un un_neg pe_int) (pa_cons pe_int pa_nil))) pa_nil)))))), ?_⟩
    have hrep : EvD K (tOp (rRep K) (tTup (tCons (tC (.int 0)) tNil)) (tCB (rLenV K) (tCons (tVar 0) tNil))) [some v0] H (dI (List.replicate m.length 0)) := by
      have := ed_rep (K := K) (n := m.length) (ta := tTup (tCons (tC (.int 0)) tNil)) (d := .int 0) (ed_tup (eds_cons (ed_int ev_c) eds_nil) (by show 1 ≤ 100000; decide)) (ev_is (ev_lenD (ed_var (i := 0) (σ := [some v0]) rfl h0) (.inl rfl)) (by rw [List.length_map])) (by omega)
      unfold dI
      rw [List.map_replicate]
      exact this
    exact sd_ret (K := K) (d := dS (beginS m)) (ed_tup (eds_cons hrep (eds_cons hrep (eds_cons (ed_tup (eds_cons (ed_int (ev_un ev_c ru_neg)) (eds_cons (ed_int ev_c) eds_nil)) (by show 2 ≤ 100000; decide)) eds_nil))) (by show 3 ≤ 100000; decide)) q
theorem ok_counts {f : Addr} {fd : FuncData} {k : Nat} (F : Fun K "_law_waits_count" "_law_waits_count" sLWaitsCount f fd) (C__law_arrows : Cal P w K mg base k "_law_arrows" ["_law_writer_here", "_law_place"] (spP K RArrs)) : FnOk P w K mg base CX0 (k + 1) f fd ["_law_m", "_law_places", "_law_at"] (spP K RCounts) := by
  refine F.ok sc__law_waits_count (fun vs H Q E h => ?_) (fun cdv A outer s H vs Q E hr h => ?_)
  · obtain ⟨ds, d, hd, ⟨m, s, k, _, _, _, rfl, _⟩, _⟩ := h
    exact hd.length
  · obtain ⟨ds, d, hd, ⟨m, st, k, g, hl, hk, rfl, rfl⟩, q⟩ := h
    obtain ⟨v0, v1, v2, rfl, h0, h1, h2⟩ := dps3 hd
    obtain rfl := dp_int h2
    have gk := g.at hk
    refine ⟨_, (pss_one (ps_ret (pe_and (pe_cmpR op_gt (pe_ix ix_tup (pe_ix ix_list (pv 0) (pv 2) (fun _ _ => rfl)) pe_int (fun _ _ => rfl)) pe_int (nomark _)) (pe_one (pe_cmpR (show OpR _ _ (rNeD K) from op_neD hr.units) (pe_callC C__law_arrows hr (by rfl) (pa_cons (pe_ix ix_list (pv 0) (pv 2) (fun _ _ => rfl)) (pa_cons (pe_ix ix_tup (pv 1) (pv 2) (fun _ _ => rfl)) pa_nil))) (pe_lst pa_nil) (nomark _)))))), ?_⟩
    refine sd_ret (K := K) (ed_bl (ev_andV (ev_op (ev_int (ed_ixT (ed_ixL (ed_var rfl h0) (ev_var rfl) (by omega) (dW_get hk)) ev_c (by decide) rfl)) ev_c rv_I0) fun _ => ev_is (ev_neD (d1 := .list ((arrsAt (wr m k) (pl st k)).map dP)) (d2 := .list []) (ed_call (eds_cons (ed_ixL (ed_var rfl h0) (ev_var rfl) (by omega) (dW_get hk)) (eds_cons (ed_ixT (ed_var rfl h1) (ev_var rfl) (by omega) (dI_get (by rw [hl]; exact hk))) eds_nil)) ⟨wr m k, pl st k, gk.len, rfl, rfl⟩) (en_lst eds_nil (by decide)).list (arrs_shaped gk.each _) rfl) (by rw [eqv_nil]))) fun v H1 e1 hv => q v H1 e1 ?_
    rw [← counts_eq g hk]
    exact hv
end
end Ink
namespace Ink
open PySem PySem.Spec PyProof.Rows L2 Evl
theorem run_eq {m : List Wr} (g : GoodM m) {s : Std} (o : Okay m s) {k : Nat} (hk : k < m.length) : (decide ((wr m k).2.2.2 > 0) && PyData.eqv (.tuple [.int s.2.2.1, .int s.2.2.2]) (.tuple [.int (k : Int), .int (wr m k).2.2.2])) = (!decide (V.int (wr m k).2.2.2 = V.int 0) && (decide (V.int s.2.2.1 = V.int (k : Int)) && decide (s.2.2.2 ≥ (wr m k).2.2.2))) := by
  have h0 := (g.at hk).c0
  simp only [PyData.eqv, PyData.eqvAll, Bool.and_true]
  rw [Bool.eq_iff_iff]
  simp only [Bool.and_eq_true, Bool.not_eq_true', decide_eq_true_eq, decide_eq_false_iff_not, beq_iff_eq, V.int.injEq]
  constructor
  · rintro ⟨h1, h2, h3⟩
    exact ⟨by omega, h2, by omega⟩
  · rintro ⟨h1, h2, h3⟩
    refine ⟨by omega, h2, ?_⟩
    rcases o.run with e | ⟨j, hj, e1, e2, e3⟩
    · rw [e] at h2
      have : (-1 : Int) = k := h2
      omega
    · have : j = k := by omega
      subst this
      omega
theorem later_eq {m : List Wr} {s : Std} (o : Okay m s) {k : Nat} (hk : k < m.length) : ((List.range s.2.1.length).map fun (j : Nat) => wt s j + (if minds m s j then 1 else 0)).set k 0 = (List.range s.2.1.length).map fun (j : Nat) => if (!decide (V.int (j : Int) = V.int (k : Int)) && minds m s j) = true then wt s j + 1 else 0 := by
  refine List.ext_getElem? fun j => ?_
  have hl := o.l2
  by_cases hj : j < s.2.1.length
  · rw [List.getElem?_set, List.getElem?_map, List.getElem?_map, List.getElem?_range hj]
    have hl2 : k < ((List.range s.2.1.length).map fun (j : Nat) => wt s j + (if minds m s j then 1 else 0)).length := by
      rw [List.length_map, List.length_range]
      omega
    by_cases e : k = j
    · subst e
      rw [if_pos rfl, if_pos hl2]
      show some 0 = some (if (!decide (V.int (k : Int) = V.int (k : Int)) && minds m s k) = true then wt s k + 1 else 0)
      rw [decide_eq_true rfl]
      rfl
    · rw [if_neg e]
      show some (wt s j + (if minds m s j = true then 1 else 0)) = some (if (!decide (V.int (j : Int) = V.int (k : Int)) && minds m s j) = true then wt s j + 1 else 0)
      rw [decide_eq_false (show ¬ V.int (j : Int) = V.int (k : Int) from fun z => by injection z with z; omega)]
      show some (wt s j + (if minds m s j = true then 1 else 0)) = some (if minds m s j = true then wt s j + 1 else 0)
      cases hm : minds m s j with
      | true => rfl
      | false =>
        rw [o.w0 j (by omega) hm]
        rfl
  · rw [List.getElem?_eq_none (by rw [List.length_set, List.length_map, List.length_range]; omega), List.getElem?_eq_none (by rw [List.length_map, List.length_range]; omega)]
theorem ixN_nat {n k : Nat} (h : k < n) : ixN n (k : Int) = some k := by
  unfold ixN
  rw [if_pos (by omega), if_pos (by omega), Int.toNat_natCast]
section
variable {P : Program} {w : World} {K : PySem.W.Frag} {mg : Str → Option Value} {base : Heap}
theorem ok_can {f : Addr} {fd : FuncData} {k : Nat} (F : Fun K "_law_can" "_law_can" sLCan f fd) (T : Txt mg) (C__law_waits_count : Cal P w K mg base k "_law_waits_count" ["_law_m", "_law_places", "_law_at"] (spP K RCounts)) : FnOk P w K mg base CX0 (k + 1) f fd ["_law_m", "_law_stand", "_law_spot"] (spP K RCan) := by
  refine F.ok sc__law_can (fun vs H Q E h => ?_) (fun cdv A outer s H vs Q E hr h => ?_)
  · obtain ⟨ds, d, hd, ⟨m, s, k, _, _, _, rfl, _⟩, _⟩ := h
    exact hd.length
  · obtain ⟨ds, d, hd, ⟨m, st, k, g, ft, hk, rfl, rfl⟩, q⟩ := h
    obtain ⟨v0, v1, v2, rfl, h0, h1, h2⟩ := dps3 hd
    obtain rfl := dp_int h2
    refine ⟨_, (pss_cons (ps_asg (pv 1) (pg_tup rfl (pgs_cons (pg_name (i := 3) sc__law_can.nd rfl (.inr rfl)) (pgs_cons (pg_name (i := 4) sc__law_can.nd rfl (.inr rfl)) (pgs_cons (pg_name (i := 5) sc__law_can.nd rfl (.inl rfl)) pgs_nil)))))
    (pss_cons (ps_if (PW.pt (pw_and (pt_cmpR op_gt (pe_ix ix_tup (pe_ix ix_list (pv 0) (pv 2) (fun _ _ => rfl)) pe_int (fun _ _ => rfl)) pe_int (nomark _)) (pw_and1 (pt_cmpR (show OpR _ _ (rEqD K) from op_eqD hr.units) (pv 5) (pe_tup (pa_cons (pv 2) (pa_cons (pe_ix ix_tup (pe_ix ix_list (pv 0) (pv 2) (fun _ _ => rfl)) pe_int (fun _ _ => rfl)) pa_nil))) (nomark _)))))
    (pss_one (ps_ret pe_bl)) pss_nil)
    (pss_cons (ps_setLc (i := 6) (own := [("_law_at", 7)]) (g := (gName 7)) (by rfl) sc__law_can.nd rfl rfl (sw_true rfl rfl rfl (by decide +kernel)) (pi_range1 (by rfl) T.m_range (pa_cons (pe_callB call_len (by rfl) T.m_len PySem.boot_len (pa_cons (pv 0) pa_nil)) pa_nil)) (blkOk_by (own := [("_law_at", 7)]) (N := ["_law_m", "_law_stand", "_law_spot", "_law_places", "_law_waits", "_law_run", "_law_others", "_law_at"]) (sc := defScope sLCan) (by decide +kernel)) (fun _ _ _ _ _ => (pg_name (i := 7) sc__law_can.nd rfl (Or.inl rfl))) (fun _ _ _ _ _ => pts_one (PW.pt (pw_and (pt_cmpR op_ne (pv 7) (pv 2) (nomark _)) (pw_and1 (pt_val (pe_callC C__law_waits_count hr (by rfl) (pa_cons (pv 0) (pa_cons (pv 3) (pa_cons (pv 7) pa_nil))))))))) (fun _ _ _ _ _ => (pv 7)))
    (pss_one (ps_ret (pe_callB (cr_all rfl) (by rfl) T.m_all (by decide +kernel) (pa_cons (pe_lc (own := [("_law_at", 7)]) (g := (gName 7)) (by rfl) sc__law_can.nd (pi_list (pv 6)) (blkOk_by (own := [("_law_at", 7)]) (N := ["_law_m", "_law_stand", "_law_spot", "_law_places", "_law_waits", "_law_run", "_law_others", "_law_at"]) (sc := defScope sLCan) (by decide +kernel)) (fun _ _ _ _ _ => (pg_name (i := 7) sc__law_can.nd rfl (Or.inl rfl))) (fun _ _ _ _ _ => pts_nil) (fun _ _ _ _ _ => (pe_cmpR op_lt (pe_ix (show IxR _ (rIxT K) from ix_tup) (pv 4) (pv 7) (fun _ _ => rfl)) (pe_ix (show IxR _ (rIxT K) from ix_tup) (pe_ix (show IxR _ (rIxL K) from ix_list) (pv 0) (pv 7) (fun _ _ => rfl)) pe_int (fun _ _ => rfl)) (nomark _)))) pa_nil))))))), ?_⟩
    refine sd_un3 (ed_var rfl h1) fun w0 w1 w2 H1 e1 g0 g1 g2 => ?_
    have h0 := dp_same e1 h0
    dsimp only
    refine Evl.q_when (b := !decide (V.int (wr m k).2.2.2 = V.int 0) && (decide (V.int st.2.2.1 = V.int (k : Int)) && decide (st.2.2.2 ≥ (wr m k).2.2.2))) ?_ (fun hb H3 e3 => ?_) fun hb H3 e3 => ?_
    · rw [← run_eq g ft hk]
      exact et_and (et_test (ev_op (ev_int (ed_ixT (ed_ixL (ed_var rfl h0) (ev_var rfl) (by omega) (dW_get hk)) ev_c (by decide) rfl)) ev_c rv_I0)) fun _ => et_test (ev_eqD (ed_var rfl g2) (ed_tup (eds_cons (ed_int (ev_var rfl)) (eds_cons (ed_ixT (ed_ixL (ed_var rfl h0) (ev_var rfl) (by omega) (dW_get hk)) ev_c (by decide) rfl) eds_nil)) (by show 2 ≤ 100000; decide)) rfl rfl)
    · refine q (.bl false) H3 (e1.trans e3) ?_
      unfold mayW
      rw [if_pos hb]
      exact .bl false
    · have h0 := dp_same e3 h0
      have g0 := dp_same e3 g0
      have g1 := dp_same e3 g1
      have e13 := e1.trans e3
      refine sd_asg (K := K) (EvN.list (en_lc (List.range m.length) (fun j : Nat => PyData.int (j : Int)) (fun j : Nat => !decide (V.int (j : Int) = V.int (k : Int)) && minds m st j) (fun j : Nat => PyData.int (j : Int)) (ei_range (ea_cons (ev_is (ev_lenD (ed_var rfl h0) (.inl rfl)) (by rw [List.length_map])) ea_nil) (m_le g (by decide))) (by rw [List.length_range]; exact m_le g (by decide)) (fun _ _ => by unfold fz; rfl) fun i a H4 x hx e4 hdx R kk => ?_)) fun w4 H4 e4 g4 => ?_
      · obtain rfl := dp_int hdx
        have ha : a < m.length := List.mem_range.mp (List.mem_of_getElem? hx)
        refine kk _ rfl (et_and (et_test (ev_op (ev_var rfl) (ev_var rfl) (rv_ne rfl))) fun _ => et_B (ev_bl (ed_call (eds_cons (ed_var rfl (dp_same e4 h0)) (eds_cons (ed_var rfl (dp_same e4 g0)) (eds_cons (ed_var rfl (.int _)) eds_nil))) ⟨m, st, a, g, ft.l1, ha, rfl, rfl⟩))) fun _ => ed_var rfl (.int _)
      · have h0 := dp_same e4 h0
        have g1 := dp_same e4 g1
        dsimp only
        refine sd_ret (K := K) (ed_bl (ev_allD (bs := ((List.range m.length).filter fun (j : Nat) => !decide (V.int (j : Int) = V.int (k : Int)) && minds m st j).map fun (j : Nat) => decide (wt st j < (wr m j).2.2.1)) (EvN.list ?_))) fun v H5 e5 hv => ?_
        · rw [List.map_map]
          refine en_map _ (fun j : Nat => PyData.int (j : Int)) _ (ei_lst (ed_var rfl g4)) ?_ (fun _ _ => by show fz (PyData.bool _) = true; unfold fz; rfl) fun i a H6 x hx e6 hdx R kk => ?_
          · have h1 := List.length_filter_le (fun j : Nat => !decide (V.int (j : Int) = V.int (k : Int)) && minds m st j) (List.range m.length)
            rw [List.length_range] at h1
            exact Nat.le_trans h1 (m_le g (by decide))
          · obtain rfl := dp_int hdx
            have ha : a < m.length := List.mem_range.mp (List.mem_filter.mp (List.mem_of_getElem? hx)).1
            exact kk _ rfl (ed_bl (ev_op (ev_int (ed_ixT (ed_var rfl (dp_same e6 g1)) (ev_var rfl) (by omega) (dI_get (by rw [ft.l2]; exact ha)))) (ev_int (ed_ixT (ed_ixL (ed_var rfl (dp_same e6 h0)) (ev_var rfl) (by omega) (dW_get ha)) ev_c (by decide) rfl)) rv_I0))
        · refine q v H5 (e13.trans (e4.trans e5)) ?_
          unfold mayW
          rw [if_neg (by rw [hb]; exact Bool.false_ne_true)]
          exact hv
theorem ok_after {f : Addr} {fd : FuncData} {k : Nat} (F : Fun K "_law_after" "_law_after" sLAfter f fd) (T : Txt mg) (C__law_waits_count : Cal P w K mg base k "_law_waits_count" ["_law_m", "_law_places", "_law_at"] (spP K RCounts)) : FnOk P w K mg base CX0 (k + 1) f fd ["_law_m", "_law_stand", "_law_spot", "_law_to"] (spP K RAfter) := by
  refine F.ok sc__law_after (fun vs H Q E h => ?_) (fun cdv A outer s H vs Q E hr h => ?_)
  · obtain ⟨ds, d, hd, ⟨m, s, k, to, _, _, _, rfl, _⟩, _⟩ := h
    exact hd.length
  · obtain ⟨ds, d, hd, ⟨m, st, k, to, g, ft, hk, rfl, rfl⟩, q⟩ := h
    obtain ⟨v0, v1, v2, v3, rfl, h0, h1, h2, h3⟩ := dps4 hd
    obtain rfl := dp_int h2
    obtain rfl := dp_int h3
    refine ⟨_, (pss_cons (ps_asg (pv 1) (pg_tup rfl (pgs_cons (pg_name (i := 4) sc__law_after.nd rfl (.inr rfl)) (pgs_cons (pg_name (i := 5) sc__law_after.nd rfl (.inl rfl)) (pgs_cons (pg_name (i := 6) sc__law_after.nd rfl (.inl rfl)) pgs_nil)))))
    (pss_cons (ps_setLc (i := 7) (own := [("_law_at", 10), ("_law_wait", 11)]) (g := (gTup K 2 (gCons (gName 10) (gCons (gName 11) gNil)))) (by rfl) sc__law_after.nd rfl rfl (sw_true rfl rfl rfl (by decide +kernel)) (pi_enumT (by rfl) T.m_enumerate (pa_cons (pv 5) pa_nil)) (blkOk_by (own := [("_law_at", 10), ("_law_wait", 11)]) (N := ["_law_m", "_law_stand", "_law_spot", "_law_to", "_law_places", "_law_waits", "_law_run", "_law_later", "_law_many", "_law_fresh_here", "_law_at", "_law_wait"]) (sc := defScope sLAfter) (by decide +kernel)) (fun _ _ _ _ _ => (pg_tup rfl (pgs_cons (pg_name (i := 10) sc__law_after.nd rfl (.inl rfl)) (pgs_cons (pg_name (i := 11) sc__law_after.nd rfl (.inl rfl)) pgs_nil)))) (fun _ _ _ _ _ => pts_nil) (fun _ _ _ _ _ => (pe_op op_add (pv 11) (pe_callTy call_int1 (by rfl) T.m_int (by decide +kernel) (pa_cons (pe_callC C__law_waits_count hr (by rfl) (pa_cons (pv 0) (pa_cons (pv 4) (pa_cons (pv 10) pa_nil)))) pa_nil)))))
    (pss_cons (ps_asg pe_int (pg_sub (pv 7) (pv 2) set_list))
    (pss_cons (ps_set (i := 8) sc__law_after.nd rfl (.inl rfl) (pe_ifExp (pt_cmpR op_eq (pe_ix ix_tup (pv 6) pe_int (fun _ _ => rfl)) (pv 2) (nomark _)) (pe_op op_add (pe_ix ix_tup (pv 6) pe_int (fun _ _ => rfl)) pe_int) pe_int))
    (pss_cons (ps_set (i := 9) sc__law_after.nd rfl (.inl rfl) (pe_ifExp (pt_cmpR op_gt (pe_ix ix_tup (pe_ix ix_list (pv 0) (pv 2) (fun _ _ => rfl)) pe_int (fun _ _ => rfl)) pe_int (nomark _)) (pe_tup (pa_cons (pv 2) (pa_cons (pv 8) pa_nil))) (pe_tup (pa_cons (pe_un un_neg pe_int) (pa_cons pe_int pa_nil)))))
    (pss_one (ps_ret (pe_tup (pa_cons (pe_op op_catA (pe_op op_catA (pe_slice sl_tupA (pv 4) po_none (po_some (pv 2))) (pe_tup (pa_cons (pv 3) pa_nil))) (pe_slice sl_tupA (pv 4) (po_some (pe_op op_add (pv 2) pe_int)) po_none)) (pa_cons (pe_callTy call_tuple_of (by rfl) T.m_tuple (by decide +kernel) (pa_cons (pv 7) pa_nil)) (pa_cons (pv 9) pa_nil))))))))))), ?_⟩
    refine sd_un3 (ed_var rfl h1) fun w0 w1 w2 H1 e1 g0 g1 g2 => ?_
    have h0 := dp_same e1 h0
    have hl2 : st.2.1.length ≤ 40000 := by rw [ft.l2]; exact m_le g (by decide)
    have hk2 : k < st.2.1.length := by rw [ft.l2]; exact hk
    let ns : List Int := (List.range st.2.1.length).map fun (j : Nat) => wt st j + (if minds m st j then 1 else 0)
    dsimp only
    refine sd_asgN (K := K) (ds := ns.map PyData.int) ?_ fun p vs H2 np e2 hp hvs => ?_
    · rw [show ns.map PyData.int = (List.range st.2.1.length).map fun (j : Nat) => PyData.int (wt st j + (if minds m st j then 1 else 0)) from List.map_map]
      refine en_map _ (fun j : Nat => PyData.tuple [.int (j : Int), .int (st.2.1.getD j 0)]) _ (enum_range st.2.1 ▸ ei_enumT (ed_var rfl g1)) (by rw [List.length_range]; exact hl2) (fun _ _ => by show fz (PyData.int _) = true; unfold fz; rfl) fun i a H6 x hx e6 hdx R kk => tg2 hdx fun u1 u2 a1 a2 => ?_
      obtain rfl := dp_int a1
      obtain rfl := dp_int a2
      have ha : a < m.length := by
        rw [← ft.l2]
        exact List.mem_range.mp (List.mem_of_getElem? hx)
      exact kk _ rfl (ed_int (ev_op (ev_var rfl) (ev_intB (ev_bl (ed_call (eds_cons (ed_var rfl (dp_same e6 h0)) (eds_cons (ed_var rfl (dp_same e6 g0)) (eds_cons (ed_var rfl (.int _)) eds_nil))) ⟨m, st, a, g, ft.l1, ha, rfl, rfl⟩))) rv_I0))
    · have hvs := dps_int hvs
      subst hvs
      have nsl : (ns.map V.int).length = st.2.1.length := by
        rw [List.length_map, List.length_map, List.length_range]
      refine ⟨.ref p, rfl, .int (k : Int), rfl, p, _, (k : Int), k, rfl, rfl, hp, ixN_nat (by rw [nsl]; exact hk2), ?_⟩
      have eset : (ns.map V.int).set k (.int 0) = ((List.range st.2.1.length).map fun (j : Nat) => if (!decide (V.int (j : Int) = V.int (k : Int)) && minds m st j) = true then wt st j + 1 else 0).map V.int := by
        rw [← later_eq ft hk, List.map_set]
      rw [eset]
      generalize hL : ((List.range st.2.1.length).map fun (j : Nat) => if (!decide (V.int (j : Int) = V.int (k : Int)) && minds m st j) = true then wt st j + 1 else 0) = L
      have e0 : Ex H1 (upd H2 p (.lst (L.map V.int))) := Ex.mut e2 np
      have h0 := dp_same e0 h0
      have g0 := dp_same e0 g0
      have g2 := dp_same e0 g2
      have gL : Dp K (upd H2 p (.lst (L.map V.int))) (.ref p) (.list (L.map PyData.int)) := .lst (.of upd_same) (dps_ints L)
      generalize upd H2 p (.lst (L.map V.int)) = H3 at e0 h0 g0 g2 gL
      refine sd_asg (K := K) (d := .int (if V.int st.2.2.1 = V.int (k : Int) then st.2.2.2 + 1 else 1)) (ed_if (b := decide (V.int st.2.2.1 = V.int (k : Int))) (et_test (ev_op (ev_int (ed_ixT (ed_var rfl g2) ev_c (by decide) rfl)) (ev_var rfl) (rv_eq rfl))) (fun hm => ?_) fun hm => ?_) fun w5 H5 e5 g5 => ?_
      · rw [if_pos (of_decide_eq_true hm)]
        exact ed_int (ev_op (ev_int (ed_ixT (ed_var rfl g2) ev_c (by decide) rfl)) ev_c rv_I0)
      · rw [if_neg (of_decide_eq_false hm)]
        exact ed_int ev_c
      · dsimp only
        have h0 := dp_same e5 h0
        have c0 := (g.at hk).c0
        refine sd_asg (K := K) (d := .tuple [.int (behind m st k to).2.2.1, .int (behind m st k to).2.2.2]) (ed_if (b := decide ((wr m k).2.2.2 > 0)) (et_test (ev_op (ev_int (ed_ixT (ed_ixL (ed_var rfl h0) (ev_var rfl) (by omega) (dW_get hk)) ev_c (by decide) rfl)) ev_c rv_I0)) (fun hm => ?_) fun hm => ?_) fun w6 H6 e6 g6 => ?_
        · have hm := of_decide_eq_true hm
          unfold behind
          rw [if_neg (show ¬ V.int (wr m k).2.2.2 = V.int 0 from fun z => by injection z with z; omega)]
          exact ed_tup (eds_cons (ed_int (ev_var rfl)) (eds_cons (ed_var rfl g5) eds_nil)) (by show 2 ≤ 100000; decide)
        · have hm := of_decide_eq_false hm
          unfold behind
          rw [if_pos (show V.int (wr m k).2.2.2 = V.int 0 by congr 1; omega)]
          exact ed_tup (eds_cons (ed_int (ev_un ev_c ru_neg)) (eds_cons (ed_int ev_c) eds_nil)) (by show 2 ≤ 100000; decide)
        · dsimp only
          have e36 := e5.trans e6
          have g0 := dp_same e36 g0
          have gL := dp_same e36 gL
          have l1 := ft.l1
          have l3 := g.len
          refine sd_ret (K := K) (d := dS (behind m st k to)) (ed_tup (eds_cons (d := dI (behind m st k to).1) (ed_is (ed_catA (ed_catA (ed_slTo (ed_var rfl g0) (ev_var rfl)) (ed_tup (eds_cons (ed_int (ev_var rfl)) eds_nil) (by show 1 ≤ 100000; decide)) ?_) (ed_slFrom (k := k + 1) (ed_var rfl g0) (ev_op (ev_var rfl) ev_c rv_I0)) ?_) ?_) (eds_cons (d := dI (behind m st k to).2.1) (ed_is (ed_tuple (ed_var rfl gL)) ?_) (eds_cons (ed_var rfl g6) eds_nil))) (by show 3 ≤ 100000; decide)) fun v H7 e7 hv => q v H7 (((e1.trans e0).trans e36).trans e7) hv
          · simp only [List.length_take, List.length_map, List.length_cons, List.length_nil]
            omega
          · simp only [List.length_append, List.length_take, List.length_drop, List.length_map, List.length_cons, List.length_nil]
            omega
          · unfold behind dI
            rw [List.append_assoc, List.map_append, List.map_take, List.map_cons, List.map_drop]
            rfl
          · rw [← hL]
            rfl
end
end Ink
namespace Ink
open PySem PySem.Spec PyProof.Rows L2 Evl
/-! ### the law's steps are sorted like the program's -/
def dL (m : List Wr) (s : Std) (x : Mv) : PyData := .tuple [.str x.1, .int (x.2.1 : Int), dS (behind m s x.2.1 x.2.2)]
theorem fz_dL (m : List Wr) (s : Std) (x : Mv) : fz (dL m s x) = true := by
  have h := fz_dS (behind m s x.2.1 x.2.2)
  unfold dL
  simp only [fz, fzAll, h, Bool.and_true]
theorem alike_ints : ∀ a b : List Int, PySem.W.alikeAll (a.map PyData.int) (b.map PyData.int) = true
  | [], _ => by simp only [List.map_nil, PySem.W.alikeAll]
  | _ :: _, [] => by simp only [List.map_cons, List.map_nil, PySem.W.alikeAll]
  | x :: a, y :: b => by simp only [List.map_cons, PySem.W.alikeAll, PySem.W.alike, alike_ints a b, Bool.and_self]
theorem alike_dS (a b : Std) : PySem.W.alike (dS a) (dS b) = true := by
  unfold dS dI
  simp only [PySem.W.alike, PySem.W.alikeAll, alike_ints, Bool.and_self]
theorem alike_dL (m : List Wr) (s : Std) (a b : Mv) : PySem.W.alike (dL m s a) (dL m s b) = true := by
  unfold dL
  simp only [PySem.W.alike, PySem.W.alikeAll, alike_dS, Bool.and_self]
theorem depth_dI (a : List Int) : (dI a).depth ≤ 2 := by
  have := depth_map (f := PyData.int) (n := 1) (l := a) fun x _ => by simp only [PyData.depth]; omega
  unfold dI
  simp only [PyData.depth]
  omega
theorem depth_dS (a : Std) : (dS a).depth ≤ 6 := by
  have h1 := depth_dI a.1
  have h2 := depth_dI a.2.1
  unfold dS
  simp only [PyData.depth, PyData.depthAll]
  omega
theorem depth_dL (m : List Wr) (s : Std) (a : Mv) : (dL m s a).depth ≤ 64 := by
  have h1 := depth_dS (behind m s a.2.1 a.2.2)
  unfold dL
  simp only [PyData.depth, PyData.depthAll]
  omega
theorem lex_tok (x x' : List Nat) (n n' : Int) (r r' : List (Int ⊕ List Nat)) (h : x ≠ x' ∨ n ≠ n') : PyProof.Rows.lexLt PyProof.Rows.itemOrd (.inl 1 :: .inr x :: .inl 1 :: .inl n :: r) (.inl 1 :: .inr x' :: .inl 1 :: .inl n' :: r') = PyProof.Rows.lexLt PyProof.Rows.itemOrd ([.inl 1, .inr x, .inl 1, .inl n] : List (Int ⊕ List Nat)) [.inl 1, .inr x', .inl 1, .inl n'] := by
  rw [PyProof.Rows.lex_self, PyProof.Rows.lex_self]
  by_cases e : x = x'
  · subst e
    have hn : n ≠ n' := h.elim (fun z => absurd rfl z) id
    rw [PyProof.Rows.lex_self, PyProof.Rows.lex_self, PyProof.Rows.lex_self, PyProof.Rows.lex_self]
    have hne : (Sum.inl n : Int ⊕ List Nat) ≠ Sum.inl n' := fun z => hn (by injection z)
    exact PySem.W.lex_atom hne _ _
  · have hne : (Sum.inr x : Int ⊕ List Nat) ≠ Sum.inr x' := fun z => e (by injection z)
    rw [PySem.W.lex_atom hne, PySem.W.lex_atom hne [.inl 1, .inl n]]
theorem toks_mv (a : Mv) : ∃ r, PySem.W.keyToks (dMv a) = .inl 1 :: .inr a.1.cps.toList :: .inl 1 :: .inl (a.2.1 : Int) :: r := by
  unfold dMv
  simp only [PySem.W.keyToks, PySem.W.keyToksAll, List.cons_append, List.nil_append]
  exact ⟨_, rfl⟩
theorem toks_dL (m : List Wr) (s : Std) (a : Mv) : ∃ r, PySem.W.keyToks (dL m s a) = .inl 1 :: .inr a.1.cps.toList :: .inl 1 :: .inl (a.2.1 : Int) :: r := by
  unfold dL
  simp only [PySem.W.keyToks, PySem.W.keyToksAll, List.cons_append, List.nil_append]
  exact ⟨_, rfl⟩
theorem le_tok (x y : PyData) : PySem.W.dataLe false id x y = !PyProof.Rows.lexLt PyProof.Rows.itemOrd (PySem.W.keyToks y) (PySem.W.keyToks x) := rfl
theorem moves_uniq {m : List Wr} (g : GoodM m) {s : Std} {a b : Mv} (ha : a ∈ moves m s) (hb : b ∈ moves m s) (h1 : a.1 = b.1) (h2 : a.2.1 = b.2.1) : a = b := by
  unfold moves at ha hb
  obtain ⟨i, hi, hai⟩ := List.mem_flatMap.mp ha
  obtain ⟨j, hj, hbj⟩ := List.mem_flatMap.mp hb
  unfold movesAt at hai hbj
  split at hai
  · split at hbj
    · obtain ⟨x, hx, rfl⟩ := List.mem_map.mp hai
      obtain ⟨y, hy, rfl⟩ := List.mem_map.mp hbj
      have e : i = j := h2
      subst e
      obtain ⟨x1, x2⟩ := List.mem_filter.mp hx
      obtain ⟨y1, y2⟩ := List.mem_filter.mp hy
      have x2 := of_decide_eq_true x2
      have y2 := of_decide_eq_true y2
      injection x2 with x2
      injection y2 with y2
      have h1 : x.2.1 = y.2.1 := h1
      have no : ∀ u v : Arw, u.1 = v.1 → u.2.1 = v.2.1 → ¬ lessA u v := fun u v e1 e2 h => by
        rcases h with h | ⟨_, h⟩
        · omega
        · rw [e2] at h
          exact List.lt_irrefl _ h
      have rise := (g.at (List.mem_range.mp hi)).rise
      obtain ⟨p, hp, ep⟩ := List.mem_iff_getElem.mp x1
      obtain ⟨q, hq, eq⟩ := List.mem_iff_getElem.mp y1
      have exy : x = y := by
        rcases Nat.lt_trichotomy p q with h | h | h
        · have := (List.pairwise_iff_getElem.mp rise) p q hp hq h
          rw [ep, eq] at this
          exact absurd this (no x y (by omega) h1)
        · subst h
          exact ep.symm.trans eq
        · have := (List.pairwise_iff_getElem.mp rise) q p hq hp h
          rw [ep, eq] at this
          exact absurd this (no y x (by omega) h1.symm)
      rw [exy]
    · cases hbj
  · cases hai
theorem le_same {m : List Wr} (g : GoodM m) {s : Std} {a b : Mv} (ha : a ∈ moves m s) (hb : b ∈ moves m s) : leMv a b = PySem.W.dataLe false id (dL m s a) (dL m s b) := by
  unfold leMv
  rw [le_tok, le_tok]
  by_cases h : a = b
  · subst h
    rw [PyProof.Rows.lex_irrefl, PyProof.Rows.lex_irrefl]
  · obtain ⟨r1, e1⟩ := toks_mv a
    obtain ⟨r2, e2⟩ := toks_mv b
    obtain ⟨r3, e3⟩ := toks_dL m s a
    obtain ⟨r4, e4⟩ := toks_dL m s b
    have hne : b.1.cps.toList ≠ a.1.cps.toList ∨ (b.2.1 : Int) ≠ (a.2.1 : Int) := by
      by_cases h1 : b.1.cps.toList = a.1.cps.toList
      · refine .inr fun h2 => h (moves_uniq g ha hb (PySem.W.str_of_cps h1).symm ?_)
        omega
      · exact .inl h1
    rw [e1, e2, e3, e4, lex_tok _ _ _ _ _ _ hne, lex_tok _ _ _ _ r4 r3 hne]
theorem sort_dL {m : List Wr} (g : GoodM m) (s : Std) : ((moves m s).map (dL m s)).mergeSort (PySem.W.dataLe false id) = ((moves m s).mergeSort leMv).map (dL m s) :=
  (List.map_mergeSort (r := leMv) (s := PySem.W.dataLe false id) (f := dL m s) (l := moves m s) fun a ha b hb => le_same g ha hb).symm
theorem moves_at {m : List Wr} {s : Std} {a : Mv} (h : a ∈ moves m s) : a.2.1 < m.length := by
  unfold moves at h
  obtain ⟨j, hj, hmj⟩ := List.mem_flatMap.mp h
  unfold movesAt at hmj
  split at hmj
  · obtain ⟨y, _, rfl⟩ := List.mem_map.mp hmj
    exact List.mem_range.mp hj
  · cases hmj
theorem movesAt_len {m : List Wr} (g : GoodM m) (s : Std) {i : Nat} (h : i < m.length) : (movesAt m s i).length ≤ 9 := by
  unfold movesAt
  split
  · rw [List.length_map]
    have h1 := List.length_filter_le (fun x : Arw => decide (V.int x.1 = V.int (pl s i))) (wr m i).2.1
    have h2 := (g.at h).len
    omega
  · exact Nat.zero_le _
theorem moves_part {m : List Wr} (g : GoodM m) (s : Std) {i : Nat} (h : i ≤ m.length) : ((List.range i).flatMap (movesAt m s)).length ≤ 27 := by
  refine Nat.le_trans ?_ (moves_len g s)
  unfold moves
  have : (List.range m.length) = List.range i ++ (List.range (m.length - i)).map (i + ·) := by
    rw [← List.range_add]
    congr 1
    omega
  rw [this, List.flatMap_append, List.length_append]
  omega
section
variable {P : Program} {w : World} {K : PySem.W.Frag} {mg : Str → Option Value} {base : Heap}
theorem range_get {n i : Nat} {d : PyData} (h : ((List.range n).map fun (i : Nat) => PyData.int (i : Int))[i]? = some d) : i < n ∧ d = .int (i : Int) := by
  have hi : i < n := by
    have := (List.getElem?_eq_some_iff.mp h).1
    rw [List.length_map, List.length_range] at this
    exact this
  rw [List.getElem?_map, List.getElem?_range hi] at h
  exact ⟨hi, (Option.some.inj h).symm⟩
/-- a contract of data alone, told in a new list -/
def spN (K : PySem.W.Frag) (R : List PyData → List PyData → Prop) : Sp := fun vs H Q _ => ∃ ds es, DpAll K H vs ds ∧ R ds es ∧ ∀ p us H', H p = none → Same H H' → H' p = some (.lst us) → DpAll K H' us es → Q (.ref p) H'
theorem en_call {σ : L2.St} {H : Hp} {R : List PyData → List PyData → Prop} {E : XK} {ta : TA} {ds es : List PyData} (h : EvDs K ta σ H ds) (hR : R ds es) : EvN K (tCall (spN K R) [] E ta) σ H es := fun H1 e Q q =>
  h H1 e _ fun vs H2 e2 hds => by
    show spN K R (vs ++ []) H2 Q E
    rw [List.append_nil]
    exact ⟨ds, es, hds, hR, fun p us H3 np s3 hp hd => q p us H3 (fresh_back e2 np) (e2.trans s3) hp hd⟩
theorem sd_retN {σ : L2.St} {H : Hp} {te : TE} {D : Ends} {ds : List PyData} (h : EvN K te σ H ds) (k : ∀ p vs H1, H p = none → Ex H H1 → H1 p = some (.lst vs) → DpAll K H1 vs ds → D.rt (.ref p) H1) : tRet te D σ H := h H (.refl H) _ k
def RLN : List PyData → List PyData → Prop := fun ds es => ∃ m s, GoodM m ∧ Okay m s ∧ ds = [dMl m, dS s] ∧ es = (stepsOf m s).map dStep
theorem ok_lsteps {f : Addr} {fd : FuncData} {k : Nat} (F : Fun K "_law_steps" "_law_steps" sLSteps f fd) (T : Txt mg) (C__law_can : Cal P w K mg base k "_law_can" ["_law_m", "_law_stand", "_law_spot"] (spP K RCan))
    (C__law_arrows : Cal P w K mg base k "_law_arrows" ["_law_writer_here", "_law_place"] (spP K RArrs)) (C__law_after : Cal P w K mg base k "_law_after" ["_law_m", "_law_stand", "_law_spot", "_law_to"] (spP K RAfter)) : FnOk P w K mg base CX0 (k + 1) f fd ["_law_m", "_law_stand"] (spN K RLN) := by
  refine F.ok sc__law_steps (fun vs H Q E h => ?_) (fun cdv A outer s H vs Q E hr h => ?_)
  · obtain ⟨ds, d, hd, ⟨m, s, _, _, rfl, _⟩, _⟩ := h
    exact hd.length
  · obtain ⟨ds, d, hd, ⟨m, st, g, ft, rfl, rfl⟩, q⟩ := h
    obtain ⟨v0, v1, rfl, h0, h1⟩ := dps2 hd
    refine ⟨_, (pss_cons (ps_set (i := 2) sc__law_steps.nd rfl (.inl rfl) (pe_lst pa_nil))
    (pss_cons (ps_for PassesOwn.never rfl (pi_range1 (by rfl) T.m_range (pa_cons (pe_callB call_len (by rfl) T.m_len PySem.boot_len (pa_cons (pv 0) pa_nil)) pa_nil)) (pg_name (i := 3) sc__law_steps.nd rfl (.inr rfl))
    (pss_one (ps_if (pt_val (pe_callC C__law_can hr (by rfl) (pa_cons (pv 0) (pa_cons (pv 1) (pa_cons (pv 3) pa_nil)))))
    (pss_cons (ps_set (i := 4) sc__law_steps.nd rfl (.inl rfl) (pe_callC C__law_arrows hr (by rfl) (pa_cons (pe_ix ix_list (pv 0) (pv 3) (fun _ _ => rfl)) (pa_cons (pe_ix ix_tup (pe_ix ix_tup (pv 1) pe_int (fun _ _ => rfl)) (pv 3) (fun _ _ => rfl)) pa_nil))))
    (pss_one (ps_set (i := 2) sc__law_steps.nd rfl (.inl rfl) (pe_op op_cat (pv 2) (pe_lc (own := [("_law_sign", 5), ("_law_to", 6)]) (g := (gTup K 2 (gCons (gName 5) (gCons (gName 6) gNil)))) (by rfl) sc__law_steps.nd (pi_list (pv 4)) (blkOk_by (own := [("_law_sign", 5), ("_law_to", 6)]) (N := ["_law_m", "_law_stand", "_law_found", "_law_spot", "_law_some", "_law_sign", "_law_to", "_law_later"]) (sc := defScope sLSteps) (by decide +kernel)) (fun _ _ _ _ _ => (pg_tup rfl (pgs_cons (pg_name (i := 5) sc__law_steps.nd rfl (.inl rfl)) (pgs_cons (pg_name (i := 6) sc__law_steps.nd rfl (.inl rfl)) pgs_nil)))) (fun _ _ _ _ _ => pts_nil) (fun _ _ _ _ _ => (pe_tup (pa_cons (pv 5) (pa_cons (pv 3) (pa_cons (pe_callC C__law_after hr (by rfl) (pa_cons (pv 0) (pa_cons (pv 1) (pa_cons (pv 3) (pa_cons (pv 6) pa_nil))))) pa_nil)))))))))) pss_nil)))
    (pss_one (ps_ret (pe_lc (own := [("_law_sign", 5), ("_law_spot", 3), ("_law_later", 7)]) (g := (gTup K 3 (gCons (gName 5) (gCons (gName 3) (gCons (gName 7) gNil))))) (by rfl) sc__law_steps.nd (pi_list (pe_callB (cr_sortedD (hu9 hr)) (by rfl) T.m_sorted (by decide +kernel) (pa_cons (pv 2) pa_nil))) (blkOk_by (own := [("_law_sign", 5), ("_law_spot", 3), ("_law_later", 7)]) (N := ["_law_m", "_law_stand", "_law_found", "_law_spot", "_law_some", "_law_sign", "_law_to", "_law_later"]) (sc := defScope sLSteps) (by decide +kernel)) (fun _ _ _ _ _ => (pg_tup rfl (pgs_cons (pg_name (i := 5) sc__law_steps.nd rfl (.inl rfl)) (pgs_cons (pg_name (i := 3) sc__law_steps.nd rfl (.inl rfl)) (pgs_cons (pg_name (i := 7) sc__law_steps.nd rfl (.inl rfl)) pgs_nil))))) (fun _ _ _ _ _ => pts_nil) (fun _ _ _ _ _ => (pe_tup (pa_cons (pv 5) (pa_cons (pe_ix (show IxR _ (rIxT K) from ix_tup) (pe_ix (show IxR _ (rIxL K) from ix_list) (pv 0) (pv 3) (fun _ _ => rfl)) pe_int (fun _ _ => rfl)) (pa_cons (pv 7) pa_nil)))))))))), ?_⟩
    refine sd_asgN (K := K) (en_lst eds_nil (by decide)) fun p vs H1 np e1 hp hvs => ?_
    cases hvs
    dsimp only
    have h0 := dp_same e1 h0
    have h1 := dp_same e1 h1
    have ml := moves_len g st
    refine sd_forS (K := K) (ei_range (ea_cons (ev_is (ev_lenD (ed_var rfl h0) (.inl rfl)) (by rw [List.length_map])) ea_nil) (m_le g (by decide))) (fun H2 i σ' H' => ∃ y3 y4 fp vs, σ' = [some v0, some v1, some (.ref fp), y3, y4, none, none, none] ∧ Ex H2 H' ∧ H' fp = some (.lst vs) ∧ DpAll K H' vs (((List.range i).flatMap (movesAt m st)).map (dL m st)))
      (fun H2 e2 => ⟨none, none, p, [], rfl, .refl _, e2 _ _ hp, .nil⟩) (fun H2 i σ' H' hP => by obtain ⟨_, _, _, _, _, e, _⟩ := hP; exact e) (fun H2 i d x σ' Ha Hb e2 hd hP eab hx => ?_) (fun H2 σ' H' e2 hP => ?_)
    · obtain ⟨y3, y4, fp, vs, rfl, ex, hfp, hvs⟩ := hP
      obtain ⟨hi, rfl⟩ := range_get hd
      obtain rfl := dp_int hx
      have e12 : Ex H1 Hb := (e2.trans ex).trans eab
      have h0 := dp_same e12 h0
      have h1 := dp_same e12 h1
      have hfp := eab _ _ hfp
      have hvs := dps_same eab hvs
      have ef : (List.range (i + 1)).flatMap (movesAt m st) = (List.range i).flatMap (movesAt m st) ++ movesAt m st i := by
        rw [List.range_succ, List.flatMap_append, List.flatMap_cons, List.flatMap_nil, List.append_nil]
      have lb := moves_part g st (Nat.le_of_lt hi)
      have l9 := movesAt_len g st hi
      refine s_if (b := mayW m st i) (et_B (ev_bl (ed_call (eds_cons (ed_var rfl h0) (eds_cons (ed_var rfl h1) (eds_cons (ed_var rfl (.int _)) eds_nil))) ⟨m, st, i, g, ft, hi, rfl, rfl⟩))) (fun hb H3 e3 => ?_) fun hb H3 e3 => ?_
      · have h0 := dp_same e3 h0
        have h1 := dp_same e3 h1
        have emv : movesAt m st i = (arrsAt (wr m i) (pl st i)).map fun x => (x.2.1, i, x.2.2) := by
          unfold movesAt arrsAt
          rw [if_pos hb]
        have hgi := g.at hi
        refine sd_asg (K := K) (d := .list ((arrsAt (wr m i) (pl st i)).map dP)) (ed_call (eds_cons (ed_ixL (ed_var rfl h0) (ev_var rfl) (by omega) (dW_get hi)) (eds_cons (ed_ixT (ed_ixT (ed_var rfl h1) ev_c (by decide) rfl) (ev_var rfl) (by omega) (dI_get (by rw [ft.l1]; exact hi))) eds_nil)) ⟨wr m i, pl st i, hgi.len, rfl, rfl⟩) fun w4 H4 e4 g4 => ?_
        have h0 := dp_same e4 h0
        have h1 := dp_same e4 h1
        dsimp only
        refine sd_asgN (K := K) (en_cat (ds := ((List.range i).flatMap (movesAt m st)).map (dL m st)) (es := (movesAt m st i).map (dL m st)) (em_var rfl ((e3.trans e4) _ _ hfp) (dps_same (e3.trans e4) hvs)) (EvN.m ?_) ?_) fun fp2 vs2 H5 np5 e5 hp5 hvs5 => ?_
        · rw [emv, List.map_map]
          rw [emv, List.length_map] at l9
          refine en_map (arrsAt (wr m i) (pl st i)) dP _ (ei_lst (ed_var rfl g4)) (by omega) (fun x _ => fz_dL m st (x.2.1, i, x.2.2)) fun j a H6 x hx e6 hdx R kk => tg2 hdx fun u1 u2 b1 b2 => ?_
          exact kk _ rfl (ed_tup (eds_cons (ed_var rfl b1) (eds_cons (ed_int (ev_var rfl)) (eds_cons (ed_call (eds_cons (ed_var rfl (dp_same e6 h0)) (eds_cons (ed_var rfl (dp_same e6 h1)) (eds_cons (ed_var rfl (.int _)) (eds_cons (ed_var rfl b2) eds_nil)))) ⟨m, st, i, a.2.2, g, ft, hi, rfl, rfl⟩) eds_nil))) (by show 3 ≤ 100000; decide))
        · rw [List.length_map, List.length_map]
          omega
        · refine ⟨_, _, fp2, vs2, rfl, ((ex.trans eab).trans (e3.trans e4)).trans e5, hp5, ?_⟩
          rw [ef, List.map_append]
          exact hvs5
      · have emv : movesAt m st i = [] := by
          unfold movesAt
          rw [if_neg (by rw [hb]; exact Bool.false_ne_true)]
        refine ⟨_, _, fp, vs, rfl, (ex.trans eab).trans e3, e3 _ _ hfp, ?_⟩
        rw [ef, emv, List.append_nil]
        exact dps_same e3 hvs
    · obtain ⟨y3, y4, fp, vs, rfl, ex, hfp, hvs⟩ := hP
      rw [List.length_map, List.length_range] at hvs
      have hvs : DpAll K H' vs ((moves m st).map (dL m st)) := hvs
      have h0 := dp_same (e2.trans ex) h0
      dsimp only
      refine sd_retN (K := K) (ds := (stepsOf m st).map dStep) ?_ fun p2 us H3 np3 e3 hp3 hus => q p2 us H3 (Same.free ((e1.trans e2).trans ex) np3) (((e1.trans e2).trans ex).trans e3) hp3 hus
      unfold stepsOf
      rw [List.map_map]
      refine en_map ((moves m st).mergeSort leMv) (dL m st) _ ?_ (by rw [List.length_mergeSort]; omega) (fun x _ => fz_dStep (x.1, (wr m x.2.1).1, behind m st x.2.1 x.2.2)) fun j a H5 x hx e5 hdx R kk => tg3 hdx fun u1 u2 u3 b1 b2 b3 => ?_
      · rw [← sort_dL g]
        exact ei_lst (EvN.list (en_sorted (ed_var rfl (.lst (.of hfp) hvs)) (PySem.W.AllAlike.of (alike_dL m st)) (PySem.W.Sortable.tuples fun b => ⟨_, _, rfl⟩) (fun d hd => by
          obtain ⟨a, _, rfl⟩ := List.mem_map.mp hd
          exact depth_dL m st a)))
      · obtain rfl := dp_int b2
        have ha : a.2.1 < m.length := by
          have hm := List.mem_of_getElem? hx
          rw [List.mem_mergeSort] at hm
          exact moves_at hm
        exact kk _ rfl (ed_tup (eds_cons (ed_var rfl b1) (eds_cons (ed_ixT (ed_ixL (ed_var rfl (dp_same e5 h0)) (ev_var rfl) (by omega) (dW_get ha)) ev_c (by decide) rfl) (eds_cons (ed_var rfl b3) eds_nil))) (by show 3 ≤ 100000; decide))
end
end Ink
namespace Ink
open PySem PySem.Spec PyProof.Rows L2 Evl
/-! ### the law's draws of companies and stands -/
def MAt (K : PySem.W.Frag) (H : Hp) (a p : Addr) (m : List Wr) : Prop := ∃ vs, H p = some (.lst vs) ∧ DpAll K H vs (m.map dW) ∧ p ≠ a
theorem fz_dWs (m : List Wr) : fzAll (m.map dW) = true := fz_map fun x _ => fz_dW x
theorem MAt.keep {K : PySem.W.Frag} {H H' : Hp} {a l p : Addr} {m : List Wr} (b : BagAt H a l) (k : Keep a H H') (h : MAt K H a p m) : MAt K H' a p m := by
  obtain ⟨vs, h1, h2, h3⟩ := h
  exact ⟨vs, k p _ h3 h1, dps_keep b k (fz_dWs m) h2, h3⟩
theorem MAt.same {K : PySem.W.Frag} {H H' : Hp} {a p : Addr} {m : List Wr} (e : Same H H') (h : MAt K H a p m) : MAt K H' a p m := by
  obtain ⟨vs, h1, h2, h3⟩ := h
  exact ⟨vs, e _ _ h1, dps_same e h2, h3⟩
theorem MAt.kx {K : PySem.W.Frag} {H H' : Hp} {a p : Addr} {m : List Wr} (e : KX H H') (h : MAt K H a p m) : MAt K H' a p m := by
  obtain ⟨vs, h1, h2, h3⟩ := h
  exact ⟨vs, e.lst h1, e.dps h2, h3⟩
theorem MAt.dp {K : PySem.W.Frag} {H : Hp} {a p : Addr} {m : List Wr} (h : MAt K H a p m) : Dp K H (.ref p) (dMl m) := by
  obtain ⟨vs, h1, h2, h3⟩ := h
  exact .lst (.of h1) h2
/-- other lists change -/
theorem MAt.upd {K : PySem.W.Frag} {H : Hp} {a p q : Addr} {m : List Wr} {xs : List V} {o : HO} (n : p ≠ q) (hq : H q = some (.lst xs)) (h : MAt K H a p m) : MAt K (upd H q o) a p m := by
  obtain ⟨vs, h1, h2, h3⟩ := h
  exact ⟨vs, by rw [upd_ne n]; exact h1, dps_tk (.lst hq) (fz_dWs m) h2, h3⟩
theorem wr_dp {K : PySem.W.Frag} {H : Hp} {W : Addr} {z : Str} {ar : List Arw} {p c : Int} (h : WrAt H W z ar p c) : Dp K H (.ref W) (dW (z, ar, p, c)) := by
  obtain ⟨tp, ps, h1, h2, h3⟩ := h
  have : DpAll K H (ps.map V.ref) (ar.map dA) := by
    unfold ArsAt at h3
    clear h1 h2
    induction h3 with
    | nil => exact .nil
    | @cons p x ps ar r t ih =>
      unfold ArwAt at r
      exact .cons (.tup (.of r) (.cons (.int _) (.cons (.str _) (.cons (.int _) .nil)))) ih
  exact .tup (.of h1) (.cons (.str z) (.cons (.tup (.of h2) this) (.cons (.int p) (.cons (.int c) .nil))))
def spComp (K : PySem.W.Frag) : Sp := fun vs H Q _ => ∃ (a l sp : Addr) (m : Int) (cs : List Nat), vs = [.ref a, .int m, .ref sp] ∧ BagAt H a l ∧ 1 ≤ m ∧ m ≤ 3 ∧ H sp = some (.lst ((cs.map single).map V.str)) ∧ sp ≠ a ∧ (∀ c ∈ cs, c ∈ lets) ∧ cs.Pairwise (· < ·) ∧
  ∀ p ms H', H p = none → GoodM ms → 1 ≤ ms.length → MAt K H' a p ms → BagAt H' a l → Keep a H H' → Q (.ref p) H'
def spAny (K : PySem.W.Frag) : Sp := fun vs H Q _ => ∃ (a l p : Addr) (m : List Wr), vs = [.ref a, .ref p] ∧ BagAt H a l ∧ MAt K H a p m ∧ GoodM m ∧ ∀ v s H', Okay m s → Dp K H' v (dS s) → BagAt H' a l → Keep a H H' → Q v H'
section
variable {P : Program} {w : World} {K : PySem.W.Frag} {mg : Str → Option Value} {base : Heap}
theorem thick_of {v : V} (h : v ∈ [V.int 3, V.int 5, V.int 7, V.int 8]) : ∃ t : Int, v = .int t := by
  simp only [List.mem_cons, List.not_mem_nil, or_false] at h
  rcases h with rfl | rfl | rfl | rfl <;> exact ⟨_, rfl⟩
theorem ok_company {f : Addr} {fd : FuncData} {k : Nat} (F : Fun K "_law_company" "_law_company" sLCompany f fd) (T : Txt mg)
    (C__law_pull : Cal P w K mg base k "_law_pull" ["_law_bag_here", "_law_many"] spPull) (C__law_of : Cal P w K mg base k "_law_of" ["_law_bag_here", "_law_things"] (spOf K))
    (C__law_names : Cal P w K mg base k "_law_names" ["_law_bag_here", "_law_many"] spNames) (C__law_writer : Cal P w K mg base k "_law_writer" ["_law_bag_here", "_law_name", "_law_places", "_law_signs_here", "_law_thick"] spWriter) :
    FnOk P w K mg base CX0 (k + 1) f fd ["_law_bag_here", "_law_limit", "_law_signs_here"] (spComp K) := by
  refine F.ok sc__law_company (fun vs H Q E h => ?_) (fun cdv A outer s H vs Q E hr h => ?_)
  · obtain ⟨a, l, sp, m, cs, rfl, _⟩ := h
    rfl
  · obtain ⟨a, l, sp, m, cs, rfl, hB, m1, m3, hsp, nsp, hcs, hrise, q⟩ := h
    refine ⟨_, (pss_cons (ps_par (i := 3) (j := 4) (by rfl) sc__law_company.nd rfl rfl (by decide) rfl rfl (pa_cons (pe_callC C__law_of hr (by rfl) (pa_cons (pv 0) (pa_cons (pe_lst (pa_cons pe_int (pa_cons pe_int (pa_cons pe_int (pa_cons pe_int pa_nil))))) pa_nil))) (pa_cons (pe_lst pa_nil) pa_nil)) (by rfl))
    (pss_cons (ps_for PassesOwn.never rfl (pi_list (pe_callC C__law_names hr (by rfl) (pa_cons (pv 0) (pa_cons (pe_op op_add pe_int (pe_callC C__law_pull hr (by rfl) (pa_cons (pv 0) (pa_cons (pv 1) pa_nil)))) pa_nil)))) (pg_name (i := 5) sc__law_company.nd rfl (.inl rfl))
    (pss_one (ps_expr (pe_bm PySem.F.plainAttrs_list PySem.F.slot_list_append PySem.F.type_list_append mt_append (pv 4) (pa_cons (pe_callC C__law_writer hr (by rfl) (pa_cons (pv 0) (pa_cons (pv 5) (pa_cons (pe_op op_add pe_int (pe_callC C__law_pull hr (by rfl) (pa_cons (pv 0) (pa_cons pe_int pa_nil)))) (pa_cons (pv 2) (pa_cons (pv 3) pa_nil)))))) pa_nil)))))
    (pss_one (ps_ret (pv 4))))), ?_⟩
    refine ⟨.ref a, rfl, by show 4 ≤ sizeLine; decide, fun p2 np2 => ?_⟩
    refine ⟨a, l, _, _, rfl, hB.upd (hB.ne np2), .inl ⟨p2, rfl, (hB.ne np2).1.symm, .inl (.of upd_same)⟩, by decide, by decide, fun v H1 hv hB1 k1 => ?_⟩
    obtain ⟨t, rfl⟩ := thick_of hv
    have k1 : Keep a H H1 := (Keep.of_same (same_new np2)).trans k1
    refine ⟨by show 0 ≤ sizeLine; decide, fun fp nfp => ?_⟩
    have k2 := k1.trans (Keep.of_same (same_new (o := .lst ([] : List V)) nfp))
    have hB2 := hB1.upd (o := .lst ([] : List V)) (hB1.ne nfp)
    have nl := hB1.ne nfp
    have nfa : fp ≠ a := nl.1.symm
    have hfp : (upd H1 fp (.lst ([] : List V))) fp = some (.lst []) := upd_same
    have hsp2 := k2 _ _ nsp hsp
    have nfsp : sp ≠ fp := ne_of_none (k1 _ _ nsp hsp) nfp
    generalize upd H1 fp (.lst ([] : List V)) = H2 at k2 hB2 hfp hsp2
    refine ⟨_, _, rfl, ?_⟩
    refine ⟨.ref a, rfl, .ref a, rfl, .int m, rfl, a, l, m, rfl, hB2, by omega, by omega, fun r H3 r0 r1 hB3 k3 => ⟨1, r, rfl, rfl, ?_⟩⟩
    refine ⟨a, l, 1 + r, rfl, hB3, by omega, by omega, fun np zs H4 nnp hlen hz hnd hnp hB4 k4 => ?_⟩
    have hnfp : np ≠ fp := fun z => by
      have := k3 _ _ nfa hfp
      rw [z, this] at nnp
      cases nnp
    have nnpa : np ≠ a := fun z => by
      obtain ⟨_, _, _, _, e, _⟩ := hB3
      rw [z, e] at nnp
      cases nnp
    have nfpH : H fp = none := Keep.free k1 nfa.symm nfp
    have k24 := k3.trans k4
    refine ⟨np, rfl, ⟨_, .of hnp⟩, for_it (walk_list (K := K) (xs := zs.map V.str)) (fun i σ' H' => (∃ y5, σ' = [some (.ref a), some (.int m), some (.ref sp), some (.int t), some (.ref fp), y5]) ∧ BagAt H' a l ∧ Keep a H H' ∧ H' np = some (.lst (zs.map V.str)) ∧
      ∃ vs ms, H' fp = some (.lst vs) ∧ DpAll K H' vs (ms.map dW) ∧ ms.map (·.1) = zs.take i ∧ ∀ w ∈ ms, GoodW w.1 w.2.1 w.2.2.1 w.2.2.2) ⟨⟨none, rfl⟩, hB4, k2.trans k24, hnp, [], [], k24 _ _ nfa hfp, .nil, rfl, fun _ h => (by cases h)⟩ (fun i σ' H' _ hP => .of hP.2.2.2.1) (fun i x σ' Ha Hb hi hP hy => ?_) (fun σ' H' hP => ?_)⟩
    · obtain ⟨⟨y5, rfl⟩, hB5, k5, hnp5, vs, ms, hfp5, hvs, hns, hgs⟩ := hP
      obtain ⟨rfl, hx⟩ := hy
      rw [List.getElem?_map] at hx
      rw [List.length_map] at hi
      rw [List.getElem?_eq_getElem hi] at hx
      obtain rfl := (Option.some.inj hx).symm
      have hzi := hz _ (List.getElem_mem hi)
      have hvl : vs.length ≤ 20 := by
        have h1 := hvs.length
        have h2 := congrArg List.length hns
        rw [List.length_map] at h1 h2
        rw [List.length_take] at h2
        omega
      refine ⟨.ref fp, rfl, .inl ⟨rfl, _, .of hfp5⟩, ?_⟩
      refine ⟨.ref a, rfl, .str _, rfl, .ref a, rfl, a, l, 3, rfl, hB5, by decide, by decide, fun r' H6 r0' r1' hB6 k6 => ⟨1, r', rfl, rfl, ?_⟩⟩
      refine ⟨.ref sp, rfl, .int t, rfl, a, l, zs[i], 1 + r', sp, cs, t, rfl, hB6, hzi, by omega, by omega, k6 _ _ nsp (k5 _ _ nsp hsp), nsp, hcs, hrise, fun W ar p c H7 nW hW hG hB7 k7 => ?_⟩
      have k67 := k6.trans k7
      have hfp7 := k67 _ _ nfa hfp5
      have hvs7 := dps_keep hB5 k67 (fz_dWs ms) hvs
      refine ⟨fp, vs, .ref W, rfl, rfl, hfp7, small_lt (by omega), ⟨_, rfl⟩, hB7.upd nl, Keep.mut (k5.trans k67) nfpH, by rw [upd_ne hnfp]; exact k67 _ _ nnpa hnp5, _, ms ++ [(zs[i], ar, p, c)], upd_same, ?_, ?_, ?_⟩
      · rw [List.map_append]
        exact (dps_tk (.lst hfp7) (fz_dWs ms) hvs7).app (.one (dp_tk (.lst hfp7) (fz_dW _) (wr_dp hW)))
      · rw [List.map_append, hns, take_snoc (List.getElem?_eq_getElem hi)]
        rfl
      · intro w hw
        rcases List.mem_append.mp hw with hw | hw
        · exact hgs w hw
        · rw [List.mem_singleton.mp hw]
          exact hG
    · obtain ⟨⟨y5, rfl⟩, hB5, k5, hnp5, vs, ms, hfp5, hvs, hns, hgs⟩ := hP
      rw [List.length_map, List.take_length] at hns
      have hl := congrArg List.length hns
      rw [List.length_map] at hl
      exact ⟨.ref fp, rfl, q fp ms H' nfpH ⟨by omega, hgs, by rw [hns]; exact hnd⟩ (by omega) ⟨vs, hfp5, hvs, nfa⟩ hB5 k5⟩
def iFix (J : It) : TI := fun _ H R => R J H
theorem rng_use {σ : L2.St} {H : Hp} {ta : TA} {n : Nat} {rT : List V → Hp → VK → Prop} {g gn : TG} {tt : TT} {te : TE} {vs : List Nat} {D : Ends} (h : EvA ta σ H [.int (n : Int)]) (hn : n ≤ 100000)
    (k : ∀ H1, Ex H H1 → tAsg (tCB rT (tCons (tLc (iFix (Itr 0 (n : Int).toNat)) g tt te vs) tNil)) gn D σ H1) : tAsg (tCB rT (tCons (tLc (iRng1 ta) g tt te vs) tNil)) gn D σ H := h H (.refl H) _ fun H1 e => ⟨(n : Int), rfl, by omega, by omega, k H1 e⟩
theorem ints_shaped (ns : List Int) : SeqAt.shaped (.list (ns.map PyData.int)) = true := by
  have h1 : PyData.canLayAll0 (ns.map PyData.int) = true := lay_map fun x _ => by simp only [PyData.canLay0]
  have h2 := depth_map (f := PyData.int) (n := 1) (l := ns) fun x _ => by simp only [PyData.depth]; omega
  unfold SeqAt.shaped
  rw [Bool.and_eq_true, decide_eq_true_eq]
  refine ⟨by simp only [PyData.canLay0]; exact h1, ?_⟩
  simp only [PyData.depth]
  omega
theorem q_ifOr {σ : L2.St} {H : Hp} {t u : TT} {tu tz : TS} {D : Ends} {b : Bool} (h : EvT t σ H b) (h1 : b = true → ∀ H1, Ex H H1 → tu { D with nx := tz D } σ H1) (h2 : b = false → ∀ H1, Ex H H1 → tSeq (tIfS u tu tNext) tz D σ H1) : tSeq (tIfS (tOr t u) tu tNext) tz D σ H := h H (.refl H) _ fun H1 e => by
  cases b with
  | true => exact h1 rfl H1 e
  | false => exact h2 rfl H1 e
theorem minds_p (m : List Wr) (s s' : Std) (k : Nat) (h : s.1 = s'.1) : minds m s k = minds m s' k := by
  unfold minds pl
  rw [h]
end
end Ink
namespace Ink
open PySem PySem.Spec PyProof.Rows L2 Evl
/-! ### told alike -/
def okD : Nat → PyData → Prop
  | 0, _ => False
  | n + 1, .list ds => ds.length ≤ 100000 ∧ ∀ d ∈ ds, okD n d
  | n + 1, .tuple ds => ds.length ≤ 100000 ∧ ∀ d ∈ ds, okD n d
  | _ + 1, .dict _ => False
  | _ + 1, .none => True
  | _ + 1, .bool _ => True
  | _ + 1, .int _ => True
  | _ + 1, .str _ => True
theorem lk_dp {K : PySem.W.Frag} {H : Hp} : ∀ (n : Nat) (d : PyData) (v w : V), okD n d → Dp K H v d → Dp K H w d → Lk K H n v w
  | 0, _, _, _, h, _, _ => h.elim
  | n + 1, .none, _, _, _, h1, h2 => by rw [dp_non h1, dp_non h2]; exact .inl ⟨rfl, rfl⟩
  | n + 1, .bool _, _, _, _, h1, h2 => by rw [dp_bl h1, dp_bl h2]; exact .inl ⟨rfl, rfl⟩
  | n + 1, .int _, _, _, _, h1, h2 => by rw [dp_int h1, dp_int h2]; exact .inl ⟨rfl, rfl⟩
  | n + 1, .str _, _, _, _, h1, h2 => by rw [dp_str h1, dp_str h2]; exact .inl ⟨rfl, rfl⟩
  | n + 1, .list ds, _, _, h, h1, h2 => by
    obtain ⟨p, xs, rfl, hp, hxs⟩ := dp_lst h1
    obtain ⟨q, ys, rfl, hq, hys⟩ := dp_lst h2
    have l1 := hxs.length
    have l2 := hys.length
    have h0 := h.1
    refine .inr ⟨p, q, xs, ys, rfl, rfl, .inl ⟨hp, hq⟩, by omega, by omega, fun i x y hx hy => ?_⟩
    obtain ⟨d1, e1, g1⟩ := hxs.at hx
    obtain ⟨d2, e2, g2⟩ := hys.at hy
    rw [e1] at e2
    obtain rfl := Option.some.inj e2
    exact lk_dp n d1 x y (h.2 d1 (List.mem_of_getElem? e1)) g1 g2
  | n + 1, .tuple ds, _, _, h, h1, h2 => by
    obtain ⟨p, xs, rfl, hp, hxs⟩ := dp_tup h1
    obtain ⟨q, ys, rfl, hq, hys⟩ := dp_tup h2
    have l1 := hxs.length
    have l2 := hys.length
    have h0 := h.1
    refine .inr ⟨p, q, xs, ys, rfl, rfl, .inr ⟨hp, hq⟩, by omega, by omega, fun i x y hx hy => ?_⟩
    obtain ⟨d1, e1, g1⟩ := hxs.at hx
    obtain ⟨d2, e2, g2⟩ := hys.at hy
    rw [e1] at e2
    obtain rfl := Option.some.inj e2
    exact lk_dp n d1 x y (h.2 d1 (List.mem_of_getElem? e1)) g1 g2
theorem ok_dI {n : Nat} (ns : List Int) (h : ns.length ≤ 100000) : okD (n + 2) (dI ns) := ⟨by rw [List.length_map]; exact h, fun d hd => by
  obtain ⟨x, _, rfl⟩ := List.mem_map.mp hd
  exact True.intro⟩
theorem ok_dS {n : Nat} (s : Std) (h1 : s.1.length ≤ 100000) (h2 : s.2.1.length ≤ 100000) : okD (n + 3) (dS s) := ⟨by show 3 ≤ 100000; decide, fun d hd => by
  simp only [List.mem_cons, List.not_mem_nil, or_false] at hd
  rcases hd with rfl | rfl | rfl
  · exact ok_dI _ h1
  · exact ok_dI _ h2
  · exact ⟨by show 2 ≤ 100000; decide, fun d hd => by
      simp only [List.mem_cons, List.not_mem_nil, or_false] at hd
      rcases hd with rfl | rfl <;> exact True.intro⟩⟩
theorem ok_dStep {n : Nat} (x : Str × Str × Std) (h1 : x.2.2.1.length ≤ 100000) (h2 : x.2.2.2.1.length ≤ 100000) : okD (n + 4) (dStep x) := ⟨by show 3 ≤ 100000; decide, fun d hd => by
  simp only [List.mem_cons, List.not_mem_nil, or_false] at hd
  rcases hd with rfl | rfl | rfl
  · exact True.intro
  · exact True.intro
  · exact ok_dS _ h1 h2⟩
theorem steps_in {m : List Wr} {s : Std} {x : Str × Str × Std} (h : x ∈ stepsOf m s) : ∃ k to, k < m.length ∧ mayW m s k = true ∧ x = (x.1, (wr m k).1, behind m s k to) ∧ ∃ y ∈ (wr m k).2.1, x.1 = y.2.1 := by
  unfold stepsOf at h
  obtain ⟨y, hy, rfl⟩ := List.mem_map.mp h
  rw [List.mem_mergeSort] at hy
  have hk := moves_at hy
  unfold moves at hy
  obtain ⟨j, hj, hmj⟩ := List.mem_flatMap.mp hy
  unfold movesAt at hmj
  split at hmj
  · obtain ⟨z, hz, rfl⟩ := List.mem_map.mp hmj
    exact ⟨j, z.2.2, hk, ‹_›, rfl, z, (List.mem_filter.mp hz).1, rfl⟩
  · cases hmj
theorem behind_fits {m : List Wr} {s : Std} (f : Fits m s) {k : Nat} (hk : k < m.length) (to : Int) : Fits m (behind m s k to) := by
  have l1 := f.l1
  have l2 := f.l2
  refine ⟨?_, ?_⟩
  · unfold behind
    simp only [List.length_append, List.length_cons, List.length_take, List.length_drop]
    omega
  · unfold behind
    simp only [List.length_map, List.length_range]
    exact l2
theorem ok_steps_data {m : List Wr} (g : GoodM m) {s : Std} (f : Fits m s) : okD 5 (.list ((stepsOf m s).map dStep)) := by
  have ml := moves_len g s
  refine ⟨?_, fun d hd => ?_⟩
  · rw [List.length_map]
    unfold stepsOf
    rw [List.length_map, List.length_mergeSort]
    omega
  · obtain ⟨x, hx, rfl⟩ := List.mem_map.mp hd
    obtain ⟨k, to, hk, _, e, _⟩ := steps_in hx
    have l3 := g.len
    have f2 := behind_fits f hk to
    rw [e]
    refine ok_dStep _ ?_ ?_
    · have := f2.l1
      show (behind m s k to).1.length ≤ 100000
      omega
    · have := f2.l2
      show (behind m s k to).2.1.length ≤ 100000
      omega
theorem CoAt.more {P : Program} {w : World} {K : PySem.W.Frag} {C : Addr} {H : Hp} {c : Addr} {m : List Wr} {n n' : Nat} (h : CoAt P w K C H c m n) (hn : n ≤ n') : CoAt P w K C H c m n' := by
  obtain ⟨dx, tw, d, kvs, h1, h2, h3, h4, h5⟩ := h
  exact ⟨dx, tw, d, kvs, h1, h2, h3, h4, Nat.le_trans h5 hn⟩
section
variable {P : Program} {w : World} {K : PySem.W.Frag} {mg : Str → Option Value} {base : Heap}
theorem nsteps1 : ¬ (("steps" : Str) = "_found") := by decide +kernel
theorem nsteps2 : ¬ (("steps" : Str) = "_writers") := by decide +kernel
theorem nbegin1 : ¬ (("begin" : Str) = "_found") := by decide +kernel
theorem nbegin2 : ¬ (("begin" : Str) = "_writers") := by decide +kernel
end
end Ink
namespace Ink
open PySem PySem.Spec PyProof.Rows L2 Evl
theorem KX.mut {H H' : Hp} {p : Addr} {o : HO} (k : KX H H') (h : H p = none) : KX H (upd H' p o) := fun b u e n => by
  have nb : b ≠ p := fun z => by
    rw [z, h] at e
    cases e
  rw [upd_ne nb]
  exact k b u e n
theorem KX.mut2 {H H1 H2 : Hp} {p : Addr} {o : HO} (k1 : KX H H1) (n : H1 p = none) (k2 : KX H1 H2) : KX H (upd H2 p o) := fun b u e ne => by
  have e1 := k1 b u e ne
  have nb : b ≠ p := fun z => by
    rw [z, n] at e1
    cases e1
  rw [upd_ne nb]
  exact k2 b u e1 ne
theorem okay_begin {m : List Wr} : Okay m (beginS m) := ⟨⟨List.length_replicate, List.length_replicate⟩, fun j hj _ => by
  unfold wt beginS
  rw [List.getD_eq_getElem?_getD, List.getElem?_replicate, if_pos hj]
  rfl, .inl rfl⟩
theorem pl_behind {m : List Wr} {s : Std} (f : Fits m s) {k j : Nat} (hk : k < m.length) (hj : j < m.length) (h : j ≠ k) (to : Int) : pl (behind m s k to) j = pl s j := by
  have l1 := f.l1
  unfold pl behind
  rw [List.getD_eq_getElem?_getD, List.getD_eq_getElem?_getD]
  congr 1
  by_cases hjk : j < k
  · rw [List.getElem?_append_left (by rw [List.length_take]; omega), List.getElem?_take, if_pos hjk]
  · rw [List.getElem?_append_right (by rw [List.length_take]; omega), List.length_take, Nat.min_eq_left (by omega)]
    obtain ⟨d, hd⟩ : ∃ d, j - k = d + 1 := ⟨j - k - 1, by omega⟩
    rw [hd, List.getElem?_cons_succ, List.getElem?_drop]
    congr 1
    omega
theorem wt_behind {m : List Wr} {s : Std} {k j : Nat} (hj : j < s.2.1.length) (to : Int) : wt (behind m s k to) j = if (!decide (V.int (j : Int) = V.int (k : Int)) && minds m s j) = true then wt s j + 1 else 0 := by
  unfold behind
  show List.getD (List.map _ _) j 0 = _
  rw [List.getD_eq_getElem?_getD, List.getElem?_map, List.getElem?_range hj]
  rfl
theorem okay_behind {m : List Wr} (g : GoodM m) {s : Std} (o : Okay m s) {k : Nat} (hk : k < m.length) (hw : mayW m s k = true) (to : Int) : Okay m (behind m s k to) := by
  refine ⟨behind_fits o.toFits hk to, fun j hj hm => ?_, ?_⟩
  · have l2 := o.l2
    rw [wt_behind (by omega)]
    by_cases e : j = k
    · subst e
      rw [decide_eq_true rfl]
      rfl
    · have : minds m s j = false := by
        rw [← hm]
        unfold minds
        rw [pl_behind o.toFits hk hj e to]
      rw [this, Bool.and_false]
      rfl
  · have c0 := (g.at hk).c0
    unfold behind
    by_cases h : V.int (wr m k).2.2.2 = V.int 0
    · rw [if_pos h]
      exact .inl rfl
    · rw [if_neg h]
      have h0 : (wr m k).2.2.2 ≠ 0 := fun z => h (by rw [z])
      refine .inr ⟨k, hk, rfl, h0, ?_⟩
      show (if V.int s.2.2.1 = V.int (k : Int) then s.2.2.2 + 1 else 1) ≤ (wr m k).2.2.2
      by_cases h1 : V.int s.2.2.1 = V.int (k : Int)
      · rw [if_pos h1]
        unfold mayW at hw
        split at hw
        · cases hw
        · rename_i hn
          have : ¬ s.2.2.2 ≥ (wr m k).2.2.2 := fun hge => hn (by rw [decide_eq_false h, decide_eq_true h1, decide_eq_true hge]; rfl)
          omega
      · rw [if_neg h1]
        omega
theorem str_ok {z : Str} (h : ∀ c ∈ z.cps.toList, c ∈ lets) : PyData.strOk z = true := by
  unfold PyData.strOk
  rw [Array.all_eq_true_iff_forall_mem]
  intro c hc
  have := (lets_iff c).mp (h c (by simpa using hc))
  exact decide_eq_true (by omega)
theorem ints_lay (ns : List Int) : (dI ns).canLay0 = true := by
  unfold dI
  simp only [PyData.canLay0]
  exact lay_map fun x _ => by simp only [PyData.canLay0]
theorem dS_lay (s : Std) : (dS s).canLay0 = true := by
  unfold dS
  simp only [PyData.canLay0, PyData.canLayAll0, ints_lay, Bool.and_self]
theorem steps_shaped {m : List Wr} (g : GoodM m) (s : Std) : SeqAt.shaped (.list ((stepsOf m s).map dStep)) = true := by
  have h1 : PyData.canLayAll0 ((stepsOf m s).map dStep) = true := lay_map fun x hx => by
    obtain ⟨k, to, hk, _, e, y, hy, e2⟩ := steps_in hx
    have gk := g.at hk
    obtain ⟨_, _, ⟨c, hc, ec⟩, _⟩ := gk.each y hy
    have z1 : PyData.strOk x.1 = true := by
      rw [e2, ec]
      exact lets_ok c hc
    have z2 : PyData.strOk x.2.1 = true := by
      rw [e]
      exact str_ok gk.name.2.2
    unfold dStep
    simp only [PyData.canLay0, PyData.canLayAll0, dS_lay, z1, z2, Bool.and_self]
  have h2 := depth_map (f := dStep) (n := 10) (l := stepsOf m s) fun x _ => by
    have := depth_dS x.2.2
    unfold dStep
    simp only [PyData.depth, PyData.depthAll]
    omega
  unfold SeqAt.shaped
  rw [Bool.and_eq_true, decide_eq_true_eq]
  refine ⟨by simp only [PyData.canLay0]; exact h1, ?_⟩
  simp only [PyData.depth]
  omega
end Ink
namespace Ink
open PySem PySem.Spec PyProof.Rows L2 Evl
theorem hu65 {k : Nat} {A : Around} (hr : Room k A) : A.units + 65 < cLine := by
  have := hu9 hr
  omega
section
variable {X : Cx} {K : PySem.W.Frag} {o e : Expr} {es : List Expr} {to : TE} {t : TA} {name : Str} {apos cpos : Pos} {T id : String} {r : V → List V → Hp → VK → Prop}
theorem pe_bmK (hK : X.K = K) (pa : PlainAttrs T) (slot : Slot T name id) (hty : typeOf (.builtin id) = pure (.type "method_descriptor")) (hm : MtR X id r) (ho : PE X o to) (ha : PA X (e :: es) t)
    (hbase : attributeBase o name X.env (eval o X.env) = eval o X.env := by rfl)
    (hfew : ((backTo cpos (starEach (e :: es) X.env)).all (fun x => !x.1) && (backToKw cpos (keywordEach [] X.env)).all (fun x => x.1.isSome)
      && decide ((e :: es).length + ([] : List Keyword).length + (if ([] : List Keyword).isEmpty then 0 else 1) < 30)) = true := by rfl)
    (hline : (apos.endLine == cpos.line) = true := by rfl) (hs : starEach (e :: es) X.env = (false, eval e X.env) :: starEach es X.env := by rfl) (hplain : (backTo cpos (starEach es X.env)).any (·.1) = false := by rfl) :
    PE X (.Call (.Attribute o name apos) (e :: es) [] cpos) (tBM K T r to t) := by
  subst hK
  exact pe_bm pa slot hty hm ho ha hbase hfew hline hs hplain
end
section
variable {K : PySem.W.Frag} {σ : L2.St} {H : Hp} {ta tb te : TE} {ds : List PyData} {d : PyData}
theorem ev_inD (ha : EvD K ta σ H d) (hb : EvD K tb σ H (.list ds)) (h1 : SeqAt.shaped d = true) (h2 : SeqAt.shaped (.list ds) = true) : Ev (tOp (rInD K) ta tb) σ H (.bl (ds.any fun z => PyData.eqv z d)) := fun H1 e Q q =>
  ha H1 e _ fun v H2 e2 hv => hb H2 (e.trans e2) _ fun w H3 e3 hw => ⟨d, ds, dp_same e3 hv, hw, h1, h2, q H3 (e2.trans e3)⟩
theorem ev_indexD {j : Nat} {z : PyData} (ha : EvD K ta σ H (.list ds)) (hb : EvD K te σ H d) (h1 : SeqAt.shaped (.list ds) = true) (h2 : SeqAt.shaped d = true) (hz : ds[j]? = some z) (he : PyData.eqv z d = true)
    (hn : ∀ (m : Nat) (z' : PyData), m < j → ds[m]? = some z' → PyData.eqv z' d = false) : Ev (tBM K "list" (rIndexD K) ta (tCons te tNil)) σ H (.int (j : Nat)) := fun H1 e Q q =>
  ha H1 e _ fun v H2 e2 hv => by
    obtain ⟨p, xs, rfl, hs, hxs⟩ := dp_lst hv
    exact ⟨.inl ⟨rfl, xs, hs⟩, hb H2 (e.trans e2) _ fun u H3 e3 hu => ⟨p, u, d, ds, j, z, rfl, rfl, .lst (ex_l e3 hs) (dps_same e3 hxs), hu, h1, h2, hz, he, hn, q H3 (e2.trans e3)⟩⟩
theorem ev_index {j : Nat} {z y : V} {ys : List V} (ha : EvD K ta σ H (.list ds)) (hy : ∀ (H' : Hp) (vs : List V), DpAll K H' vs ds → vs = ys) (hb : Ev te σ H y) (f1 : flatV y = true) (f2 : ys.all flatV = true) (hz : ys[j]? = some z) (he : eqV z y = true)
    (hn : ∀ (m : Nat) (z' : V), m < j → ys[m]? = some z' → eqV z' y = false) : Ev (tBM K "list" (rIndex K) ta (tCons te tNil)) σ H (.int (j : Nat)) := fun H1 e Q q =>
  ha H1 e _ fun v H2 e2 hv => by
    obtain ⟨p, xs, rfl, hs, hxs⟩ := dp_lst hv
    obtain rfl := hy _ _ hxs
    exact ⟨.inl ⟨rfl, xs, hs⟩, hb H2 (e.trans e2) _ fun H3 e3 => ⟨p, xs, y, j, z, rfl, rfl, ex_l e3 hs, f1, f2, hz, he, hn, q H3 (e2.trans e3)⟩⟩
end
end Ink
namespace Ink
open PySem PySem.Spec PyProof.Rows L2 Evl
/-! ### stands carried over: the model -/
def ixW (m : List Wr) (x : Wr) : Option Nat := m.findIdx? fun y => decide (y = x)
def keptW (m m2 : List Wr) : List (Option Nat) := m2.map (ixW m)
def isR (r : Int) : Option Nat → Bool
  | some k => decide ((k : Int) = r)
  | none => false
def ixR (ks : List (Option Nat)) (r : Int) : Option Nat := ks.findIdx? (isR r)
def orN (f : Nat → Int) : Option Nat → Int
  | some k => f k
  | none => 0
def carS (m m2 : List Wr) (s : Std) : Std := ((keptW m m2).map (orN (pl s)), (keptW m m2).map (orN (wt s)), match ixR (keptW m m2) s.2.2.1 with
  | some j => ((j : Int), s.2.2.2)
  | none => (-1, 0))
def dK (n : PyData) : Option Nat → PyData
  | some k => .int (k : Int)
  | none => n
def vK (n : V) : Option Nat → V
  | some k => .int (k : Int)
  | none => n
/-! equality of writers -/
theorem eqv_dA (a b : Arw) : PyData.eqv (dA a) (dA b) = decide (a = b) := by
  obtain ⟨p, s, t⟩ := a
  obtain ⟨p', s', t'⟩ := b
  unfold dA
  simp only [PyData.eqv, PyData.eqvAll, Bool.and_true]
  rw [Bool.eq_iff_iff]
  simp only [Bool.and_eq_true, beq_iff_eq, decide_eq_true_eq, Prod.mk.injEq]
theorem eqv_map {α : Type} [DecidableEq α] {f : α → PyData} (h : ∀ a b, PyData.eqv (f a) (f b) = decide (a = b)) : ∀ xs ys : List α, PyData.eqvAll (xs.map f) (ys.map f) = decide (xs = ys)
  | [], [] => by simp only [List.map_nil, PyData.eqvAll]; rfl
  | [], _ :: _ => by simp only [List.map_nil, List.map_cons, PyData.eqvAll]; rfl
  | _ :: _, [] => by simp only [List.map_nil, List.map_cons, PyData.eqvAll]; rfl
  | x :: xs, y :: ys => by
    simp only [List.map_cons, PyData.eqvAll, h, eqv_map h xs ys]
    rw [Bool.eq_iff_iff]
    simp only [Bool.and_eq_true, decide_eq_true_eq, List.cons.injEq]
theorem eqv_dW (a b : Wr) : PyData.eqv (dW a) (dW b) = decide (a = b) := by
  obtain ⟨n, ar, p, c⟩ := a
  obtain ⟨n', ar', p', c'⟩ := b
  unfold dW
  simp only [PyData.eqv, PyData.eqvAll, Bool.and_true, eqv_map eqv_dA]
  rw [Bool.eq_iff_iff]
  simp only [Bool.and_eq_true, beq_iff_eq, decide_eq_true_eq, Prod.mk.injEq]
theorem any_W (m : List Wr) (x : Wr) : ((m.map dW).any fun z => PyData.eqv z (dW x)) = (ixW m x).isSome := by
  unfold ixW
  rw [List.any_map, List.findIdx?_isSome]
  congr 1
  funext y
  exact eqv_dW y x
theorem ixW_some {m : List Wr} {x : Wr} {j : Nat} (h : ixW m x = some j) : j < m.length ∧ (m.map dW)[j]? = some (dW x) ∧ ∀ (i : Nat) (z' : PyData), i < j → (m.map dW)[i]? = some z' → PyData.eqv z' (dW x) = false := by
  unfold ixW at h
  obtain ⟨h1, h2, h3⟩ := List.findIdx?_eq_some_iff_getElem.mp h
  have h2 := of_decide_eq_true h2
  refine ⟨h1, ?_, fun i z' hi hz => ?_⟩
  · rw [List.getElem?_map, List.getElem?_eq_getElem h1, h2]
    rfl
  · have hil : i < m.length := by omega
    rw [List.getElem?_map, List.getElem?_eq_getElem hil] at hz
    obtain rfl := Option.some.inj hz
    rw [eqv_dW]
    have := h3 i hi
    simpa using this
theorem dA_lay {x : Arw} (h : goodA x) : (dA x).canLay0 = true := by
  obtain ⟨_, _, ⟨c, hc, e⟩, _⟩ := h
  unfold dA
  simp only [PyData.canLay0, PyData.canLayAll0, e, lets_ok c hc, Bool.and_true]
theorem dA_depth (x : Arw) : (dA x).depth ≤ 3 := by
  unfold dA
  simp only [PyData.depth, PyData.depthAll]
  decide
theorem dW_lay {x : Wr} (g : GoodW x.1 x.2.1 x.2.2.1 x.2.2.2) : (dW x).canLay0 = true := by
  have h1 : PyData.canLayAll0 (x.2.1.map dA) = true := lay_map fun y hy => dA_lay (g.each y hy)
  have h2 := str_ok g.name.2.2
  unfold dW
  simp only [PyData.canLay0, PyData.canLayAll0, h1, h2, Bool.and_true]
theorem dW_depth (x : Wr) : (dW x).depth ≤ 8 := by
  have h1 := depth_map (f := dA) (n := 3) (l := x.2.1) fun y _ => dA_depth y
  unfold dW
  simp only [PyData.depth, PyData.depthAll]
  omega
theorem dW_shaped {x : Wr} (g : GoodW x.1 x.2.1 x.2.2.1 x.2.2.2) : SeqAt.shaped (dW x) = true := by
  have h1 := dW_lay g
  have h2 := dW_depth x
  unfold SeqAt.shaped
  rw [Bool.and_eq_true, decide_eq_true_eq]
  exact ⟨h1, by omega⟩
theorem dWs_shaped {m : List Wr} (g : GoodM m) : SeqAt.shaped (.list (m.map dW)) = true := by
  have h1 : PyData.canLayAll0 (m.map dW) = true := lay_map fun y hy => dW_lay (g.wr y hy)
  have h2 := depth_map (f := dW) (n := 8) (l := m) fun y _ => dW_depth y
  unfold SeqAt.shaped
  rw [Bool.and_eq_true, decide_eq_true_eq]
  refine ⟨by simp only [PyData.canLay0]; exact h1, ?_⟩
  simp only [PyData.depth]
  omega
/-! numbers of writers, and none -/
theorem eqV_k {n : V} {r : Int} (hn : eqV n (.int r) = false) (o : Option Nat) : eqV (vK n o) (.int r) = isR r o := by
  cases o with
  | none => exact hn
  | some k => rfl
theorem inV_k {n : V} {r : Int} (hn : eqV n (.int r) = false) (ks : List (Option Nat)) : inV (.int r) (ks.map (vK n)) = (ixR ks r).isSome := by
  unfold inV ixR
  rw [List.any_map, List.findIdx?_isSome]
  congr 1
  funext o
  exact eqV_k hn o
theorem ixR_some {n : V} {r : Int} (hn : eqV n (.int r) = false) {ks : List (Option Nat)} {j : Nat} (h : ixR ks r = some j) : j < ks.length ∧ (ks.map (vK n))[j]? = some (.int r) ∧ ∀ (i : Nat) (z' : V), i < j → (ks.map (vK n))[i]? = some z' → eqV z' (.int r) = false := by
  unfold ixR at h
  obtain ⟨h1, h2, h3⟩ := List.findIdx?_eq_some_iff_getElem.mp h
  refine ⟨h1, ?_, fun i z' hi hz => ?_⟩
  · rw [List.getElem?_map, List.getElem?_eq_getElem h1]
    cases e : ks[j] with
    | none =>
      rw [e] at h2
      cases h2
    | some k =>
      rw [e] at h2
      have h2 : (k : Int) = r := of_decide_eq_true h2
      show some (V.int (k : Int)) = _
      rw [h2]
  · have hil : i < ks.length := by omega
    rw [List.getElem?_map, List.getElem?_eq_getElem hil] at hz
    obtain rfl := Option.some.inj hz
    rw [eqV_k hn _]
    have := h3 i hi
    simpa using this
theorem ixR_neg {ks : List (Option Nat)} {r : Int} (h : r < 0) : ixR ks r = none := by
  unfold ixR
  rw [List.findIdx?_eq_none_iff]
  intro o _
  cases o with
  | none => rfl
  | some k => exact decide_eq_false (by omega)
theorem fz_dK {n : PyData} (h : fz n = true) (o : Option Nat) : fz (dK n o) = true := by
  cases o with
  | none => exact h
  | some k => unfold dK fz; rfl
theorem dps_k {K : PySem.W.Frag} {H : Hp} {n : PyData} {n' : V} (h : ∀ v, Dp K H v n → v = n') : ∀ {vs : List V} {ks : List (Option Nat)}, DpAll K H vs (ks.map (dK n)) → vs = ks.map (vK n')
  | _, [], z => by cases z; rfl
  | _, o :: ks, z => by
    cases z with
    | cons z t =>
      rw [dps_k h t]
      cases o with
      | none => rw [h _ z]; rfl
      | some k => rw [dp_int z]; rfl
theorem flat_k {n : V} (h : flatV n = true) (ks : List (Option Nat)) : (ks.map (vK n)).all flatV = true := List.all_eq_true.mpr fun x hx => by
  obtain ⟨o, _, rfl⟩ := List.mem_map.mp hx
  cases o with
  | none => exact h
  | some k => rfl
theorem kept_in {m m2 : List Wr} {j k : Nat} (h : (keptW m m2)[j]? = some (some k)) : k < m.length := by
  unfold keptW at h
  rw [List.getElem?_map] at h
  cases e : m2[j]? with
  | none =>
    rw [e] at h
    cases h
  | some x =>
    rw [e] at h
    exact (ixW_some (Option.some.inj h)).1
/-- carried to the same company a stand is as it was -/
theorem car_self {m : List Wr} (g : GoodM m) {s : Std} (o : Okay m s) : carS m m s = s := by
  have hk : keptW m m = (List.range m.length).map some := by
    refine List.ext_getElem? fun j => ?_
    unfold keptW
    rw [List.getElem?_map, List.getElem?_map]
    by_cases hj : j < m.length
    · rw [List.getElem?_eq_getElem hj, List.getElem?_range hj]
      show some (ixW m m[j]) = some (some j)
      congr 1
      unfold ixW
      rw [List.findIdx?_eq_some_iff_getElem]
      refine ⟨hj, decide_eq_true rfl, fun i hi => ?_⟩
      have hil : i < m.length := by omega
      have nd := (List.pairwise_iff_getElem.mp g.nd) i j (by rw [List.length_map]; exact hil) (by rw [List.length_map]; exact hj) hi
      rw [List.getElem_map, List.getElem_map] at nd
      rw [Bool.not_eq_true, decide_eq_false_iff_not]
      exact fun z => nd (by rw [z])
    · rw [List.getElem?_eq_none (by omega), List.getElem?_eq_none (by rw [List.length_range]; omega)]
      rfl
  have hm : ∀ (ns : List Int), ns.length = m.length → ((List.range m.length).map some).map (orN fun k => ns.getD k 0) = ns := fun ns hl => by
    rw [List.map_map]
    refine List.ext_getElem? fun j => ?_
    rw [List.getElem?_map]
    by_cases hj : j < m.length
    · rw [List.getElem?_range hj]
      show some (ns.getD j 0) = ns[j]?
      exact (getD_get (by omega)).symm
    · rw [List.getElem?_eq_none (by rw [List.length_range]; omega), List.getElem?_eq_none (by omega)]
      rfl
  obtain ⟨p, q, r, t⟩ := s
  have e1 := hm p o.l1
  have e2 := hm q o.l2
  unfold carS
  rw [hk]
  have e1 : ((List.range m.length).map some).map (orN (pl (p, q, r, t))) = p := e1
  have e2 : ((List.range m.length).map some).map (orN (wt (p, q, r, t))) = q := e2
  rw [e1, e2]
  congr 2
  rcases o.run with e | ⟨k, hk1, e3, _⟩
  · have e : (r, t) = ((-1, 0) : Int × Int) := e
    injection e with e4 e5
    subst e4 e5
    rw [ixR_neg (show (-1 : Int) < 0 by decide)]
  · have e3 : r = (k : Int) := e3
    subst e3
    have : ixR ((List.range m.length).map some) (k : Int) = some k := by
      unfold ixR
      rw [List.findIdx?_eq_some_iff_getElem]
      refine ⟨by rw [List.length_map, List.length_range]; exact hk1, ?_, fun i hi => ?_⟩
      · rw [List.getElem_map, List.getElem_range]
        exact decide_eq_true rfl
      · rw [List.getElem_map, List.getElem_range]
        show ¬ decide ((i : Int) = (k : Int)) = true
        rw [decide_eq_true_eq]
        omega
    rw [this]
theorem car_fits (m m2 : List Wr) (s : Std) : Fits m2 (carS m m2 s) := ⟨by unfold carS keptW; simp only [List.length_map], by unfold carS keptW; simp only [List.length_map]⟩
end Ink
namespace Ink
open PySem PySem.Spec PyProof.Rows L2 Evl
def spWriters (P : Program) (w : World) (K : PySem.W.Frag) (C : Addr) : Sp := fun vs H Q _ => ∃ c m n, vs = [.ref c] ∧ CoAt P w K C H c m n ∧ ∀ p us H', H p = none → Same H H' → H' p = some (.lst us) → DpAll K H' us (m.map dW) → Q (.ref p) H'
def spCar (P : Program) (w : World) (K : PySem.W.Frag) (C : Addr) : Sp := fun vs H Q _ => ∃ c c2 m m2 n n2 v s, vs = [.ref c, .ref c2, v] ∧ CoAt P w K C H c m n ∧ CoAt P w K C H c2 m2 n2 ∧ GoodM m ∧ GoodM m2 ∧ Fits m s ∧ Dp K H v (dS s) ∧ ∀ u H', Same H H' → Dp K H' u (dS (carS m m2 s)) → Q u H'
def RLCar : List PyData → PyData → Prop := fun ds d => ∃ m m2 s, GoodM m ∧ GoodM m2 ∧ Fits m s ∧ ds = [dMl m, dMl m2, dS s] ∧ d = dS (carS m m2 s)
theorem nwri1 : ¬ (("writers" : Str) = "_found") := by decide +kernel
theorem nwri2 : ¬ (("writers" : Str) = "_writers") := by decide +kernel
theorem not_some {α : Type} {o : Option α} (h : o.isSome = false) : o = none := by
  cases o with
  | none => rfl
  | some _ => cases h
section
variable {P : Program} {w : World} {K : PySem.W.Frag} {mg : Str → Option Value} {base : Heap}
theorem ok_writers {f C : Addr} {fd : FuncData} {k : Nat} (F : Fun K "writers" "Company.writers" sCompanyWriters f fd) (T : Txt mg) (Z : CoC K C) : FnOk P w K mg base CX0 (k + 1) f fd ["self"] (spWriters P w K C) := by
  refine F.ok sc_Company_writers (fun vs H Q E h => ?_) (fun cdv A outer s H vs Q E hr h => ?_)
  · obtain ⟨c, m, n, rfl, _⟩ := h
    rfl
  · obtain ⟨c, m, n, rfl, ⟨dx, tw, d, kvs, hc, hw, _⟩, q⟩ := h
    refine ⟨_, (pss_one (ps_ret (pe_callTy call_list_of (by rfl) T.m_list (by decide +kernel) (pa_cons (pe_fld (pv 0) rfl) pa_nil)))), ?_⟩
    exact sd_retN (K := K) (en_list (ed_of (ev_fld (ev_var rfl) hc Z.cl Z.nW (coF_w _ _)) hw) (.inr rfl)) q
theorem en_writers {C c : Addr} {m : List Wr} {n : Nat} {σ : L2.St} {H : Hp} {ta : TE} (ha : Ev ta σ H (.ref c)) (hc : CoAt P w K C H c m n) : EvN K (tMeth C "writers" (spWriters P w K C) [] E0 ta tNil) σ H (m.map dW) := fun H1 e Q q =>
  ha H1 e _ fun H2 e2 => by
    have hc2 := hc.fr (.of (e.trans e2))
    obtain ⟨dx, tw, d, kvs, h1, _⟩ := id hc2
    exact ⟨c, dx, _, rfl, h1, coF_no _ _ nwri1 nwri2, c, m, n, rfl, hc2, fun p us H3 np s3 hp hus => q p us H3 (fresh_back e2 np) (e2.trans s3) hp hus⟩
theorem ev_isN {σ : L2.St} {H : Hp} {ta : TE} {x : V} (ha : Ev ta σ H x) : Ev (tOp (fun x y H Q => y = .non ∧ Q (.bl (decide (x = .non))) H) ta (tC .non)) σ H (.bl (decide (x = .non))) := ev_op ha ev_c fun H1 _ _ q => ⟨rfl, q H1 (.refl H1)⟩
theorem ev_inK {σ : L2.St} {H : Hp} {ta tb : TE} {ks : List (Option Nat)} {n : PyData} {n' : V} {r : Int} (hn : ∀ (H : Hp) v, Dp K H v n → v = n') (hf : flatV n' = true) (hr : eqV n' (.int r) = false) (ha : Ev ta σ H (.int r)) (hb : EvD K tb σ H (.list (ks.map (dK n)))) : Ev (tOp (rIn K false) ta tb) σ H (.bl (ixR ks r).isSome) := fun H1 e Q q =>
  ha H1 e _ fun H2 e2 => hb H2 (e.trans e2) _ fun v H3 e3 hv => by
    obtain ⟨p, xs, rfl, hs, hxs⟩ := dp_lst hv
    rw [dps_k (hn _) hxs] at hs
    exact ⟨p, _, rfl, .inl hs, rfl, flat_k hf ks, by rw [inV_k hr]; exact q H3 (e2.trans e3)⟩
theorem ev_indexK {σ : L2.St} {H : Hp} {ta te : TE} {ks : List (Option Nat)} {n : PyData} {n' : V} {r : Int} {j : Nat} (hn : ∀ (H : Hp) v, Dp K H v n → v = n') (hf : flatV n' = true) (hr : eqV n' (.int r) = false) (ha : EvD K ta σ H (.list (ks.map (dK n)))) (hb : Ev te σ H (.int r)) (h : ixR ks r = some j) : Ev (tBM K "list" (rIndex K) ta (tCons te tNil)) σ H (.int (j : Nat)) := by
  obtain ⟨_, h2, h3⟩ := ixR_some hr h
  exact ev_index ha (fun H' vs hv => dps_k (hn _) hv) hb rfl (flat_k hf ks) h2 (by show (r == r) = true; exact beq_self_eq_true r) h3
end
end Ink
namespace Ink
open PySem PySem.Spec PyProof.Rows L2 Evl
section
variable {P : Program} {w : World} {K : PySem.W.Frag} {mg : Str → Option Value} {base : Heap}
theorem isR_neg {ks : List (Option Nat)} {r : Int} : (decide (r ≥ 0) && (ixR ks r).isSome) = (ixR ks r).isSome := by
  by_cases h : r ≥ 0
  · rw [decide_eq_true h]
    rfl
  · rw [ixR_neg (by omega)]
    exact Bool.and_false _
theorem ok_lcarried {f : Addr} {fd : FuncData} {k : Nat} (F : Fun K "_law_carried" "_law_carried" sLCarried f fd) (T : Txt mg) : FnOk P w K mg base CX0 (k + 1) f fd ["_law_one", "_law_other", "_law_stand"] (spP K RLCar) := by
  refine F.ok sc__law_carried (fun vs H Q E h => ?_) (fun cdv A outer s H vs Q E hr h => ?_)
  · obtain ⟨ds, d, hd, ⟨m, m2, s, _, _, _, rfl, _⟩, _⟩ := h
    exact hd.length
  · obtain ⟨ds, d, hd, ⟨m, m2, st, g, g2, ft, rfl, rfl⟩, q⟩ := h
    obtain ⟨v0, v1, v2, rfl, h0, h1, h2⟩ := dps3 hd
    refine ⟨_, (pss_cons (ps_asg (pv 2) (pg_tup rfl (pgs_cons (pg_name (i := 3) sc__law_carried.nd rfl (.inr rfl)) (pgs_cons (pg_name (i := 4) sc__law_carried.nd rfl (.inr rfl)) (pgs_cons (pg_name (i := 5) sc__law_carried.nd rfl (.inl rfl)) pgs_nil)))))
    (pss_cons (ps_setLc (i := 6) (own := [("_law_writer_here", 9)]) (g := (gName 9)) (by rfl) sc__law_carried.nd rfl rfl (sw_true rfl rfl rfl (by decide +kernel)) (pi_list (pv 1)) (blkOk_by (own := [("_law_writer_here", 9)]) (N := ["_law_one", "_law_other", "_law_stand", "_law_places", "_law_waits", "_law_run", "_law_spots", "_law_fresh_here", "_law_later", "_law_writer_here", "_law_spot"]) (sc := defScope sLCarried) (by decide +kernel)) (fun _ _ _ _ _ => (pg_name (i := 9) sc__law_carried.nd rfl (Or.inl rfl))) (fun _ _ _ _ _ => pts_nil) (fun _ _ _ _ _ => (pe_ifExp (pt_cmpR (show OpR _ _ (rInD K) from op_inD (hu65 hr)) (pv 9) (pv 0) (by rfl)) (pe_bmK (K := K) (r := (rIndexD K)) rfl PySem.F.plainAttrs_list PySem.F.slot_list_index PySem.F.type_list_index (mt_indexD (hu65 hr)) (pv 0) (pa_cons (pv 9) pa_nil)) (pe_un un_neg pe_int))))
    (pss_cons (ps_set (i := 7) sc__law_carried.nd rfl (.inl rfl) (pe_ifExp (PW.pt (pw_and (pt_cmpR op_ge (pe_ix ix_tup (pv 5) pe_int (fun _ _ => rfl)) pe_int (nomark _)) (pw_and1 (pt_cmpR (show OpR _ _ (rIn K false) from op_in_seq) (pe_ix ix_tup (pv 5) pe_int (fun _ _ => rfl)) (pv 6) (by rfl))))) (pe_tup (pa_cons (pe_bmK (K := K) (r := (rIndex K)) rfl PySem.F.plainAttrs_list PySem.F.slot_list_index PySem.F.type_list_index mt_index (pv 6) (pa_cons (pe_ix ix_tup (pv 5) pe_int (fun _ _ => rfl)) pa_nil)) (pa_cons (pe_ix ix_tup (pv 5) pe_int (fun _ _ => rfl)) pa_nil))) (pe_tup (pa_cons (pe_un un_neg pe_int) (pa_cons pe_int pa_nil)))))
    (pss_cons (ps_set (i := 8) sc__law_carried.nd rfl (.inl rfl) (pe_callTy call_tuple_of (by rfl) T.m_tuple (by decide +kernel) (pa_cons (pe_lc (own := [("_law_spot", 10)]) (g := (gName 10)) (by rfl) sc__law_carried.nd (pi_list (pv 6)) (blkOk_by (own := [("_law_spot", 10)]) (N := ["_law_one", "_law_other", "_law_stand", "_law_places", "_law_waits", "_law_run", "_law_spots", "_law_fresh_here", "_law_later", "_law_writer_here", "_law_spot"]) (sc := defScope sLCarried) (by decide +kernel)) (fun _ _ _ _ _ => (pg_name (i := 10) sc__law_carried.nd rfl (Or.inl rfl))) (fun _ _ _ _ _ => pts_nil) (fun _ _ _ _ _ => (pe_ifExp (pt_cmpR op_ge (pv 10) pe_int (nomark _)) (pe_ix (show IxR _ (rIxT K) from ix_tup) (pv 3) (pv 10) (fun _ _ => rfl)) pe_int))) pa_nil)))
    (pss_one (ps_ret (pe_tup (pa_cons (pv 8) (pa_cons (pe_callTy call_tuple_of (by rfl) T.m_tuple (by decide +kernel) (pa_cons (pe_lc (own := [("_law_spot", 10)]) (g := (gName 10)) (by rfl) sc__law_carried.nd (pi_list (pv 6)) (blkOk_by (own := [("_law_spot", 10)]) (N := ["_law_one", "_law_other", "_law_stand", "_law_places", "_law_waits", "_law_run", "_law_spots", "_law_fresh_here", "_law_later", "_law_writer_here", "_law_spot"]) (sc := defScope sLCarried) (by decide +kernel)) (fun _ _ _ _ _ => (pg_name (i := 10) sc__law_carried.nd rfl (Or.inl rfl))) (fun _ _ _ _ _ => pts_nil) (fun _ _ _ _ _ => (pe_ifExp (pt_cmpR op_ge (pv 10) pe_int (nomark _)) (pe_ix (show IxR _ (rIxT K) from ix_tup) (pv 4) (pv 10) (fun _ _ => rfl)) pe_int))) pa_nil)) (pa_cons (pv 7) pa_nil)))))))))), ?_⟩
    have l1 := ft.l1
    have l2 := ft.l2
    refine sd_un3 (ed_var rfl h2) fun w0 w1 w2 H1 e1 g0 g1 g2' => ?_
    dsimp only
    have h0 := dp_same e1 h0
    have h1 := dp_same e1 h1
    have kl : (keptW m m2).length ≤ 40000 := by
      unfold keptW
      rw [List.length_map]
      exact m_le g2 (by decide)
    refine sd_asg (K := K) (d := .list ((keptW m m2).map (dK (.int (-1))))) (EvN.list ?_) fun w4 H3 e3 g4 => ?_
    · rw [show (keptW m m2).map (dK (.int (-1))) = m2.map fun x => dK (.int (-1)) (ixW m x) from List.map_map]
      refine en_map m2 dW _ (ei_lst (ed_var rfl h1)) (m_le g2 (by decide)) (fun x _ => fz_dK (by unfold fz; rfl) _) fun i x H5 y hx e5 hdx R kk => ?_
      have gx := g2.wr x (List.mem_of_getElem? hx)
      refine kk _ rfl (ed_if (b := (ixW m x).isSome) (et_test (ev_is (ev_inD (ed_var rfl hdx) (ed_var rfl (dp_same e5 h0)) (dW_shaped gx) (dWs_shaped g)) (by rw [any_W]))) (fun hb => ?_) fun hb => ?_)
      · obtain ⟨j, hj⟩ := Option.isSome_iff_exists.mp hb
        obtain ⟨_, h2, h3⟩ := ixW_some hj
        rw [hj]
        exact ed_int (ev_indexD (ed_var rfl (dp_same e5 h0)) (ed_var rfl hdx) (dWs_shaped g) (dW_shaped gx) h2 (by rw [eqv_dW]; exact decide_eq_true rfl) h3)
      · rw [not_some hb]
        exact ed_int (ev_un ev_c ru_neg)
    · dsimp only
      have g0 := dp_same e3 g0
      have g1 := dp_same e3 g1
      have g2' := dp_same e3 g2'
      have hn : ∀ (H : Hp) v, Dp K H v (.int (-1)) → v = V.int (-1) := fun H v h => dp_int h
      have hm1 : 0 ≤ st.2.2.1 → eqV (V.int (-1)) (V.int st.2.2.1) = false := fun h => by
        show ((-1 : Int) == st.2.2.1) = false
        rw [beq_eq_false_iff_ne]
        omega
      refine sd_asg (K := K) (d := .tuple [.int (carS m m2 st).2.2.1, .int (carS m m2 st).2.2.2]) (ed_if (b := (ixR (keptW m m2) st.2.2.1).isSome) ?_ (fun hb => ?_) fun hb => ?_) fun w5 H4 e4 g5 => ?_
      · rw [← isR_neg]
        exact et_and (et_test (ev_op (ev_int (ed_ixT (ed_var rfl g2') ev_c (by decide) rfl)) ev_c rv_I0)) fun h0 => et_test (ev_inK hn rfl (hm1 (of_decide_eq_true h0)) (ev_int (ed_ixT (ed_var rfl g2') ev_c (by decide) rfl)) (ed_var rfl g4))
      · obtain ⟨j, hj⟩ := Option.isSome_iff_exists.mp hb
        have hr0 : 0 ≤ st.2.2.1 := by
          rcases Int.lt_or_le st.2.2.1 0 with h | h
          · rw [ixR_neg h] at hj
            cases hj
          · exact h
        unfold carS
        rw [hj]
        exact ed_tup (eds_cons (ed_int (ev_indexK hn rfl (hm1 hr0) (ed_var rfl g4) (ev_int (ed_ixT (ed_var rfl g2') ev_c (by decide) rfl)) hj)) (eds_cons (ed_ixT (ed_var rfl g2') ev_c (by decide) rfl) eds_nil)) (by show 2 ≤ 100000; decide)
      · unfold carS
        rw [not_some hb]
        exact ed_tup (eds_cons (ed_int (ev_un ev_c ru_neg)) (eds_cons (ed_int ev_c) eds_nil)) (by show 2 ≤ 100000; decide)
      · dsimp only
        have g0 := dp_same e4 g0
        have g1 := dp_same e4 g1
        have g4 := dp_same e4 g4
        refine sd_asg (K := K) (d := dI (carS m m2 st).1) (ed_tuple (EvN.list ?_)) fun w6 H5 e5 g6 => ?_
        · rw [show ((carS m m2 st).1).map PyData.int = (keptW m m2).map fun o => PyData.int (orN (pl st) o) from List.map_map]
          refine en_map (keptW m m2) (dK (.int (-1))) _ (ei_lst (ed_var rfl g4)) kl (fun _ _ => by show fz (PyData.int _) = true; unfold fz; rfl) fun i o H5 y hx e5 hdx R kk => ?_
          cases o with
          | none =>
            obtain rfl := dp_int hdx
            exact kk _ rfl (ed_if (b := decide ((-1 : Int) ≥ 0)) (et_test (ev_op (ev_var rfl) ev_c rv_I0)) (fun h => absurd (of_decide_eq_true h) (by decide)) fun _ => ed_int ev_c)
          | some j =>
            obtain rfl := dp_int hdx
            have hj := kept_in hx
            exact kk _ rfl (ed_if (b := decide ((j : Int) ≥ 0)) (et_test (ev_op (ev_var rfl) ev_c rv_I0)) (fun _ => ed_ixT (ed_var rfl (dp_same e5 g0)) (ev_var rfl) (by omega) (dI_get (by rw [l1]; exact hj))) fun h => absurd (of_decide_eq_false h) (by omega))
        · dsimp only
          have g1 := dp_same e5 g1
          have g4 := dp_same e5 g4
          have g5 := dp_same e5 g5
          refine sd_ret (K := K) (d := dS (carS m m2 st)) (ed_tup (eds_cons (ed_var rfl g6) (eds_cons (d := dI (carS m m2 st).2.1) (ed_tuple (EvN.list ?_)) (eds_cons (ed_var rfl g5) eds_nil))) (by show 3 ≤ 100000; decide)) fun u H6 e6 hu => q u H6 ((((e1.trans e3).trans e4).trans e5).trans e6) hu
          rw [show ((carS m m2 st).2.1).map PyData.int = (keptW m m2).map fun o => PyData.int (orN (wt st) o) from List.map_map]
          refine en_map (keptW m m2) (dK (.int (-1))) _ (ei_lst (ed_var rfl g4)) kl (fun _ _ => by show fz (PyData.int _) = true; unfold fz; rfl) fun i o H5 y hx e5 hdx R kk => ?_
          cases o with
          | none =>
            obtain rfl := dp_int hdx
            exact kk _ rfl (ed_if (b := decide ((-1 : Int) ≥ 0)) (et_test (ev_op (ev_var rfl) ev_c rv_I0)) (fun h => absurd (of_decide_eq_true h) (by decide)) fun _ => ed_int ev_c)
          | some j =>
            obtain rfl := dp_int hdx
            have hj := kept_in hx
            exact kk _ rfl (ed_if (b := decide ((j : Int) ≥ 0)) (et_test (ev_op (ev_var rfl) ev_c rv_I0)) (fun _ => ed_ixT (ed_var rfl (dp_same e5 g1)) (ev_var rfl) (by omega) (dI_get (by rw [l2]; exact hj))) fun h => absurd (of_decide_eq_false h) (by omega))
/-! ### a name that nobody bears -/
def six : List Str := ["q", "qq", "qqq", "qqqq", "qqqqq", "qqqqqq"]
theorem six_ok : ∀ z ∈ six, NameZ z := by
  unfold six NameZ
  decide +kernel
theorem six_nd : six.Nodup := by
  unfold six
  decide +kernel
theorem nodup_le {α : Type} [BEq α] [LawfulBEq α] : ∀ (l zs : List α), l.Nodup → (∀ x ∈ l, x ∈ zs) → l.length ≤ zs.length
  | [], _, _, _ => Nat.zero_le _
  | x :: l, zs, nd, h => by
    have hx := h x (List.mem_cons_self ..)
    have nd := List.nodup_cons.mp nd
    have ih := nodup_le l (zs.erase x) nd.2 fun y hy => (List.mem_erase_of_ne (fun z : y = x => nd.1 (z ▸ hy))).mpr (h y (List.mem_cons_of_mem _ hy))
    rw [List.length_erase_of_mem hx] at ih
    have := List.length_pos_of_mem hx
    rw [List.length_cons]
    omega
def RFresh : List PyData → PyData → Prop := fun ds d => ∃ zs : List Str, ∃ z, zs.length ≤ 3 ∧ ds = [.list (zs.map PyData.str)] ∧ (six.filter fun y => !decide (y ∈ zs))[0]? = some z ∧ d = .str z
theorem fresh_some {zs : List Str} (h : zs.length ≤ 3) : ∃ z, (six.filter fun y => !decide (y ∈ zs))[0]? = some z ∧ NameZ z ∧ z ∉ zs := by
  cases e : six.filter (fun y => !decide (y ∈ zs)) with
  | nil =>
    have := nodup_le six zs six_nd fun x hx => by
      have := List.filter_eq_nil_iff.mp e x hx
      simpa using this
    have h6 : six.length = 6 := rfl
    omega
  | cons z r =>
    have hz : z ∈ six.filter (fun y => !decide (y ∈ zs)) := by rw [e]; exact List.mem_cons_self ..
    obtain ⟨h1, h2⟩ := List.mem_filter.mp hz
    exact ⟨z, rfl, six_ok z h1, by simpa using h2⟩
theorem ok_fresh {f : Addr} {fd : FuncData} {k : Nat} (F : Fun K "_law_fresh" "_law_fresh" sLFresh f fd) : FnOk P w K mg base CX0 (k + 1) f fd ["_law_names_here"] (spP K RFresh) := by
  refine F.ok sc__law_fresh (fun vs H Q E h => ?_) (fun cdv A outer s H vs Q E hr h => ?_)
  · obtain ⟨ds, d, hd, ⟨zs, z, _, rfl, _⟩, _⟩ := h
    exact hd.length
  · obtain ⟨ds, d, hd, ⟨zs, z, h3, rfl, hz, rfl⟩, q⟩ := h
    obtain ⟨v0, rfl, h0⟩ := dps1 hd
    refine ⟨_, (pss_one (ps_ret (pe_ix ix_list (pe_lc (own := [("_law_name", 1)]) (g := (gName 1)) (by rfl) sc__law_fresh.nd (pi_list (pe_lst (pa_cons pe_str (pa_cons pe_str (pa_cons pe_str (pa_cons pe_str (pa_cons pe_str (pa_cons pe_str pa_nil)))))))) (blkOk_by (own := [("_law_name", 1)]) (N := ["_law_names_here", "_law_name"]) (sc := defScope sLFresh) (by decide +kernel)) (fun _ _ _ _ _ => (pg_name (i := 1) sc__law_fresh.nd rfl (Or.inl rfl))) (fun _ _ _ _ _ => pts_one (pt_cmpR (show OpR _ _ (rIn K true) from op_notIn_seq) (pv 1) (pv 0) (by rfl))) (fun _ _ _ _ _ => (pv 1))) pe_int (fun _ _ => rfl)))), ?_⟩
    refine sd_ret (K := K) (ed_ixL (EvN.list (en_lc (K := K) six PyData.str (fun y => !decide (y ∈ zs)) PyData.str (ei_lst (EvN.list (en_lst (eds_cons (ed_str ev_c) (eds_cons (ed_str ev_c) (eds_cons (ed_str ev_c) (eds_cons (ed_str ev_c) (eds_cons (ed_str ev_c) (eds_cons (ed_str ev_c) eds_nil)))))) (by show 6 ≤ 100000; decide)))) (by show 6 ≤ 40000; decide) (fun _ _ => by unfold fz; rfl) fun i x H5 y hx e5 hdx R kk => ?_)) ev_c (by decide) (d := .str z) ?_) q
    · obtain rfl := dp_str hdx
      exact kk _ rfl (et_test (ev_inS (neg := true) (zs := zs) (ev_var rfl) (ed_var rfl (dp_same e5 h0)) (.inl rfl))) fun _ => ed_str (ev_var rfl)
    · rw [List.getElem?_map]
      show Option.map PyData.str (six.filter fun y => !decide (y ∈ zs))[0]? = _
      rw [hz]
      rfl
end
end Ink
namespace Ink
open PySem PySem.Spec PyProof.Rows L2 Evl
/-! ### the law's other crew -/
def spCrew (K : PySem.W.Frag) : Sp := fun vs H Q _ => ∃ (a l p : Addr) (m : List Wr), vs = [.ref a, .ref p] ∧ BagAt H a l ∧ MAt K H a p m ∧ GoodM m ∧ ∀ p2 m2 H', H p2 = none → GoodM m2 → MAt K H' a p2 m2 → BagAt H' a l → Keep a H H' → Q (.ref p2) H'
theorem ins_perm {α : Type} (l : List α) (x : α) (i : Nat) : (l.take i ++ [x] ++ l.drop i).Perm (x :: l) := by
  rw [List.append_assoc]
  refine (List.perm_middle (a := x) (l₁ := l.take i) (l₂ := l.drop i)).trans ?_
  rw [List.take_append_drop]
theorem pick4 {r : Int} (h0 : 0 ≤ r) : r % 4 = 0 ∨ r % 4 = 1 ∨ r % 4 = 2 ∨ r % 4 = 3 := by omega
theorem bent_ok {x : Wr} (g : GoodW x.1 x.2.1 x.2.2.1 x.2.2.2) {r : Int} (h0 : 0 ≤ r) : ∃ y : Wr, [dW x, dW x, dW (x.1, x.2.1, 3 - x.2.2.1, x.2.2.2), dW (x.1, x.2.1, x.2.2.1, (x.2.2.2 + 1) % 4)][(r % 4).toNat]? = some (dW y) ∧ GoodW y.1 y.2.1 y.2.2.1 y.2.2.2 ∧ y.1 = x.1 := by
  have p0 := g.p0
  have p3 := g.p3
  rcases pick4 h0 with h | h | h | h <;> rw [h]
  · exact ⟨x, rfl, g, rfl⟩
  · exact ⟨x, rfl, g, rfl⟩
  · exact ⟨_, rfl, ⟨g.name, g.len, g.each, g.rise, by show 0 ≤ 3 - x.2.2.1; omega, by show 3 - x.2.2.1 ≤ 3; omega, g.c0, g.c3⟩, rfl⟩
  · exact ⟨_, rfl, ⟨g.name, g.len, g.each, g.rise, g.p0, g.p3, by show 0 ≤ (x.2.2.2 + 1) % 4; omega, by show (x.2.2.2 + 1) % 4 ≤ 3; omega⟩, rfl⟩
theorem fresh_good {z : Str} (h : NameZ z) : GoodW z [((0 : Int), (Str.ofString "a"), (0 : Int))] 1 2 := ⟨h, by decide, fun x hx => by
  rw [List.mem_singleton] at hx
  subst hx
  exact ⟨by decide, by decide, ⟨97, by decide, by decide +kernel⟩, by decide, by decide⟩, List.pairwise_singleton _ _, by decide, by decide, by decide, by decide⟩
/-- a crew in the making: at fp a list of good writers with unlike names out of ns -/
structure Crew (K : PySem.W.Frag) (H : Hp) (fp : Addr) (ms : List Wr) : Prop where
  at_ : ∃ vs, H fp = some (.lst vs) ∧ DpAll K H vs (ms.map dW)
  good : ∀ w ∈ ms, GoodW w.1 w.2.1 w.2.2.1 w.2.2.2
  nd : (ms.map (·.1)).Nodup
theorem crew_ins {K : PySem.W.Frag} {H : Hp} {vs : List V} {u : V} {ms : List Wr} {y : Wr} (hv : DpAll K H vs (ms.map dW)) (hu : Dp K H u (dW y)) (n : Nat) : DpAll K H (vs.take n ++ [u] ++ vs.drop n) ((ms.take n ++ [y] ++ ms.drop n).map dW) := by
  rw [List.map_append, List.map_append, List.map_take, List.map_drop]
  exact ((hv.take n).app (.one hu)).app (hv.drop n)
theorem s_ifAnd {σ : L2.St} {H : Hp} {t u : TT} {tu tw : TS} {D : Ends} {b : Bool} (h : EvT t σ H b) (h1 : b = true → ∀ H1, Ex H H1 → tIfS u tu tw D σ H1) (h2 : b = false → ∀ H1, Ex H H1 → tw D σ H1) : tIfS (tAnd t u) tu tw D σ H := h H (.refl H) _ fun H1 e => by
  cases b with
  | true => exact h1 rfl H1 e
  | false => exact h2 rfl H1 e
section
variable {P : Program} {w : World} {K : PySem.W.Frag} {mg : Str → Option Value} {base : Heap}
theorem ok_crew {f : Addr} {fd : FuncData} {k : Nat} (F : Fun K "_law_other_crew" "_law_other_crew" sLOtherCrew f fd) (T : Txt mg)
    (C__law_pull : Cal P w K mg base k "_law_pull" ["_law_bag_here", "_law_many"] spPull) (C__law_fresh : Cal P w K mg base k "_law_fresh" ["_law_names_here"] (spP K RFresh)) :
    FnOk P w K mg base CX0 (k + 1) f fd ["_law_bag_here", "_law_m"] (spCrew K) := by
  refine F.ok sc__law_other_crew (fun vs H Q E h => ?_) (fun cdv A outer s H vs Q E hr h => ?_)
  · obtain ⟨a, l, p, m, rfl, _⟩ := h
    rfl
  · obtain ⟨a, l, p, m, rfl, hB, hM, g, q⟩ := h
    have l3 := g.len
    refine ⟨_, (pss_cons (ps_set (i := 2) sc__law_other_crew.nd rfl (.inl rfl) (pe_lst pa_nil))
    (pss_cons (ps_for PassesOwn.never rfl (pi_list (pv 1)) (pg_name (i := 3) sc__law_other_crew.nd rfl (.inl rfl))
    (pss_cons (ps_set (i := 4) sc__law_other_crew.nd rfl (.inl rfl) (pe_callC C__law_pull hr (by rfl) (pa_cons (pv 0) (pa_cons pe_int pa_nil))))
    (pss_cons (ps_set (i := 5) sc__law_other_crew.nd rfl (.inl rfl) (pe_ix ix_list (pe_lst (pa_cons (pv 3) (pa_cons (pv 3) (pa_cons (pe_op op_catA (pe_slice sl_tupA (pv 3) po_none (po_some pe_int)) (pe_tup (pa_cons (pe_op op_sub pe_int (pe_ix ix_tup (pv 3) pe_int (fun _ _ => rfl))) (pa_cons (pe_ix ix_tup (pv 3) pe_int (fun _ _ => rfl)) pa_nil)))) (pa_cons (pe_op op_catA (pe_slice sl_tupA (pv 3) po_none (po_some pe_int)) (pe_tup (pa_cons (pe_op op_mod (pe_op op_add (pe_ix ix_tup (pv 3) pe_int (fun _ _ => rfl)) pe_int) pe_int) pa_nil))) pa_nil))))) (pe_op op_mod (pv 4) pe_int) (fun _ _ => rfl)))
    (pss_one (ps_expr (pe_bm PySem.F.plainAttrs_list PySem.F.slot_list_insert PySem.F.type_list_insert mt_insert (pv 2) (pa_cons (pe_callC C__law_pull hr (by rfl) (pa_cons (pv 0) (pa_cons (pe_op op_add (pe_callB call_len (by rfl) T.m_len PySem.boot_len (pa_cons (pv 2) pa_nil)) pe_int) pa_nil))) (pa_cons (pv 5) pa_nil))))))))
    (Evl.pss_cut (ps_if (pt_cmpR op_eq (pe_callC C__law_pull hr (by rfl) (pa_cons (pv 0) (pa_cons pe_int pa_nil))) pe_int (nomark _))
    (pss_one (ps_set (i := 2) sc__law_other_crew.nd rfl (.inl rfl) (pe_slice sl_list (pv 2) (po_some pe_int) po_none))) pss_nil)
    (Evl.pss_cut (ps_if (PW.pt (pw_and (pt_cmpR op_lt (pe_callB call_len (by rfl) T.m_len PySem.boot_len (pa_cons (pv 2) pa_nil)) pe_int (nomark _)) (pw_and1 (pt_cmpR op_eq (pe_callC C__law_pull hr (by rfl) (pa_cons (pv 0) (pa_cons pe_int pa_nil))) pe_int (nomark _)))))
    (pss_cons (ps_set (i := 6) sc__law_other_crew.nd rfl (.inl rfl) (pe_callC C__law_fresh hr (by rfl) (pa_cons (pe_lc (own := [("_law_writer_here", 3)]) (g := (gName 3)) (by rfl) sc__law_other_crew.nd (pi_list (pv 1)) (blkOk_by (own := [("_law_writer_here", 3)]) (N := ["_law_bag_here", "_law_m", "_law_found", "_law_writer_here", "_law_pick", "_law_fresh_here", "_law_name"]) (sc := defScope sLOtherCrew) (by decide +kernel)) (fun _ _ _ _ _ => (pg_name (i := 3) sc__law_other_crew.nd rfl (Or.inl rfl))) (fun _ _ _ _ _ => pts_nil) (fun _ _ _ _ _ => (pe_ix (show IxR _ (rIxT K) from ix_tup) (pv 3) pe_int (fun _ _ => rfl)))) pa_nil)))
    (pss_one (ps_expr (pe_bm PySem.F.plainAttrs_list PySem.F.slot_list_insert PySem.F.type_list_insert mt_insert (pv 2) (pa_cons (pe_callC C__law_pull hr (by rfl) (pa_cons (pv 0) (pa_cons (pe_op op_add (pe_callB call_len (by rfl) T.m_len PySem.boot_len (pa_cons (pv 2) pa_nil)) pe_int) pa_nil))) (pa_cons (pe_tup (pa_cons (pv 6) (pa_cons (pe_tup (pa_cons (pe_tup (pa_cons pe_int (pa_cons pe_str (pa_cons pe_int pa_nil)))) pa_nil)) (pa_cons pe_int (pa_cons pe_int pa_nil))))) pa_nil)))))) pss_nil)
    (pss_one (ps_ret (pv 2))))))), ?_⟩
    refine ⟨by show 0 ≤ sizeLine; decide, fun fp nfp => ?_⟩
    have nl := hB.ne nfp
    have nfa : fp ≠ a := nl.1.symm
    obtain ⟨ws, hp, hws, npa⟩ := id hM
    have npf : p ≠ fp := ne_of_none hp nfp
    have hwl := hws.length
    rw [List.length_map] at hwl
    refine ⟨.ref p, rfl, p, rfl, ⟨ws, .of (by rw [upd_ne npf]; exact hp)⟩, for_it (walk_list (K := K) (xs := ws)) (fun i σ' H' => (∃ y3 y4 y5, σ' = [some (.ref a), some (.ref p), some (.ref fp), y3, y4, y5, none]) ∧ BagAt H' a l ∧ Keep a H H' ∧
      ∃ vs ms, H' fp = some (.lst vs) ∧ DpAll K H' vs (ms.map dW) ∧ (ms.map (·.1)).Perm ((m.map (·.1)).take i) ∧ ∀ w ∈ ms, GoodW w.1 w.2.1 w.2.2.1 w.2.2.2) ⟨⟨none, none, none, rfl⟩, hB.upd nl, Keep.mut (Keep.refl H) nfp, [], [], upd_same, .nil, .nil, fun _ h => (by cases h)⟩ (fun i σ' H' _ hP => .of (hP.2.2.1 _ _ npa hp)) (fun i x σ' Ha Hb hi hP hy => ?_) (fun σ' H1 hP => ?_)⟩
    · obtain ⟨⟨y3, y4, y5, rfl⟩, hB1, k1, vs, ms, hfp, hvs, hpm, hgs⟩ := hP
      obtain ⟨rfl, hx⟩ := hy
      obtain ⟨d0, hd0, hxd⟩ := hws.at hx
      have him : i < m.length := by omega
      rw [List.getElem?_map, wr_get him] at hd0
      obtain rfl := Option.some.inj hd0
      have gx := g.at him
      -- pick
      refine ⟨.ref a, rfl, a, l, 5, rfl, hB1, by decide, by decide, fun r H2 r0 r1 hB2 k2 => ?_⟩
      have k12 := k1.trans k2
      have hxd2 := dp_keep hB k12 (fz_dW _) hxd
      have hfp2 := k2 _ _ nfa hfp
      have hvs2 := dps_keep hB1 k2 (fz_dWs ms) hvs
      obtain ⟨y, hy, gy, ey⟩ := bent_ok gx r0
      dsimp only
      refine sd_asg (K := K) (d := dW y) (ed_ixL (EvN.list (en_lst (eds_cons (ed_var rfl hxd2) (eds_cons (ed_var rfl hxd2) (eds_cons (ed_is (ed_catA (ed_slTo (k := 2) (ed_var rfl hxd2) ev_c) (ed_tup (eds_cons (ed_int (ev_op ev_c (ev_int (ed_ixT (ed_var rfl hxd2) ev_c (by decide) rfl)) rv_I0)) (eds_cons (ed_ixT (ed_var rfl hxd2) ev_c (by decide) rfl) eds_nil)) (by show 2 ≤ 100000; decide)) (by show 4 ≤ 100000; decide)) rfl) (eds_cons (ed_is (ed_catA (ed_slTo (k := 3) (ed_var rfl hxd2) ev_c) (ed_tup (eds_cons (ed_int (ev_op (ev_op (ev_int (ed_ixT (ed_var rfl hxd2) ev_c (by decide) rfl)) ev_c rv_I0) ev_c (rv_I (by decide)))) eds_nil) (by show 1 ≤ 100000; decide)) (by show 4 ≤ 100000; decide)) rfl) eds_nil)))) (by show 4 ≤ 100000; decide))) (ev_op (ev_var rfl) ev_c (rv_I (by decide))) (by omega) hy) fun u H3 e3 hu => ?_
      dsimp only
      have hB3 := hB2.same e3
      have hfp3 := e3 _ _ hfp2
      have hvs3 := dps_same e3 hvs2
      have hml : ms.length ≤ 3 := by
        have := hpm.length_eq
        rw [List.length_map, List.length_take, List.length_map] at this
        omega
      have hvl := hvs3.length
      rw [List.length_map] at hvl
      refine ⟨.ref fp, rfl, .inl ⟨rfl, vs, .of hfp3⟩, .ref a, rfl, .ref fp, rfl, .ref fp, _, rfl, .inl ⟨_, .of hfp3, rfl⟩, _, _, rfl, rfl, a, l, _, rfl, hB3, by omega, by omega, fun r2 H4 q0 q1 hB4 k4 => ⟨u, rfl, fp, vs, r2, u, rfl, rfl, k4 _ _ nfa hfp3, small_lt (by omega), q0, by omega, ?_⟩⟩
      have hfp4 := k4 _ _ nfa hfp3
      have hvs4 := dps_keep hB3 k4 (fz_dWs ms) hvs3
      have hu4 := dp_keep hB3 k4 (fz_dW y) hu
      have k14 := ((k12.trans (Keep.of_same e3)).trans k4)
      generalize r2.toNat = n
      refine ⟨⟨_, _, _, rfl⟩, hB4.upd nl, Keep.mut k14 nfp, _, ms.take n ++ [y] ++ ms.drop n, upd_same, ?_, ?_, fun w hw => ?_⟩
      · exact dps_tk (.lst hfp4) (fz_dWs _) (crew_ins hvs4 hu4 n)
      · refine ((ins_perm ms y n).map (·.1)).trans ?_
        rw [List.map_cons, ey, take_snoc (show (m.map (·.1))[i]? = some (wr m i).1 by rw [List.getElem?_map, wr_get him]; rfl)]
        exact (List.Perm.cons _ hpm).trans (List.perm_append_singleton _ _).symm
      · rcases List.mem_cons.mp ((ins_perm ms y n).mem_iff.mp hw) with rfl | h
        · exact gy
        · exact hgs w h
    · obtain ⟨⟨y3, y4, y5, rfl⟩, hB1, k1, vs, ms, hfp, hvs, hpm, hgs⟩ := hP
      rw [hwl, List.take_of_length_le (by rw [List.length_map]; exact Nat.le_refl _)] at hpm
      have hml : ms.length ≤ 3 := by
        have := hpm.length_eq
        rw [List.length_map, List.length_map] at this
        omega
      have cr1 : Crew K H1 fp ms := ⟨⟨vs, hfp, hvs⟩, hgs, hpm.nodup_iff.mpr g.nd⟩
      have sub1 : ∀ w ∈ ms, w.1 ∈ m.map (·.1) := fun w hw => hpm.mem_iff.mp (List.mem_map_of_mem hw)
      refine Evl.q_cut (M := fun σ' H' => (∃ fp2 y3 y4 y5 ms, σ' = [some (.ref a), some (.ref p), some (.ref fp2), y3, y4, y5, none] ∧ fp2 ≠ a ∧ H fp2 = none ∧ Crew K H' fp2 ms ∧ ms.length ≤ 3 ∧ ∀ w ∈ ms, w.1 ∈ m.map (·.1)) ∧ BagAt H' a l ∧ Keep a H H') ?_ fun σ' H2 hM2 => ?_
      · refine ⟨.ref a, rfl, a, l, 2, rfl, hB1, by decide, by decide, fun r H2 r0 r1 hB2 k2 => ⟨rfl, _, rfl, ?_⟩⟩
        have hfp2 := k2 _ _ nfa hfp
        have hvs2 := dps_keep hB1 k2 (fz_dWs ms) hvs
        have k12 := k1.trans k2
        refine ite2 (fun _ => ?_) fun _ => ?_
        · refine sd_asgN (K := K) (ds := (ms.map dW).drop 1) (en_slFromL (k := 1) (ed_var rfl (.lst (.of hfp2) hvs2)) ev_c) fun p3 us H3 np3 e3 hp3 hus => ?_
          have n3 := hB2.ne np3
          rw [← List.map_drop] at hus
          refine ⟨⟨p3, _, _, _, ms.drop 1, rfl, n3.1.symm, Keep.free k12 n3.1 np3, ⟨⟨us, hp3, hus⟩, fun w hw => hgs w (List.mem_of_mem_drop hw), ?_⟩, by rw [List.length_drop]; omega, fun w hw => sub1 w (List.mem_of_mem_drop hw)⟩, hB2.same e3, k12.trans (Keep.of_same e3)⟩
          rw [List.map_drop]
          exact cr1.nd.sublist (List.drop_sublist 1 _)
        · exact ⟨⟨fp, _, _, _, ms, rfl, nfa, nfp, ⟨⟨vs, hfp2, hvs2⟩, hgs, cr1.nd⟩, hml, sub1⟩, hB2, k12⟩
      · obtain ⟨⟨fp2, y3, y4, y5, ms2, rfl, nfa2, nfp2, ⟨⟨vs2, hf2, hv2⟩, hg2, hnd2⟩, hml2, sub2⟩, hB2, k2⟩ := hM2
        have hvl := hv2.length
        rw [List.length_map] at hvl
        refine Evl.q_cut (M := fun σ' H' => (∃ y3 y4 y5 y6 ms, σ' = [some (.ref a), some (.ref p), some (.ref fp2), y3, y4, y5, y6] ∧ Crew K H' fp2 ms ∧ ms.length ≤ 3) ∧ BagAt H' a l ∧ Keep a H H') ?_ fun σ' H3 hM3 => ?_
        · refine s_ifAnd (b := decide (((vs2.length : Nat) : Int) < 3)) (et_test (ev_op (ev_is (ev_lenD (K := K) (ds := ms2.map dW) (ed_var rfl (.lst (.of hf2) hv2)) (.inl rfl)) (by rw [List.length_map, hvl])) ev_c rv_I0)) (fun hb H3 e3 => ?_) fun hb H3 e3 => ?_
          · have hb := of_decide_eq_true hb
            have hB3 := hB2.same e3
            refine ⟨.ref a, rfl, a, l, 2, rfl, hB3, by decide, by decide, fun r H4 r0 r1 hB4 k4 => ⟨rfl, _, rfl, ?_⟩⟩
            have hf4 := k4 _ _ nfa2 (e3 _ _ hf2)
            have hv4 := dps_keep hB3 k4 (fz_dWs ms2) (dps_same e3 hv2)
            have k24 := (k2.trans (Keep.of_same e3)).trans k4
            have hM4 := hM.keep hB k24
            refine ite2 (fun _ => ?_) fun _ => ?_
            · obtain ⟨z, hz, zn, znot⟩ := fresh_some (zs := m.map (·.1)) (by rw [List.length_map]; exact l3)
              refine sd_asg (K := K) (d := .str z) (ed_call (eds_cons (EvN.list (ds := (m.map (·.1)).map PyData.str) ?_) eds_nil) ⟨m.map (·.1), z, by rw [List.length_map]; exact l3, rfl, hz, rfl⟩) fun u H5 e5 hu => ?_
              · rw [List.map_map]
                exact en_map m dW _ (ei_lst (ed_var rfl hM4.dp)) (m_le g (by decide)) (fun x _ => by show fz (PyData.str _) = true; unfold fz; rfl) fun j x H5 y hx e5 hdx R kk => kk _ rfl (ed_ixT (ed_var rfl hdx) ev_c (by decide) rfl)
              · dsimp only
                have hB5 := hB4.same e5
                have hf5 := e5 _ _ hf4
                have hv5 := dps_same e5 hv4
                refine ⟨.ref fp2, rfl, .inl ⟨rfl, vs2, .of hf5⟩, .ref a, rfl, .ref fp2, rfl, .ref fp2, _, rfl, .inl ⟨_, .of hf5, rfl⟩, _, _, rfl, rfl, a, l, _, rfl, hB5, by omega, by omega, fun r2 H6 q0 q1 hB6 k6 => ?_⟩
                have hf6 := k6 _ _ nfa2 hf5
                have hv6 := dps_keep hB5 k6 (fz_dWs ms2) hv5
                obtain rfl := dp_str hu
                refine (ed_tup (K := K) (ds := [.str z, .tuple [dA (0, Str.ofString "a", 0)], .int 1, .int 2]) (eds_cons (ed_var (i := 6) rfl (.str z)) (eds_cons (ed_tup (eds_cons (ed_tup (eds_cons (ed_int ev_c) (eds_cons (ed_str ev_c) (eds_cons (ed_int ev_c) eds_nil))) (by show 3 ≤ 100000; decide)) eds_nil) (by show 1 ≤ 100000; decide)) (eds_cons (ed_int ev_c) (eds_cons (ed_int ev_c) eds_nil)))) (by show 4 ≤ 100000; decide)) H6 (.refl H6) _ fun t H7 e7 ht => ?_
                have hf7 := e7 _ _ hf6
                have hv7 := dps_same e7 hv6
                refine ⟨fp2, vs2, r2, t, rfl, rfl, hf7, small_lt (by omega), q0, by omega, ?_⟩
                have k27 := ((k24.trans (Keep.of_same e5)).trans k6).trans (Keep.of_same e7)
                have ht : Dp K H7 t (dW (z, [((0 : Int), Str.ofString "a", (0 : Int))], 1, 2)) := ht
                have nl2 : a ≠ fp2 ∧ l ≠ fp2 := hB.ne nfp2
                generalize r2.toNat = n
                refine ⟨⟨_, _, _, _, ms2.take n ++ [(z, [((0 : Int), Str.ofString "a", (0 : Int))], 1, 2)] ++ ms2.drop n, rfl, ⟨⟨_, upd_same, dps_tk (.lst hf7) (fz_dWs _) (crew_ins hv7 ht n)⟩, fun w hw => ?_, ?_⟩, ?_⟩, (hB6.same e7).upd nl2, Keep.mut k27 nfp2⟩
                · rcases List.mem_cons.mp ((ins_perm ms2 _ n).mem_iff.mp hw) with rfl | h
                  · exact fresh_good zn
                  · exact hg2 w h
                · refine (((ins_perm ms2 _ n).map (·.1)).nodup_iff).mpr ?_
                  rw [List.map_cons]
                  refine List.nodup_cons.mpr ⟨fun hz2 => ?_, hnd2⟩
                  obtain ⟨w, hw, e⟩ := List.mem_map.mp hz2
                  have e : w.1 = z := e
                  exact znot (e ▸ sub2 w hw)
                · rw [(ins_perm ms2 _ n).length_eq, List.length_cons]
                  omega
            · exact ⟨⟨_, _, _, _, ms2, rfl, ⟨⟨vs2, hf4, hv4⟩, hg2, hnd2⟩, hml2⟩, hB4, k24⟩
          · exact ⟨⟨_, _, _, _, ms2, rfl, ⟨⟨vs2, e3 _ _ hf2, dps_same e3 hv2⟩, hg2, hnd2⟩, hml2⟩, hB2.same e3, k2.trans (Keep.of_same e3)⟩
        · obtain ⟨⟨y3, y4, y5, y6, ms3, rfl, ⟨⟨vs3, hf3, hv3⟩, hg3, hnd3⟩, hml3⟩, hB3, k3⟩ := hM3
          exact ⟨.ref fp2, rfl, q fp2 ms3 H3 nfp2 ⟨hml3, hg3, hnd3⟩ ⟨vs3, hf3, hv3, nfa2⟩ hB3 k3⟩
end
end Ink
namespace Ink
open PySem PySem.Spec PyProof.Rows L2
theorem g_go {i : Nat} {v : V} {σ : L2.St} {H : Hp} {Q : L2.St → Hp → Prop} (h : Q (σ.set i (some v)) H) : gName i v σ H Q := h
end Ink
namespace Ink
open PySem PySem.Spec PyProof.Rows L2
/-! ### the stands that companies of at most three come to are few -/
structure Tiny (s : Std) : Prop where
  l1 : s.1.length ≤ 3
  l2 : s.2.1.length = s.1.length
  p : ∀ x ∈ s.1, 0 ≤ x ∧ x ≤ 2
  w : ∀ x ∈ s.2.1, 0 ≤ x ∧ x ≤ 3
  z : s.1.length = 3 → ∃ k, k < 3 ∧ wt s k = 0
  r : s.2.2 = (-1, 0) ∨ ∃ k, k < s.1.length ∧ s.2.2.1 = (k : Int) ∧ 1 ≤ s.2.2.2 ∧ s.2.2.2 ≤ 3 ∧ wt s k = 0
/-- all lists of n of these -/
def allOf {α : Type} (xs : List α) : Nat → List (List α)
  | 0 => [[]]
  | n + 1 => xs.flatMap fun x => (allOf xs n).map (x :: ·)
theorem mem_allOf {α : Type} {xs : List α} : ∀ {n : Nat} {l : List α}, l.length = n → (∀ x ∈ l, x ∈ xs) → l ∈ allOf xs n
  | 0, [], _, _ => List.mem_singleton.mpr rfl
  | n + 1, x :: l, h, hx => by
    unfold allOf
    refine List.mem_flatMap.mpr ⟨x, hx x List.mem_cons_self, List.mem_map.mpr ⟨l, mem_allOf (by simpa using h) fun y hy => hx y (List.mem_cons_of_mem _ hy), rfl⟩⟩
def runsT (n : Nat) (ws : List Int) : List (Int × Int) := (-1, 0) :: List.flatMap (fun k : Nat => [(Int.ofNat k, (1 : Int)), (Int.ofNat k, 2), (Int.ofNat k, 3)]) (List.filter (fun k : Nat => ws.getD k 0 == 0) (List.range n))
def waitsT (n : Nat) : List (List Int) := (allOf [(0 : Int), 1, 2, 3] n).filter fun ws => n != 3 || (List.range 3).any fun k => ws.getD k 0 == 0
def tinies (n : Nat) : List Std := (allOf [(0 : Int), 1, 2] n).flatMap fun ps => (waitsT n).flatMap fun ws => (runsT n ws).map fun r => (ps, ws, r)
theorem tinies_len : (tinies 0).length ≤ 4887 ∧ (tinies 1).length ≤ 4887 ∧ (tinies 2).length ≤ 4887 ∧ (tinies 3).length ≤ 4887 := by decide +kernel
theorem mem_tinies {s : Std} (h : Tiny s) : s ∈ tinies s.1.length := by
  obtain ⟨ps, ws, r1, r2⟩ := s
  have l2 : ws.length = ps.length := h.l2
  unfold tinies
  refine List.mem_flatMap.mpr ⟨ps, mem_allOf rfl fun x hx => ?_, List.mem_flatMap.mpr ⟨ws, List.mem_filter.mpr ⟨mem_allOf l2 fun x hx => ?_, ?_⟩, List.mem_map.mpr ⟨(r1, r2), ?_, rfl⟩⟩⟩
  · have := h.p x hx
    have : x = 0 ∨ x = 1 ∨ x = 2 := by omega
    simpa using this
  · have := h.w x hx
    have : x = 0 ∨ x = 1 ∨ x = 2 ∨ x = 3 := by omega
    simpa using this
  · by_cases c : ps.length = 3
    · obtain ⟨k, hk, e⟩ := h.z c
      rw [Bool.or_eq_true]
      exact .inr (List.any_eq_true.mpr ⟨k, List.mem_range.mpr hk, beq_iff_eq.mpr e⟩)
    · rw [Bool.or_eq_true]
      exact .inl (bne_iff_ne.mpr c)
  · show (r1, r2) ∈ runsT ps.length ws
    unfold runsT
    rcases h.r with e | ⟨k, hk, e1, e2, e3, e4⟩
    · have e : (r1, r2) = ((-1 : Int), (0 : Int)) := e
      rw [e]
      exact List.mem_cons_self
    · have e1 : r1 = (k : Int) := e1
      have e2 : 1 ≤ r2 := e2
      have e3 : r2 ≤ 3 := e3
      refine List.mem_cons_of_mem _ (List.mem_flatMap.mpr ⟨k, List.mem_filter.mpr ⟨List.mem_range.mpr hk, beq_iff_eq.mpr e4⟩, ?_⟩)
      have : r2 = 1 ∨ r2 = 2 ∨ r2 = 3 := by omega
      rw [e1]
      show (Int.ofNat k, r2) ∈ _
      rcases this with z | z | z <;> rw [z] <;> simp
theorem tny_le {α : Type} [DecidableEq α] : ∀ {l D : List α}, l.Nodup → (∀ x ∈ l, x ∈ D) → l.length ≤ D.length
  | [], _, _, _ => Nat.zero_le _
  | x :: l, D, hn, hs => by
    obtain ⟨n1, n2⟩ := List.nodup_cons.mp hn
    have hx := hs x List.mem_cons_self
    have ih := tny_le (D := D.erase x) n2 fun y hy => (List.mem_erase_of_ne (fun (e : y = x) => n1 (by rw [← e]; exact hy))).mpr (hs y (List.mem_cons_of_mem _ hy))
    rw [List.length_erase_of_mem hx] at ih
    have := List.length_pos_of_mem hx
    rw [List.length_cons]
    omega
/-- stands of one company -/
theorem tiny_few {l : List Std} {n : Nat} (hn : l.Nodup) (h : ∀ s ∈ l, Tiny s ∧ s.1.length = n) : l.length ≤ 4887 := by
  cases l with
  | nil => exact Nat.zero_le _
  | cons x l =>
    have n3 : n ≤ 3 := by
      have := h x List.mem_cons_self
      rw [← this.2]
      exact this.1.l1
    have z := tny_le (D := tinies n) hn fun s hs => by
      have := mem_tinies (h s hs).1
      rwa [(h s hs).2] at this
    obtain ⟨t0, t1, t2, t3⟩ := tinies_len
    have : n = 0 ∨ n = 1 ∨ n = 2 ∨ n = 3 := by omega
    rcases this with e | e | e | e <;> subst e <;> exact Nat.le_trans z (by assumption)
/-- of whatever companies -/
theorem tiny_many {l : List Std} (hn : l.Nodup) (h : ∀ s ∈ l, Tiny s) : l.length ≤ 19548 := by
  have z := tny_le (D := tinies 0 ++ tinies 1 ++ tinies 2 ++ tinies 3) hn fun s hs => by
    have a := mem_tinies (h s hs)
    have b := (h s hs).l1
    have : s.1.length = 0 ∨ s.1.length = 1 ∨ s.1.length = 2 ∨ s.1.length = 3 := by omega
    simp only [List.mem_append]
    rcases this with e | e | e | e <;> rw [e] at a
    · exact .inl (.inl (.inl a))
    · exact .inl (.inl (.inr a))
    · exact .inl (.inr a)
    · exact .inr a
  obtain ⟨t0, t1, t2, t3⟩ := tinies_len
  simp only [List.length_append] at z
  omega
end Ink
namespace Ink
open PySem PySem.Spec PyProof.Rows L2 Evl
/-- all but what stands at d stays -/
def KD (d : Addr) (H H' : Hp) : Prop := ∀ b o, H b = some o → b ≠ d → H' b = some o
/-- only stands of companies of at most three are kept -/
def AllTiny (kvs : List (NK × V)) : Prop := ∀ kv ∈ kvs, ∃ s, kv.1 = kS s ∧ Tiny s
/-- a company whose dict stands at d -/
def CoAtD (P : Program) (w : World) (K : PySem.W.Frag) (C : Addr) (H : Hp) (c : Addr) (m : List Wr) (n : Nat) (d : Addr) : Prop :=
  ∃ dx tw kvs, H c = some (.ins C dx (coF tw d)) ∧ Dp K H (.ref tw) (dMt m) ∧ DicAt P w K H d kvs ∧ Cached K H m kvs ∧ kvs.length ≤ n ∧ AllTiny kvs
theorem CoAt.d {P : Program} {w : World} {K : PySem.W.Frag} {C : Addr} {H : Hp} {c : Addr} {m : List Wr} (h : CoAt P w K C H c m 0) : ∃ d, CoAtD P w K C H c m 0 d := by
  obtain ⟨dx, tw, d, kvs, h1, h2, h3, h4, h5⟩ := h
  exact ⟨d, dx, tw, kvs, h1, h2, h3, h4, h5, fun kv hk => by rw [List.eq_nil_of_length_eq_zero (Nat.le_zero.mp h5)] at hk; cases hk⟩
/-- however often it was asked, it keeps no more than that -/
theorem CoAtD.cap {P : Program} {w : World} {K : PySem.W.Frag} {C : Addr} {H : Hp} {c : Addr} {m : List Wr} {n : Nat} {d : Addr} (h : CoAtD P w K C H c m n d) : CoAtD P w K C H c m 20000 d := by
  obtain ⟨dx, tw, kvs, h1, h2, h3, h4, h5, h6⟩ := h
  refine ⟨dx, tw, kvs, h1, h2, h3, h4, ?_, h6⟩
  obtain ⟨xs, _, p, _, nd, _⟩ := h3
  have key : ∀ (kvs : List (NK × V)) (ys : List (NK × Addr × Value)), Paired PairN kvs ys → AllTiny kvs → ∃ l : List Std, l.map kS = ys.map (·.1) ∧ ∀ s ∈ l, Tiny s := fun kvs ys p => by
    induction p with
    | nil => exact fun _ => ⟨[], rfl, fun s hs => (by cases hs)⟩
    | @cons a b as bs r p ih =>
      intro t
      obtain ⟨l, e, hl⟩ := ih fun kv hk => t kv (List.mem_cons_of_mem _ hk)
      obtain ⟨s, es, ts⟩ := t a List.mem_cons_self
      refine ⟨s :: l, by rw [List.map_cons, List.map_cons, e, ← es, r.1], fun x hx => ?_⟩
      rcases List.mem_cons.mp hx with z | z
      · rw [z]
        exact ts
      · exact hl x z
  obtain ⟨l, e, hl⟩ := key _ _ p h6
  rw [← e] at nd
  have lz := congrArg List.length e
  rw [List.length_map, List.length_map, ← Paired.length p] at lz
  have := tiny_many (List.Pairwise.of_map kS (fun a b hab z => hab (congrArg kS z)) nd) hl
  omega
theorem CoAtD.co {P : Program} {w : World} {K : PySem.W.Frag} {C : Addr} {H : Hp} {c : Addr} {m : List Wr} {n : Nat} {d : Addr} (h : CoAtD P w K C H c m n d) : CoAt P w K C H c m n := by
  obtain ⟨dx, tw, kvs, h1, h2, h3, h4, h5, _⟩ := h
  exact ⟨dx, tw, d, kvs, h1, h2, h3, h4, h5⟩
theorem CoAtD.ext {P : Program} {w : World} {K : PySem.W.Frag} {C : Addr} {H : Hp} {c : Addr} {m : List Wr} {n : Nat} {d : Addr} (h : CoAtD P w K C H c m n d) : ∃ xs, H d = some (DicO P w d xs) := by
  obtain ⟨dx, tw, kvs, _, _, ⟨xs, e, _⟩, _⟩ := h
  exact ⟨xs, e⟩
theorem CoAtD.keep {P : Program} {w : World} {K : PySem.W.Frag} {C : Addr} {H H' : Hp} {c : Addr} {m : List Wr} {n : Nat} {d : Addr} (h : CoAtD P w K C H c m n d) (hd : H' d = H d) (hc : ∀ o, H c = some o → H' c = some o) (ht : TupK K H H') : CoAtD P w K C H' c m n d := by
  obtain ⟨dx, tw, kvs, h1, h2, h3, h4, h5, h6⟩ := h
  exact ⟨dx, tw, kvs, hc _ h1, dp_tk ht (fz_dMt m) h2, h3.up hd ht, h4.up ht, h5, h6⟩
theorem KD.tk {P : Program} {w : World} {K : PySem.W.Frag} {d : Addr} {H H' : Hp} {xs : DX} (k : KD d H H') (e : H d = some (DicO P w d xs)) : TupK K H H' := fun b ys h => by
  rcases h with (h | ⟨o, h⟩) | h
  · exact .inl (.inl (k _ _ h fun z => by rw [z, e] at h; exact dicO_ne.2 _ (Option.some.inj h)))
  · exact .inl (.inr ⟨o, k _ _ h fun z => by rw [z, e] at h; unfold DicO at h; cases h⟩)
  · exact .inr h
def spStepsD (P : Program) (w : World) (K : PySem.W.Frag) (C : Addr) : Sp := fun vs H Q _ => ∃ c m n v s d, vs = [.ref c, v] ∧ CoAtD P w K C H c m n d ∧ n < 90000 ∧ GoodM m ∧ Fits m s ∧ Tiny s ∧ Dp K H v (dS s) ∧
  ∀ p vs H', H p = none → KD d H H' → CoAtD P w K C H' c m (n + 1) d → H' p = some (.lst vs) → DpAll K H' vs ((stepsOf m s).map dStep) → Q (.ref p) H'
section
variable {P : Program} {w : World} {K : PySem.W.Frag} {mg : Str → Option Value} {base : Heap}
theorem ok_stepsD {f C : Addr} {fd : FuncData} {k : Nat} (F : Fun K "steps" "Company.steps" sCompanySteps f fd) (T : Txt mg) (Z : CoC K C) (C__steps_of : Cal P w K mg base k "_steps_of" ["writers", "stand"] (spP K RSteps)) : FnOk P w K mg base CX0 (k + 1) f fd ["self", "stand"] (spStepsD P w K C) := by
  refine F.ok sc_Company_steps (fun vs H Q E h => ?_) (fun cdv A outer s H vs Q E hr h => ?_)
  · obtain ⟨c, m, n, v, s, d, rfl, _⟩ := h
    rfl
  · obtain ⟨c, m, n, v, st, d, rfl, ⟨dx, tw, kvs, hc, hw, hd, hch, hl, hty⟩, hn, g, ft, ty, hv, q⟩ := h
    refine ⟨_, (Evl.pss_cut (ps_if (pt_cmpR (op_notinN (hu9 hr)) (pv 1) (pe_fld (pv 0) rfl) (by rfl))
    (pss_one (ps_asg (pe_callTy call_tuple_of (by rfl) T.m_tuple (by decide +kernel) (pa_cons (pe_callC C__steps_of hr (by rfl) (pa_cons (pe_fld (pv 0) rfl) (pa_cons (pv 1) pa_nil))) pa_nil)) (pg_sub (pe_fld (pv 0) rfl) (pv 1) (set_dicN (hu9 hr))))) pss_nil)
    (pss_one (ps_ret (pe_callTy call_list_of (by rfl) T.m_list (by decide +kernel) (pa_cons (pe_dgetN (hu9 hr) (pe_fld (pv 0) rfl) (pv 1) (fun _ _ => rfl)) pa_nil))))), ?_⟩
    refine Evl.q_cut (M := fun σ' H1 => σ' = [some (.ref c), some v] ∧ ∃ kvs1 u, KX H H1 ∧ KD d H H1 ∧ (∀ b, H1 b = none → H b = none) ∧ H1 c = some (.ins C dx (coF tw d)) ∧ DicAt P w K H1 d kvs1 ∧ Cached K H1 m kvs1 ∧ kvs1.length ≤ n + 1 ∧ AllTiny kvs1 ∧ lookN kvs1 (kS st) = some u) ?_ fun σ' H1 hM => ?_
    · refine s_if (b := !(lookN kvs (kS st)).isSome) (et_test (ev_notinN (ev_var rfl) (key_at hv) (ev_fld (ev_var rfl) hc Z.cl Z.nF (coF_f _ _)) hd)) (fun hb H1 e1 => ?_) fun hb H1 e1 => ?_
      · have lk : lookN kvs (kS st) = none := by
          cases e : lookN kvs (kS st) with
          | none => rfl
          | some u =>
            rw [e] at hb
            cases hb
        have hc1 := e1 _ _ hc
        refine ed_tuple (K := K) (ds := (stepsOf m st).map dStep) (ed_call (eds_cons (ed_of (ev_fld (ev_var rfl) hc1 Z.cl Z.nW (coF_w _ _)) (dp_same e1 hw)) (eds_cons (ed_var rfl (dp_same e1 hv)) eds_nil)) ⟨m, st, g, ft, rfl, rfl⟩) H1 (.refl H1) _ fun u H2 e2 hu => ?_
        have e12 := e1.trans e2
        have hc2 := e2 _ _ hc1
        have hd2 := hd.same e12
        refine ⟨.ref c, rfl, c, C, dx, _, .ref d, rfl, hc2, Z.cl, Z.nF, coF_f _ _, v, rfl, d, kvs, kS st, rfl, hd2, key_at (dp_same e12 hv), by omega, fun H3 hd3 h3 => ?_⟩
        obtain ⟨n1, n2⟩ := look_new (v := u) lk
        have kx : KX H2 H3 := fun b o e no => by
          obtain ⟨xs, ed, _⟩ := hd2
          have nb : b ≠ d := fun z => by
            rw [z, ed] at e
            exact no _ (Option.some.inj e).symm
          rw [h3 b nb]
          exact e
        have tk : TupK K H2 H3 := kx.t
        refine ⟨rfl, _, u, (KX.of e12).trans kx, fun b o e n => (h3 b n).trans (e12 b o e), fun b hb => ?_, kx _ _ hc2 (fun _ z => by cases z), hd3, fun kv hk => ?_, ?_, fun kv hk => ?_, n2⟩
        · refine Same.free e12 ?_
          by_cases hbd : b = d
          · obtain ⟨xs, ed, _⟩ := hd3
            rw [hbd, ed] at hb
            cases hb
          · rw [← h3 b hbd]
            exact hb
        · rw [n1] at hk
          rcases List.mem_append.mp hk with hk | hk
          · exact (hch.up ((TupK.of e12).trans tk)) kv hk
          · rw [List.mem_singleton] at hk
            subst hk
            exact ⟨st, rfl, kx.dp hu⟩
        · have := putN_len (kvs := kvs) (k := kS st) (v := u)
          omega
        · rw [n1] at hk
          rcases List.mem_append.mp hk with hk | hk
          · exact hty kv hk
          · rw [List.mem_singleton] at hk
            subst hk
            exact ⟨st, rfl, ty⟩
      · obtain ⟨u, lk⟩ : ∃ u, lookN kvs (kS st) = some u := by
          cases e : lookN kvs (kS st) with
          | none =>
            rw [e] at hb
            cases hb
          | some u => exact ⟨u, rfl⟩
        exact ⟨rfl, kvs, u, .of e1, fun b o e _ => e1 b o e, fun b hb => Same.free e1 hb, e1 _ _ hc, hd.same e1, hch.up (.of e1), by omega, hty, lk⟩
    · obtain ⟨rfl, kvs1, u, kx, kd, fr, hc1, hd1, hch1, hl1, hty1, lk⟩ := hM
      obtain ⟨s', e, hu⟩ := hch1 _ (look_in lk)
      obtain rfl := kS_inj e
      refine en_list (K := K) (ds := (stepsOf m st).map dStep) (ed_of (ev_dget (ev_fld (ev_var rfl) hc1 Z.cl Z.nF (coF_f _ _)) hd1 (ev_var rfl) (key_at (kx.dp hv)) lk) hu) (.inr rfl) H1 (.refl H1) _ fun p vs H2 np e2 hp hvs => ?_
      exact q p vs H2 (fr _ np) (fun b o e n => e2 b o (kd b o e n)) ⟨dx, tw, kvs1, e2 _ _ hc1, dp_same e2 (kx.dp hw), hd1.same e2, hch1.up (.of e2), hl1, hty1⟩ hp hvs
end
end Ink
namespace Ink
open PySem PySem.Spec PyProof.Rows L2 Evl
/-! ### data that cannot be the bag: it outlives what is drawn -/
def bagLike : List PyData → Bool
  | _ :: .int _ :: _ => true
  | _ => false
mutual
def nb : PyData → Bool
  | .list ds => !bagLike ds && nbAll ds
  | .tuple ds => nbAll ds
  | .dict _ => false
  | .none => true
  | .bool _ => true
  | .int _ => true
  | .str _ => true
def nbAll : List PyData → Bool
  | [] => true
  | d :: ds => nb d && nbAll ds
end
theorem nbAll_iff : ∀ {ds : List PyData}, nbAll ds = true ↔ ∀ d ∈ ds, nb d = true
  | [] => by unfold nbAll; exact ⟨fun _ _ h => (by cases h), fun _ => rfl⟩
  | d :: ds => by
    unfold nbAll
    rw [Bool.and_eq_true, nbAll_iff]
    exact ⟨fun h e he => (List.mem_cons.mp he).elim (fun z => z ▸ h.1) (h.2 e), fun h => ⟨h d (List.mem_cons_self ..), fun e he => h e (List.mem_cons_of_mem _ he)⟩⟩
theorem nb_map {α : Type} {e : α → PyData} {xs : List α} (h : ∀ x ∈ xs, nb (e x) = true) : nbAll (xs.map e) = true := nbAll_iff.mpr fun d hd => by
  obtain ⟨x, hx, rfl⟩ := List.mem_map.mp hd
  exact h x hx
mutual
theorem nb_fz : ∀ d : PyData, fz d = true → nb d = true
  | .none, _ => by unfold nb; rfl
  | .bool _, _ => by unfold nb; rfl
  | .int _, _ => by unfold nb; rfl
  | .str _, _ => by unfold nb; rfl
  | .list _, h => by unfold fz at h; cases h
  | .dict _, h => by unfold fz at h; cases h
  | .tuple ds, h => by
    unfold fz at h
    unfold nb
    exact nbs_fz ds h
theorem nbs_fz : ∀ ds : List PyData, fzAll ds = true → nbAll ds = true
  | [], _ => by unfold nbAll; rfl
  | d :: ds, h => by
    unfold fzAll at h
    rw [Bool.and_eq_true] at h
    unfold nbAll
    rw [nb_fz d h.1, nbs_fz ds h.2]
    rfl
end
/-- a list of which no item is a number -/
theorem nb_list {ds : List PyData} (h1 : ∀ d ∈ ds, ∀ i, d ≠ .int i) (h2 : nbAll ds = true) : nb (.list ds) = true := by
  unfold nb
  rw [h2, Bool.and_true]
  match ds, h1 with
  | a :: .int i :: r, h1 => exact absurd rfl (h1 (.int i) (by simp) i)
  | [], _ => rfl
  | [_], _ => rfl
  | _ :: .none :: _, _ => rfl
  | _ :: .bool _ :: _, _ => rfl
  | _ :: .str _ :: _, _ => rfl
  | _ :: .list _ :: _, _ => rfl
  | _ :: .tuple _ :: _, _ => rfl
  | _ :: .dict _ :: _, _ => rfl
theorem bag_data {K : PySem.W.Frag} {H H0 : Hp} {p q s l : V} {i : Int} {ds : List PyData} (h : DpAll K H [p, .int i, q, s] ds) : bagLike ds = true := by
  cases h with
  | cons h1 t =>
    cases t with
    | cons h2 t =>
      cases t with
      | cons h3 t =>
        cases t with
        | cons h4 t =>
          cases t
          cases h2
          rfl
mutual
theorem dp_nb {K : PySem.W.Frag} {H H' : Hp} {a l : Addr} (b : BagAt H a l) (k : Keep a H H') : ∀ (d : PyData) (v : V), nb d = true → Dp K H v d → Dp K H' v d
  | .none, _, _, h => by cases h; exact .non
  | .bool b, _, _, h => by cases h; exact .bl b
  | .int i, _, _, h => by cases h; exact .int i
  | .str x, _, _, h => by cases h; exact .str x
  | .dict _, _, _, h => by cases h
  | .tuple ds, _, f, h => by
    cases h with
    | tup hs ha => exact .tup (keep_t b k _ _ hs) (dps_nb b k ds _ (by unfold nb at f; exact f) ha)
  | .list ds, _, f, h => by
    cases h with
    | @lst p xs _ hs ha =>
      unfold nb at f
      rw [Bool.and_eq_true] at f
      obtain ⟨ns, q, t, s, h1, _⟩ := id b
      refine .lst ?_ (dps_nb b k ds _ f.2 ha)
      rcases hs with (h | ⟨o, h⟩) | h
      · refine .inl (.inl (k _ _ (fun z => ?_) h))
        rw [z, h1] at h
        injection h with h
        injection h with h
        rw [← h] at ha
        have := bag_data (l := .non) (H0 := H) ha
        rw [this] at f
        exact nomatch f.1
      · exact .inl (.inr ⟨o, k _ _ (fun z => by rw [z, h1] at h; cases h) h⟩)
      · exact .inr h
theorem dps_nb {K : PySem.W.Frag} {H H' : Hp} {a l : Addr} (b : BagAt H a l) (k : Keep a H H') : ∀ (ds : List PyData) (vs : List V), nbAll ds = true → DpAll K H vs ds → DpAll K H' vs ds
  | [], _, _, h => by cases h; exact .nil
  | d :: ds, _, f, h => by
    unfold nbAll at f
    rw [Bool.and_eq_true] at f
    cases h with
    | cons h1 h2 => exact .cons (dp_nb b k d _ f.1 h1) (dps_nb b k ds _ f.2 h2)
end
/-- a list of such things is not the bag's -/
theorem lst_ne {K : PySem.W.Frag} {H : Hp} {a l p : Addr} {vs : List V} {ds : List PyData} (b : BagAt H a l) (h : H p = some (.lst vs)) (hd : DpAll K H vs ds) (n : nb (.list ds) = true) : p ≠ a := fun z => by
  obtain ⟨ns, q, t, s, h1, _⟩ := b
  rw [z, h1] at h
  injection h with h
  injection h with h
  rw [← h] at hd
  unfold nb at n
  rw [bag_data (l := .non) (H0 := H) hd] at n
  cases n
end Ink
namespace Ink
open PySem PySem.Spec PyProof.Rows L2 Evl
/-! ### scrolls: the model -/
abbrev Sd := Int × Str × Bool
def dSd (x : Sd) : PyData := .tuple [.int x.1, .str x.2.1, .bool x.2.2]
/-- a step: a sign, or a company's writers -/
inductive Stp where
  | sg (z : Str)
  | cr (m : List Wr)
def dSL : Stp → PyData
  | .sg z => .str z
  | .cr m => dMl m
def dST : Stp → PyData
  | .sg z => .str z
  | .cr m => dMt m
def sgOf : Stp → Option Str
  | .sg z => some z
  | .cr _ => none
def sigsOf (tr : List Stp) : List Str := tr.filterMap sgOf
abbrev Crews := List (List (List Wr))
def lastC (cs : Crews) : List Wr := (cs.getLastD []).getLastD []
def stepC (cs : Crews) : Stp → Crews
  | .sg _ => cs ++ [[lastC cs]]
  | .cr m => cs.dropLast ++ [cs.getLastD [] ++ [m]]
def crewsOf (m : List Wr) (tr : List Stp) : Crews := tr.foldl stepC [[m]]
structure GoodStp (x : Stp) : Prop where
  sg : ∀ z, x = .sg z → ∃ c ∈ lets, z = single c
  cr : ∀ m, x = .cr m → GoodM m
/-- of each sign, and behind all: the company that was, and those that come ahead of it -/
structure GoodC (cs : Crews) : Prop where
  pos : cs ≠ []
  ne : ∀ ch ∈ cs, ch ≠ []
  good : ∀ ch ∈ cs, ∀ m ∈ ch, GoodM m
  link : ∀ (j : Nat) ch ch', cs[j]? = some ch → cs[j + 1]? = some ch' → ch'.head? = ch.getLast?
theorem last_of {cs : Crews} (h : cs ≠ []) : ∃ pre ch, cs = pre ++ [ch] := ⟨cs.dropLast, cs.getLast h, (List.dropLast_concat_getLast h).symm⟩
theorem lastD_app {α : Type} (pre : List α) (x d : α) : (pre ++ [x]).getLastD d = x := by
  rw [List.getLastD_concat]
theorem GoodC.step {cs : Crews} (g : GoodC cs) {x : Stp} (hx : GoodStp x) : GoodC (stepC cs x) := by
  obtain ⟨pre, ch, rfl⟩ := last_of g.pos
  have hch := g.ne ch (by simp)
  obtain ⟨p2, m0, rfl⟩ : ∃ p2 m0, ch = p2 ++ [m0] := ⟨ch.dropLast, ch.getLast hch, (List.dropLast_concat_getLast hch).symm⟩
  have gm0 := g.good (p2 ++ [m0]) (by simp) m0 (by simp)
  cases x with
  | sg z =>
    have e : stepC (pre ++ [p2 ++ [m0]]) (.sg z) = (pre ++ [p2 ++ [m0]]) ++ [[m0]] := by
      unfold stepC lastC
      rw [lastD_app, lastD_app]
    rw [e]
    refine ⟨by simp, fun c hc => ?_, fun c hc m hm => ?_, fun j c c' h1 h2 => ?_⟩
    · rcases List.mem_append.mp hc with hc | hc
      · exact g.ne c hc
      · rw [List.mem_singleton.mp hc]
        simp
    · rcases List.mem_append.mp hc with hc | hc
      · exact g.good c hc m hm
      · rw [List.mem_singleton.mp hc, List.mem_singleton] at hm
        rw [hm]
        exact gm0
    · by_cases hj : j + 1 < (pre ++ [p2 ++ [m0]]).length
      · rw [List.getElem?_append_left hj] at h2
        rw [List.getElem?_append_left (by omega)] at h1
        exact g.link j c c' h1 h2
      · have hl : j + 1 = (pre ++ [p2 ++ [m0]]).length := by
          have := (List.getElem?_eq_some_iff.mp h2).1
          rw [List.length_append, List.length_singleton] at this
          omega
        rw [hl, List.getElem?_append_right (Nat.le_refl _), Nat.sub_self] at h2
        have h2 := Option.some.inj h2
        rw [List.length_append, List.length_singleton] at hl
        rw [List.getElem?_append_left (by rw [List.length_append, List.length_singleton]; omega), show j = pre.length by omega, List.getElem?_append_right (Nat.le_refl _), Nat.sub_self] at h1
        have h1 := Option.some.inj h1
        rw [← h1, ← h2, List.getLast?_concat]
        rfl
  | cr m =>
    have e : stepC (pre ++ [p2 ++ [m0]]) (.cr m) = pre ++ [(p2 ++ [m0]) ++ [m]] := by
      unfold stepC
      rw [lastD_app, List.dropLast_concat]
    rw [e]
    have gm := hx.cr m rfl
    refine ⟨by simp, fun c hc => ?_, fun c hc m' hm => ?_, fun j c c' h1 h2 => ?_⟩
    · rcases List.mem_append.mp hc with hc | hc
      · exact g.ne c (List.mem_append_left _ hc)
      · rw [List.mem_singleton.mp hc]
        simp
    · rcases List.mem_append.mp hc with hc | hc
      · exact g.good c (List.mem_append_left _ hc) m' hm
      · rw [List.mem_singleton.mp hc] at hm
        rcases List.mem_append.mp hm with hm | hm
        · exact g.good _ (by simp) m' hm
        · rw [List.mem_singleton.mp hm]
          exact gm
    · by_cases hj : j + 1 < pre.length
      · rw [List.getElem?_append_left hj] at h2
        rw [List.getElem?_append_left (by omega)] at h1
        exact g.link j c c' (by rw [List.getElem?_append_left (by omega)]; exact h1) (by rw [List.getElem?_append_left hj]; exact h2)
      · have hl : j + 1 = pre.length := by
          have := (List.getElem?_eq_some_iff.mp h2).1
          rw [List.length_append, List.length_singleton] at this
          omega
        rw [hl, List.getElem?_append_right (Nat.le_refl _), Nat.sub_self] at h2
        have h2 := Option.some.inj h2
        rw [List.getElem?_append_left (by omega)] at h1
        have := g.link j c (p2 ++ [m0]) (by rw [List.getElem?_append_left (by omega)]; exact h1) (by rw [hl, List.getElem?_append_right (Nat.le_refl _), Nat.sub_self]; rfl)
        rw [← this, ← h2]
        cases p2 <;> rfl
theorem GoodC.one {m : List Wr} (g : GoodM m) : GoodC [[m]] := ⟨by simp, fun c hc => by rw [List.mem_singleton.mp hc]; simp, fun c hc m' hm => by rw [List.mem_singleton.mp hc, List.mem_singleton] at hm; rw [hm]; exact g, fun j c c' _ h => by cases h⟩
theorem GoodC.fold {tr : List Stp} (h : ∀ x ∈ tr, GoodStp x) : ∀ {cs : Crews}, GoodC cs → GoodC (tr.foldl stepC cs) := by
  induction tr with
  | nil => exact fun g => g
  | cons x tr ih => exact fun g => ih (fun y hy => h y (List.mem_cons_of_mem _ hy)) (g.step (h x (List.mem_cons_self ..)))
theorem stepC_len {cs : Crews} (h : cs ≠ []) (x : Stp) : (stepC cs x).length = cs.length + (sigsOf [x]).length ∧ stepC cs x ≠ [] := by
  have hp : 0 < cs.length := List.length_pos_iff.mpr h
  cases x with
  | sg z =>
    refine ⟨?_, by unfold stepC; simp⟩
    unfold stepC
    rw [List.length_append]
    rfl
  | cr m =>
    refine ⟨?_, by unfold stepC; simp⟩
    unfold stepC
    rw [List.length_append, List.length_dropLast, List.length_singleton]
    show cs.length - 1 + 1 = cs.length + 0
    omega
theorem fold_len : ∀ (tr : List Stp) {cs : Crews}, cs ≠ [] → (tr.foldl stepC cs).length = cs.length + (sigsOf tr).length
  | [], _, _ => rfl
  | x :: tr, cs, h => by
    rw [List.foldl_cons, fold_len tr (stepC_len h x).2, (stepC_len h x).1]
    unfold sigsOf
    cases x with
    | sg z =>
      show cs.length + 1 + _ = cs.length + (z :: tr.filterMap sgOf).length
      rw [List.length_cons]
      omega
    | cr m => rfl
theorem crews_len (m : List Wr) (tr : List Stp) : (crewsOf m tr).length = (sigsOf tr).length + 1 := by
  unfold crewsOf
  rw [fold_len tr (by simp)]
  show 1 + _ = _
  omega
/-! stands, carried through -/
def atC (ch : List (List Wr)) (i : Nat) : List Wr := ch.getD i []
def turnN (ch : List (List Wr)) : Nat → Std → Std
  | 0, s => s
  | i + 1, s => carS (atC ch i) (atC ch (i + 1)) (turnN ch i s)
def turnS (ch : List (List Wr)) (s : Std) : Std := turnN ch (ch.length - 1) s
/-- how many confessions of that sign break with the name -/
def brokenM (talk : List Sd) (at' : Int) (name : Str) : Nat := (talk.filter fun x => decide (V.int x.1 = V.int at') && !decide (V.bl (decide (V.str x.2.1 = V.str name)) = V.bl x.2.2)).length
def letsM (talk : List Sd) (at' : Int) (name : Str) : Bool := ((talk.filter fun x => decide (V.int x.1 = V.int at')).map fun x => decide (V.bl x.2.2 = V.bl (decide (V.str name = V.str x.2.1)))).all id
theorem lets_broken (talk : List Sd) (at' : Int) (name : Str) : letsM talk at' name = decide (V.int ((brokenM talk at' name : Nat) : Int) = V.int 0) := by
  unfold letsM brokenM
  rw [Bool.eq_iff_iff, decide_eq_true_eq]
  have key : ∀ x : Sd, decide (V.bl x.2.2 = V.bl (decide (V.str name = V.str x.2.1))) = decide (V.bl (decide (V.str x.2.1 = V.str name)) = V.bl x.2.2) := fun x => by
    have e : decide (V.str name = V.str x.2.1) = decide (V.str x.2.1 = V.str name) := decide_eq_decide.mpr ⟨Eq.symm, Eq.symm⟩
    rw [e]
    exact decide_eq_decide.mpr ⟨Eq.symm, Eq.symm⟩
  constructor
  · intro h
    congr 1
    have : (talk.filter fun x => decide (V.int x.1 = V.int at') && !decide (V.bl (decide (V.str x.2.1 = V.str name)) = V.bl x.2.2)) = [] := List.filter_eq_nil_iff.mpr fun x hx hc => by
      rw [Bool.and_eq_true] at hc
      have := List.all_eq_true.mp h _ (List.mem_map_of_mem (List.mem_filter.mpr ⟨hx, hc.1⟩))
      rw [id, key x] at this
      rw [this] at hc
      exact nomatch hc.2
    rw [this]
    rfl
  · intro h
    injection h with h
    have h0 : (talk.filter fun x => decide (V.int x.1 = V.int at') && !decide (V.bl (decide (V.str x.2.1 = V.str name)) = V.bl x.2.2)) = [] := List.eq_nil_of_length_eq_zero (by omega)
    refine List.all_eq_true.mpr fun b hb => ?_
    obtain ⟨x, hx, rfl⟩ := List.mem_map.mp hb
    obtain ⟨h1, h2⟩ := List.mem_filter.mp hx
    have := List.filter_eq_nil_iff.mp h0 x h1
    rw [h2, Bool.true_and] at this
    rw [id, key x]
    simpa using this
abbrev Row3 := List Str × Crews × List Sd
def dCh (ch : List (List Wr)) : PyData := .list (ch.map dMl)
def dRow (r : Row3) : PyData := .tuple [.list (r.1.map .str), .list (r.2.1.map dCh), .list (r.2.2.map dSd)]
def chAt' (r : Row3) (j : Nat) : List (List Wr) := r.2.1.getD j []
def lastW (r : Row3) (at' : Nat) : List Wr := (r.2.1.getD at' []).getLastD []
def okStep (r : Row3) (at' : Nat) (bound : Bool) (x : Str × Str × Std) : Bool := decide (V.str x.1 = V.str (r.1.getD at' Str.empty)) && (!bound || letsM r.2.2 at' x.2.1)
/-- who writes that sign, and the stand at the next one -/
def onM (r : Row3) (at' : Nat) (s : Std) (bound : Bool) : List (Str × Std) := ((stepsOf (lastW r at') s).filter (okStep r at' bound)).map fun x => (x.2.1, turnS (chAt' r (at' + 1)) x.2.2)
def dGo (x : Str × Std) : PyData := .tuple [.str x.1, dS x.2]
theorem fz_dGo (x : Str × Std) : fz (dGo x) = true := by
  have h := fz_dS x.2
  unfold dGo
  simp only [fz, fzAll, h, Bool.and_true]
theorem fz_dSd (x : Sd) : fz (dSd x) = true := by
  unfold dSd
  simp only [fz, fzAll, Bool.and_true]
theorem nb_strs (zs : List Str) : nb (.list (zs.map .str)) = true := nb_list (fun d hd i h => by
  obtain ⟨z, _, rfl⟩ := List.mem_map.mp hd
  cases h) (nb_map fun z _ => by unfold nb; rfl)
theorem nb_dMl (m : List Wr) : nb (dMl m) = true := nb_list (fun d hd i h => by
  obtain ⟨z, _, rfl⟩ := List.mem_map.mp hd
  cases h) (nb_map fun z _ => nb_fz _ (fz_dW z))
theorem nb_dCh (ch : List (List Wr)) : nb (dCh ch) = true := nb_list (fun d hd i h => by
  obtain ⟨z, _, rfl⟩ := List.mem_map.mp hd
  cases h) (nb_map fun z _ => nb_dMl z)
theorem nb_sds (t : List Sd) : nb (.list (t.map dSd)) = true := nb_list (fun d hd i h => by
  obtain ⟨z, _, rfl⟩ := List.mem_map.mp hd
  cases h) (nb_map fun z _ => nb_fz _ (fz_dSd z))
theorem nb_crews (cs : Crews) : nb (.list (cs.map dCh)) = true := nb_list (fun d hd i h => by
  obtain ⟨z, _, rfl⟩ := List.mem_map.mp hd
  cases h) (nb_map fun z _ => nb_dCh z)
theorem nb_dSL (x : Stp) : nb (dSL x) = true := by
  cases x with
  | sg z => unfold dSL nb; rfl
  | cr m => exact nb_dMl m
theorem nb_track (tr : List Stp) : nb (.list (tr.map dSL)) = true := nb_list (fun d hd i h => by
  obtain ⟨z, _, rfl⟩ := List.mem_map.mp hd
  cases z <;> cases h) (nb_map fun z _ => nb_dSL z)
theorem nb_dRow (r : Row3) : nb (dRow r) = true := by
  unfold dRow
  simp only [nb, nbAll, Bool.and_true, Bool.and_eq_true]
  have h1 := nb_strs r.1
  have h2 := nb_crews r.2.1
  have h3 := nb_sds r.2.2
  unfold nb at h1 h2 h3
  simp only [Bool.and_eq_true] at h1 h2 h3
  exact ⟨h1, h2, h3⟩
/-! what is carried is as it must be -/
theorem kept_some {m m2 : List Wr} {j k : Nat} (h : (keptW m m2)[j]? = some (some k)) : k < m.length ∧ j < m2.length ∧ wr m k = wr m2 j := by
  unfold keptW at h
  rw [List.getElem?_map] at h
  cases e : m2[j]? with
  | none =>
    rw [e] at h
    cases h
  | some x =>
    rw [e] at h
    have h := Option.some.inj h
    have hj := (List.getElem?_eq_some_iff.mp e).1
    have ej : wr m2 j = x := by
      unfold wr
      rw [List.getD_eq_getElem?_getD, e]
      rfl
    unfold ixW at h
    rw [List.findIdx?_eq_some_iff_getElem] at h
    obtain ⟨hk, h1, _⟩ := h
    refine ⟨hk, hj, ?_⟩
    rw [ej]
    unfold wr
    rw [List.getD_eq_getElem?_getD, List.getElem?_eq_getElem hk]
    exact of_decide_eq_true h1
theorem car_at (m m2 : List Wr) (s : Std) {j : Nat} (hj : j < m2.length) : ∃ o, (keptW m m2)[j]? = some o ∧ pl (carS m m2 s) j = orN (pl s) o ∧ wt (carS m m2 s) j = orN (wt s) o := by
  have hl : (keptW m m2).length = m2.length := by unfold keptW; rw [List.length_map]
  refine ⟨_, List.getElem?_eq_getElem (by rw [hl]; exact hj), ?_, ?_⟩
  · unfold pl carS
    rw [List.getD_eq_getElem?_getD, List.getElem?_map, List.getElem?_eq_getElem (by rw [hl]; exact hj)]
    rfl
  · unfold wt carS
    rw [List.getD_eq_getElem?_getD, List.getElem?_map, List.getElem?_eq_getElem (by rw [hl]; exact hj)]
    rfl
theorem okay_car {m m2 : List Wr} {s : Std} (o : Okay m s) : Okay m2 (carS m m2 s) := by
  refine ⟨car_fits m m2 s, fun j hj hm => ?_, ?_⟩
  · obtain ⟨k, hk, e1, e2⟩ := car_at m m2 s hj
    rw [e2]
    cases k with
    | none => rfl
    | some k =>
      obtain ⟨h1, h2, h3⟩ := kept_some hk
      refine o.w0 k h1 ?_
      rw [← hm]
      unfold minds
      rw [h3, e1]
      rfl
  · show (match ixR (keptW m m2) s.2.2.1 with | some j => ((j : Int), s.2.2.2) | none => (-1, 0)) = (-1, 0) ∨ _
    cases e : ixR (keptW m m2) s.2.2.1 with
    | none => exact .inl rfl
    | some j =>
      refine .inr ⟨j, ?_⟩
      have e0 := e
      unfold ixR at e
      rw [List.findIdx?_eq_some_iff_getElem] at e
      obtain ⟨hj, h1, _⟩ := e
      have hl : (keptW m m2).length = m2.length := by unfold keptW; rw [List.length_map]
      cases ek : (keptW m m2)[j] with
      | none =>
        rw [ek] at h1
        cases h1
      | some k =>
        rw [ek] at h1
        have h1 : ((k : Nat) : Int) = s.2.2.1 := of_decide_eq_true h1
        obtain ⟨hk, hj2, hw⟩ := kept_some (m := m) (m2 := m2) (j := j) (k := k) (by rw [List.getElem?_eq_getElem hj, ek])
        have e2 : (carS m m2 s).2.2 = ((j : Int), s.2.2.2) := by
          unfold carS
          show (match ixR (keptW m m2) s.2.2.1 with | some j => ((j : Int), s.2.2.2) | none => (-1, 0)) = _
          rw [e0]
        rw [e2]
        rcases o.run with h | ⟨k', hk', h2, h3, h4⟩
        · rw [h] at h1
          have h1 : ((k : Nat) : Int) = -1 := h1
          omega
        · have : k' = k := by omega
          subst this
          exact ⟨hj2, rfl, by rw [← hw]; exact h3, by rw [← hw]; exact h4⟩
theorem turn_okay {ch : List (List Wr)} {s : Std} (o : Okay (atC ch 0) s) : ∀ i, Okay (atC ch i) (turnN ch i s)
  | 0 => o
  | i + 1 => okay_car (turn_okay o i)
theorem turn_fits {ch : List (List Wr)} {s : Std} (o : Fits (atC ch 0) s) : ∀ i, Fits (atC ch i) (turnN ch i s)
  | 0 => o
  | i + 1 => car_fits _ _ _
theorem car_begin (m m2 : List Wr) : carS m m2 (beginS m) = beginS m2 := by
  have key : ∀ (f : Nat → Int), (∀ k, f k = 0) → (keptW m m2).map (orN f) = List.replicate m2.length 0 := fun f hf => by
    refine List.eq_replicate_iff.mpr ⟨by unfold keptW; rw [List.length_map, List.length_map], fun b hb => ?_⟩
    obtain ⟨o, _, rfl⟩ := List.mem_map.mp hb
    cases o with
    | none => rfl
    | some k => exact hf k
  have z : ∀ (n : Nat) (k : Nat), (List.replicate n (0 : Int)).getD k 0 = 0 := fun n k => by
    rw [List.getD_eq_getElem?_getD, List.getElem?_replicate]
    split <;> rfl
  have r : ixR (keptW m m2) (-1) = none := by
    unfold ixR
    rw [List.findIdx?_eq_none_iff]
    intro x _
    cases x with
    | none => rfl
    | some k =>
      show decide ((k : Int) = -1) = false
      exact decide_eq_false (by omega)
  unfold carS beginS
  show ((keptW m m2).map (orN (pl (beginS m))), (keptW m m2).map (orN (wt (beginS m))), match ixR (keptW m m2) (-1) with | some j => ((j : Int), (0 : Int)) | none => (-1, 0)) = _
  rw [r, key (pl (beginS m)) (fun k => z m.length k), key (wt (beginS m)) (fun k => z m.length k)]
theorem turn_begin (ch : List (List Wr)) : ∀ i, turnN ch i (beginS (atC ch 0)) = beginS (atC ch i)
  | 0 => rfl
  | i + 1 => by
    show carS (atC ch i) (atC ch (i + 1)) (turnN ch i (beginS (atC ch 0))) = _
    rw [turn_begin ch i, car_begin]
theorem lastD_at {ch : List (List Wr)} (h : ch ≠ []) : ch.getLastD [] = atC ch (ch.length - 1) := by
  obtain ⟨p, x, rfl⟩ : ∃ p x, ch = p ++ [x] := ⟨ch.dropLast, ch.getLast h, (List.dropLast_concat_getLast h).symm⟩
  unfold atC
  rw [lastD_app, List.length_append, List.length_singleton, Nat.add_sub_cancel, List.getD_eq_getElem?_getD, List.getElem?_append_right (Nat.le_refl _), Nat.sub_self]
  rfl
/-- a row of companies and confessions in its form -/
structure GoodR (r : Row3) : Prop where
  c : GoodC r.2.1
  len : r.2.1.length = r.1.length + 1
  n1 : r.1.length ≤ 900
  n2 : ∀ ch ∈ r.2.1, ch.length ≤ 900
  n3 : r.2.2.length ≤ 900
abbrev chAt := chAt'
theorem GoodR.ch {r : Row3} (g : GoodR r) {j : Nat} (h : j ≤ r.1.length) : r.2.1[j]? = some (chAt r j) ∧ chAt r j ≠ [] ∧ (∀ m ∈ chAt r j, GoodM m) ∧ (chAt r j).length ≤ 900 := by
  have hl := g.len
  have e : r.2.1[j]? = some (chAt r j) := by
    unfold chAt chAt'
    rw [List.getD_eq_getElem?_getD, List.getElem?_eq_getElem (show j < r.2.1.length by omega)]
    rfl
  have hm := List.mem_of_getElem? e
  exact ⟨e, g.c.ne _ hm, g.c.good _ hm, g.n2 _ hm⟩
theorem lastW_is (r : Row3) (j : Nat) : lastW r j = (chAt r j).getLastD [] := rfl
theorem GoodR.last {r : Row3} (g : GoodR r) {j : Nat} (h : j ≤ r.1.length) : lastW r j = atC (chAt r j) ((chAt r j).length - 1) ∧ GoodM (lastW r j) ∧ (chAt r j).getLast? = some (lastW r j) := by
  obtain ⟨_, h2, h3, _⟩ := g.ch h
  have e := lastD_at h2
  obtain ⟨p, x, hx⟩ : ∃ p x, chAt r j = p ++ [x] := ⟨(chAt r j).dropLast, (chAt r j).getLast h2, (List.dropLast_concat_getLast h2).symm⟩
  have ex : lastW r j = x := by rw [lastW_is, hx, lastD_app]
  exact ⟨e, by rw [ex]; exact h3 x (by rw [hx]; simp), by rw [ex, hx, List.getLast?_concat]⟩
theorem GoodR.link {r : Row3} (g : GoodR r) {j : Nat} (h : j + 1 ≤ r.1.length) : atC (chAt r (j + 1)) 0 = lastW r j := by
  have h1 := (g.ch (show j ≤ r.1.length by omega)).1
  have h2 := (g.ch h).1
  have l := g.c.link j _ _ h1 h2
  rw [(g.last (show j ≤ r.1.length by omega)).2.2] at l
  unfold atC
  cases e : chAt r (j + 1) with
  | nil =>
    rw [e] at l
    cases l
  | cons x y =>
    rw [e] at l
    exact Option.some.inj l
theorem on_okay {r : Row3} (g : GoodR r) {j : Nat} (h : j < r.1.length) {s : Std} (o : Okay (lastW r j) s) {b : Bool} {x : Str × Std} (hx : x ∈ onM r j s b) : Okay (lastW r (j + 1)) x.2 := by
  obtain ⟨y, hy, rfl⟩ := List.mem_map.mp hx
  have hy := (List.mem_filter.mp hy).1
  obtain ⟨k, to, hk, hm, e, _⟩ := steps_in hy
  have e2 : y.2.2 = behind (lastW r j) s k to := congrArg (fun z => z.2.2) e
  have ok := okay_behind (g.last (show j ≤ r.1.length by omega)).2.1 o hk hm to
  rw [(g.last (show j + 1 ≤ r.1.length by omega)).1]
  show Okay _ (turnN (chAt r (j + 1)) ((chAt r (j + 1)).length - 1) y.2.2)
  refine turn_okay ?_ _
  rw [g.link h, e2]
  exact ok
theorem on_len {r : Row3} (g : GoodR r) {j : Nat} (h : j ≤ r.1.length) (s : Std) (b : Bool) : (onM r j s b).length ≤ 27 := by
  unfold onM
  rw [List.length_map]
  refine Nat.le_trans (List.length_filter_le _ _) ?_
  unfold stepsOf
  rw [List.length_map, List.length_mergeSort]
  exact moves_len (g.last h).2.1 s
def firstS (r : Row3) : Std := beginS (lastW r 0)
/-- whether the names go on from there -/
def walkM (r : Row3) : List Str → Nat → Std → Bool
  | [], _, _ => true
  | z :: zs, j, s => match (onM r j s true).filter (fun x => decide (V.str x.1 = V.str z)) with
    | [] => false
    | x :: _ => walkM r zs (j + 1) x.2
def telM (r : Row3) (row : List Str) : Bool := decide (row.length = r.1.length) && walkM r row 0 (firstS r)
end Ink
namespace Ink
open PySem PySem.Spec PyProof.Rows L2 Evl
/-! ### scrolls: the law's own defs -/
def RTurn : List PyData → PyData → Prop := fun ds d => ∃ ch s, ch ≠ [] ∧ (∀ m ∈ ch, GoodM m) ∧ ch.length ≤ 900 ∧ Fits (atC ch 0) s ∧ ds = [dCh ch, dS s] ∧ d = dS (turnS ch s)
def RFirst : List PyData → PyData → Prop := fun ds d => ∃ r, GoodR r ∧ ds = [dRow r] ∧ d = dS (firstS r)
def RBroken : List PyData → PyData → Prop := fun ds d => ∃ (talk : List Sd) (at' : Int) (name : Str), talk.length ≤ 900 ∧ ds = [.list (talk.map dSd), .int at', .str name] ∧ d = .int ((brokenM talk at' name : Nat) : Int)
def ROn : List PyData → List PyData → Prop := fun ds d => ∃ (r : Row3) (j : Nat) (s : Std) (b : Bool), GoodR r ∧ j < r.1.length ∧ Okay (lastW r j) s ∧ ds = [dRow r, .int (j : Int), dS s, .bool b] ∧ d = (onM r j s b).map dGo
def RTel : List PyData → PyData → Prop := fun ds d => ∃ (r : Row3) (row : List Str), GoodR r ∧ row.length ≤ 1000 ∧ ds = [dRow r, .list (row.map .str)] ∧ d = .bool (telM r row)
theorem vcut_m1 (xs : List V) : cutV xs none (some (-1)) = xs.dropLast := by
  unfold cutV
  rw [HT.sIx_none, List.drop_zero, Nat.sub_zero, List.dropLast_eq_take]
  congr 1
  show (if (-1 : Int) < 0 then (-1 + (xs.length : Int)).toNat else min (-1 : Int).toNat xs.length) = _
  rw [if_pos (by decide)]
  omega
section
variable {K : PySem.W.Frag} {σ : L2.St} {H : Hp} {ta tb te : TE} {ds : List PyData}
theorem dps_dropLast {vs : List V} (h : DpAll K H vs ds) : DpAll K H vs.dropLast ds.dropLast := by
  rw [List.dropLast_eq_take, List.dropLast_eq_take, h.length]
  exact h.take _
theorem en_slM1 (h : EvD K te σ H (.list ds)) (hk : Ev tb σ H (.int (-1))) : EvN K (tSl (rSlL K) te tNoPart (tPart tb)) σ H ds.dropLast := fun H1 e Q q =>
  h H1 e _ fun v H2 e2 hv => hk H2 (e.trans e2) _ fun H3 e3 => ⟨-1, rfl, by
    obtain ⟨p, xs, rfl, hs, hxs⟩ := dp_lst (dp_same e3 hv)
    refine ⟨p, xs, rfl, hs, fun p2 np => ?_⟩
    rw [vcut_m1]
    exact q p2 _ _ (fresh_back (e2.trans e3) np) ((e2.trans e3).trans (Ex.new np)) upd_same (dps_same (Ex.new np) (dps_dropLast hxs))⟩
/-- the last of a list -/
theorem ed_ixLast {d : PyData} (ha : EvD K ta σ H (.list ds)) (hb : Ev tb σ H (.int (-1))) (hd : ds.getLast? = some d) : EvD K (tOp (rIxL K) ta tb) σ H d := fun H1 e Q q =>
  ha H1 e _ fun v H2 e2 hv => hb H2 (e.trans e2) _ fun H3 e3 => by
    obtain ⟨p, xs, rfl, hs, hxs⟩ := dp_lst (dp_same e3 hv)
    obtain ⟨ys, rfl⟩ : ∃ ys, ds = ys ++ [d] := List.getLast?_eq_some_iff.mp hd
    have hl := hxs.length
    rw [List.length_append, List.length_singleton] at hl
    obtain ⟨v, hv, hdv⟩ := hxs.get (i := ys.length) (d := d) (by rw [List.getElem?_append_right (Nat.le_refl _), Nat.sub_self]; rfl)
    have hx : xs = xs.take ys.length ++ [v] := by
      have h1 := (List.take_append_drop ys.length xs).symm
      rw [List.drop_eq_getElem_cons (by omega), List.drop_of_length_le (by omega)] at h1
      rw [List.getElem?_eq_getElem (by omega)] at hv
      rw [Option.some.inj hv] at h1
      exact h1
    exact ⟨p, xs, -1, v, rfl, rfl, hs, by rw [hx]; exact atI_last _ _, q v H3 (e2.trans e3) hdv⟩
def iOn (J : It) : TI := fun _ H R => R J H
/-- a walk over a list just made -/
theorem for_newL {g : TG} {tu : TS} {D : Ends} (h : EvN K te σ H ds) (k : ∀ p vs H1, H p = none → Ex H H1 → H1 p = some (.lst vs) → DpAll K H1 vs ds → tFor (iOn (Itl K p)) g tu D σ H1) : tFor (iList K te) g tu D σ H := h H (.refl H) _ fun p vs H1 np e hp hd => ⟨p, rfl, ⟨vs, .of hp⟩, k p vs H1 np e hp hd⟩
end
theorem zip_at {ch : List (List Wr)} {i : Nat} {d : PyData} (h : (((ch.map dMl).dropLast.zip ((ch.map dMl).drop 1)).map fun p => PyData.tuple [p.1, p.2])[i]? = some d) : i + 1 < ch.length ∧ d = .tuple [dMl (atC ch i), dMl (atC ch (i + 1))] := by
  rw [List.getElem?_map, Option.map_eq_some_iff] at h
  obtain ⟨⟨a, b⟩, hp, rfl⟩ := h
  rw [List.getElem?_zip_eq_some] at hp
  obtain ⟨h1, h2⟩ := hp
  rw [List.getElem?_dropLast] at h1
  rw [List.getElem?_drop] at h2
  rw [List.getElem?_map] at h1 h2
  have hi : i + 1 < ch.length := by
    rw [Nat.add_comm, Option.map_eq_some_iff] at h2
    obtain ⟨x, hx, _⟩ := h2
    exact (List.getElem?_eq_some_iff.mp hx).1
  refine ⟨hi, ?_⟩
  rw [if_pos (by rw [List.length_map]; omega), List.getElem?_eq_getElem (by omega)] at h1
  rw [Nat.add_comm, List.getElem?_eq_getElem hi] at h2
  unfold atC
  rw [List.getD_eq_getElem?_getD, List.getD_eq_getElem?_getD, List.getElem?_eq_getElem (show i < ch.length by omega), List.getElem?_eq_getElem hi]
  rw [← Option.some.inj h1, ← Option.some.inj h2]
  rfl
theorem zip_len (ch : List (List Wr)) : (((ch.map dMl).dropLast.zip ((ch.map dMl).drop 1)).map fun p => PyData.tuple [p.1, p.2]).length = ch.length - 1 := by
  rw [List.length_map, List.length_zip, List.length_dropLast, List.length_drop, List.length_map, Nat.min_self]
theorem atC_mem {ch : List (List Wr)} {i : Nat} (h : i < ch.length) : atC ch i ∈ ch := by
  unfold atC
  rw [List.getD_eq_getElem?_getD, List.getElem?_eq_getElem h]
  exact List.getElem_mem h
theorem atC_get {ch : List (List Wr)} {i : Nat} (h : i < ch.length) : (ch.map dMl)[i]? = some (dMl (atC ch i)) := by
  unfold atC
  rw [List.getElem?_map, List.getD_eq_getElem?_getD, List.getElem?_eq_getElem h]
  rfl
theorem GoodR.dch {r : Row3} (g : GoodR r) {j : Nat} (h : j ≤ r.1.length) : (r.2.1.map dCh)[j]? = some (dCh (chAt r j)) := by
  rw [List.getElem?_map, (g.ch h).1]
  rfl
theorem dCh_last {ch : List (List Wr)} {m : List Wr} (h : ch.getLast? = some m) : (ch.map dMl).getLast? = some (dMl m) := by
  rw [List.getLast?_map, h]
  rfl
theorem dps1' {K : PySem.W.Frag} {H : Hp} {vs : List V} {d : PyData} (h : DpAll K H vs [d]) : ∃ v, vs = [v] ∧ Dp K H v d := dps1 h
section
variable {P : Program} {w : World} {K : PySem.W.Frag} {mg : Str → Option Value} {base : Heap}
theorem ok_lbroken {f : Addr} {fd : FuncData} {k : Nat} (F : Fun K "_law_broken" "_law_broken" sLBroken f fd) (T : Txt mg) : FnOk P w K mg base CX0 (k + 1) f fd ["_law_talk", "_law_at", "_law_name"] (spP K RBroken) := by
  refine F.ok sc__law_broken (fun vs H Q E h => ?_) (fun cdv A outer s H vs Q E hr h => ?_)
  · obtain ⟨ds, d, hd, ⟨t, a, n, _, rfl, _⟩, _⟩ := h
    exact hd.length
  · obtain ⟨ds, d, hd, ⟨talk, at', name, hl, rfl, rfl⟩, q⟩ := h
    obtain ⟨v0, v1, v2, rfl, h0, h1, h2⟩ := dps3 hd
    obtain rfl := dp_int h1
    obtain rfl := dp_str h2
    refine ⟨_, (pss_one (ps_ret (pe_callB call_len (by rfl) T.m_len PySem.boot_len (pa_cons (pe_lc (own := [("_law_sign", 3), ("_law_other", 4), ("_law_yes", 5)]) (g := (gTup K 3 (gCons (gName 3) (gCons (gName 4) (gCons (gName 5) gNil))))) (by rfl) sc__law_broken.nd (pi_list (pv 0)) (blkOk_by (own := [("_law_sign", 3), ("_law_other", 4), ("_law_yes", 5)]) (N := ["_law_talk", "_law_at", "_law_name", "_law_sign", "_law_other", "_law_yes"]) (sc := defScope sLBroken) (by decide +kernel)) (fun _ _ _ _ _ => (pg_tup rfl (pgs_cons (pg_name (i := 3) sc__law_broken.nd rfl (.inl rfl)) (pgs_cons (pg_name (i := 4) sc__law_broken.nd rfl (.inl rfl)) (pgs_cons (pg_name (i := 5) sc__law_broken.nd rfl (.inl rfl)) pgs_nil))))) (fun _ _ _ _ _ => pts_one (PW.pt (pw_and (pt_cmpR op_eq (pv 3) (pv 1) (nomark _)) (pw_and1 (pt_cmpR op_ne (pe_cmpR op_eq (pv 4) (pv 2) (nomark _)) (pv 5) (nomark _)))))) (fun _ _ _ _ _ => (pv 5))) pa_nil)))), ?_⟩
    refine sd_ret (K := K) (ed_int (ev_is (ev_lenD (K := K) (EvN.list (en_lc talk dSd (fun x => decide (V.int x.1 = V.int at') && !decide (V.bl (decide (V.str x.2.1 = V.str name)) = V.bl x.2.2)) (fun x => .bool x.2.2) (ei_lst (ed_var rfl h0)) (by omega) (fun x _ => by unfold fz; rfl) fun i x H5 y hx e5 hdx R kk => ?_)) (.inl rfl)) (by rw [List.length_map]; rfl))) q
    refine tg3 hdx fun u1 u2 u3 b1 b2 b3 => ?_
    obtain rfl := dp_int b1
    obtain rfl := dp_str b2
    obtain rfl := dp_bl b3
    exact kk _ rfl (et_and (et_test (ev_op (ev_var rfl) (ev_var rfl) (rv_eq rfl))) fun _ => et_test (ev_op (ev_op (ev_var rfl) (ev_var rfl) (rv_eq rfl)) (ev_var rfl) (rv_ne rfl))) fun _ => ed_bl (ev_var rfl)
theorem enum_str {row : List Str} {i : Nat} {d : PyData} (h : (enumD (row.map PyData.str))[i]? = some d) : ∃ z, row[i]? = some z ∧ d = .tuple [.int (i : Int), .str z] := by
  have hl : i < row.length := by
    have := (List.getElem?_eq_some_iff.mp h).1
    rwa [enum_len, List.length_map] at this
  have e : (row.map PyData.str)[i]? = some (.str row[i]) := by
    rw [List.getElem?_map, List.getElem?_eq_getElem hl]
    rfl
  rw [enumD_get e] at h
  exact ⟨row[i], List.getElem?_eq_getElem hl, (Option.some.inj h).symm⟩
theorem stands_shaped (l : List Std) : SeqAt.shaped (.list (l.map dS)) = true := by
  have h1 : PyData.canLayAll0 (l.map dS) = true := lay_map fun x _ => dS_lay x
  have h2 := depth_map (f := dS) (n := 10) (l := l) fun x _ => by
    have := depth_dS x
    omega
  unfold SeqAt.shaped
  rw [Bool.and_eq_true, decide_eq_true_eq]
  refine ⟨by simp only [PyData.canLay0]; exact h1, ?_⟩
  simp only [PyData.depth]
  omega
theorem drop_at {α : Type} {l : List α} {i : Nat} {x : α} (h : l[i]? = some x) : l.drop i = x :: l.drop (i + 1) := by
  obtain ⟨h1, h2⟩ := List.getElem?_eq_some_iff.mp h
  rw [List.drop_eq_getElem_cons h1, h2]
end
end Ink
namespace Ink
open PySem PySem.Spec PyProof.Rows L2
theorem nd_get {α : Type} {l : List α} (h : l.Nodup) {i j : Nat} {x : α} (h1 : l[i]? = some x) (h2 : l[j]? = some x) : i = j := by
  obtain ⟨a1, b1⟩ := List.getElem?_eq_some_iff.mp h1
  obtain ⟨a2, b2⟩ := List.getElem?_eq_some_iff.mp h2
  have z := List.pairwise_iff_getElem.mp h
  rcases Nat.lt_trichotomy i j with c | c | c
  · exact absurd (b1.trans b2.symm) (z i j a1 a2 c)
  · exact c
  · exact absurd (b2.trans b1.symm) (z j i a2 a1 c)
theorem tiny_begin {m : List Wr} (h : m.length ≤ 3) : Tiny (beginS m) := by
  have z : ∀ {x : Int}, x ∈ List.replicate m.length (0 : Int) → x = 0 := fun hx => (List.mem_replicate.mp hx).2
  refine ⟨by unfold beginS; rw [List.length_replicate]; exact h, rfl, fun x hx => ?_, fun x hx => ?_, fun e => ⟨0, by decide, ?_⟩, .inl rfl⟩
  · rw [z hx]
    decide
  · rw [z hx]
    decide
  · unfold wt beginS
    rw [List.getD_eq_getElem?_getD, List.getElem?_replicate]
    split <;> rfl
theorem tiny_behind {m : List Wr} (g : GoodM m) {s : Std} (f : Fits m s) (t : Tiny s) {k : Nat} (hk : k < m.length) (hw : mayW m s k = true) {to : Int} (h0 : 0 ≤ to) (h2 : to ≤ 2) : Tiny (behind m s k to) := by
  have l1 := f.l1
  have l2 := f.l2
  have g3 := g.len
  have hl1 : (behind m s k to).1.length = m.length := (behind_fits f hk to).l1
  have hl2 : (behind m s k to).2.1.length = m.length := (behind_fits f hk to).l2
  have wk : wt (behind m s k to) k = 0 := by
    rw [wt_behind (by omega), decide_eq_true rfl]
    rfl
  refine ⟨by omega, by omega, fun x hx => ?_, fun x hx => ?_, fun e => ⟨k, by omega, wk⟩, ?_⟩
  · have hx : x ∈ s.1.take k ++ to :: s.1.drop (k + 1) := hx
    rcases List.mem_append.mp hx with z | z
    · exact t.p x (List.mem_of_mem_take z)
    · rcases List.mem_cons.mp z with z | z
      · rw [z]
        exact ⟨h0, h2⟩
      · exact t.p x (List.mem_of_mem_drop z)
  · obtain ⟨j, hj, rfl⟩ := List.mem_map.mp hx
    have hj := List.mem_range.mp hj
    have hjm : j < m.length := by omega
    split
    · rename_i c
      rw [Bool.and_eq_true] at c
      have wj := t.w (wt s j) (by
        unfold wt
        rw [List.getD_eq_getElem?_getD, List.getElem?_eq_getElem hj]
        exact List.getElem_mem hj)
      have pj := (g.at hjm).p3
      have lt : wt s j < (wr m j).2.2.1 := by
        unfold mayW at hw
        split at hw
        · cases hw
        · rw [List.all_map] at hw
          have := List.all_eq_true.mp hw j (List.mem_filter.mpr ⟨List.mem_range.mpr hjm, by rw [Bool.and_eq_true]; exact c⟩)
          exact of_decide_eq_true this
      omega
    · decide
  · unfold behind
    by_cases h : V.int (wr m k).2.2.2 = V.int 0
    · rw [if_pos h]
      exact .inl rfl
    · rw [if_neg h]
      have h0 : (wr m k).2.2.2 ≠ 0 := fun z => h (by rw [z])
      have c3 := (g.at hk).c3
      refine .inr ⟨k, by show k < (behind m s k to).1.length; omega, rfl, ?_, ?_, wk⟩
      · show 1 ≤ (if V.int s.2.2.1 = V.int (k : Int) then s.2.2.2 + 1 else 1)
        split
        · rename_i e
          injection e with e
          rcases t.r with z | ⟨j, _, _, z, _⟩
          · have : s.2.2.1 = -1 := by rw [z]
            omega
          · omega
        · decide
      · show (if V.int s.2.2.1 = V.int (k : Int) then s.2.2.2 + 1 else 1) ≤ 3
        split
        · rename_i e
          unfold mayW at hw
          split at hw
          · cases hw
          · rename_i hn
            have : ¬ s.2.2.2 ≥ (wr m k).2.2.2 := fun hge => hn (by rw [decide_eq_false h, decide_eq_true e, decide_eq_true hge]; rfl)
            omega
        · decide
theorem tiny_steps {m : List Wr} (g : GoodM m) {s : Std} (f : Fits m s) (t : Tiny s) {x : Str × Str × Std} (h : x ∈ stepsOf m s) : Tiny x.2.2 := by
  unfold stepsOf at h
  obtain ⟨y, hy, rfl⟩ := List.mem_map.mp h
  rw [List.mem_mergeSort] at hy
  obtain ⟨k, hk, hy⟩ := List.mem_flatMap.mp hy
  have hk := List.mem_range.mp hk
  unfold movesAt at hy
  split at hy
  · rename_i hw
    obtain ⟨a, ha, rfl⟩ := List.mem_map.mp hy
    have ga := (g.at hk).each a (List.mem_filter.mp ha).1
    exact tiny_behind g f t hk hw ga.2.2.2.1 ga.2.2.2.2
  · cases hy
theorem tiny_car {m m2 : List Wr} {s : Std} (f : Fits m s) (t : Tiny s) (g : m.length ≤ 3) (g2 : GoodM m2) : Tiny (carS m m2 s) := by
  have k2 := g2.len
  have lk : (keptW m m2).length = m2.length := List.length_map _
  have pt : ∀ (o : Option Nat), o ∈ keptW m m2 → o = none ∨ ∃ k, o = some k ∧ k < m.length := fun o ho => by
    obtain ⟨j, hj⟩ := List.mem_iff_getElem?.mp ho
    cases o with
    | none => exact .inl rfl
    | some k => exact .inr ⟨k, rfl, (kept_some hj).1⟩
  have l1 := f.l1
  have l2 := f.l2
  have gd : ∀ (ns : List Int) (k : Nat), k < ns.length → ns.getD k 0 ∈ ns := fun ns k h => by
    rw [List.getD_eq_getElem?_getD, List.getElem?_eq_getElem h]
    exact List.getElem_mem h
  refine ⟨by show ((keptW m m2).map _).length ≤ 3; rw [List.length_map, lk]; exact k2, by show ((keptW m m2).map _).length = ((keptW m m2).map _).length; rw [List.length_map, List.length_map], fun x hx => ?_, fun x hx => ?_, fun e => ?_, ?_⟩
  · obtain ⟨o, ho, rfl⟩ := List.mem_map.mp hx
    rcases pt o ho with rfl | ⟨k, rfl, hk⟩
    · exact ⟨Int.le_refl 0, (by decide : (0 : Int) ≤ 2)⟩
    · exact t.p _ (gd s.1 k (by omega))
  · obtain ⟨o, ho, rfl⟩ := List.mem_map.mp hx
    rcases pt o ho with rfl | ⟨k, rfl, hk⟩
    · exact ⟨Int.le_refl 0, (by decide : (0 : Int) ≤ 3)⟩
    · exact t.w _ (gd s.2.1 k (by omega))
  · have e : ((keptW m m2).map (orN (pl s))).length = 3 := e
    rw [List.length_map, lk] at e
    obtain ⟨o0, a0, _, b0⟩ := car_at m m2 s (show 0 < m2.length by omega)
    obtain ⟨o1, a1, _, b1⟩ := car_at m m2 s (show 1 < m2.length by omega)
    obtain ⟨o2, a2, _, b2⟩ := car_at m m2 s (show 2 < m2.length by omega)
    have nd : ∀ {i j k : Nat}, i ≠ j → (keptW m m2)[i]? = some (some k) → (keptW m m2)[j]? = some (some k) → False := fun {i j k} hij h1 h2 => by
      obtain ⟨_, hi, e1⟩ := kept_some h1
      obtain ⟨_, hj, e2⟩ := kept_some h2
      have q1 : (m2.map (·.1))[i]? = some (wr m2 i).1 := by
        rw [List.getElem?_map, wr_get hi]
        rfl
      have q2 : (m2.map (·.1))[j]? = some (wr m2 j).1 := by
        rw [List.getElem?_map, wr_get hj]
        rfl
      rw [← e2, e1] at q2
      exact hij (nd_get g2.nd q1 q2)
    cases o0 with
    | none => exact ⟨0, by decide, b0⟩
    | some k0 =>
      cases o1 with
      | none => exact ⟨1, by decide, b1⟩
      | some k1 =>
        cases o2 with
        | none => exact ⟨2, by decide, b2⟩
        | some k2 =>
          have h0 := (kept_some a0).1
          have h1 := (kept_some a1).1
          have h2 := (kept_some a2).1
          have n01 : k0 ≠ k1 := fun z => nd (by decide) a0 (z ▸ a1)
          have n02 : k0 ≠ k2 := fun z => nd (by decide) a0 (z ▸ a2)
          have n12 : k1 ≠ k2 := fun z => nd (by decide) a1 (z ▸ a2)
          obtain ⟨k, hk, ek⟩ := t.z (by omega)
          have : k = k0 ∨ k = k1 ∨ k = k2 := by omega
          rcases this with z | z | z
          · exact ⟨0, by decide, by rw [b0, ← z]; exact ek⟩
          · exact ⟨1, by decide, by rw [b1, ← z]; exact ek⟩
          · exact ⟨2, by decide, by rw [b2, ← z]; exact ek⟩
  · have er : (carS m m2 s).2.2 = match ixR (keptW m m2) s.2.2.1 with
      | some j => ((j : Int), s.2.2.2)
      | none => (-1, 0) := rfl
    cases hx : ixR (keptW m m2) s.2.2.1 with
    | none =>
      rw [hx] at er
      exact .inl er
    | some j =>
      rw [hx] at er
      unfold ixR at hx
      obtain ⟨hj, q1, _⟩ := List.findIdx?_eq_some_iff_getElem.mp hx
      have hj2 : j < m2.length := by omega
      obtain ⟨o, ho, _, bo⟩ := car_at m m2 s hj2
      rw [List.getElem?_eq_getElem hj] at ho
      obtain rfl := Option.some.inj ho
      cases ek : (keptW m m2)[j] with
      | none =>
        rw [ek] at q1
        cases q1
      | some k =>
        rw [ek] at q1 bo
        have q1 : (k : Int) = s.2.2.1 := of_decide_eq_true q1
        rcases t.r with z | ⟨k', h1, h2, h3, h4, h5⟩
        · have : s.2.2.1 = -1 := by rw [z]
          omega
        · have : k' = k := by omega
          subst this
          refine .inr ⟨j, ?_, by rw [er], by rw [er]; exact h3, by rw [er]; exact h4, by rw [bo]; exact h5⟩
          show j < ((keptW m m2).map _).length
          rw [List.length_map]
          exact hj
theorem tiny_turn {ch : List (List Wr)} (g : ∀ m ∈ ch, GoodM m) {s : Std} (f : Fits (atC ch 0) s) (t : Tiny s) : ∀ i, i < ch.length → Tiny (turnN ch i s)
  | 0, _ => t
  | i + 1, h => tiny_car (turn_fits f i) (tiny_turn g f t i (by omega)) (g _ (atC_mem (by omega))).len (g _ (atC_mem h))
theorem tiny_on {r : Row3} (g : GoodR r) {j : Nat} (h : j < r.1.length) {s : Std} (f : Fits (lastW r j) s) (t : Tiny s) {b : Bool} {x : Str × Std} (hx : x ∈ onM r j s b) : Tiny x.2 := by
  unfold onM at hx
  obtain ⟨y, hy, rfl⟩ := List.mem_map.mp hx
  have hy := (List.mem_filter.mp hy).1
  have gl := g.last (show j ≤ r.1.length by omega)
  obtain ⟨_, gne, gch, _⟩ := g.ch (show j + 1 ≤ r.1.length by omega)
  have ty := tiny_steps gl.2.1 f t hy
  have fy : Fits (atC (chAt r (j + 1)) 0) y.2.2 := by
    obtain ⟨k, to, hk, _, e, _⟩ := steps_in hy
    have e2 : y.2.2 = behind (lastW r j) s k to := congrArg (fun z => z.2.2) e
    rw [g.link (show j + 1 ≤ r.1.length by omega), e2]
    exact behind_fits f hk to
  exact tiny_turn gch fy ty ((chAt r (j + 1)).length - 1) (by have := List.length_pos_iff.mpr gne; omega)
end Ink
namespace Ink
open PySem PySem.Spec PyProof.Rows L2 Evl
/-! ### chains: at q a list of lists, each of which grows at its end -/
abbrev Chs (β : Type) := List (Addr × List (Addr × β))
structure Surv {β : Type} (I : Hp → Addr → β → Prop) : Prop where
  ex : ∀ {H c b}, I H c b → ∃ o, H c = some o
  same : ∀ {H H' c b}, Ex H H' → I H c b → I H' c b
  upd : ∀ {H a xs o c b}, H a = some (.lst xs) → c ≠ a → I H c b → I (upd H a (.lst o)) c b
structure ChsAt {β : Type} (I : Hp → Addr → β → Prop) (H : Hp) (q : Addr) (ps : Chs β) : Prop where
  hq : H q = some (.lst (ps.map fun x => .ref x.1))
  at_ : ∀ x ∈ ps, H x.1 = some (.lst (x.2.map fun y => .ref y.1))
  inn : ∀ x ∈ ps, ∀ y ∈ x.2, I H y.1 y.2
  nd : (ps.map (·.1)).Nodup
  nq : ∀ x ∈ ps, x.1 ≠ q
  off : ∀ x ∈ ps, ∀ y ∈ x.2, y.1 ≠ q ∧ ∀ z ∈ ps, z.1 ≠ y.1
def crW {β : Type} (ps : Chs β) : List (List β) := ps.map fun x => x.2.map (·.2)
section
variable {β : Type} {I : Hp → Addr → β → Prop} {H H0 : Hp} {q p : Addr} {ps : Chs β}
theorem ChsAt.same (S : Surv I) (e : Ex H0 H) (c : ChsAt I H0 q ps) : ChsAt I H q ps := ⟨e _ _ c.hq, fun x hx => e _ _ (c.at_ x hx), fun x hx y hy => S.same e (c.inn x hx y hy), c.nd, c.nq, c.off⟩
theorem ChsAt.one (y : Addr × β) (hy : I H y.1 y.2) (hp : H p = some (.lst [.ref y.1])) (hq : H q = some (.lst [.ref p])) (n1 : p ≠ q) (n2 : y.1 ≠ q) (n3 : p ≠ y.1) : ChsAt I H q [(p, [y])] :=
  ⟨hq, fun x hx => by rw [List.mem_singleton.mp hx]; exact hp, fun x hx z hz => by
    rw [List.mem_singleton.mp hx] at hz
    rw [List.mem_singleton.mp hz]
    exact hy, by simp, fun x hx => by rw [List.mem_singleton.mp hx]; exact n1, fun x hx z hz => by
    rw [List.mem_singleton.mp hx] at hz
    rw [List.mem_singleton.mp hz]
    exact ⟨n2, fun u hu => by rw [List.mem_singleton.mp hu]; exact n3⟩⟩
theorem ChsAt.push (S : Surv I) (c : ChsAt I H0 q ps) (e : Ex H0 H) (np : H0 p = none) {x : Addr × List (Addr × β)} {y : Addr × β} (hx : x ∈ ps) (hy : y ∈ x.2) (hp : H p = some (.lst [.ref y.1])) :
    ChsAt I (upd H q (.lst ((ps.map fun x => V.ref x.1) ++ [.ref p]))) q (ps ++ [(p, [y])]) := by
  have c1 := c.same S e
  have ne : ∀ {a : Addr} {o : HO}, H0 a = some o → a ≠ p := fun h => ne_of_none h np
  have npq : p ≠ q := (ne c.hq).symm
  have nyp : ∀ x ∈ ps, ∀ y ∈ x.2, y.1 ≠ p := fun x hx y hy => by
    obtain ⟨o, ho⟩ := S.ex (c.inn x hx y hy)
    exact ne ho
  refine ⟨by rw [upd_same, List.map_append]; rfl, fun z hz => ?_, fun z hz u hu => ?_, ?_, fun z hz => ?_, fun z hz u hu => ?_⟩
  · rcases List.mem_append.mp hz with hz | hz
    · rw [upd_ne (c.nq z hz)]
      exact c1.at_ z hz
    · rw [List.mem_singleton.mp hz, upd_ne npq]
      exact hp
  · rcases List.mem_append.mp hz with hz | hz
    · exact S.upd c1.hq (c.off z hz u hu).1 (c1.inn z hz u hu)
    · rw [List.mem_singleton.mp hz] at hu
      rw [List.mem_singleton.mp hu]
      exact S.upd c1.hq (c.off x hx y hy).1 (c1.inn x hx y hy)
  · rw [List.map_append, List.nodup_append]
    refine ⟨c.nd, by simp, fun a ha b hb => ?_⟩
    obtain ⟨z, hz, rfl⟩ := List.mem_map.mp ha
    rw [List.map_singleton, List.mem_singleton] at hb
    rw [hb]
    exact ne (c.at_ z hz)
  · rcases List.mem_append.mp hz with hz | hz
    · exact c.nq z hz
    · rw [List.mem_singleton.mp hz]
      exact npq
  · have key : ∀ x ∈ ps, ∀ y ∈ x.2, y.1 ≠ q ∧ ∀ z ∈ ps ++ [(p, [y])], z.1 ≠ y.1 := fun x hx y hy => ⟨(c.off x hx y hy).1, fun z hz => by
      rcases List.mem_append.mp hz with hz | hz
      · exact (c.off x hx y hy).2 z hz
      · rw [List.mem_singleton.mp hz]
        exact (nyp x hx y hy).symm⟩
    have key2 : ∀ x ∈ ps, ∀ u ∈ x.2, u.1 ≠ q ∧ ∀ z ∈ ps ++ [(p, [y])], z.1 ≠ u.1 := fun x hx u hu => ⟨(c.off x hx u hu).1, fun z hz => by
      rcases List.mem_append.mp hz with hz | hz
      · exact (c.off x hx u hu).2 z hz
      · rw [List.mem_singleton.mp hz]
        exact (nyp x hx u hu).symm⟩
    rcases List.mem_append.mp hz with hz | hz
    · exact key2 z hz u hu
    · rw [List.mem_singleton.mp hz] at hu
      rw [List.mem_singleton.mp hu]
      exact key2 x hx y hy
theorem ChsAt.more (S : Surv I) {x : Addr × List (Addr × β)} {y : Addr × β} (c : ChsAt I H0 q (ps ++ [x])) (e : Ex H0 H) (ny : H0 y.1 = none) (hy : I H y.1 y.2) :
    ChsAt I (upd H x.1 (.lst ((x.2.map fun y => V.ref y.1) ++ [.ref y.1]))) q (ps ++ [(x.1, x.2 ++ [y])]) := by
  have c1 := c.same S e
  have hxm : x ∈ ps ++ [x] := by simp
  have ne : ∀ {a : Addr} {o : HO}, H0 a = some o → a ≠ y.1 := fun h => ne_of_none h ny
  have nd := c.nd
  rw [List.map_append, List.nodup_append] at nd
  have nx : ∀ z ∈ ps, z.1 ≠ x.1 := fun z hz => nd.2.2 _ (List.mem_map_of_mem hz) _ (by simp)
  have hx1 := c1.at_ x hxm
  refine ⟨?_, fun z hz => ?_, fun z hz u hu => ?_, ?_, fun z hz => ?_, fun z hz u hu => ?_⟩
  · rw [upd_ne (c.nq x hxm).symm, c1.hq, List.map_append, List.map_append]
    rfl
  · rcases List.mem_append.mp hz with hz | hz
    · rw [upd_ne (nx z hz)]
      exact c1.at_ z (List.mem_append_left _ hz)
    · rw [List.mem_singleton.mp hz]
      show upd H x.1 _ x.1 = _
      rw [upd_same, List.map_append]
      rfl
  · have old : ∀ z ∈ ps ++ [x], ∀ u ∈ z.2, I (upd H x.1 (.lst ((x.2.map fun y => V.ref y.1) ++ [.ref y.1]))) u.1 u.2 := fun z hz u hu => S.upd hx1 ((c.off z hz u hu).2 x hxm).symm (c1.inn z hz u hu)
    rcases List.mem_append.mp hz with hz | hz
    · exact old z (List.mem_append_left _ hz) u hu
    · rw [List.mem_singleton.mp hz] at hu
      rcases List.mem_append.mp hu with hu | hu
      · exact old x hxm u hu
      · rw [List.mem_singleton.mp hu]
        exact S.upd hx1 (ne (c.at_ x hxm)).symm hy
  · have := c.nd
    rw [List.map_append] at this ⊢
    exact this
  · rcases List.mem_append.mp hz with hz | hz
    · exact c.nq z (List.mem_append_left _ hz)
    · rw [List.mem_singleton.mp hz]
      exact c.nq x hxm
  · have hall : ∀ {u : Addr}, (∀ z ∈ ps ++ [x], z.1 ≠ u) → ∀ z ∈ ps ++ [(x.1, x.2 ++ [y])], z.1 ≠ u := fun h z hz => by
      rcases List.mem_append.mp hz with hz | hz
      · exact h z (List.mem_append_left _ hz)
      · rw [List.mem_singleton.mp hz]
        exact h x hxm
    have old : ∀ z ∈ ps ++ [x], ∀ u ∈ z.2, u.1 ≠ q ∧ ∀ v ∈ ps ++ [(x.1, x.2 ++ [y])], v.1 ≠ u.1 := fun z hz u hu => ⟨(c.off z hz u hu).1, hall (c.off z hz u hu).2⟩
    rcases List.mem_append.mp hz with hz | hz
    · exact old z (List.mem_append_left _ hz) u hu
    · rw [List.mem_singleton.mp hz] at hu
      rcases List.mem_append.mp hu with hu | hu
      · exact old x hxm u hu
      · rw [List.mem_singleton.mp hu]
        exact ⟨(ne c.hq).symm, hall fun z hz => ne (c.at_ z hz)⟩
theorem chs_last {ps : Chs β} (h : crW ps ≠ []) (h2 : ∀ ch ∈ crW ps, ch ≠ []) : ∃ pre a p2 y, ps = pre ++ [(a, p2 ++ [y])] := by
  have hp : ps ≠ [] := fun z => h (by rw [z]; rfl)
  obtain ⟨pre, x, rfl⟩ : ∃ pre x, ps = pre ++ [x] := ⟨ps.dropLast, ps.getLast hp, (List.dropLast_concat_getLast hp).symm⟩
  have hx : x.2 ≠ [] := fun z => h2 (x.2.map (·.2)) (List.mem_map.mpr ⟨x, by simp, rfl⟩) (by rw [z]; rfl)
  exact ⟨pre, x.1, x.2.dropLast, x.2.getLast hx, by rw [List.dropLast_concat_getLast hx]⟩
end
theorem crW_sg {pre : Chs (List Wr)} {a p : Addr} {p2 : List (Addr × List Wr)} {y : Addr × List Wr} (z : Str) : crW (pre ++ [(a, p2 ++ [y])] ++ [(p, [y])]) = stepC (crW (pre ++ [(a, p2 ++ [y])])) (.sg z) := by
  have e : crW (pre ++ [(a, p2 ++ [y])]) = crW pre ++ [p2.map (·.2) ++ [y.2]] := by
    unfold crW
    rw [List.map_append, List.map_singleton, List.map_append, List.map_singleton]
  show crW ((pre ++ [(a, p2 ++ [y])]) ++ [(p, [y])]) = _
  have e2 : crW ((pre ++ [(a, p2 ++ [y])]) ++ [(p, [y])]) = crW (pre ++ [(a, p2 ++ [y])]) ++ [[y.2]] := by
    unfold crW
    rw [List.map_append, List.map_singleton]
    rfl
  rw [e2, e]
  unfold stepC lastC
  rw [lastD_app, lastD_app]
theorem crW_cr {pre : Chs (List Wr)} {x : Addr × List (Addr × List Wr)} {y : Addr × List Wr} : crW (pre ++ [(x.1, x.2 ++ [y])]) = stepC (crW (pre ++ [x])) (.cr y.2) := by
  have e : ∀ x : Addr × List (Addr × List Wr), crW (pre ++ [x]) = crW pre ++ [x.2.map (·.2)] := fun x => by
    unfold crW
    rw [List.map_append, List.map_singleton]
  rw [e, e, List.map_append, List.map_singleton]
  unfold stepC
  rw [lastD_app, List.dropLast_concat]
/-- a list of writers at its place -/
def WsAt (K : PySem.W.Frag) (H : Hp) (b : Addr) (m : List Wr) : Prop := ∃ ws, H b = some (.lst ws) ∧ DpAll K H ws (m.map dW)
theorem ws_surv {K : PySem.W.Frag} : Surv (WsAt K) := ⟨fun ⟨ws, h, _⟩ => ⟨_, h⟩, fun e ⟨ws, h, d⟩ => ⟨ws, e _ _ h, dps_same e d⟩, fun ha n ⟨ws, h, d⟩ => ⟨ws, by rw [upd_ne n]; exact h, dps_tk (.lst ha) (fz_dWs _) d⟩⟩
theorem dpAll_map {α : Type} {K : PySem.W.Frag} {H : Hp} {f : α → V} {g : α → PyData} : ∀ {xs : List α}, (∀ x ∈ xs, Dp K H (f x) (g x)) → DpAll K H (xs.map f) (xs.map g)
  | [], _ => .nil
  | x :: xs, h => .cons (h x (List.mem_cons_self ..)) (dpAll_map fun y hy => h y (List.mem_cons_of_mem _ hy))
theorem ChsAt.dp {K : PySem.W.Frag} {H : Hp} {q : Addr} {ps : Chs (List Wr)} (c : ChsAt (WsAt K) H q ps) : Dp K H (.ref q) (.list ((crW ps).map dCh)) := by
  refine .lst (.of c.hq) ?_
  unfold crW
  rw [List.map_map]
  refine dpAll_map fun x hx => ?_
  show Dp K H (.ref x.1) (.list ((x.2.map (·.2)).map dMl))
  refine .lst (.of (c.at_ x hx)) ?_
  rw [List.map_map]
  refine dpAll_map fun y hy => ?_
  obtain ⟨ws, h, d⟩ := c.inn x hx y hy
  exact .lst (.of h) d
theorem dps_strs {K : PySem.W.Frag} {H : Hp} : ∀ (zs : List Str), DpAll K H (zs.map V.str) (zs.map .str)
  | [] => .nil
  | z :: zs => .cons (.str z) (dps_strs zs)
def RParts : List PyData → PyData → Prop := fun ds d => ∃ (m : List Wr) (tr : List Stp), GoodM m ∧ (∀ x ∈ tr, GoodStp x) ∧ tr.length ≤ 900 ∧ ds = [dMl m, .list (tr.map dSL)] ∧ d = .tuple [.list ((sigsOf tr).map .str), .list ((crewsOf m tr).map dCh)]
section
variable {K : PySem.W.Frag} {σ : L2.St} {H : Hp} {ta tb te to : TE}
/-- a list that an expression names grows -/
theorem sd_appX {D : Ends} {p : Addr} {xs : List V} (ho : Ev to σ H (.ref p)) (hp : H p = some (.lst xs)) (hz : xs.length < 100000) (h : ∀ H1, Ex H H1 → ∀ Q : VK, (∀ v H2, H2 p = some (.lst xs) → D.nx σ (upd H2 p (.lst (xs ++ [v]))) → Q v H2) → te σ H1 Q) : tDrop (tBM K "list" rAppend to (tCons te tNil)) D σ H :=
  ho H (.refl H) _ fun H1 e1 => ⟨.inl ⟨rfl, xs, .of (e1 _ _ hp)⟩, h H1 e1 _ fun v H2 h2 q => ⟨p, xs, v, rfl, rfl, h2, sz_lt hz, q⟩⟩
/-- the last of a list of references -/
theorem ev_ixLastV {p : Addr} {xs : List V} {v : V} (ha : Ev ta σ H (.ref p)) (hb : Ev tb σ H (.int (-1))) (hp : H p = some (.lst (xs ++ [v]))) : Ev (tOp (rIxL K) ta tb) σ H v := ev_op ha hb (rv_ixL (.of hp) (atI_last xs v))
end
theorem isi_sl {K : PySem.W.Frag} {σ : L2.St} {H : Hp} {te : TE} {x : Stp} {d : PyData} (h : EvD K te σ H d) (hd : d = dSL x ∨ d = dST x) : Ev (tCB (rIsi K) (tCons te (tCons (tC (.ty "str")) tNil))) σ H (.bl (sgOf x).isSome) := fun H1 e Q q => h H1 e _ fun v H2 e2 hv => by
  cases x with
  | sg z =>
    have : d = .str z := hd.elim id id
    subst this
    obtain rfl := dp_str hv
    exact ⟨.str z, .ty "str", .type "str", .type "str", true, rfl, .ty _, tyx_f rfl, kt (by decide +kernel), q H2 e2⟩
  | cr m =>
    rcases hd with rfl | rfl
    · obtain ⟨p, xs, rfl, hs, hxs⟩ := dp_lst hv
      exact ⟨.ref p, .ty "str", .type "list", .type "str", false, rfl, .ty _, tyx_l hs, kt (by decide +kernel), q H2 e2⟩
    · obtain ⟨p, xs, rfl, hs, hxs⟩ := dp_tup hv
      exact ⟨.ref p, .ty "str", .type "tuple", .type "str", false, rfl, .ty _, tyx_t hs, kt (by decide +kernel), q H2 e2⟩
theorem ChsAt.updOff {β : Type} {I : Hp → Addr → β → Prop} {H : Hp} {q a : Addr} {ps : Chs β} {xs o : List V} (S : Surv I) (c : ChsAt I H q ps) (ha : H a = some (.lst xs)) (n : a ≠ q) (n1 : ∀ x ∈ ps, x.1 ≠ a) (n2 : ∀ x ∈ ps, ∀ y ∈ x.2, y.1 ≠ a) : ChsAt I (upd H a (.lst o)) q ps :=
  ⟨by rw [upd_ne n.symm]; exact c.hq, fun x hx => by rw [upd_ne (n1 x hx)]; exact c.at_ x hx, fun x hx y hy => S.upd ha (n2 x hx y hy) (c.inn x hx y hy), c.nd, c.nq, c.off⟩
theorem crews_bound : ∀ (tr : List Stp) {cs : Crews} {n : Nat}, (∀ ch ∈ cs, ch.length ≤ n) → 1 ≤ n → ∀ ch ∈ tr.foldl stepC cs, ch.length ≤ n + tr.length
  | [], _, _, h, _ => h
  | x :: tr, cs, n, h, h1 => by
    rw [List.foldl_cons, List.length_cons]
    intro ch hch
    have key : ∀ ch ∈ stepC cs x, ch.length ≤ n + 1 := fun ch hch => by
      have hl : (cs.getLastD []).length ≤ n := by
        cases cs with
        | nil => exact Nat.zero_le _
        | cons a l =>
          rw [List.getLastD_cons]
          have : l.getLastD a ∈ a :: l := by
            cases l with
            | nil => simp
            | cons b l =>
              rw [List.getLastD_eq_getLast?, List.getLast?_eq_some_getLast (by simp)]
              exact List.mem_cons_of_mem _ (List.getLast_mem _)
          exact h _ this
      cases x with
      | sg z =>
        rcases List.mem_append.mp hch with hch | hch
        · exact Nat.le_succ_of_le (h ch hch)
        · rw [List.mem_singleton.mp hch, List.length_singleton]
          omega
      | cr m =>
        rcases List.mem_append.mp hch with hch | hch
        · exact Nat.le_succ_of_le (h ch ((List.dropLast_sublist cs).subset hch))
        · rw [List.mem_singleton.mp hch, List.length_append, List.length_singleton]
          omega
    have := crews_bound tr (cs := stepC cs x) (n := n + 1) key (by omega) ch hch
    omega
theorem crews_le (m : List Wr) (tr : List Stp) : ∀ ch ∈ crewsOf m tr, ch.length ≤ 1 + tr.length := crews_bound tr (fun ch h => by rw [List.mem_singleton.mp h]; exact Nat.le_refl _) (Nat.le_refl _)
theorem crews_snoc {m : List Wr} {tr : List Stp} {i : Nat} {x : Stp} (h : tr[i]? = some x) : crewsOf m (tr.take (i + 1)) = stepC (crewsOf m (tr.take i)) x := by
  unfold crewsOf
  rw [take_snoc h, List.foldl_append]
  rfl
theorem sigs_snoc {tr : List Stp} {i : Nat} {x : Stp} (h : tr[i]? = some x) : sigsOf (tr.take (i + 1)) = sigsOf (tr.take i) ++ sigsOf [x] := by
  unfold sigsOf
  rw [take_snoc h, List.filterMap_append]
theorem good_take {tr : List Stp} (h : ∀ x ∈ tr, GoodStp x) (i : Nat) : ∀ x ∈ tr.take i, GoodStp x := fun x hx => h x (List.mem_of_mem_take hx)
theorem sigs_le (tr : List Stp) : (sigsOf tr).length ≤ tr.length := List.length_filterMap_le _ _
section
variable {P : Program} {w : World} {K : PySem.W.Frag} {mg : Str → Option Value} {base : Heap}
theorem ok_lparts {f : Addr} {fd : FuncData} {k : Nat} (F : Fun K "_law_parts" "_law_parts" sLParts f fd) (T : Txt mg) : FnOk P w K mg base CX0 (k + 1) f fd ["_law_m", "_law_track"] (spP K RParts) := by
  refine F.ok sc__law_parts (fun vs H Q E h => ?_) (fun cdv A outer s H vs Q E hr h => ?_)
  · obtain ⟨ds, d, hd, ⟨m, tr, _, _, _, rfl, _⟩, _⟩ := h
    exact hd.length
  · obtain ⟨ds, d, hd, ⟨m, tr, g, gt, hl, rfl, rfl⟩, q⟩ := h
    obtain ⟨v0, v1, rfl, h0, h1⟩ := dps2 hd
    obtain ⟨p1, us, rfl, hs1, hus⟩ := dp_lst h1
    have hul := hus.length
    rw [List.length_map] at hul
    refine ⟨_, (pss_cons (ps_par (i := 2) (j := 3) (by rfl) sc__law_parts.nd rfl rfl (by decide) rfl rfl (pa_cons (pe_lst pa_nil) (pa_cons (pe_lst (pa_cons (pe_lst (pa_cons (pe_callTy call_list_of (by rfl) T.m_list (by decide +kernel) (pa_cons (pv 0) pa_nil)) pa_nil)) pa_nil)) pa_nil)) (by rfl))
    (pss_cons (ps_for PassesOwn.never rfl (pi_list (pv 1)) (pg_name (i := 4) sc__law_parts.nd rfl (.inl rfl))
    (pss_one (ps_if (pt_val (pe_callB call_isi (by rfl) T.m_isinstance (by decide +kernel) (pa_cons (pv 4) (pa_cons (pe_bltn (v := .ty "str") (by rfl) T.m_str (by decide +kernel) rfl) pa_nil))))
    (pss_cons (ps_expr (pe_bm PySem.F.plainAttrs_list PySem.F.slot_list_append PySem.F.type_list_append mt_append (pv 2) (pa_cons (pv 4) pa_nil)))
    (pss_one (ps_expr (pe_bm PySem.F.plainAttrs_list PySem.F.slot_list_append PySem.F.type_list_append mt_append (pv 3) (pa_cons (pe_lst (pa_cons (pe_ix ix_list (pe_ix ix_list (pv 3) (pe_un un_neg pe_int) (fun _ _ => rfl)) (pe_un un_neg pe_int) (fun _ _ => rfl)) pa_nil)) pa_nil))))) (pss_one (ps_expr (pe_bm PySem.F.plainAttrs_list PySem.F.slot_list_append PySem.F.type_list_append mt_append (pe_ix ix_list (pv 3) (pe_un un_neg pe_int) (fun _ _ => rfl)) (pa_cons (pe_callTy call_list_of (by rfl) T.m_list (by decide +kernel) (pa_cons (pv 4) pa_nil)) pa_nil)))))))
    (pss_one (ps_ret (pe_tup (pa_cons (pv 2) (pa_cons (pv 3) pa_nil))))))), ?_⟩
    obtain ⟨p0, ws, rfl, hs0, hws0⟩ := dp_lst h0
    refine ⟨by show 0 ≤ sizeLine; decide, fun sp nsp => ⟨.ref p0, rfl, p0, ws, rfl, .inl (Evl.ex_l (Ex.new nsp) hs0), fun b nb => ⟨by show 1 ≤ sizeLine; decide, fun p np => ⟨by show 1 ≤ sizeLine; decide, fun qq nq => ⟨_, _, rfl, ?_⟩⟩⟩⟩⟩
    have e2 := Ex.new (o := HO.lst ws) nb
    have hb := upd_same (H := upd H sp (.lst [])) (a := b) (o := HO.lst ws)
    have hws : DpAll K (upd (upd H sp (.lst [])) b (.lst ws)) ws (m.map dW) := dps_same ((Ex.new nsp).trans e2) hws0
    generalize upd (upd H sp (.lst [])) b (.lst ws) = H2 at *
    have hsp2 := e2 _ _ (upd_same (H := H) (a := sp) (o := HO.lst []))
    have bsp : b ≠ sp := fun z => by
      rw [z, upd_same] at nb
      cases nb
    have psp : p ≠ sp := (ne_of_none hsp2 np).symm
    have pb : p ≠ b := (ne_of_none hb np).symm
    have hsp3 : upd H2 p (.lst [.ref b]) sp = some (.lst []) := by rw [upd_ne psp.symm]; exact hsp2
    have hb3 : upd H2 p (.lst [.ref b]) b = some (.lst ws) := by rw [upd_ne pb.symm]; exact hb
    have qsp : qq ≠ sp := (ne_of_none hsp3 nq).symm
    have qb : qq ≠ b := (ne_of_none hb3 nq).symm
    have qp : qq ≠ p := (ne_of_none upd_same nq).symm
    have e3 := Ex.new (o := HO.lst [V.ref b]) np
    have e4 := Ex.new (o := HO.lst [V.ref p]) nq
    have e02 : Ex H H2 := (Ex.new nsp).trans e2
    have e04 : Ex H _ := (e02.trans e3).trans e4
    have nb0 : H b = none := Same.free (Ex.new nsp) nb
    have np0 : H p = none := Same.free e02 np
    have nq0 : H qq = none := Same.free (e02.trans e3) nq
    dsimp only
    refine ⟨.ref p1, rfl, p1, rfl, ⟨us, Evl.ex_l e04 hs1⟩, for_it (walk_list (K := K) (xs := us)) (fun i σ' H' => (∃ y4, σ' = [some (.ref p0), some (.ref p1), some (.ref sp), some (.ref qq), y4]) ∧ Ex H H' ∧ H' sp = some (.lst ((sigsOf (tr.take i)).map V.str)) ∧ ∃ ps, ChsAt (WsAt K) H' qq ps ∧ crW ps = crewsOf m (tr.take i) ∧ (∀ x ∈ ps, x.1 ≠ sp ∧ H x.1 = none) ∧ ∀ x ∈ ps, ∀ y ∈ x.2, y.1 ≠ sp)
      ⟨⟨none, rfl⟩, e04, by rw [upd_ne qsp.symm]; exact hsp3, [(p, [(b, m)])], .one (b, m) ⟨ws, by rw [upd_ne qb.symm]; exact hb3, dps_same (e3.trans e4) hws⟩ (by rw [upd_ne qp.symm]; exact upd_same) upd_same qp.symm qb.symm pb, rfl, fun x hx => by rw [List.mem_singleton.mp hx]; exact ⟨psp, np0⟩, fun x hx y hy => by
        rw [List.mem_singleton.mp hx] at hy
        rw [List.mem_singleton.mp hy]
        exact bsp⟩ (fun i σ' H' _ hP => Evl.ex_l hP.2.1 hs1) (fun i x σ' Ha Hb hi hP hy => ?_) (fun σ' H' hP => ?_)⟩
    · obtain ⟨⟨y4, rfl⟩, eH, hsp, ps, c, ec, no1, no2⟩ := hP
      obtain ⟨rfl, hx⟩ := hy
      obtain ⟨dx, hdx, hxd⟩ := hus.at hx
      rw [List.getElem?_map, Option.map_eq_some_iff] at hdx
      obtain ⟨st, hst, rfl⟩ := hdx
      have hxd := dp_same eH hxd
      have gs : GoodStp st := gt st (List.mem_of_getElem? hst)
      have gc : GoodC (crewsOf m (tr.take i)) := GoodC.fold (good_take gt i) (.one g)
      have ile : i ≤ tr.length := by omega
      have hcl : (crewsOf m (tr.take i)).length ≤ 901 := by
        rw [crews_len]
        have := sigs_le (tr.take i)
        rw [List.length_take] at this
        omega
      obtain ⟨pre, a, p2, y, rfl⟩ := chs_last (ps := ps) (by rw [ec]; exact gc.pos) (by rw [ec]; exact gc.ne)
      have hlm : (a, p2 ++ [y]) ∈ pre ++ [(a, p2 ++ [y])] := by simp
      have hpsl : (pre ++ [(a, p2 ++ [y])]).length ≤ 901 := by
        have : (crW (pre ++ [(a, p2 ++ [y])])).length = (pre ++ [(a, p2 ++ [y])]).length := by unfold crW; rw [List.length_map]
        rw [← this, ec]
        exact hcl
      have hchl : (p2 ++ [y]).length ≤ 901 := by
        have := crews_le m (tr.take i) ((p2 ++ [y]).map (·.2)) (by rw [← ec]; exact List.mem_map.mpr ⟨_, hlm, rfl⟩)
        rw [List.length_map, List.length_take] at this
        omega
      have spq : sp ≠ qq := qsp.symm
      refine s_if (b := (sgOf st).isSome) (et_B (isi_sl (ed_var rfl hxd) (.inl rfl))) (fun hb5 H5 e5 => ?_) fun hb5 H5 e5 => ?_
      · obtain ⟨z, rfl⟩ : ∃ z, st = .sg z := by
          cases st with
          | sg z => exact ⟨z, rfl⟩
          | cr _ => cases hb5
        refine sd_app (K := K) rfl (e5 _ _ hsp) (ed_var rfl (dp_same e5 hxd)) (by rw [List.length_map]; have := sigs_le (tr.take i); rw [List.length_take] at this; omega) fun v H6 e6 hv => ?_
        obtain rfl := dp_str hv
        have e56 := e5.trans e6
        have hsp6 := e56 _ _ hsp
        have c6 := (c.same ws_surv e56).updOff (a := sp) (o := (sigsOf (tr.take i)).map V.str ++ [.str z]) ws_surv hsp6 spq (fun x hx => (no1 x hx).1) no2
        have eH6 : Ex H (upd H6 sp (.lst ((sigsOf (tr.take i)).map V.str ++ [.str z]))) := Ex.mut (eH.trans e56) nsp
        dsimp only
        refine sd_appX (K := K) (ev_var rfl) c6.hq (by rw [List.length_map]; omega) fun H7 e7 Q2 q2 => ?_
        have c7 := c6.same ws_surv e7
        have hq7 := c7.hq
        have ha7 := c7.at_ _ hlm
        rw [List.map_append, List.map_singleton] at hq7 ha7
        refine (ev_ixLastV (K := K) (ev_ixLastV (ev_var rfl) (ev_un ev_c ru_neg) hq7) (ev_un ev_c ru_neg) ha7) H7 (.refl H7) _ fun H8 e8 => ⟨by show 1 ≤ sizeLine; decide, fun p8 np8 => q2 (.ref p8) _ ?_ ?_⟩
        · exact (e8.trans (Ex.new np8)) _ _ c7.hq
        · have c8 := c7.same ws_surv e8
          have c9 := c8.push ws_surv (Ex.new np8) np8 hlm (show y ∈ p2 ++ [y] by simp) upd_same
          have eH9 : Ex H (upd (upd H8 p8 (.lst [.ref y.1])) qq (.lst (((pre ++ [(a, p2 ++ [y])]).map fun x => V.ref x.1) ++ [.ref p8]))) := Ex.mut (((eH6.trans e7).trans e8).trans (Ex.new np8)) nq0
          have np80 : H p8 = none := Same.free ((eH6.trans e7).trans e8) np8
          have hsp8 : H8 sp = some (.lst ((sigsOf (tr.take i)).map V.str ++ [.str z])) := (e7.trans e8) _ _ upd_same
          have psp8 : p8 ≠ sp := (ne_of_none hsp8 np8).symm
          refine ⟨⟨_, rfl⟩, eH9, ?_, _, c9, ?_, fun x hx => ?_, fun x hx u hu => ?_⟩
          · rw [upd_ne spq, upd_ne psp8.symm, hsp8, sigs_snoc hst, List.map_append]
            rfl
          · rw [crW_sg z, ec, crews_snoc hst]
          · rcases List.mem_append.mp hx with hx | hx
            · exact no1 x hx
            · rw [List.mem_singleton.mp hx]
              exact ⟨psp8, np80⟩
          · rcases List.mem_append.mp hx with hx | hx
            · exact no2 x hx u hu
            · rw [List.mem_singleton.mp hx] at hu
              rw [List.mem_singleton.mp hu]
              exact no2 _ hlm y (by simp)
      · obtain ⟨m2, rfl⟩ : ∃ m2, st = .cr m2 := by
          cases st with
          | sg z => cases hb5
          | cr m2 => exact ⟨m2, rfl⟩
        have c5 := c.same ws_surv e5
        have hq5 := c5.hq
        rw [List.map_append, List.map_singleton] at hq5
        refine sd_appX (K := K) (p := a) (ev_ixLastV (ev_var rfl) (ev_un ev_c ru_neg) hq5) (c5.at_ _ hlm) (by rw [List.length_map]; show (p2 ++ [y]).length < 100000; omega) fun H7 e7 Q2 q2 => ?_
        refine en_list (K := K) (ds := m2.map dW) (ed_var rfl (dp_same (e5.trans e7) hxd)) (.inl rfl) H7 (.refl H7) Q2 fun b8 ws8 H8 nb8 e8 hb8 hws8 => q2 (.ref b8) H8 ((e7.trans e8) _ _ (c5.at_ _ hlm)) ?_
        have c7 := c5.same ws_surv e7
        have c9 := c7.more ws_surv (y := (b8, m2)) e8 nb8 ⟨ws8, hb8, hws8⟩
        have eH8 : Ex H H8 := ((eH.trans e5).trans e7).trans e8
        have na : H a = none := (no1 _ hlm).2
        have asp : a ≠ sp := (no1 _ hlm).1
        have hsp7 := (e5.trans e7) _ _ hsp
        refine ⟨⟨_, rfl⟩, Ex.mut eH8 na, ?_, _, c9, ?_, fun x hx => ?_, fun x hx u hu => ?_⟩
        · rw [upd_ne asp.symm, e8 _ _ hsp7, sigs_snoc hst]
          show _ = some (HO.lst (((sigsOf (tr.take i)) ++ []).map V.str))
          rw [List.append_nil]
        · rw [crW_cr (pre := pre) (x := (a, p2 ++ [y])) (y := (b8, m2)), ec, crews_snoc hst]
        · rcases List.mem_append.mp hx with hx | hx
          · exact no1 x (List.mem_append_left _ hx)
          · rw [List.mem_singleton.mp hx]
            exact no1 (a, p2 ++ [y]) hlm
        · rcases List.mem_append.mp hx with hx | hx
          · exact no2 x (List.mem_append_left _ hx) u hu
          · rw [List.mem_singleton.mp hx] at hu
            rcases List.mem_append.mp hu with hu | hu
            · exact no2 _ hlm u hu
            · rw [List.mem_singleton.mp hu]
              exact (ne_of_none hsp7 nb8).symm
    · obtain ⟨⟨y4, rfl⟩, eH, hsp, ps, c, ec, no1, no2⟩ := hP
      rw [hul, List.take_of_length_le (Nat.le_refl _)] at hsp ec
      have hcd := c.dp
      rw [ec] at hcd
      have hzd : Dp K H' (.ref sp) (.list ((sigsOf tr).map .str)) := .lst (.of hsp) (dps_strs _)
      exact sd_ret (K := K) (ed_tup (eds_cons (ed_var rfl hzd) (eds_cons (ed_var rfl hcd) eds_nil)) (by show 2 ≤ 100000; decide)) fun u H4 e4 hu => q u H4 (eH.trans e4) hu
end
end Ink
namespace Ink
open PySem PySem.Spec PyProof.Rows L2 Evl
/-! ### what the law draws of a scroll -/
structure GoodT (many : Int) (t : List Sd) : Prop where
  len : t.length ≤ 20
  each : ∀ x ∈ t, 0 ≤ x.1 ∧ x.1 < many ∧ NameZ x.2.1
def spSaid (K : PySem.W.Frag) : Sp := fun vs H Q _ => ∃ (a l np : Addr) (many lim : Int) (zs : List Str), vs = [.ref a, .int many, .ref np, .int lim] ∧ BagAt H a l ∧ 0 ≤ many ∧ many ≤ 1000 ∧ 0 ≤ lim ∧ lim ≤ 10 ∧ H np = some (.lst (zs.map V.str)) ∧ np ≠ a ∧ zs.length ≤ 20 ∧ (∀ z ∈ zs, NameZ z) ∧
  ∀ u (t : List Sd) H', GoodT many t → Dp K H' u (.list (t.map dSd)) → BagAt H' a l → Keep a H H' → Q u H'
def spStepsDr (K : PySem.W.Frag) : Sp := fun vs H Q _ => ∃ (a l p sp : Addr) (m : List Wr) (cs : List Nat) (lim : Int), vs = [.ref a, .ref p, .ref sp, .int lim] ∧ BagAt H a l ∧ MAt K H a p m ∧ GoodM m ∧ H sp = some (.lst ((cs.map single).map V.str)) ∧ sp ≠ a ∧ 1 ≤ cs.length ∧ cs.length ≤ 20 ∧ (∀ c ∈ cs, c ∈ lets) ∧ 0 ≤ lim ∧ lim ≤ 20 ∧
  ∀ u (tr : List Stp) H', tr.length ≤ 20 → (∀ x ∈ tr, GoodStp x) → Dp K H' u (.list (tr.map dSL)) → BagAt H' a l → Keep a H H' → Q u H'
theorem nobody_ok {r : Int} (h0 : 0 ≤ r) (h1 : r < 6) : NameZ (cutS "nobody" none (some (1 + r))) := by
  have h : r = 0 ∨ r = 1 ∨ r = 2 ∨ r = 3 ∨ r = 4 ∨ r = 5 := by omega
  unfold NameZ
  rcases h with rfl | rfl | rfl | rfl | rfl | rfl <;> decide +kernel
theorem nm_of {zs : List Str} {z : Str} {v : V} (hz : ∀ z ∈ zs, NameZ z) (h : NameZ z) (hv : v ∈ zs.map V.str ++ [.str z]) : ∃ y, v = .str y ∧ NameZ y := by
  rcases List.mem_append.mp hv with hv | hv
  · obtain ⟨y, hy, rfl⟩ := List.mem_map.mp hv
    exact ⟨y, rfl, hz y hy⟩
  · rw [List.mem_singleton.mp hv]
    exact ⟨z, rfl, h⟩
theorem WsAt.keep {K : PySem.W.Frag} {H H' : Hp} {a l b : Addr} {m : List Wr} (B : BagAt H a l) (k : Keep a H H') (h : WsAt K H b m) : WsAt K H' b m := by
  obtain ⟨ws, h1, h2⟩ := h
  exact ⟨ws, k _ _ (lst_ne B h1 h2 (nb_dMl m)) h1, dps_keep B k (fz_dWs m) h2⟩
/-- a step at its place; what is a list is apart from p -/
def StAt (K : PySem.W.Frag) (H : Hp) (p : Addr) (v : V) : Stp → Prop
  | .sg z => v = .str z
  | .cr m => ∃ b, v = .ref b ∧ WsAt K H b m ∧ b ≠ p
theorem StAt.keep {K : PySem.W.Frag} {H H' : Hp} {a l p : Addr} {v : V} {x : Stp} (B : BagAt H a l) (k : Keep a H H') (h : StAt K H p v x) : StAt K H' p v x := by
  cases x with
  | sg z => exact h
  | cr m =>
    obtain ⟨b, e, h1, h2⟩ := h
    exact ⟨b, e, h1.keep B k, h2⟩
theorem StAt.same {K : PySem.W.Frag} {H H' : Hp} {p : Addr} {v : V} {x : Stp} (k : Ex H H') (h : StAt K H p v x) : StAt K H' p v x := by
  cases x with
  | sg z => exact h
  | cr m =>
    obtain ⟨b, e, h1, h2⟩ := h
    exact ⟨b, e, ws_surv.same k h1, h2⟩
theorem StAt.upd {K : PySem.W.Frag} {H : Hp} {p : Addr} {v : V} {x : Stp} {xs o : List V} (hp : H p = some (.lst xs)) (h : StAt K H p v x) : StAt K (upd H p (.lst o)) p v x := by
  cases x with
  | sg z => exact h
  | cr m =>
    obtain ⟨b, e, h1, h2⟩ := h
    exact ⟨b, e, ws_surv.upd hp h2 h1, h2⟩
theorem StAt.dp {K : PySem.W.Frag} {H : Hp} {p : Addr} {v : V} {x : Stp} (h : StAt K H p v x) : Dp K H v (dSL x) := by
  cases x with
  | sg z =>
    rw [show v = .str z from h]
    exact .str z
  | cr m =>
    obtain ⟨b, rfl, ⟨ws, h1, h2⟩, _⟩ := h
    exact .lst (.of h1) h2
section
variable {K : PySem.W.Frag} {σ : L2.St} {H : Hp} {ta tm tx : TE} {a l : Addr}
theorem q_pull {m : Int} {Q : VK} (ha : Ev ta σ H (.ref a)) (hm : Ev tm σ H (.int m)) (hB : BagAt H a l) (h0 : 0 < m) (h1 : m < 1073741824) (k : ∀ r H', 0 ≤ r → r < m → BagAt H' a l → Keep a H H' → Q (.int r) H') : tCall spPull [] E0 (tCons ta (tCons tm tNil)) σ H Q :=
  ha H (.refl H) _ fun H1 e1 => hm H1 e1 _ fun H2 e2 => ⟨a, l, m, rfl, hB.same (e1.trans e2), h0, h1, fun r H' r0 r1 hB' k' => k r H' r0 r1 hB' ((Keep.of_same (e1.trans e2)).trans k')⟩
/-- one of a list that stands apart from the bag -/
theorem q_of {p : Addr} {xs : List V} {Q : VK} (ha : Ev ta σ H (.ref a)) (hx : Ev tx σ H (.ref p)) (hp : H p = some (.lst xs)) (n : p ≠ a) (hB : BagAt H a l) (h0 : 0 < xs.length) (h1 : xs.length ≤ 1000) (k : ∀ v H', v ∈ xs → BagAt H' a l → Keep a H H' → Q v H') : tCall (spOf K) [] E0 (tCons ta (tCons tx tNil)) σ H Q :=
  ha H (.refl H) _ fun H1 e1 => hx H1 e1 _ fun H2 e2 => ⟨a, l, .ref p, xs, rfl, hB.same (e1.trans e2), .inl ⟨p, rfl, n, .inl (.of ((e1.trans e2) _ _ hp))⟩, h0, h1, fun v H' hv hB' k' => k v H' hv hB' ((Keep.of_same (e1.trans e2)).trans k')⟩
end
section
variable {P : Program} {w : World} {K : PySem.W.Frag} {mg : Str → Option Value} {base : Heap}
theorem ok_said {f : Addr} {fd : FuncData} {k : Nat} (F : Fun K "_law_said_drawn" "_law_said_drawn" sLSaidDrawn f fd) (T : Txt mg)
    (C__law_pull : Cal P w K mg base k "_law_pull" ["_law_bag_here", "_law_many"] spPull) (C__law_of : Cal P w K mg base k "_law_of" ["_law_bag_here", "_law_things"] (spOf K)) :
    FnOk P w K mg base CX0 (k + 1) f fd ["_law_bag_here", "_law_many", "_law_names_here", "_law_limit"] (spSaid K) := by
  refine F.ok sc__law_said_drawn (fun vs H Q E h => ?_) (fun cdv A outer s H vs Q E hr h => ?_)
  · obtain ⟨a, l, np, many, lim, zs, rfl, _⟩ := h
    rfl
  · obtain ⟨a, l, np, many, lim, zs, rfl, hB, m0, m1, l0, l1, hnp, npa, zl, hz, q⟩ := h
    refine ⟨_, (pss_cons (ps_set (i := 4) sc__law_said_drawn.nd rfl (.inl rfl) (pe_lst pa_nil))
    (pss_cons (ps_for PassesOwn.never rfl (pi_range1 (by rfl) T.m_range (pa_cons (pe_op op_mul (pe_callC C__law_pull hr (by rfl) (pa_cons (pv 0) (pa_cons (pe_op op_add (pv 3) pe_int) pa_nil))) (pe_callTy call_int1 (by rfl) T.m_int (by decide +kernel) (pa_cons (pe_cmpR op_gt (pv 1) pe_int (nomark _)) pa_nil))) pa_nil)) (pg_name (i := 5) sc__law_said_drawn.nd rfl (.inl rfl))
    (pss_cons (ps_set (i := 6) sc__law_said_drawn.nd rfl (.inl rfl) (pe_callC C__law_of hr (by rfl) (pa_cons (pv 0) (pa_cons (pe_op op_cat (pv 2) (pe_lst (pa_cons (pe_slice sl_str pe_str po_none (po_some (pe_op op_add pe_int (pe_callC C__law_pull hr (by rfl) (pa_cons (pv 0) (pa_cons pe_int pa_nil)))))) pa_nil))) pa_nil))))
    (pss_one (ps_expr (pe_bm PySem.F.plainAttrs_list PySem.F.slot_list_append PySem.F.type_list_append mt_append (pv 4) (pa_cons (pe_tup (pa_cons (pe_callC C__law_pull hr (by rfl) (pa_cons (pv 0) (pa_cons (pv 1) pa_nil))) (pa_cons (pv 6) (pa_cons (pe_cmpR op_eq (pe_callC C__law_pull hr (by rfl) (pa_cons (pv 0) (pa_cons pe_int pa_nil))) pe_int (nomark _)) pa_nil)))) pa_nil))))))
    (pss_one (ps_ret (pv 4))))), ?_⟩
    refine ⟨by show 0 ≤ sizeLine; decide, fun fp nfp => ?_⟩
    have nl := hB.ne nfp
    have nfa : fp ≠ a := nl.1.symm
    have npf : np ≠ fp := ne_of_none hnp nfp
    refine ⟨.ref a, rfl, .int lim, rfl, lim, 1, rfl, rfl, a, l, lim + 1, rfl, hB.upd nl, by omega, by omega, fun n H1 n0 n1 hB1 k1 => ?_⟩
    refine ⟨.int many, rfl, many, 0, rfl, rfl, .inr ⟨decide (many > 0), rfl, ?_⟩⟩
    have k01 : Keep a H H1 := (Keep.of_same (same_new nfp)).trans k1
    have hf1 := k1 _ _ nfa (upd_same (H := H) (a := fp) (o := HO.lst []))
    have hcnt : n * (if decide (many > 0) = true then 1 else 0) = ((if many > 0 then n.toNat else 0 : Nat) : Int) := by
      by_cases h : many > 0
      · rw [decide_eq_true h, if_pos rfl, if_pos h]
        omega
      · rw [decide_eq_false h, if_neg Bool.false_ne_true, if_neg h]
        omega
    have hnn : (if many > 0 then n.toNat else 0) ≤ 10 := by split <;> omega
    refine ⟨n, _, rfl, rfl, .inl ⟨by omega, by omega⟩, _, rfl, by rw [hcnt]; omega, by rw [hcnt]; omega, ?_⟩
    rw [hcnt, Int.toNat_natCast]
    generalize hN : (if many > 0 then n.toNat else 0) = N at hnn
    refine for_it walk_range0 (fun i σ' H' => (∃ y5 y6, σ' = [some (.ref a), some (.int many), some (.ref np), some (.int lim), some (.ref fp), y5, y6]) ∧ BagAt H' a l ∧ Keep a H H' ∧ ∃ vs, ∃ t : List Sd, H' fp = some (.lst vs) ∧ DpAll K H' vs (t.map dSd) ∧ t.length = i ∧ ∀ x ∈ t, 0 ≤ x.1 ∧ x.1 < many ∧ NameZ x.2.1) ⟨⟨none, none, rfl⟩, hB1, k01, [], [], hf1, .nil, rfl, fun _ h => (by cases h)⟩ (fun _ _ _ _ _ => True.intro) (fun i x σ' Ha Hb hi hP hy => ?_) (fun σ' H' hP => ?_)
    · obtain ⟨⟨y5, y6, rfl⟩, hB2, k2, vs, t, hfp, hvs, ht, hg⟩ := hP
      obtain ⟨rfl, rfl⟩ := hy
      have hm : 0 < many := by
        rcases Int.lt_or_le 0 many with h | h
        · exact h
        · rw [if_neg (by omega)] at hN
          omega
      have hnp2 := k2 _ _ npa hnp
      refine ⟨.ref a, rfl, .ref np, rfl, .ref a, rfl, a, l, 6, rfl, hB2, by decide, by decide, fun r H3 r0 r1 hB3 k3 => ?_⟩
      refine ⟨1, r, rfl, rfl, 1 + r, rfl, "nobody", rfl, by decide +kernel, by show 1 ≤ sizeLine; decide, fun p4 np4 => ?_⟩
      have hB4 := hB3.upd (o := .lst [V.str (cutS "nobody" none (some (1 + r)))]) (hB3.ne np4)
      have hnp3 := k3 _ _ npa hnp2
      have hnp4 : upd H3 p4 (.lst [V.str (cutS "nobody" none (some (1 + r)))]) np = some (.lst (zs.map V.str)) := by
        rw [upd_ne (ne_of_none hnp3 np4)]
        exact hnp3
      refine ⟨np, p4, _, _, rfl, rfl, hnp4, upd_same, small_le (by rw [List.length_map]; show zs.length + 1 ≤ 1000000; omega), fun p5 np5 => ?_⟩
      refine ⟨a, l, _, _, rfl, hB4.upd (hB4.ne np5), .inl ⟨p5, rfl, (hB4.ne np5).1.symm, .inl (.of upd_same)⟩, by rw [List.length_append]; show 0 < _ + 1; omega, by rw [List.length_append, List.length_map]; show zs.length + 1 ≤ 1000; omega, fun v H6 hv hB6 k6 => ?_⟩
      obtain ⟨nm, rfl, hnm⟩ := nm_of hz (nobody_ok r0 r1) hv
      have k36 : Keep a Hb H6 := (k3.trans (Keep.of_same ((same_new np4).trans (same_new np5)))).trans k6
      have hfp6 := k36 _ _ nfa hfp
      have hvs6 := dps_keep hB2 k36 (fz_map fun x _ => fz_dSd x) hvs
      have hvl := hvs.length
      rw [List.length_map] at hvl
      refine ⟨.ref fp, rfl, .inl ⟨rfl, vs, .of hfp6⟩, .ref a, rfl, .int many, rfl, a, l, many, rfl, hB6, hm, by omega, fun r1' H7 q0 q1 hB7 k7 => ?_⟩
      refine ⟨.str nm, rfl, .ref a, rfl, a, l, 3, rfl, hB7, by decide, by decide, fun r2 H8 s0 s1 hB8 k8 => ⟨rfl, by show 3 ≤ sizeLine; decide, fun tp ntp => ?_⟩⟩
      have k68 := k7.trans k8
      have hfp8 := k68 _ _ nfa hfp6
      have ftp : fp ≠ tp := ne_of_none hfp8 ntp
      have s9 := same_new (o := HO.tup [V.int r1', V.str nm, V.bl (decide (V.int r2 = V.int 0))]) ntp
      refine ⟨fp, vs, .ref tp, rfl, rfl, by rw [upd_ne ftp]; exact hfp8, small_lt (by omega), ?_⟩
      have k29 : Keep a H _ := ((k2.trans k36).trans k68).trans (Keep.of_same s9)
      have hvs8 := dps_same s9 (dps_keep hB6 k68 (fz_map fun x _ => fz_dSd x) hvs6)
      have hB9 := hB8.upd (o := HO.tup [V.int r1', V.str nm, V.bl (decide (V.int r2 = V.int 0))]) (hB8.ne ntp)
      have hfp9 : upd H8 tp (.tup [V.int r1', V.str nm, V.bl (decide (V.int r2 = V.int 0))]) fp = some (.lst vs) := by
        rw [upd_ne ftp]
        exact hfp8
      have hd9 : Dp K (upd H8 tp (.tup [V.int r1', V.str nm, V.bl (decide (V.int r2 = V.int 0))])) (.ref tp) (dSd (r1', nm, decide (V.int r2 = V.int 0))) := .tup (.of upd_same) (.cons (.int _) (.cons (.str _) (.cons (.bl _) .nil)))
      refine ⟨⟨_, _, rfl⟩, hB9.upd nl, Keep.mut k29 nfp, _, t ++ [(r1', nm, decide (V.int r2 = V.int 0))], upd_same, ?_, by rw [List.length_append, ht]; rfl, fun x hx => ?_⟩
      · rw [List.map_append]
        exact (dps_tk (.lst hfp9) (fz_map fun x _ => fz_dSd x) hvs8).app (.one (dp_tk (.lst hfp9) (fz_dSd _) hd9))
      · rcases List.mem_append.mp hx with hx | hx
        · exact hg x hx
        · rw [List.mem_singleton.mp hx]
          exact ⟨q0, q1, hnm⟩
    · obtain ⟨⟨y5, y6, rfl⟩, hB2, k2, vs, t, hfp, hvs, ht, hg⟩ := hP
      exact ⟨.ref fp, rfl, q (.ref fp) t H' ⟨by omega, hg⟩ (.lst (.of hfp) hvs) hB2 k2⟩
end
end Ink
namespace Ink
open PySem PySem.Spec PyProof.Rows L2 Evl
theorem q_par3 {t1 t2 t3 : TE} {tz : TS} {i j l : Nat} {D : Ends} {σ : L2.St} {H : Hp} (h : t1 σ H fun u H1 => t2 σ H1 fun v H2 => t3 σ H2 fun w H3 => ∃ a b c, [u, v, w] = [a, b, c] ∧ tz D (((σ.set i (some a)).set j (some b)).set l (some c)) H3) : tSeq (tPar3 i j l (tCons t1 (tCons t2 (tCons t3 tNil)))) tz D σ H := h
theorem q_parS {t1 t2 : TE} {tz : TS} {i j : Nat} {D : Ends} {σ : L2.St} {H : Hp} (h : t1 σ H fun u H1 => t2 σ H1 fun v H2 => ∃ a b, [u, v] = [a, b] ∧ tz D ((σ.set i (some a)).set j (some b)) H2) : tSeq (tPar i j (tCons t1 (tCons t2 tNil))) tz D σ H := h
section
variable {K : PySem.W.Frag} {σ : L2.St} {H : Hp} {ta tm : TE} {a l : Addr} {D : Ends} {tu tw : TS}
theorem s_ifPull {m : Int} {j : Nat} {full : Bool} (ha : Ev ta σ H (.ref a)) (hm : Ev tm σ H (.int m)) (hB : BagAt H a l) (h0 : 0 < m) (h1 : m < 1073741824) (hj : σ[j]? = some (some (.bl full))) (k1 : ∀ H', BagAt H' a l → Keep a H H' → tu D σ H') (k2 : ∀ H', BagAt H' a l → Keep a H H' → tw D σ H') :
    tIfS (tAnd (tTest (tOp rEq (tCall spPull [] E0 (tCons ta (tCons tm tNil))) (tC (.int 0)))) (tNot (tB (tVar j)))) tu tw D σ H :=
  q_pull ha hm hB h0 h1 fun r H' r0 r1 hB' k' => ⟨rfl, _, rfl, ite2 (fun _ => ⟨.bl full, hj, full, rfl, ite2 (fun _ => k1 H' hB' k') fun _ => k2 H' hB' k'⟩) fun _ => k2 H' hB' k'⟩
theorem s_ifPull2 {m : Int} {t : TT} {b : Bool} {g : Int → Int → V} (h : EvT t σ H b) (ha : Ev ta σ H (.ref a)) (hm : Ev tm σ H (.int m)) (hB : BagAt H a l) (h0 : 0 < m) (h1 : m < 1073741824) (hg : ∀ i j, ∃ c, g i j = .bl c) (k1 : b = true → ∀ H', BagAt H' a l → Keep a H H' → tu D σ H') (k2 : ∀ H', BagAt H' a l → Keep a H H' → tw D σ H') :
    tIfS (tAnd t (tTest (tOp (rI0 g) (tCall spPull [] E0 (tCons ta (tCons tm tNil))) (tC (.int 0))))) tu tw D σ H :=
  s_ifAnd h (fun hb H1 e1 => q_pull (fun H2 e2 => ha H2 (e1.trans e2)) (fun H2 e2 => hm H2 (e1.trans e2)) (hB.same e1) h0 h1 fun r H' r0 r1 hB' k' => ⟨r, 0, rfl, rfl, by
    obtain ⟨c, hc⟩ := hg r 0
    exact ⟨c, hc, ite2 (fun _ => k1 hb H' hB' ((Keep.of_same e1).trans k')) fun _ => k2 H' hB' ((Keep.of_same e1).trans k')⟩⟩) fun _ H1 e1 => k2 H1 (hB.same e1) (Keep.of_same e1)
end
section
variable {P : Program} {w : World} {K : PySem.W.Frag} {mg : Str → Option Value} {base : Heap}
theorem ok_stepsdr {f : Addr} {fd : FuncData} {k : Nat} (F : Fun K "_law_steps_drawn" "_law_steps_drawn" sLStepsDrawn f fd) (T : Txt mg)
    (C__law_pull : Cal P w K mg base k "_law_pull" ["_law_bag_here", "_law_many"] spPull) (C__law_of : Cal P w K mg base k "_law_of" ["_law_bag_here", "_law_things"] (spOf K))
    (C__law_begin : Cal P w K mg base k "_law_begin" ["_law_m"] (spP K RBegin)) (C__law_steps : Cal P w K mg base k "_law_steps" ["_law_m", "_law_stand"] (spN K RLN)) (C__law_other_crew : Cal P w K mg base k "_law_other_crew" ["_law_bag_here", "_law_m"] (spCrew K))
    (C__law_carried : Cal P w K mg base k "_law_carried" ["_law_one", "_law_other", "_law_stand"] (spP K RLCar)) :
    FnOk P w K mg base CX0 (k + 1) f fd ["_law_bag_here", "_law_m", "_law_letters_here", "_law_limit"] (spStepsDr K) := by
  refine F.ok sc__law_steps_drawn (fun vs H Q E h => ?_) (fun cdv A outer s H vs Q E hr h => ?_)
  · obtain ⟨a, l, p, sp, m, cs, lim, rfl, _⟩ := h
    rfl
  · obtain ⟨a, l, p, sp, m, cs, lim, rfl, hB, hM, g, hsp, spa, c1, c20, hcs, l0, l1, q⟩ := h
    refine ⟨_, (pss_cons (ps_par3 (i := 4) (j := 5) (l := 6) (by rfl) sc__law_steps_drawn.nd rfl rfl rfl (by decide) (by decide) (by decide) rfl rfl rfl (pa_cons (pe_callC C__law_begin hr (by rfl) (pa_cons (pv 1) pa_nil)) (pa_cons (pe_callTy call_list_of (by rfl) T.m_list (by decide +kernel) (pa_cons (pv 1) pa_nil)) (pa_cons (pe_lst pa_nil) pa_nil))) (by rfl))
    (pss_cons (ps_for PassesOwn.never rfl (pi_range1 (by rfl) T.m_range (pa_cons (pe_callC C__law_pull hr (by rfl) (pa_cons (pv 0) (pa_cons (pe_op op_add (pv 3) pe_int) pa_nil))) pa_nil)) (pg_name (i := 7) sc__law_steps_drawn.nd rfl (.inl rfl))
    (pss_cons (ps_set (i := 8) sc__law_steps_drawn.nd rfl (.inl rfl) (pe_callC C__law_steps hr (by rfl) (pa_cons (pv 5) (pa_cons (pv 4) pa_nil))))
    (pss_cons (ps_set (i := 9) sc__law_steps_drawn.nd rfl (.inl rfl) (pe_cmpR op_gt (pe_callB call_len (by rfl) T.m_len PySem.boot_len (pa_cons (pe_lc (own := [("_law_step", 11)]) (g := (gName 11)) (by rfl) sc__law_steps_drawn.nd (pi_list (pv 6)) (blkOk_by (own := [("_law_step", 11)]) (N := ["_law_bag_here", "_law_m", "_law_letters_here", "_law_limit", "_law_stand", "_law_crew", "_law_found", "_law_k", "_law_some", "_law_full", "_law_fresh_here", "_law_step"]) (sc := defScope sLStepsDrawn) (by decide +kernel)) (fun _ _ _ _ _ => (pg_name (i := 11) sc__law_steps_drawn.nd rfl (Or.inl rfl))) (fun _ _ _ _ _ => pts_one (pt_not (pt_val (pe_callB (show CallR _ (.builtin "isinstance") (rIsi K) from call_isi) (by rfl) T.m_isinstance (by decide +kernel) (pa_cons (pv 11) (pa_cons (pe_bltn (v := .ty "str") (by rfl) T.m_str (by decide +kernel) rfl) pa_nil)))))) (fun _ _ _ _ _ => (pv 11))) pa_nil)) pe_int (nomark _)))
    (pss_one (ps_if (PW.pt (pw_and (pt_cmpR op_eq (pe_callC C__law_pull hr (by rfl) (pa_cons (pv 0) (pa_cons pe_int pa_nil))) pe_int (nomark _)) (pw_and1 (pt_not (pt_val (pv 9))))))
    (pss_cons (ps_set (i := 10) sc__law_steps_drawn.nd rfl (.inl rfl) (pe_callC C__law_other_crew hr (by rfl) (pa_cons (pv 0) (pa_cons (pv 5) pa_nil))))
    (pss_cons (ps_par (i := 4) (j := 5) (by rfl) sc__law_steps_drawn.nd rfl rfl (by decide) rfl rfl (pa_cons (pe_callC C__law_carried hr (by rfl) (pa_cons (pv 5) (pa_cons (pv 10) (pa_cons (pv 4) pa_nil)))) (pa_cons (pv 10) pa_nil)) (by rfl))
    (pss_one (ps_expr (pe_bm PySem.F.plainAttrs_list PySem.F.slot_list_append PySem.F.type_list_append mt_append (pv 6) (pa_cons (pe_callTy call_list_of (by rfl) T.m_list (by decide +kernel) (pa_cons (pv 10) pa_nil)) pa_nil)))))) (pss_one (ps_if (PW.pt (pw_and (pt_cmpR (show OpR _ _ (rNeD K) from op_neD hr.units) (pv 8) (pe_lst pa_nil) (nomark _)) (pw_and1 (pt_cmpR op_gt (pe_callC C__law_pull hr (by rfl) (pa_cons (pv 0) (pa_cons pe_int pa_nil))) pe_int (nomark _)))))
    (pss_cons (ps_set (i := 11) sc__law_steps_drawn.nd rfl (.inl rfl) (pe_callC C__law_of hr (by rfl) (pa_cons (pv 0) (pa_cons (pv 8) pa_nil))))
    (pss_cons (ps_expr (pe_bm PySem.F.plainAttrs_list PySem.F.slot_list_append PySem.F.type_list_append mt_append (pv 6) (pa_cons (pe_ix ix_tup (pv 11) pe_int (fun _ _ => rfl)) pa_nil)))
    (pss_one (ps_set (i := 4) sc__law_steps_drawn.nd rfl (.inl rfl) (pe_ix ix_tup (pv 11) pe_int (fun _ _ => rfl)))))) (pss_one (ps_expr (pe_bm PySem.F.plainAttrs_list PySem.F.slot_list_append PySem.F.type_list_append mt_append (pv 6) (pa_cons (pe_callC C__law_of hr (by rfl) (pa_cons (pv 0) (pa_cons (pv 2) pa_nil))) pa_nil)))))))))))
    (pss_one (ps_ret (pv 6))))), ?_⟩
    refine q_par3 ?_
    refine (ed_call (K := K) (σ := [some (.ref a), some (.ref p), some (.ref sp), some (.int lim), none, none, none, none, none, none, none, none]) (eds_cons (ed_var (i := 1) rfl hM.dp) eds_nil) ⟨m, g.len, rfl, rfl⟩) H (.refl H) _ fun vb H1 e1 hvb => ?_
    refine (en_list (K := K) (σ := [some (.ref a), some (.ref p), some (.ref sp), some (.int lim), none, none, none, none, none, none, none, none]) (ds := m.map dW) (ed_var (i := 1) rfl (dp_same e1 hM.dp)) (.inl rfl)) H1 (.refl H1) _ fun pc ws H2 npc e2 hpc hws => ?_
    refine ⟨by show 0 ≤ sizeLine; decide, fun fp nfp => ⟨_, _, _, rfl, ?_⟩⟩
    have e12 := e1.trans e2
    have nfp0 : H fp = none := Same.free e12 nfp
    have nl := (hB.same e12).ne nfp
    have nfa : fp ≠ a := nl.1.symm
    have npcf : pc ≠ fp := ne_of_none hpc nfp
    have pca : pc ≠ a := ((hB.same e1).ne npc).1.symm
    have s3 := same_new (o := HO.lst []) nfp
    dsimp only
    refine ⟨.ref a, rfl, .int lim, rfl, lim, 1, rfl, rfl, a, l, lim + 1, rfl, (hB.same e12).upd nl, by omega, by omega, fun n H3 n0 n1 hB3 k3 => ⟨n, rfl, by omega, by omega, ?_⟩⟩
    have k03 : Keep a H H3 := ((Keep.of_same e12).trans (Keep.of_same s3)).trans k3
    have hMc : MAt K H3 a pc m := MAt.keep ((hB.same e12).upd nl) k3 ⟨ws, s3 _ _ hpc, dps_same s3 hws, pca⟩
    refine for_it walk_range0 (fun i σ' H' => (∃ v s pc mc y7 y8 y9 y10 y11, σ' = [some (.ref a), some (.ref p), some (.ref sp), some (.int lim), some v, some (.ref pc), some (.ref fp), y7, y8, y9, y10, y11] ∧ pc ≠ fp ∧ MAt K H' a pc mc ∧ GoodM mc ∧ Okay mc s ∧ Dp K H' v (dS s)) ∧ BagAt H' a l ∧ Keep a H H' ∧
      ∃ its : List (V × Stp), H' fp = some (.lst (its.map (·.1))) ∧ (∀ it ∈ its, StAt K H' fp it.1 it.2 ∧ GoodStp it.2) ∧ its.length = i)
      ⟨⟨vb, beginS m, pc, m, none, none, none, none, none, rfl, npcf, hMc, g, okay_begin, dp_keep ((hB.same e12).upd nl) k3 (fz_dS _) (dp_same (e2.trans s3) hvb)⟩, hB3, k03, [], k3 _ _ nfa upd_same, fun _ h => (by cases h), rfl⟩ (fun _ _ _ _ _ => True.intro) (fun i y σ' Ha Hb hi hP hy => ?_) (fun σ' H' hP => ?_)
    · obtain ⟨⟨v, st, pc, mc, y7, y8, y9, y10, y11, rfl, npcf, hMc, gc, ok, hv⟩, hB4, k4, its, hfp, hits, hlen⟩ := hP
      obtain ⟨rfl, rfl⟩ := hy
      have hil : its.length ≤ 20 := by omega
      refine sd_asgN (K := K) (en_call (eds_cons (ed_var rfl hMc.dp) (eds_cons (ed_var rfl hv) eds_nil)) ⟨mc, st, gc, ok, rfl, rfl⟩) fun pd us H5 npd e5 hpd hus => ?_
      dsimp only
      have pda : pd ≠ a := (hB4.ne npd).1.symm
      have pdf : pd ≠ fp := (ne_of_none hfp npd).symm
      have hfp5 := e5 _ _ hfp
      have hits5 : ∀ it ∈ its, StAt K H5 fp it.1 it.2 ∧ GoodStp it.2 := fun it h => ⟨(hits it h).1.same e5, (hits it h).2⟩
      refine ⟨.ref fp, rfl, fp, rfl, ⟨_, .of hfp5⟩, fun D nD => lc_it (walk_list (K := K) (xs := its.map (·.1))) (fun i H' => Ex H5 H' ∧ ∃ vs, H' D = some (.lst vs) ∧ vs.length ≤ i) ⟨Ex.new nD, [], upd_same, Nat.le_refl _⟩ (fun i H' _ hP => .of (hP.1 _ _ hfp5)) (fun i x Hc Hd hi hP hy => ?_) (fun H6 hP => ?_)⟩
      · obtain ⟨e6, vs, eD, hvl⟩ := hP
        obtain ⟨rfl, hx⟩ := hy
        rw [List.getElem?_map, Option.map_eq_some_iff] at hx
        obtain ⟨it, hit, rfl⟩ := hx
        have hdp := ((hits5 it (List.mem_of_getElem? hit)).1.same e6).dp
        rw [List.length_map] at hi
        refine ⟨rfl, ?_⟩
        refine (et_not (et_B (isi_sl (K := K) (te := tVar 11) (ed_var (i := 11) rfl hdp) (.inl rfl)))) _ (.refl _) _ fun H7 e7 => ite2 (fun _ => ?_) fun _ => ?_
        · exact ⟨it.1, rfl, vs, e7 _ _ eD, small_lt (by omega), Ex.mut (e6.trans e7) nD, _, upd_same, by rw [List.length_append]; exact Nat.succ_le_succ hvl⟩
        · exact ⟨e6.trans e7, vs, e7 _ _ eD, by omega⟩
      · obtain ⟨e6, vs, eD, hvl⟩ := hP
        refine ⟨.ref D, _, rfl, .inl ⟨_, .of eD, rfl⟩, _, _, rfl, rfl, g_go ?_⟩
        dsimp only
        have e56 := e5.trans e6
        have hB6 := hB4.same e56
        have hM6 := hMc.same e56
        have hv6 := dp_same e56 hv
        have hpd6 := e6 _ _ hpd
        have hus6 := dps_same e6 hus
        have hfp6 := e6 _ _ hfp5
        have hits6 : ∀ it ∈ its, StAt K H6 fp it.1 it.2 ∧ GoodStp it.2 := fun it h => ⟨(hits5 it h).1.same e6, (hits5 it h).2⟩
        have k6 : Keep a H H6 := k4.trans (Keep.of_same e56)
        refine s_ifPull (m := 7) (ev_var rfl) ev_c hB6 (by decide) (by decide) rfl (fun H7 hB7 k7 => ?_) fun H7 hB7 k7 => ?_
        · -- another crew
          have hM7 := hM6.keep hB6 k7
          refine ⟨.ref a, rfl, .ref pc, rfl, a, l, pc, mc, rfl, hB7, hM7, gc, fun p2 m2 H8 np2 g2 hN8 hB8 k8 => ?_⟩
          have hfp7 := k7 _ _ nfa hfp6
          have p2f : p2 ≠ fp := (ne_of_none hfp7 np2).symm
          have k78 := k7.trans k8
          have hM8 := hM7.keep hB7 k8
          have hv8 := dp_keep hB6 k78 (fz_dS _) hv6
          refine q_parS ((ed_call (K := K) (eds_cons (ed_var (i := 5) rfl hM8.dp) (eds_cons (ed_var (i := 10) rfl hN8.dp) (eds_cons (ed_var (i := 4) rfl hv8) eds_nil))) ⟨mc, m2, st, gc, g2, ok.toFits, rfl, rfl⟩) H8 (.refl H8) _ fun u H9 e9 hu => ⟨.ref p2, rfl, _, _, rfl, ?_⟩)
          have hfp9 := e9 _ _ (k8 _ _ nfa hfp7)
          have k69 : Keep a H6 H9 := k78.trans (Keep.of_same e9)
          have hN9 := hN8.same e9
          have hB9 := hB8.same e9
          refine sd_appX (K := K) (p := fp) (ev_var rfl) hfp9 (by rw [List.length_map]; omega) fun H10 e10 Q2 q2 => ?_
          refine en_list (K := K) (ds := m2.map dW) (ed_var rfl (hN9.same e10).dp) (.inl rfl) H10 (.refl H10) Q2 fun b ws H11 nb e11 hb hws => q2 (.ref b) H11 ((e10.trans e11) _ _ hfp9) ?_
          have e911 := e10.trans e11
          have bf : b ≠ fp := (ne_of_none (e10 _ _ hfp9) nb).symm
          have hfp11 := e911 _ _ hfp9
          refine ⟨⟨u, _, p2, m2, _, _, _, _, _, rfl, p2f, (hN9.same e911).upd p2f hfp11, g2, okay_car ok, dp_tk (.lst hfp11) (fz_dS _) (dp_same e911 hu)⟩, (hB9.same e911).upd nl, Keep.mut ((k6.trans k69).trans (Keep.of_same e911)) nfp0, its ++ [(.ref b, .cr m2)], ?_, fun it hit => ?_, by rw [List.length_append, hlen]; rfl⟩
          · rw [upd_same, List.map_append]
            rfl
          · rcases List.mem_append.mp hit with hit | hit
            · exact ⟨(((hits6 it hit).1.keep hB6 k69).same e911).upd hfp11, (hits6 it hit).2⟩
            · rw [List.mem_singleton.mp hit]
              exact ⟨⟨b, rfl, ws_surv.upd hfp11 bf ⟨ws, hb, hws⟩, bf⟩, fun z e => (by cases e), fun m e => (by cases e; exact g2)⟩
        · have hpd7 := k7 _ _ pda hpd6
          have hus7 := dps_keep hB6 k7 (fz_map fun x _ => fz_dStep x) hus6
          have hd7 : Dp K H7 (.ref pd) (.list ((stepsOf mc st).map dStep)) := .lst (.of hpd7) hus7
          have k07 := k6.trans k7
          refine s_ifPull2 (m := 9) (b := !PyData.eqv (.list ((stepsOf mc st).map dStep)) (.list [])) (et_test (ev_neD (ed_var rfl hd7) (en_lst eds_nil (by decide)).list (steps_shaped gc st) rfl)) (ev_var rfl) ev_c hB7 (by decide) (by decide) (fun i j => ⟨_, rfl⟩) (fun hb H8 hB8 k8 => ?_) fun H8 hB8 k8 => ?_
          · have hne : stepsOf mc st ≠ [] := fun z => by
              rw [eqv_nil, z] at hb
              cases hb
            have hul := hus.length
            rw [List.length_map] at hul
            have hpos := List.length_pos_iff.mpr hne
            have ho : (stepsOf mc st).length ≤ 27 := by
              unfold stepsOf
              rw [List.length_map, List.length_mergeSort]
              exact moves_len gc st
            have hpd8 := k8 _ _ pda hpd7
            have hus8 := dps_keep hB7 k8 (fz_map fun x _ => fz_dStep x) hus7
            refine q_of (K := K) (ev_var rfl) (ev_var rfl) hpd8 pda hB8 (by omega) (by omega) fun x H9 hx hB9 k9 => ?_
            obtain ⟨j, hj⟩ := List.mem_iff_getElem?.mp hx
            obtain ⟨dx, hdx, hxd⟩ := hus8.at hj
            rw [List.getElem?_map, Option.map_eq_some_iff] at hdx
            obtain ⟨z, hz, rfl⟩ := hdx
            have hxd9 := dp_keep hB8 k9 (fz_dStep z) hxd
            have k69 := (k7.trans k8).trans k9
            have hfp9 := k69 _ _ nfa hfp6
            obtain ⟨k', to, hk', hw', ez, y', hy', ey'⟩ := steps_in (List.mem_of_getElem? hz)
            obtain ⟨_, _, ⟨c, hc, ec⟩, _⟩ := (gc.at hk').each y' hy'
            have e22 : z.2.2 = behind mc st k' to := congrArg (fun q => q.2.2) ez
            refine sd_app (K := K) (σ := [some (.ref a), some (.ref p), some (.ref sp), some (.int lim), some v, some (.ref pc), some (.ref fp), some (.int (i : Int)), some (.ref pd), _, y10, some x]) rfl hfp9 (ed_ixT (ed_var rfl hxd9) ev_c (by decide) rfl) (by rw [List.length_map]; omega) fun v1 H10 e10 hv1 => ?_
            obtain rfl := dp_str hv1
            have hfp10 := e10 _ _ hfp9
            have tk : TupK K H10 (upd H10 fp (.lst (its.map (·.1) ++ [.str z.1]))) := .lst hfp10
            refine sd_asg (K := K) (d := dS z.2.2) (ed_ixT (ed_var rfl (dp_tk tk (fz_dStep z) (dp_same e10 hxd9))) ev_c (by decide) rfl) fun v2 H11 e11 hv2 => ?_
            have hB10 := hB9.same e10
            have hM10 := ((hM6.keep hB6 k69).same e10).upd (o := .lst (its.map (·.1) ++ [.str z.1])) npcf hfp10
            refine ⟨⟨v2, z.2.2, pc, mc, _, _, _, _, _, rfl, npcf, hM10.same e11, gc, by rw [e22]; exact okay_behind gc ok hk' hw' to, hv2⟩, (hB10.upd nl).same e11, (Keep.mut ((k6.trans k69).trans (Keep.of_same e10)) nfp0).trans (Keep.of_same e11), its ++ [(.str z.1, .sg z.1)], ?_, fun it hit => ?_, by rw [List.length_append, hlen]; rfl⟩
            · rw [e11 _ _ upd_same, List.map_append]
              rfl
            · rcases List.mem_append.mp hit with hit | hit
              · exact ⟨((((hits6 it hit).1.keep hB6 k69).same e10).upd hfp10).same e11, (hits6 it hit).2⟩
              · rw [List.mem_singleton.mp hit]
                exact ⟨rfl, fun y e => (by cases e; exact ⟨c, hc, ey'.trans ec⟩), fun m e => (by cases e)⟩
          · have k68 := k7.trans k8
            have hfp8 := k68 _ _ nfa hfp6
            have hsp8 := (k6.trans k68) _ _ spa hsp
            refine sd_appX (K := K) (p := fp) (ev_var rfl) hfp8 (by rw [List.length_map]; omega) fun H9 e9 Q2 q2 => ?_
            refine q_of (K := K) (ev_var rfl) (ev_var rfl) (e9 _ _ hsp8) spa (hB8.same e9) (by rw [List.length_map, List.length_map]; omega) (by rw [List.length_map, List.length_map]; omega) fun x H10 hx hB10 k10 => q2 x H10 (k10 _ _ nfa (e9 _ _ hfp8)) ?_
            obtain ⟨zz, hzz, rfl⟩ := List.mem_map.mp hx
            obtain ⟨c, hc, rfl⟩ := List.mem_map.mp hzz
            have k610 := (k68.trans (Keep.of_same e9)).trans k10
            have hfp10 := k610 _ _ nfa hfp6
            refine ⟨⟨v, st, pc, mc, _, _, _, _, _, rfl, npcf, (hM6.keep hB6 k610).upd npcf hfp10, gc, ok, dp_tk (.lst hfp10) (fz_dS _) (dp_keep hB6 k610 (fz_dS _) hv6)⟩, hB10.upd nl, Keep.mut (k6.trans k610) nfp0, its ++ [(.str (single c), .sg (single c))], ?_, fun it hit => ?_, by rw [List.length_append, hlen]; rfl⟩
            · rw [upd_same, List.map_append]
              rfl
            · rcases List.mem_append.mp hit with hit | hit
              · exact ⟨((hits6 it hit).1.keep hB6 k610).upd hfp10, (hits6 it hit).2⟩
              · rw [List.mem_singleton.mp hit]
                exact ⟨rfl, fun y e => (by cases e; exact ⟨c, hcs c hc, rfl⟩), fun m e => (by cases e)⟩
    · obtain ⟨⟨v, st, pc, mc, y7, y8, y9, y10, y11, rfl, npcf, hMc, gc, ok, hv⟩, hB4, k4, its, hfp, hits, hlen⟩ := hP
      refine ⟨.ref fp, rfl, q (.ref fp) (its.map (·.2)) H' (by rw [List.length_map]; omega) (fun x hx => ?_) (.lst (.of hfp) ?_) hB4 k4⟩
      · obtain ⟨it, hit, rfl⟩ := List.mem_map.mp hx
        exact (hits it hit).2
      · rw [List.map_map]
        exact dpAll_map fun it hit => (hits it hit).1.dp
end
end Ink
namespace Ink
open PySem PySem.Spec PyProof.Rows L2 Evl
def dDr (m : List Wr) (tr : List Stp) (t : List Sd) : PyData := .tuple [dMl m, .list (tr.map dSL), .list (t.map dSd), dRow (sigsOf tr, crewsOf m tr, t)]
structure GoodDr (m : List Wr) (tr : List Stp) (t : List Sd) : Prop where
  g : GoodM m
  one : 1 ≤ m.length
  st : ∀ x ∈ tr, GoodStp x
  len : tr.length ≤ 20
  t : GoodT ((sigsOf tr).length : Nat) t
theorem GoodDr.row {m : List Wr} {tr : List Stp} {t : List Sd} (d : GoodDr m tr t) : GoodR (sigsOf tr, crewsOf m tr, t) := ⟨GoodC.fold d.st (.one d.g), crews_len m tr, by
  have := sigs_le tr
  have := d.len
  show (sigsOf tr).length ≤ 900
  omega, fun ch h => by
  have := crews_le m tr ch h
  have := d.len
  omega, by
  have := d.t.len
  show t.length ≤ 900
  omega⟩
theorem nb_dDr (m : List Wr) (tr : List Stp) (t : List Sd) : nb (dDr m tr t) = true := by
  have h1 := nb_dMl m
  have h2 := nb_track tr
  have h3 := nb_sds t
  have h4 := nb_dRow (sigsOf tr, crewsOf m tr, t)
  unfold dDr
  unfold nb nbAll nbAll nbAll nbAll nbAll
  rw [h1, h2, h3, h4]
  rfl
theorem nb_parts (tr : List Stp) (m : List Wr) : nb (.tuple [.list ((sigsOf tr).map .str), .list ((crewsOf m tr).map dCh)]) = true := by
  unfold nb nbAll nbAll nbAll
  rw [nb_strs, nb_crews]
  rfl
def spDrawn (K : PySem.W.Frag) : Sp := fun vs H Q _ => ∃ (a l : Addr) (gm sm dm : Int), vs = [.ref a, .int gm, .int sm, .int dm] ∧ BagAt H a l ∧ 1 ≤ gm ∧ gm ≤ 20 ∧ 0 ≤ sm ∧ sm ≤ 20 ∧ 0 ≤ dm ∧ dm ≤ 10 ∧ ∀ u m tr t H', GoodDr m tr t → Dp K H' u (dDr m tr t) → BagAt H' a l → Keep a H H' → Q u H'
def spDrawn2 (K : PySem.W.Frag) : Sp := fun vs H Q _ => ∃ (a l : Addr) (sm dm : Int), vs = [.ref a, .int sm, .int dm] ∧ BagAt H a l ∧ 0 ≤ sm ∧ sm ≤ 20 ∧ 0 ≤ dm ∧ dm ≤ 10 ∧ ∀ u m tr t H', GoodDr m tr t → Dp K H' u (dDr m tr t) → BagAt H' a l → Keep a H H' → Q u H'
section
variable {K : PySem.W.Frag} {σ : L2.St} {H : Hp} {ta tm tn tl : TE} {a l : Addr}
theorem q_said {many lim : Int} {zs : List Str} {Q : VK} (ha : Ev ta σ H (.ref a)) (hm : Ev tm σ H (.int many)) (hn : EvN K tn σ H (zs.map .str)) (hl : Ev tl σ H (.int lim)) (hB : BagAt H a l) (m0 : 0 ≤ many) (m1 : many ≤ 1000) (l0 : 0 ≤ lim) (l1 : lim ≤ 10) (zl : zs.length ≤ 20) (hz : ∀ z ∈ zs, NameZ z)
    (k : ∀ u t H', GoodT many t → Dp K H' u (.list (t.map dSd)) → BagAt H' a l → Keep a H H' → Q u H') : tCall (spSaid K) [] E0 (tCons ta (tCons tm (tCons tn (tCons tl tNil)))) σ H Q :=
  ha H (.refl H) _ fun H1 e1 => hm H1 e1 _ fun H2 e2 => hn H2 (e1.trans e2) _ fun np vs H3 nn e3 hp hvs => hl H3 ((e1.trans e2).trans e3) _ fun H4 e4 =>
    ⟨a, l, np, many, lim, zs, rfl, hB.same (((e1.trans e2).trans e3).trans e4), m0, m1, l0, l1, by rw [← dps_str hvs]; exact e4 _ _ hp, ((hB.same (e1.trans e2)).ne nn).1.symm, zl, hz, fun u t H' g d b k' => k u t H' g d b ((Keep.of_same (((e1.trans e2).trans e3).trans e4)).trans k')⟩
theorem q_saidV {many lim : Int} {zs : List Str} {np : Addr} {Q : VK} (ha : Ev ta σ H (.ref a)) (hm : Ev tm σ H (.int many)) (hn : Ev tn σ H (.ref np)) (hnp : H np = some (.lst (zs.map V.str))) (npa : np ≠ a) (hl : Ev tl σ H (.int lim)) (hB : BagAt H a l) (m0 : 0 ≤ many) (m1 : many ≤ 1000) (l0 : 0 ≤ lim) (l1 : lim ≤ 10) (zl : zs.length ≤ 20) (hz : ∀ z ∈ zs, NameZ z)
    (k : ∀ u t H', GoodT many t → Dp K H' u (.list (t.map dSd)) → BagAt H' a l → Keep a H H' → Q u H') : tCall (spSaid K) [] E0 (tCons ta (tCons tm (tCons tn (tCons tl tNil)))) σ H Q :=
  ha H (.refl H) _ fun H1 e1 => hm H1 e1 _ fun H2 e2 => hn H2 (e1.trans e2) _ fun H3 e3 => hl H3 ((e1.trans e2).trans e3) _ fun H4 e4 =>
    have e := ((e1.trans e2).trans e3).trans e4
    ⟨a, l, np, many, lim, zs, rfl, hB.same e, m0, m1, l0, l1, e _ _ hnp, npa, zl, hz, fun u t H' g d b k' => k u t H' g d b ((Keep.of_same e).trans k')⟩
/-- the tuple that is handed back -/
theorem ed_drawn {m : List Wr} {tr : List Stp} {t : List Sd} {i1 i2 i3 i4 : Nat} {v1 v2 v3 v4 : V} (s1 : σ[i1]? = some (some v1)) (s2 : σ[i2]? = some (some v2)) (s3 : σ[i3]? = some (some v3)) (s4 : σ[i4]? = some (some v4)) (h1 : Dp K H v1 (dMl m)) (h2 : Dp K H v2 (.list (tr.map dSL))) (h3 : Dp K H v3 (.list (t.map dSd))) (h4 : Dp K H v4 (.tuple [.list ((sigsOf tr).map .str), .list ((crewsOf m tr).map dCh)])) :
    EvD K (tTup (tCons (tVar i1) (tCons (tVar i2) (tCons (tVar i3) (tCons (tTup (tCons (tOp (rIxT K) (tVar i4) (tC (.int 0))) (tCons (tOp (rIxT K) (tVar i4) (tC (.int 1))) (tCons (tVar i3) tNil)))) tNil))))) σ H (dDr m tr t) :=
  ed_tup (eds_cons (ed_var s1 h1) (eds_cons (ed_var s2 h2) (eds_cons (ed_var s3 h3) (eds_cons (ed_tup (eds_cons (ed_ixT (ed_var s4 h4) ev_c (by decide) rfl) (eds_cons (ed_ixT (ed_var s4 h4) ev_c (by decide) rfl) (eds_cons (ed_var s3 h3) eds_nil))) (by show 3 ≤ 100000; decide)) eds_nil)))) (by show 4 ≤ 100000; decide)
end
section
variable {P : Program} {w : World} {K : PySem.W.Frag} {mg : Str → Option Value} {base : Heap}
theorem ok_scdrawn {f : Addr} {fd : FuncData} {k : Nat} (F : Fun K "_law_scroll_drawn" "_law_scroll_drawn" sLScrollDrawn f fd) (T : Txt mg)
    (C__law_signs : Cal P w K mg base k "_law_signs" ["_law_bag_here", "_law_limit"] spSigns) (C__law_company : Cal P w K mg base k "_law_company" ["_law_bag_here", "_law_limit", "_law_signs_here"] (spComp K))
    (C__law_steps_drawn : Cal P w K mg base k "_law_steps_drawn" ["_law_bag_here", "_law_m", "_law_letters_here", "_law_limit"] (spStepsDr K)) (C__law_parts : Cal P w K mg base k "_law_parts" ["_law_m", "_law_track"] (spP K RParts))
    (C__law_said_drawn : Cal P w K mg base k "_law_said_drawn" ["_law_bag_here", "_law_many", "_law_names_here", "_law_limit"] (spSaid K)) :
    FnOk P w K mg base CX0 (k + 1) f fd ["_law_bag_here", "_law_signs_most", "_law_steps_most", "_law_said_most"] (spDrawn K) := by
  refine F.ok sc__law_scroll_drawn (fun vs H Q E h => ?_) (fun cdv A outer s H vs Q E hr h => ?_)
  · obtain ⟨a, l, gm, sm, dm, rfl, _⟩ := h
    rfl
  · obtain ⟨a, l, gm, sm, dm, rfl, hB, g1, g20, s0, s20, d0, d10, q⟩ := h
    refine ⟨_, (pss_cons (ps_set (i := 4) sc__law_scroll_drawn.nd rfl (.inl rfl) (pe_callC C__law_signs hr (by rfl) (pa_cons (pv 0) (pa_cons (pv 1) pa_nil))))
    (pss_cons (ps_set (i := 5) sc__law_scroll_drawn.nd rfl (.inl rfl) (pe_callC C__law_company hr (by rfl) (pa_cons (pv 0) (pa_cons pe_int (pa_cons (pv 4) pa_nil)))))
    (pss_cons (ps_set (i := 6) sc__law_scroll_drawn.nd rfl (.inl rfl) (pe_callC C__law_steps_drawn hr (by rfl) (pa_cons (pv 0) (pa_cons (pv 5) (pa_cons (pv 4) (pa_cons (pv 2) pa_nil))))))
    (pss_cons (ps_set (i := 7) sc__law_scroll_drawn.nd rfl (.inl rfl) (pe_callC C__law_parts hr (by rfl) (pa_cons (pv 5) (pa_cons (pv 6) pa_nil))))
    (pss_cons (ps_set (i := 8) sc__law_scroll_drawn.nd rfl (.inl rfl) (pe_callC C__law_said_drawn hr (by rfl) (pa_cons (pv 0) (pa_cons (pe_callB call_len (by rfl) T.m_len PySem.boot_len (pa_cons (pe_ix ix_tup (pv 7) pe_int (fun _ _ => rfl)) pa_nil)) (pa_cons (pe_lc (own := [("_law_writer_here", 9)]) (g := (gName 9)) (by rfl) sc__law_scroll_drawn.nd (pi_list (pv 5)) (blkOk_by (own := [("_law_writer_here", 9)]) (N := ["_law_bag_here", "_law_signs_most", "_law_steps_most", "_law_said_most", "_law_letters_here", "_law_m", "_law_track", "_law_parts_here", "_law_talk", "_law_writer_here"]) (sc := defScope sLScrollDrawn) (by decide +kernel)) (fun _ _ _ _ _ => (pg_name (i := 9) sc__law_scroll_drawn.nd rfl (Or.inl rfl))) (fun _ _ _ _ _ => pts_nil) (fun _ _ _ _ _ => (pe_ix (show IxR _ (rIxT K) from ix_tup) (pv 9) pe_int (fun _ _ => rfl)))) (pa_cons (pv 3) pa_nil))))))
    (pss_one (ps_ret (pe_tup (pa_cons (pv 5) (pa_cons (pv 6) (pa_cons (pv 8) (pa_cons (pe_tup (pa_cons (pe_ix ix_tup (pv 7) pe_int (fun _ _ => rfl)) (pa_cons (pe_ix ix_tup (pv 7) pe_int (fun _ _ => rfl)) (pa_cons (pv 8) pa_nil)))) pa_nil)))))))))))), ?_⟩
    refine ⟨.ref a, rfl, .int gm, rfl, a, l, gm, rfl, hB, g1, g20, fun sp cs H1 nsp c1 c2 hcs hrise hsp hB1 k1 => ?_⟩
    have spa : sp ≠ a := (hB.ne nsp).1.symm
    refine ⟨.ref a, rfl, .ref sp, rfl, a, l, sp, 3, cs, rfl, hB1, by decide, by decide, hsp, spa, hcs, hrise, fun p m H2 np g m1 hM hB2 k2 => ?_⟩
    refine ⟨.ref a, rfl, .ref p, rfl, .ref sp, rfl, .int sm, rfl, a, l, p, sp, m, cs, sm, rfl, hB2, hM, g, k2 _ _ spa hsp, spa, c1, by omega, hcs, s0, s20, fun u tr H3 trl gt hu hB3 k3 => ?_⟩
    have hM3 := hM.keep hB2 k3
    dsimp only
    refine sd_asg (K := K) (ed_call (eds_cons (ed_var (i := 5) rfl hM3.dp) (eds_cons (ed_var (i := 6) rfl hu) eds_nil)) ⟨m, tr, g, gt, by omega, rfl, rfl⟩) fun v4 H4 e4 hv4 => ?_
    dsimp only
    have hM4 := hM3.same e4
    have hB4 := hB3.same e4
    have hu4 := dp_same e4 hu
    have sl := sigs_le tr
    refine q_said (K := K) (many := ((sigsOf tr).length : Nat)) (zs := m.map (·.1)) (ev_var rfl) (ev_is (ev_lenD (ed_ixT (ed_var rfl hv4) ev_c (by decide) rfl) (.inl rfl)) (by rw [List.length_map])) ?_ (ev_var rfl) hB4 (by omega) (by omega) d0 d10 (by rw [List.length_map]; have := g.len; omega) (fun z hz => ?_) fun u5 t H5 gT hu5 hB5 k5 => ?_
    · rw [List.map_map]
      exact en_map m dW _ (ei_lst (ed_var rfl hM4.dp)) (m_le g (by decide)) (fun x _ => by show fz (PyData.str _) = true; unfold fz; rfl) fun j x H5 y hx e5 hdx R kk => kk _ rfl (ed_ixT (ed_var rfl hdx) ev_c (by decide) rfl)
    · obtain ⟨x, hx, rfl⟩ := List.mem_map.mp hz
      exact (g.wr x hx).name
    · refine sd_ret (K := K) (ed_drawn (m := m) (tr := tr) (t := t) rfl rfl rfl rfl (hM4.keep hB4 k5).dp (dp_nb hB4 k5 _ _ (nb_track tr) hu4) hu5 (dp_nb hB4 k5 _ _ (nb_parts tr m) hv4)) fun v H6 e6 hv => q v m tr t H6 ⟨g, m1, gt, trl, gT⟩ hv (hB5.same e6) ((((k1.trans k2).trans k3).trans ((Keep.of_same e4).trans k5)).trans (Keep.of_same e6))
end
end Ink
namespace Ink
open PySem PySem.Spec PyProof.Rows L2 Evl
def spRow (K : PySem.W.Frag) : Sp := fun vs H Q _ => ∃ (a l np : Addr) (v : V) (r : Row3) (zs : List Str), vs = [.ref a, v, .ref np] ∧ BagAt H a l ∧ GoodR r ∧ Dp K H v (dRow r) ∧ H np = some (.lst (zs.map V.str)) ∧ np ≠ a ∧ 1 ≤ zs.length ∧ zs.length ≤ 20 ∧ (∀ z ∈ zs, NameZ z) ∧
  ∀ p (row : List Str) H', H p = none → row.length = r.1.length → (∀ z ∈ row, NameZ z) → H' p = some (.lst (row.map V.str)) → BagAt H' a l → Keep a H H' → Q (.ref p) H'
def spBentR : Sp := fun vs H Q _ => ∃ (a l p np : Addr) (row zs : List Str), vs = [.ref a, .ref p, .ref np] ∧ BagAt H a l ∧ H p = some (.lst (row.map V.str)) ∧ p ≠ a ∧ row.length ≤ 900 ∧ (∀ z ∈ row, NameZ z) ∧ H np = some (.lst (zs.map V.str)) ∧ np ≠ a ∧ 1 ≤ zs.length ∧ zs.length ≤ 20 ∧ (∀ z ∈ zs, NameZ z) ∧
  ∀ p2 (row2 : List Str) H', H p2 = none → row2.length ≤ row.length + 1 → (∀ z ∈ row2, NameZ z) → H' p2 = some (.lst (row2.map V.str)) → BagAt H' a l → Keep a H H' → Q (.ref p2) H'
theorem go_shaped {r : Row3} (g : GoodR r) {j : Nat} (h : j ≤ r.1.length) (s : Std) (b : Bool) : SeqAt.shaped (.list ((onM r j s b).map dGo)) = true := by
  have hz : ∀ x ∈ onM r j s b, PyData.strOk x.1 = true := fun x hx => by
    obtain ⟨y, hy, rfl⟩ := List.mem_map.mp hx
    obtain ⟨k, to, hk, _, e, _⟩ := steps_in (List.mem_filter.mp hy).1
    have e1 : y.2.1 = (wr (lastW r j) k).1 := congrArg (fun z => z.2.1) e
    show PyData.strOk y.2.1 = true
    rw [e1]
    exact str_ok ((g.last h).2.1.at hk).name.2.2
  have h1 : PyData.canLayAll0 ((onM r j s b).map dGo) = true := lay_map fun x hx => by
    unfold dGo
    simp only [PyData.canLay0, PyData.canLayAll0, dS_lay, hz x hx, Bool.and_self]
  have h2 := depth_map (f := dGo) (n := 20) (l := onM r j s b) fun x _ => by
    have := depth_dS x.2
    unfold dGo
    simp only [PyData.depth, PyData.depthAll]
    omega
  unfold SeqAt.shaped
  rw [Bool.and_eq_true, decide_eq_true_eq]
  refine ⟨by simp only [PyData.canLay0]; exact h1, ?_⟩
  simp only [PyData.depth]
  omega
theorem on_name {r : Row3} (g : GoodR r) {j : Nat} (h : j ≤ r.1.length) {s : Std} {b : Bool} {x : Str × Std} (hx : x ∈ onM r j s b) : NameZ x.1 := by
  obtain ⟨y, hy, rfl⟩ := List.mem_map.mp hx
  obtain ⟨k, to, hk, _, e, _⟩ := steps_in (List.mem_filter.mp hy).1
  have e1 : y.2.1 = (wr (lastW r j) k).1 := congrArg (fun z => z.2.1) e
  show NameZ y.2.1
  rw [e1]
  exact ((g.last h).2.1.at hk).name
section
variable {K : PySem.W.Frag} {σ : L2.St} {H : Hp} {ta tb te to tn t1 t2 : TE} {D : Ends} {g : TG} {tu : TS}
theorem q_asgTup2 (h : t1 σ H fun u H1 => t2 σ H1 fun v H2 => [u, v].length ≤ sizeLine ∧ ∀ p, H2 p = none → g (.ref p) σ (upd H2 p (.tup [u, v])) D.nx) : tAsg (tTup (tCons t1 (tCons t2 tNil))) g D σ H := h
theorem for_rng {n : Nat} (h : Ev tn σ H (.int (n : Int))) (hn : n ≤ 100000) (k : ∀ H1, Ex H H1 → tFor (iOn (Itr 0 n)) g tu D σ H1) : tFor (iRng1 (tCons tn tNil)) g tu D σ H := h H (.refl H) _ fun H1 e => ⟨(n : Int), rfl, by omega, by omega, by rw [Int.toNat_natCast]; exact k H1 e⟩
theorem q_op {R : R2} {Q : VK} (h : ta σ H fun x H1 => tb σ H1 fun y H2 => R x y H2 Q) : tOp R ta tb σ H Q := h
theorem q_ret (h : te σ H D.rt) : tRet te D σ H := h
theorem q_if {t : TT} {b : Bool} {Q : VK} (h : EvT t σ H b) (h1 : b = true → ∀ H1, Ex H H1 → ta σ H1 Q) (h2 : b = false → ∀ H1, Ex H H1 → tb σ H1 Q) : tIf t ta tb σ H Q := h H (.refl H) _ fun H1 e => by
  cases b with
  | true => exact h1 rfl H1 e
  | false => exact h2 rfl H1 e
theorem sd_appY {p : Addr} {xs : List V} (R : V → Hp → Prop) (ho : Ev to σ H (.ref p)) (hp : H p = some (.lst xs)) (hz : xs.length < 100000) (h : ∀ H1, Ex H H1 → ∀ Q : VK, (∀ v H2, R v H2 → Q v H2) → te σ H1 Q) (hk : ∀ v H2, R v H2 → H2 p = some (.lst xs) ∧ D.nx σ (upd H2 p (.lst (xs ++ [v])))) : tDrop (tBM K "list" rAppend to (tCons te tNil)) D σ H :=
  ho H (.refl H) _ fun H1 e1 => ⟨.inl ⟨rfl, xs, .of (e1 _ _ hp)⟩, h H1 e1 _ fun v H2 r => ⟨p, xs, v, rfl, rfl, (hk v H2 r).1, sz_lt hz, (hk v H2 r).2⟩⟩
end
section
variable {P : Program} {w : World} {K : PySem.W.Frag} {mg : Str → Option Value} {base : Heap}
end
end Ink
namespace Ink
open PySem PySem.Spec PyProof.Rows L2 Evl
section
variable {P : Program} {w : World} {K : PySem.W.Frag} {mg : Str → Option Value} {base : Heap}
theorem strs_map (zs : List Str) : (zs.map V.str).length = zs.length := List.length_map ..
end
end Ink
namespace Ink
open PySem PySem.Spec PyProof.Rows L2 Evl
abbrev rTupOf (K : PySem.W.Frag) : List V → Hp → VK → Prop := fun xs H Q => ∃ p ys, xs = [.ref p] ∧ ((SqL K H p ys ∧ ∀ l, H l = none → Q (.ref l) (upd H l (.tup ys))) ∨ (SqT K H p ys ∧ Q (.ref p) H))
/-! ### a company made, its dict new -/
def spInitD (P : Program) (w : World) (K : PySem.W.Frag) (C : Addr) (c : List PyData → PyData) : Sp := fun vs H Q _ => ∃ p dx v m, vs = [.ref p, v] ∧ H p = some (.ins C dx []) ∧ Dp K H v (c (m.map dW)) ∧ GoodM m ∧
  ∀ d H', H d = none → (∀ b o, H b = some o → b ≠ p → H' b = some o) → CoAtD P w K C H' p m 0 d → Q .non H'
section
variable {P : Program} {w : World} {K : PySem.W.Frag} {mg : Str → Option Value} {base : Heap}
theorem ok_initD {f C : Addr} {fd : FuncData} {k : Nat} {c : List PyData → PyData} {df : List V} (F : FunD K "__init__" "Company.__init__" (defArgs sCompanyInit) (defBody sCompanyInit) (defScope sCompanyInit) df [] f fd) (T : Txt mg) (Z : CoC K C) (hc : c = .list ∨ c = .tuple)
    (C__need_company : Cal P w K mg base k "_need_company" ["writers"] (spP K (RNeed c))) : FnOk P w K mg base CX0 (k + 1) f fd ["self", "writers"] (spInitD P w K C c) := by
  refine F.ok sc_Company___init__ (fun vs H Q E h => ?_) (fun cdv A outer s H vs Q E hr h => ?_)
  · obtain ⟨p, dx, v, m, rfl, _⟩ := h
    rfl
  · obtain ⟨p, dx, v, m, rfl, hp, hv, g, q⟩ := h
    refine ⟨_, (pss_cons (ps_expr (pe_callC C__need_company hr (by rfl) (pa_cons (pv 1) pa_nil)))
    (pss_cons (ps_fld (pv 0) (pe_callTy call_tuple_of (by rfl) T.m_tuple (by decide +kernel) (pa_cons (pv 1) pa_nil)) rfl)
    (pss_one (ps_fld (pv 0) pe_dnewN rfl)))), ?_⟩
    refine (ed_call (K := K) (d := .none) (eds_cons (ed_var rfl hv) eds_nil) ⟨m, g, rfl, rfl⟩) H (.refl H) _ fun _ H1 e1 _ => ?_
    have hv := dp_same e1 hv
    have hw : EvD K (tCB (fun xs H Q => ∃ p ys, xs = [.ref p] ∧ ((SqL K H p ys ∧ ∀ l, H l = none → Q (.ref l) (upd H l (.tup ys))) ∨ (SqT K H p ys ∧ Q (.ref p) H))) (tCons (tVar 1) tNil)) [some (.ref p), some v] H1 (dMt m) := by
      rcases hc with rfl | rfl
      · exact ed_tuple (ed_var rfl hv)
      · exact ed_tupleT (ed_var rfl hv)
    refine sd_fld hw fun u H2 e2 hu => ?_
    obtain ⟨tw, xs, rfl, htw, hxs⟩ := dp_tup hu
    have hp2 := e2 _ _ (e1 _ _ hp)
    refine ⟨.ref p, rfl, p, C, dx, [], rfl, hp2, Z.cl, Z.nW, (by show 0 < 1000; decide), ?_⟩
    intro d H3 nd hb hd
    have pd : p ≠ d := ne_of_none (upd_same (H := H2) (a := p) (o := .ins C dx (putF "_writers" (.ref tw) []))) nd
    refine ⟨.ref p, rfl, p, C, dx, _, rfl, (hb p pd).trans upd_same, Z.cl, Z.nF, (by show 1 < 1000; decide), ?_⟩
    have t3 : ∀ b o, H2 b = some o → b ≠ p → upd H3 p (.ins C dx (coF tw d)) b = some o := fun b o e nb => by
      have nbd : b ≠ d := ne_of_none (by rw [upd_ne nb]; exact e) nd
      rw [upd_ne nb, hb b nbd, upd_ne nb]
      exact e
    have tk : TupK K H2 (upd H3 p (.ins C dx (coF tw d))) := fun b xs h => by
      rcases h with (h | ⟨o, h⟩) | h
      · exact .inl (.inl (t3 _ _ h (ne_of h hp2 (by intro z; cases z))))
      · exact .inl (.inr ⟨o, t3 _ _ h (ne_of h hp2 (by intro z; cases z))⟩)
      · exact .inr h
    have nd2 : H2 d = none := by
      rw [upd_ne pd.symm] at nd
      exact nd
    refine q d _ (Same.free (e1.trans e2) nd2) (fun b o e nb => t3 b o (e2 _ _ (e1 _ _ e)) nb) ⟨dx, tw, [], upd_same, dp_tk tk (fz_dMt m) (.tup htw hxs), hd.up (upd_ne pd.symm) ?_, fun kv hk => (by cases hk), Nat.le_refl _, fun kv hk => (by cases hk)⟩
    exact TupK.upd ((hb p pd).trans upd_same) (fun _ z => by cases z) fun _ _ z => by cases z
end
end Ink
namespace Ink
open PySem PySem.Spec PyProof.Rows L2 Evl
/-! ### the program's scrolls -/
def RIsStep : List PyData → PyData → Prop := fun ds d => ∃ x, GoodStp x ∧ ds = [dSL x] ∧ d = .bool true
def RRead : List PyData → PyData → Prop := fun ds d => ∃ tr : List Stp, (∀ x ∈ tr, GoodStp x) ∧ tr.length ≤ 900 ∧ ds = [.list (tr.map dSL)] ∧ d = .list (tr.map dST)
def RNeedS : List PyData → PyData → Prop := fun ds d => ∃ (t : List Sd) (many : Int), GoodT many t ∧ ds = [.list (t.map dSd), .int many] ∧ d = .none
theorem isSign_lets : ∀ c ∈ lets, isSign (single c) = true := by decide +kernel
theorem name_ok {z : Str} (h : NameZ z) : isName z = true := by
  unfold isName
  rw [decide_eq_true (by have := h.1; omega : (1 : Int) ≤ (z.length : Nat)), decide_eq_true (by have := h.2.1; omega : ((z.length : Nat) : Int) ≤ 6), Bool.true_and, Bool.true_and, List.all_map, List.all_eq_true]
  exact fun c hc => isSign_lets c (h.2.2 c hc)
section
variable {P : Program} {w : World} {K : PySem.W.Frag} {σ : L2.St} {H : Hp} {ta te : TE} {d1 d2 d3 d4 : PyData} {x : V}
theorem q_drop {tz : TS} {D : Ends} (h : te σ H fun _ H1 => tz D σ H1) : tSeq (tDrop te) tz D σ H := h
/-- a company made, its dict new -/
theorem mk_co {C : Addr} {c : List PyData → PyData} {m : List Wr} {Q : VK} {H1 : Hp} (ha : EvD K ta σ H (c (m.map dW))) (g : GoodM m) (e : Ex H H1) (k : ∀ x d H2, H1 x = none → H1 d = none → Ex H1 H2 → CoAtD P w K C H2 x m 0 d → Q (.ref x) H2) : tMake C (spInitD P w K C c) [] E0 (tCons ta tNil) σ H1 Q :=
  ha H1 e _ fun v H2 e2 hv => by
    intro x dx nx ndx nxd
    have s0 : Same H2 (upd (upd H2 dx (.own x)) x (.ins C dx [])) := (same_new ndx).trans (same_new (by rw [upd_ne nxd.symm]; exact nx))
    exact ⟨x, dx, v, m, rfl, upd_same, dp_same s0 hv, g, fun d H3 nd k3 hc => ⟨rfl, k x d H3 (Same.free e2 nx) (Same.free e2 (Same.free s0 nd)) (e2.trans fun b o e => k3 b o (s0 b o e) (ne_of_none e nx)) hc⟩⟩
theorem tg2n {n1 n2 n3 n4 : Nat} {Q : L2.St → Hp → Prop} (hd : Dp K H x (.tuple [d1, .tuple [d2, d3, d4]])) (k : ∀ v1 v2 v3 v4, Dp K H v1 d1 → Dp K H v2 d2 → Dp K H v3 d3 → Dp K H v4 d4 → Q ((((σ.set n1 (some v1)).set n2 (some v2)).set n3 (some v3)).set n4 (some v4)) H) :
    gTup K 2 (gCons (gName n1) (gCons (gTup K 3 (gCons (gName n2) (gCons (gName n3) (gCons (gName n4) gNil)))) gNil)) x σ H Q := by
  obtain ⟨p, xs, rfl, hs, hxs⟩ := dp_tup hd
  obtain ⟨v1, v2, rfl, h1, h2⟩ := dps2 hxs
  exact ⟨p, _, rfl, hs, rfl, _, _, rfl, _, _, rfl, tg3 h2 fun u2 u3 u4 a2 a3 a4 => ⟨rfl, k v1 u2 u3 u4 h1 a2 a3 a4⟩⟩
end
section
variable {P : Program} {w : World} {K : PySem.W.Frag} {mg : Str → Option Value} {base : Heap}
theorem ok_isstep {f C : Addr} {fd : FuncData} {k : Nat} (F : Fun K "_is_step" "_is_step" sIsStep f fd) (T : Txt mg) (C_is_sign : Cal P w K mg base (k + 1) "is_sign" ["text"] spSign) (K_Company : MakC P w K mg base k "Company" C ["self", "writers"] [] (spInitD P w K C .list)) :
    FnOk P w K mg base CX0 (k + 2) f fd ["step"] (spP K RIsStep) := by
  refine F.ok sc__is_step (fun vs H Q E h => ?_) (fun cdv A outer s H vs Q E hr h => ?_)
  · obtain ⟨ds, d, hd, ⟨x, _, rfl, _⟩, _⟩ := h
    exact hd.length
  · obtain ⟨ds, d, hd, ⟨x, gx, rfl, rfl⟩, q⟩ := h
    obtain ⟨v0, rfl, h0⟩ := dps1 hd
    refine ⟨_, (pss_cons (ps_if (pt_val (pe_callB call_isi (by rfl) T.m_isinstance (by decide +kernel) (pa_cons (pv 0) (pa_cons (pe_bltn (v := .ty "str") (by rfl) T.m_str (by decide +kernel) rfl) pa_nil))))
    (pss_one (ps_ret (pe_callC C_is_sign hr (by rfl) (pa_cons (pv 0) pa_nil)))) pss_nil)
    (pss_cons (ps_try_thru0 (pss_one (ps_expr (pe_makeC K_Company hr (by rfl) (pa_cons (pv 0) pa_nil)))))
    (pss_one (ps_ret pe_bl)))), ?_⟩
    refine Evl.q_when (b := (sgOf x).isSome) (et_B (isi_sl (ed_var rfl h0) (.inl rfl))) (fun hb H1 e1 => ?_) fun hb H1 e1 => ?_
    · obtain ⟨z, rfl⟩ : ∃ z, x = .sg z := by
        cases x with
        | sg z => exact ⟨z, rfl⟩
        | cr _ => cases hb
      obtain rfl := dp_str h0
      obtain ⟨c, hc, rfl⟩ := gx.sg z rfl
      exact ⟨.str (single c), rfl, single c, rfl, by show 1 ≤ 1000; decide, fun H2 s2 => by
        rw [isSign_lets c hc]
        exact q _ H2 (e1.trans s2) (.bl true)⟩
    · obtain ⟨m, rfl⟩ : ∃ m, x = .cr m := by
        cases x with
        | sg z => cases hb
        | cr m => exact ⟨m, rfl⟩
      have h0 : Dp K H1 v0 (.list (m.map dW)) := dp_same e1 h0
      refine q_drop (mk_co (P := P) (w := w) (C := C) (K := K) (σ := [some v0]) (m := m) (c := .list) (ed_var (i := 0) rfl h0) (gx.cr m rfl) (.refl H1) ?_)
      exact fun x d H2 _ _ e2 _ => q (.bl true) H2 (e1.trans e2) (.bl true)
theorem enum_sl {f : Stp → PyData} {tr : List Stp} {i : Nat} {d : PyData} (h : (enumD (tr.map f))[i]? = some d) : ∃ x, tr[i]? = some x ∧ d = .tuple [.int (i : Int), f x] := by
  have hl : i < tr.length := by
    have := (List.getElem?_eq_some_iff.mp h).1
    rwa [enum_len, List.length_map] at this
  have e : (tr.map f)[i]? = some (f tr[i]) := by
    rw [List.getElem?_map, List.getElem?_eq_getElem hl]
    rfl
  rw [enumD_get e] at h
  exact ⟨tr[i], List.getElem?_eq_getElem hl, (Option.some.inj h).symm⟩
theorem enum_sd {t : List Sd} {i : Nat} {d : PyData} (h : (enumD (t.map dSd))[i]? = some d) : ∃ x, t[i]? = some x ∧ d = .tuple [.int (i : Int), dSd x] := by
  have hl : i < t.length := by
    have := (List.getElem?_eq_some_iff.mp h).1
    rwa [enum_len, List.length_map] at this
  have e : (t.map dSd)[i]? = some (dSd t[i]) := by
    rw [List.getElem?_map, List.getElem?_eq_getElem hl]
    rfl
  rw [enumD_get e] at h
  exact ⟨t[i], List.getElem?_eq_getElem hl, (Option.some.inj h).symm⟩
theorem fz_dST (x : Stp) : fz (dST x) = true := by
  cases x with
  | sg z => unfold dST fz; rfl
  | cr m => exact fz_dMt m
theorem ok_read {f : Addr} {fd : FuncData} {k : Nat} (F : Fun K "_read_steps" "_read_steps" sReadSteps f fd) (T : Txt mg) (C__is_step : Cal P w K mg base k "_is_step" ["step"] (spP K RIsStep)) : FnOk P w K mg base CX0 (k + 1) f fd ["steps"] (spP K RRead) := by
  refine F.ok sc__read_steps (fun vs H Q E h => ?_) (fun cdv A outer s H vs Q E hr h => ?_)
  · obtain ⟨ds, d, hd, ⟨tr, _, _, rfl, _⟩, _⟩ := h
    exact hd.length
  · obtain ⟨ds, d, hd, ⟨tr, gt, hl, rfl, rfl⟩, q⟩ := h
    obtain ⟨v0, rfl, h0⟩ := dps1 hd
    refine ⟨_, (pss_cons (ps_for PassesOwn.never rfl (pi_enum (by rfl) T.m_enumerate (pa_cons (pv 0) pa_nil)) (pg_tup rfl (pgs_cons (pg_name (i := 1) sc__read_steps.nd rfl (.inl rfl)) (pgs_cons (pg_name (i := 2) sc__read_steps.nd rfl (.inl rfl)) pgs_nil)))
    (pss_one (ps_if (pt_not (pt_val (pe_callC C__is_step hr (by rfl) (pa_cons (pv 2) pa_nil))))
    (pss_one ps_never) pss_nil)))
    (pss_one (ps_ret (pe_lc (own := [("step", 2)]) (g := (gName 2)) (by rfl) sc__read_steps.nd (pi_list (pv 0)) (blkOk_by (own := [("step", 2)]) (N := ["steps", "at", "step"]) (sc := defScope sReadSteps) (by decide +kernel)) (fun _ _ _ _ _ => (pg_name (i := 2) sc__read_steps.nd rfl (Or.inl rfl))) (fun _ _ _ _ _ => pts_nil) (fun _ _ _ _ _ => (pe_ifExp (pt_val (pe_callB (show CallR _ (.builtin "isinstance") (rIsi K) from call_isi) (by rfl) T.m_isinstance (by decide +kernel) (pa_cons (pv 2) (pa_cons (pe_bltn (v := .ty "str") (by rfl) T.m_str (by decide +kernel) rfl) pa_nil)))) (pv 2) (pe_callTy (show CallR _ (.type "tuple") (rTupOf K) from call_tuple_of) (by rfl) T.m_tuple (by decide +kernel) (pa_cons (pv 2) pa_nil)))))))), ?_⟩
    refine sd_forS (K := K) (ei_enum (ed_var rfl h0)) (fun H2 i σ' H' => (∃ y1 y2, σ' = [some v0, y1, y2]) ∧ Ex H2 H') (fun H2 e2 => ⟨⟨none, none, rfl⟩, .refl _⟩) (fun H2 i σ' H' hP => hP.2) (fun H2 i d x σ' Ha Hb e2 hd hP eab hx => ?_) (fun H2 σ' H' e2 hP => ?_)
    · obtain ⟨⟨y1, y2, rfl⟩, ex⟩ := hP
      obtain ⟨st, hst, rfl⟩ := enum_sl hd
      refine tg2 hx fun u1 u2 a1 a2 => ?_
      refine Evl.s_when (b := !true) (et_not (et_B (ev_bl (ed_call (eds_cons (ed_var rfl a2) eds_nil) ⟨st, gt st (List.mem_of_getElem? hst), rfl, rfl⟩)))) (fun hb => ?_) fun hb H3 e3 => ⟨⟨_, _, rfl⟩, ex.trans (eab.trans e3)⟩
      cases hb
    · obtain ⟨⟨y1, y2, rfl⟩, ex⟩ := hP
      have e1 := e2.trans ex
      have h0 := dp_same e1 h0
      dsimp only
      refine sd_ret (K := K) (EvN.list (ds := tr.map dST) (en_map tr dSL dST (ei_lst (ed_var rfl h0)) (by omega) (fun x _ => fz_dST x) fun i x H5 y hx e5 hdx R kk => kk _ rfl (ed_if (b := (sgOf x).isSome) (et_B (isi_sl (ed_var rfl hdx) (.inl rfl))) (fun hb => ?_) fun hb => ?_))) fun v H3 e3 hv => q v H3 (e1.trans e3) hv
      · obtain ⟨z, rfl⟩ : ∃ z, x = .sg z := by
          cases x with
          | sg z => exact ⟨z, rfl⟩
          | cr _ => cases hb
        exact ed_var rfl hdx
      · obtain ⟨m, rfl⟩ : ∃ m, x = .cr m := by
          cases x with
          | sg z => cases hb
          | cr m => exact ⟨m, rfl⟩
        exact ed_tuple (ed_var rfl hdx)
theorem ok_needsaid {f : Addr} {fd : FuncData} {k : Nat} (F : Fun K "_need_said" "_need_said" sNeedSaid f fd) (T : Txt mg) (C_is_name : Cal P w K mg base k "is_name" ["text"] spName) : FnOk P w K mg base CX0 (k + 1) f fd ["said", "many"] (spP K RNeedS) := by
  refine F.ok sc__need_said (fun vs H Q E h => ?_) (fun cdv A outer s H vs Q E hr h => ?_)
  · obtain ⟨ds, d, hd, ⟨t, m, _, rfl, _⟩, _⟩ := h
    exact hd.length
  · obtain ⟨ds, d, hd, ⟨t, m, gt, rfl, rfl⟩, q⟩ := h
    obtain ⟨v0, v1, rfl, h0, h1⟩ := dps2 hd
    obtain rfl := dp_int h1
    refine ⟨_, (pss_one (ps_for PassesOwn.never rfl (pi_enum (by rfl) T.m_enumerate (pa_cons (pv 0) pa_nil)) (pg_tup rfl (pgs_cons (pg_name (i := 2) sc__need_said.nd rfl (.inl rfl)) (pgs_cons (pg_tup rfl (pgs_cons (pg_name (i := 3) sc__need_said.nd rfl (.inl rfl)) (pgs_cons (pg_name (i := 4) sc__need_said.nd rfl (.inl rfl)) (pgs_cons (pg_name (i := 5) sc__need_said.nd rfl (.inl rfl)) pgs_nil)))) pgs_nil)))
    (pss_one (ps_if (PW.pt (pw_or (pt_not (pt_chain op_le op_lt pe_int (pv 3) (pv 1))) (pw_or1 (pt_not (pt_val (pe_callC C_is_name hr (by rfl) (pa_cons (pv 4) pa_nil)))))))
    (pss_one ps_never) pss_nil)))), ?_⟩
    refine sd_forS (K := K) (ei_enum (ed_var rfl h0)) (fun H2 i σ' H' => (∃ y1 y2 y3 y4, σ' = [some v0, some (.int m), y1, y2, y3, y4]) ∧ Ex H2 H') (fun H2 e2 => ⟨⟨none, none, none, none, rfl⟩, .refl _⟩) (fun H2 i σ' H' hP => hP.2) (fun H2 i d x σ' Ha Hb e2 hd hP eab hx => ?_) (fun H2 σ' H' e2 hP => ?_)
    · obtain ⟨⟨y1, y2, y3, y4, rfl⟩, ex⟩ := hP
      obtain ⟨⟨n, z, so⟩, hst, rfl⟩ := enum_sd hd
      obtain ⟨g0, g1, gz⟩ := gt.each _ (List.mem_of_getElem? hst)
      have hx : Dp K Hb x (.tuple [.int (i : Int), .tuple [.int n, .str z, .bool so]]) := hx
      refine tg2n hx fun u1 u2 u3 u4 a1 a2 a3 a4 => ?_
      obtain rfl := dp_int a2
      obtain rfl := dp_str a3
      refine Evl.s_when (b := (!(decide ((0 : Int) ≤ n) && decide (n < m))) || !isName z) (et_or (et_not (et_test (ev_chainI (f := fun i j => decide (i ≤ j)) (g := fun i j => decide (i < j)) ev_c (ev_var rfl) (ev_var rfl)))) fun _ => et_not (et_B (ev_call (ea_cons (ev_var rfl) ea_nil) fun H6 Q2 e6 k6 => ⟨z, rfl, Nat.le_trans (show z.length ≤ 6 from gz.2.1) (by decide), fun H7 s7 => k6 H7 s7⟩))) (fun hb => ?_) fun hb H3 e3 => ⟨⟨_, _, _, _, rfl⟩, ex.trans (eab.trans e3)⟩
      rw [decide_eq_true g0, decide_eq_true g1, name_ok gz] at hb
      cases hb
    · obtain ⟨⟨y1, y2, y3, y4, rfl⟩, ex⟩ := hP
      exact q .non H' (e2.trans ex) .non
end
end Ink
namespace Ink
open PySem PySem.Spec PyProof.Rows L2 Evl
def CoI (P : Program) (w : World) (K : PySem.W.Frag) (C : Addr) (n : Nat) (D : Addr → Addr) : Hp → Addr → List Wr → Prop := fun H c m => CoAtD P w K C H c m n (D c)
def InjD (D : Addr → Addr) (ps : Chs (List Wr)) : Prop := ∀ x ∈ ps, ∀ y ∈ x.2, ∀ x' ∈ ps, ∀ y' ∈ x'.2, D y.1 = D y'.1 → y = y'
def spChains (P : Program) (w : World) (K : PySem.W.Frag) (C : Addr) : Sp := fun vs H Q _ => ∃ (c0 d0 : Addr) (v1 : V) (m : List Wr) (tr : List Stp), vs = [.ref c0, v1] ∧ CoAtD P w K C H c0 m 0 d0 ∧ GoodM m ∧ (∀ x ∈ tr, GoodStp x) ∧ tr.length ≤ 900 ∧ Dp K H v1 (.list (tr.map dST)) ∧
  ∀ (qq : Addr) ps D H', Ex H H' → H qq = none → ChsAt (CoI P w K C 0 D) H' qq ps → crW ps = crewsOf m tr → InjD D ps → (∀ x ∈ ps, ∀ y ∈ x.2, y.1 = c0 ∨ H y.1 = none) → Q (.ref qq) H'
theorem co_surv {P : Program} {w : World} {K : PySem.W.Frag} {C : Addr} {n : Nat} {D : Addr → Addr} : Surv (CoI P w K C n D) := ⟨fun h => by
  obtain ⟨dx, tw, kvs, h1, _⟩ := h
  exact ⟨_, h1⟩, fun e h => by
  obtain ⟨xs, hx⟩ := CoAtD.ext h
  exact CoAtD.keep h (by rw [e _ _ hx, hx]) (fun o ho => e _ _ ho) (.of e), fun ha n h => by
  obtain ⟨xs, hx⟩ := CoAtD.ext h
  exact CoAtD.keep h (upd_ne fun z => by
    rw [z, ha] at hx
    exact dicO_ne.1 _ (Option.some.inj hx).symm) (fun o ho => by rw [upd_ne n]; exact ho) (.lst ha)⟩
theorem ChsAt.congr {β : Type} {I I' : Hp → Addr → β → Prop} {H : Hp} {q : Addr} {ps : Chs β} (h : ∀ x ∈ ps, ∀ y ∈ x.2, I H y.1 y.2 → I' H y.1 y.2) (c : ChsAt I H q ps) : ChsAt I' H q ps := ⟨c.hq, c.at_, fun x hx y hy => h x hx y hy (c.inn x hx y hy), c.nd, c.nq, c.off⟩
section
variable {P : Program} {w : World} {K : PySem.W.Frag} {mg : Str → Option Value} {base : Heap}
theorem ok_chains {f C : Addr} {fd : FuncData} {k : Nat} (F : Fun K "_chains" "_chains" sChains f fd) (T : Txt mg) (K_CompanyT : MakC P w K mg base k "Company" C ["self", "writers"] [] (spInitD P w K C .tuple)) :
    FnOk P w K mg base CX0 (k + 2) f fd ["company", "steps"] (spChains P w K C) := by
  refine F.ok sc__chains (fun vs H Q E h => ?_) (fun cdv A outer s H vs Q E hr h => ?_)
  · obtain ⟨c0, d0, v1, m, tr, rfl, _⟩ := h
    rfl
  · obtain ⟨c0, d0, v1, m, tr, rfl, hc0, g, gt, hl, h1, q⟩ := h
    obtain ⟨p1, us, rfl, hs1, hus⟩ := dp_lst h1
    have hul := hus.length
    rw [List.length_map] at hul
    have hr : Room (k + 1) _ := hr.mono (by omega)
    refine ⟨_, (pss_cons (ps_set (i := 2) sc__chains.nd rfl (.inl rfl) (pe_lst (pa_cons (pe_lst (pa_cons (pv 0) pa_nil)) pa_nil)))
    (pss_cons (ps_for PassesOwn.never rfl (pi_list (pv 1)) (pg_name (i := 3) sc__chains.nd rfl (.inl rfl))
    (pss_one (ps_if (pt_val (pe_callB call_isi (by rfl) T.m_isinstance (by decide +kernel) (pa_cons (pv 3) (pa_cons (pe_bltn (v := .ty "str") (by rfl) T.m_str (by decide +kernel) rfl) pa_nil))))
    (pss_one (ps_expr (pe_bm PySem.F.plainAttrs_list PySem.F.slot_list_append PySem.F.type_list_append mt_append (pv 2) (pa_cons (pe_lst (pa_cons (pe_ix ix_list (pe_ix ix_list (pv 2) (pe_un un_neg pe_int) (fun _ _ => rfl)) (pe_un un_neg pe_int) (fun _ _ => rfl)) pa_nil)) pa_nil)))) (pss_one (ps_expr (pe_bm PySem.F.plainAttrs_list PySem.F.slot_list_append PySem.F.type_list_append mt_append (pe_ix ix_list (pv 2) (pe_un un_neg pe_int) (fun _ _ => rfl)) (pa_cons (pe_makeC K_CompanyT hr (by rfl) (pa_cons (pv 3) pa_nil)) pa_nil)))))))
    (pss_one (ps_ret (pv 2))))), ?_⟩
    refine ⟨.ref c0, rfl, by show 1 ≤ sizeLine; decide, fun p np => ⟨by show 1 ≤ sizeLine; decide, fun qq nq => ?_⟩⟩
    have hc0' : CoI P w K C 0 (fun _ => d0) H c0 m := hc0
    obtain ⟨oc, hoc⟩ := co_surv.ex hc0'
    have s1 := same_new (o := HO.lst [V.ref c0]) np
    have s2 := same_new (o := HO.lst [V.ref p]) nq
    have cp : c0 ≠ p := ne_of_none hoc np
    have pq : p ≠ qq := ne_of_none (upd_same (H := H) (a := p) (o := .lst [V.ref c0])) nq
    have cq : c0 ≠ qq := ne_of_none (s1 _ _ hoc) nq
    have nq0 : H qq = none := Same.free s1 nq
    have e02 : Ex H _ := s1.trans s2
    dsimp only
    refine ⟨.ref p1, rfl, p1, rfl, ⟨us, Evl.ex_l e02 hs1⟩, for_it (walk_list (K := K) (xs := us)) (fun i σ' H' => (∃ y3, σ' = [some (.ref c0), some (.ref p1), some (.ref qq), y3]) ∧ Ex H H' ∧ ∃ ps D, ChsAt (CoI P w K C 0 D) H' qq ps ∧ crW ps = crewsOf m (tr.take i) ∧ InjD D ps ∧ (∀ x ∈ ps, H x.1 = none) ∧ ∀ x ∈ ps, ∀ y ∈ x.2, y.1 = c0 ∨ H y.1 = none)
      ⟨⟨none, rfl⟩, e02, [(p, [(c0, m)])], fun _ => d0, .one (c0, m) (co_surv.same e02 hc0') (s2 _ _ upd_same) upd_same pq cq cp.symm, rfl, fun x hx y hy x' hx' y' hy' _ => by
        rw [List.mem_singleton.mp hx] at hy
        rw [List.mem_singleton.mp hx'] at hy'
        rw [List.mem_singleton.mp hy, List.mem_singleton.mp hy'], fun x hx => by rw [List.mem_singleton.mp hx]; exact np, fun x hx y hy => by
        rw [List.mem_singleton.mp hx] at hy
        rw [List.mem_singleton.mp hy]
        exact .inl rfl⟩ (fun i σ' H' _ hP => Evl.ex_l hP.2.1 hs1) (fun i x σ' Ha Hb hi hP hy => ?_) (fun σ' H' hP => ?_)⟩
    · obtain ⟨⟨y3, rfl⟩, eH, ps, D, c, ec, inj, no1, no2⟩ := hP
      obtain ⟨rfl, hx⟩ := hy
      obtain ⟨dx, hdx, hxd⟩ := hus.at hx
      rw [List.getElem?_map, Option.map_eq_some_iff] at hdx
      obtain ⟨st, hst, rfl⟩ := hdx
      have hxd := dp_same eH hxd
      have gs : GoodStp st := gt st (List.mem_of_getElem? hst)
      have gc : GoodC (crewsOf m (tr.take i)) := GoodC.fold (good_take gt i) (.one g)
      have ile : i ≤ tr.length := by omega
      have hcl : (crewsOf m (tr.take i)).length ≤ 901 := by
        rw [crews_len]
        have := sigs_le (tr.take i)
        rw [List.length_take] at this
        omega
      obtain ⟨pre, a, p2, y, rfl⟩ := chs_last (ps := ps) (by rw [ec]; exact gc.pos) (by rw [ec]; exact gc.ne)
      have hlm : (a, p2 ++ [y]) ∈ pre ++ [(a, p2 ++ [y])] := by simp
      have hpsl : (pre ++ [(a, p2 ++ [y])]).length ≤ 901 := by
        have : (crW (pre ++ [(a, p2 ++ [y])])).length = (pre ++ [(a, p2 ++ [y])]).length := by unfold crW; rw [List.length_map]
        rw [← this, ec]
        exact hcl
      have hchl : (p2 ++ [y]).length ≤ 901 := by
        have := crews_le m (tr.take i) ((p2 ++ [y]).map (·.2)) (by rw [← ec]; exact List.mem_map.mpr ⟨_, hlm, rfl⟩)
        rw [List.length_map, List.length_take] at this
        omega
      refine s_if (b := (sgOf st).isSome) (et_B (isi_sl (ed_var rfl hxd) (.inr rfl))) (fun hb5 H5 e5 => ?_) fun hb5 H5 e5 => ?_
      · obtain ⟨z, rfl⟩ : ∃ z, st = .sg z := by
          cases st with
          | sg z => exact ⟨z, rfl⟩
          | cr _ => cases hb5
        have c6 := c.same co_surv e5
        have eH6 : Ex H H5 := eH.trans e5
        refine sd_appX (K := K) (ev_var rfl) c6.hq (by rw [List.length_map]; omega) fun H7 e7 Q2 q2 => ?_
        have c7 := c6.same co_surv e7
        have hq7 := c7.hq
        have ha7 := c7.at_ _ hlm
        rw [List.map_append, List.map_singleton] at hq7 ha7
        refine (ev_ixLastV (K := K) (ev_ixLastV (ev_var rfl) (ev_un ev_c ru_neg) hq7) (ev_un ev_c ru_neg) ha7) H7 (.refl H7) _ fun H8 e8 => ⟨by show 1 ≤ sizeLine; decide, fun p8 np8 => q2 (.ref p8) _ ?_ ?_⟩
        · exact (e8.trans (Ex.new np8)) _ _ c7.hq
        · have c8 := c7.same co_surv e8
          have c9 := c8.push co_surv (Ex.new np8) np8 hlm (show y ∈ p2 ++ [y] by simp) upd_same
          have np80 : H p8 = none := Same.free ((eH6.trans e7).trans e8) np8
          have key : ∀ {R : Addr × List Wr → Prop}, (∀ x ∈ pre ++ [(a, p2 ++ [y])], ∀ u ∈ x.2, R u) → ∀ x ∈ pre ++ [(a, p2 ++ [y])] ++ [(p8, [y])], ∀ u ∈ x.2, R u := fun h x hx u hu => by
            rcases List.mem_append.mp hx with hx | hx
            · exact h x hx u hu
            · rw [List.mem_singleton.mp hx] at hu
              rw [List.mem_singleton.mp hu]
              exact h _ hlm y (by simp)
          refine ⟨⟨_, rfl⟩, Ex.mut (((eH6.trans e7).trans e8).trans (Ex.new np8)) nq0, _, D, c9, by rw [crW_sg z, ec, crews_snoc hst], ?_, fun x hx => ?_, key no2⟩
          · exact key (R := fun u => ∀ x' ∈ pre ++ [(a, p2 ++ [y])] ++ [(p8, [y])], ∀ y' ∈ x'.2, D u.1 = D y'.1 → u = y') fun x hx u hu => key (R := fun y' => D u.1 = D y'.1 → u = y') fun x' hx' u' hu' => inj x hx u hu x' hx' u' hu'
          · rcases List.mem_append.mp hx with hx | hx
            · exact no1 x hx
            · rw [List.mem_singleton.mp hx]
              exact np80
      · obtain ⟨m2, rfl⟩ : ∃ m2, st = .cr m2 := by
          cases st with
          | sg z => cases hb5
          | cr m2 => exact ⟨m2, rfl⟩
        have c5 := c.same co_surv e5
        have hq5 := c5.hq
        rw [List.map_append, List.map_singleton] at hq5
        refine sd_appX (K := K) (p := a) (ev_ixLastV (ev_var rfl) (ev_un ev_c ru_neg) hq5) (c5.at_ _ hlm) (by rw [List.length_map]; show (p2 ++ [y]).length < 100000; omega) fun H7 e7 Q2 q2 => ?_
        have hx7 : Dp K H7 x (.tuple (m2.map dW)) := dp_same (e5.trans e7) hxd
        refine mk_co (P := P) (w := w) (C := C) (K := K) (m := m2) (c := .tuple) (ed_var rfl hx7) (gs.cr m2 rfl) (.refl H7) ?_
        intro x8 d8 H8 nx8 nd8 e8 hco
        refine q2 (.ref x8) H8 ((e7.trans e8) _ _ (c5.at_ _ hlm)) ?_
        have c7 := c5.same co_surv e7
        have old : ∀ x ∈ pre ++ [(a, p2 ++ [y])], ∀ u ∈ x.2, u.1 ≠ x8 ∧ D u.1 ≠ d8 := fun x hx u hu => by
          have h := c7.inn x hx u hu
          obtain ⟨o, ho⟩ := co_surv.ex h
          obtain ⟨xs, hxs⟩ := CoAtD.ext h
          exact ⟨ne_of_none ho nx8, ne_of_none hxs nd8⟩
        let D' : Addr → Addr := fun b => if b = x8 then d8 else D b
        have dold : ∀ x ∈ pre ++ [(a, p2 ++ [y])], ∀ u ∈ x.2, D' u.1 = D u.1 := fun x hx u hu => if_neg (old x hx u hu).1
        have dnew : D' x8 = d8 := if_pos rfl
        have c7' : ChsAt (CoI P w K C 0 D') H7 qq (pre ++ [(a, p2 ++ [y])]) := c7.congr fun x hx u hu h => by
          unfold CoI
          rw [dold x hx u hu]
          exact h
        have c9 := c7'.more co_surv (y := (x8, m2)) e8 nx8 (by unfold CoI; rw [dnew]; exact hco)
        have eH7 : Ex H H7 := (eH.trans e5).trans e7
        have na : H a = none := no1 _ hlm
        have key : ∀ {R : Addr × List Wr → Prop}, (∀ x ∈ pre ++ [(a, p2 ++ [y])], ∀ u ∈ x.2, R u) → R (x8, m2) → ∀ x ∈ pre ++ [(a, p2 ++ [y] ++ [(x8, m2)])], ∀ u ∈ x.2, R u := fun h hn x hx u hu => by
          rcases List.mem_append.mp hx with hx | hx
          · exact h x (List.mem_append_left _ hx) u hu
          · rw [List.mem_singleton.mp hx] at hu
            rcases List.mem_append.mp hu with hu | hu
            · exact h _ hlm u hu
            · rw [List.mem_singleton.mp hu]
              exact hn
        refine ⟨⟨_, rfl⟩, Ex.mut (eH7.trans e8) na, _, D', c9, by rw [crW_cr (pre := pre) (x := (a, p2 ++ [y])) (y := (x8, m2)), ec, crews_snoc hst], ?_, fun x hx => ?_, key no2 (.inr (Same.free eH7 nx8))⟩
        · refine key (R := fun u => ∀ x' ∈ pre ++ [(a, p2 ++ [y] ++ [(x8, m2)])], ∀ y' ∈ x'.2, D' u.1 = D' y'.1 → u = y') (fun x hx u hu => key (R := fun y' => D' u.1 = D' y'.1 → u = y') (fun x' hx' u' hu' h => ?_) fun h => ?_) (key (R := fun y' => D' x8 = D' y'.1 → (x8, m2) = y') (fun x' hx' u' hu' h => ?_) fun _ => rfl)
          · rw [dold x hx u hu, dold x' hx' u' hu'] at h
            exact inj x hx u hu x' hx' u' hu' h
          · rw [dold x hx u hu, dnew] at h
            exact absurd h (old x hx u hu).2
          · rw [dold x' hx' u' hu', dnew] at h
            exact absurd h.symm (old x' hx' u' hu').2
        · rcases List.mem_append.mp hx with hx | hx
          · exact no1 x (List.mem_append_left _ hx)
          · rw [List.mem_singleton.mp hx]
            exact no1 (a, p2 ++ [y]) hlm
    · obtain ⟨⟨y3, rfl⟩, eH, ps, D, c, ec, inj, no1, no2⟩ := hP
      rw [hul, List.take_of_length_le (Nat.le_refl _)] at ec
      exact ⟨.ref qq, rfl, q qq ps D H' eH nq0 c ec inj no2⟩
end
end Ink
namespace Ink
open PySem PySem.Spec PyProof.Rows L2 Evl
structure ScC (K : PySem.W.Frag) (S : Addr) : Prop where
  cl : Cls K S
  n1 : NoAttr K S "_steps"
  n2 : NoAttr K S "_signs"
  n3 : NoAttr K S "_said"
  n4 : NoAttr K S "_chains"
theorem sn12 : ¬ (("_steps" : Str) = "_signs") := by decide +kernel
theorem sn13 : ¬ (("_steps" : Str) = "_said") := by decide +kernel
theorem sn14 : ¬ (("_steps" : Str) = "_chains") := by decide +kernel
theorem sn23 : ¬ (("_signs" : Str) = "_said") := by decide +kernel
theorem sn24 : ¬ (("_signs" : Str) = "_chains") := by decide +kernel
theorem sn34 : ¬ (("_said" : Str) = "_chains") := by decide +kernel
abbrev f1 (u1 : V) : List (Str × V) := putF "_steps" u1 []
abbrev f2 (u1 u2 : V) : List (Str × V) := putF "_signs" u2 (f1 u1)
abbrev f3 (u1 u2 u3 : V) : List (Str × V) := putF "_said" u3 (f2 u1 u2)
def scF (u1 u2 u3 : V) (q : Addr) : List (Str × V) := putF "_chains" (.ref q) (f3 u1 u2 u3)
theorem f1_steps (u1 : V) : (f1 u1).lookup ("_steps" : Str) = some u1 := by rw [lookup_putF, if_pos rfl]
theorem f2_signs (u1 u2 : V) : (f2 u1 u2).lookup ("_signs" : Str) = some u2 := by rw [lookup_putF, if_pos rfl]
theorem f3_steps (u1 u2 u3 : V) : (f3 u1 u2 u3).lookup ("_steps" : Str) = some u1 := by rw [lookup_putF, if_neg sn13, lookup_putF, if_neg sn12, f1_steps]
theorem scF_signs (u1 u2 u3 : V) (q : Addr) : (scF u1 u2 u3 q).lookup ("_signs" : Str) = some u2 := by
  unfold scF
  rw [lookup_putF, if_neg sn24, lookup_putF, if_neg sn23, f2_signs]
theorem scF_said (u1 u2 u3 : V) (q : Addr) : (scF u1 u2 u3 q).lookup ("_said" : Str) = some u3 := by
  unfold scF
  rw [lookup_putF, if_neg sn34, lookup_putF, if_pos rfl]
theorem scF_chains (u1 u2 u3 : V) (q : Addr) : (scF u1 u2 u3 q).lookup ("_chains" : Str) = some (.ref q) := by
  unfold scF
  rw [lookup_putF, if_pos rfl]
theorem scF_no (u1 u2 u3 : V) (q : Addr) {m : Str} (h1 : ¬ m = "_chains") (h2 : ¬ m = "_said") (h3 : ¬ m = "_signs") (h4 : ¬ m = "_steps") : (scF u1 u2 u3 q).lookup m = none := by
  unfold scF
  rw [lookup_putF, if_neg h1, lookup_putF, if_neg h2, lookup_putF, if_neg h3, lookup_putF, if_neg h4]
  rfl
def ScAt (P : Program) (w : World) (K : PySem.W.Frag) (C S : Addr) (H : Hp) (s : Addr) (r : Row3) (n : Nat) : Prop :=
  ∃ dx u1 u2 u3 q ps D, H s = some (.ins S dx (scF u1 u2 u3 q)) ∧ Dp K H u2 (.list (r.1.map .str)) ∧ Dp K H u3 (.list (r.2.2.map dSd)) ∧ ChsAt (CoI P w K C n D) H q ps ∧ crW ps = r.2.1 ∧ InjD D ps
def spScInit (P : Program) (w : World) (K : PySem.W.Frag) (C S : Addr) : Sp := fun vs H Q _ => ∃ (s dx c0 : Addr) (v1 v2 : V) (m : List Wr) (tr : List Stp) (t : List Sd), vs = [.ref s, .ref c0, v1, v2] ∧ H s = some (.ins S dx []) ∧ CoAt P w K C H c0 m 0 ∧ GoodM m ∧ (∀ x ∈ tr, GoodStp x) ∧ tr.length ≤ 900 ∧ GoodT ((sigsOf tr).length : Nat) t ∧
  Dp K H v1 (.list (tr.map dSL)) ∧ Dp K H v2 (.list (t.map dSd)) ∧ c0 ≠ s ∧ ∀ H', KD s H H' → ScAt P w K C S H' s (sigsOf tr, crewsOf m tr, t) 0 → Q .non H'
theorem KD.refl {d : Addr} (H : Hp) : KD d H H := fun _ _ h _ => h
theorem KD.trans {d : Addr} {H H1 H2 : Hp} (a : KD d H H1) (b : KD d H1 H2) : KD d H H2 := fun c o h n => b c o (a c o h n) n
theorem KD.of {d : Addr} {H H' : Hp} (e : Ex H H') : KD d H H' := fun b o h _ => e b o h
theorem KD.at {d : Addr} {H : Hp} {o : HO} : KD d H (upd H d o) := fun b _ h n => by rw [upd_ne n]; exact h
section
variable {P : Program} {w : World} {K : PySem.W.Frag} {C : Addr} {H H' : Hp} {s S dx : Addr} {fs : List (Str × V)}
theorem ki_t (hs : H s = some (.ins S dx fs)) (k : KD s H H') : TupK K H H' := fun b xs h => by
  rcases h with (h | ⟨o, h⟩) | h
  · exact .inl (.inl (k _ _ h fun z => by rw [z, hs] at h; cases h))
  · exact .inl (.inr ⟨o, k _ _ h fun z => by rw [z, hs] at h; cases h⟩)
  · exact .inr h
theorem dp_ki {v : V} {d : PyData} (hs : H s = some (.ins S dx fs)) (k : KD s H H') (h : Dp K H v d) : Dp K H' v d := dp_up (fun b xs h => by
  rcases h with (h | ⟨o, h⟩) | h
  · exact .inl (.inl (k _ _ h fun z => by rw [z, hs] at h; cases h))
  · exact .inl (.inr ⟨o, k _ _ h fun z => by rw [z, hs] at h; cases h⟩)
  · exact .inr h) (ki_t hs k) d v h
theorem cod_ki {c d : Addr} {m : List Wr} {n : Nat} (hs : H s = some (.ins S dx fs)) (k : KD s H H') (nc : c ≠ s) (h : CoAtD P w K C H c m n d) : CoAtD P w K C H' c m n d := by
  obtain ⟨xs, hx⟩ := h.ext
  refine h.keep ?_ (fun o ho => k _ _ ho nc) (ki_t hs k)
  rw [hx]
  exact k _ _ hx fun z => by
    rw [z, hs] at hx
    unfold DicO at hx
    cases hx
theorem chs_ki {n : Nat} {D : Addr → Addr} {q : Addr} {ps : Chs (List Wr)} (hs : H s = some (.ins S dx fs)) (k : KD s H H') (nc : ∀ x ∈ ps, ∀ y ∈ x.2, y.1 ≠ s) (h : ChsAt (CoI P w K C n D) H q ps) : ChsAt (CoI P w K C n D) H' q ps :=
  have n1 : q ≠ s := fun z => by
    have e := h.hq
    rw [z, hs] at e
    cases e
  have n2 : ∀ x ∈ ps, x.1 ≠ s := fun x hx z => by
    have e := h.at_ x hx
    rw [z, hs] at e
    cases e
  ⟨k _ _ h.hq n1, fun x hx => k _ _ (h.at_ x hx) (n2 x hx), fun x hx y hy => cod_ki hs k (nc x hx y hy) (h.inn x hx y hy), h.nd, h.nq, h.off⟩
end
theorem q_fld2 {K : PySem.W.Frag} {ta t1 t2 : TE} {sp : Sp} {f : Str} {D : Ends} {σ : L2.St} {H : Hp} (h : t1 σ H fun u H1 => t2 σ H1 fun v H2 => sp [u, v] H2 (fun y H3 => ta σ H3 fun x H4 => ∃ a C dx fs, x = .ref a ∧ H4 a = some (.ins C dx fs) ∧ Cls K C ∧ NoAttr K C f ∧ fs.length < 1000 ∧ D.nx σ (upd H4 a (.ins C dx (putF f y fs)))) E0) : sFld K ta (tCall sp [] E0 (tCons t1 (tCons t2 tNil))) f D σ H := h
theorem sigs_data : ∀ tr : List Stp, (tr.filter fun x => (sgOf x).isSome).map dST = (sigsOf tr).map .str
  | [] => rfl
  | .sg z :: tr => by
    show PyData.str z :: (tr.filter fun x => (sgOf x).isSome).map dST = .str z :: (sigsOf tr).map .str
    rw [sigs_data tr]
  | .cr m :: tr => sigs_data tr
section
variable {P : Program} {w : World} {K : PySem.W.Frag} {mg : Str → Option Value} {base : Heap}
theorem ok_scinit {f C S : Addr} {fd : FuncData} {k : Nat} {df : List V} {kws : List (Str × V)} (F : FunD K "__init__" "Scroll.__init__" (defArgs sScrollInit) (defBody sScrollInit) (defScope sScrollInit) df kws f fd) (T : Txt mg) (Z : CoC K C) (Y : ScC K S)
    (C__read_steps : Cal P w K mg base (k + 1) "_read_steps" ["steps"] (spP K RRead)) (C__need_said : Cal P w K mg base (k + 1) "_need_said" ["said", "many"] (spP K RNeedS)) (C__chains : Cal P w K mg base (k + 1) "_chains" ["company", "steps"] (spChains P w K C))
    (K_Company : MakC P w K mg base k "Company" C ["self", "writers"] [] (spInitD P w K C .list)) (M_Company_writers : MetC P w K mg base k C "writers" ["self"] (spWriters P w K C)) :
    FnOk P w K mg base CX0 (k + 2) f fd ["self", "company", "steps", "said"] (spScInit P w K C S) := by
  refine F.ok sc_Scroll___init__ (fun vs H Q E h => ?_) (fun cdv A outer s H vs Q E hr h => ?_)
  · obtain ⟨s, dx, c0, v1, v2, m, tr, t, rfl, _⟩ := h
    rfl
  · obtain ⟨sc, dx, c0, v1, v2, m, tr, t, rfl, hs, hc0, g, gt, hl, gT, h1, h2, nc, q⟩ := h
    refine ⟨_, (pss_cons (ps_fld (pv 0) (pe_callC C__read_steps hr (by rfl) (pa_cons (pv 2) pa_nil)) rfl)
    (pss_cons (ps_fld (pv 0) (pe_lc (own := [("step", 4)]) (g := (gName 4)) (by rfl) sc_Scroll___init__.nd (pi_list (pe_fld (pv 0) rfl)) (blkOk_by (own := [("step", 4)]) (N := ["self", "company", "steps", "said", "step", "at", "name", "so"]) (sc := defScope sScrollInit) (by decide +kernel)) (fun _ _ _ _ _ => (pg_name (i := 4) sc_Scroll___init__.nd rfl (Or.inl rfl))) (fun _ _ _ _ _ => pts_one (pt_val (pe_callB (show CallR _ (.builtin "isinstance") (rIsi K) from call_isi) (by rfl) T.m_isinstance (by decide +kernel) (pa_cons (pv 4) (pa_cons (pe_bltn (v := .ty "str") (by rfl) T.m_str (by decide +kernel) rfl) pa_nil))))) (fun _ _ _ _ _ => (pv 4))) rfl)
    (pss_cons (ps_expr (pe_callC C__need_said hr (by rfl) (pa_cons (pv 3) (pa_cons (pe_callB call_len (by rfl) T.m_len PySem.boot_len (pa_cons (pe_fld (pv 0) rfl) pa_nil)) pa_nil))))
    (pss_cons (ps_fld (pv 0) (pe_lc (own := [("at", 5), ("name", 6), ("so", 7)]) (g := (gTup K 3 (gCons (gName 5) (gCons (gName 6) (gCons (gName 7) gNil))))) (by rfl) sc_Scroll___init__.nd (pi_list (pv 3)) (blkOk_by (own := [("at", 5), ("name", 6), ("so", 7)]) (N := ["self", "company", "steps", "said", "step", "at", "name", "so"]) (sc := defScope sScrollInit) (by decide +kernel)) (fun _ _ _ _ _ => (pg_tup rfl (pgs_cons (pg_name (i := 5) sc_Scroll___init__.nd rfl (.inl rfl)) (pgs_cons (pg_name (i := 6) sc_Scroll___init__.nd rfl (.inl rfl)) (pgs_cons (pg_name (i := 7) sc_Scroll___init__.nd rfl (.inl rfl)) pgs_nil))))) (fun _ _ _ _ _ => pts_nil) (fun _ _ _ _ _ => (pe_tup (pa_cons (pv 5) (pa_cons (pv 6) (pa_cons (pv 7) pa_nil)))))) rfl)
    (pss_one (ps_fld (pv 0) (pe_callC C__chains hr (by rfl) (pa_cons (pe_makeC K_Company hr (by rfl) (pa_cons (pe_methC0 (pv 1) M_Company_writers (hr.mono (by omega))) pa_nil)) (pa_cons (pe_fld (pv 0) rfl) pa_nil))) rfl)))))), ?_⟩
    obtain ⟨d0, hc0⟩ := hc0.d
    have sl := sigs_le tr
    have tl := gT.len
    -- steps
    refine sd_fld (K := K) (ed_call (eds_cons (ed_var rfl h1) eds_nil) ⟨tr, gt, hl, rfl, rfl⟩) fun u1 H1 e1 hu1 => ?_
    have hs1 := e1 _ _ hs
    refine ⟨.ref sc, rfl, sc, S, dx, [], rfl, hs1, Y.cl, Y.n1, (by show 0 < 1000; decide), ?_⟩
    have k2 : KD sc H1 (upd H1 sc (.ins S dx (f1 u1))) := KD.at
    have hs2 := upd_same (H := H1) (a := sc) (o := .ins S dx (f1 u1))
    have hu1 := dp_ki hs1 k2 hu1
    have h2 := dp_ki hs1 k2 (dp_same e1 h2)
    have hc0 := cod_ki hs1 k2 nc (hc0.keep (by obtain ⟨xs, hx⟩ := hc0.ext; rw [hx]; exact e1 _ _ hx) (fun o ho => e1 _ _ ho) (.of e1))
    have k02 : KD sc H (upd H1 sc (.ins S dx (f1 u1))) := (KD.of e1).trans k2
    show tSeq _ _ _ _ (upd H1 sc (.ins S dx (f1 u1)))
    generalize upd H1 sc (.ins S dx (f1 u1)) = H2 at *
    -- signs
    refine sd_fld (K := K) (d := .list ((sigsOf tr).map .str)) (ed_is (EvN.list (en_lc tr dST (fun x => (sgOf x).isSome) dST (ei_lst (ed_of (ev_fld (ev_var rfl) hs2 Y.cl Y.n1 (f1_steps u1)) hu1)) (by omega) (fun x _ => fz_dST x) fun i x H5 y hx e5 hdx R kk => kk [some (.ref sc), some (.ref c0), some v1, some v2, some y, none, none, none] rfl (et_B (isi_sl (ed_var rfl hdx) (.inr rfl))) fun _ => ed_var rfl hdx)) (by rw [sigs_data])) fun u2 H3 e3 hu2 => ?_
    have hs3 := e3 _ _ hs2
    refine ⟨.ref sc, rfl, sc, S, dx, _, rfl, hs3, Y.cl, Y.n2, (Nat.lt_of_le_of_lt (length_putF _ _ _) (by decide)), ?_⟩
    have l2 : (f2 u1 u2).length ≤ 2 := Nat.le_trans (length_putF _ _ _) (Nat.succ_le_succ (length_putF _ _ _))
    have k4 : KD sc H3 (upd H3 sc (.ins S dx (f2 u1 u2))) := KD.at
    have hs4 := upd_same (H := H3) (a := sc) (o := .ins S dx (f2 u1 u2))
    have hu1 := dp_ki hs3 k4 (dp_same e3 hu1)
    have hu2 := dp_ki hs3 k4 hu2
    have h2 := dp_ki hs3 k4 (dp_same e3 h2)
    have hc0 := cod_ki hs3 k4 nc (hc0.keep (by obtain ⟨xs, hx⟩ := hc0.ext; rw [hx]; exact e3 _ _ hx) (fun o ho => e3 _ _ ho) (.of e3))
    have k04 : KD sc H (upd H3 sc (.ins S dx (f2 u1 u2))) := (k02.trans (KD.of e3)).trans k4
    show tSeq _ _ _ _ (upd H3 sc (.ins S dx (f2 u1 u2)))
    generalize upd H3 sc (.ins S dx (f2 u1 u2)) = H4 at *
    -- the confessions are looked at
    refine q_drop ((ed_call (K := K) (d := .none) (eds_cons (ed_var (i := 3) (σ := [some (.ref sc), some (.ref c0), some v1, some v2, none, none, none, none]) rfl h2) (eds_cons (ed_int (ev_lenD (ed_of (ev_fld (ev_var (i := 0) rfl) hs4 Y.cl Y.n2 (f2_signs u1 u2)) hu2) (.inl rfl))) eds_nil)) ⟨t, ((sigsOf tr).length : Nat), gT, by rw [List.length_map], rfl⟩) H4 (.refl H4) _ fun _ H5 e5 _ => ?_)
    have hs5 := e5 _ _ hs4
    have h2 := dp_same e5 h2
    refine sd_fld (K := K) (σ := [some (.ref sc), some (.ref c0), some v1, some v2, none, none, none, none]) (d := .list (t.map dSd)) (EvN.list (en_map t dSd dSd (ei_lst (ed_var rfl h2)) (by omega) (fun x _ => fz_dSd x) fun i x H6 y hx e6 hdx R kk => tg3 hdx fun w1 w2 w3 b1 b2 b3 => kk _ rfl (ed_tup (eds_cons (ed_var rfl b1) (eds_cons (ed_var rfl b2) (eds_cons (ed_var rfl b3) eds_nil))) (by show 3 ≤ 100000; decide)))) fun u3 H6 e6 hu3 => ?_
    have e56 := e5.trans e6
    have hs6 := e56 _ _ hs4
    refine ⟨.ref sc, rfl, sc, S, dx, _, rfl, hs6, Y.cl, Y.n3, (by show (f2 u1 u2).length < 1000; omega), ?_⟩
    have l3 : (f3 u1 u2 u3).length ≤ 3 := Nat.le_trans (length_putF _ _ _) (Nat.succ_le_succ l2)
    have k7 : KD sc H6 (upd H6 sc (.ins S dx (f3 u1 u2 u3))) := KD.at
    have hs7 := upd_same (H := H6) (a := sc) (o := .ins S dx (f3 u1 u2 u3))
    have hu1 := dp_ki hs6 k7 (dp_same e56 hu1)
    have hu2 := dp_ki hs6 k7 (dp_same e56 hu2)
    have hu3 := dp_ki hs6 k7 hu3
    have hc0 := cod_ki hs6 k7 nc (hc0.keep (by obtain ⟨xs, hx⟩ := hc0.ext; rw [hx]; exact e56 _ _ hx) (fun o ho => e56 _ _ ho) (.of e56))
    have k07 : KD sc H (upd H6 sc (.ins S dx (f3 u1 u2 u3))) := (k04.trans (KD.of e56)).trans k7
    generalize upd H6 sc (.ins S dx (f3 u1 u2 u3)) = H7 at *
    have hco : CoAt P w K C H7 c0 m 0 := hc0.co
    dsimp only
    refine q_fld2 (mk_co (P := P) (w := w) (C := C) (K := K) (σ := [some (.ref sc), some (.ref c0), some v1, some v2, none, none, none, none]) (m := m) (c := .list) (en_writers (ev_var (i := 1) rfl) hco).list g (.refl H7) ?_)
    intro x8 d8 H8 nx8 nd8 e8 hco8
    have hs8 := e8 _ _ hs7
    have hu1 := dp_same e8 hu1
    have hu2 := dp_same e8 hu2
    have hu3 := dp_same e8 hu3
    refine ⟨.ref sc, rfl, sc, S, dx, _, _, rfl, hs8, Y.cl, Y.n1, f3_steps u1 u2 u3, x8, d8, u1, m, tr, rfl, hco8, g, gt, hl, hu1, fun qq ps D H9 e9 nq hch hcr inj fr => ?_⟩
    have hs9 := e9 _ _ hs8
    refine ⟨.ref sc, rfl, sc, S, dx, _, rfl, hs9, Y.cl, Y.n4, (by show (f3 u1 u2 u3).length < 1000; omega), ?_⟩
    have k9 : KD sc H9 (upd H9 sc (.ins S dx (scF u1 u2 u3 qq))) := KD.at
    have nps : ∀ x ∈ ps, ∀ y ∈ x.2, y.1 ≠ sc := fun x hx y hy => by
      rcases fr x hx y hy with h | h
      · rw [h]
        exact (ne_of_none hs7 nx8).symm
      · exact (ne_of_none hs8 h).symm
    exact q _ ((k07.trans (KD.of (e8.trans e9))).trans k9) ⟨dx, u1, u2, u3, qq, ps, D, upd_same, dp_ki hs9 k9 (dp_same e9 hu2), dp_ki hs9 k9 (dp_same e9 hu3), chs_ki hs9 k9 nps hch, hcr, inj⟩
end
end Ink
namespace Ink
open PySem PySem.Spec PyProof.Rows L2 Evl
/-- a scroll, its parts told -/
structure ScE (P : Program) (w : World) (K : PySem.W.Frag) (C S : Addr) (H : Hp) (s : Addr) (r : Row3) (n : Nat) (dx : Addr) (u1 u2 u3 : V) (q : Addr) (ps : Chs (List Wr)) (D : Addr → Addr) : Prop where
  hs : H s = some (.ins S dx (scF u1 u2 u3 q))
  d2 : Dp K H u2 (.list (r.1.map .str))
  d3 : Dp K H u3 (.list (r.2.2.map dSd))
  ch : ChsAt (CoI P w K C n D) H q ps
  cr : crW ps = r.2.1
  inj : InjD D ps
theorem ScAt.e {P : Program} {w : World} {K : PySem.W.Frag} {C S : Addr} {H : Hp} {s : Addr} {r : Row3} {n : Nat} (h : ScAt P w K C S H s r n) : ∃ dx u1 u2 u3 q ps D, ScE P w K C S H s r n dx u1 u2 u3 q ps D := by
  obtain ⟨dx, u1, u2, u3, q, ps, D, h1, h2, h3, h4, h5, h6⟩ := h
  exact ⟨dx, u1, u2, u3, q, ps, D, h1, h2, h3, h4, h5, h6⟩
section
variable {P : Program} {w : World} {K : PySem.W.Frag} {C S : Addr} {H H' : Hp} {s : Addr} {r : Row3} {n : Nat} {dx : Addr} {u1 u2 u3 : V} {q : Addr} {ps : Chs (List Wr)} {D : Addr → Addr}
theorem ScE.at (h : ScE P w K C S H s r n dx u1 u2 u3 q ps D) : ScAt P w K C S H s r n := ⟨dx, u1, u2, u3, q, ps, D, h.hs, h.d2, h.d3, h.ch, h.cr, h.inj⟩
theorem ScE.same (e : Ex H H') (h : ScE P w K C S H s r n dx u1 u2 u3 q ps D) : ScE P w K C S H' s r n dx u1 u2 u3 q ps D := ⟨e _ _ h.hs, dp_same e h.d2, dp_same e h.d3, h.ch.same co_surv e, h.cr, h.inj⟩
theorem ScAt.same (e : Ex H H') (h : ScAt P w K C S H s r n) : ScAt P w K C S H' s r n := by
  obtain ⟨dx, u1, u2, u3, q, ps, D, h⟩ := h.e
  exact (h.same e).at
theorem ScE.chain (h : ScE P w K C S H s r n dx u1 u2 u3 q ps D) (g : GoodR r) {j : Nat} (hj : j ≤ r.1.length) : ∃ x p2 y, ps[j]? = some x ∧ x ∈ ps ∧ x.2 = p2 ++ [y] ∧ x.2.map (·.2) = chAt r j ∧ y.2 = lastW r j := by
  have e := (g.ch hj).1
  rw [← h.cr] at e
  unfold crW at e
  rw [List.getElem?_map, Option.map_eq_some_iff] at e
  obtain ⟨x, hx, ex⟩ := e
  have hne : x.2 ≠ [] := fun z => (g.ch hj).2.1 (by rw [← ex, z]; rfl)
  obtain ⟨p2, y, e2⟩ : ∃ p2 y, x.2 = p2 ++ [y] := ⟨_, _, (List.dropLast_concat_getLast hne).symm⟩
  refine ⟨x, p2, y, hx, List.mem_of_getElem? hx, e2, ex, ?_⟩
  rw [lastW_is, ← ex, e2, List.map_append, List.map_singleton, lastD_app]
theorem kx_kd {xs : DX} {d : Addr} (hd : H d = some (DicO P w d xs)) (k : KD d H H') : KX H H' := fun b o hb no => k b o hb fun z => by
  rw [z, hd] at hb
  exact no _ (Option.some.inj hb).symm
theorem ScE.step (h : ScE P w K C S H s r n dx u1 u2 u3 q ps D) {x : Addr × List (Addr × List Wr)} {y : Addr × List Wr} (hx : x ∈ ps) (hy : y ∈ x.2) (k : KD (D y.1) H H') (hc : CoAtD P w K C H' y.1 y.2 (n + 1) (D y.1)) : ScE P w K C S H' s r (n + 1) dx u1 u2 u3 q ps D := by
  obtain ⟨xs, hd⟩ := CoAtD.ext (h.ch.inn x hx y hy)
  have kx := kx_kd hd k
  refine ⟨kx _ _ h.hs (fun _ z => by cases z), kx.dp h.d2, kx.dp h.d3, ⟨kx.lst h.ch.hq, fun a ha => kx.lst (h.ch.at_ a ha), fun a ha b hb => ?_, h.ch.nd, h.ch.nq, h.ch.off⟩, h.cr, h.inj⟩
  have hb0 := h.ch.inn a ha b hb
  by_cases e : D b.1 = D y.1
  · have := h.inj a ha b hb x hx y hy e
    rw [this]
    exact hc
  · obtain ⟨ys, hb1⟩ := CoAtD.ext hb0
    have h2 := CoAtD.keep (H' := H') hb0 (by rw [hb1]; exact k _ _ hb1 e) (fun o ho => by
      obtain ⟨dxb, tw, kvs, hcb, _⟩ := id hb0
      rw [hcb] at ho
      rw [← ho]
      exact kx _ _ hcb (fun _ z => by cases z)) kx.t
    obtain ⟨dxb, tw, kvs, g1, g2, g3, g4, g5, g6⟩ := h2
    exact ⟨dxb, tw, kvs, g1, g2, g3, g4, by omega, g6⟩
theorem ScAt.cap (h : ScAt P w K C S H s r n) : ScAt P w K C S H s r 20000 := by
  obtain ⟨dx, u1, u2, u3, q, ps, D, h1, h2, h3, h4, h5, h6⟩ := h
  exact ⟨dx, u1, u2, u3, q, ps, D, h1, h2, h3, h4.congr fun x _ y _ z => CoAtD.cap z, h5, h6⟩
end
/-- a scroll's parts: where they stand -/
structure Parts where
  dx : Addr
  u1 : V
  u2 : V
  u3 : V
  q : Addr
  ps : Chs (List Wr)
  D : Addr → Addr
def ScZ (P : Program) (w : World) (K : PySem.W.Frag) (C S : Addr) (H : Hp) (s : Addr) (r : Row3) (n : Nat) (z : Parts) : Prop := ScE P w K C S H s r n z.dx z.u1 z.u2 z.u3 z.q z.ps z.D
theorem ScAt.z {P : Program} {w : World} {K : PySem.W.Frag} {C S : Addr} {H : Hp} {s : Addr} {r : Row3} {n : Nat} (h : ScAt P w K C S H s r n) : ∃ z, ScZ P w K C S H s r n z := by
  obtain ⟨dx, u1, u2, u3, q, ps, D, h⟩ := h.e
  exact ⟨⟨dx, u1, u2, u3, q, ps, D⟩, h⟩
/-- all but what the scroll's companies keep stays -/
def KP (z : Parts) (H H' : Hp) : Prop := ∀ b o, H b = some o → (∀ x ∈ z.ps, ∀ y ∈ x.2, b ≠ z.D y.1) → H' b = some o
theorem KP.refl {z : Parts} (H : Hp) : KP z H H := fun _ _ h _ => h
theorem KP.trans {z : Parts} {H H1 H2 : Hp} (a : KP z H H1) (b : KP z H1 H2) : KP z H H2 := fun c o h n => b c o (a c o h n) n
theorem KP.of {z : Parts} {H H' : Hp} (e : Ex H H') : KP z H H' := fun b o h _ => e b o h
section
variable {P : Program} {w : World} {K : PySem.W.Frag} {C S : Addr} {H H' : Hp} {s : Addr} {r : Row3} {n : Nat} {z : Parts}
theorem ScZ.at (h : ScZ P w K C S H s r n z) : ScAt P w K C S H s r n := ScE.at h
theorem ScZ.same (e : Ex H H') (h : ScZ P w K C S H s r n z) : ScZ P w K C S H' s r n z := ScE.same e h
theorem ScZ.cap (h : ScZ P w K C S H s r n z) : ScZ P w K C S H s r 20000 z := ⟨h.hs, h.d2, h.d3, h.ch.congr fun x _ y _ i => CoAtD.cap i, h.cr, h.inj⟩
theorem ScZ.dic (h : ScZ P w K C S H s r n z) {x : Addr × List (Addr × List Wr)} {y : Addr × List Wr} (hx : x ∈ z.ps) (hy : y ∈ x.2) : ∃ xs, H (z.D y.1) = some (DicO P w (z.D y.1) xs) := CoAtD.ext (h.ch.inn x hx y hy)
theorem KP.kx (h : ScZ P w K C S H s r n z) (k : KP z H H') : KX H H' := fun b o hb no => k b o hb fun x hx y hy e => by
  obtain ⟨xs, hd⟩ := h.dic hx hy
  rw [e, hd] at hb
  exact no _ (Option.some.inj hb).symm
/-- what was not there changes: the scroll stands -/
theorem ScZ.mut2 {n' : Nat} {b : Addr} {H2 : Hp} (h : ScZ P w K C S H s r n z) (k : KP z H H') (h' : ScZ P w K C S H' s r n' z) (nb : H b = none) (only : ∀ c, c ≠ b → H2 c = H' c) (tk : TupK K H' H2) : ScZ P w K C S H2 s r n' z := by
  have off : ∀ {c u}, H c = some u → H2 c = H' c := fun {c u} hc => only c (ne_of_none hc nb)
  have k2 : KP z H H2 := fun c u hc nd => by
    rw [off hc]
    exact k c u hc nd
  have kx := KP.kx h k2
  refine ⟨kx _ _ h.hs (fun _ z => by cases z), kx.dp h.d2, kx.dp h.d3, ⟨kx.lst h.ch.hq, fun x hx => kx.lst (h.ch.at_ x hx), fun x hx y hy => ?_, h'.ch.nd, h'.ch.nq, h'.ch.off⟩, h'.cr, h'.inj⟩
  have hc := h'.ch.inn x hx y hy
  obtain ⟨xs', hd⟩ := h.dic hx hy
  obtain ⟨dxc, tw, kvs, hcc, _⟩ := id (h.ch.inn x hx y hy)
  exact CoAtD.keep hc (off hd) (fun u hu => by rw [off hcc]; exact hu) tk
theorem ScZ.mut {n' : Nat} {b : Addr} {o : HO} {xs : List V} (h : ScZ P w K C S H s r n z) (k : KP z H H') (h' : ScZ P w K C S H' s r n' z) (nb : H b = none) (hb : H' b = some (.lst xs)) : ScZ P w K C S (upd H' b o) s r n' z := h.mut2 k h' nb (fun c hc => upd_ne hc) (.lst hb)
end
def spScCo (P : Program) (w : World) (K : PySem.W.Frag) (C S : Addr) : Sp := fun vs H Q _ => ∃ (s : Addr) (r : Row3) (n : Nat) (dx : Addr) (u1 u2 u3 : V) (q : Addr) (ps : Chs (List Wr)) (D : Addr → Addr) (j : Nat), vs = [.ref s, .int (j : Int)] ∧ ScE P w K C S H s r n dx u1 u2 u3 q ps D ∧ GoodR r ∧ j ≤ r.1.length ∧
  ∀ x p2 y H', ps[j]? = some x → x ∈ ps → x.2 = p2 ++ [y] → y.2 = lastW r j → Ex H H' → Q (.ref y.1) H'
def spLets (P : Program) (w : World) (K : PySem.W.Frag) (C S : Addr) : Sp := fun vs H Q _ => ∃ (s : Addr) (r : Row3) (n : Nat) (j : Nat) (z : Str), vs = [.ref s, .int (j : Int), .str z] ∧ ScAt P w K C S H s r n ∧ GoodR r ∧ j < r.1.length ∧ ∀ H', Ex H H' → Q (.bl (letsM r.2.2 j z)) H'
def spTurnedS (P : Program) (w : World) (K : PySem.W.Frag) (C S : Addr) : Sp := fun vs H Q _ => ∃ (s : Addr) (r : Row3) (n : Nat) (j : Nat) (v : V) (st : Std), vs = [.ref s, .int (j : Int), v] ∧ ScAt P w K C S H s r n ∧ GoodR r ∧ j ≤ r.1.length ∧ Fits (atC (chAt r j) 0) st ∧ Dp K H v (dS st) ∧ ∀ u H', Ex H H' → Dp K H' u (dS (turnS (chAt r j) st)) → Q u H'
def spOnZ (P : Program) (w : World) (K : PySem.W.Frag) (C S : Addr) : Sp := fun vs H Q _ => ∃ (s : Addr) (r : Row3) (n : Nat) (z : Parts) (j : Nat) (v : V) (st : Std), vs = [.ref s, .int (j : Int), v] ∧ ScZ P w K C S H s r n z ∧ n < 80000 ∧ GoodR r ∧ j < r.1.length ∧ Okay (lastW r j) st ∧ Tiny st ∧ Dp K H v (dS st) ∧
  ∀ p us H', H p = none → KP z H H' → ScZ P w K C S H' s r (n + 1) z → H' p = some (.lst us) → DpAll K H' us ((onM r j st true).map dGo) → Q (.ref p) H'
def spOnS (P : Program) (w : World) (K : PySem.W.Frag) (C S : Addr) : Sp := fun vs H Q _ => ∃ (s : Addr) (r : Row3) (n : Nat) (j : Nat) (v : V) (st : Std), vs = [.ref s, .int (j : Int), v] ∧ ScAt P w K C S H s r n ∧ n < 80000 ∧ GoodR r ∧ j < r.1.length ∧ Okay (lastW r j) st ∧ Tiny st ∧ Dp K H v (dS st) ∧
  ∀ p us H', H p = none → KX H H' → ScAt P w K C S H' s r (n + 1) → H' p = some (.lst us) → DpAll K H' us ((onM r j st true).map dGo) → Q (.ref p) H'
def spLenS (P : Program) (w : World) (K : PySem.W.Frag) (C S : Addr) : Sp := fun vs H Q _ => ∃ (s : Addr) (r : Row3) (n : Nat), vs = [.ref s] ∧ ScAt P w K C S H s r n ∧ ∀ H', Ex H H' → Q (.int (r.1.length : Nat)) H'
section
variable {P : Program} {w : World} {K : PySem.W.Frag} {mg : Str → Option Value} {base : Heap}
theorem ok_sclets {f C S : Addr} {fd : FuncData} {k : Nat} (F : Fun K "lets" "Scroll.lets" sScrollLets f fd) (T : Txt mg) (Y : ScC K S) : FnOk P w K mg base CX0 (k + 1) f fd ["self", "at", "name"] (spLets P w K C S) := by
  refine F.ok sc_Scroll_lets (fun vs H Q E h => ?_) (fun cdv A outer s H vs Q E hr h => ?_)
  · obtain ⟨s, r, n, j, z, rfl, _⟩ := h
    rfl
  · obtain ⟨s, r, n, j, z, rfl, hS, g, hj, q⟩ := h
    obtain ⟨dx, u1, u2, u3, qq, ps, D, h⟩ := hS.e
    have g3 := g.n3
    refine ⟨_, (pss_cons (ps_if (pt_not (pt_chain op_le op_lt pe_int (pv 1) (pe_callB call_len (by rfl) T.m_len PySem.boot_len (pa_cons (pe_fld (pv 0) rfl) pa_nil))))
    (pss_one ps_never) pss_nil)
    (pss_one (ps_ret (pe_callB (cr_all rfl) (by rfl) T.m_all (by decide +kernel) (pa_cons (pe_lc (own := [("number", 3), ("who", 4), ("so", 5)]) (g := (gTup K 3 (gCons (gName 3) (gCons (gName 4) (gCons (gName 5) gNil))))) (by rfl) sc_Scroll_lets.nd (pi_list (pe_fld (pv 0) rfl)) (blkOk_by (own := [("number", 3), ("who", 4), ("so", 5)]) (N := ["self", "at", "name", "number", "who", "so"]) (sc := defScope sScrollLets) (by decide +kernel)) (fun _ _ _ _ _ => (pg_tup rfl (pgs_cons (pg_name (i := 3) sc_Scroll_lets.nd rfl (.inl rfl)) (pgs_cons (pg_name (i := 4) sc_Scroll_lets.nd rfl (.inl rfl)) (pgs_cons (pg_name (i := 5) sc_Scroll_lets.nd rfl (.inl rfl)) pgs_nil))))) (fun _ _ _ _ _ => pts_one (pt_cmpR op_eq (pv 3) (pv 1) (nomark _))) (fun _ _ _ _ _ => (pe_cmpR op_eq (pv 5) (pe_cmpR op_eq (pv 2) (pv 4) (nomark _)) (nomark _)))) pa_nil))))), ?_⟩
    refine Evl.q_when (b := !(decide ((0 : Int) ≤ (j : Int)) && decide ((j : Int) < ((r.1.length : Nat) : Int)))) (et_not (et_test (ev_chainI (f := fun i j => decide (i ≤ j)) (g := fun i j => decide (i < j)) ev_c (ev_var rfl) (ev_is (ev_lenD (K := K) (ed_of (ev_fld (ev_var rfl) h.hs Y.cl Y.n2 (scF_signs _ _ _ _)) h.d2) (.inl rfl)) (by rw [List.length_map]))))) (fun hb => ?_) fun hb H1 e1 => ?_
    · rw [decide_eq_true (by omega : (0 : Int) ≤ (j : Int)), decide_eq_true (by omega : (j : Int) < ((r.1.length : Nat) : Int))] at hb
      cases hb
    · have h := h.same e1
      refine (ev_allD (K := K) (bs := (r.2.2.filter fun x : Sd => decide (V.int x.1 = V.int (j : Int))).map fun x : Sd => decide (V.bl x.2.2 = V.bl (decide (V.str z = V.str x.2.1)))) (EvN.list (ds := _) (σ := [some (.ref s), some (.int (j : Int)), some (.str z), none, none, none]) ?_)) H1 (.refl H1) _ fun H2 e2 => q H2 (e1.trans e2)
      rw [List.map_map]
      refine en_lc r.2.2 dSd (fun x => decide (V.int x.1 = V.int (j : Int))) _ (ei_lst (ed_of (ev_fld (ev_var (i := 0) rfl) h.hs Y.cl Y.n3 (scF_said _ _ _ _)) h.d3)) (by omega) (fun x _ => by show fz (PyData.bool _) = true; unfold fz; rfl) fun i x H5 y hx e5 hdx R kk => tg3 hdx fun w1 w2 w3 b1 b2 b3 => ?_
      obtain rfl := dp_int b1
      obtain rfl := dp_str b2
      obtain rfl := dp_bl b3
      exact kk _ rfl (et_test (ev_op (ev_var rfl) (ev_var rfl) (rv_eq rfl))) fun _ => ed_bl (ev_op (ev_var rfl) (ev_op (ev_var rfl) (ev_var rfl) (rv_eq rfl)) (rv_eq rfl))
end
end Ink
namespace Ink
open PySem PySem.Spec PyProof.Rows L2 Evl
theorem nm_1 : ¬ (("company" : Str) = "_chains") ∧ ¬ (("company" : Str) = "_said") ∧ ¬ (("company" : Str) = "_signs") ∧ ¬ (("company" : Str) = "_steps") := by decide +kernel
theorem nm_2 : ¬ (("lets" : Str) = "_chains") ∧ ¬ (("lets" : Str) = "_said") ∧ ¬ (("lets" : Str) = "_signs") ∧ ¬ (("lets" : Str) = "_steps") := by decide +kernel
theorem nm_3 : ¬ (("turned" : Str) = "_chains") ∧ ¬ (("turned" : Str) = "_said") ∧ ¬ (("turned" : Str) = "_signs") ∧ ¬ (("turned" : Str) = "_steps") := by decide +kernel
theorem nm_4 : ¬ (("onward" : Str) = "_chains") ∧ ¬ (("onward" : Str) = "_said") ∧ ¬ (("onward" : Str) = "_signs") ∧ ¬ (("onward" : Str) = "_steps") := by decide +kernel
theorem nco_1 : ¬ (("steps" : Str) = "_found") ∧ ¬ (("steps" : Str) = "_writers") ∧ ¬ (("begin" : Str) = "_found") ∧ ¬ (("begin" : Str) = "_writers") := by decide +kernel
section
variable {P : Program} {w : World} {K : PySem.W.Frag} {mg : Str → Option Value} {base : Heap}
theorem on_at {f : Addr} {fd : FuncData} {C S : Addr} {k : Nat} (F : FnOk P w K mg base CX0 k f fd ["self", "at", "stand"] (spOnZ P w K C S)) : FnOk P w K mg base CX0 k f fd ["self", "at", "stand"] (spOnS P w K C S) :=
  F.imp fun vs H Q E h => by
    obtain ⟨s, r, n, j, v, st, e, hS, hn, g, hj, ok, ty, hv, q⟩ := h
    obtain ⟨z, hz⟩ := hS.z
    exact ⟨s, r, n, z, j, v, st, e, hz, hn, g, hj, ok, ty, hv, fun p us H' np k h' hp hu => q p us H' np (KP.kx hz k) h'.at hp hu⟩
end
end Ink
namespace Ink
open PySem PySem.Spec PyProof.Rows L2 Evl
/-! ### len of an own object; a class called with keywords -/
def LenC (P : Program) (w : World) (K : PySem.W.Frag) (mg : Str → Option Value) (base : Heap) (k : Nat) (C : Addr) (sp : Sp) : Prop :=
  ∃ f fd, FnOk P w K mg base CX0 k f fd ["self"] sp ∧ PySem.W.findIn K (.ref C) "__len__" = some (some (.ref f)) ∧ PySem.W.isFn K (.ref f) = true ∧ Binds K fd ["self"] []
def rLenO (C : Addr) (sp : Sp) : List V → Hp → VK → Prop := fun xs H Q => ∃ (a dx : Addr) (fs : List (Str × V)) (n : Int), xs = [.ref a] ∧ H a = some (.ins C dx fs) ∧ 0 ≤ n ∧ n < 2 ^ 63 ∧ sp [.ref a] H (fun v H' => v = .int n ∧ Q (.int n) H') E0
section
variable {X : Cx} {k : Nat} {C : Addr} {sp : Sp} {p pos : Pos} {e : Expr} {te : TE}
theorem call_lenO (c : LenC X.prog X.w X.K X.mg X.base k C sp) (hr : Room (k + 1) X.A) : CallR X (.builtin "len") (rLenO C sp) := by
  obtain ⟨f, fd, F, hs, hf, hb⟩ := c
  intro pins s σ H xs us Q I r h
  obtain ⟨a, dx, fs, n, rfl, ha, n0, n1, hsp⟩ := h
  cases r with
  | cons r0 rt =>
    cases rt
    cases r0
    obtain ⟨mA, J, _⟩ := ins_get I.hok ha
    obtain ⟨od, J, _⟩ := J.look
    obtain ⟨m, hF⟩ := I.fr
    refine PySem.W.len_K hF I.ok.mod.kin J hs hf ?_
    have r2 : Vals [V.ref a] [Value.ref a] := .cons rfl .nil
    refine wpAny_call (codeAny_mono (F.run X.A.in1 X.stack s H ⟨[.ref a], []⟩ [.ref a] [.ref a] _ E0 hr.in1 I.env0.in1 (by
      have := hb s [.ref a] I.kIn (by rfl)
      simpa using this) r2 hsp) fun r s' hq => ?_)
    cases r with
    | error e => exact pass0 pins σ H s e s' I hq
    | ok fl =>
      cases fl with
      | ret w =>
        obtain ⟨z, H', I', rz, ez, ex⟩ := I.after hq
        subst ez
        obtain ⟨t, rfl⟩ := rz
        exact ⟨⟨n0, n1⟩, .int n, H', I'.tok _, ⟨_, rfl⟩, ex⟩
      | next => exact False.elim hq
      | brk => exact False.elim hq
      | cont => exact False.elim hq
theorem pe_lenO (c : LenC X.prog X.w X.K X.mg X.base k C sp) (hr : Room (k + 1) X.A) (hg : Gl X "len") (hm : X.mg "len" = none) (he : PE X e te) (hs : starEach [e] X.env = (false, eval e X.env) :: starEach [] X.env := by rfl) (hpl : (backTo pos (starEach [] X.env)).any (·.1) = false := by rfl) :
    PE X (.Call (.Name "len" p) [e] [] pos) (tCB (rLenO C sp) (tCons te tNil)) := pe_callB (call_lenO c hr) hg hm PySem.boot_len (pa_cons he pa_nil (hs := hs)) (by decide) (by decide) hs hpl
end
def MakKC (P : Program) (w : World) (K : PySem.W.Frag) (mg : Str → Option Value) (base : Heap) (k : Nat) (x : Str) (C : Addr) (ps : List Str) (n : Nat) (ks : List Str) (sp : Sp) : Prop :=
  ∃ f fd g, FnOk P w K mg base CX0 k f fd ps sp ∧ Mk K C f ∧ mg x = some (.ref C) ∧ KBn K fd ps (n + 1) ks g (fun vs zs => vs ++ zs)
theorem pe_makeKC {X : Cx} {k n : Nat} {C : Addr} {ps ks : List Str} {sp : Sp} {x : Str} {p pos : Pos} {e : Expr} {es : List Expr} {kws : List Keyword} {t tk : TA} (c : MakKC X.prog X.w X.K X.mg X.base k x C ps n ks sp) (hr : Room (k + 1) X.A) (hg : Gl X x) (ha : PA X (e :: es) t) (hkw : PK X kws tk)
    (hall : (backToKw pos (keywordEach kws X.env)).all (·.1.isSome) = true := by rfl) (hks : (backToKw pos (keywordEach kws X.env)).filterMap (·.1) = ks := by rfl) (hdb : (x == ("__debug__" : Str)) = false := by decide)
    (he : starEach (e :: es) X.env = (false, eval e X.env) :: starEach es X.env := by rfl) (hpl : ((backTo pos (starEach (e :: es) X.env)).any (·.1) || (backToKw pos (keywordEach kws X.env)).any (·.1.isNone)) = false := by rfl) :
    PE X (.Call (.Name x p) (e :: es) kws pos) (tMakeK C n ks.length sp (fun vs zs => vs ++ zs) E0 t tk) := by
  obtain ⟨f, fd, g, F, M, hm, hb⟩ := c
  exact pe_makeK M F hr hg hm hb pass0 ha hkw hall hks hdb he hpl
theorem q_makeK {C : Addr} {sp : Sp} {t1 t2 t3 : TE} {σ : L2.St} {H : Hp} {Q : VK} (h : t1 σ H fun u H1 => t2 σ H1 fun v H2 => t3 σ H2 fun z H3 => [u].length = 1 ∧ [v, z].length = 2 ∧ ∀ x dx, H3 x = none → H3 dx = none → dx ≠ x → sp [.ref x, u, v, z] (upd (upd H3 dx (.own x)) x (.ins C dx [])) (fun v H4 => v = .non ∧ Q (.ref x) H4) E0) :
    tMakeK C 1 2 sp (fun vs zs => vs ++ zs) E0 (tCons t1 tNil) (tCons t2 (tCons t3 tNil)) σ H Q := h
def spMade (P : Program) (w : World) (K : PySem.W.Frag) (C S : Addr) : Sp := fun vs H Q _ => ∃ (v : V) (m : List Wr) (tr : List Stp) (t : List Sd), vs = [v] ∧ GoodDr m tr t ∧ Dp K H v (dDr m tr t) ∧ ∀ s H', Ex H H' → ScAt P w K C S H' s (sigsOf tr, crewsOf m tr, t) 0 → Q (.ref s) H'
def goalD (gs : List (Str × Std)) (z : Str) : PyData := match gs.filter (fun x => decide (V.str x.1 = V.str z)) with | [] => .none | x :: _ => dS x.2
theorem goalD_cons (wh : Str) (th : Std) (gs : List (Str × Std)) (z : Str) : goalD ((wh, th) :: gs) z = if decide (V.str wh = V.str z) = true then dS th else goalD gs z := by
  unfold goalD
  rw [List.filter_cons]
  by_cases h : decide (V.str wh = V.str z) = true
  · rw [if_pos h, if_pos h]
  · rw [if_neg h, if_neg h]
def RGoal : List PyData → PyData → Prop := fun ds d => ∃ (gs : List (Str × Std)) (z : Str), ds = [.list (gs.map dGo), .str z] ∧ d = goalD gs z
def spBeg (P : Program) (w : World) (K : PySem.W.Frag) (C S : Addr) : Sp := fun vs H Q _ => ∃ (s : Addr) (r : Row3) (n : Nat), vs = [.ref s] ∧ ScAt P w K C S H s r n ∧ GoodR r ∧ ∀ v H', Ex H H' → Dp K H' v (dS (firstS r)) → Q v H'
def spTel (P : Program) (w : World) (K : PySem.W.Frag) (C S : Addr) : Sp := fun vs H Q _ => ∃ (s : Addr) (r : Row3) (n : Nat) (v : V) (row : List Str), vs = [.ref s, v] ∧ ScAt P w K C S H s r n ∧ GoodR r ∧ n ≤ 50000 ∧ row.length ≤ 1000 ∧ (Dp K H v (.list (row.map .str)) ∨ Dp K H v (.tuple (row.map .str))) ∧ ∀ H' n', KX H H' → n' ≤ n + row.length → ScAt P w K C S H' s r n' → Q (.bl (telM r row)) H'
section
variable {P : Program} {w : World} {K : PySem.W.Frag} {mg : Str → Option Value} {base : Heap}
theorem ok_made {f C S : Addr} {fd : FuncData} {k : Nat} (F : Fun K "_law_made" "_law_made" sLMade f fd) (T : Txt mg) (K_Company : MakC P w K mg base k "Company" C ["self", "writers"] [] (spInitD P w K C .list)) (K_Scroll : MakKC P w K mg base k "Scroll" S ["self", "company", "steps", "said"] 1 ["steps", "said"] (spScInit P w K C S)) :
    FnOk P w K mg base CX0 (k + 2) f fd ["_law_drawn"] (spMade P w K C S) := by
  refine F.ok sc__law_made (fun vs H Q E h => ?_) (fun cdv A outer s H vs Q E hr h => ?_)
  · obtain ⟨v, m, tr, t, rfl, _⟩ := h
    rfl
  · obtain ⟨v, m, tr, t, rfl, g, hv, q⟩ := h
    have hv : Dp K H v (.tuple [.list (m.map dW), .list (tr.map dSL), .list (t.map dSd), dRow (sigsOf tr, crewsOf m tr, t)]) := hv
    refine ⟨_, (pss_one (ps_ret (pe_makeKC K_Scroll hr (by rfl) (pa_cons (pe_makeC K_Company hr (by rfl) (pa_cons (pe_ix ix_tup (pv 0) pe_int (fun _ _ => rfl)) pa_nil)) pa_nil) (pk_cons (pe_callTy call_list_of (by rfl) T.m_list (by decide +kernel) (pa_cons (pe_ix ix_tup (pv 0) pe_int (fun _ _ => rfl)) pa_nil)) (pk_cons (pe_callTy call_list_of (by rfl) T.m_list (by decide +kernel) (pa_cons (pe_ix ix_tup (pv 0) pe_int (fun _ _ => rfl)) pa_nil)) pk_nil))))), ?_⟩
    refine q_ret (q_makeK (mk_co (P := P) (w := w) (C := C) (K := K) (σ := [some v]) (m := m) (c := .list) (ed_ixT (ed_var (i := 0) rfl hv) ev_c (by decide) rfl) g.g (.refl H) ?_))
    intro x d H1 nx nd e1 hco
    refine (en_list (K := K) (σ := [some v]) (ds := tr.map dSL) (ed_ixT (ed_var (i := 0) rfl (dp_same e1 hv)) ev_c (by decide) rfl) (.inl rfl)) H1 (.refl H1) _ fun b1 ws1 H2 nb1 e2 hb1 hws1 => ?_
    refine (en_list (K := K) (σ := [some v]) (ds := t.map dSd) (ed_ixT (ed_var (i := 0) rfl (dp_same (e1.trans e2) hv)) ev_c (by decide) rfl) (.inl rfl)) H2 (.refl H2) _ fun b2 ws2 H3 nb2 e3 hb2 hws2 => ⟨rfl, rfl, fun s dx ns ndx nsd => ?_⟩
    have s0 : Same H3 (upd (upd H3 dx (.own s)) s (.ins S dx [])) := (same_new ndx).trans (same_new (by rw [upd_ne nsd.symm]; exact ns))
    have hc3 : CoAt P w K C H3 x m 0 := hco.co.fr (.of (e2.trans e3))
    obtain ⟨dxc, twc, dc, kvc, hxc, _⟩ := id hc3
    exact ⟨s, dx, x, .ref b1, .ref b2, m, tr, t, rfl, upd_same, hc3.fr (.of s0), g.g, g.st, by have := g.len; omega, g.t, dp_same s0 (.lst (.of (e3 _ _ hb1)) (dps_same e3 hws1)), dp_same s0 (.lst (.of hb2) hws2), ne_of_none hxc ns, fun H4 kd hS => ⟨rfl, q s H4 (fun b o e => kd b o (s0 b o (((e1.trans e2).trans e3) b o e)) (ne_of_none (((e1.trans e2).trans e3) b o e) ns)) hS⟩⟩
end
end Ink
namespace Ink
open PySem PySem.Spec PyProof.Rows L2 Evl
section
variable {K : PySem.W.Frag} {σ : L2.St} {H : Hp} {ta tb : TE}
/-- two that read as the same data are alike -/
theorem ev_like1 {n : Nat} {d : PyData} (ha : EvD K ta σ H d) (hb : EvD K tb σ H d) (h : okD n d) : Ev (tCall (spLike K n) [] E0 (tCons ta (tCons tb tNil))) σ H (.bl true) := fun H1 e Q q =>
  ha H1 e _ fun v H2 e2 hv => hb H2 (e.trans e2) _ fun u H3 e3 hu => ⟨v, u, rfl, lk_dp n d v u h (dp_same e3 hv) hu, fun H4 s4 => q H4 ((e2.trans e3).trans s4)⟩
end
theorem okD_two (b : Bool) : okD 5 (.list [.bool b, .bool b]) := ⟨by show 2 ≤ 100000; decide, fun d hd => by
  simp only [List.mem_cons, List.not_mem_nil, or_false] at hd
  rcases hd with rfl | rfl <;> trivial⟩
end Ink
namespace Ink
open PySem PySem.Spec PyProof.Rows L2 Evl
theorem ref_ne {H : Hp} {a l p : Addr} {xs : List Addr} (b : BagAt H a l) (h : H p = some (.lst (xs.map V.ref))) : p ≠ a := fun z => by
  obtain ⟨ns, q, t, s, e, _⟩ := b
  rw [z, e] at h
  injection h with h
  injection h with h
  cases xs with
  | nil => cases h
  | cons x xs =>
    cases xs with
    | nil => cases h
    | cons y xs =>
      injection h with _ h
      injection h with h _
      cases h
theorem ScAt.keep {P : Program} {w : World} {K : PySem.W.Frag} {C S : Addr} {H H' : Hp} {a l s : Addr} {r : Row3} {n : Nat} (B : BagAt H a l) (k : Keep a H H') (h : ScAt P w K C S H s r n) : ScAt P w K C S H' s r n := by
  obtain ⟨dx, u1, u2, u3, q, ps, D, h⟩ := h.e
  obtain ⟨ns, bq, bt, bs, ea, _⟩ := id B
  have hq := h.ch.hq
  refine ⟨dx, u1, u2, u3, q, ps, D, k _ _ (fun z => by have := h.hs; rw [z, ea] at this; cases this) h.hs, dp_nb B k _ _ (nb_strs r.1) h.d2, dp_nb B k _ _ (nb_sds r.2.2) h.d3, ⟨k _ _ (ref_ne (xs := ps.map (·.1)) B (by rw [List.map_map]; exact hq)) hq, fun x hx => ?_, fun x hx y hy => ?_, h.ch.nd, h.ch.nq, h.ch.off⟩, h.cr, h.inj⟩
  · have hx1 := h.ch.at_ x hx
    exact k _ _ (ref_ne (xs := x.2.map (·.1)) B (by rw [List.map_map]; exact hx1)) hx1
  · have hc := h.ch.inn x hx y hy
    obtain ⟨xs, hd⟩ := CoAtD.ext hc
    refine CoAtD.keep hc ?_ (fun o ho => k _ _ (fun z => ?_) ho) (.keep B k)
    · rw [hd]
      exact k _ _ (fun z => by
        rw [z, ea] at hd
        exact dicO_ne.1 _ (Option.some.inj hd).symm) hd
    · obtain ⟨dxc, tw, kvs, hcc, _⟩ := id hc
      rw [z, ea] at hcc
      cases hcc
theorem nobody_is : NameZ (Str.ofString "nobody") := by
  unfold NameZ
  decide +kernel
end Ink
namespace Ink
open PySem PySem.Spec PyProof.Rows L2 Evl
section
variable {P : Program} {w : World} {K : PySem.W.Frag} {C S : Addr} {H H' : Hp} {s : Addr} {r : Row3} {n : Nat} {σ : L2.St} {to tj tz : TE}
/-- scroll.lets(at, name) of a sign of it -/
theorem ev_letsM {j : Nat} {z : Str} (ho : Ev to σ H (.ref s)) (hj : Ev tj σ H (.int (j : Int))) (hz : Ev tz σ H (.str z)) (hS : ScAt P w K C S H s r n) (g : GoodR r) (hl : j < r.1.length) :
    Ev (tMeth S "lets" (spLets P w K C S) [] E0 to (tCons tj (tCons tz tNil))) σ H (.bl (letsM r.2.2 j z)) := fun H1 e Q q => ho H1 e _ fun H2 e2 => by
  have e12 := e.trans e2
  obtain ⟨dx, u1, u2, u3, qq, ps, D, h⟩ := (hS.same e12).e
  exact ⟨s, dx, _, rfl, h.hs, scF_no _ _ _ _ nm_2.1 nm_2.2.1 nm_2.2.2.1 nm_2.2.2.2, hj H2 e12 _ fun H3 e3 => hz H3 (e12.trans e3) _ fun H4 e4 => ⟨s, r, n, j, z, rfl, hS.same ((e12.trans e3).trans e4), g, hl, fun H5 e5 => q H5 (((e2.trans e3).trans e4).trans e5)⟩⟩
end
end Ink
namespace Ink
open PySem PySem.Spec PyProof.Rows L2
/-! ### how long a number's text is -/
def dig (n : Int) : Str := Str.ofString (toString n)
def figs (m : Nat) : List Nat := (Nat.toDigits 10 m).map Char.toNat
theorem figs_pos (m : Nat) : figs m ≠ [] := fun e => by
  have h := toDigits_len_ge 10 m
  rw [List.map_eq_nil_iff.mp e] at h
  exact absurd h (by decide)
theorem figs_all (m : Nat) : PySem.NumText.AllDigits (figs m) := fun c hc => by
  obtain ⟨ch, hch, e⟩ := List.mem_map.mp hc
  rw [← e]
  exact digit_range (Nat.isDigit_of_mem_toDigits (by decide) (by decide) hch)
theorem figs_len {m : Nat} (h : m < 10 ^ 30) : (figs m).length ≤ 30 := by
  unfold figs
  rw [List.length_map]
  exact digits10_le (by decide) h
theorem num_tl (n : Int) : TL.tl (dig n) = if n < 0 then 45 :: figs n.natAbs else figs n.natAbs := by
  unfold dig figs
  rw [TL.tl_ofString]
  cases n with
  | ofNat m =>
    rw [if_neg (by have : (0 : Int) ≤ Int.ofNat m := Int.natCast_nonneg m; omega)]
    show (Nat.repr m).toList.map Char.toNat = _
    rw [Nat.toList_repr]
    rfl
  | negSucc m =>
    rw [if_pos (Int.negSucc_lt_zero m)]
    show ("-" ++ Nat.repr (m + 1)).toList.map Char.toNat = _
    rw [String.toList_append, List.map_append, Nat.toList_repr]
    rfl
theorem num_len {n : Int} (h : n.natAbs < 10 ^ 30) : (dig n).length ≤ 31 := by
  have e := num_tl n
  have hl := figs_len h
  rw [TL.len_tl, e]
  split
  · rw [List.length_cons]
    omega
  · omega
theorem num_log {n : Int} (h : n.natAbs < 10 ^ 30) : n.natAbs.log2 < 1920 := by
  by_cases h0 : n.natAbs = 0
  · rw [h0]
    decide
  · refine (Nat.log2_lt h0).mpr (Nat.lt_trans h (by decide +kernel))
end Ink
namespace L2N
open PySem PySem.Spec PyProof.Rows L2
/-! ### except (A, B, C) as n: of what the body raises each is one of them -/
theorem traced_push {h base : Heap} {e : Addr} {Z : Obj → Prop} {fl : Value} {o : Obj} (t : HandSPX.TracedZ h base e Z fl) : HandSPX.TracedZ (h.push o) base e Z fl := by
  obtain ⟨oe, vs, T, oT, ts, he, hz, hd, h1, hn, hne, hT, hdT, h3⟩ := t
  exact ⟨oe, vs, T, oT, ts, Heap.get?_push_of_some _ he, hz, hd, h1, hn, hne, Heap.get?_push_of_some _ hT, hdT, h3⟩
theorem flying_push {base h : Heap} {l : List Env} {e : Addr} {Z : Obj → Prop} {o : Obj} (x : HandSPX.FlyingZ base l e Z h) : HandSPX.FlyingZ base l e Z (h.push o) := by
  obtain ⟨f1, f2, f3, f4⟩ := x
  exact ⟨fun b u e => Heap.get?_push_of_some _ (f1 b u e), f2, f3.of_keeps fun b u e _ => ⟨u, Heap.get?_push_of_some _ e, rfl⟩, traced_push f4⟩
/-- what such a clause wishes of the body's exceptions -/
def wAs3 (K : PySem.W.Frag) (c1 c2 c3 : Value) (i : Nat) (ts : Addr → Value → Option Addr → TS) (D : Ends) : WX := fun cls d σ H =>
  PySem.W.exmAny K cls [c1, c2, c3] = some true ∧ ∀ a, H a = none → ts a cls d { nx := fun σ' H' => D.nx (σ'.set i none) H', rt := D.rt, bk := fun σ' H' => D.bk (σ'.set i none) H', ct := fun σ' H' => D.ct (σ'.set i none) H' } (σ.set i (some (.ref a))) H
section
variable {X : Cx} {x1 x2 x3 n : Str} {c1 c2 c3 : Value} {i j : Nat} {body suite : List Stmt} {b₀ : Stmt} {p1 p2 p3 tp pos pos' : Pos} {tb : WX → TS} {ts : Addr → Value → Option Addr → TS}
theorem name_at {pins : List (Addr × Obj)} {σ : L2.St} {H : Hp} {s : Shared} {x : Str} {c : Value} {p : Pos} {Q : Value → Shared → Prop} {E : Value → Shared → Prop} (I : Inv X pins σ H s) (hc : Names X x c) (q : Q c s) : wpAny (model X.prog X.w) X.A (eval (.Name x p) X.env) Q E s := by
  obtain ⟨hg, hdb, hm | ⟨hm, hv, hn⟩⟩ := hc
  · exact ld_glob I hg hm q hdb
  · exact ld_blt I hg hm hv q hn hdb
theorem ps_try_as3 (hs : X.stack = X.env :: X.outer) (hf : X.env.frame = some X.env.locals) (hN : X.N.Nodup) (hi : X.N[i]? = some n) (hln : X.env.kindOf n = some .local) (h1 : Names X x1 c1) (h2 : Names X x2 c2) (h3 : Names X x3 c3)
    (hb : ∀ (W : WX) (pn : List (Addr × Obj)) (xe : Value → Shared → Prop), Takes (X.tr pn xe) W → PassesOwn (model X.prog X.w) X.A X.env xe → PSs (X.tr pn xe) body (tb W))
    (hsu : ∀ (a : Addr) (oe : Obj) (cls : Value) (d : Option Addr) (pn : List (Addr × Obj)), Zn cls d oe → (∃ vs, oe.data = .fields vs) → PSs (X.suite a ((a, oe) :: pn)) (b₀ :: suite) (ts a cls d)) :
    PS X (.Try body [.ExceptHandler (some (.Tuple [.Name x1 p1, .Name x2 p2, .Name x3 p3] j tp)) (some n) (b₀ :: suite) pos'] [] [] pos) (fun D σ H => tb (wAs3 X.K c1 c2 c3 i ts D) D σ H) := by
  refine ⟨fun pins s σ H D I h => ?_⟩
  have ok := I.ok
  have hfr : X.A.frames = some (X.env :: X.outer) := by rw [ok.frames, hs]
  refine wpAny_Try_except ?_
  refine wpAny_mono ((hb (wAs3 X.K c1 c2 c3 i ts D) (X.pn ++ pins) (fun e s₁ => wpAny (model X.prog X.w) X.A (noteFrame e X.env) (fun _ s₂ => wpAny (model X.prog X.w) X.A (setFlight e none) (fun _ s₃ =>
    wpAny (model X.prog X.w) X.A (handleBy e X.env [.ExceptHandler (some (.Tuple [.Name x1 p1, .Name x2 p2, .Name x3 p3] j tp)) (some n) (b₀ :: suite) pos']) (SP X pins D) X.xe s₃) X.xe s₂) X.xe s₁) (fun u s' xx => ?_) PassesOwn.looking).run [] s σ H D (I.toTry _) h) (fun f s1 hsp => ?_) (fun e s1 he => he)
  · obtain ⟨a, B, sI, pins', σ', H', cls, d, rfl, J', nb, up, sky, na, os, ag, hx, yes⟩ := xx
    have J : Inv X pins σ' H' sI := J'.ofTry ok
    have sky' : Sky B (X.env :: X.outer) a (Zn cls d) X.env.locals s'.heap := by rw [← hs]; exact sky
    show wpAny (model X.prog X.w) X.A (noteFrame (.ref a) X.env) _ _ _
    refine Sky.land Zn.steady hfr hf sky' fun hA flA upA => ?_
    -- where the exception lies, in a heap where it has landed
    have at_ : ∀ {hh : Heap}, HandSPX.FlyingZ B (X.env :: X.outer) a (Zn cls d) hh → s'.heap.UpToSlots hh → ∃ oe, hh.get? a = some oe ∧ Zn cls d oe ∧ (∃ vs, oe.data = .fields vs) ∧ Inv (X.suite a ((a, oe) :: (X.pn ++ pins))) [] σ' H' { s' with heap := hh } := fun {hh} fl uu => by
      have Jh : Inv X pins σ' H' { s' with heap := hh } := J.landed nb fl.1 (up.trans uu) os ag
      obtain ⟨oe, vs, he, hz, hd⟩ := fl.there
      have nfr : a ∉ frs (X.env :: X.outer) := fun hm => by
        obtain ⟨_, o', e', hnf⟩ := fl.2.2.1.mem hm
        rw [he] at e'
        cases e'
        exact hnf _ hd
      exact ⟨oe, he, hz, ⟨vs, hd⟩, Jh.suite he hd na (fun z => nfr (List.mem_filterMap.mpr ⟨X.env, List.mem_cons_self, by rw [hf, z]⟩)) fun hm => by
        obtain ⟨e, he', q⟩ := List.mem_filterMap.mp hm
        exact nfr (List.mem_filterMap.mpr ⟨e, List.mem_cons_of_mem _ he', q⟩)⟩
    obtain ⟨oA, eA, zA, dA, SA⟩ := at_ flA upA
    have SA' : Inv (X.suite a ((a, oA) :: (X.pn ++ pins))) [] σ' H' { s' with heap := hA } := SA
    refine wpAny_handleBy_cons (codeAny_handlers_test ?_) (by intro q; cases q)
    refine wpAny_Tuple (wpAny_items_cons (name_at (X := X.suite a ((a, oA) :: (X.pn ++ pins))) SA h1 (wpAny_items_cons (name_at (X := X.suite a ((a, oA) :: (X.pn ++ pins))) SA h2 (wpAny_items_cons (name_at (X := X.suite a ((a, oA) :: (X.pn ++ pins))) SA h3 ?_))))))
    refine wpAny_pure ⟨by show 3 ≤ sizeLine; decide, ?_⟩
    have flT := flying_push (o := { cls := .type "tuple", data := .seq [c1, c2, c3].toArray }) flA
    have upT : s'.heap.UpToSlots (hA.push { cls := .type "tuple", data := .seq [c1, c2, c3].toArray }) := upA.trans (.of_keeps fun b o e => Heap.get?_push_of_some _ e)
    obtain ⟨oT, eT, zT, dT, ST⟩ := at_ flT upT
    have LT : PySem.W.Looks (model X.prog X.w) (hA.push { cls := .type "tuple", data := .seq [c1, c2, c3].toArray }) (typeOf (.ref a)) cls := fun A Q E s k q => wpAny_typeOf_ref (k _ _ eT) (by rw [zT.1]; exact q)
    have LM := PySem.W.exm_tup3 (M := model X.prog X.w) ST.kIn LT (tp := hA.objs.size) (by heap_get) hx
    refine LM.here ?_
    refine codeAny_handlers_suite_as ?_
    refine HandSPX.lands_againZ flT fun h4 fl4 up4 => ?_
    obtain ⟨o4, e4, z4, d4, S4⟩ := at_ fl4 (upT.trans up4)
    refine store_ok (X := X.suite a ((a, o4) :: (X.pn ++ pins))) (v := .ref a) S4 hN hi (.inl hln) rfl (fun s5 S5 => ?_) (.inr hln)
    refine wpAny_mono ((hsu a o4 cls d (X.pn ++ pins) z4 d4).run [] s5 _ H' _ S5 (yes a na)) (fun f s6 hsp => ?_) (fun _ _ z => False.elim z)
    have end_ : ∀ {σ6 : L2.St} {H6 : Hp} {Q : Shared → Prop}, Inv (X.suite a ((a, o4) :: (X.pn ++ pins))) [] σ6 H6 s6 → (∀ s7, Inv X pins (σ6.set i none) H6 s7 → Q s7) →
        wpAny (model X.prog X.w) X.A (do bindName X.env n .none; unbindBehindTheSuite X.env n pos') (fun _ s7 => Q s7) X.xe s6 := fun S6 hq => gone_ok (S6.unsuite ok) hN hi hln hq
    cases f with
    | ret u =>
      obtain ⟨v6, σ6, H6, S6, r6, q6⟩ := hsp
      exact end_ S6 fun s7 J7 => ⟨_, _, _, J7, r6, q6⟩
    | next =>
      obtain ⟨σ6, H6, S6, q6⟩ := hsp
      exact end_ S6 fun s7 J7 => ⟨_, _, J7, q6⟩
    | brk =>
      obtain ⟨σ6, H6, S6, q6⟩ := hsp
      exact end_ S6 fun s7 J7 => ⟨_, _, J7, q6⟩
    | cont =>
      obtain ⟨σ6, H6, S6, q6⟩ := hsp
      exact end_ S6 fun s7 J7 => ⟨_, _, J7, q6⟩
  · cases f with
    | ret u =>
      obtain ⟨v, σ', H', J', r, q⟩ := hsp
      exact ⟨v, σ', H', J'.ofTry ok, r, q⟩
    | next =>
      obtain ⟨σ', H', J', q⟩ := hsp
      exact wpAny_execs_nil ⟨σ', H', J'.ofTry ok, q⟩
    | brk =>
      obtain ⟨σ', H', J', q⟩ := hsp
      exact ⟨σ', H', J'.ofTry ok, q⟩
    | cont =>
      obtain ⟨σ', H', J', q⟩ := hsp
      exact ⟨σ', H', J'.ofTry ok, q⟩
end
end L2N
namespace HotX
open PySem PySem.Spec PyProof.Rows
section
variable {prog : Program} {w : World} {A : Around} {E : Value → Shared → Prop} {s : Shared}
/-- a tuple's iterator at its end, while an exception is handled -/
theorem next_tuple_end_hot {it t x1 : Addr} {i : Nat} {items : Array Value} {Q : Option Value → Shared → Prop} (hot : HotAt A x1 s.heap) (hne : x1 ≠ it)
    (hit : IsTupIter s.heap it t i) (ht : IsTup s.heap t items) (hx : items[i]? = none)
    (hQ : ∀ h', Heap.ExtBut it s.heap h' → Q none { s with heap := h' }) : wpAny (model prog w) A (pyNext (.ref it)) Q E s := by
  obtain ⟨o, ho, hc, hd⟩ := id hit
  obtain ⟨ol, hol, _, nl, hdl⟩ := ht
  obtain ⟨hh, o1, vs1, h1, d1, c1⟩ := hot
  unfold pyNext
  refine wpAny_bind (wpAny_attempt (wpAny_callSpecial?_slot (name := Str.ofString "__next__") hit.typeIs slot_tupleiter_next
    (wpAny_call_entry slot_tupleiter_next hit.typeIs entry_tupleiter_next ?_ (args_tupleiter_next _))))
  show wpAny _ _ (field (.ref it) 0 >>= _) _ _ s
  refine wpAny_bind (wpAny_field ho hd (x := .ref t) rfl ?_)
  show wpAny _ _ (if (Value.ref t == Value.none) = true then _ else _) _ _ s
  rw [if_neg (show ¬ ((Value.ref t == Value.none) = true) from Bool.false_ne_true)]
  show wpAny _ _ (field (.ref it) 1 >>= _) _ _ s
  refine wpAny_bind (wpAny_field ho hd (x := .int i 0) rfl ?_)
  show wpAny _ _ (seqItems? (.ref t) >>= _) _ _ s
  refine wpAny_bind (wpAny_seqItems hol hdl ?_)
  simp only [Int.toNat_natCast, hx]
  refine wpAny_bind (wpAny_rule (wpAny_bind (wpAny_setField ho hd (by simp) ?_)))
  show wpAny _ _ (newExc (.type "StopIteration") [] >>= _) _ _ _
  refine wpAny_bind ?_
  simp only [newExc, newTuple]
  refine wpAny_bind (wpAny_newObj_type ?_ (by size_fits))
  refine wpAny_bind (m := firstArgMember _ _) (wpAny_of_eq (a := Value.none) (by first | rfl | (simp only [firstArgMember]; rfl)) ?_)
  refine wpAny_newObj_type ?_ (by size_fits)
  have h1' : (s.heap.update it (Obj.mapFields (·.setIfInBounds 0 Value.none))).get? x1 = some o1 := (Heap.get?_update_other s.heap _ (Ne.symm hne)).trans h1
  refine raiseNew_hot (x1 := x1) ⟨hh, o1, vs1, Heap.get?_push_of_some _ (Heap.get?_push_of_some _ h1'), d1, c1⟩ (Nat.ne_of_lt (Heap.lt_size (Heap.get?_push_of_some _ h1'))) (Heap.get?_push_size _ rfl) rfl (by show 2 < 6; decide) ?_
  refine wpAny_bind (wpAny_isInstance (T := "StopIteration") (b := true) ⟨_, Heap.get?_update_self _ (Heap.get?_push_size _ rfl) rfl, rfl⟩ isSubtype_stop ?_)
  refine wpAny_pure (hQ _ fun b u hb e => ?_)
  have e' := (Heap.get?_update_other s.heap (a := it) (Obj.mapFields (·.setIfInBounds 0 Value.none)) (Ne.symm hb)).trans e
  have e2 := Heap.get?_push_of_some ({ cls := .type "tuple", data := .seq #[] } : Obj) e'
  rw [Heap.get?_update_other _ _ (Nat.ne_of_gt (Heap.lt_size e2))]
  exact Heap.get?_push_of_some _ e2
/-- a tuple's things, all of them, while an exception is handled -/
theorem unpackItems_hot {t x1 : Addr} {items : Array Value} {Q : List Value → Shared → Prop} (hot : HotAt A x1 s.heap) (ht : IsTup s.heap t items)
    (hQ : ∀ h', Heap.ExtBut s.heap.objs.size s.heap h' → Q items.toList { s with heap := h' }) : wpAny (model prog w) A (unpackItems (.ref t) items.size none) Q E s := by
  have hlt : t ≠ s.heap.objs.size := by
    obtain ⟨o, ho, _⟩ := ht
    exact Nat.ne_of_lt (Heap.lt_size ho)
  have h1x : x1 ≠ s.heap.objs.size := by
    obtain ⟨_, o1, _, h1, _⟩ := hot
    exact Nat.ne_of_lt (Heap.lt_size h1)
  unfold unpackItems notIterableAtAll
  refine wpAny_bind (wpAny_bind (wpAny_specialOf ht.typeIs slot_tuple_iter.lookup (wpAny_pure ?_)))
  simp only [Bool.false_eq_true, if_false]
  refine wpAny_bind (wpAny_holding (iter_tuple ht ?_))
  refine wpAny_bind (wpAny_holding (draw_tuple hlt items.size 0 _ _ ⟨_, Heap.get?_push_size _ rfl, rfl, rfl⟩ (ht.push _) (by omega) fun h₁ hit₁ hs₁ => ?_))
  rw [show List.take items.size (List.drop 0 items.toList) = items.toList by rw [List.drop_zero]; exact List.take_of_length_le (by simp), if_neg (by simp)]
  have hot₁ : HotAt A x1 h₁ := by
    obtain ⟨hh, o1, vs1, e1, d1, c1⟩ := hot
    exact ⟨hh, o1, vs1, hs₁.extBut x1 o1 h1x (Heap.get?_push_of_some _ e1), d1, c1⟩
  refine wpAny_bind (wpAny_holding (next_tuple_end_hot hot₁ h1x hit₁ ((ht.push _).extBut hs₁.extBut hlt) (by simp) fun h₂ he₂ => ?_))
  simp only [Option.isSome_none, Bool.false_eq_true, if_false]
  exact wpAny_pure (hQ h₂ fun b o hb e => he₂ b o hb (hs₁.extBut b o hb (Heap.get?_push_of_some _ e)))
end
end HotX
namespace L2H
open PySem PySem.Spec PyProof.Rows L2 HotX
theorem vals_two {v w : V} {us : List Value} (r : Vals [v, w] us) : ∃ u1 u2, us = [u1, u2] ∧ RelV v u1 ∧ RelV w u2 := by
  cases r with
  | cons p q =>
    cases q with
    | cons p' q' =>
      cases q'
      exact ⟨_, _, rfl, p, p'⟩
section
variable {X : Cx}
/-- a, b = x, y within an except suite -/
theorem ps_parH {i j : Nat} {x y : Str} {a b : Expr} {ta : TA} {px py pt pos : Pos} {kt k2 pt2} (hc : HotC X) (hN : X.N.Nodup) (hi : X.N[i]? = some x) (hj : X.N[j]? = some y) (hij : i ≠ j)
    (hx : X.env.scope.names.lookup x = some .local) (hy : X.env.scope.names.lookup y = some .local) (ha : PA X [a, b] ta)
    (hw : swappedStores [.Tuple [.Name x px, .Name y py] kt pt] (.Tuple [a, b] k2 pt2) X.env = pure (some [x, y]))
    (hs : swapsWithSole [.Tuple [.Name x px, .Name y py] kt pt] (.Tuple [a, b] k2 pt2) pos.line X.env = pure false := by rfl) :
    PS X (.Assign [.Tuple [.Name x px, .Name y py] kt pt] (.Tuple [a, b] k2 pt2) pos) (tPar i j ta) := by
  refine ⟨fun pins s σ H D I h => ?_⟩
  rw [exec_Assign_arm]
  refine wpAny_bind (wpAny_standAt ?_)
  rw [hs]
  refine wpAny_bind (wpAny_pure ?_)
  rw [if_neg (by decide)]
  refine wpAny_bind (Tuple_ (thn (ha.run _ pins s σ H _ I h) fun us s1 ⟨vs, H1, I1, r1, q1⟩ => ?_))
  obtain ⟨v, w, e1, q1⟩ := q1
  subst e1
  obtain ⟨u1, u2, rfl, rv, rw'⟩ := vals_two r1
  refine wpAny_newObj_type ?_ (by show 2 ≤ sizeLine; decide)
  have I2 : Inv X pins σ H1 { s1 with heap := s1.heap.push { cls := .type "tuple", data := .seq [u1, u2].toArray } } := I1.kept (t' := s1.toks) fun b o e => Heap.get?_push_of_some _ e
  obtain ⟨x1, hot⟩ := hc.at I2
  rw [hw]
  refine wpAny_bind (wpAny_pure ?_)
  show wpAny (model X.prog X.w) X.A (do rule "assign.swapped-stores"; let items ← unpackItems (.ref s1.heap.objs.size) 2 none; assignInOrder [fun v => bindName X.env y v, fun v => bindName X.env x v] items.reverse; pure Flow.next) _ _ _
  refine wpAny_bind (wpAny_rule (wpAny_bind (unpackItems_hot (items := #[u1, u2]) hot (IsTup.new s1.heap _) fun h' hx' => ?_)))
  have I3 := I2.kept (h' := h') (t' := s1.toks) fun b o e => hx' b o (Nat.ne_of_lt (Heap.lt_size e)) e
  show wpAny _ _ (assignInOrder [fun v => bindName X.env y v, fun v => bindName X.env x v] [u2, u1] >>= fun _ => pure Flow.next) _ _ _
  refine wpAny_bind (assignInOrder_cons (wpAny_bindName (store_ok I3 hN hj (.inl hy) rw' (fun s2 I4 => ?_) (.inr hy))))
  refine assignInOrder_cons (wpAny_bindName (store_ok I4 hN hi (.inl hx) rv (fun s3 I5 => assignInOrder_nil (wpAny_pure ?_)) (.inr hx)))
  rw [List.set_comm _ _ (Ne.symm hij)] at I5
  exact ⟨_, H1, I5, q1⟩
end
end L2H
namespace L2H
open PySem PySem.Spec PyProof.Rows L2 HotX
/-- a def that is handed the very exception that is handled: sp is told of it, as it stands -/
structure FnHE (P : Program) (w : World) (K : PySem.W.Frag) (mg : Str → Option Value) (base : Heap) (CX : CXT) (k : Nat) (f : Addr) (fd : FuncData) (ps : List Str) (sp : Addr × Obj → Sp) : Prop where
  len : ∀ p vs H Q E, sp p vs H Q E → vs.length = ps.length
  run : ∀ (A : Around) (outer : List Env) (s : Shared) (H : Hp) (args : Args) (us : List Value) (vs : List V) (Q : VK) (E : XK) (p : Addr × Obj), RoomH k A → Hot1 A p → PinOk outer H s p → Env0 P w K mg base A outer s H → BindsTo s fd args (ps.zip us) → Vals vs us → sp p vs H Q E →
    codeAny (model P w) A (.call (.ref f) args) (CR CX outer P w H s Q E) s
theorem fn_ofHE {CX : CXT} {P : Program} {w : World} {K : PySem.W.Frag} {mg : Str → Option Value} {base : Heap} {k : Nat} {f : Addr} {name qual : Str} {params : Arguments} {body : List Stmt} {scope : Scope} {dV kV doc pm cdv ct oc : Value} {an od : Option Addr}
    {osl : Array (Option Value)} {N ps : List Str} {sp : Addr × Obj → Sp} (lk : K.lookup f = some ⟨oc, od, .func (PySem.W.fnOf name qual params body scope dV kV doc pm an cdv ct), osl⟩) (hcd : PySem.W.codeIn K cdv qual = true) (S : FnScope N ps scope)
    (len : ∀ p vs H Q E, sp p vs H Q E → vs.length = ps.length)
    (hbody : ∀ (A : Around) (outer : List Env) (s : Shared) (H : Hp) (vs : List V) (Q : VK) (E : XK) (p : Addr × Obj), Hot1 A p → RoomH k (A.deeper (envOfC qual scope s.heap.objs.size f cdv)) → sp p vs H Q E →
      ∃ t, PSs (cxH CX P w K mg base N qual scope f cdv A outer s H E p) body t ∧ t { nx := fun _ H' => Q .non H', rt := Q } (L2.start N vs) H) :
    FnHE P w K mg base CX (k + 1) f (PySem.W.fnOf name qual params body scope dV kV doc pm an cdv ct) ps sp := by
  refine ⟨len, fun A outer s H args us vs Q E p hr hot hpin e0 hb r hsp => ?_⟩
  have KX : K.In s.heap := e0.mod.kin.keeps fun b o e => (e0.bs b o e).1
  have lim : s.heap.NoLimit := e0.mod.nolimit.keeps fun b o e => (e0.bs b o e).1
  refine codeAny_call_function hr.depth (KX _ _ lk) rfl S.co S.gen rfl (PySem.W.codeRec_of KX hcd) (hb _ _ _ _ ?_)
  refine wpAny_newFunctionEnv_cells S.kind (fun ⟨n, v⟩ hy => by
    rcases S.par n (List.of_mem_zip hy).1 with q | q
    · exact .inl q
    · exact .inr ⟨q, PySem.W.cellsFrom_some _ _ _ (.inl q)⟩) fun env he s1 x => ?_
  subst he
  refine ⟨lim.keeps x.toInCall.keep, codeAny_func ?_⟩
  obtain ⟨t, ht, hq⟩ := hbody A outer s H vs Q E p hot (hr.deeper _) hsp
  refine wpAny_mono (ht.run [] s1 (L2.start N vs) H _ (inv_startH S hpin e0 (len _ _ _ _ _ hsp) r x) hq) (fun fl s' hs => ?_) fun e s' hs => hs
  cases fl with
  | ret u =>
    obtain ⟨v, σ', H', J, rv, q⟩ := hs
    exact ⟨v, H', J.os, J.bare, J.base, J.hok, rv, q⟩
  | next =>
    obtain ⟨σ', H', J, q⟩ := hs
    exact ⟨V.non, H', J.os, J.bare, J.base, J.hok, rfl, q⟩
  | brk =>
    obtain ⟨_, _, _, q⟩ := hs
    exact False.elim q
  | cont =>
    obtain ⟨_, _, _, q⟩ := hs
    exact False.elim q
section
variable {X : Cx} {CX : CXT} {k : Nat} {f : Addr} {fd : FuncData} {ps : List Str} {sp : Addr × Obj → Sp} {E : XK} {x : Str} {q pos : Pos} {e : Expr} {es : List Expr} {t : TA} {p : Addr × Obj}
/-- f(e, ..) in the suite that handles p's exception -/
theorem pe_callHE (F : FnHE X.prog X.w X.K X.mg X.base CX k f fd ps sp) (hr : RoomH k X.A) (hot : Hot1 X.A p) (hp : p ∈ X.pn) (hg : Gl X x) (hm : X.mg x = some (.ref f)) (hk : PySem.W.keepIn X.K (.ref f) = true) (hb : Binds X.K fd ps []) (hx : Passes CX X E)
    (ha : PA X (e :: es) t) (hdb : (x == ("__debug__" : Str)) = false := by decide) (he : starEach (e :: es) X.env = (false, eval e X.env) :: starEach es X.env := by rfl) (hpl : (backTo pos (starEach es X.env)).any (·.1) = false := by rfl) :
    PE X (.Call (.Name x q) (e :: es) [] pos) (tCall (sp p) [] E t) := by
  refine ⟨fun pins s σ H Q I h => ?_⟩
  refine wpAny_Call_Name_kw (ld_glob I hg hm ?_ hdb)
  refine PySem.W.callWith_K (h₀ := X.base) I.ok.mod.kin hk (thn (ha.run pos pins s σ H _ I h) fun us s1 ⟨vs, H1, I1, r, q⟩ => ⟨I1.kIn, ?_⟩) he hpl
  have q : sp p vs H1 Q E := by
    have q' : sp p (vs ++ []) H1 Q E := q
    rw [List.append_nil] at q'
    exact q'
  have hl : us.length = ps.length := by
    rw [← Vals.length r]
    exact F.len _ _ _ _ _ q
  have b := hb s1 us I1.kIn (by rw [List.append_nil]; exact hl)
  rw [List.append_nil] at b
  have P1 := I1.pin p (List.mem_append_left _ hp)
  refine wpAny_call (codeAny_mono (F.run X.A X.stack s1 H1 ⟨us, []⟩ us vs Q E p hr hot ⟨P1.1, P1.2.1, fun hm => (List.mem_cons.mp (I1.stkSub p.1 hm)).elim P1.2.2.1 P1.2.2.2.1, P1.2.2.2.2⟩ I1.env0 b r q) fun r s' hq => ?_)
  cases r with
  | error e => exact hx pins σ H1 s1 e s' I1 hq
  | ok fl =>
    cases fl with
    | ret u => exact I1.after hq
    | next => exact False.elim hq
    | brk => exact False.elim hq
    | cont => exact False.elim hq
end
end L2H
namespace L2H
open PySem PySem.Spec PyProof.Rows L2
/-- e.f, e the exception that p says, where p stands in the context -/
def tXp (p : Addr × Obj) (f : Str) (te : TE) : TE := fun σ H Q => te σ H fun x H1 => x = .ref p.1 ∧ ∃ (dd : Addr) (fs : List (Str × V)) (v : V), p.2.dict = some dd ∧ H1 dd = some (.xd fs) ∧ fs.lookup f = some v ∧ Q v H1
theorem pe_xp {X : Cx} {C : Addr} {p : Addr × Obj} {e : Expr} {te : TE} {pos : Pos} {n : Str} (T : XfC X.K C) (hno : PySem.W.findIn X.K (.ref C) n = some none) (hp : p ∈ X.pn) (hc : p.2.cls = .ref C) (hf : ∃ vs, p.2.data = .fields vs)
    (he : PE X e te) (hb : attributeBase e n X.env (eval e X.env) = eval e X.env := by rfl) : PE X (.Attribute e n pos) (tXp p n te) := by
  refine ⟨fun pins s σ H Q I h => ?_⟩
  refine attr_of hb (thn (he.run pins s σ H _ I h) fun u s1 ⟨x, H1, I1, rx, ex, dd, fs, v, ed, ea, l, q⟩ => ?_)
  subst ex
  obtain rfl : u = Value.ref p.1 := rx
  obtain ⟨vs, hd⟩ := hf
  obtain ⟨mA, hns, hr⟩ : ObjOk X.prog X.w H1 s1.heap dd (.xd fs) := I1.hok dd _ ea
  obtain ⟨od, ho, hl⟩ := lookIn_ns hns
  obtain ⟨u, hu, ru⟩ := RelO.some_of (v := v) (o := mA n) (by rw [← l]; exact hr n)
  exact HandSPX.exc_get I1.kIn ⟨(I1.pin p (List.mem_append_left _ hp)).1, hc, by unfold PySem.W.notCls; rw [hd] <;> rfl, by rw [ed]; exact ho⟩ T.ga T.gg T.exC (PySem.W.findObj_own T.hdC hno rfl (by rw [hl, hu])) (handed_of ru) ⟨v, H1, I1.tok _, ru, q⟩
end L2H
namespace L2N
open PySem PySem.Spec PyProof.Rows L2
/-! ### x(lambda: body), x an own def that asks it, or hands it on: what leaves the lambda has no context -/
/-- the lambda's own context; its exceptions are those of this namespace -/
abbrev askC (X : Cx) (A : Around) (outer : List Env) (s : Shared) (H : Hp) (E : XK) (sc : Scope) (f cd : Addr) : Cx :=
  (LamX.lamCx X A outer s H E sc f cd).wish fun e t => wpAny (model X.prog X.w) (A.deeper (LamX.lamEnv X sc s.heap.objs.size f cd)) (leaving (LamX.lamEnv X sc s.heap.objs.size f cd) e) (fun _ u => CX X.prog X.w outer H s E e u) (fun e' u => CX X.prog X.w outer H s E e' u) t
/-- the name that lambdas of this context bear -/
abbrev lamQ (X : Cx) : Str := X.env.qual ++ "<lambda>"
abbrev lamObj (X : Cx) (pr : Arguments) (body : Expr) (sc : Scope) (pm : Value) (cd : Addr) (ct : Value) : Obj := PySem.W.kla_obj "<lambda>" (lamQ X) pr body sc (cloFrom X.env.cells sc.names []) pm cd ct
section
variable {X : Cx} {pins : List (Addr × Obj)} {σ : L2.St} {H HZ : Hp} {s s1 : Shared} {sc : Scope} {f cd : Addr} {pm ct : Value} {pr : Arguments} {body : Expr} {tb : TE} {E : XK}
/-- the lambda at f is called from the frames outer, in a state that grew out of the one in which it was made -/
theorem ask_run {A : Around} {outer : List Env} {Q : VK} (I : Inv X pins σ H s) (L : LamX.LamS X.env.scope sc) (ob : s1.heap.get? f = some (lamObj X pr body sc pm cd ct))
    (no : bindArgs (PySem.W.kla_fn "<lambda>" (lamQ X) pr body sc (cloFrom X.env.cells sc.names []) pm (.ref cd) ct) ⟨[], []⟩ = pure []) (e0 : Env0 X.prog X.w X.K X.mg X.base A outer s1 HZ) (hh : A.handled = none) (hdp : A.depth < recursionLimit) (lim : s1.heap.NoLimit)
    (un : Un (frs X.stack) [] H HZ s.heap s1.heap) (hcd : ∃ (oc : Obj) (vs : Array Value) (t : Tok), s1.heap.get? cd = some oc ∧ oc.data = .fields vs ∧ vs[1]? = some (.str (lamQ X) t))
    (hb : PE (askC X A outer s1 HZ E sc f cd) body tb) (ht : tb σ HZ Q) : codeAny (model X.prog X.w) A (.call (.ref f) ⟨[], []⟩) (CR (CX X.prog X.w) outer X.prog X.w HZ s1 Q E) s1 := by
  obtain ⟨oc, vs, t, h1, h2, h3⟩ := hcd
  refine PySem.W.kla_callFunE hdp ob rfl L.co L.gen rfl ⟨cd, oc, vs, t, rfl, h1, h2, h3⟩ ?_
  rw [no]
  refine wpAny_pure (wpAny_newFunctionEnv (fun y hy => (L.own y hy).2) (fun y hy => absurd hy List.not_mem_nil) (fun h' ns sb => ⟨lim.fresh _ sb, ?_⟩) L.kind)
  have kp : ∀ b o, s1.heap.get? b = some o → h'.get? b = some o := fun b o e => sb.extBut b o (Nat.ne_of_lt (Heap.lt_size e)) (Heap.get?_push_of_some _ e)
  have J := (LamX.lam_start2 (E := E) (f := f) (c' := cd) (tk := s1.toks + ([] : List (Str × Value)).length) I L e0 hh un ns kp).wish fun e t => wpAny (model X.prog X.w) (A.deeper (LamX.lamEnv X sc s1.heap.objs.size f cd)) (leaving (LamX.lamEnv X sc s1.heap.objs.size f cd) e) (fun _ u => CX X.prog X.w outer HZ s1 E e u) (fun e' u => CX X.prog X.w outer HZ s1 E e' u) t
  exact PySem.W.kla_codeExpr (wpAny_mono (hb.run [] _ σ HZ Q J ht) (fun v s' ⟨w', H', J', rv, q⟩ => ⟨w', H', J'.os, J'.bare, J'.base, J'.hok, rv, q⟩) fun e s' hq => hq)
/-- growth under more frames, these being new -/
theorem un_in {fs fs' : List Addr} {H H1 H2 : Hp} {h h1 h2 : Heap} (a : Un fs [] H H1 h h1) (b : Un fs' [] H1 H2 h1 h2) (hs : ∀ x ∈ fs, x ∈ fs') (hn : ∀ x ∈ fs', x ∈ fs ∨ h.get? x = none) : Un fs [] H H2 h h2 where
  keep x o e n k z := b.keep x o (a.keep x o e n k z) (a.free x o e n z) (fun m => (hn x m).elim k fun q => by rw [e] at q; cases q) z
  slot x o e n k z := by
    obtain ⟨sl, q⟩ := a.slot x o e n k z
    obtain ⟨sl2, q2⟩ := b.slot x _ q (a.free x o e n z) (hs x k) z
    exact ⟨sl2, q2⟩
  free x o e n z := by
    obtain ⟨sl, q⟩ := a.any e n z
    exact b.free x _ q (a.free x o e n z) z
  there x o e z := by
    obtain ⟨o1, q⟩ := a.there x o e z
    exact b.there x o1 q z
  tups x xs e := b.tups x xs (a.tups x xs e)
  frzs x o u e := b.frzs x o u (a.frzs x o u e)
  tbls x ps e := by
    obtain ⟨m1, e1⟩ := a.tbls x ps e
    obtain ⟨m2, e2⟩ := b.tbls x _ e1
    exact ⟨m1 ++ m2, by rw [e2, Array.append_assoc]⟩
end
/-- what stands at f can be called in each state that grows out of (s, H) under the frames outer; tl is its reading -/
structure Ask (P : Program) (w : World) (K : PySem.W.Frag) (mg : Str → Option Value) (base : Heap) (j : Nat) (outer : List Env) (s : Shared) (H : Hp) (f cd : Addr) (q : Str) (tl : XK → Hp → VK → Prop) : Prop where
  ob : ∃ o, s.heap.get? f = some o ∧ ∀ h : Heap, h.get? f = some o → PySem.W.FnAt f h
  free : H f = none
  nofr : f ∉ frs outer
  run : ∀ (A' : Around) (outer' : List Env) (s' : Shared) (H' : Hp) (Q : VK) (E : XK), Room j A' → Env0 P w K mg base A' outer' s' H' → Un (frs outer) [] H H' s.heap s'.heap → H' cd = some (LamX.CodeO cd q) → tl E H' Q →
    codeAny (model P w) A' (.call (.ref f) ⟨[], []⟩) (CR (CX P w) outer' P w H' s' Q E) s'
/-- the def x (its name, scope, body) that is handed a thing by the name a and asks it: tt is its reading, told by the asked thing's -/
def AskedBy (P : Program) (w : World) (K : PySem.W.Frag) (mg : Str → Option Value) (base : Heap) (j k : Nat) (N : List Str) (x : Str) (sc : Scope) (bd : List Stmt) (q : Str) (tt : (XK → Hp → VK → Prop) → Hp → VK → Prop) : Prop :=
  ∀ (A : Around) (outer : List Env) (g : Addr) (cdv : Value) (f cd : Addr) (s : Shared) (H : Hp) (Q : VK) (tl : XK → Hp → VK → Prop), Room k (A.deeper (envOfC x sc s.heap.objs.size g cdv)) → H cd = some (LamX.CodeO cd q) → Ask P w K mg base j outer s H f cd q tl → tt tl H Q →
    ∃ t, PSs (cxOf CX0 P w K mg base N x sc g cdv A outer s H E0).nox bd t ∧ t { nx := fun _ H' => Q .non H', rt := Q } (L2.start N [.ref f]) H
section
variable {P : Program} {w : World} {K : PySem.W.Frag} {mg : Str → Option Value} {base : Heap} {j k : Nat} {N : List Str} {x a q : Str} {sc : Scope} {g : Addr} {cdv : Value} {A : Around} {outer : List Env} {f cd : Addr} {s : Shared} {H : Hp} {tl : XK → Hp → VK → Prop} {pn : List (Addr × Obj)} {xe : Value → Shared → Prop} {W : WX} {p1 p2 : Pos}
/-- a(), a the first parameter -/
theorem pe_ask (M : Ask P w K mg base j outer s H f cd q tl) (hr : Room j (A.deeper (envOfC x sc s.heap.objs.size g cdv))) (tk : Takes ((cxOf CX0 P w K mg base N x sc g cdv A outer s H E0).tr pn xe) W) (hN : N[0]? = some a) (va : Vis sc a) (hd2 : (a == ("__debug__" : Str)) = false := by decide) (hd3 : (a == ("__classdict__" : Str)) = false := by decide) :
    PE ((cxOf CX0 P w K mg base N x sc g cdv A outer s H E0).tr pn xe) (.Call (.Name a p1) [] [] p2) fun σ' H' Q' => σ'[0]? = some (some (.ref f)) ∧ H' cd = some (LamX.CodeO cd q) ∧ ∃ E : XK, (∀ cls d H2, E cls d H2 → W cls d σ' H2) ∧ tl E H' Q' := ⟨fun pz sz σz Hz Qz Iz hz => by
  obtain ⟨hs, hc, E, hW, hz⟩ := hz
  refine wpAny_Call_Name_kw (thn ((pe_var (pos := p1) (i := 0) hN va hd2 hd3).run pz sz σz Hz (fun v H2 => v = .ref f ∧ H2 = Hz) Iz ⟨.ref f, hs, rfl, rfl⟩) fun u s2 ⟨v, H2, I2, r2, ev, eH⟩ => ?_)
  subst ev
  rw [eH] at I2
  obtain rfl : u = Value.ref f := r2
  obtain ⟨o, ho, hfn⟩ := M.ob
  have e2 : Env0 P w K mg base (A.deeper (envOfC x sc s.heap.objs.size g cdv)) (envOfC x sc s.heap.objs.size g cdv :: outer) s2 Hz := I2.env0
  have un : Un (frs outer) [] H Hz s.heap s2.heap := I2.base
  have rc := M.run (A.deeper (envOfC x sc s.heap.objs.size g cdv)) (envOfC x sc s.heap.objs.size g cdv :: outer) s2 Hz Qz E hr e2 un hc hz
  have px : ∀ e s3, CX P w (envOfC x sc s.heap.objs.size g cdv :: outer) Hz s2 E e s3 → xe e s3 := fun e s3 z => tk e s3 (XE.of_call I2 hW z)
  refine PySem.W.callWith_F0 (hfn _ (un.keep f o ho M.free M.nofr List.not_mem_nil)) (wpAny_call (codeAny_mono rc fun r s3 hq => ?_))
  cases r with
  | error e => exact px e s3 hq
  | ok fl =>
    cases fl with
    | ret u => exact I2.after hq
    | next => exact False.elim hq
    | brk => exact False.elim hq
    | cont => exact False.elim hq⟩
/-- the thing is handed on: it can be asked there as well -/
theorem Ask.on {pins : List (Addr × Obj)} {σ : L2.St} {H2 : Hp} {s2 : Shared} (M : Ask P w K mg base j outer s H f cd q tl) (I : Inv (cxOf CX0 P w K mg base N x sc g cdv A outer s H E0) pins σ H2 s2) : Ask P w K mg base j (envOfC x sc s.heap.objs.size g cdv :: outer) s2 H2 f cd q tl := by
  have un : Un (frs outer) [] H H2 s.heap s2.heap := I.base
  obtain ⟨o, ho, hfn⟩ := M.ob
  have sub : ∀ y ∈ frs outer, y ∈ frs (envOfC x sc s.heap.objs.size g cdv :: outer) := fun y hy => List.mem_cons_of_mem _ hy
  have new : ∀ y ∈ frs (envOfC x sc s.heap.objs.size g cdv :: outer), y ∈ frs outer ∨ s.heap.get? y = none := fun y hy => by
    rcases List.mem_cons.mp hy with e | e
    · refine .inr ?_
      cases q : s.heap.get? y with
      | none => rfl
      | some o =>
        have h1 := Heap.lt_size q
        rw [e] at h1
        exact absurd h1 (Nat.lt_irrefl _)
    · exact .inl e
  refine ⟨⟨o, un.keep f o ho M.free M.nofr List.not_mem_nil, hfn⟩, un.free f o ho M.free List.not_mem_nil, fun hm => ?_, fun A' outer' s' H' Q E hr e0 un2 hc ht => M.run A' outer' s' H' Q E hr e0 (un_in un un2 sub new) hc ht⟩
  rcases new f hm with z | z
  · exact M.nofr z
  · rw [ho] at z
    cases z
end
section
variable {X : Cx} {T : List (Addr × Str)} {tt : (XK → Hp → VK → Prop) → Hp → VK → Prop} {t : XK → TE} {x a : Str} {g c P : Addr} {k j : Nat} {st : Stmt} {fd : FuncData} {N : List Str} {pr : Arguments} {body : Expr} {sc : Scope} {p pl pos : Pos}
/-- x(lambda: body) -/
theorem pe_asks (F : Fun X.K x x st g fd) (S : FnScope N [a] (defScope st)) (hg : Gl X x) (mx : X.mg x = some (.ref g)) (kp : PySem.W.keepIn X.K (.ref g) = true) (bd : Binds X.K fd [a] [])
    (hG : AskedBy X.prog X.w X.K X.mg X.base (j + 1) k N x (defScope st) (defBody st) (lamQ X) tt) (TB : LamX.TabB X.base X.mg c P) (hcode : X.env.code = .ref c) (hmT : (P, lamQ X) ∈ T) (hu : ∀ p ∈ T, p.1 = P → p.2 = lamQ X) (hr : Room (k + 1) X.A) (L : LamX.LamS X.env.scope sc) (hdf : defaultsOf pr X.env = ([], []))
    (no : ∀ (q : Str) (cl : List (Str × Addr)) (pm cv ct : Value), bindArgs (PySem.W.kla_fn "<lambda>" q pr body sc cl pm cv ct) ⟨[], []⟩ = pure [])
    (hb : ∀ (A : Around) (outer : List Env) (s : Shared) (H : Hp) (E : XK) (f cd : Addr), Room j (A.deeper (LamX.lamEnv X sc s.heap.objs.size f cd)) → PE (askC X A outer s H E sc f cd) body (t E))
    (hd1 : (x == ("__debug__" : Str)) = false := by decide) :
    PE X (.Call (.Name x p) [.Lambda pr body sc pl] [] pos) (LamX.tLam T tt t) := by
  obtain ⟨oc, od, kV, doc, pm, an, cdv, ct, osl, rfl, lk, hcd⟩ := F.ex
  refine ⟨fun pins s σ H Q I hw => ?_⟩
  obtain ⟨hT, hw⟩ := hw
  refine wpAny_Call_Name_kw (ld_glob I hg mx ?_ hd1)
  refine PySem.W.callWith_K (h₀ := X.base) I.ok.mod.kin kp ?_ (by rfl) (by rfl)
  show wpAny _ _ (spliced ((false, eval (.Lambda pr body sc pl) X.env) :: backTo pos (starEach [] X.env))) _ _ s
  refine Calls.spliced_cons (LamX.lam_make2 I TB hcode hmT hu hT hdf (L.has I.ok) fun f cd pm2 ct2 H1 s1 I1 en T1 ob fn fr hco => ?_)
  refine Calls.spliced_nil ⟨I1.kIn, ?_⟩
  have M : Ask X.prog X.w X.K X.mg X.base (j + 1) X.stack s1 H1 f cd (lamQ X) (fun E H' Q' => t E σ H' Q') := ⟨⟨_, ob, fun h e => ⟨_, _, _, _, e⟩⟩, fn, fr, fun A' outer' s' H' Q' E' hr' e0 un hc hz => by
    have lim : s'.heap.NoLimit := e0.mod.nolimit.keeps fun b o e => (e0.bs b o e).1
    exact ask_run (X := X) (E := E') (Q := Q') (cd := cd) I1 L (un.keep f _ ob fn fr List.not_mem_nil) (no _ _ _ _ _) e0 hr'.hd hr'.depth lim un (e0.hok cd _ hc).1 (hb _ _ s' H' E' f cd (hr'.deeper _)) hz⟩
  refine wpAny_call (codeAny_mono (LamX.run_ofS (CX := CX0) (E := E0) (Q := Q) (N := N) (ps := [a]) (us := [.ref f]) (vs := [.ref f]) lk hcd S hr I1.env0 (bd s1 [.ref f] I1.kIn rfl) (.cons rfl .nil) rfl fun hr1 => ?_) fun r s2 hq => ?_)
  · obtain ⟨t', h1, h2⟩ := hG X.A X.stack g cdv f cd s1 H1 Q _ hr1 hco M (hw H1 en T1)
    exact ⟨t', h1.nox, h2⟩
  · cases r with
    | error e => exact (show False from hq).elim
    | ok fl =>
      cases fl with
      | ret u => exact I1.after hq
      | next => exact False.elim hq
      | brk => exact False.elim hq
      | cont => exact False.elim hq
end
section
variable {P : Program} {w : World} {K : PySem.W.Frag} {mg : Str → Option Value} {base : Heap} {j k : Nat} {N Ng : List Str} {x y a b q : Str} {sc : Scope} {st : Stmt} {g h : Addr} {fd : FuncData} {cdv : Value} {A : Around} {outer : List Env} {f cd : Addr} {s : Shared} {H : Hp} {tl : XK → Hp → VK → Prop} {tt : (XK → Hp → VK → Prop) → Hp → VK → Prop} {p1 p2 pos : Pos}
/-- y(a), a the first parameter, in the def x that was handed it -/
theorem pe_handon (M : Ask P w K mg base j outer s H f cd q tl) (F : Fun K y y st h fd) (S : FnScope Ng [b] (defScope st)) (hg : Gl (cxOf CX0 P w K mg base N x sc g cdv A outer s H E0).nox y) (my : mg y = some (.ref h)) (kp : PySem.W.keepIn K (.ref h) = true) (bd : Binds K fd [b] [])
    (hG : AskedBy P w K mg base j k Ng y (defScope st) (defBody st) q tt) (hr : Room (k + 1) (A.deeper (envOfC x sc s.heap.objs.size g cdv))) (hN : N[0]? = some a) (va : Vis sc a) (hd1 : (y == ("__debug__" : Str)) = false := by decide) (hd2 : (a == ("__debug__" : Str)) = false := by decide) (hd3 : (a == ("__classdict__" : Str)) = false := by decide) :
    PE (cxOf CX0 P w K mg base N x sc g cdv A outer s H E0).nox (.Call (.Name y p1) [.Name a p2] [] pos) fun σ' H' Q' => σ'[0]? = some (some (.ref f)) ∧ H' cd = some (LamX.CodeO cd q) ∧ tt tl H' Q' := by
  obtain ⟨oc, od, kV, doc, pm, an, cdw, ct, osl, rfl, lk, hcd⟩ := F.ex
  refine ⟨fun pins s1 σ H1 Q I hw => ?_⟩
  obtain ⟨hs, hc, hw⟩ := hw
  refine wpAny_Call_Name_kw (ld_glob I hg my ?_ hd1)
  have ha : PA (cxOf CX0 P w K mg base N x sc g cdv A outer s H E0).nox [.Name a p2] (tCons (tVar 0) tNil) := pa_cons (pe_var (i := 0) hN va hd2 hd3) pa_nil
  refine PySem.W.callWith_K (h₀ := base) I.ok.mod.kin kp (thn (ha.run pos pins s1 σ H1 (fun vs H2 => vs = [.ref f] ∧ H2 = H1) I ⟨.ref f, hs, rfl, rfl⟩) fun us s2 ⟨vs, H2, I2, r2, ev, eH⟩ => ⟨I2.kIn, ?_⟩) (by rfl) (by rfl)
  subst ev
  rw [eH] at I2
  have M2 := M.on I2.unwish
  refine wpAny_call (codeAny_mono (LamX.run_ofS (CX := CX0) (E := E0) (Q := Q) (N := Ng) (ps := [b]) (us := us) (vs := [.ref f]) lk hcd S hr I2.env0 (by have z := bd s2 us I2.kIn (by rw [List.append_nil, ← Vals.length r2]; rfl); rw [List.append_nil] at z; exact z) r2 rfl fun hr1 => ?_) fun r s3 hq => ?_)
  · obtain ⟨t', h1, h2⟩ := hG _ _ h cdw f cd s2 H1 Q _ hr1 hc M2 hw
    exact ⟨t', h1.nox, h2⟩
  · cases r with
    | error e => exact (show False from hq).elim
    | ok fl =>
      cases fl with
      | ret u => exact I2.after hq
      | next => exact False.elim hq
      | brk => exact False.elim hq
      | cont => exact False.elim hq
end
end L2N
namespace Ink
open PySem PySem.Spec PyProof.Rows L2
/-! ### _law_field and _law_tried: the word and the field of a refusal -/
def plainT : Str := "BadSign BadName BadNumber BadDeed Full Clash NothingLeft"
/-- the name of the field that is told of a refusal of that word -/
def fieldN (w : Str) : Option Str :=
  if inV (.str w) [.str "Taken", .str "NoName"] = true then some "name"
  else if decide (V.str w = V.str "TooMany") = true then some "most"
  else if decide (V.str w = V.str "Still") = true then some "strip"
  else if decide (V.str w = V.str "NoSaid") = true then some "number"
  else if inV (.str w) ((Txt.split plainT " ").map V.str) = true then none else some "at"
def FieldIs (w : Str) (fs : List (Str × V)) (v : V) : Prop := match fieldN w with
  | none => v = .non
  | some n => fs.lookup n = some v
/-- what a refusal's class says of the names of fields -/
structure FldC (K : PySem.W.Frag) (C : Addr) : Prop where
  xf : XfC K C
  word : PySem.W.findIn K (.ref C) "word" = some none
  name : PySem.W.findIn K (.ref C) "name" = some none
  most : PySem.W.findIn K (.ref C) "most" = some none
  strip : PySem.W.findIn K (.ref C) "strip" = some none
  number : PySem.W.findIn K (.ref C) "number" = some none
  «at» : PySem.W.findIn K (.ref C) "at" = some none
/-- at dd: the fields of a refusal of the class at C; the word, and what is told beside it -/
def RefF (K : PySem.W.Frag) (H : Hp) (C dd : Addr) (w : Str) (v : V) : Prop := FldC K C ∧ ∃ fs : List (Str × V), H dd = some (.xd fs) ∧ fs.lookup (α := Str) "word" = some (V.str w) ∧ FieldIs w fs v
def spField (K : PySem.W.Frag) : Addr × Obj → L2.Sp := fun p vs H Q _ => ∃ (C dd : Addr) (w : Str) (v : V), vs = [.ref p.1] ∧ p.2.cls = .ref C ∧ (∃ ws, p.2.data = .fields ws) ∧ p.2.dict = some dd ∧ RefF K H C dd w v ∧ ∀ H', Same H H' → Q v H'
section
variable {P : Program} {w : World} {K : PySem.W.Frag} {mg : Str → Option Value} {base : Heap}
theorem ok_field {f : Addr} {fd : FuncData} {k : Nat} (F : Fun K "_law_field" "_law_field" sLField f fd) : L2H.FnHE P w K mg base CX0 (k + 1) f fd ["_law_e"] (spField K) := by
  obtain ⟨oc, od, kV, doc, pm, an, cdv, ct, osl, rfl, lk, hcd⟩ := F.ex
  refine L2H.fn_ofHE lk hcd sc__law_field (fun p vs H Q E h => ?_) (fun A outer s H vs Q E p hot hr h => ?_)
  · obtain ⟨C, dd, w, v, rfl, _⟩ := h
    rfl
  · obtain ⟨C, dd, w, v, rfl, ec, ed, edd, ⟨T, fs, efs, hw, hf⟩, q⟩ := h
    have hp : p ∈ [p] := List.mem_singleton.mpr rfl
    refine ⟨_, (pss_cons (ps_if (pt_cmpR (show OpR _ _ (rIn K false) from op_in_seq) (L2H.pe_xp T.xf T.word hp ec ed (pv 0)) (pe_tup (pa_cons pe_str (pa_cons pe_str pa_nil))) (by rfl)) (pss_one (ps_ret (L2H.pe_xp T.xf T.name hp ec ed (pv 0)))) pss_nil)
      (pss_cons (ps_if (pt_cmpR op_eq (L2H.pe_xp T.xf T.word hp ec ed (pv 0)) pe_str (nomark _)) (pss_one (ps_ret (L2H.pe_xp T.xf T.most hp ec ed (pv 0)))) pss_nil)
      (pss_cons (ps_if (pt_cmpR op_eq (L2H.pe_xp T.xf T.word hp ec ed (pv 0)) pe_str (nomark _)) (pss_one (ps_ret (L2H.pe_xp T.xf T.strip hp ec ed (pv 0)))) pss_nil)
      (pss_cons (ps_if (pt_cmpR op_eq (L2H.pe_xp T.xf T.word hp ec ed (pv 0)) pe_str (nomark _)) (pss_one (ps_ret (L2H.pe_xp T.xf T.number hp ec ed (pv 0)))) pss_nil)
      (pss_cons (ps_set (i := 1) sc__law_field.nd rfl (.inl rfl) pe_str)
      (pss_one (ps_ret (pe_ifExp (pt_cmpR (show OpR _ _ (rIn K false) from op_in_seq) (L2H.pe_xp T.xf T.word hp ec ed (pv 0)) (pe_split (pv 1) pe_str) (by rfl)) pe_non (L2H.pe_xp T.xf T.at hp ec ed (pv 0)))))))))), ?_⟩
    unfold FieldIs fieldN at hf
    refine ⟨.ref p.1, rfl, rfl, dd, fs, .str w, edd, efs, hw, by show 2 ≤ sizeLine; decide, fun t nt => ⟨t, _, rfl, .inr (.of upd_same), rfl, rfl, ?_⟩⟩
    have s1 := same_new (o := .tup [V.str "Taken", V.str "NoName"]) nt
    have e1 := s1 _ _ efs
    refine ⟨_, rfl, ite2 (fun h => ?_) (fun h => ?_)⟩
    · rw [if_pos (show inV (.str w) [.str "Taken", .str "NoName"] = true from h)] at hf
      exact ⟨.ref p.1, rfl, rfl, dd, fs, v, edd, e1, hf, q _ s1⟩
    rw [if_neg (show ¬ inV (.str w) [.str "Taken", .str "NoName"] = true from h)] at hf
    refine ⟨.ref p.1, rfl, rfl, dd, fs, .str w, edd, e1, hw, rfl, _, rfl, ite2 (fun h => ?_) (fun h => ?_)⟩
    · rw [if_pos h] at hf
      exact ⟨.ref p.1, rfl, rfl, dd, fs, v, edd, e1, hf, q _ s1⟩
    rw [if_neg h] at hf
    refine ⟨.ref p.1, rfl, rfl, dd, fs, .str w, edd, e1, hw, rfl, _, rfl, ite2 (fun h => ?_) (fun h => ?_)⟩
    · rw [if_pos h] at hf
      exact ⟨.ref p.1, rfl, rfl, dd, fs, v, edd, e1, hf, q _ s1⟩
    rw [if_neg h] at hf
    refine ⟨.ref p.1, rfl, rfl, dd, fs, .str w, edd, e1, hw, rfl, _, rfl, ite2 (fun h => ?_) (fun h => ?_)⟩
    · rw [if_pos h] at hf
      exact ⟨.ref p.1, rfl, rfl, dd, fs, v, edd, e1, hf, q _ s1⟩
    rw [if_neg h] at hf
    refine ⟨.ref p.1, rfl, rfl, dd, fs, .str w, edd, e1, hw, .str plainT, rfl, ⟨_, rfl⟩, plainT, _, rfl, rfl, rfl, by decide +kernel, fun t2 nt2 => ⟨t2, _, rfl, .inl (.of upd_same), rfl, ?_, ?_⟩⟩
    · rw [List.all_map]
      exact List.all_eq_true.mpr fun _ _ => rfl
    have s2 := Same.trans s1 (same_new (o := .lst ((Txt.split plainT " ").map V.str)) nt2)
    refine ⟨_, rfl, ite2 (fun h => ?_) (fun h => ?_)⟩
    · rw [if_pos (show inV (.str w) ((Txt.split plainT " ").map V.str) = true from h)] at hf
      have hf : v = .non := hf
      rw [hf] at q
      exact q _ s2
    · rw [if_neg (show ¬ inV (.str w) ((Txt.split plainT " ").map V.str) = true from h)] at hf
      exact ⟨.ref p.1, rfl, rfl, dd, fs, v, edd, s2 _ _ efs, hf, q _ s2⟩
end
/-- a refusal is raised, and the word and the field of it are wanted -/
def RefE (K : PySem.W.Frag) (cI cM cL : Addr) (Q : VK) : XK := fun cls d H' => ∃ (C dd : Addr) (w : Str) (v : V), cls = .ref C ∧ d = some dd ∧ PySem.W.exmAny K cls [.ref cI, .ref cM, .ref cL] = some true ∧ RefF K H' C dd w v ∧ ∀ p H2, Same H' H2 → H2 p = none → Q (.ref p) (upd H2 p (.tup [.non, .str w, v]))
/-- _law_tried: the answer, or the word and the field of what is raised -/
def ttTried (K : PySem.W.Frag) (cI cM cL : Addr) : (XK → Hp → VK → Prop) → Hp → VK → Prop := fun tl H Q => ∀ (H1 : Hp) (E2 : XK) (Q2 : VK), Same H H1 → (∀ cls d H', RefE K cI cM cL Q cls d H' → E2 cls d H') → (∀ v H', (∀ p, H' p = none → Q (.ref p) (upd H' p (.tup [v, .str "", .non]))) → Q2 v H') → tl E2 H1 Q2
theorem RefF.same {K : PySem.W.Frag} {H H' : Hp} {C dd : Addr} {w : Str} {v : V} (h : RefF K H C dd w v) (s : Same H H') : RefF K H' C dd w v := by
  obtain ⟨T, fs, e, r⟩ := h
  exact ⟨T, fs, s _ _ e, r⟩
/-- the suite's reading -/
def tHand (K : PySem.W.Frag) : Addr → Value → Option Addr → TS := fun a cls d D σ H => ∃ (C dd : Addr) (w : Str) (v : V), cls = .ref C ∧ d = some dd ∧ σ[4]? = some (some (.ref a)) ∧ RefF K H C dd w v ∧ ∀ H2, Same H H2 → D.nx ((σ.set 2 (some (.str w))).set 3 (some v)) H2
section
variable {P : Program} {w : World} {K : PySem.W.Frag} {mg : Str → Option Value} {base : Heap} {cI cM cL g1 : Addr} {fd1 : FuncData} {i j k : Nat}
theorem tried_asked (gI : mg "InkError" = some (.ref cI)) (gM : mg "Missing" = some (.ref cM)) (gL : mg "NothingLeft" = some (.ref cL)) (F : L2H.FnHE P w K mg base CX0 j g1 fd1 ["_law_e"] (spField K)) (hjk : j ≤ k) (hik : i ≤ k) (gF : mg "_law_field" = some (.ref g1))
    (kF : PySem.W.keepIn K (.ref g1) = true) (bF : Binds K fd1 ["_law_e"] []) {q : Str} : L2N.AskedBy P w K mg base i k ["_law_ask", "_law_told", "_law_word", "_law_field_here", "_law_e"] "_law_tried" (defScope sLTried) (defBody sLTried) q (ttTried K cI cM cL) := by
  intro A outer g cdv f cd s H Q tl hr hcd M h
  have SC := sc__law_tried
  let Z := (cxOf CX0 P w K mg base ["_law_ask", "_law_told", "_law_word", "_law_field_here", "_law_e"] "_law_tried" (defScope sLTried) g cdv A outer s H E0).nox
  refine ⟨_, pss_cons (ps_asg (pe_tup (pa_cons pe_non (pa_cons pe_str (pa_cons pe_non pa_nil)))) (pg_tup rfl (pgs_cons (pg_name (i := 1) SC.nd rfl (.inl rfl)) (pgs_cons (pg_name (i := 2) SC.nd rfl (.inl rfl)) (pgs_cons (pg_name (i := 3) SC.nd rfl (.inl rfl)) pgs_nil)))))
    (pss_cons (L2N.ps_try_as3 (X := Z) (c1 := .ref cI) (c2 := .ref cM) (c3 := .ref cL) (i := 4) (ts := tHand K) rfl rfl SC.nd rfl rfl ⟨rfl, rfl, .inl gI⟩ ⟨rfl, rfl, .inl gM⟩ ⟨rfl, rfl, .inl gL⟩ (fun W pn xe tk _ => pss_one (ps_set (i := 1) SC.nd rfl (.inl rfl) (L2N.pe_ask M (hr.mono hik) tk rfl (.inl rfl))))
      (fun a oe cls d pn hz hf => ⟨fun pins s1 σ H1 D I h => ?_⟩))
    (pss_one (ps_ret (pe_tup (pa_cons (pv 1) (pa_cons (pv 2) (pa_cons (pv 3) pa_nil))))))), ?_⟩
  · obtain ⟨C, dd, w, v, ec, ed, e4, ⟨T, fs, efs, hw, hfi⟩, hD⟩ := h
    have hp : (a, oe) ∈ (Z.suite a ((a, oe) :: pn)).pn := List.mem_cons_self
    have hot : L2H.Hot1 (Z.suite a ((a, oe) :: pn)).A (a, oe) := by
      obtain ⟨ws, e⟩ := hf
      exact ⟨rfl, ws, e, hz.2.2 ws e⟩
    have hrH : L2H.RoomH j (Z.suite a ((a, oe) :: pn)).A := ⟨((L2H.roomH_of hr).mono hjk).dp, ((L2H.roomH_of hr).mono hjk).un⟩
    refine (pss_one (L2H.ps_parH (X := Z.suite a ((a, oe) :: pn)) (i := 2) (j := 3) ⟨_, hot, hp⟩ SC.nd rfl rfl (by decide) rfl rfl (pa_cons (L2H.pe_xp T.xf T.word hp (hz.1.trans ec) hf (pv 4)) (pa_cons (L2H.pe_callHE F hrH hot hp (by rfl) gF kF bF pass0 (pa_cons (pv 4) pa_nil)) pa_nil)) (by rfl))).run pins s1 σ H1 D I ?_
    refine ⟨.ref a, e4, rfl, dd, fs, .str w, hz.2.1.trans ed, efs, hw, .ref a, e4, ?_⟩
    exact ⟨C, dd, w, v, rfl, hz.1.trans ec, hf, hz.2.1.trans ed, ⟨T, fs, efs, hw, hfi⟩, fun H2 s2 => ⟨_, _, rfl, hD H2 s2⟩⟩
  · refine ⟨by show 3 ≤ sizeLine; decide, fun t nt => ?_⟩
    refine ⟨t, _, rfl, .of upd_same, rfl, _, _, rfl, _, _, rfl, _, _, rfl, rfl, ?_⟩
    refine ⟨rfl, same_new nt _ _ hcd, _, fun cls d H2 hE => ?_, h _ (RefE K cI cM cL Q) _ (same_new nt) (fun _ _ _ z => z) fun v H' hq => ?_⟩
    · obtain ⟨C, dd, w, v, ec, ed, hx, R, hq⟩ := hE
      exact ⟨hx, fun a na => ⟨C, dd, w, v, ec, ed, rfl, R, fun H3 s3 => ⟨_, rfl, _, rfl, _, rfl, by show 3 ≤ sizeLine; decide, fun p np => hq p H3 s3 np⟩⟩⟩
    · exact g_go ⟨_, rfl, _, rfl, _, rfl, by show 3 ≤ sizeLine; decide, fun p np => hq p np⟩
/-- _law_refused: the word and the field alone -/
def ttRefused (K : PySem.W.Frag) (cI cM cL : Addr) : (XK → Hp → VK → Prop) → Hp → VK → Prop := fun tl H Q => ttTried K cI cM cL tl H fun v H' => ∃ (p : Addr) (x y z : V), v = .ref p ∧ H' p = some (.tup [x, y, z]) ∧ ∀ p', H' p' = none → Q (.ref p') (upd H' p' (.tup [y, z]))
theorem refused_asked {f1 : Addr} {fd2 : FuncData} (F : Fun K "_law_tried" "_law_tried" sLTried f1 fd2) (m1 : mg "_law_tried" = some (.ref f1)) (k1 : PySem.W.keepIn K (.ref f1) = true) (b1 : Binds K fd2 ["_law_ask"] [])
    (hG : ∀ q, L2N.AskedBy P w K mg base i k ["_law_ask", "_law_told", "_law_word", "_law_field_here", "_law_e"] "_law_tried" (defScope sLTried) (defBody sLTried) q (ttTried K cI cM cL)) {q : Str} :
    L2N.AskedBy P w K mg base i (k + 1) ["_law_ask"] "_law_refused" (defScope sLRefused) (defBody sLRefused) q (ttRefused K cI cM cL) := by
  intro A outer g cdv f cd s H Q tl hr hcd M h
  refine ⟨_, pss_one (ps_ret (pe_slice sl_tupA (L2N.pe_handon M F sc__law_tried rfl m1 k1 b1 (hG _) hr rfl (.inl rfl)) (po_some pe_int) po_none)), ?_⟩
  refine ⟨rfl, hcd, fun H1 E2 Q2 s1 he hq => h H1 E2 Q2 s1 (fun cls d H' hx => he cls d H' ?_) fun v H' hv => hq v H' fun p np => ?_⟩
  · obtain ⟨C, dd, w, v, e1, e2, e3, R, hv⟩ := hx
    refine ⟨C, dd, w, v, e1, e2, e3, R, fun p H2 s2 np => ?_⟩
    obtain ⟨p', x, y, z, ep, e4, hn⟩ := hv p H2 s2 np
    cases ep
    exact ⟨1, rfl, p, _, rfl, .of e4, fun h => absurd h.1 (show ¬ HT.sIx 3 0 (some 1) = 0 by decide), fun _ p2 np2 => by
      rw [upd_same] at e4
      cases e4
      exact hn p2 np2⟩
  · obtain ⟨p', x, y, z, ep, e4, hn⟩ := hv p np
    cases ep
    exact ⟨1, rfl, p, _, rfl, .of e4, fun h => absurd h.1 (show ¬ HT.sIx 3 0 (some 1) = 0 by decide), fun _ p2 np2 => by
      rw [upd_same] at e4
      cases e4
      exact hn p2 np2⟩
end
end Ink
namespace Ink
open PySem PySem.Spec PyProof.Rows L2 Evl
/-! ### defs that may raise, asked in a lambda; what a lambda's making leaves -/
/-- a def that may raise, by its name -/
def CalN (P : Program) (w : World) (K : PySem.W.Frag) (mg : Str → Option Value) (base : Heap) (k : Nat) (x : Str) (ps : List Str) (sp : Sp) : Prop :=
  ∃ f fd, FnOk P w K mg base (L2N.CX P w) k f fd ps sp ∧ mg x = some (.ref f) ∧ PySem.W.keepIn K (.ref f) = true ∧ Binds K fd ps []
section
variable {X : Cx} {k : Nat} {C : Addr} {x m : Str} {ps : List Str} {sp : Sp} {p pos apos : Pos} {o e : Expr} {es : List Expr} {ta : TE} {t : TA} {E : XK}
theorem pe_callCN (c : CalN X.prog X.w X.K X.mg X.base k x ps sp) (hr : Room k X.A) (hx : Passes (L2N.CX X.prog X.w) X E) (hg : Gl X x) (ha : PA X (e :: es) t) (hdb : (x == ("__debug__" : Str)) = false := by decide)
    (he : starEach (e :: es) X.env = (false, eval e X.env) :: starEach es X.env := by rfl) (hpl : (backTo pos (starEach es X.env)).any (·.1) = false := by rfl) : PE X (.Call (.Name x p) (e :: es) [] pos) (tCall sp [] E t) := by
  obtain ⟨f, fd, G, g, hk, b⟩ := c
  exact pe_call G hr hg g hk b .nil hx ha hdb he hpl
theorem passN0 : Passes (L2N.CX X.prog X.w) X E0 := by
  intro pins σ H s e s' I h
  obtain ⟨a, B, H', cls, d, _, _, _, _, _, _, _, hE⟩ := h
  exact False.elim hE
theorem passN {P : Program} {w : World} {K : PySem.W.Frag} {mg : Str → Option Value} {base : Heap} {N : List Str} {qual : Str} {sc : Scope} {f : Addr} {cdv : Value} {A : Around} {outer : List Env} {s : Shared} {H : Hp} {E : XK} :
    Passes (L2N.CX P w) (cxOf (L2N.CX P w) P w K mg base N qual sc f cdv A outer s H E) E := L2N.passes_call (L2N.takes_of rfl rfl rfl rfl) fun _ _ _ _ h => h
theorem passA {Y : Cx} {A : Around} {outer : List Env} {s : Shared} {H : Hp} {E : XK} {sc : Scope} {f cd : Addr} : Passes (L2N.CX Y.prog Y.w) (L2N.askC Y A outer s H E sc f cd) E := L2N.passes_call (L2N.takes_of rfl rfl rfl rfl) fun _ _ _ _ h => h
end
theorem tabs_keep {T : List (Addr × Str)} {H H' : Hp} {a l : Addr} (b : BagAt H a l) (k : Keep a H H') (t : LamX.Tabs T H) : LamX.Tabs T H' := fun p hp => by
  obtain ⟨_, _, _, _, ea, _⟩ := b
  obtain ⟨ps, h1, h2, h3⟩ := t p hp
  refine ⟨ps, k _ _ (fun z => by rw [z, ea] at h1; cases h1) h1, h2, fun pos cv hc => ?_⟩
  obtain ⟨c, e1, e2⟩ := h3 pos cv hc
  exact ⟨c, e1, k _ _ (fun z => by rw [z, ea] at e2; unfold LamX.CodeO at e2; cases e2) e2⟩
theorem bag_ext {H H' : Hp} {a l : Addr} (e : LamX.ExtN H H') (b : BagAt H a l) : BagAt H' a l := by
  obtain ⟨ns, p, h, s, h1, h2, r⟩ := b
  exact ⟨ns, p, h, s, e _ _ h1 (fun _ z => by cases z), e _ _ h2 (fun _ z => by cases z), r⟩
theorem tk_ext {K : PySem.W.Frag} {H H' : Hp} (e : LamX.ExtN H H') : TupK K H H' := fun b ys h => by
  rcases h with (h | ⟨o, h⟩) | h
  · exact .inl (.inl (e _ _ h fun _ z => by cases z))
  · exact .inl (.inr ⟨o, e _ _ h fun _ z => by cases z⟩)
  · exact .inr h
/-- the code object's table in a comprehension -/
theorem lookup_relabel_cell {env : Env} : ∀ {names : List (Str × NameKind)} {x : Str} {k : NameKind}, names.lookup x = some k → k = .cell ∨ k = .free →
    (names.map fun (n, k) => if (k == NameKind.free && env.scope.kind == .function && env.kindOf n == some .cell) then (n, NameKind.cell) else (n, k)).lookup x = some .cell ∨
    (names.map fun (n, k) => if (k == NameKind.free && env.scope.kind == .function && env.kindOf n == some .cell) then (n, NameKind.cell) else (n, k)).lookup x = some .free
  | [], _, _, h, _ => by simp at h
  | (n, k') :: r, x, k, h, hk => by
    have ih := @lookup_relabel_cell env r x k
    rw [List.map_cons]
    cases hx : x == n with
    | true =>
      simp only [List.lookup_cons, hx] at h
      cases h
      cases hc : (k' == NameKind.free && env.scope.kind == .function && env.kindOf n == some .cell) with
      | true =>
        left
        simp only [hc, if_true, List.lookup_cons, hx]
      | false =>
        simp only [hc, Bool.false_eq_true, if_false, List.lookup_cons, hx]
        rcases hk with rfl | rfl
        · exact .inl rfl
        · exact .inr rfl
    | false =>
      simp only [List.lookup_cons, hx] at h
      cases hc : (k' == NameKind.free && env.scope.kind == .function && env.kindOf n == some .cell) with
      | true =>
        simp only [hc, if_true, List.lookup_cons, hx]
        exact ih h hk
      | false =>
        simp only [hc, Bool.false_eq_true, if_false, List.lookup_cons, hx]
        exact ih h hk
theorem lamS_blk {scope sc : Scope} {env : Env} {cl : List (Str × Addr)} {C : Addr} (h : LamX.LamS scope sc) : LamX.LamS (compEnvC scope cl C env).scope sc := ⟨h.kind, h.co, h.gen, h.own, fun y hy e => by
  rcases h.free y hy e with z | z
  · exact lookup_relabel_cell z (.inl rfl)
  · exact lookup_relabel_cell z (.inr rfl)⟩
section
variable {Y : Cx} {k : Nat} {x : Str} {ps : List Str} {sp : Sp} {p pos : Pos} {e : Expr} {es : List Expr} {t : TA} {A : Around} {outer : List Env} {s : Shared} {H : Hp} {E : XK} {sc : Scope} {f cd : Addr}
/-- x(e, ..) in a lambda -/
theorem pe_lamC (c : CalN Y.prog Y.w Y.K Y.mg Y.base k x ps sp) (hr : Room k (A.deeper (LamX.lamEnv Y sc s.heap.objs.size f cd))) (hg : Gl (L2N.askC Y A outer s H E sc f cd) x) (ha : PA (L2N.askC Y A outer s H E sc f cd) (e :: es) t) (hdb : (x == ("__debug__" : Str)) = false := by decide)
    (he : starEach (e :: es) (L2N.askC Y A outer s H E sc f cd).env = (false, eval e (L2N.askC Y A outer s H E sc f cd).env) :: starEach es (L2N.askC Y A outer s H E sc f cd).env := by rfl) (hpl : (backTo pos (starEach es (L2N.askC Y A outer s H E sc f cd).env)).any (·.1) = false := by rfl) :
    PE (L2N.askC Y A outer s H E sc f cd) (.Call (.Name x p) (e :: es) [] pos) (tCall sp [] E t) :=
  pe_callCN (X := L2N.askC Y A outer s H E sc f cd) c hr (passA (Y := Y)) hg ha hdb he hpl
end
abbrev lawQ : Str := (envOfC "law" (defScope sLaw) 0 0 .none).qual ++ "<lambda>"
def spLaw (K : PySem.W.Frag) (P0 : Addr) : Sp := fun vs H Q _ => ∃ (c : Addr) (ns : List Int), vs = [.ref c] ∧ SqL K H c (ns.map V.int) ∧ ns.length ≤ 63 ∧ LamX.Tabs [(P0, lawQ)] H ∧ ∀ H', Q (.bl true) H'
end Ink
namespace Ink
open PySem PySem.Spec PyProof.Rows L2 Evl
/-! ### what stays when a lambda is made: a scroll -/
theorem sl_ext {K : PySem.W.Frag} {H H' : Hp} (e : LamX.ExtN H H') : ∀ b xs, SqL K H b xs → SqL K H' b xs := fun b ys h => by
  rcases h with (h | ⟨o, h⟩) | h
  · exact .inl (.inl (e _ _ h fun _ z => by cases z))
  · exact .inl (.inr ⟨o, e _ _ h fun _ z => by cases z⟩)
  · exact .inr h
theorem dp_ext {K : PySem.W.Frag} {H H' : Hp} {v : V} {d : PyData} (e : LamX.ExtN H H') (h : Dp K H v d) : Dp K H' v d := dp_up (sl_ext e) (tk_ext e) d v h
theorem CoAtD.extN {P : Program} {w : World} {K : PySem.W.Frag} {C : Addr} {H H' : Hp} {c : Addr} {m : List Wr} {n : Nat} {d : Addr} (h : CoAtD P w K C H c m n d) (e : LamX.ExtN H H') : CoAtD P w K C H' c m n d := by
  obtain ⟨xs, ed⟩ := h.ext
  obtain ⟨dx, tw, kvs, h1, h2, h3, h4, h5⟩ := h
  exact ⟨dx, tw, kvs, e _ _ h1 (fun _ z => by cases z), dp_tk (tk_ext e) (fz_dMt m) h2, h3.up (by rw [ed]; exact e _ _ ed (fun _ z => by unfold DicO at z; cases z)) (tk_ext e), h4.up (tk_ext e), h5⟩
theorem ScE.extN {P : Program} {w : World} {K : PySem.W.Frag} {C S : Addr} {H H' : Hp} {s : Addr} {r : Row3} {n : Nat} {dx : Addr} {u1 u2 u3 : V} {q : Addr} {ps : Chs (List Wr)} {D : Addr → Addr} (h : ScE P w K C S H s r n dx u1 u2 u3 q ps D) (e : LamX.ExtN H H') : ScE P w K C S H' s r n dx u1 u2 u3 q ps D :=
  ⟨e _ _ h.hs (fun _ z => by cases z), dp_ext e h.d2, dp_ext e h.d3, ⟨e _ _ h.ch.hq (fun _ z => by cases z), fun x hx => e _ _ (h.ch.at_ x hx) (fun _ z => by cases z), fun x hx y hy => CoAtD.extN (h.ch.inn x hx y hy) e, h.ch.nd, h.ch.nq, h.ch.off⟩, h.cr, h.inj⟩
theorem ScAt.extN {P : Program} {w : World} {K : PySem.W.Frag} {C S : Addr} {H H' : Hp} {s : Addr} {r : Row3} {n : Nat} (h : ScAt P w K C S H s r n) (e : LamX.ExtN H H') : ScAt P w K C S H' s r n := by
  obtain ⟨dx, u1, u2, u3, q, ps, D, h⟩ := h.e
  exact (ScE.extN h e).at
end Ink
namespace Ink
open PySem PySem.Spec PyProof.Rows L2 Evl
/-- a method that may raise -/
def MetN (P : Program) (w : World) (K : PySem.W.Frag) (mg : Str → Option Value) (base : Heap) (k : Nat) (C : Addr) (m : Str) (ps : List Str) (sp : Sp) : Prop :=
  ∃ f fd, FnOk P w K mg base (L2N.CX P w) k f fd ps sp ∧ Meth K C m f ∧ Cls K C ∧ Binds K fd ps []
section
variable {X : Cx} {k : Nat} {C : Addr} {x m : Str} {ps : List Str} {sp : Sp} {p pos apos : Pos} {o e : Expr} {es : List Expr} {ta : TE} {t : TA} {E : XK}
theorem pe_methN {pl : Sem Bool} (he : PE X o ta) (c : MetN X.prog X.w X.K X.mg X.base k C m ps sp) (hr : Room k X.A) (hx : Passes (L2N.CX X.prog X.w) X E) (ha : PA X (e :: es) t)
    (hst : starEach (e :: es) X.env = (false, eval e X.env) :: starEach es X.env := by rfl) (hpl : (backTo pos (starEach es X.env)).any (·.1) = false := by rfl)
    (ht : eval (.Call (.Attribute o m apos) (e :: es) [] pos) X.env = (do
      let ov ← eval o X.env
      standAt apos.atName
      let (f, first) ← holding [ov] (getMethod ov m pl)
      callWith pos f first (backTo pos (starEach (e :: es) X.env)) (backToKw pos (keywordEach [] X.env))) := by rfl) : PE X (.Call (.Attribute o m apos) (e :: es) [] pos) (tMeth C m sp [] E ta t) := by
  obtain ⟨f, fd, G, hm, hc, b⟩ := c
  exact pe_meth he hc hm G hr b .nil hx ha hst hpl ht
end
section
variable {P : Program} {w : World} {K : PySem.W.Frag} {mg : Str → Option Value} {base : Heap}
/-- a def that may raise, what it raises having no context -/
theorem okN {CX : CXT} {x qual : Str} {st : Stmt} {f : Addr} {fd : FuncData} {N ps : List Str} {k : Nat} {sp : Sp} (F : Fun K x qual st f fd) (S : FnScope N ps (defScope st)) (len : ∀ vs H Q E, sp vs H Q E → vs.length = ps.length)
    (hbody : ∀ (cdv : Value) (A : Around) (outer : List Env) (s : Shared) (H : Hp) (vs : List V) (Q : VK) (E : XK), Room k (A.deeper (envOfC qual (defScope st) s.heap.objs.size f cdv)) → sp vs H Q E →
      ∃ t, PSs (cxOf CX P w K mg base N qual (defScope st) f cdv A outer s H E) (defBody st) t ∧ t { nx := fun _ H' => Q .non H', rt := Q } (start N vs) H) : FnOk P w K mg base CX (k + 1) f fd ps sp := by
  obtain ⟨oc, od, kV, doc, pm, an, cdv, ct, osl, rfl, lk, hcd⟩ := F.ex
  exact fn_of lk hcd S len fun A outer s H vs Q E hr hsp => hbody cdv A outer s H vs Q E hr hsp
end
/-- Scroll.lets at any number: its answer, or NoSign -/
def spLetN (P : Program) (w : World) (K : PySem.W.Frag) (C S NS : Addr) : Sp := fun vs H Q E => ∃ (s : Addr) (r : Row3) (n : Nat) (i : Int) (z : Str), vs = [.ref s, .int i, .str z] ∧ ScAt P w K C S H s r n ∧ GoodR r ∧ i.natAbs.log2 < 1920 ∧ (Str.ofString (toString i)).length ≤ 1000 ∧
  (∀ j : Nat, i = (j : Int) → j < r.1.length → ∀ H', Ex H H' → Q (.bl (letsM r.2.2 j z)) H') ∧
  (¬ ((0 : Int) ≤ i ∧ i < ((r.1.length : Nat) : Int)) → ∀ H', Ex H H' → ∀ d, H' d = none → E (.ref NS) (some d) (upd H' d (.xd [("at", .int i), ("word", .str "NoSign")])))
section
variable {P : Program} {w : World} {K : PySem.W.Frag} {mg : Str → Option Value} {base : Heap}
theorem ok_letN {f C S NS : Addr} {fd : FuncData} {k : Nat} (F : Fun K "lets" "Scroll.lets" sScrollLets f fd) (T : Txt mg) (Y : ScC K S) (B : NoSR P w K mg base k NS) : FnOk P w K mg base (L2N.CX P w) (k + 2) f fd ["self", "at", "name"] (spLetN P w K C S NS) := by
  refine okN F sc_Scroll_lets (fun vs H Q E h => ?_) (fun cdv A outer s H vs Q E hr h => ?_)
  · obtain ⟨s, r, n, i, z, rfl, _⟩ := h
    rfl
  · obtain ⟨s, r, n, i, z, rfl, hS, g, hl, hz, q, qe⟩ := h
    obtain ⟨dx, u1, u2, u3, qq, ps, D, h⟩ := hS.e
    have g3 := g.n3
    refine ⟨_, (pss_cons (ps_if (pt_not (pt_chain op_le op_lt pe_int (pv 1) (pe_callB call_len (by rfl) T.m_len PySem.boot_len (pa_cons (pe_fld (pv 0) rfl) pa_nil))))
    (pss_one (ps_raiseNoS B (hr.mono (by omega)) (by rfl) rfl (L2N.takes_of rfl rfl rfl rfl) (pa_cons (pv 1) pa_nil))) pss_nil)
    (pss_one (ps_ret (pe_callB (cr_all rfl) (by rfl) T.m_all (by decide +kernel) (pa_cons (pe_lc (own := [("number", 3), ("who", 4), ("so", 5)]) (g := (gTup K 3 (gCons (gName 3) (gCons (gName 4) (gCons (gName 5) gNil))))) (by rfl) sc_Scroll_lets.nd (pi_list (pe_fld (pv 0) rfl)) (blkOk_by (own := [("number", 3), ("who", 4), ("so", 5)]) (N := ["self", "at", "name", "number", "who", "so"]) (sc := defScope sScrollLets) (by decide +kernel)) (fun _ _ _ _ _ => (pg_tup rfl (pgs_cons (pg_name (i := 3) sc_Scroll_lets.nd rfl (.inl rfl)) (pgs_cons (pg_name (i := 4) sc_Scroll_lets.nd rfl (.inl rfl)) (pgs_cons (pg_name (i := 5) sc_Scroll_lets.nd rfl (.inl rfl)) pgs_nil))))) (fun _ _ _ _ _ => pts_one (pt_cmpR op_eq (pv 3) (pv 1) (nomark _))) (fun _ _ _ _ _ => (pe_cmpR op_eq (pv 5) (pe_cmpR op_eq (pv 2) (pv 4) (nomark _)) (nomark _)))) pa_nil))))), ?_⟩
    refine Evl.q_when (b := !(decide ((0 : Int) ≤ i) && decide (i < ((r.1.length : Nat) : Int)))) (et_not (et_test (ev_chainI (f := fun i j => decide (i ≤ j)) (g := fun i j => decide (i < j)) ev_c (ev_var rfl) (ev_is (ev_lenD (K := K) (ed_of (ev_fld (ev_var rfl) h.hs Y.cl Y.n2 (scF_signs _ _ _ _)) h.d2) (.inl rfl)) (by rw [List.length_map]))))) (fun hb H1 e1 => ?_) fun hb H1 e1 => ?_
    · have hni : ¬ ((0 : Int) ≤ i ∧ i < ((r.1.length : Nat) : Int)) := fun hc => by
        rw [decide_eq_true hc.1, decide_eq_true hc.2] at hb
        cases hb
      exact nos_made B.nm B.hw B.hat hl hz (fun R hR => ⟨_, rfl, hR⟩) fun d nd => qe hni H1 e1 d nd
    · have hin : (0 : Int) ≤ i ∧ i < ((r.1.length : Nat) : Int) := by
        rcases Decidable.em ((0 : Int) ≤ i) with a | a
        · rcases Decidable.em (i < ((r.1.length : Nat) : Int)) with b | b
          · exact ⟨a, b⟩
          · rw [decide_eq_true a, decide_eq_false b] at hb
            cases hb
        · rw [decide_eq_false a] at hb
          cases hb
      obtain ⟨j, rfl⟩ : ∃ j : Nat, i = (j : Int) := ⟨i.toNat, by omega⟩
      have q := q j rfl (by omega)
      have h := h.same e1
      refine (ev_allD (K := K) (bs := (r.2.2.filter fun x : Sd => decide (V.int x.1 = V.int (j : Int))).map fun x : Sd => decide (V.bl x.2.2 = V.bl (decide (V.str z = V.str x.2.1)))) (EvN.list (ds := _) (σ := [some (.ref s), some (.int (j : Int)), some (.str z), none, none, none]) ?_)) H1 (.refl H1) _ fun H2 e2 => q H2 (e1.trans e2)
      rw [List.map_map]
      refine en_lc r.2.2 dSd (fun x => decide (V.int x.1 = V.int (j : Int))) _ (ei_lst (ed_of (ev_fld (ev_var (i := 0) rfl) h.hs Y.cl Y.n3 (scF_said _ _ _ _)) h.d3)) (by omega) (fun x _ => by show fz (PyData.bool _) = true; unfold fz; rfl) fun i x H5 y hx e5 hdx R kk => tg3 hdx fun w1 w2 w3 b1 b2 b3 => ?_
      obtain rfl := dp_int b1
      obtain rfl := dp_str b2
      obtain rfl := dp_bl b3
      exact kk _ rfl (et_test (ev_op (ev_var rfl) (ev_var rfl) (rv_eq rfl))) fun _ => ed_bl (ev_op (ev_var rfl) (ev_op (ev_var rfl) (ev_var rfl) (rv_eq rfl)) (rv_eq rfl))
end
section
variable {Y : Cx} {k : Nat} {C : Addr} {m : Str} {ps : List Str} {sp : Sp} {pos apos : Pos} {o e : Expr} {es : List Expr} {ta : TE} {t : TA} {A : Around} {outer : List Env} {s : Shared} {H : Hp} {E : XK} {sc : Scope} {f cd : Addr}
/-- o.m(e, ..) in a lambda -/
theorem pe_lamMN {pl : Sem Bool} (he : PE (L2N.askC Y A outer s H E sc f cd) o ta) (c : MetN Y.prog Y.w Y.K Y.mg Y.base k C m ps sp) (hr : Room k (A.deeper (LamX.lamEnv Y sc s.heap.objs.size f cd))) (ha : PA (L2N.askC Y A outer s H E sc f cd) (e :: es) t)
    (hst : starEach (e :: es) (L2N.askC Y A outer s H E sc f cd).env = (false, eval e (L2N.askC Y A outer s H E sc f cd).env) :: starEach es (L2N.askC Y A outer s H E sc f cd).env := by rfl) (hpl : (backTo pos (starEach es (L2N.askC Y A outer s H E sc f cd).env)).any (·.1) = false := by rfl)
    (ht : eval (.Call (.Attribute o m apos) (e :: es) [] pos) (L2N.askC Y A outer s H E sc f cd).env = (do
      let ov ← eval o (L2N.askC Y A outer s H E sc f cd).env
      standAt apos.atName
      let (f9, first) ← holding [ov] (getMethod ov m pl)
      callWith pos f9 first (backTo pos (starEach (e :: es) (L2N.askC Y A outer s H E sc f cd).env)) (backToKw pos (keywordEach [] (L2N.askC Y A outer s H E sc f cd).env))) := by rfl) : PE (L2N.askC Y A outer s H E sc f cd) (.Call (.Attribute o m apos) (e :: es) [] pos) (tMeth C m sp [] E ta t) :=
  pe_methN (X := L2N.askC Y A outer s H E sc f cd) he c hr (passA (Y := Y)) ha hst hpl ht
end
end Ink
namespace Ink
open PySem PySem.Spec PyProof.Rows L2 Evl
theorem okD_bools (bs : List Bool) (h : bs.length ≤ 1000) : okD 5 (.list (bs.map PyData.bool)) := ⟨by rw [List.length_map]; omega, fun d hd => by
  obtain ⟨b, _, rfl⟩ := List.mem_map.mp hd
  trivial⟩
theorem okD_ref (z : Str) (d : PyData) (h : d = .none ∨ ∃ i, d = .int i) : okD 5 (.tuple [.str z, d]) := ⟨by show 2 ≤ 100000; decide, fun x hx => by
  simp only [List.mem_cons, List.not_mem_nil, or_false] at hx
  rcases hx with rfl | rfl
  · trivial
  · rcases h with rfl | ⟨i, rfl⟩ <;> trivial⟩
theorem num_ok {n : Int} (h : n.natAbs < 10 ^ 30) : n.natAbs.log2 < 1920 ∧ (Str.ofString (toString n)).length ≤ 1000 := ⟨num_log h, by
  have := num_len h
  show (dig n).length ≤ 1000
  omega⟩
section
variable {P : Program} {w : World} {K : PySem.W.Frag} {mg : Str → Option Value} {base : Heap}
theorem ok_law14 {f g C S NS cI cM cL c0 P0 : Addr} {fdr : FuncData} {k : Nat} {kV doc pm ct oc : Value} {an od : Option Addr} {osl : Array (Option Value)}
    (lk : K.lookup f = some ⟨oc, od, .func (PySem.W.fnOf "law" "law" (defArgs sLaw) (defBody sLaw) (defScope sLaw) .none kV doc pm an (.ref c0) ct), osl⟩) (hcd : PySem.W.codeIn K (.ref c0) "law" = true) (TB : LamX.TabB base mg c0 P0) (T : Txt mg)
    (F_refused : Fun K "_law_refused" "_law_refused" sLRefused g fdr) (m_refused : mg "_law_refused" = some (.ref g)) (k_refused : PySem.W.keepIn K (.ref g) = true) (b_refused : Binds K fdr ["_law_ask"] [])
    (hG : ∀ q, L2N.AskedBy P w K mg base (k + 1) (k + 2) ["_law_ask"] "_law_refused" (defScope sLRefused) (defBody sLRefused) q (ttRefused K cI cM cL)) (hX : PySem.W.exmAny K (.ref NS) [.ref cI, .ref cM, .ref cL] = some true) (hF : FldC K NS)
    (C__law_bag : Cal P w K mg base (k + 3) "_law_bag" ["_law_script"] (spBag K)) (C__law_scroll_drawn : Cal P w K mg base (k + 3) "_law_scroll_drawn" ["_law_bag_here", "_law_signs_most", "_law_steps_most", "_law_said_most"] (spDrawn K))
    (C__law_made : Cal P w K mg base (k + 3) "_law_made" ["_law_drawn"] (spMade P w K C S)) (C__law_broken : Cal P w K mg base (k + 3) "_law_broken" ["_law_talk", "_law_at", "_law_name"] (spP K RBroken))
    (C__law_far : Cal P w K mg base (k + 3) "_law_far" ["_law_bag_here"] spFarB) (M_Scroll_lets : MetC P w K mg base (k + 3) S "lets" ["self", "at", "name"] (spLets P w K C S)) (MN_Scroll_lets : MetN P w K mg base k S "lets" ["self", "at", "name"] (spLetN P w K C S NS))
    (C__law_like : Cal P w K mg base (k + 3) "_law_like" ["_law_found", "_law_due"] (spLike K 5)) :
    FnOk P w K mg base CX0 (k + 4) f (PySem.W.fnOf "law" "law" (defArgs sLaw) (defBody sLaw) (defScope sLaw) .none kV doc pm an (.ref c0) ct) ["_law_script"] (spLaw K P0) := by
  refine fn_of lk hcd sc_law (fun vs H Q E h => ?_) (fun A outer s H vs Q E hr h => ?_)
  · obtain ⟨c, ns, rfl, _⟩ := h
    rfl
  · obtain ⟨c, ns, rfl, hS, hlen, hT, q⟩ := h
    suffices key : ∃ t, PSs (cxOf CX0 P w K mg base ["_law_script", "_law_bag_here", "_law_turn", "_law_drawn", "_law_scroll", "_law_many", "_law_names_here", "_law_at", "_law_due", "_law_writer_here", "_law_name", "_law_yes"] "law" (defScope sLaw) f (.ref c0) A outer s H E).nox (defBody sLaw) t ∧ t { nx := fun _ H' => Q .non H', rt := Q } (start ["_law_script", "_law_bag_here", "_law_turn", "_law_drawn", "_law_scroll", "_law_many", "_law_names_here", "_law_at", "_law_due", "_law_writer_here", "_law_name", "_law_yes"] [.ref c]) H by
      obtain ⟨t, h1, h2⟩ := key
      exact ⟨t, h1.nox, h2⟩
    refine ⟨_, (pss_cons (ps_set (i := 1) sc_law.nd rfl (.inl rfl) (pe_callC C__law_bag hr (by rfl) (pa_cons (pv 0) pa_nil)))
    (pss_cons (ps_for PassesOwn.never rfl (pi_range1 (by rfl) T.m_range (pa_cons pe_int pa_nil)) (pg_name (i := 2) sc_law.nd rfl (.inl rfl))
    (pss_cons (ps_set (i := 3) sc_law.nd rfl (.inr rfl) (pe_callC C__law_scroll_drawn hr (by rfl) (pa_cons (pv 1) (pa_cons pe_int (pa_cons pe_int (pa_cons pe_int pa_nil))))))
    (pss_cons (ps_asg (pe_tup (pa_cons (pe_callC C__law_made hr (by rfl) (pa_cons (pv 3) pa_nil)) (pa_cons (pe_callB call_len (by rfl) T.m_len PySem.boot_len (pa_cons (pe_ix ix_tup (pe_ix ix_tup (pv 3) pe_int (fun _ _ => rfl)) pe_int (fun _ _ => rfl)) pa_nil)) pa_nil))) (pg_tup rfl (pgs_cons (pg_name (i := 4) sc_law.nd rfl (.inr rfl)) (pgs_cons (pg_name (i := 5) sc_law.nd rfl (.inl rfl)) pgs_nil))))
    (pss_cons (ps_set (i := 6) sc_law.nd rfl (.inl rfl) (pe_op op_cat (pe_op op_cat (pe_lc (own := [("_law_writer_here", 9)]) (g := (gName 9)) (by rfl) sc_law.nd (pi_list (pe_ix ix_tup (pv 3) pe_int (fun _ _ => rfl))) (blkOk_by (own := [("_law_writer_here", 9)]) (N := ["_law_script", "_law_bag_here", "_law_turn", "_law_drawn", "_law_scroll", "_law_many", "_law_names_here", "_law_at", "_law_due", "_law_writer_here", "_law_name", "_law_yes"]) (sc := defScope sLaw) (by decide +kernel)) (fun _ _ _ _ _ => (pg_name (i := 9) sc_law.nd rfl (Or.inl rfl))) (fun _ _ _ _ _ => pts_nil) (fun _ _ _ _ _ => (pe_ix (show IxR _ (rIxT K) from ix_tup) (pv 9) pe_int (fun _ _ => rfl)))) (pe_lst (pa_cons pe_str pa_nil))) (pe_lc (own := [("_law_at", 7), ("_law_name", 10), ("_law_yes", 11)]) (g := (gTup K 3 (gCons (gName 7) (gCons (gName 10) (gCons (gName 11) gNil))))) (by rfl) sc_law.nd (pi_list (pe_ix ix_tup (pv 3) pe_int (fun _ _ => rfl))) (blkOk_by (own := [("_law_at", 7), ("_law_name", 10), ("_law_yes", 11)]) (N := ["_law_script", "_law_bag_here", "_law_turn", "_law_drawn", "_law_scroll", "_law_many", "_law_names_here", "_law_at", "_law_due", "_law_writer_here", "_law_name", "_law_yes"]) (sc := defScope sLaw) (by decide +kernel)) (fun _ _ _ _ _ => (pg_tup rfl (pgs_cons (pg_name (i := 7) sc_law.nd rfl (.inl rfl)) (pgs_cons (pg_name (i := 10) sc_law.nd rfl (.inl rfl)) (pgs_cons (pg_name (i := 11) sc_law.nd rfl (.inl rfl)) pgs_nil))))) (fun _ _ _ _ _ => pts_nil) (fun _ _ _ _ _ => (pv 10)))))
    (pss_cons (ps_for PassesOwn.never rfl (pi_range1 (by rfl) T.m_range (pa_cons (pv 5) pa_nil)) (pg_name (i := 7) sc_law.nd rfl (.inr rfl))
    (pss_cons (ps_setLc (i := 8) (own := [("_law_name", 10)]) (g := (gName 10)) (by rfl) sc_law.nd rfl rfl (sw_true rfl rfl rfl (by decide +kernel)) (pi_list (pv 6)) (blkOk_by (own := [("_law_name", 10)]) (N := ["_law_script", "_law_bag_here", "_law_turn", "_law_drawn", "_law_scroll", "_law_many", "_law_names_here", "_law_at", "_law_due", "_law_writer_here", "_law_name", "_law_yes"]) (sc := defScope sLaw) (by decide +kernel)) (fun _ _ _ _ _ => (pg_name (i := 10) sc_law.nd rfl (Or.inl rfl))) (fun _ _ _ _ _ => pts_nil) (fun _ _ _ _ _ => (pe_cmpR op_eq (pe_callC C__law_broken hr (by rfl) (pa_cons (pe_ix (show IxR _ (rIxT K) from ix_tup) (pv 3) pe_int (fun _ _ => rfl)) (pa_cons (pv 7) (pa_cons (pv 10) pa_nil)))) pe_int (nomark _))))
    (pss_one (ps_if (pt_not (pt_val (pe_callC C__law_like hr (by rfl) (pa_cons (pe_lc (own := [("_law_name", 10)]) (g := (gName 10)) (by rfl) sc_law.nd (pi_list (pv 6)) (blkOk_by (own := [("_law_name", 10)]) (N := ["_law_script", "_law_bag_here", "_law_turn", "_law_drawn", "_law_scroll", "_law_many", "_law_names_here", "_law_at", "_law_due", "_law_writer_here", "_law_name", "_law_yes"]) (sc := defScope sLaw) (by decide +kernel)) (fun _ _ _ _ _ => (pg_name (i := 10) sc_law.nd rfl (Or.inl rfl))) (fun _ _ _ _ _ => pts_nil) (fun _ _ _ _ _ => (pe_methC (pv 4) M_Scroll_lets (hr.mono (by omega)) (pa_cons (pv 7) (pa_cons (pv 10) pa_nil))))) (pa_cons (pv 8) pa_nil)))))
    (pss_one (ps_ret pe_bl)) pss_nil))))
    (pss_one (ps_for PassesOwn.never rfl (pi_tup (pe_tup (pa_cons (pv 5) (pa_cons (pe_un un_neg pe_int) (pa_cons (pe_op op_add (pe_callC C__law_far hr (by rfl) (pa_cons (pv 1) pa_nil)) (pv 5)) pa_nil))))) (pg_name (i := 7) sc_law.nd rfl (.inr rfl))
    (pss_cons (ps_set (i := 8) sc_law.nd rfl (.inl rfl) (pe_ifExp (pt_chain op_le op_lt pe_int (pv 7) (pv 5)) (pe_tup (pa_cons pe_str (pa_cons pe_non pa_nil))) (pe_tup (pa_cons pe_str (pa_cons (pv 7) pa_nil)))))
    (pss_one (ps_if (pt_not (pt_val (pe_callC C__law_like hr (by rfl) (pa_cons (L2N.pe_asks (T := [(P0, lawQ)]) F_refused sc__law_refused (by rfl) m_refused k_refused b_refused (hG _) TB rfl (List.mem_singleton.mpr rfl) (fun p hp _ => by rw [List.mem_singleton.mp hp]; rfl) hr (show LamX.LamS (defScope sLaw) _ from LamX.lamS_by (by decide +kernel)) rfl (fun _ _ _ _ _ => rfl) (t := fun E => tMeth S "lets" (spLetN P w K C S NS) [] E (tVar 4) (tCons (tVar 7) (tCons (tC (.str "a")) tNil))) (fun A2 o2 s2 H2 E2 f2 c2 hr2 => pe_lamMN (pv 4) MN_Scroll_lets hr2 (pa_cons (pv 7) (pa_cons pe_str pa_nil)))) (pa_cons (pv 8) pa_nil)))))
    (pss_one (ps_ret pe_bl)) pss_nil))))))))))
    (pss_one (ps_ret pe_bl)))), ?_⟩
    refine ⟨.ref c, rfl, c, ns, rfl, hS, hlen, fun a l H1 na hB1 s1 => ?_⟩
    have hT1 := hT.ext s1
    refine ⟨3, rfl, by decide, by decide, for_it walk_range0 (fun i σ' H' => (∃ y2 y3 y4 y5 y6 y7 y8 y9 y10 y11, σ' = [some (.ref c), some (.ref a), y2, y3, y4, y5, y6, y7, y8, y9, y10, y11]) ∧ BagAt H' a l ∧ LamX.Tabs [(P0, lawQ)] H') ⟨⟨none, none, none, none, none, none, none, none, none, none, rfl⟩, hB1, hT1⟩ (fun _ _ _ _ _ => True.intro) (fun i y σ' Ha Hb hi hP hy => ?_) (fun σ' H' hP => ?_)⟩
    · obtain ⟨⟨y2, y3, y4, y5, y6, y7, y8, y9, y10, y11, rfl⟩, hB2, hT2⟩ := hP
      obtain ⟨rfl, rfl⟩ := hy
      refine ⟨.ref a, rfl, a, l, 2, 6, 8, rfl, hB2, by decide, by decide, by decide, by decide, by decide, by decide, fun u m tr t H4 gd hu hB4 k4 => ?_⟩
      have hT4 := tabs_keep hB2 k4 hT2
      have gr := gd.row
      have hu' : ∀ {H' : Hp}, Dp K H' u (dDr m tr t) → Dp K H' u (.tuple [.list (m.map dW), .list (tr.map dSL), .list (t.map dSd), .tuple [.list ((sigsOf tr).map .str), .list ((crewsOf m tr).map dCh), .list (t.map dSd)]]) := fun h => h
      dsimp only
      refine q_asgTup2 ?_
      refine ⟨u, rfl, u, m, tr, t, rfl, gd, hu, fun sc H5 e5 hS5 => ?_⟩
      have hu5 := dp_same e5 hu
      refine (ev_is (w := .int ((sigsOf tr).length : Nat)) (ev_lenD (K := K) (σ := [some (.ref c), some (.ref a), some (.int (i : Int)), some u, y4, y5, y6, y7, y8, y9, y10, y11]) (ed_ixT (ed_ixT (ed_var (i := 3) rfl (hu' hu5)) ev_c (by decide) rfl) ev_c (by decide) rfl) (.inl rfl)) (by rw [List.length_map])) H5 (.refl H5) _ fun H6 e6 => ⟨by show 2 ≤ sizeLine; decide, fun tp ntp => ?_⟩
      refine ⟨tp, _, rfl, .of upd_same, rfl, _, _, rfl, _, _, rfl, rfl, ?_⟩
      have e46 := (e5.trans e6).trans (Ex.new (o := .tup [V.ref sc, V.int ((sigsOf tr).length : Nat)]) ntp)
      have hS7 := (hS5.same e6).same (Ex.new (o := .tup [V.ref sc, V.int ((sigsOf tr).length : Nat)]) ntp)
      generalize upd H6 tp (.tup [V.ref sc, V.int ((sigsOf tr).length : Nat)]) = H7 at e46 hS7
      have hu7 := dp_same e46 hu
      have hB7 := hB4.same e46
      have hT7 := hT4.ext e46
      dsimp only
      have l3 := gd.g.len
      have lt20 := gd.t.len
      have lm20 := Nat.le_trans (sigs_le tr) gd.len
      refine sd_asgN (K := K) (en_cat (en_cat (EvN.m (ds := (m.map (·.1)).map PyData.str) ?_) (en_lst (eds_cons (ed_str ev_c) eds_nil) (by show 1 ≤ 100000; decide)).m (by rw [List.length_map, List.length_map]; show _ + 1 ≤ 100000; omega)).m (EvN.m (ds := (t.map (·.2.1)).map PyData.str) ?_) (by rw [List.length_append, List.length_map, List.length_map, List.length_map, List.length_map]; show _ + 1 + _ ≤ 100000; omega)) fun np0 vs H8 nnp e8 hnp hvs => ?_
      · rw [List.map_map]
        exact en_map m dW _ (ei_lst (ed_ixT (ed_var (i := 3) rfl (hu' hu7)) ev_c (by decide) rfl)) (m_le gd.g (by decide)) (fun x _ => by show fz (PyData.str _) = true; unfold fz; rfl) fun j x H5 y hx e5 hdx R kk => kk _ rfl (ed_ixT (ed_var rfl hdx) ev_c (by decide) rfl)
      · rw [List.map_map]
        exact en_map t dSd _ (ei_lst (ed_ixT (ed_var (i := 3) rfl (hu' hu7)) ev_c (by decide) rfl)) (by omega) (fun x _ => by show fz (PyData.str _) = true; unfold fz; rfl) fun j x H5 y hx e5 hdx R kk => tg3 hdx fun w1 w2 w3 b1 b2 b3 => kk _ rfl (ed_var rfl b2)
      have hvs : DpAll K H8 vs ((m.map (·.1) ++ [Str.ofString "nobody"] ++ t.map (·.2.1)).map PyData.str) := by
        rw [List.map_append, List.map_append]
        exact hvs
      have zl : (m.map (·.1) ++ [Str.ofString "nobody"] ++ t.map (·.2.1)).length ≤ 40 := by
        rw [List.length_append, List.length_append, List.length_map, List.length_map]
        show _ + 1 + _ ≤ 40
        omega
      generalize m.map (·.1) ++ [Str.ofString "nobody"] ++ t.map (·.2.1) = zs at hvs zl
      have hnd : Dp K H8 (.ref np0) (.list (zs.map PyData.str)) := .lst (.of hnp) hvs
      have hu8 := dp_same e8 hu7
      have hB8 := hB7.same e8
      have hT8 := hT7.ext e8
      have hS8 := hS7.same e8
      dsimp only
      -- of each sign, each name
      refine for_rng (n := (sigsOf tr).length) (ev_var rfl) (by omega) fun H9 e9 => for_it walk_range0 (fun j σ' H' => (∃ y7 y8 y9 y10 y11, σ' = [some (.ref c), some (.ref a), some (.int (i : Int)), some u, some (.ref sc), some (.int ((sigsOf tr).length : Nat)), some (.ref np0), y7, y8, y9, y10, y11]) ∧ Ex H8 H') ⟨⟨_, _, _, _, _, rfl⟩, e9⟩ (fun _ _ _ _ _ => True.intro) (fun j y σ' Hc Hd hj hP hy => ?_) (fun σ' H' hP => ?_)
      · obtain ⟨⟨y7, y8, y9, y10, y11, rfl⟩, eH⟩ := hP
        obtain ⟨rfl, rfl⟩ := hy
        dsimp only
        have hudn := dp_same eH hu8
        have hndn := dp_same eH hnd
        have hSdn := hS8.same eH
        refine sd_asgN (K := K) (en_map zs PyData.str (fun z => .bool (letsM t (j : Int) z)) (ei_lst (ed_var rfl hndn)) (by omega) (fun x _ => by show fz (PyData.bool _) = true; unfold fz; rfl) fun o z H5 y hx e5 hdx R kk => by
          obtain rfl := dp_str hdx
          exact kk _ rfl (ed_is (ed_bl (ev_op (ev_int (ed_call (eds_cons (ed_ixT (ed_var (i := 3) rfl (hu' (dp_same e5 hudn))) ev_c (by decide) rfl) (eds_cons (ed_int (ev_var rfl)) (eds_cons (ed_str (ev_var rfl)) eds_nil))) ⟨t, (j : Int), z, by omega, rfl, rfl⟩)) ev_c (rv_eq rfl))) (by rw [lets_broken]))) fun dp dvs He nd ee hdp hdvs => ?_
        have hdd : Dp K He (.ref dp) (.list (zs.map fun z => .bool (letsM t (j : Int) z))) := .lst (.of hdp) hdvs
        have hSe := hSdn.same ee
        have hnde := dp_same ee hndn
        refine s_if (b := !true) (et_not (et_B (ev_like1 (EvN.list (en_map zs PyData.str (fun z => .bool (letsM t (j : Int) z)) (ei_lst (ed_var rfl hnde)) (by omega) (fun x _ => by show fz (PyData.bool _) = true; unfold fz; rfl) fun o z H5 y hx e5 hdx R kk => by
          obtain rfl := dp_str hdx
          exact kk _ rfl (ed_bl (ev_letsM (r := (sigsOf tr, crewsOf m tr, t)) (ev_var rfl) (ev_var rfl) (ev_var rfl) (hSe.same e5) gr hj)))) (ed_var rfl hdd) ?_))) (fun hb => by cases hb) fun _ Hf ef => ⟨⟨_, _, _, _, _, rfl⟩, (eH.trans ee).trans ef⟩
        have := okD_bools (zs.map fun z => letsM t (j : Int) z) (by rw [List.length_map]; omega)
        rw [List.map_map] at this
        exact this
      · obtain ⟨⟨y7, y8, y9, y10, y11, rfl⟩, eH⟩ := hP
        have hS9 := hS8.same eH
        have hB9 := hB8.same eH
        have hT9 := hT8.ext eH
        clear hu8 hu7 hu5 hu hnd hvs hnp e9
        dsimp only
        -- no sign of it
        refine ⟨.int ((sigsOf tr).length : Nat), rfl, 1, rfl, .ref a, rfl, a, l, rfl, hB9, fun n H10 hn hB10 k10 => ⟨.int ((sigsOf tr).length : Nat), rfl, n, ((sigsOf tr).length : Nat), rfl, rfl, by show 3 ≤ sizeLine; decide, fun p np => ⟨p, rfl, ⟨_, .of upd_same⟩, for_it (walk_tup (K := K) (a := p) (xs := [V.int ((sigsOf tr).length : Nat), V.int (-1), V.int (n + ((sigsOf tr).length : Nat))])) (fun j σ' H' => (∃ y7 y8 y9 y10 y11, σ' = [some (.ref c), some (.ref a), some (.int (i : Int)), some u, some (.ref sc), some (.int ((sigsOf tr).length : Nat)), some (.ref np0), y7, y8, y9, y10, y11]) ∧ BagAt H' a l ∧ LamX.Tabs [(P0, lawQ)] H' ∧ ScAt P w K C S H' sc (sigsOf tr, crewsOf m tr, t) 0 ∧ SqT K H' p [V.int ((sigsOf tr).length : Nat), V.int (-1), V.int (n + ((sigsOf tr).length : Nat))]) ⟨⟨_, _, _, _, _, rfl⟩, ?_, ?_, ?_, .of upd_same⟩ (fun _ _ _ _ hP => hP.2.2.2.2) (fun j y σ' Hc Hd hj hP hy => ?_) (fun σ' H' hP => ?_)⟩⟩⟩
        · exact hB10.same (Ex.new np)
        · exact (tabs_keep hB9 k10 hT9).ext (Ex.new np)
        · exact (hS9.keep hB9 k10).same (Ex.new np)
        · obtain ⟨⟨y7, y8, y9, y10, y11, rfl⟩, hBc, hTc, hSc, hpc⟩ := hP
          obtain ⟨rfl, hx⟩ := hy
          obtain ⟨v, rfl, hv⟩ : ∃ v : Int, y = .int v ∧ v.natAbs < 10 ^ 30 := by
            have := List.mem_of_getElem? hx
            simp only [List.mem_cons, List.not_mem_nil, or_false] at this
            rcases this with rfl | rfl | rfl
            · exact ⟨_, rfl, by omega⟩
            · exact ⟨_, rfl, by decide⟩
            · exact ⟨_, rfl, by omega⟩
          clear hx
          have hnum := num_ok hv
          dsimp only
          rcases Decidable.em ((0 : Int) ≤ v ∧ v < ((sigsOf tr).length : Nat)) with hin | hin
          · refine sd_asg (K := K) (d := .tuple [.str (Str.ofString ""), .none]) (ed_if (b := true) (et_is (et_test (ev_chainI (f := fun i j => decide (i ≤ j)) (g := fun i j => decide (i < j)) ev_c (ev_var rfl) (ev_var rfl))) (by rw [decide_eq_true hin.1, decide_eq_true hin.2]; rfl)) (fun _ => ed_tup (eds_cons (ed_str ev_c) (eds_cons (ed_non ev_c) eds_nil)) (by show 2 ≤ 100000; decide)) (fun h => by cases h)) fun du H11 e11 hdu => ?_
            refine ⟨hTc.ext e11, fun H12 x12 T12 => ?_⟩
            intro H13 E2 Q2 s13 hE hQ
            have hS12 := ((hSc.same e11).extN x12).same s13
            have hdu12 := dp_same s13 (dp_ext x12 hdu)
            have hB12 := (bag_ext x12 (hBc.same e11)).same s13
            have hp12 := ex_t s13 (tk_ext x12 _ _ (ex_t e11 hpc))
            have hT12 := T12.ext s13
            obtain ⟨dx, u1, u2, u3, qq, ps, D, h⟩ := hS12.e
            refine ⟨.ref sc, rfl, sc, dx, _, rfl, h.hs, scF_no _ _ _ _ nm_2.1 nm_2.2.1 nm_2.2.2.1 nm_2.2.2.2, .int v, rfl, sc, (sigsOf tr, crewsOf m tr, t), 0, v, "a", rfl, hS12, gr, hnum.1, hnum.2, fun j ej hj H14 e14 => ?_, fun hn _ _ => absurd hin hn⟩
            refine hQ _ _ fun p2 np2 => ⟨p2, _, _, _, rfl, upd_same, fun p3 np3 => ?_⟩
            have s15 := (e14.trans (same_new np2)).trans (same_new (o := .tup [V.str "", V.non]) np3)
            have hp3 : (upd (upd H14 p2 (.tup [V.bl (letsM t j "a"), V.str "", V.non])) p3 (.tup [V.str "", V.non])) p3 = some (.tup [V.str "", V.non]) := upd_same
            refine ⟨du, rfl, .ref p3, du, rfl, lk_dp 5 (.tuple [.str "", .none]) _ _ (okD_ref _ _ (.inl rfl)) (.tup (.of hp3) (.cons (.str _) (.cons .non .nil))) (dp_same s15 hdu12), fun H16 s16 => ⟨true, rfl, iteF ?_⟩⟩
            have s17 := s15.trans s16
            exact ⟨⟨_, _, _, _, _, rfl⟩, hB12.same s17, hT12.ext s17, hS12.same s17, ex_t s17 hp12⟩
          · refine sd_asg (K := K) (d := .tuple [.str (Str.ofString "NoSign"), .int v]) (ed_if (b := false) (et_is (et_test (ev_chainI (f := fun i j => decide (i ≤ j)) (g := fun i j => decide (i < j)) ev_c (ev_var rfl) (ev_var rfl))) ?_) (fun h => by cases h) (fun _ => ed_tup (eds_cons (ed_str ev_c) (eds_cons (ed_int (ev_var rfl)) eds_nil)) (by show 2 ≤ 100000; decide))) fun du H11 e11 hdu => ?_
            · rcases Decidable.em ((0 : Int) ≤ v) with h0 | h0
              · rw [decide_eq_true h0, decide_eq_false (fun h1 => hin ⟨h0, h1⟩)]
                rfl
              · rw [decide_eq_false h0]
                rfl
            refine ⟨hTc.ext e11, fun H12 x12 T12 => ?_⟩
            intro H13 E2 Q2 s13 hE hQ
            have hS12 := ((hSc.same e11).extN x12).same s13
            have hdu12 := dp_same s13 (dp_ext x12 hdu)
            have hB12 := (bag_ext x12 (hBc.same e11)).same s13
            have hp12 := ex_t s13 (tk_ext x12 _ _ (ex_t e11 hpc))
            have hT12 := T12.ext s13
            obtain ⟨dx, u1, u2, u3, qq, ps, D, h⟩ := hS12.e
            refine ⟨.ref sc, rfl, sc, dx, _, rfl, h.hs, scF_no _ _ _ _ nm_2.1 nm_2.2.1 nm_2.2.2.1 nm_2.2.2.2, .int v, rfl, sc, (sigsOf tr, crewsOf m tr, t), 0, v, "a", rfl, hS12, gr, hnum.1, hnum.2, fun j ej hj => absurd ⟨by rw [ej]; omega, by rw [ej]; exact Int.ofNat_lt.mpr hj⟩ hin, fun _ H14 e14 dd ndd => hE _ _ _ ?_⟩
            have sdd := e14.trans (same_new (o := .xd [("at", .int v), ("word", .str "NoSign")]) ndd)
            refine ⟨NS, dd, "NoSign", .int v, rfl, rfl, hX, ⟨hF, _, upd_same, rfl, ?_⟩, fun p2 H15 s15 np2 => ⟨p2, _, _, _, rfl, upd_same, fun p3 np3 => ?_⟩⟩
            · unfold FieldIs
              rw [show fieldN "NoSign" = some "at" from by decide +kernel]
              rfl
            have s16 := ((sdd.trans s15).trans (same_new np2)).trans (same_new (o := .tup [V.str "NoSign", V.int v]) np3)
            have hp3 : (upd (upd H15 p2 (.tup [V.non, V.str "NoSign", V.int v])) p3 (.tup [V.str "NoSign", V.int v])) p3 = some (.tup [V.str "NoSign", V.int v]) := upd_same
            refine ⟨du, rfl, .ref p3, du, rfl, lk_dp 5 (.tuple [.str "NoSign", .int v]) _ _ (okD_ref _ _ (.inr ⟨_, rfl⟩)) (.tup (.of hp3) (.cons (.str _) (.cons (.int _) .nil))) (dp_same s16 hdu12), fun H17 s17 => ⟨true, rfl, iteF ?_⟩⟩
            have s18 := s16.trans s17
            exact ⟨⟨_, _, _, _, _, rfl⟩, hB12.same s18, hT12.ext s18, hS12.same s18, ex_t s18 hp12⟩
        · obtain ⟨⟨y7, y8, y9, y10, y11, rfl⟩, hBc, hTc, hSc, hpc⟩ := hP
          exact ⟨⟨_, _, _, _, _, _, _, _, _, _, rfl⟩, hBc, hTc⟩
    · obtain ⟨⟨y2, y3, y4, y5, y6, y7, y8, y9, y10, y11, rfl⟩, hB2, hT2⟩ := hP
      exact q H'
end
end Ink
namespace Ink
open PySem PySem.Spec PyProof.Rows L2 Evl
theorem kb_scroll {K : PySem.W.Frag} {f : Addr} {fd : FuncData} {a b : V} (F : FunD K "__init__" "Scroll.__init__" (defArgs sScrollInit) (defBody sScrollInit) (defScope sScrollInit) [] [(("steps" : Str), a), (("said" : Str), b)] f fd) :
    ∃ g, KBn K fd ["self", "company", "steps", "said"] 2 ["steps", "said"] g (fun vs zs => vs ++ zs) := by
  obtain ⟨mv, h⟩ := F.kbinds0 (ps := ["self", "company", "steps", "said"]) 2 ["steps", "said"] [] (fun vs _ zs => vs ++ zs) (by simp) (fun q h => by cases h) (fun r1 _ r3 => r1.append r3) (fun D doc pm an cdv ct us mv ws l1 l2 l3 => match us, mv, ws, l1, l2, l3 with | [_, _], [], [_, _], _, _, _ => rfl)
  exact ⟨_, h⟩
end Ink
namespace Ink
open PySem PySem.Spec PyProof.Rows L2
theorem all_mk {l : PySem.W.OpenLaw} {w : World} {K : PySem.W.Frag} {h : Heap} {mg : Str → Option Value} {fa fl : Addr} (X : K.In h) (G : h.Ns mainGlobals mg) (hfa : mg "law" = some (.ref fa))
    {c0 P0 : Addr} {oc1 kV1 dc1 pm1 cd1 ct1 : Value} {od1 an1 : Option Addr} {sl1 : Array (Option Value)} {f1 : Addr} {oc2 kV2 dc2 pm2 cd2 ct2 : Value} {od2 an2 : Option Addr} {sl2 : Array (Option Value)} {f2 : Addr} {oc3 kV3 dc3 pm3 cd3 ct3 : Value} {od3 an3 : Option Addr} {sl3 : Array (Option Value)} {f3 : Addr} {oc4 kV4 dc4 pm4 cd4 ct4 : Value} {od4 an4 : Option Addr} {sl4 : Array (Option Value)} {f4 : Addr} {oc5 kV5 dc5 pm5 cd5 ct5 : Value} {od5 an5 : Option Addr} {sl5 : Array (Option Value)} {f5 : Addr} {oc6 kV6 dc6 pm6 cd6 ct6 : Value} {od6 an6 : Option Addr} {sl6 : Array (Option Value)} {f6 : Addr} {oc7 kV7 dc7 pm7 cd7 ct7 : Value} {od7 an7 : Option Addr} {sl7 : Array (Option Value)} {f7 : Addr} {oc8 kV8 dc8 pm8 cd8 ct8 : Value} {od8 an8 : Option Addr} {sl8 : Array (Option Value)} {f8 : Addr} {oc9 kV9 dc9 pm9 cd9 ct9 : Value} {od9 an9 : Option Addr} {sl9 : Array (Option Value)} {f9 : Addr} {oc10 kV10 dc10 pm10 cd10 ct10 : Value} {od10 an10 : Option Addr} {sl10 : Array (Option Value)} {f10 : Addr} {oc11 kV11 dc11 pm11 cd11 ct11 : Value} {od11 an11 : Option Addr} {sl11 : Array (Option Value)} {f11 : Addr} {oc12 kV12 dc12 pm12 cd12 ct12 : Value} {od12 an12 : Option Addr} {sl12 : Array (Option Value)} {f12 : Addr} {oc13 kV13 dc13 pm13 cd13 ct13 : Value} {od13 an13 : Option Addr} {sl13 : Array (Option Value)} {f13 : Addr} {oc14 kV14 dc14 pm14 cd14 ct14 : Value} {od14 an14 : Option Addr} {sl14 : Array (Option Value)} {f14 : Addr} {oc15 kV15 dc15 pm15 cd15 ct15 : Value} {od15 an15 : Option Addr} {sl15 : Array (Option Value)} {f15 : Addr} {oc16 kV16 dc16 pm16 cd16 ct16 : Value} {od16 an16 : Option Addr} {sl16 : Array (Option Value)} {f16 : Addr} {oc17 kV17 dc17 pm17 cd17 ct17 : Value} {od17 an17 : Option Addr} {sl17 : Array (Option Value)} {f17 : Addr} {oc18 kV18 dc18 pm18 cd18 ct18 : Value} {od18 an18 : Option Addr} {sl18 : Array (Option Value)} {f18 : Addr} {oc19 kV19 dc19 pm19 cd19 ct19 : Value} {od19 an19 : Option Addr} {sl19 : Array (Option Value)} {f19 : Addr} {oc20 kV20 dc20 pm20 cd20 ct20 : Value} {od20 an20 : Option Addr} {sl20 : Array (Option Value)} {f20 : Addr} {oc21 kV21 dc21 pm21 cd21 ct21 : Value} {od21 an21 : Option Addr} {sl21 : Array (Option Value)} {f21 : Addr} {oc22 kV22 dc22 pm22 cd22 ct22 : Value} {od22 an22 : Option Addr} {sl22 : Array (Option Value)} {f22 : Addr} {oc23 kV23 dc23 pm23 cd23 ct23 : Value} {od23 an23 : Option Addr} {sl23 : Array (Option Value)} {f23 : Addr} {oc24 kV24 dc24 pm24 cd24 ct24 : Value} {od24 an24 : Option Addr} {sl24 : Array (Option Value)} {f24 : Addr} {oc25 kV25 dc25 pm25 cd25 ct25 : Value} {od25 an25 : Option Addr} {sl25 : Array (Option Value)} {f25 : Addr} {oc26 kV26 dc26 pm26 cd26 ct26 : Value} {od26 an26 : Option Addr} {sl26 : Array (Option Value)} {f26 : Addr} {oc27 kV27 dc27 pm27 cd27 ct27 : Value} {od27 an27 : Option Addr} {sl27 : Array (Option Value)} {f27 : Addr} {oc28 kV28 dc28 pm28 cd28 ct28 : Value} {od28 an28 : Option Addr} {sl28 : Array (Option Value)} {f28 : Addr} {oc29 kV29 dc29 pm29 cd29 ct29 : Value} {od29 an29 : Option Addr} {sl29 : Array (Option Value)} {f29 : Addr} {oc30 kV30 dc30 pm30 cd30 ct30 : Value} {od30 an30 : Option Addr} {sl30 : Array (Option Value)} {f30 : Addr} {oc31 kV31 dc31 pm31 cd31 ct31 : Value} {od31 an31 : Option Addr} {sl31 : Array (Option Value)} {f31 : Addr} {oc32 kV32 dc32 pm32 cd32 ct32 : Value} {od32 an32 : Option Addr} {sl32 : Array (Option Value)} {f32 : Addr} {oc33 kV33 dc33 pm33 cd33 ct33 : Value} {od33 an33 : Option Addr} {sl33 : Array (Option Value)} {f33 : Addr} {oc34 kV34 dc34 pm34 cd34 ct34 : Value} {od34 an34 : Option Addr} {sl34 : Array (Option Value)} {f34 : Addr} {oc35 kV35 dc35 pm35 cd35 ct35 : Value} {od35 an35 : Option Addr} {sl35 : Array (Option Value)} {f35 : Addr} {oc36 kV36 dc36 pm36 cd36 ct36 : Value} {od36 an36 : Option Addr} {sl36 : Array (Option Value)} {f36 : Addr} {oc37 kV37 dc37 pm37 cd37 ct37 : Value} {od37 an37 : Option Addr} {sl37 : Array (Option Value)} {f37 : Addr} {oc38 kV38 dc38 pm38 cd38 ct38 : Value} {od38 an38 : Option Addr} {sl38 : Array (Option Value)} {f38 : Addr} {oc39 kV39 dc39 pm39 cd39 ct39 : Value} {od39 an39 : Option Addr} {sl39 : Array (Option Value)} {f39 : Addr} {oc40 kV40 dc40 pm40 cd40 ct40 : Value} {od40 an40 : Option Addr} {sl40 : Array (Option Value)} {f40 : Addr} {oc41 kV41 dc41 pm41 cd41 ct41 : Value} {od41 an41 : Option Addr} {sl41 : Array (Option Value)} {f41 : Addr} {oc42 kV42 dc42 pm42 cd42 ct42 : Value} {od42 an42 : Option Addr} {sl42 : Array (Option Value)} {f42 : Addr} {oc43 kV43 dc43 pm43 cd43 ct43 : Value} {od43 an43 : Option Addr} {sl43 : Array (Option Value)} {f43 : Addr} {oc44 kV44 dc44 pm44 ct44 : Value} {od44 an44 : Option Addr} {sl44 : Array (Option Value)} {t1 : Tok} {t2 : Tok} {t3 : Tok} {t4 : Tok} {t5 : Tok} {C SC DK e1 e2 T0 e0 r0 : Addr} {cT : Value} {oT oE oN : Option Addr} {nT nE nN : Nat} {sT sE sN : Array (Option Value)} {u1 u2 : Tok} {T1 xI xM xL : Addr} {cU : Value} {oU : Option Addr} {nU : Nat} {sU : Array (Option Value)} {u3 : Tok} {NS NNS : Addr} {qNS : Str} {bsNS bmNS subNS : List Value} {snNS : List Str} {abNS : Bool} {colNS : Option Bool} {ddNS : Option Addr} {kaNS kbNS kdNS kfNS : Option Value} {tkNS : Tok} {ocA kVA dcA pmA cdA ctA : Value} {odA anA : Option Addr} {slA : Array (Option Value)} {fA : Addr} {ocW kVW dcW pmW cdW ctW : Value} {odW anW : Option Addr} {slW : Array (Option Value)} {fW : Addr} {ocI dcI pmI cdI ctI : Value} {odI anI : Option Addr} {slI : Array (Option Value)} {fI : Addr} {ocM kVM dcM pmM cdM ctM : Value} {odM anM : Option Addr} {slM : Array (Option Value)} {fM : Addr} {ocY kVY dcY pmY cdY ctY : Value} {odY anY : Option Addr} {slY : Array (Option Value)} {fY : Addr} {ocE kVE dcE pmE cdE ctE : Value} {odE anE : Option Addr} {slE : Array (Option Value)} {fE : Addr}
    (hT8 : ∀ Q ∈ [P0], h.get? Q = some (PySem.W.tabObj #[]))
    (a1 : PySem.W.nsIn K mainGlobals "is_name" = some (some (.ref f1))) (l1 : K.lookup f1 = some ⟨oc1, od1, .func (PySem.W.fnOf "is_name" "is_name" (defArgs sIsName) (defBody sIsName) (defScope sIsName) .none kV1 dc1 pm1 an1 cd1 ct1), sl1⟩) (c1 : PySem.W.codeIn K cd1 "is_name" = true) (k1 : PySem.W.keepIn K (.ref f1) = true)
    (a2 : PySem.W.nsIn K mainGlobals "is_sign" = some (some (.ref f2))) (l2 : K.lookup f2 = some ⟨oc2, od2, .func (PySem.W.fnOf "is_sign" "is_sign" (defArgs sIsSign) (defBody sIsSign) (defScope sIsSign) .none kV2 dc2 pm2 an2 cd2 ct2), sl2⟩) (c2 : PySem.W.codeIn K cd2 "is_sign" = true) (k2 : PySem.W.keepIn K (.ref f2) = true)
    (a3 : PySem.W.nsIn K mainGlobals "is_writer" = some (some (.ref f3))) (l3 : K.lookup f3 = some ⟨oc3, od3, .func (PySem.W.fnOf "is_writer" "is_writer" (defArgs sIsWriter) (defBody sIsWriter) (defScope sIsWriter) .none kV3 dc3 pm3 an3 cd3 ct3), sl3⟩) (c3 : PySem.W.codeIn K cd3 "is_writer" = true) (k3 : PySem.W.keepIn K (.ref f3) = true)
    (a4 : PySem.W.nsIn K mainGlobals "_is_count" = some (some (.ref f4))) (l4 : K.lookup f4 = some ⟨oc4, od4, .func (PySem.W.fnOf "_is_count" "_is_count" (defArgs sIsCount) (defBody sIsCount) (defScope sIsCount) .none kV4 dc4 pm4 an4 cd4 ct4), sl4⟩) (c4 : PySem.W.codeIn K cd4 "_is_count" = true) (k4 : PySem.W.keepIn K (.ref f4) = true)
    (a5 : PySem.W.nsIn K mainGlobals "_is_place" = some (some (.ref f5))) (l5 : K.lookup f5 = some ⟨oc5, od5, .func (PySem.W.fnOf "_is_place" "_is_place" (defArgs sIsPlace) (defBody sIsPlace) (defScope sIsPlace) .none kV5 dc5 pm5 an5 cd5 ct5), sl5⟩) (c5 : PySem.W.codeIn K cd5 "_is_place" = true) (k5 : PySem.W.keepIn K (.ref f5) = true)
    (a6 : PySem.W.nsIn K mainGlobals "_are_arrows" = some (some (.ref f6))) (l6 : K.lookup f6 = some ⟨oc6, od6, .func (PySem.W.fnOf "_are_arrows" "_are_arrows" (defArgs sAreArrows) (defBody sAreArrows) (defScope sAreArrows) .none kV6 dc6 pm6 an6 cd6 ct6), sl6⟩) (c6 : PySem.W.codeIn K cd6 "_are_arrows" = true) (k6 : PySem.W.keepIn K (.ref f6) = true)
    (a7 : PySem.W.nsIn K mainGlobals "_minds" = some (some (.ref f7))) (l7 : K.lookup f7 = some ⟨oc7, od7, .func (PySem.W.fnOf "_minds" "_minds" (defArgs sMinds) (defBody sMinds) (defScope sMinds) .none kV7 dc7 pm7 an7 cd7 ct7), sl7⟩) (c7 : PySem.W.codeIn K cd7 "_minds" = true) (k7 : PySem.W.keepIn K (.ref f7) = true)
    (a8 : PySem.W.nsIn K mainGlobals "_may_write" = some (some (.ref f8))) (l8 : K.lookup f8 = some ⟨oc8, od8, .func (PySem.W.fnOf "_may_write" "_may_write" (defArgs sMayWrite) (defBody sMayWrite) (defScope sMayWrite) .none kV8 dc8 pm8 an8 cd8 ct8), sl8⟩) (c8 : PySem.W.codeIn K cd8 "_may_write" = true) (k8 : PySem.W.keepIn K (.ref f8) = true)
    (a9 : PySem.W.nsIn K mainGlobals "_behind" = some (some (.ref f9))) (l9 : K.lookup f9 = some ⟨oc9, od9, .func (PySem.W.fnOf "_behind" "_behind" (defArgs sBehind) (defBody sBehind) (defScope sBehind) .none kV9 dc9 pm9 an9 cd9 ct9), sl9⟩) (c9 : PySem.W.codeIn K cd9 "_behind" = true) (k9 : PySem.W.keepIn K (.ref f9) = true)
    (a10 : PySem.W.nsIn K mainGlobals "_steps_of" = some (some (.ref f10))) (l10 : K.lookup f10 = some ⟨oc10, od10, .func (PySem.W.fnOf "_steps_of" "_steps_of" (defArgs sStepsOf) (defBody sStepsOf) (defScope sStepsOf) .none kV10 dc10 pm10 an10 cd10 ct10), sl10⟩) (c10 : PySem.W.codeIn K cd10 "_steps_of" = true) (k10 : PySem.W.keepIn K (.ref f10) = true)
    (a11 : PySem.W.nsIn K mainGlobals "_law_bag" = some (some (.ref f11))) (l11 : K.lookup f11 = some ⟨oc11, od11, .func (PySem.W.fnOf "_law_bag" "_law_bag" (defArgs sLBag) (defBody sLBag) (defScope sLBag) .none kV11 dc11 pm11 an11 cd11 ct11), sl11⟩) (c11 : PySem.W.codeIn K cd11 "_law_bag" = true) (k11 : PySem.W.keepIn K (.ref f11) = true)
    (a12 : PySem.W.nsIn K mainGlobals "_law_pull" = some (some (.ref f12))) (l12 : K.lookup f12 = some ⟨oc12, od12, .func (PySem.W.fnOf "_law_pull" "_law_pull" (defArgs sLPull) (defBody sLPull) (defScope sLPull) .none kV12 dc12 pm12 an12 cd12 ct12), sl12⟩) (c12 : PySem.W.codeIn K cd12 "_law_pull" = true) (k12 : PySem.W.keepIn K (.ref f12) = true)
    (a13 : PySem.W.nsIn K mainGlobals "_law_of" = some (some (.ref f13))) (l13 : K.lookup f13 = some ⟨oc13, od13, .func (PySem.W.fnOf "_law_of" "_law_of" (defArgs sLOf) (defBody sLOf) (defScope sLOf) .none kV13 dc13 pm13 an13 cd13 ct13), sl13⟩) (c13 : PySem.W.codeIn K cd13 "_law_of" = true) (k13 : PySem.W.keepIn K (.ref f13) = true)
    (a14 : PySem.W.nsIn K mainGlobals "_law_letters" = some (some (.ref f14))) (l14 : K.lookup f14 = some ⟨oc14, od14, .func (PySem.W.fnOf "_law_letters" "_law_letters" (defArgs sLLetters) (defBody sLLetters) (defScope sLLetters) .none kV14 dc14 pm14 an14 cd14 ct14), sl14⟩) (c14 : PySem.W.codeIn K cd14 "_law_letters" = true) (k14 : PySem.W.keepIn K (.ref f14) = true)
    (a15 : PySem.W.nsIn K mainGlobals "_law_like" = some (some (.ref f15))) (l15 : K.lookup f15 = some ⟨oc15, od15, .func (PySem.W.fnOf "_law_like" "_law_like" (defArgs sLLike) (defBody sLLike) (defScope sLLike) .none kV15 dc15 pm15 an15 cd15 ct15), sl15⟩) (c15 : PySem.W.codeIn K cd15 "_law_like" = true) (k15 : PySem.W.keepIn K (.ref f15) = true)
    (a16 : PySem.W.nsIn K mainGlobals "_law_names" = some (some (.ref f16))) (l16 : K.lookup f16 = some ⟨oc16, od16, .func (PySem.W.fnOf "_law_names" "_law_names" (defArgs sLNames) (defBody sLNames) (defScope sLNames) .none kV16 dc16 pm16 an16 cd16 ct16), sl16⟩) (c16 : PySem.W.codeIn K cd16 "_law_names" = true) (k16 : PySem.W.keepIn K (.ref f16) = true)
    (a17 : PySem.W.nsIn K mainGlobals "_law_signs" = some (some (.ref f17))) (l17 : K.lookup f17 = some ⟨oc17, od17, .func (PySem.W.fnOf "_law_signs" "_law_signs" (defArgs sLSigns) (defBody sLSigns) (defScope sLSigns) .none kV17 dc17 pm17 an17 cd17 ct17), sl17⟩) (c17 : PySem.W.codeIn K cd17 "_law_signs" = true) (k17 : PySem.W.keepIn K (.ref f17) = true)
    (a18 : PySem.W.nsIn K mainGlobals "_law_writer" = some (some (.ref f18))) (l18 : K.lookup f18 = some ⟨oc18, od18, .func (PySem.W.fnOf "_law_writer" "_law_writer" (defArgs sLWriter) (defBody sLWriter) (defScope sLWriter) .none kV18 dc18 pm18 an18 cd18 ct18), sl18⟩) (c18 : PySem.W.codeIn K cd18 "_law_writer" = true) (k18 : PySem.W.keepIn K (.ref f18) = true)
    (a19 : PySem.W.nsIn K mainGlobals "_need_company" = some (some (.ref f19))) (l19 : K.lookup f19 = some ⟨oc19, od19, .func (PySem.W.fnOf "_need_company" "_need_company" (defArgs sNeedCompany) (defBody sNeedCompany) (defScope sNeedCompany) .none kV19 dc19 pm19 an19 cd19 ct19), sl19⟩) (c19 : PySem.W.codeIn K cd19 "_need_company" = true) (k19 : PySem.W.keepIn K (.ref f19) = true)
    (a20 : PySem.W.nsIn K mainGlobals "_read_steps" = some (some (.ref f20))) (l20 : K.lookup f20 = some ⟨oc20, od20, .func (PySem.W.fnOf "_read_steps" "_read_steps" (defArgs sReadSteps) (defBody sReadSteps) (defScope sReadSteps) .none kV20 dc20 pm20 an20 cd20 ct20), sl20⟩) (c20 : PySem.W.codeIn K cd20 "_read_steps" = true) (k20 : PySem.W.keepIn K (.ref f20) = true)
    (a21 : PySem.W.nsIn K mainGlobals "_is_step" = some (some (.ref f21))) (l21 : K.lookup f21 = some ⟨oc21, od21, .func (PySem.W.fnOf "_is_step" "_is_step" (defArgs sIsStep) (defBody sIsStep) (defScope sIsStep) .none kV21 dc21 pm21 an21 cd21 ct21), sl21⟩) (c21 : PySem.W.codeIn K cd21 "_is_step" = true) (k21 : PySem.W.keepIn K (.ref f21) = true)
    (a22 : PySem.W.nsIn K mainGlobals "_need_said" = some (some (.ref f22))) (l22 : K.lookup f22 = some ⟨oc22, od22, .func (PySem.W.fnOf "_need_said" "_need_said" (defArgs sNeedSaid) (defBody sNeedSaid) (defScope sNeedSaid) .none kV22 dc22 pm22 an22 cd22 ct22), sl22⟩) (c22 : PySem.W.codeIn K cd22 "_need_said" = true) (k22 : PySem.W.keepIn K (.ref f22) = true)
    (a23 : PySem.W.nsIn K mainGlobals "_chains" = some (some (.ref f23))) (l23 : K.lookup f23 = some ⟨oc23, od23, .func (PySem.W.fnOf "_chains" "_chains" (defArgs sChains) (defBody sChains) (defScope sChains) .none kV23 dc23 pm23 an23 cd23 ct23), sl23⟩) (c23 : PySem.W.codeIn K cd23 "_chains" = true) (k23 : PySem.W.keepIn K (.ref f23) = true)
    (a24 : PySem.W.nsIn K mainGlobals "_law_arrows" = some (some (.ref f24))) (l24 : K.lookup f24 = some ⟨oc24, od24, .func (PySem.W.fnOf "_law_arrows" "_law_arrows" (defArgs sLArrows) (defBody sLArrows) (defScope sLArrows) .none kV24 dc24 pm24 an24 cd24 ct24), sl24⟩) (c24 : PySem.W.codeIn K cd24 "_law_arrows" = true) (k24 : PySem.W.keepIn K (.ref f24) = true)
    (a25 : PySem.W.nsIn K mainGlobals "_law_begin" = some (some (.ref f25))) (l25 : K.lookup f25 = some ⟨oc25, od25, .func (PySem.W.fnOf "_law_begin" "_law_begin" (defArgs sLBegin) (defBody sLBegin) (defScope sLBegin) .none kV25 dc25 pm25 an25 cd25 ct25), sl25⟩) (c25 : PySem.W.codeIn K cd25 "_law_begin" = true) (k25 : PySem.W.keepIn K (.ref f25) = true)
    (a26 : PySem.W.nsIn K mainGlobals "_law_waits_count" = some (some (.ref f26))) (l26 : K.lookup f26 = some ⟨oc26, od26, .func (PySem.W.fnOf "_law_waits_count" "_law_waits_count" (defArgs sLWaitsCount) (defBody sLWaitsCount) (defScope sLWaitsCount) .none kV26 dc26 pm26 an26 cd26 ct26), sl26⟩) (c26 : PySem.W.codeIn K cd26 "_law_waits_count" = true) (k26 : PySem.W.keepIn K (.ref f26) = true)
    (a27 : PySem.W.nsIn K mainGlobals "_law_can" = some (some (.ref f27))) (l27 : K.lookup f27 = some ⟨oc27, od27, .func (PySem.W.fnOf "_law_can" "_law_can" (defArgs sLCan) (defBody sLCan) (defScope sLCan) .none kV27 dc27 pm27 an27 cd27 ct27), sl27⟩) (c27 : PySem.W.codeIn K cd27 "_law_can" = true) (k27 : PySem.W.keepIn K (.ref f27) = true)
    (a28 : PySem.W.nsIn K mainGlobals "_law_after" = some (some (.ref f28))) (l28 : K.lookup f28 = some ⟨oc28, od28, .func (PySem.W.fnOf "_law_after" "_law_after" (defArgs sLAfter) (defBody sLAfter) (defScope sLAfter) .none kV28 dc28 pm28 an28 cd28 ct28), sl28⟩) (c28 : PySem.W.codeIn K cd28 "_law_after" = true) (k28 : PySem.W.keepIn K (.ref f28) = true)
    (a29 : PySem.W.nsIn K mainGlobals "_law_steps" = some (some (.ref f29))) (l29 : K.lookup f29 = some ⟨oc29, od29, .func (PySem.W.fnOf "_law_steps" "_law_steps" (defArgs sLSteps) (defBody sLSteps) (defScope sLSteps) .none kV29 dc29 pm29 an29 cd29 ct29), sl29⟩) (c29 : PySem.W.codeIn K cd29 "_law_steps" = true) (k29 : PySem.W.keepIn K (.ref f29) = true)
    (a30 : PySem.W.nsIn K mainGlobals "_law_company" = some (some (.ref f30))) (l30 : K.lookup f30 = some ⟨oc30, od30, .func (PySem.W.fnOf "_law_company" "_law_company" (defArgs sLCompany) (defBody sLCompany) (defScope sLCompany) .none kV30 dc30 pm30 an30 cd30 ct30), sl30⟩) (c30 : PySem.W.codeIn K cd30 "_law_company" = true) (k30 : PySem.W.keepIn K (.ref f30) = true)
    (a31 : PySem.W.nsIn K mainGlobals "_law_fresh" = some (some (.ref f31))) (l31 : K.lookup f31 = some ⟨oc31, od31, .func (PySem.W.fnOf "_law_fresh" "_law_fresh" (defArgs sLFresh) (defBody sLFresh) (defScope sLFresh) .none kV31 dc31 pm31 an31 cd31 ct31), sl31⟩) (c31 : PySem.W.codeIn K cd31 "_law_fresh" = true) (k31 : PySem.W.keepIn K (.ref f31) = true)
    (a32 : PySem.W.nsIn K mainGlobals "_law_carried" = some (some (.ref f32))) (l32 : K.lookup f32 = some ⟨oc32, od32, .func (PySem.W.fnOf "_law_carried" "_law_carried" (defArgs sLCarried) (defBody sLCarried) (defScope sLCarried) .none kV32 dc32 pm32 an32 cd32 ct32), sl32⟩) (c32 : PySem.W.codeIn K cd32 "_law_carried" = true) (k32 : PySem.W.keepIn K (.ref f32) = true)
    (a33 : PySem.W.nsIn K mainGlobals "_law_parts" = some (some (.ref f33))) (l33 : K.lookup f33 = some ⟨oc33, od33, .func (PySem.W.fnOf "_law_parts" "_law_parts" (defArgs sLParts) (defBody sLParts) (defScope sLParts) .none kV33 dc33 pm33 an33 cd33 ct33), sl33⟩) (c33 : PySem.W.codeIn K cd33 "_law_parts" = true) (k33 : PySem.W.keepIn K (.ref f33) = true)
    (a34 : PySem.W.nsIn K mainGlobals "_law_broken" = some (some (.ref f34))) (l34 : K.lookup f34 = some ⟨oc34, od34, .func (PySem.W.fnOf "_law_broken" "_law_broken" (defArgs sLBroken) (defBody sLBroken) (defScope sLBroken) .none kV34 dc34 pm34 an34 cd34 ct34), sl34⟩) (c34 : PySem.W.codeIn K cd34 "_law_broken" = true) (k34 : PySem.W.keepIn K (.ref f34) = true)
    (a35 : PySem.W.nsIn K mainGlobals "_law_said_drawn" = some (some (.ref f35))) (l35 : K.lookup f35 = some ⟨oc35, od35, .func (PySem.W.fnOf "_law_said_drawn" "_law_said_drawn" (defArgs sLSaidDrawn) (defBody sLSaidDrawn) (defScope sLSaidDrawn) .none kV35 dc35 pm35 an35 cd35 ct35), sl35⟩) (c35 : PySem.W.codeIn K cd35 "_law_said_drawn" = true) (k35 : PySem.W.keepIn K (.ref f35) = true)
    (a36 : PySem.W.nsIn K mainGlobals "_law_steps_drawn" = some (some (.ref f36))) (l36 : K.lookup f36 = some ⟨oc36, od36, .func (PySem.W.fnOf "_law_steps_drawn" "_law_steps_drawn" (defArgs sLStepsDrawn) (defBody sLStepsDrawn) (defScope sLStepsDrawn) .none kV36 dc36 pm36 an36 cd36 ct36), sl36⟩) (c36 : PySem.W.codeIn K cd36 "_law_steps_drawn" = true) (k36 : PySem.W.keepIn K (.ref f36) = true)
    (a37 : PySem.W.nsIn K mainGlobals "_law_other_crew" = some (some (.ref f37))) (l37 : K.lookup f37 = some ⟨oc37, od37, .func (PySem.W.fnOf "_law_other_crew" "_law_other_crew" (defArgs sLOtherCrew) (defBody sLOtherCrew) (defScope sLOtherCrew) .none kV37 dc37 pm37 an37 cd37 ct37), sl37⟩) (c37 : PySem.W.codeIn K cd37 "_law_other_crew" = true) (k37 : PySem.W.keepIn K (.ref f37) = true)
    (a38 : PySem.W.nsIn K mainGlobals "_law_scroll_drawn" = some (some (.ref f38))) (l38 : K.lookup f38 = some ⟨oc38, od38, .func (PySem.W.fnOf "_law_scroll_drawn" "_law_scroll_drawn" (defArgs sLScrollDrawn) (defBody sLScrollDrawn) (defScope sLScrollDrawn) .none kV38 dc38 pm38 an38 cd38 ct38), sl38⟩) (c38 : PySem.W.codeIn K cd38 "_law_scroll_drawn" = true) (k38 : PySem.W.keepIn K (.ref f38) = true)
    (a39 : PySem.W.nsIn K mainGlobals "_law_made" = some (some (.ref f39))) (l39 : K.lookup f39 = some ⟨oc39, od39, .func (PySem.W.fnOf "_law_made" "_law_made" (defArgs sLMade) (defBody sLMade) (defScope sLMade) .none kV39 dc39 pm39 an39 cd39 ct39), sl39⟩) (c39 : PySem.W.codeIn K cd39 "_law_made" = true) (k39 : PySem.W.keepIn K (.ref f39) = true)
    (a40 : PySem.W.nsIn K mainGlobals "_law_field" = some (some (.ref f40))) (l40 : K.lookup f40 = some ⟨oc40, od40, .func (PySem.W.fnOf "_law_field" "_law_field" (defArgs sLField) (defBody sLField) (defScope sLField) .none kV40 dc40 pm40 an40 cd40 ct40), sl40⟩) (c40 : PySem.W.codeIn K cd40 "_law_field" = true) (k40 : PySem.W.keepIn K (.ref f40) = true)
    (a41 : PySem.W.nsIn K mainGlobals "_law_tried" = some (some (.ref f41))) (l41 : K.lookup f41 = some ⟨oc41, od41, .func (PySem.W.fnOf "_law_tried" "_law_tried" (defArgs sLTried) (defBody sLTried) (defScope sLTried) .none kV41 dc41 pm41 an41 cd41 ct41), sl41⟩) (c41 : PySem.W.codeIn K cd41 "_law_tried" = true) (k41 : PySem.W.keepIn K (.ref f41) = true)
    (a42 : PySem.W.nsIn K mainGlobals "_law_refused" = some (some (.ref f42))) (l42 : K.lookup f42 = some ⟨oc42, od42, .func (PySem.W.fnOf "_law_refused" "_law_refused" (defArgs sLRefused) (defBody sLRefused) (defScope sLRefused) .none kV42 dc42 pm42 an42 cd42 ct42), sl42⟩) (c42 : PySem.W.codeIn K cd42 "_law_refused" = true) (k42 : PySem.W.keepIn K (.ref f42) = true)
    (a43 : PySem.W.nsIn K mainGlobals "_law_far" = some (some (.ref f43))) (l43 : K.lookup f43 = some ⟨oc43, od43, .func (PySem.W.fnOf "_law_far" "_law_far" (defArgs sLFar) (defBody sLFar) (defScope sLFar) .none kV43 dc43 pm43 an43 cd43 ct43), sl43⟩) (c43 : PySem.W.codeIn K cd43 "_law_far" = true) (k43 : PySem.W.keepIn K (.ref f43) = true)
    (a44 : PySem.W.nsIn K mainGlobals "law" = some (some (.ref fl))) (l44 : K.lookup fl = some ⟨oc44, od44, .func (PySem.W.fnOf "law" "law" (defArgs sLaw) (defBody sLaw) (defScope sLaw) .none kV44 dc44 pm44 an44 (.ref c0) ct44), sl44⟩) (c44 : PySem.W.codeIn K (.ref c0) "law" = true) (k44 : PySem.W.keepIn K (.ref fl) = true)
    (z1 : PySem.W.nsIn K mainGlobals "len" = some none)
    (z2 : PySem.W.nsIn K mainGlobals "all" = some none)
    (z3 : PySem.W.nsIn K mainGlobals "list" = some none)
    (z4 : PySem.W.nsIn K mainGlobals "range" = some none)
    (z5 : PySem.W.nsIn K mainGlobals "zip" = some none)
    (z6 : PySem.W.nsIn K mainGlobals "isinstance" = some none)
    (z7 : PySem.W.nsIn K mainGlobals "tuple" = some none)
    (z8 : PySem.W.nsIn K mainGlobals "bool" = some none)
    (z9 : PySem.W.nsIn K mainGlobals "int" = some none)
    (z10 : PySem.W.nsIn K mainGlobals "str" = some none)
    (z11 : PySem.W.nsIn K mainGlobals "max" = some none)
    (z12 : PySem.W.nsIn K mainGlobals "sorted" = some none)
    (z13 : PySem.W.nsIn K mainGlobals "enumerate" = some none)
    (y1 : PySem.W.nsIn K mainGlobals "_MOST_LETTERS" = some (some (.int 6 t1)))
    (y2 : PySem.W.nsIn K mainGlobals "MOST_ARROWS" = some (some (.int 9 t2)))
    (y3 : PySem.W.nsIn K mainGlobals "MOST_COUNT" = some (some (.int 3 t3)))
    (y4 : PySem.W.nsIn K mainGlobals "_LAST_PLACE" = some (some (.int 2 t4)))
    (y5 : PySem.W.nsIn K mainGlobals "MOST_WRITERS" = some (some (.int 3 t5)))
    (hC8 : PySem.W.codeHdIn K c0 P0 = true) (nT8 : K.lookup P0 = none)
    (aC : PySem.W.nsIn K mainGlobals "Company" = some (some (.ref C))) (aSC : PySem.W.nsIn K mainGlobals "Scroll" = some (some (.ref SC)))
    (aA : PySem.W.findIn K (.ref C) "__init__" = some (some (.ref fA))) (iA : PySem.W.isFn K (.ref fA) = true) (lA : K.lookup fA = some ⟨ocA, odA, .func (PySem.W.fnOf "__init__" "Company.__init__" (defArgs sCompanyInit) (defBody sCompanyInit) (defScope sCompanyInit) (.ref T0) kVA dcA pmA anA cdA ctA), slA⟩) (cA : PySem.W.codeIn K cdA "Company.__init__" = true) (kA : PySem.W.keepIn K (.ref fA) = true)
    (aW : PySem.W.findIn K (.ref C) "writers" = some (some (.ref fW))) (iW : PySem.W.isFn K (.ref fW) = true) (lW : K.lookup fW = some ⟨ocW, odW, .func (PySem.W.fnOf "writers" "Company.writers" (defArgs sCompanyWriters) (defBody sCompanyWriters) (defScope sCompanyWriters) .none kVW dcW pmW anW cdW ctW), slW⟩) (cW : PySem.W.codeIn K cdW "Company.writers" = true) (kW : PySem.W.keepIn K (.ref fW) = true)
    (aI : PySem.W.findIn K (.ref SC) "__init__" = some (some (.ref fI))) (iI : PySem.W.isFn K (.ref fI) = true) (lI : K.lookup fI = some ⟨ocI, odI, .func (PySem.W.fnOf "__init__" "Scroll.__init__" (defArgs sScrollInit) (defBody sScrollInit) (defScope sScrollInit) .none (.ref DK) dcI pmI anI cdI ctI), slI⟩) (cI : PySem.W.codeIn K cdI "Scroll.__init__" = true) (kI : PySem.W.keepIn K (.ref fI) = true)
    (aM : PySem.W.findIn K (.ref SC) "lets" = some (some (.ref fM))) (iM : PySem.W.isFn K (.ref fM) = true) (lM : K.lookup fM = some ⟨ocM, odM, .func (PySem.W.fnOf "lets" "Scroll.lets" (defArgs sScrollLets) (defBody sScrollLets) (defScope sScrollLets) .none kVM dcM pmM anM cdM ctM), slM⟩) (cM : PySem.W.codeIn K cdM "Scroll.lets" = true) (kM : PySem.W.keepIn K (.ref fM) = true)
    (lT : K.lookup T0 = some ⟨cT, oT, .seq #[.ref e0] nT, sT⟩) (lE0 : K.lookup e0 = some ⟨.type "tuple", oE, .seq #[] nE, sE⟩) (aN : PySem.W.nsIn K mainGlobals "_NO_RUN" = some (some (.ref r0))) (lN : K.lookup r0 = some ⟨.type "tuple", oN, .seq #[.int (-1) u1, .int 0 u2] nN, sN⟩)
    (nQ1 : PySem.W.nsIn K DK "steps" = some (some (.ref e1))) (nQ2 : PySem.W.nsIn K DK "said" = some (some (.ref e2)))
    (pg1c : PySem.W.plainGet K C Str.empty = true) (hd1c : PySem.W.hasDictIn K C = true) (po1c : PySem.W.plainOver K C = true) (sa1c : PySem.W.findIn K (.ref C) "__setattr__" = some (some (.builtin "object.__setattr__"))) (mk1c : PySem.W.makesIn K C = true) (kp1c : PySem.W.keepIn K (.ref C) = true) (n1c1 : PySem.W.findIn K (.ref C) "_writers" = some none) (n1c2 : PySem.W.findIn K (.ref C) "_found" = some none)
    (pg2c : PySem.W.plainGet K SC Str.empty = true) (hd2c : PySem.W.hasDictIn K SC = true) (po2c : PySem.W.plainOver K SC = true) (sa2c : PySem.W.findIn K (.ref SC) "__setattr__" = some (some (.builtin "object.__setattr__"))) (mk2c : PySem.W.makesIn K SC = true) (kp2c : PySem.W.keepIn K (.ref SC) = true) (n2c1 : PySem.W.findIn K (.ref SC) "_steps" = some none) (n2c2 : PySem.W.findIn K (.ref SC) "_signs" = some none) (n2c3 : PySem.W.findIn K (.ref SC) "_said" = some none) (n2c4 : PySem.W.findIn K (.ref SC) "_chains" = some none)
    (aNS : PySem.W.nsIn K mainGlobals "NoSign" = some (some (.ref NS))) (lNS : K.lookup NS = some (excClassObj "NoSign" qNS NS NNS bsNS bmNS true snNS subNS abNS colNS ddNS kaNS kbNS (some (.str "NoSign" tkNS)) kdNS kfNS "LookupError.__new__")) (rvNS : PySem.OwnL.Over PySem.OwnL.leTail bmNS) (saNS : PySem.W.findIn K (.ref NS) "__setattr__" = some (some (.builtin "object.__setattr__"))) (suNS : PySem.W.subIn K (.ref NS) (.type "BaseException") = some true) (tyNS : PySem.W.typeIn K (.ref NS) = some (.type "type")) (kpNS : PySem.W.keepIn K (.ref NS) = true) (gaNS : PySem.W.findIn K (.ref NS) "__getattribute__" = some (some (.builtin "BaseException.__getattribute__"))) (ggNS : PySem.W.findIn K (.ref NS) "__getattr__" = some none) (hdNS : PySem.W.hasDictIn K NS = true) (clNS : PySem.W.findIn K (.ref NS) "__class__" = some (some (.builtin "object.__class__"))) (mrNS : PySem.W.mroIn K NS (.type "object") = some true) (rdNS : PySem.W.readsIn K NS (.type "type") = true) (nmNS : PySem.W.findCls K (.ref NS) (.type "type") "__name__" = some (.get (.builtin "getset_descriptor.__get__") (.builtin "type.__name__") (.ref NS) (.type "type"))) (fwordNS : PySem.W.findIn K (.ref NS) "word" = some none) (fnameNS : PySem.W.findIn K (.ref NS) "name" = some none) (fmostNS : PySem.W.findIn K (.ref NS) "most" = some none) (fstripNS : PySem.W.findIn K (.ref NS) "strip" = some none) (fnumberNS : PySem.W.findIn K (.ref NS) "number" = some none) (fatNS : PySem.W.findIn K (.ref NS) "at" = some none)
    (ocN : PySem.W.specialIn K (.builtin "object.__class__") "__get__" = some (some (.builtin "getset_descriptor.__get__"))) (ocT : PySem.W.takesIn K (.builtin "object.__class__") = some true)
    (aI0 : PySem.W.nsIn K mainGlobals "InkError" = some (some (.ref xI))) (aMi : PySem.W.nsIn K mainGlobals "Missing" = some (some (.ref xM))) (aNl : PySem.W.nsIn K mainGlobals "NothingLeft" = some (some (.ref xL)))
    (aY : PySem.W.findIn K (.ref NS) "__init__" = some (some (.ref fY))) (lY : K.lookup fY = some ⟨ocY, odY, .func (PySem.W.fnOf "__init__" "NoSign.__init__" (defArgs sNosignInit) (defBody sNosignInit) (defScope sNosignInit) .none kVY dcY pmY anY cdY ctY), slY⟩) (cY : PySem.W.codeIn K cdY "NoSign.__init__" = true) (kY : PySem.W.keepIn K (.ref fY) = true)
    (aE : PySem.W.findCls K (.ref xM) (.type "type") "__init__" = some (.val (.ref fE))) (lE : K.lookup fE = some ⟨ocE, odE, .func (PySem.W.fnOf "__init__" "Missing.__init__" (defArgs sMissingInit) (defBody sMissingInit) (defScope sMissingInit) (.ref T1) kVE dcE pmE anE cdE ctE), slE⟩) (cE : PySem.W.codeIn K cdE "Missing.__init__" = true) (kE : PySem.W.keepIn K (.ref fE) = true)
    (tY : PySem.W.typeIn K (.ref fY) = some (.type "function")) (gO : PySem.W.specialIn K (.ref xM) "__getattribute__" = some (some (.builtin "type.__getattribute__"))) (rO : PySem.W.readsIn K xM (.type "type") = true) (yO : PySem.W.typeIn K (.ref xM) = some (.type "type"))
    (lU : K.lookup T1 = some ⟨cU, oU, .seq #[.str "" u3] nU, sU⟩) (vV : PySem.W.findCls K (.type "LookupError") (.type "type") "__init__" = some (.val (.builtin "LookupError.__init__"))) (zV : PySem.W.nsIn K mainGlobals "LookupError" = some none) (hX : PySem.W.exmAny K (.ref NS) [.ref xI, .ref xM, .ref xL] = some true) :
    LamX.LawAtS l w K CX0 12 63 "_law_script" mg fa h := by
  have e := hfa.symm.trans (PySem.W.mg_of X G a44)
  cases e
  have F1 := fun_mk (st := sIsName) l1 c1 k1
  have F2 := fun_mk (st := sIsSign) l2 c2 k2
  have F3 := fun_mk (st := sIsWriter) l3 c3 k3
  have F4 := fun_mk (st := sIsCount) l4 c4 k4
  have F5 := fun_mk (st := sIsPlace) l5 c5 k5
  have F6 := fun_mk (st := sAreArrows) l6 c6 k6
  have F7 := fun_mk (st := sMinds) l7 c7 k7
  have F8 := fun_mk (st := sMayWrite) l8 c8 k8
  have F9 := fun_mk (st := sBehind) l9 c9 k9
  have F10 := fun_mk (st := sStepsOf) l10 c10 k10
  have F11 := fun_mk (st := sLBag) l11 c11 k11
  have F12 := fun_mk (st := sLPull) l12 c12 k12
  have F13 := fun_mk (st := sLOf) l13 c13 k13
  have F14 := fun_mk (st := sLLetters) l14 c14 k14
  have F15 := fun_mk (st := sLLike) l15 c15 k15
  have F16 := fun_mk (st := sLNames) l16 c16 k16
  have F17 := fun_mk (st := sLSigns) l17 c17 k17
  have F18 := fun_mk (st := sLWriter) l18 c18 k18
  have F19 := fun_mk (st := sNeedCompany) l19 c19 k19
  have F20 := fun_mk (st := sReadSteps) l20 c20 k20
  have F21 := fun_mk (st := sIsStep) l21 c21 k21
  have F22 := fun_mk (st := sNeedSaid) l22 c22 k22
  have F23 := fun_mk (st := sChains) l23 c23 k23
  have F24 := fun_mk (st := sLArrows) l24 c24 k24
  have F25 := fun_mk (st := sLBegin) l25 c25 k25
  have F26 := fun_mk (st := sLWaitsCount) l26 c26 k26
  have F27 := fun_mk (st := sLCan) l27 c27 k27
  have F28 := fun_mk (st := sLAfter) l28 c28 k28
  have F29 := fun_mk (st := sLSteps) l29 c29 k29
  have F30 := fun_mk (st := sLCompany) l30 c30 k30
  have F31 := fun_mk (st := sLFresh) l31 c31 k31
  have F32 := fun_mk (st := sLCarried) l32 c32 k32
  have F33 := fun_mk (st := sLParts) l33 c33 k33
  have F34 := fun_mk (st := sLBroken) l34 c34 k34
  have F35 := fun_mk (st := sLSaidDrawn) l35 c35 k35
  have F36 := fun_mk (st := sLStepsDrawn) l36 c36 k36
  have F37 := fun_mk (st := sLOtherCrew) l37 c37 k37
  have F38 := fun_mk (st := sLScrollDrawn) l38 c38 k38
  have F39 := fun_mk (st := sLMade) l39 c39 k39
  have F40 := fun_mk (st := sLField) l40 c40 k40
  have F41 := fun_mk (st := sLTried) l41 c41 k41
  have F42 := fun_mk (st := sLRefused) l42 c42 k42
  have F43 := fun_mk (st := sLFar) l43 c43 k43
  have F44 := fun_mk (st := sLaw) l44 c44 k44
  have b1 := F1.binds (ps := ["text"]) fun _ _ _ _ _ _ us hl => match us, hl with | [_], _ => rfl
  have b2 := F2.binds (ps := ["text"]) fun _ _ _ _ _ _ us hl => match us, hl with | [_], _ => rfl
  have b3 := F3.binds (ps := ["thing"]) fun _ _ _ _ _ _ us hl => match us, hl with | [_], _ => rfl
  have b4 := F4.binds (ps := ["number"]) fun _ _ _ _ _ _ us hl => match us, hl with | [_], _ => rfl
  have b5 := F5.binds (ps := ["number"]) fun _ _ _ _ _ _ us hl => match us, hl with | [_], _ => rfl
  have b6 := F6.binds (ps := ["arrows"]) fun _ _ _ _ _ _ us hl => match us, hl with | [_], _ => rfl
  have b7 := F7.binds (ps := ["writers", "stand", "at"]) fun _ _ _ _ _ _ us hl => match us, hl with | [_, _, _], _ => rfl
  have b8 := F8.binds (ps := ["writers", "stand", "at"]) fun _ _ _ _ _ _ us hl => match us, hl with | [_, _, _], _ => rfl
  have b9 := F9.binds (ps := ["writers", "stand", "at", "to"]) fun _ _ _ _ _ _ us hl => match us, hl with | [_, _, _, _], _ => rfl
  have b10 := F10.binds (ps := ["writers", "stand"]) fun _ _ _ _ _ _ us hl => match us, hl with | [_, _], _ => rfl
  have b11 := F11.binds (ps := ["_law_script"]) fun _ _ _ _ _ _ us hl => match us, hl with | [_], _ => rfl
  have b12 := F12.binds (ps := ["_law_bag_here", "_law_many"]) fun _ _ _ _ _ _ us hl => match us, hl with | [_, _], _ => rfl
  have b13 := F13.binds (ps := ["_law_bag_here", "_law_things"]) fun _ _ _ _ _ _ us hl => match us, hl with | [_, _], _ => rfl
  have b14 := F14.binds (ps := []) fun _ _ _ _ _ _ us hl => match us, hl with | [], _ => rfl
  have b15 := F15.binds (ps := ["_law_found", "_law_due"]) fun _ _ _ _ _ _ us hl => match us, hl with | [_, _], _ => rfl
  have b16 := F16.binds (ps := ["_law_bag_here", "_law_many"]) fun _ _ _ _ _ _ us hl => match us, hl with | [_, _], _ => rfl
  have b17 := F17.binds (ps := ["_law_bag_here", "_law_limit"]) fun _ _ _ _ _ _ us hl => match us, hl with | [_, _], _ => rfl
  have b18 := F18.binds (ps := ["_law_bag_here", "_law_name", "_law_places", "_law_signs_here", "_law_thick"]) fun _ _ _ _ _ _ us hl => match us, hl with | [_, _, _, _, _], _ => rfl
  have b19 := F19.binds (ps := ["writers"]) fun _ _ _ _ _ _ us hl => match us, hl with | [_], _ => rfl
  have b20 := F20.binds (ps := ["steps"]) fun _ _ _ _ _ _ us hl => match us, hl with | [_], _ => rfl
  have b21 := F21.binds (ps := ["step"]) fun _ _ _ _ _ _ us hl => match us, hl with | [_], _ => rfl
  have b22 := F22.binds (ps := ["said", "many"]) fun _ _ _ _ _ _ us hl => match us, hl with | [_, _], _ => rfl
  have b23 := F23.binds (ps := ["company", "steps"]) fun _ _ _ _ _ _ us hl => match us, hl with | [_, _], _ => rfl
  have b24 := F24.binds (ps := ["_law_writer_here", "_law_place"]) fun _ _ _ _ _ _ us hl => match us, hl with | [_, _], _ => rfl
  have b25 := F25.binds (ps := ["_law_m"]) fun _ _ _ _ _ _ us hl => match us, hl with | [_], _ => rfl
  have b26 := F26.binds (ps := ["_law_m", "_law_places", "_law_at"]) fun _ _ _ _ _ _ us hl => match us, hl with | [_, _, _], _ => rfl
  have b27 := F27.binds (ps := ["_law_m", "_law_stand", "_law_spot"]) fun _ _ _ _ _ _ us hl => match us, hl with | [_, _, _], _ => rfl
  have b28 := F28.binds (ps := ["_law_m", "_law_stand", "_law_spot", "_law_to"]) fun _ _ _ _ _ _ us hl => match us, hl with | [_, _, _, _], _ => rfl
  have b29 := F29.binds (ps := ["_law_m", "_law_stand"]) fun _ _ _ _ _ _ us hl => match us, hl with | [_, _], _ => rfl
  have b30 := F30.binds (ps := ["_law_bag_here", "_law_limit", "_law_signs_here"]) fun _ _ _ _ _ _ us hl => match us, hl with | [_, _, _], _ => rfl
  have b31 := F31.binds (ps := ["_law_names_here"]) fun _ _ _ _ _ _ us hl => match us, hl with | [_], _ => rfl
  have b32 := F32.binds (ps := ["_law_one", "_law_other", "_law_stand"]) fun _ _ _ _ _ _ us hl => match us, hl with | [_, _, _], _ => rfl
  have b33 := F33.binds (ps := ["_law_m", "_law_track"]) fun _ _ _ _ _ _ us hl => match us, hl with | [_, _], _ => rfl
  have b34 := F34.binds (ps := ["_law_talk", "_law_at", "_law_name"]) fun _ _ _ _ _ _ us hl => match us, hl with | [_, _, _], _ => rfl
  have b35 := F35.binds (ps := ["_law_bag_here", "_law_many", "_law_names_here", "_law_limit"]) fun _ _ _ _ _ _ us hl => match us, hl with | [_, _, _, _], _ => rfl
  have b36 := F36.binds (ps := ["_law_bag_here", "_law_m", "_law_letters_here", "_law_limit"]) fun _ _ _ _ _ _ us hl => match us, hl with | [_, _, _, _], _ => rfl
  have b37 := F37.binds (ps := ["_law_bag_here", "_law_m"]) fun _ _ _ _ _ _ us hl => match us, hl with | [_, _], _ => rfl
  have b38 := F38.binds (ps := ["_law_bag_here", "_law_signs_most", "_law_steps_most", "_law_said_most"]) fun _ _ _ _ _ _ us hl => match us, hl with | [_, _, _, _], _ => rfl
  have b39 := F39.binds (ps := ["_law_drawn"]) fun _ _ _ _ _ _ us hl => match us, hl with | [_], _ => rfl
  have b40 := F40.binds (ps := ["_law_e"]) fun _ _ _ _ _ _ us hl => match us, hl with | [_], _ => rfl
  have b41 := F41.binds (ps := ["_law_ask"]) fun _ _ _ _ _ _ us hl => match us, hl with | [_], _ => rfl
  have b42 := F42.binds (ps := ["_law_ask"]) fun _ _ _ _ _ _ us hl => match us, hl with | [_], _ => rfl
  have b43 := F43.binds (ps := ["_law_bag_here"]) fun _ _ _ _ _ _ us hl => match us, hl with | [_], _ => rfl
  have T : Txt mg := ⟨PySem.W.mg_none_of X G z1, PySem.W.mg_none_of X G z2, PySem.W.mg_none_of X G z3, PySem.W.mg_none_of X G z4, PySem.W.mg_none_of X G z5, PySem.W.mg_none_of X G z6, PySem.W.mg_none_of X G z7, PySem.W.mg_none_of X G z8, PySem.W.mg_none_of X G z9, PySem.W.mg_none_of X G z10, PySem.W.mg_none_of X G z11, PySem.W.mg_none_of X G z12, PySem.W.mg_none_of X G z13, ⟨_, PySem.W.mg_of X G y1⟩, ⟨_, PySem.W.mg_of X G y2⟩, ⟨_, PySem.W.mg_of X G y3⟩, ⟨_, PySem.W.mg_of X G y4⟩, ⟨_, PySem.W.mg_of X G y5⟩⟩
  refine ⟨PySem.W.fnOf "law" "law" (defArgs sLaw) (defBody sLaw) (defScope sLaw) .none kV44 dc44 pm44 an44 (.ref c0) ct44, [(c0, P0)], spLaw K P0, fun p hp => by rw [List.mem_singleton.mp hp]; exact hT8 _ (List.mem_singleton.mpr rfl), fun p hp => by rw [List.mem_singleton.mp hp]; exact nT8, fun p hp => by rw [List.mem_singleton.mp hp]; exact PySem.W.codeHd_of_K X hC8, fun s v => .of_eq rfl, fun H a ns hl _ hT hS => ⟨a, ns, rfl, hS, hl, fun p hp => by rw [List.mem_singleton.mp hp]; exact LamX.TabS.nil (hT _ (List.mem_singleton.mpr rfl)), fun _ => rfl⟩, fun base _ _ TB9 => ?_⟩
  have TB := TB9 _ (List.mem_singleton.mpr rfl)
  have Z : CoC K C := ⟨⟨pg1c, hd1c, po1c, sa1c⟩, n1c1, n1c2⟩
  have Y : ScC K SC := ⟨⟨pg2c, hd2c, po2c, sa2c⟩, n2c1, n2c2, n2c3, n2c4⟩
  have G__NO_RUN : GlobT K mg "_NO_RUN" (.tuple [.int (-1), .int 0]) := ⟨r0, PySem.W.mg_of X G aN, fun H => .tup (show SqT K H r0 [.int (-1), .int 0] from .inr ⟨_, _, _, lN, rfl, rfl, (by show 2 ≤ sizeLine; decide), .cons ⟨u1, rfl⟩ (.cons ⟨u2, rfl⟩ .nil)⟩) (.cons (.int _) (.cons (.int _) .nil))⟩
  have MI : Mk K C fA := ⟨mk1c, aA, iA, kp1c⟩
  have MS : Mk K SC fI := ⟨mk2c, aI, iI, kp2c⟩
  have FI : FunD K "__init__" "Company.__init__" (defArgs sCompanyInit) (defBody sCompanyInit) (defScope sCompanyInit) [.ref e0] [] fA _ := ⟨⟨_, _, _, _, _, _, _, _, _, _, rfl, lA, cA, .inr ⟨by simp, T0, _, [.ref e0], _, rfl, lT, rfl, .cons rfl .nil⟩, .inl rfl⟩, kA⟩
  have bI2 := FI.binds1 (ps := ["self", "writers"]) 2 1 (by simp) rfl fun _ _ _ _ _ _ _ us its h1 h2 => match us, its, h1, h2 with | [_, _], [_], _, _ => ⟨_, rfl, rfl⟩
  have FSI : FunD K "__init__" "Scroll.__init__" (defArgs sScrollInit) (defBody sScrollInit) (defScope sScrollInit) [] [(("steps" : Str), .ref e1), (("said" : Str), .ref e2)] fI _ := ⟨⟨_, _, _, _, _, _, _, _, _, _, rfl, lI, cI, .inl ⟨rfl, rfl⟩, .inr ⟨DK, rfl, fun q hq => by
      simp only [List.mem_cons, List.not_mem_nil, or_false] at hq
      rcases hq with rfl | rfl
      · exact ⟨_, nQ1, rfl⟩
      · exact ⟨_, nQ2, rfl⟩⟩⟩, kI⟩
  have KB := kb_scroll FSI
  have FE : FunD K "__init__" "Missing.__init__" (defArgs sMissingInit) (defBody sMissingInit) (defScope sMissingInit) [.str ""] [] fE _ := ⟨⟨_, _, _, _, _, _, _, _, _, _, rfl, lE, cE, .inr ⟨by simp, T1, _, [.str "" u3], _, rfl, lU, rfl, .cons ⟨u3, rfl⟩ .nil⟩, .inl rfl⟩, kE⟩
  have bE2 := FE.binds1 (ps := ["self", "told"]) 2 1 (by simp) rfl fun _ _ _ _ _ _ _ us its h1 h2 => match us, its, h1, h2 with | [_, _], [_], _, _ => ⟨_, rfl, rfl⟩
  have FY := fun_mk (st := sNosignInit) lY cY kY
  have bY := FY.binds (ps := ["self", "at"]) fun _ _ _ _ _ _ us hl => match us, hl with | [_, _], _ => rfl
  have OXNS : LexC K NS := ⟨⟨_, _, _, _, _, _, _, _, _, _, _, _, _, _, _, lNS, rvNS⟩, saNS, suNS, tyNS, kpNS⟩
  have EXNS : ExcC K NS := ⟨gaNS, ggNS, suNS, hdNS, clNS, ocN, ocT, mrNS⟩
  have NMNS : NamedL K NS "NoSign" := ⟨EXNS, OXNS, ⟨_, tkNS, lNS, rfl⟩, rdNS, nmNS⟩
  have FCNS : FldC K NS := ⟨⟨gaNS, ggNS, suNS, hdNS⟩, fwordNS, fnameNS, fmostNS, fstripNS, fnumberNS, fatNS⟩
  have OI : OwnI K xM fE := ⟨gO, rO, yO, aE, kE⟩
  have NR : NoSR l.prog w K mg base 2 NS := by
    obtain ⟨ds, hv, b⟩ := bE2
    cases hv
    exact ⟨NMNS, fwordNS, fatNS, PySem.W.mg_of X G aNS, fY, _, aY, tY, ok_nos FY (PySem.W.mg_of X G aMi) OI (ok_mis (k := 0) FE (PySem.W.mg_none_of X G zV) vV) b, bY⟩
  have FNW := fun_mk (st := sCompanyWriters) lW cW kW
  have bNW := FNW.binds (ps := ["self"]) fun _ _ _ _ _ _ us hl => match us, hl with | [_], _ => rfl
  have FNM := fun_mk (st := sScrollLets) lM cM kM
  have bNM := FNM.binds (ps := ["self", "at", "name"]) fun _ _ _ _ _ _ us hl => match us, hl with | [_, _, _], _ => rfl
  have C_law_pull : Cal l.prog w K mg base 1 "_law_pull" _ _ := ⟨_, _, ok_pull F12 T, PySem.W.mg_of X G a12, F12.kp, b12⟩
  have C_law_bag : Cal l.prog w K mg base 1 "_law_bag" _ _ := ⟨_, _, ok_bag F11 T, PySem.W.mg_of X G a11, F11.kp, b11⟩
  have C_law_letters : Cal l.prog w K mg base 1 "_law_letters" _ _ := ⟨_, _, ok_letters F14, PySem.W.mg_of X G a14, F14.kp, b14⟩
  have C_is_sign : Cal l.prog w K mg base 1 "is_sign" _ _ := ⟨_, _, ok_is_sign F2 T, PySem.W.mg_of X G a2, F2.kp, b2⟩
  have C_is_count : Cal l.prog w K mg base 1 "_is_count" _ _ := ⟨_, _, ok_count F4 T, PySem.W.mg_of X G a4, F4.kp, b4⟩
  have C_is_place : Cal l.prog w K mg base 1 "_is_place" _ _ := ⟨_, _, ok_place F5 T, PySem.W.mg_of X G a5, F5.kp, b5⟩
  have C_law_arrows : Cal l.prog w K mg base 1 "_law_arrows" _ _ := ⟨_, _, ok_arrs F24, PySem.W.mg_of X G a24, F24.kp, b24⟩
  have C_law_begin : Cal l.prog w K mg base 1 "_law_begin" _ _ := ⟨_, _, ok_lbegin F25 T, PySem.W.mg_of X G a25, F25.kp, b25⟩
  have C_law_fresh : Cal l.prog w K mg base 1 "_law_fresh" _ _ := ⟨_, _, ok_fresh F31, PySem.W.mg_of X G a31, F31.kp, b31⟩
  have C_law_carried : Cal l.prog w K mg base 1 "_law_carried" _ _ := ⟨_, _, ok_lcarried F32 T, PySem.W.mg_of X G a32, F32.kp, b32⟩
  have C_law_broken : Cal l.prog w K mg base 1 "_law_broken" _ _ := ⟨_, _, ok_lbroken F34 T, PySem.W.mg_of X G a34, F34.kp, b34⟩
  have C_law_parts : Cal l.prog w K mg base 1 "_law_parts" _ _ := ⟨_, _, ok_lparts F33 T, PySem.W.mg_of X G a33, F33.kp, b33⟩
  have C_law_of : Cal l.prog w K mg base 2 "_law_of" _ _ := ⟨_, _, ok_of F13 T C_law_pull, PySem.W.mg_of X G a13, F13.kp, b13⟩
  have C_is_name : Cal l.prog w K mg base 2 "is_name" _ _ := ⟨_, _, ok_is_name F1 T C_is_sign, PySem.W.mg_of X G a1, F1.kp, b1⟩
  have C_are_arrows : Cal l.prog w K mg base 2 "_are_arrows" _ _ := ⟨_, _, ok_areD F6 T C_is_place C_is_sign, PySem.W.mg_of X G a6, F6.kp, b6⟩
  have C_law_waits_count : Cal l.prog w K mg base 2 "_law_waits_count" _ _ := ⟨_, _, ok_counts F26 C_law_arrows, PySem.W.mg_of X G a26, F26.kp, b26⟩
  have C_law_other_crew : Cal l.prog w K mg base 2 "_law_other_crew" _ _ := ⟨_, _, ok_crew F37 T C_law_pull C_law_fresh, PySem.W.mg_of X G a37, F37.kp, b37⟩
  have C_law_like := cal_like (P := l.prog) (w := w) (base := base) F15 T (PySem.W.mg_of X G a15) b15 5
  have C_is_writer : Cal l.prog w K mg base 3 "is_writer" _ _ := ⟨_, _, ok_is_writerD F3 T C_is_name C_are_arrows (C_is_count.mono (by decide)), PySem.W.mg_of X G a3, F3.kp, b3⟩
  have C_law_names : Cal l.prog w K mg base 3 "_law_names" _ _ := ⟨_, _, ok_names F16 T (C_law_pull.mono (by decide)) C_law_of (C_law_letters.mono (by decide)), PySem.W.mg_of X G a16, F16.kp, b16⟩
  have C_law_signs : Cal l.prog w K mg base 3 "_law_signs" _ _ := ⟨_, _, ok_signs F17 T (C_law_pull.mono (by decide)) C_law_of (C_law_letters.mono (by decide)), PySem.W.mg_of X G a17, F17.kp, b17⟩
  have C_law_writer : Cal l.prog w K mg base 3 "_law_writer" _ _ := ⟨_, _, ok_writer F18 T (C_law_pull.mono (by decide)) C_law_of, PySem.W.mg_of X G a18, F18.kp, b18⟩
  have C_law_can : Cal l.prog w K mg base 3 "_law_can" _ _ := ⟨_, _, ok_can F27 T C_law_waits_count, PySem.W.mg_of X G a27, F27.kp, b27⟩
  have C_law_after : Cal l.prog w K mg base 3 "_law_after" _ _ := ⟨_, _, ok_after F28 T C_law_waits_count, PySem.W.mg_of X G a28, F28.kp, b28⟩
  have C_law_said_drawn : Cal l.prog w K mg base 3 "_law_said_drawn" _ _ := ⟨_, _, ok_said F35 T (C_law_pull.mono (by decide)) C_law_of, PySem.W.mg_of X G a35, F35.kp, b35⟩
  have C_need_said : Cal l.prog w K mg base 3 "_need_said" _ _ := ⟨_, _, ok_needsaid F22 T C_is_name, PySem.W.mg_of X G a22, F22.kp, b22⟩
  have C_law_far : Cal l.prog w K mg base 3 "_law_far" _ _ := ⟨_, _, ok_farB F43 T (C_law_pull.mono (by decide)) C_law_of, PySem.W.mg_of X G a43, F43.kp, b43⟩
  have C_need_L : Cal l.prog w K mg base 4 "_need_company" _ _ := ⟨_, _, ok_needL F19 T C_is_writer, PySem.W.mg_of X G a19, F19.kp, b19⟩
  have C_need_T : Cal l.prog w K mg base 4 "_need_company" _ _ := ⟨_, _, ok_needT F19 T C_is_writer, PySem.W.mg_of X G a19, F19.kp, b19⟩
  have C_law_company : Cal l.prog w K mg base 4 "_law_company" _ _ := ⟨_, _, ok_company F30 T (C_law_pull.mono (by decide)) (C_law_of.mono (by decide)) C_law_names C_law_writer, PySem.W.mg_of X G a30, F30.kp, b30⟩
  have C_law_steps : Cal l.prog w K mg base 4 "_law_steps" _ _ := ⟨_, _, ok_lsteps F29 T C_law_can (C_law_arrows.mono (by decide)) C_law_after, PySem.W.mg_of X G a29, F29.kp, b29⟩
  have C_law_steps_drawn : Cal l.prog w K mg base 5 "_law_steps_drawn" _ _ := ⟨_, _, ok_stepsdr F36 T (C_law_pull.mono (by decide)) (C_law_of.mono (by decide)) (C_law_begin.mono (by decide)) C_law_steps (C_law_other_crew.mono (by decide)) (C_law_carried.mono (by decide)), PySem.W.mg_of X G a36, F36.kp, b36⟩
  have C_law_scroll_drawn : Cal l.prog w K mg base 6 "_law_scroll_drawn" _ _ := ⟨_, _, ok_scdrawn F38 T (C_law_signs.mono (by decide)) (C_law_company.mono (by decide)) C_law_steps_drawn (C_law_parts.mono (by decide)) (C_law_said_drawn.mono (by decide)), PySem.W.mg_of X G a38, F38.kp, b38⟩
  have KCo : ∀ k, 5 ≤ k → MakC l.prog w K mg base k "Company" C ["self", "writers"] [] (spInitD l.prog w K C .list) := fun k hk => by
    obtain ⟨ds, hv, b⟩ := bI2
    exact ⟨fA, _, ds, (ok_initD FI T Z (.inl rfl) C_need_L).mono hk, MI, PySem.W.mg_of X G aC, b, hv⟩
  have KCT : MakC l.prog w K mg base 5 "Company" C ["self", "writers"] [] (spInitD l.prog w K C .tuple) := by
    obtain ⟨ds, hv, b⟩ := bI2
    exact ⟨fA, _, ds, ok_initD FI T Z (.inr rfl) C_need_T, MI, PySem.W.mg_of X G aC, b, hv⟩
  have MWr : ∀ k, 1 ≤ k → MetC l.prog w K mg base k C "writers" ["self"] (spWriters l.prog w K C) := fun k hk => ⟨fW, _, (ok_writers (k := 0) FNW T Z).mono hk, ⟨aW, iW, kW⟩, Z.cl, bNW⟩
  have C_is_step : Cal l.prog w K mg base 7 "_is_step" _ _ := ⟨_, _, ok_isstep (k := 5) F21 T (C_is_sign.mono (by decide)) (KCo 5 (by decide)), PySem.W.mg_of X G a21, F21.kp, b21⟩
  have C_read_steps : Cal l.prog w K mg base 8 "_read_steps" _ _ := ⟨_, _, ok_read F20 T C_is_step, PySem.W.mg_of X G a20, F20.kp, b20⟩
  have C_chains : Cal l.prog w K mg base 7 "_chains" _ _ := ⟨_, _, ok_chains (k := 5) F23 T KCT, PySem.W.mg_of X G a23, F23.kp, b23⟩
  have KSc : MakKC l.prog w K mg base 9 "Scroll" SC ["self", "company", "steps", "said"] 1 ["steps", "said"] (spScInit l.prog w K C SC) := by
    obtain ⟨g, kb⟩ := KB
    exact ⟨fI, _, g, ok_scinit (k := 7) FSI T Z Y C_read_steps (C_need_said.mono (by decide)) (C_chains.mono (by decide)) (KCo 7 (by decide)) (MWr 7 (by decide)), MS, PySem.W.mg_of X G aSC, kb⟩
  have C_law_made : Cal l.prog w K mg base 11 "_law_made" _ _ := ⟨_, _, ok_made (k := 9) F39 T (KCo 9 (by decide)) KSc, PySem.W.mg_of X G a39, F39.kp, b39⟩
  have MLe : MetC l.prog w K mg base 11 SC "lets" ["self", "at", "name"] (spLets l.prog w K C SC) := ⟨fM, _, (ok_sclets (k := 0) FNM T Y).mono (by decide), ⟨aM, iM, kM⟩, Y.cl, bNM⟩
  have MLN : MetN l.prog w K mg base 8 SC "lets" ["self", "at", "name"] (spLetN l.prog w K C SC NS) := ⟨fM, _, (ok_letN (k := 2) FNM T Y NR).mono (by decide), ⟨aM, iM, kM⟩, Y.cl, bNM⟩
  have hT9 : ∀ q, L2N.AskedBy l.prog w K mg base 9 9 ["_law_ask", "_law_told", "_law_word", "_law_field_here", "_law_e"] "_law_tried" (defScope sLTried) (defBody sLTried) q (ttTried K xI xM xL) := fun q => tried_asked (PySem.W.mg_of X G aI0) (PySem.W.mg_of X G aMi) (PySem.W.mg_of X G aNl) (ok_field (k := 0) F40) (by decide) (by decide) (PySem.W.mg_of X G a40) F40.kp b40
  exact ok_law14 l44 c44 TB T F42 (PySem.W.mg_of X G a42) F42.kp b42 (fun q => refused_asked F41 (PySem.W.mg_of X G a41) F41.kp b41 hT9) hX FCNS (C_law_bag.mono (by decide)) (C_law_scroll_drawn.mono (by decide)) C_law_made (C_law_broken.mono (by decide)) (C_law_far.mono (by decide)) MLe MLN (C_law_like.mono (by decide))
end Ink
open PySem PySem.W PyProof.Rows
set_option maxHeartbeats 0 in
theorem PySem.Challenge.cw_whoseink_k14_confessions_let_holds : PySem.Challenge.rw_whoseink_k14_confessions_let.Holds := by
  w_on; o_law; k_head; (case hw => w_witness2)
  k_fill
  refine LamX.walk_ofTs (l := PySem.Challenge.rw_whoseink_k14_confessions_let) (n := 63) (k := 12) (x := "_law_script") (CX := fun _ => L2.CX0) rfl (by decide) rfl ⟨rfl, by decide, by decide⟩ (fun w h Y => PySem.W.km_in_of Y) ?F (fun _ _ _ _ _ h => h)
  case F =>
    intro w mg fa h Y KX G hmg
    km_tabs Y
    refine' Ink.all_mk KX G hmg hT8 ?a1 ?l1 ?c1 ?k1 ?a2 ?l2 ?c2 ?k2 ?a3 ?l3 ?c3 ?k3 ?a4 ?l4 ?c4 ?k4 ?a5 ?l5 ?c5 ?k5 ?a6 ?l6 ?c6 ?k6 ?a7 ?l7 ?c7 ?k7 ?a8 ?l8 ?c8 ?k8 ?a9 ?l9 ?c9 ?k9 ?a10 ?l10 ?c10 ?k10 ?a11 ?l11 ?c11 ?k11 ?a12 ?l12 ?c12 ?k12 ?a13 ?l13 ?c13 ?k13 ?a14 ?l14 ?c14 ?k14 ?a15 ?l15 ?c15 ?k15 ?a16 ?l16 ?c16 ?k16 ?a17 ?l17 ?c17 ?k17 ?a18 ?l18 ?c18 ?k18 ?a19 ?l19 ?c19 ?k19 ?a20 ?l20 ?c20 ?k20 ?a21 ?l21 ?c21 ?k21 ?a22 ?l22 ?c22 ?k22 ?a23 ?l23 ?c23 ?k23 ?a24 ?l24 ?c24 ?k24 ?a25 ?l25 ?c25 ?k25 ?a26 ?l26 ?c26 ?k26 ?a27 ?l27 ?c27 ?k27 ?a28 ?l28 ?c28 ?k28 ?a29 ?l29 ?c29 ?k29 ?a30 ?l30 ?c30 ?k30 ?a31 ?l31 ?c31 ?k31 ?a32 ?l32 ?c32 ?k32 ?a33 ?l33 ?c33 ?k33 ?a34 ?l34 ?c34 ?k34 ?a35 ?l35 ?c35 ?k35 ?a36 ?l36 ?c36 ?k36 ?a37 ?l37 ?c37 ?k37 ?a38 ?l38 ?c38 ?k38 ?a39 ?l39 ?c39 ?k39 ?a40 ?l40 ?c40 ?k40 ?a41 ?l41 ?c41 ?k41 ?a42 ?l42 ?c42 ?k42 ?a43 ?l43 ?c43 ?k43 ?a44 ?l44 ?c44 ?k44 ?z1 ?z2 ?z3 ?z4 ?z5 ?z6 ?z7 ?z8 ?z9 ?z10 ?z11 ?z12 ?z13 ?y1 ?y2 ?y3 ?y4 ?y5 ?hC8 ?nT8 ?aC ?aSC ?aA ?iA ?lA ?cA ?kA ?aW ?iW ?lW ?cW ?kW ?aI ?iI ?lI ?cI ?kI ?aM ?iM ?lM ?cM ?kM ?lT ?lE0 ?aN ?lN ?nQ1 ?nQ2 ?pg1c ?hd1c ?po1c ?sa1c ?mk1c ?kp1c ?n1c1 ?n1c2 ?pg2c ?hd2c ?po2c ?sa2c ?mk2c ?kp2c ?n2c1 ?n2c2 ?n2c3 ?n2c4 ?aNS ?lNS ?rvNS ?saNS ?suNS ?tyNS ?kpNS ?gaNS ?ggNS ?hdNS ?clNS ?mrNS ?rdNS ?nmNS ?fwordNS ?fnameNS ?fmostNS ?fstripNS ?fnumberNS ?fatNS ?ocN ?ocT ?aI0 ?aMi ?aNl ?aY ?lY ?cY ?kY ?aE ?lE ?cE ?kE ?tY ?gO ?rO ?yO ?lU ?vV ?zV ?hX
    (case a1 => k_is); (case l1 => k_is); (case c1 => k_is); (case k1 => k_is); (case a2 => k_is); (case l2 => k_is)
    (case c2 => k_is); (case k2 => k_is); (case a3 => k_is); (case l3 => k_is); (case c3 => k_is); (case k3 => k_is)
    (case a4 => k_is); (case l4 => k_is); (case c4 => k_is); (case k4 => k_is); (case a5 => k_is); (case l5 => k_is)
    (case c5 => k_is); (case k5 => k_is); (case a6 => k_is); (case l6 => k_is); (case c6 => k_is); (case k6 => k_is)
    (case a7 => k_is); (case l7 => k_is); (case c7 => k_is); (case k7 => k_is); (case a8 => k_is); (case l8 => k_is)
    (case c8 => k_is); (case k8 => k_is); (case a9 => k_is); (case l9 => k_is); (case c9 => k_is); (case k9 => k_is)
    (case a10 => k_is); (case l10 => k_is); (case c10 => k_is); (case k10 => k_is); (case a11 => k_is); (case l11 => k_is)
    (case c11 => k_is); (case k11 => k_is); (case a12 => k_is); (case l12 => k_is); (case c12 => k_is); (case k12 => k_is)
    (case a13 => k_is); (case l13 => k_is); (case c13 => k_is); (case k13 => k_is); (case a14 => k_is); (case l14 => k_is)
    (case c14 => k_is); (case k14 => k_is); (case a15 => k_is); (case l15 => k_is); (case c15 => k_is); (case k15 => k_is)
    (case a16 => k_is); (case l16 => k_is); (case c16 => k_is); (case k16 => k_is); (case a17 => k_is); (case l17 => k_is)
    (case c17 => k_is); (case k17 => k_is); (case a18 => k_is); (case l18 => k_is); (case c18 => k_is); (case k18 => k_is)
    (case a19 => k_is); (case l19 => k_is); (case c19 => k_is); (case k19 => k_is); (case a20 => k_is); (case l20 => k_is)
    (case c20 => k_is); (case k20 => k_is); (case a21 => k_is); (case l21 => k_is); (case c21 => k_is); (case k21 => k_is)
    (case a22 => k_is); (case l22 => k_is); (case c22 => k_is); (case k22 => k_is); (case a23 => k_is); (case l23 => k_is)
    (case c23 => k_is); (case k23 => k_is); (case a24 => k_is); (case l24 => k_is); (case c24 => k_is); (case k24 => k_is)
    (case a25 => k_is); (case l25 => k_is); (case c25 => k_is); (case k25 => k_is); (case a26 => k_is); (case l26 => k_is)
    (case c26 => k_is); (case k26 => k_is); (case a27 => k_is); (case l27 => k_is); (case c27 => k_is); (case k27 => k_is)
    (case a28 => k_is); (case l28 => k_is); (case c28 => k_is); (case k28 => k_is); (case a29 => k_is); (case l29 => k_is)
    (case c29 => k_is); (case k29 => k_is); (case a30 => k_is); (case l30 => k_is); (case c30 => k_is); (case k30 => k_is)
    (case a31 => k_is); (case l31 => k_is); (case c31 => k_is); (case k31 => k_is); (case a32 => k_is); (case l32 => k_is)
    (case c32 => k_is); (case k32 => k_is); (case a33 => k_is); (case l33 => k_is); (case c33 => k_is); (case k33 => k_is)
    (case a34 => k_is); (case l34 => k_is); (case c34 => k_is); (case k34 => k_is); (case a35 => k_is); (case l35 => k_is)
    (case c35 => k_is); (case k35 => k_is); (case a36 => k_is); (case l36 => k_is); (case c36 => k_is); (case k36 => k_is)
    (case a37 => k_is); (case l37 => k_is); (case c37 => k_is); (case k37 => k_is); (case a38 => k_is); (case l38 => k_is)
    (case c38 => k_is); (case k38 => k_is); (case a39 => k_is); (case l39 => k_is); (case c39 => k_is); (case k39 => k_is)
    (case a40 => k_is); (case l40 => k_is); (case c40 => k_is); (case k40 => k_is); (case a41 => k_is); (case l41 => k_is)
    (case c41 => k_is); (case k41 => k_is); (case a42 => k_is); (case l42 => k_is); (case c42 => k_is); (case k42 => k_is)
    (case a43 => k_is); (case l43 => k_is); (case c43 => k_is); (case k43 => k_is); (case a44 => k_is); (case l44 => k_is)
    (case c44 => k_is); (case k44 => k_is); (case z1 => k_is); (case z2 => k_is); (case z3 => k_is); (case z4 => k_is)
    (case z5 => k_is); (case z6 => k_is); (case z7 => k_is); (case z8 => k_is); (case z9 => k_is); (case z10 => k_is)
    (case z11 => k_is); (case z12 => k_is); (case z13 => k_is); (case y1 => k_is); (case y2 => k_is); (case y3 => k_is)
    (case y4 => k_is); (case y5 => k_is); (case hC8 => kernel_rfl); (case nT8 => kernel_rfl); (case aC => k_is); (case aSC => k_is)
    (case aA => k_is); (case iA => k_is); (case lA => k_is); (case cA => k_is); (case kA => k_is); (case aW => k_is)
    (case iW => k_is); (case lW => k_is); (case cW => k_is); (case kW => k_is); (case aI => k_is); (case iI => k_is)
    (case lI => k_is); (case cI => k_is); (case kI => k_is); (case aM => k_is); (case iM => k_is); (case lM => k_is)
    (case cM => k_is); (case kM => k_is); (case lT => k_is); (case lE0 => k_is); (case aN => k_is); (case lN => k_is)
    (case nQ1 => k_is); (case nQ2 => k_is); (case pg1c => k_is); (case hd1c => k_is); (case po1c => k_is); (case sa1c => k_is)
    (case mk1c => k_is); (case kp1c => k_is); (case n1c1 => k_is); (case n1c2 => k_is); (case pg2c => k_is); (case hd2c => k_is)
    (case po2c => k_is); (case sa2c => k_is); (case mk2c => k_is); (case kp2c => k_is); (case n2c1 => k_is); (case n2c2 => k_is)
    (case n2c3 => k_is); (case n2c4 => k_is); (case aNS => k_is); (case lNS => k_is); (case rvNS => exact .own .base); (case saNS => k_is)
    (case suNS => k_is); (case tyNS => k_is); (case kpNS => k_is); (case gaNS => k_is); (case ggNS => k_is); (case hdNS => k_is)
    (case clNS => k_is); (case mrNS => k_is); (case rdNS => k_is); (case nmNS => k_is); (case fwordNS => k_is); (case fnameNS => k_is)
    (case fmostNS => k_is); (case fstripNS => k_is); (case fnumberNS => k_is); (case fatNS => k_is); (case ocN => k_is); (case ocT => k_is)
    (case aI0 => k_is); (case aMi => k_is); (case aNl => k_is); (case aY => k_is); (case lY => k_is); (case cY => k_is)
    (case kY => k_is); (case aE => k_is); (case lE => k_is); (case cE => k_is); (case kE => k_is); (case tY => k_is)
    (case gO => k_is); (case rO => k_is); (case yO => k_is); (case lU => k_is); (case vV => k_is); (case zV => k_is)
    (case hX => kernel_rfl)
