import PyProof.Rows.All
import HandS.ForMost
import HandS.Walk
import HandS.IsInst
import HandS.Zip
import HandS.EndBits
import HandS.Evl
import PySem.Challenge.RW_whoseink_k01_names_and_signs
set_option Elab.async false
set_option linter.all false
set_option maxRecDepth 100000
set_option maxHeartbeats 4000000
namespace Ink
open PySem PySem.Spec PyProof.Rows L2
/-! ### a def that is called, by its module name -/
def Cal (P : Program) (w : World) (K : PySem.W.Frag) (mg : Str → Option Value) (base : Heap) (k : Nat) (x : Str) (ps : List Str) (sp : Sp) : Prop :=
  ∃ f fd, FnOk P w K mg base CX0 k f fd ps sp ∧ mg x = some (.ref f) ∧ PySem.W.keepIn K (.ref f) = true ∧ Binds K fd ps []
theorem Cal.mono {P : Program} {w : World} {K : PySem.W.Frag} {mg : Str → Option Value} {base : Heap} {j k : Nat} {x : Str} {ps : List Str} {sp : Sp} (c : Cal P w K mg base j x ps sp) (h : j ≤ k) : Cal P w K mg base k x ps sp := by
  obtain ⟨f, fd, G, g, kp, b⟩ := c
  exact ⟨f, fd, G.mono h, g, kp, b⟩
section
variable {X : Cx} {k : Nat} {x : Str} {ps : List Str} {sp : Sp} {p pos : Pos} {e : Expr} {es : List Expr} {t : TA}
theorem pe_callC (c : Cal X.prog X.w X.K X.mg X.base k x ps sp) (hr : Room k X.A) (hg : Gl X x)
    (ha : PA X (e :: es) t) (hdb : (x == ("__debug__" : Str)) = false := by decide) (he : starEach (e :: es) X.env = (false, eval e X.env) :: starEach es X.env := by rfl) (hpl : (backTo pos (starEach es X.env)).any (·.1) = false := by rfl)
    (hp : ∀ f fd, FnOk X.prog X.w X.K X.mg X.base CX0 k f fd ps sp → Passes CX0 X E0 := by exact fun _ _ _ => pass0) :
    PE X (.Call (.Name x p) (e :: es) [] pos) (tCall sp [] E0 t) := by
  obtain ⟨f, fd, G, g, kp, b⟩ := c
  exact pe_call G hr hg g kp b .nil pass0 ha hdb he hpl
theorem pe_callC0 (c : Cal X.prog X.w X.K X.mg X.base k x ps sp) (hr : Room k X.A) (hg : Gl X x) (hdb : (x == ("__debug__" : Str)) = false := by decide) :
    PE X (.Call (.Name x p) [] [] pos) (tCall sp [] E0 tNil) := by
  obtain ⟨f, fd, G, g, kp, b⟩ := c
  exact pe_call0 G hr hg g kp b .nil pass0 hdb
end
theorem pe_globI {X : Cx} {x : Str} {n : Int} {pos : Pos} (hg : Gl X x) (hm : ∃ t, X.mg x = some (.int n t)) (hd : (x == ("__debug__" : Str)) = false := by decide) : PE X (.Name x pos) (tC (.int n)) := by
  obtain ⟨t, e⟩ := hm
  exact pe_glob hg e ⟨t, rfl⟩ hd
/-! ### heaps -/
/-- all but what stands at a is as it was -/
def Keep (a : Addr) (H H' : Hp) : Prop := ∀ b o, b ≠ a → H b = some o → H' b = some o
theorem Keep.refl {a : Addr} (H : Hp) : Keep a H H := fun _ _ _ h => h
theorem Keep.trans {a : Addr} {H H1 H2 : Hp} (x : Keep a H H1) (y : Keep a H1 H2) : Keep a H H2 := fun b o n h => y b o n (x b o n h)
theorem Keep.of_same {a : Addr} {H H' : Hp} (h : Same H H') : Keep a H H' := fun b o _ e => h b o e
theorem Keep.at {a : Addr} {H : Hp} {o : HO} : Keep a H (upd H a o) := fun b _ n h => by
  rw [upd_ne n]
  exact h
theorem Keep.seq {K : PySem.W.Frag} {a b : Addr} {H H' : Hp} {xs : List V} (e : Keep a H H') (n : b ≠ a) (h : SqL K H b xs) : SqL K H' b xs := by
  rcases h with (h | ⟨o, h⟩) | h
  · exact .inl (.inl (e _ _ n h))
  · exact .inl (.inr ⟨o, e _ _ n h⟩)
  · exact .inr h
theorem same_new {H : Hp} {p : Addr} {o : HO} (h : H p = none) : Same H (upd H p o) := fun b x e => by
  rw [upd_ne (ne_of_none e h)]
  exact e
theorem same_tup {K : PySem.W.Frag} {H H' : Hp} {a : Addr} {xs : List V} (e : Same H H') (h : SqT K H a xs) : SqT K H' a xs := Evl.ex_t e h
theorem atI_of {α : Type} {xs : List α} {r : Int} {v : α} (h0 : 0 ≤ r) (h : xs[r.toNat]? = some v) : atI xs r = some v := by
  have e : ((r.toNat : Nat) : Int) = r := by omega
  rw [← e]
  exact atI_nat h
/-! ### the bag of the drawn numbers -/
def BagAt (H : Hp) (a l : Addr) : Prop := ∃ (ns : List Int) (p h s : Int), H a = some (.lst [.ref l, .int p, .int h, .int s]) ∧ H l = some (.lst (ns.map V.int)) ∧ 0 ≤ p ∧ 0 ≤ h ∧ 0 ≤ s ∧ s < 2147483563
theorem bag_ne {H : Hp} {a l : Addr} {ns : List Int} {x y z w : V} (h : H a = some (.lst [x, y, z, w])) (hx : ∀ i, x ≠ .int i) (h' : H l = some (.lst (ns.map V.int))) : l ≠ a := by
  intro e
  rw [e, h] at h'
  injection h' with h'
  injection h' with h'
  cases ns with
  | nil => cases h'
  | cons n r =>
    injection h' with h1 _
    exact hx n h1
theorem BagAt.same {H H' : Hp} {a l : Addr} (b : BagAt H a l) (e : Same H H') : BagAt H' a l := by
  obtain ⟨ns, p, h, s, h1, h2, r⟩ := b
  exact ⟨ns, p, h, s, e _ _ h1, e _ _ h2, r⟩
theorem BagAt.ne {H : Hp} {a l D : Addr} (b : BagAt H a l) (h : H D = none) : a ≠ D ∧ l ≠ D := by
  obtain ⟨ns, p, h', s, h1, h2, r⟩ := b
  exact ⟨ne_of_none h1 h, ne_of_none h2 h⟩
theorem BagAt.upd {H : Hp} {a l D : Addr} {o : HO} (b : BagAt H a l) (n : a ≠ D ∧ l ≠ D) : BagAt (upd H D o) a l := by
  obtain ⟨ns, p, h, s, h1, h2, r⟩ := b
  exact ⟨ns, p, h, s, by rw [upd_ne n.1]; exact h1, by rw [upd_ne n.2]; exact h2, r⟩
theorem Keep.mut {a D : Addr} {H H' : Hp} {o : HO} (k : Keep a H H') (h : H D = none) : Keep a H (L2.upd H' D o) := fun b u n e => by
  rw [upd_ne (ne_of_none e h)]
  exact k b u n e
theorem Keep.seqT {K : PySem.W.Frag} {a b : Addr} {H H' : Hp} {xs : List V} (e : Keep a H H') (n : b ≠ a) (h : SqT K H b xs) : SqT K H' b xs := by
  rcases h with (h | ⟨o, h⟩) | h
  · exact .inl (.inl (e _ _ n h))
  · exact .inl (.inr ⟨o, e _ _ n h⟩)
  · exact .inr h
/-- the bag's own list, written anew -/
theorem BagAt.set {H : Hp} {a l : Addr} {ns : List Int} {p h s p' h' s' : Int} (h1 : H a = some (.lst [.ref l, .int p, .int h, .int s])) (h2 : H l = some (.lst (ns.map V.int)))
    (r : 0 ≤ p' ∧ 0 ≤ h' ∧ 0 ≤ s' ∧ s' < 2147483563) : BagAt (L2.upd H a (.lst [.ref l, .int p', .int h', .int s'])) a l :=
  ⟨ns, p', h', s', upd_same, by rw [upd_ne (bag_ne h1 (fun _ => nofun) h2)]; exact h2, r⟩
def spPull : Sp := fun vs H Q _ => ∃ (a l : Addr) (m : Int), vs = [.ref a, .int m] ∧ BagAt H a l ∧ 0 < m ∧ m < 1073741824 ∧ ∀ r H', 0 ≤ r → r < m → BagAt H' a l → Keep a H H' → Q (.int r) H'
def spBag (K : PySem.W.Frag) : Sp := fun vs H Q _ => ∃ (c : Addr) (ns : List Int), vs = [.ref c] ∧ SqL K H c (ns.map V.int) ∧ ns.length ≤ 63 ∧ ∀ a l H', H a = none → BagAt H' a l → Same H H' → Q (.ref a) H'
/-- x is a list, a tuple or a text of these things, apart from the bag -/
def ItemsOf (K : PySem.W.Frag) (H : Hp) (a : Addr) (x : V) (xs : List V) : Prop := (∃ p, x = .ref p ∧ p ≠ a ∧ (SqL K H p xs ∨ SqT K H p xs)) ∨ ∃ z : Str, x = .str z ∧ xs = z.cps.toList.map fun c => .str ⟨#[c]⟩
def spOf (K : PySem.W.Frag) : Sp := fun vs H Q _ => ∃ (a l : Addr) (x : V) (xs : List V), vs = [.ref a, x] ∧ BagAt H a l ∧ ItemsOf K H a x xs ∧ 0 < xs.length ∧ xs.length ≤ 1000 ∧ ∀ v H', v ∈ xs → BagAt H' a l → Keep a H H' → Q v H'
section
variable {K : PySem.W.Frag} {σ : L2.St} {H : Hp} {Q : VK}
theorem rd_ix {i : Nat} {a : Addr} {xs : List V} {j : Nat} {v : V} (hs : σ[i]? = some (some (.ref a))) (h : SqL K H a xs) (hv : xs[j]? = some v) (q : Q v H) : tOp (rIxL K) (tVar i) (tC (.int (j : Int))) σ H Q :=
  ⟨.ref a, hs, a, xs, (j : Int), v, rfl, rfl, h, atI_nat hv, q⟩
end
end Ink
namespace Ink
open PySem PySem.Spec PyProof.Rows L2
def topS (i : Nat) : Stmt := PySem.Challenge.pw_whoseink_k01_names_and_signs.main.body.getD i (.Pass ⟨0, 0, 0, 0⟩)
abbrev sIsSign : Stmt := topS 5
theorem sc_is_sign : FnScope ["text"] ["text"] (defScope sIsSign) := ⟨rfl, rfl, rfl, by decide +kernel, rfl, by decide +kernel, by decide +kernel⟩
abbrev sIsName : Stmt := topS 4
theorem sc_is_name : FnScope ["text", "letter"] ["text"] (defScope sIsName) := ⟨rfl, rfl, rfl, by decide +kernel, rfl, by decide +kernel, by decide +kernel⟩
abbrev sLBag : Stmt := topS 7
theorem sc__law_bag : FnScope ["_law_script", "_law_salt", "_law_cell"] ["_law_script"] (defScope sLBag) := ⟨rfl, rfl, rfl, by decide +kernel, rfl, by decide +kernel, by decide +kernel⟩
abbrev sLPull : Stmt := topS 8
theorem sc__law_pull : FnScope ["_law_bag_here", "_law_many", "_law_cell", "_law_got", "_law_seed"] ["_law_bag_here", "_law_many"] (defScope sLPull) := ⟨rfl, rfl, rfl, by decide +kernel, rfl, by decide +kernel, by decide +kernel⟩
abbrev sLOf : Stmt := topS 9
theorem sc__law_of : FnScope ["_law_bag_here", "_law_things"] ["_law_bag_here", "_law_things"] (defScope sLOf) := ⟨rfl, rfl, rfl, by decide +kernel, rfl, by decide +kernel, by decide +kernel⟩
abbrev sLLetters : Stmt := topS 10
theorem sc__law_letters : FnScope [] [] (defScope sLLetters) := ⟨rfl, rfl, rfl, by decide +kernel, rfl, by decide +kernel, by decide +kernel⟩
abbrev sLLike : Stmt := topS 11
theorem sc__law_like : FnScope ["_law_found", "_law_due", "_law_one", "_law_other"] ["_law_found", "_law_due"] (defScope sLLike) := ⟨rfl, rfl, rfl, by decide +kernel, rfl, by decide +kernel, by decide +kernel⟩
abbrev sLIsName : Stmt := topS 12
theorem sc__law_is_name : FnScope ["_law_text_here", "_law_sign"] ["_law_text_here"] (defScope sLIsName) := ⟨rfl, rfl, rfl, by decide +kernel, rfl, by decide +kernel, by decide +kernel⟩
abbrev sLText : Stmt := topS 13
theorem sc__law_text : FnScope ["_law_bag_here", "_law_limit", "_law_letters_here", "_law_text_here", "_law_at", "_law_k"] ["_law_bag_here", "_law_limit"] (defScope sLText) := ⟨rfl, rfl, rfl, by decide +kernel, rfl, by decide +kernel, by decide +kernel⟩
abbrev sLaw : Stmt := topS 14
theorem sc_law : FnScope ["_law_script", "_law_bag_here", "_law_turn", "_law_text_here", "_law_due", "_law_some"] ["_law_script"] (defScope sLaw) := ⟨rfl, rfl, rfl, by decide +kernel, rfl, by decide +kernel, by decide +kernel⟩
/-- what the top has left of built-in names -/
structure Txt (mg : Str → Option Value) : Prop where
  m_len : mg "len" = none
  m_all : mg "all" = none
  m_list : mg "list" = none
  m_range : mg "range" = none
  m_zip : mg "zip" = none
  m_isinstance : mg "isinstance" = none
  m_tuple : mg "tuple" = none
  m_bool : mg "bool" = none
  m_int : mg "int" = none
  m_str : mg "str" = none
  e__MOST_LETTERS : ∃ t, mg "_MOST_LETTERS" = some (.int 6 t)
  e_MOST_ARROWS : ∃ t, mg "MOST_ARROWS" = some (.int 9 t)
  e_MOST_COUNT : ∃ t, mg "MOST_COUNT" = some (.int 3 t)
end Ink
namespace Ink
open PySem PySem.Spec PyProof.Rows L2
section
variable {P : Program} {w : World} {K : PySem.W.Frag} {mg : Str → Option Value} {base : Heap}
theorem emod_in (x : Int) : 0 ≤ x % 2147483563 ∧ x % 2147483563 < 2147483563 := ⟨Int.emod_nonneg _ (by decide), Int.emod_lt_of_pos _ (by decide)⟩
theorem pos1 : (0 : Int) < 2147483563 := by decide
theorem pos2 : (0 : Int) < 8191 := by decide
theorem ok_pull {f : Addr} {fd : FuncData} {k : Nat} (F : Fun K "_law_pull" "_law_pull" sLPull f fd) (T : Txt mg) : FnOk P w K mg base CX0 (k + 1) f fd ["_law_bag_here", "_law_many"] spPull := by
  refine F.ok sc__law_pull (fun vs H Q E h => ?_) (fun cdv A outer s H vs Q E hr h => ?_)
  · obtain ⟨a, l, m, rfl, _⟩ := h
    rfl
  · obtain ⟨a, l, m, rfl, hB, hm0, hm1, q⟩ := h
    refine ⟨_, (Evl.pss_cut (ps_if (PW.pt (pw_and (pt_cmpR op_eq (pe_ix ix_list (pv 0) pe_int (fun _ _ => rfl)) pe_int (nomark _)) (pw_and1 (pt_cmpR op_lt (pe_ix ix_list (pv 0) pe_int (fun _ _ => rfl)) (pe_callB call_len (by rfl) T.m_len PySem.boot_len (pa_cons (pe_ix ix_list (pv 0) pe_int (fun _ _ => rfl)) pa_nil)) (nomark _)))))
    (pss_cons (ps_set (i := 2) sc__law_pull.nd rfl (.inl rfl) (pe_ix ix_list (pe_ix ix_list (pv 0) pe_int (fun _ _ => rfl)) (pe_ix ix_list (pv 0) pe_int (fun _ _ => rfl)) (fun _ _ => rfl)))
    (pss_cons (ps_asg (pe_op op_add (pe_ix ix_list (pv 0) pe_int (fun _ _ => rfl)) pe_int) (pg_sub (pv 0) pe_int set_list))
    (pss_one (ps_if (pt_cmpR op_ge (pv 2) (pe_op op_pow pe_int pe_int) (nomark _))
    (pss_one (ps_asg (pe_op op_sub (pv 2) (pe_op op_pow pe_int pe_int)) (pg_sub (pv 0) pe_int set_list))) (pss_one (ps_asg (pe_op op_mod (pe_op op_add (pe_op op_add (pe_op op_mul (pe_ix ix_list (pv 0) pe_int (fun _ _ => rfl)) pe_int) (pe_op op_mul (pe_op op_mod (pv 2) pe_int) pe_int)) pe_int) pe_int) (pg_sub (pv 0) pe_int set_list))))))) pss_nil)
    (pss_cons (ps_if (pt_cmpR op_gt (pe_ix ix_list (pv 0) pe_int (fun _ _ => rfl)) pe_int (nomark _))
    (pss_cons (ps_set (i := 3) sc__law_pull.nd rfl (.inl rfl) (pe_op op_mod (pe_ix ix_list (pv 0) pe_int (fun _ _ => rfl)) (pv 1)))
    (pss_cons (ps_asg (pe_op op_fdiv (pe_ix ix_list (pv 0) pe_int (fun _ _ => rfl)) (pv 1)) (pg_sub (pv 0) pe_int set_list))
    (pss_one (ps_ret (pv 3))))) pss_nil)
    (pss_cons (ps_set (i := 4) sc__law_pull.nd rfl (.inl rfl) (pe_ix ix_list (pv 0) pe_int (fun _ _ => rfl)))
    (pss_cons (ps_asg (pe_op op_mod (pe_op op_add (pe_op op_add (pe_op op_mul (pe_op op_mul (pv 4) (pv 4)) pe_int) (pe_op op_mul (pv 4) pe_int)) pe_int) pe_int) (pg_sub (pv 0) pe_int set_list))
    (pss_one (ps_ret (pe_op op_mod (pe_op op_add (pe_op op_fdiv (pe_ix ix_list (pv 0) pe_int (fun _ _ => rfl)) pe_int) (pe_op op_mul (pe_op op_mod (pe_ix ix_list (pv 0) pe_int (fun _ _ => rfl)) pe_int) pe_int)) (pv 1)))))))), ?_⟩
    refine ⟨fun σ H1 => ∃ c, σ = [some (.ref a), some (.int m), c, none, none] ∧ BagAt H1 a l ∧ Keep a H H1, ?_, fun σ H1 hσ => ?_⟩
    · obtain ⟨ns, p, h, s, h1, h2, h3, h4, h5, h6⟩ := hB
      have L : SqL K H a _ := .of h1
      -- bag[2] == 0
      refine ⟨.ref a, rfl, a, _, 2, .int h, rfl, rfl, L, rfl, rfl, _, rfl, ?_⟩
      by_cases e0 : V.int h = V.int 0
      · rw [decide_eq_true e0]
        refine iteT ?_
        refine ⟨.ref a, rfl, a, _, 1, .int p, rfl, rfl, L, rfl, .ref a, rfl, a, _, 0, .ref l, rfl, rfl, L, rfl, .ref l, _, rfl, .inl ⟨_, .of h2, rfl⟩, _, _, rfl, rfl, _, rfl, ?_⟩
        refine ite2 (fun e1 => ?_) (fun e1 => ?_)
        · have e2 : p < ((ns.map V.int).length : Int) := of_decide_eq_true e1
          rw [List.length_map] at e2
          have hc : (ns.map V.int)[p.toNat]? = some (.int (ns[p.toNat]'(by omega))) := by
            rw [List.getElem?_map, List.getElem?_eq_getElem (by omega)]
            rfl
          have ep : ((p.toNat : Nat) : Int) = p := by omega
          generalize ns[p.toNat]'(by omega) = c at hc
          refine ⟨.ref a, rfl, a, _, 0, .ref l, rfl, rfl, L, rfl, .ref a, rfl, a, _, 1, .int p, rfl, rfl, L, rfl, l, _, p, .int c, rfl, rfl, .of h2, ?_, ?_⟩
          · rw [← ep]
            exact atI_nat hc
          · -- bag[1] = bag[1] + 1
            refine ⟨.ref a, rfl, a, _, 1, .int p, rfl, rfl, L, rfl, p, 1, rfl, rfl, .ref a, rfl, a, _, 1, 1, rfl, rfl, h1, rfl, ?_⟩
            -- cell >= 10 ** 18
            have n1 : (upd H a (.lst [.ref l, .int (p + 1), .int h, .int s])) a = some (.lst [.ref l, .int (p + 1), .int h, .int s]) := upd_same
            have n2 : (upd H a (.lst [.ref l, .int (p + 1), .int h, .int s])) l = some (.lst (ns.map V.int)) := by
              rw [upd_ne (bag_ne h1 (fun _ => nofun) h2)]
              exact h2
            refine ⟨.int c, rfl, 10, 18, rfl, rfl, ⟨by decide, by decide, by decide⟩, c, _, rfl, rfl, _, rfl, ?_⟩
            refine ite2 (fun e3 => ?_) (fun e3 => ?_)
            · refine ⟨.int c, rfl, 10, 18, rfl, rfl, ⟨by decide, by decide, by decide⟩, c, _, rfl, rfl, .ref a, rfl, a, _, 2, 2, rfl, rfl, n1, rfl, some (.int c), rfl, ?_, ?_⟩
              · have e4 : (10 : Int) ^ ((18 : Int).toNat) ≤ c := of_decide_eq_true e3
                exact BagAt.set (p' := p + 1) (h' := c - 10 ^ ((18 : Int).toNat)) (s' := s) n1 n2 ⟨by omega, by omega, h5, h6⟩
              · exact Keep.at.trans Keep.at
            · refine ⟨.ref a, rfl, a, _, 3, .int s, rfl, rfl, .of n1, rfl, s, 48271, rfl, rfl, .inl ⟨by omega, by omega⟩, .int c, rfl, c, 2147483563, rfl, rfl, pos1, _, 69621, rfl, rfl, .inr ⟨by decide, by decide⟩, _, _, rfl, rfl, _, 7, rfl, rfl, _, 2147483563, rfl, rfl, pos1, .ref a, rfl, a, _, 3, 3, rfl, rfl, n1, rfl, some (.int c), rfl, ?_, ?_⟩
              · exact BagAt.set (p' := p + 1) (h' := h) n1 n2 ⟨by omega, h4, (emod_in _).1, (emod_in _).2⟩
              · exact Keep.at.trans Keep.at
        · exact ⟨none, rfl, ⟨ns, p, h, s, h1, h2, h3, h4, h5, h6⟩, Keep.refl H⟩
      · rw [decide_eq_false e0]
        exact iteF (iteF ⟨none, rfl, ⟨ns, p, h, s, h1, h2, h3, h4, h5, h6⟩, Keep.refl H⟩)
    · obtain ⟨c, rfl, hB1, k1⟩ := hσ
      obtain ⟨ns, p, h, s, h1, h2, h3, h4, h5, h6⟩ := hB1
      have L : SqL K H1 a _ := .of h1
      refine ⟨.ref a, rfl, a, _, 2, .int h, rfl, rfl, L, rfl, _, _, rfl, rfl, _, rfl, ite2 (fun e1 => ?_) (fun e1 => ?_)⟩
      · have e2 : (0 : Int) < h := of_decide_eq_true e1
        refine ⟨.ref a, rfl, a, _, 2, .int h, rfl, rfl, L, rfl, .int m, rfl, h, m, rfl, rfl, hm0, ?_⟩
        refine ⟨.ref a, rfl, a, _, 2, .int h, rfl, rfl, L, rfl, .int m, rfl, h, m, rfl, rfl, ⟨hm0, hm1⟩, .ref a, rfl, a, _, 2, 2, rfl, rfl, h1, rfl, .int (h % m), rfl, ?_⟩
        exact q _ _ (Int.emod_nonneg _ (by omega)) (Int.emod_lt_of_pos _ hm0) (BagAt.set (p' := p) (h' := h / m) (s' := s) h1 h2 ⟨h3, Int.ediv_nonneg h4 (by omega), h5, h6⟩) (k1.trans Keep.at)
      · refine ⟨.ref a, rfl, a, _, 3, .int s, rfl, rfl, L, rfl, ?_⟩
        refine ⟨.int s, rfl, .int s, rfl, s, s, rfl, rfl, .inl ⟨by omega, by omega⟩, s * s, 3, rfl, rfl, .inr ⟨by decide, by decide⟩, .int s, rfl, s, 16807, rfl, rfl, .inl ⟨by omega, by omega⟩, _, _, rfl, rfl, _, 1013904223, rfl, rfl, _, 2147483563, rfl, rfl, pos1, .ref a, rfl, a, _, 3, 3, rfl, rfl, h1, rfl, ?_⟩
        have b := emod_in (s * s * 3 + s * 16807 + 1013904223)
        have hB2 : BagAt (upd H1 a (.lst [.ref l, .int p, .int h, .int ((s * s * 3 + s * 16807 + 1013904223) % 2147483563)])) a l := BagAt.set h1 h2 ⟨h3, h4, b.1, b.2⟩
        have n1 : (upd H1 a (.lst [.ref l, .int p, .int h, .int ((s * s * 3 + s * 16807 + 1013904223) % 2147483563)])) a = _ := upd_same
        refine ⟨.ref a, rfl, a, _, 3, .int ((s * s * 3 + s * 16807 + 1013904223) % 2147483563), rfl, rfl, .of n1, rfl, _, 61, rfl, rfl, ⟨by decide, by decide⟩, .ref a, rfl, a, _, 3, .int ((s * s * 3 + s * 16807 + 1013904223) % 2147483563), rfl, rfl, .of n1, rfl, _, 8191, rfl, rfl, pos2, _, 17, rfl, rfl, .inr ⟨by decide, by decide⟩, _, _, rfl, rfl, .int m, rfl, _, m, rfl, rfl, hm0, ?_⟩
        exact q _ _ (Int.emod_nonneg _ (by omega)) (Int.emod_lt_of_pos _ hm0) hB2 (k1.trans Keep.at)
theorem cut_ints (ns : List Int) (lo hi : Option Int) : ∃ ms : List Int, cutV (ns.map V.int) lo hi = ms.map V.int ∧ ms.length ≤ ns.length := by
  refine ⟨(ns.drop (HT.sIx (ns.map V.int).length 0 lo)).take (HT.sIx (ns.map V.int).length (ns.map V.int).length hi - HT.sIx (ns.map V.int).length 0 lo), ?_, ?_⟩
  · unfold cutV
    rw [List.map_take, List.map_drop]
  · rw [List.length_take, List.length_drop]
    omega
theorem ok_bag {f : Addr} {fd : FuncData} {k : Nat} (F : Fun K "_law_bag" "_law_bag" sLBag f fd) (T : Txt mg) : FnOk P w K mg base CX0 (k + 1) f fd ["_law_script"] (spBag K) := by
  refine F.ok sc__law_bag (fun vs H Q E h => ?_) (fun cdv A outer s H vs Q E hr h => ?_)
  · obtain ⟨c, ns, rfl, _⟩ := h
    rfl
  · obtain ⟨c, ns, rfl, hS, hlen, q⟩ := h
    refine ⟨_, (pss_cons (ps_set (i := 1) sc__law_bag.nd rfl (.inl rfl) pe_int)
    (pss_cons (ps_for PassesOwn.never rfl (pi_list (pe_slice sl_list (pv 0) po_none (po_some pe_int))) (pg_name (i := 2) sc__law_bag.nd rfl (.inl rfl))
    (pss_one (ps_set (i := 1) sc__law_bag.nd rfl (.inl rfl) (pe_op op_mod (pe_op op_add (pe_op op_add (pe_op op_mul (pv 1) pe_int) (pe_op op_mod (pv 2) pe_int)) pe_int) pe_int))))
    (pss_one (ps_ret (pe_lst (pa_cons (pe_callTy call_list_of (by rfl) T.m_list (by decide +kernel) (pa_cons (pe_slice sl_list (pv 0) po_none (po_some pe_int)) pa_nil)) (pa_cons pe_int (pa_cons pe_int (pa_cons (pv 1) pa_nil))))))))), ?_⟩
    obtain ⟨ms, ems, hms⟩ := cut_ints ns none (some 63)
    refine ⟨.ref c, rfl, 63, rfl, c, _, rfl, hS, fun p np => ?_⟩
    have s1 : Same H (upd H p (.lst (cutV (ns.map V.int) none (some 63)))) := same_new np
    rw [ems] at s1
    show ∃ a, V.ref p = .ref a ∧ (∃ xs, SqL K (upd H p (.lst (cutV (ns.map V.int) none (some 63)))) a xs) ∧ _
    rw [ems]
    have hp : SqL K (upd H p (.lst (ms.map V.int))) p (ms.map V.int) := .of upd_same
    refine ⟨p, rfl, ⟨_, hp⟩, for_it (walk_list (xs := ms.map V.int)) (fun i σ H' => ∃ (s : Int) (y : Option V), σ = [some (.ref c), some (.int s), y] ∧ 0 ≤ s ∧ s < 2147483563 ∧ H' = upd H p (.lst (ms.map V.int))) ⟨9450, none, rfl, by decide, by decide, rfl⟩ (fun i σ H' _ hP => ?_) (fun i x σ H' H2 hi hP hy => ?_) (fun σ H' hP => ?_)⟩
    · obtain ⟨s, y, _, _, _, rfl⟩ := hP
      exact hp
    · obtain ⟨s, y, rfl, hs0, hs1, rfl⟩ := hP
      obtain ⟨rfl, hx⟩ := hy
      have hi2 : i < ms.length := by
        rw [List.length_map] at hi
        exact hi
      rw [List.getElem?_map, List.getElem?_eq_getElem hi2] at hx
      have hx := Option.some.inj hx
      subst hx
      refine ⟨.int s, rfl, s, 40014, rfl, rfl, .inl ⟨by omega, by omega⟩, .int ms[i], rfl, ms[i], 2147483563, rfl, rfl, pos1, _, _, rfl, rfl, _, 13, rfl, rfl, _, 2147483563, rfl, rfl, pos1, ?_⟩
      exact ⟨_, _, rfl, (emod_in _).1, (emod_in _).2, rfl⟩
    · obtain ⟨s, y, rfl, hs0, hs1, rfl⟩ := hP
      refine ⟨.ref c, rfl, 63, rfl, c, _, rfl, s1.seq hS, fun p2 np2 => ?_⟩
      have s2 : Same (upd H p (.lst (ms.map V.int))) (upd (upd H p (.lst (ms.map V.int))) p2 (.lst (cutV (ns.map V.int) none (some 63)))) := same_new np2
      refine ⟨p2, _, rfl, .inl (.of upd_same), fun l nl => ?_⟩
      refine ⟨.int s, rfl, by show 4 ≤ sizeLine; decide, fun a na => ?_⟩
      have s3 := same_new (o := .lst (cutV (ns.map V.int) none (some 63))) nl
      have s4 := same_new (o := .lst [V.ref l, .int 0, .int 0, .int s]) na
      refine q a l _ ((s1.trans (s2.trans s3)).free na) ⟨ms, 0, 0, s, upd_same, ?_, by decide, by decide, hs0, hs1⟩ ((s1.trans (s2.trans s3)).trans s4)
      rw [s4 l _ upd_same, ems]
theorem ok_of {f : Addr} {fd : FuncData} {k : Nat} (F : Fun K "_law_of" "_law_of" sLOf f fd) (T : Txt mg) (C__law_pull : Cal P w K mg base k "_law_pull" ["_law_bag_here", "_law_many"] spPull) : FnOk P w K mg base CX0 (k + 1) f fd ["_law_bag_here", "_law_things"] (spOf K) := by
  refine F.ok sc__law_of (fun vs H Q E h => ?_) (fun cdv A outer s H vs Q E hr h => ?_)
  · obtain ⟨a, l, x, xs, rfl, _⟩ := h
    rfl
  · obtain ⟨a, l, x, xs, rfl, hB, hI, h0, h1, q⟩ := h
    refine ⟨_, (pss_one (ps_ret (pe_ix ix_seq (pv 1) (pe_callC C__law_pull hr (by rfl) (pa_cons (pv 0) (pa_cons (pe_callB call_len (by rfl) T.m_len PySem.boot_len (pa_cons (pv 1) pa_nil)) pa_nil))) (fun _ _ => rfl)))), ?_⟩
    have hL : LenV K x H xs.length := by
      rcases hI with ⟨p, rfl, n, h | h⟩ | ⟨z, rfl, rfl⟩
      · exact .inl ⟨_, h, rfl⟩
      · exact .inr ⟨_, h, rfl⟩
      · rw [List.length_map] at h1 ⊢
        exact ⟨Nat.le_trans h1 (by decide), rfl⟩
    refine ⟨x, rfl, .ref a, rfl, x, rfl, x, _, rfl, hL, a, l, _, rfl, hB, by omega, by omega, fun r H' r0 r1 hB' k' => ?_⟩
    have hr2 : r.toNat < xs.length := by omega
    have er : ((r.toNat : Nat) : Int) = r := by omega
    have hx : xs[r.toNat]? = some (xs[r.toNat]) := List.getElem?_eq_getElem hr2
    have hq := q _ H' (List.mem_of_getElem? hx) hB' k'
    rcases hI with ⟨p, rfl, n, h | h⟩ | ⟨z, rfl, rfl⟩
    · exact .inl ⟨p, xs, r, _, rfl, rfl, k'.seq n h, atI_of r0 hx, hq⟩
    · exact .inr (.inl ⟨p, xs, r, _, rfl, rfl, k'.seqT n h, atI_of r0 hx, hq⟩)
    · rw [List.length_map] at h1 hr2
      have hc : z.cps.toList[r.toNat]? = some (z.cps.toList[r.toNat]) := List.getElem?_eq_getElem hr2
      rw [List.getElem?_map, hc] at hx
      have hx := Option.some.inj hx
      rw [← hx] at hq
      exact .inr (.inr ⟨z, r, _, rfl, rfl, Nat.le_trans h1 (by decide), atI_of r0 hc, hq⟩)
end
end Ink
namespace Ink
open PySem PySem.Spec PyProof.Rows L2
/-- None, a bool, a whole number, a text -/
def flatD : V → Bool
  | .non => true
  | .bl _ => true
  | .int _ => true
  | .str _ => true
  | _ => false
/-- v and w hold the same, at most n deep -/
def Lk (K : PySem.W.Frag) (H : Hp) : Nat → V → V → Prop
  | 0, _, _ => False
  | n + 1, v, w => (v = w ∧ flatD w = true) ∨ ∃ (p q : Addr) (xs ys : List V), v = .ref p ∧ w = .ref q ∧ ((SqL K H p xs ∧ SqL K H q ys) ∨ (SqT K H p xs ∧ SqT K H q ys)) ∧ xs.length = ys.length ∧ xs.length ≤ 1000 ∧
      ∀ (i : Nat) (x y : V), xs[i]? = some x → ys[i]? = some y → Lk K H n x y
theorem Lk.same {K : PySem.W.Frag} {H H' : Hp} (e : Same H H') : ∀ {n : Nat} {v w : V}, Lk K H n v w → Lk K H' n v w
  | 0, _, _, h => h.elim
  | n + 1, v, w, h => by
    rcases h with h | ⟨p, q, xs, ys, h1, h2, h3, h4, h5, h6⟩
    · exact .inl h
    · refine .inr ⟨p, q, xs, ys, h1, h2, ?_, h4, h5, fun i x y a b => Lk.same e (h6 i x y a b)⟩
      rcases h3 with ⟨a, b⟩ | ⟨a, b⟩
      · exact .inl ⟨e.seq a, e.seq b⟩
      · exact .inr ⟨same_tup e a, same_tup e b⟩
def spLike (K : PySem.W.Frag) (n : Nat) : Sp := fun vs H Q _ => ∃ v w, vs = [v, w] ∧ Lk K H n v w ∧ ∀ H', Same H H' → Q (.bl true) H'
theorem tyx_l {K : PySem.W.Frag} {H : Hp} {a : Addr} {xs : List V} (h : SqL K H a xs) : TyX K H (.ref a) (.type "list") := by
  rcases h with (h | ⟨o, h⟩) | ⟨o, its, n, h1, h2, _⟩
  · exact .base (.lst h)
  · exact .base (.frz h)
  · exact .kList h1 h2
theorem tyx_t {K : PySem.W.Frag} {H : Hp} {a : Addr} {xs : List V} (h : SqT K H a xs) : TyX K H (.ref a) (.type "tuple") := by
  rcases h with (h | ⟨o, h⟩) | ⟨o, its, n, h1, h2, _⟩
  · exact .base (.tup h)
  · exact .fTuple h
  · exact .kTuple h1 h2
def tyD : V → String
  | .non => "NoneType"
  | .bl _ => "bool"
  | .int _ => "int"
  | _ => "str"
theorem tyx_f {K : PySem.W.Frag} {H : Hp} : ∀ {v : V}, flatD v = true → TyX K H v (.type (tyD v))
  | .non, _ => .base .non
  | .bl b, _ => .base (.bl b)
  | .int i, _ => .base (.int i)
  | .str z, _ => .base (.str z)
theorem kit_f {K : PySem.W.Frag} {T : String} : ∀ {v : V}, flatD v = true → kitB (tyD v) T = kitB (tyD v) T := fun _ => rfl
theorem kt {K : PySem.W.Frag} {a b : String} {r : Bool} (h : kitB a b = some r) : PySem.W.kitOne K (.type a) (.type b) = some r := kit_ty h
theorem kit2 {K : PySem.W.Frag} {t a b : String} {x y r : Bool} (h1 : kitB t a = some x) (h2 : kitB t b = some y) (hr : r = (x || y)) : PySem.W.kitAny K (.type t) [.type a, .type b] = some r := by
  subst hr
  refine kitAny_cons (kt h1) (fun e => ?_) (fun e => by rw [e]; rfl)
  subst e
  exact kitAny_cons (kt h2) (fun e => by rw [e]; exact kitAny_nil) (fun e => by rw [e]; rfl)
theorem kit_lt {K : PySem.W.Frag} : ∀ {v : V}, flatD v = true → PySem.W.kitAny K (.type (tyD v)) [.type "list", .type "tuple"] = some false
  | .non, _ => kit2 (t := "NoneType") (x := false) (y := false) (by decide +kernel) (by decide +kernel) rfl
  | .bl b, _ => kit2 (t := "bool") (x := false) (y := false) (by decide +kernel) (by decide +kernel) rfl
  | .int i, _ => kit2 (t := "int") (x := false) (y := false) (by decide +kernel) (by decide +kernel) rfl
  | .str z, _ => kit2 (t := "str") (x := false) (y := false) (by decide +kernel) (by decide +kernel) rfl
theorem same_mut {H H' : Hp} {p : Addr} {o : HO} (e : Same H H') (h : H p = none) : Same H (upd H' p o) := Evl.Ex.mut e h
theorem small_lt {n : Nat} (h : n < 1000000) : n < sizeLine := Nat.lt_of_lt_of_le h (by decide)
theorem small_le {n : Nat} (h : n ≤ 1000000) : n ≤ sizeLine := Nat.le_trans h (by decide)
theorem yes_of {σ : L2.St} {H : Hp} {Q : Bool → Hp → Prop} (h : Q true H) : tYes σ H Q := h
theorem pair_lt : Paired ClsV [V.ty "list", V.ty "tuple"] [Value.type "list", Value.type "tuple"] := .cons (.ty _) (.cons (.ty _) .nil)
theorem walk_zipT {K : PySem.W.Frag} {a b : Addr} {xs ys : List V} {n : Nat} (hn : n = min xs.length ys.length) : Walk (RZ.ItzT K a b) n (fun H => SqT K H a xs ∧ SqT K H b ys) (YPair (fun i => xs[i]?) (fun i => ys[i]?)) := by
  subst hn
  refine ⟨fun i _ hi q => ?_, fun _ q => ⟨xs, ys, q.1, q.2, by omega⟩, fun i H v H' _ q y => ?_⟩
  · have h1 : i < xs.length := by omega
    have h2 : i < ys.length := by omega
    exact ⟨xs, ys, xs[i], ys[i], q.1, q.2, by simp [h1], by simp [h2]⟩
  · obtain ⟨T, x, z, h1, h2, h3, h4, h5⟩ := y
    exact ⟨T, x, z, h1, h2, h3, h4 xs q.1, h5 ys q.2⟩
theorem rep_all (n : Nat) : (List.replicate n true).all id = true := by
  induction n with
  | zero => rfl
  | succ n ih =>
    rw [List.replicate_succ, List.all_cons, ih]
    rfl
theorem rep_snoc {α : Type} (n : Nat) (x : α) : List.replicate n x ++ [x] = List.replicate (n + 1) x := by
  induction n with
  | zero => rfl
  | succ n ih =>
    rw [List.replicate_succ, List.cons_append, ih]
    rfl
section
variable {P : Program} {w : World} {K : PySem.W.Frag} {mg : Str → Option Value} {base : Heap}
theorem ok_like_step {f : Addr} {fd : FuncData} {k n : Nat} (F : Fun K "_law_like" "_law_like" sLLike f fd) (T : Txt mg)
    (C__law_like : Cal P w K mg base k "_law_like" ["_law_found", "_law_due"] (spLike K n)) :
    FnOk P w K mg base CX0 (k + 1) f fd ["_law_found", "_law_due"] (spLike K (n + 1)) := by
  refine F.ok sc__law_like (fun vs H Q E h => ?_) (fun cdv A outer s H vs Q E hr h => ?_)
  · obtain ⟨a, m, rfl, _⟩ := h
    rfl
  · obtain ⟨v, w', rfl, hL, q⟩ := h
    refine ⟨_, (pss_cons (ps_if (pt_val (pe_callB call_isiT (by rfl) T.m_isinstance (by decide +kernel) (pa_cons (pv 1) (pa_cons (pe_tup (pa_cons (pe_bltn (v := .ty "list") (by rfl) T.m_list (by decide +kernel) rfl) (pa_cons (pe_bltn (v := .ty "tuple") (by rfl) T.m_tuple (by decide +kernel) rfl) pa_nil))) pa_nil))))
    (pss_cons (ps_if (PW.pt (pw_or (pt_cmpR op_ne (pe_callB call_isi (by rfl) T.m_isinstance (by decide +kernel) (pa_cons (pv 0) (pa_cons (pe_bltn (v := .ty "list") (by rfl) T.m_list (by decide +kernel) rfl) pa_nil))) (pe_callB call_isi (by rfl) T.m_isinstance (by decide +kernel) (pa_cons (pv 1) (pa_cons (pe_bltn (v := .ty "list") (by rfl) T.m_list (by decide +kernel) rfl) pa_nil))) (nomark _)) (pw_or1 (pt_cmpR op_ne (pe_callB call_isi (by rfl) T.m_isinstance (by decide +kernel) (pa_cons (pv 0) (pa_cons (pe_bltn (v := .ty "tuple") (by rfl) T.m_tuple (by decide +kernel) rfl) pa_nil))) (pe_callB call_isi (by rfl) T.m_isinstance (by decide +kernel) (pa_cons (pv 1) (pa_cons (pe_bltn (v := .ty "tuple") (by rfl) T.m_tuple (by decide +kernel) rfl) pa_nil))) (nomark _)))))
    (pss_one (ps_ret pe_bl)) pss_nil)
    (pss_one (ps_ret (pe_and (pe_cmpR op_eq (pe_callB call_len (by rfl) T.m_len PySem.boot_len (pa_cons (pv 0) pa_nil)) (pe_callB call_len (by rfl) T.m_len PySem.boot_len (pa_cons (pv 1) pa_nil)) (nomark _)) (pe_one (pe_callB (cr_all rfl) (by rfl) T.m_all (by decide +kernel) (pa_cons (pe_lc (own := [("_law_one", 2), ("_law_other", 3)]) (g := (gTup K 2 (gCons (gName 2) (gCons (gName 3) gNil)))) (by rfl) sc__law_like.nd (RZ.pi_zipA (by rfl) T.m_zip (pa_cons (pv 0) (pa_cons (pv 1) pa_nil))) (blkOk_by (own := [("_law_one", 2), ("_law_other", 3)]) (N := ["_law_found", "_law_due", "_law_one", "_law_other"]) (sc := defScope sLLike) (by decide +kernel)) (fun _ _ _ _ _ => (pg_tup rfl (pgs_cons (pg_name (i := 2) sc__law_like.nd rfl (.inl rfl)) (pgs_cons (pg_name (i := 3) sc__law_like.nd rfl (.inl rfl)) pgs_nil)))) (fun _ _ _ _ _ => pts_nil) (fun _ _ _ _ _ => (pe_callC C__law_like hr (by rfl) (pa_cons (pv 2) (pa_cons (pv 3) pa_nil))))) pa_nil))))))) pss_nil)
    (pss_cons (ps_if (PW.pt (pw_or (pt_cmpR op_isN (pv 0) pe_non (nomark _)) (pw_or1 (pt_cmpR op_isN (pv 1) pe_non (nomark _)))))
    (pss_one (ps_ret (pe_and (pe_cmpR op_isN (pv 0) pe_non (nomark _)) (pe_one (pe_cmpR op_isN (pv 1) pe_non (nomark _)))))) pss_nil)
    (pss_cons (ps_if (PW.pt (pw_or (pt_cmpR op_ne (pe_callB call_isi (by rfl) T.m_isinstance (by decide +kernel) (pa_cons (pv 0) (pa_cons (pe_bltn (v := .ty "bool") (by rfl) T.m_bool (by decide +kernel) rfl) pa_nil))) (pe_callB call_isi (by rfl) T.m_isinstance (by decide +kernel) (pa_cons (pv 1) (pa_cons (pe_bltn (v := .ty "bool") (by rfl) T.m_bool (by decide +kernel) rfl) pa_nil))) (nomark _)) (pw_or1 (pt_cmpR op_ne (pe_callB call_isi (by rfl) T.m_isinstance (by decide +kernel) (pa_cons (pv 0) (pa_cons (pe_bltn (v := .ty "int") (by rfl) T.m_int (by decide +kernel) rfl) pa_nil))) (pe_callB call_isi (by rfl) T.m_isinstance (by decide +kernel) (pa_cons (pv 1) (pa_cons (pe_bltn (v := .ty "int") (by rfl) T.m_int (by decide +kernel) rfl) pa_nil))) (nomark _)))))
    (pss_one (ps_ret pe_bl)) pss_nil)
    (pss_one (ps_ret (pe_and (pe_cmpR op_eq (pe_callB call_isi (by rfl) T.m_isinstance (by decide +kernel) (pa_cons (pv 0) (pa_cons (pe_bltn (v := .ty "str") (by rfl) T.m_str (by decide +kernel) rfl) pa_nil))) (pe_callB call_isi (by rfl) T.m_isinstance (by decide +kernel) (pa_cons (pv 1) (pa_cons (pe_bltn (v := .ty "str") (by rfl) T.m_str (by decide +kernel) rfl) pa_nil))) (nomark _)) (pe_one (pe_cmpR op_eq (pv 0) (pv 1) (nomark _))))))))), ?_⟩
    rcases hL with ⟨rfl, hf⟩ | ⟨p, q', xs, ys, rfl, rfl, hS, hlen, hmax, hit⟩
    · -- a flat thing
      have ty : ∀ H', TyX K H' v (.type (tyD v)) := fun _ => tyx_f hf
      refine ⟨v, rfl, by show 2 ≤ sizeLine; decide, fun tp htp => ⟨v, tp, _, .type (tyD v), _, false, rfl, upd_same, pair_lt, ty _, ?_, false, rfl, iteF ?_⟩⟩
      · exact kit_lt hf
      have sm : Same H (upd H tp (.tup [V.ty "list", V.ty "tuple"])) := same_new htp
      generalize upd H tp (.tup [V.ty "list", V.ty "tuple"]) = H1 at sm
      by_cases hn : v = .non
      · subst hn
        refine ⟨.non, rfl, rfl, true, rfl, iteT (iteT ?_)⟩
        exact ⟨.non, rfl, rfl, true, rfl, iteT ⟨.non, rfl, rfl, q _ sm⟩⟩
      · have dn : decide (v = .non) = false := decide_eq_false hn
        refine ⟨v, rfl, rfl, _, rfl, ?_⟩
        rw [dn]
        refine iteF ⟨v, rfl, rfl, _, rfl, ?_⟩
        rw [dn]
        refine iteF ?_
        obtain ⟨rb, ri, rs, eb, ei, es, sc⟩ : ∃ rb ri rs, kitB (tyD v) "bool" = some rb ∧ kitB (tyD v) "int" = some ri ∧ kitB (tyD v) "str" = some rs ∧ scal v v = true := by
          cases v with
          | non => exact absurd rfl hn
          | bl b => exact ⟨_, _, _, (by decide +kernel : kitB "bool" "bool" = some true), (by decide +kernel : kitB "bool" "int" = some true), (by decide +kernel : kitB "bool" "str" = some false), rfl⟩
          | int b => exact ⟨_, _, _, (by decide +kernel : kitB "int" "bool" = some false), (by decide +kernel : kitB "int" "int" = some true), (by decide +kernel : kitB "int" "str" = some false), rfl⟩
          | str b => exact ⟨_, _, _, (by decide +kernel : kitB "str" "bool" = some false), (by decide +kernel : kitB "str" "int" = some false), (by decide +kernel : kitB "str" "str" = some true), rfl⟩
          | byt b => cases hf
          | flt b => cases hf
          | ref b => cases hf
          | ty b => cases hf
        refine ⟨v, rfl, v, .ty "bool", .type (tyD v), .type "bool", rb, rfl, .ty _, ty _, kt eb, v, rfl, v, .ty "bool", .type (tyD v), .type "bool", rb, rfl, .ty _, ty _, kt eb, rfl, _, rfl, iteNS rfl ?_⟩
        refine ⟨v, rfl, v, .ty "int", .type (tyD v), .type "int", ri, rfl, .ty _, ty _, kt ei, v, rfl, v, .ty "int", .type (tyD v), .type "int", ri, rfl, .ty _, ty _, kt ei, rfl, _, rfl, iteNS rfl ?_⟩
        refine ⟨v, rfl, v, .ty "str", .type (tyD v), .type "str", rs, rfl, .ty _, ty _, kt es, v, rfl, v, .ty "str", .type (tyD v), .type "str", rs, rfl, .ty _, ty _, kt es, rfl, _, rfl, ?_⟩
        rw [decide_eq_true rfl]
        refine iteT ⟨v, rfl, v, rfl, sc, ?_⟩
        rw [decide_eq_true rfl]
        exact q _ sm
    · obtain ⟨Tn, rl, rt, el, et, eo, tp, tq⟩ : ∃ (Tn : String) (rl rt : Bool), kitB Tn "list" = some rl ∧ kitB Tn "tuple" = some rt ∧ (rl || rt) = true ∧ (∀ H', Same H H' → TyX K H' (.ref p) (.type Tn)) ∧ (∀ H', Same H H' → TyX K H' (.ref q') (.type Tn)) := by
        rcases hS with ⟨hp, hq⟩ | ⟨hp, hq⟩
        · exact ⟨"list", true, false, by decide +kernel, by decide +kernel, rfl, fun H' s' => tyx_l (s'.seq hp), fun H' s' => tyx_l (s'.seq hq)⟩
        · exact ⟨"tuple", false, true, by decide +kernel, by decide +kernel, rfl, fun H' s' => tyx_t (same_tup s' hp), fun H' s' => tyx_t (same_tup s' hq)⟩
      refine ⟨.ref q', rfl, by show 2 ≤ sizeLine; decide, fun t htp => ⟨.ref q', t, _, .type Tn, _, true, rfl, upd_same, pair_lt, tq _ (same_new htp), kit2 el et eo.symm, true, rfl, iteT ?_⟩⟩
      have sm : Same H (upd H t (.tup [V.ty "list", V.ty "tuple"])) := same_new htp
      generalize upd H t (.tup [V.ty "list", V.ty "tuple"]) = H1 at sm
      refine ⟨.ref p, rfl, .ref p, .ty "list", .type Tn, .type "list", rl, rfl, .ty _, tp _ sm, kt el, .ref q', rfl, .ref q', .ty "list", .type Tn, .type "list", rl, rfl, .ty _, tq _ sm, kt el, rfl, _, rfl, iteNS rfl ?_⟩
      refine ⟨.ref p, rfl, .ref p, .ty "tuple", .type Tn, .type "tuple", rt, rfl, .ty _, tp _ sm, kt et, .ref q', rfl, .ref q', .ty "tuple", .type Tn, .type "tuple", rt, rfl, .ty _, tq _ sm, kt et, rfl, _, rfl, iteNS rfl ?_⟩
      have lp : LenV K (.ref p) H1 xs.length := by
        rcases hS with ⟨a, b⟩ | ⟨a, b⟩
        · exact .inl ⟨_, sm.seq a, rfl⟩
        · exact .inr ⟨_, same_tup sm a, rfl⟩
      have lq : LenV K (.ref q') H1 ys.length := by
        rcases hS with ⟨a, b⟩ | ⟨a, b⟩
        · exact .inl ⟨_, sm.seq b, rfl⟩
        · exact .inr ⟨_, same_tup sm b, rfl⟩
      refine ⟨.ref p, rfl, .ref p, _, rfl, lp, .ref q', rfl, .ref q', _, rfl, lq, rfl, _, rfl, ?_⟩
      rw [hlen, decide_eq_true rfl]
      refine iteT ⟨.ref p, rfl, .ref q', rfl, p, q', xs, ys, rfl, ?_⟩
      have fin : ∀ (D : Addr) (H' : Hp), H1 D = none → Same H1 H' → H' D = some (.lst (List.replicate xs.length (.bl true))) → rAll K [.ref D] H' Q := fun D H' nD sD eD =>
        ⟨D, List.replicate xs.length true, rfl, .of (by rw [List.map_replicate]; exact eD), by rw [rep_all]; exact q _ (sm.trans sD)⟩
      rcases hS with ⟨hp, hq⟩ | ⟨hp, hq⟩
      · refine .inl ⟨sm.seq hp, sm.seq hq, fun D nD => ?_⟩
        refine lc_it (walk_zip (n := xs.length) (by rw [← hlen, Nat.min_self])) (fun i H' => Same H1 H' ∧ H' D = some (.lst (List.replicate i (.bl true)))) ⟨same_new nD, upd_same⟩ (fun i H' _ hP => ⟨hP.1.seq (sm.seq hp), hP.1.seq (sm.seq hq)⟩) (fun i v H2 H3 hi hP hy => ?_) (fun H' hP => fin D H' nD hP.1 hP.2)
        obtain ⟨s2, e2⟩ := hP
        obtain ⟨T', x, y, rfl, nT, rfl, hx, hy⟩ := hy
        refine ⟨T', [x, y], rfl, .of upd_same, rfl, x, [y], rfl, y, [], rfl, rfl, rfl, yes_of (iteT ?_)⟩
        refine ⟨x, rfl, y, rfl, x, y, rfl, (hit i x y hx hy).same ((sm.trans s2).trans (same_new nT)), fun H5 s5 => ⟨List.replicate i (.bl true), s5 _ _ (same_new nT _ _ e2), small_lt (by rw [List.length_replicate]; omega), ?_, ?_⟩⟩
        · exact same_mut ((s2.trans (same_new nT)).trans s5) nD
        · rw [upd_same, rep_snoc]
      · refine .inr ⟨same_tup sm hp, same_tup sm hq, fun D nD => ?_⟩
        refine lc_it (walk_zipT (n := xs.length) (by rw [← hlen, Nat.min_self])) (fun i H' => Same H1 H' ∧ H' D = some (.lst (List.replicate i (.bl true)))) ⟨same_new nD, upd_same⟩ (fun i H' _ hP => ⟨same_tup hP.1 (same_tup sm hp), same_tup hP.1 (same_tup sm hq)⟩) (fun i v H2 H3 hi hP hy => ?_) (fun H' hP => fin D H' nD hP.1 hP.2)
        obtain ⟨s2, e2⟩ := hP
        obtain ⟨T', x, y, rfl, nT, rfl, hx, hy⟩ := hy
        refine ⟨T', [x, y], rfl, .of upd_same, rfl, x, [y], rfl, y, [], rfl, rfl, rfl, yes_of (iteT ?_)⟩
        refine ⟨x, rfl, y, rfl, x, y, rfl, (hit i x y hx hy).same ((sm.trans s2).trans (same_new nT)), fun H5 s5 => ⟨List.replicate i (.bl true), s5 _ _ (same_new nT _ _ e2), small_lt (by rw [List.length_replicate]; omega), ?_, ?_⟩⟩
        · exact same_mut ((s2.trans (same_new nT)).trans s5) nD
        · rw [upd_same, rep_snoc]
theorem cal_never {f : Addr} {fd : FuncData} {x : Str} {st : Stmt} {ps : List Str} (F : Fun K x x st f fd) (g : mg x = some (.ref f)) (b : Binds K fd ps []) : Cal P w K mg base 0 x ps (fun _ _ _ _ => False) :=
  ⟨f, fd, ⟨fun _ _ _ _ h => h.elim, fun _ _ _ _ _ _ _ _ _ _ _ _ _ h => h.elim⟩, g, F.kp, b⟩
theorem cal_like {f : Addr} {fd : FuncData} (F : Fun K "_law_like" "_law_like" sLLike f fd) (T : Txt mg) (g : mg "_law_like" = some (.ref f)) (b : Binds K fd ["_law_found", "_law_due"] []) :
    ∀ n, Cal P w K mg base n "_law_like" ["_law_found", "_law_due"] (spLike K n)
  | 0 => ⟨f, fd, ⟨fun _ _ _ _ h => by obtain ⟨_, _, _, h, _⟩ := h; exact h.elim, fun _ _ _ _ _ _ _ _ _ _ _ _ _ h => by obtain ⟨_, _, _, h, _⟩ := h; exact h.elim⟩, g, F.kp, b⟩
  | n + 1 => ⟨f, fd, ok_like_step F T (cal_like F T g b n), g, F.kp, b⟩
end
end Ink
namespace Ink
open PySem PySem.Spec PyProof.Rows L2
/-! ### what the defs reckon -/
def isSign (z : Str) : Bool := decide (V.int (z.length : Nat) = V.int 1) && (!decide (z.cps.toList < [97]) && !decide (([122] : List Nat) < z.cps.toList))
def lets : List Nat := [97, 98, 99, 100, 101, 102, 103, 104, 105, 106, 107, 108, 109, 110, 111, 112, 113, 114, 115, 116, 117, 118, 119, 120, 121, 122]
def lawName (z : Str) : Bool := decide ((0 : Int) < (z.length : Nat)) && decide (((z.length : Nat) : Int) < 7) && (z.cps.toList.map fun c => decide (c ∈ lets)).all id
def isName (z : Str) : Bool := decide ((1 : Int) ≤ (z.length : Nat)) && decide (((z.length : Nat) : Int) ≤ 6) && (z.cps.toList.map fun c => isSign ⟨#[c]⟩).all id
theorem lets_iff (c : Nat) : c ∈ lets ↔ 97 ≤ c ∧ c ≤ 122 := by
  unfold lets
  simp only [List.mem_cons, List.not_mem_nil, or_false]
  omega
theorem lt_one (a b : Nat) : (([a] : List Nat) < [b]) ↔ a < b := by
  constructor
  · intro h
    cases h with
    | rel h => exact h
    | cons h => cases h
  · intro h
    exact .rel h
theorem sign_one (c : Nat) : isSign ⟨#[c]⟩ = decide (c ∈ lets) := by
  unfold isSign
  rw [show decide (V.int (((⟨#[c]⟩ : Str).length : Nat) : Int) = V.int 1) = true from decide_eq_true rfl, Bool.true_and]
  show (!decide (([c] : List Nat) < [97]) && !decide (([122] : List Nat) < [c])) = _
  rw [decide_eq_decide.mpr (lt_one c 97), decide_eq_decide.mpr (lt_one 122 c), decide_eq_decide.mpr (lets_iff c)]
  by_cases h1 : c < 97
  · rw [decide_eq_true h1, decide_eq_false (by omega : ¬ (97 ≤ c ∧ c ≤ 122))]
    rfl
  · rw [decide_eq_false h1]
    by_cases h2 : 122 < c
    · rw [decide_eq_true h2, decide_eq_false (by omega : ¬ (97 ≤ c ∧ c ≤ 122))]
      rfl
    · rw [decide_eq_false h2, decide_eq_true (by omega : (97 ≤ c ∧ c ≤ 122))]
      rfl
theorem name_eq (z : Str) : isName z = lawName z := by
  unfold isName lawName
  rw [show (fun c => isSign ⟨#[c]⟩) = fun c => decide (c ∈ lets) from funext sign_one]
  rw [decide_eq_decide.mpr (show ((1 : Int) ≤ (z.length : Nat)) ↔ ((0 : Int) < (z.length : Nat)) by omega), decide_eq_decide.mpr (show (((z.length : Nat) : Int) ≤ 6) ↔ (((z.length : Nat) : Int) < 7) by omega)]
theorem sign_eq (z : Str) : isSign z = (lawName z && decide (V.int (z.length : Nat) = V.int 1)) := by
  by_cases h : z.length = 1
  · obtain ⟨c, rfl⟩ : ∃ c, z = ⟨#[c]⟩ := by
      obtain ⟨⟨l⟩⟩ := z
      have h : l.length = 1 := h
      cases l with
      | nil => cases h
      | cons c r =>
        cases r with
        | nil => exact ⟨c, rfl⟩
        | cons d r =>
          rw [List.length_cons, List.length_cons] at h
          omega
    rw [sign_one]
    unfold lawName
    show decide (c ∈ lets) = ((decide ((0 : Int) < 1) && decide ((1 : Int) < 7) && ([decide (c ∈ lets)]).all id) && decide (V.int 1 = V.int 1))
    rw [decide_eq_true (rfl : V.int 1 = V.int 1)]
    cases decide (c ∈ lets) <;> rfl
  · have e : decide (V.int (z.length : Nat) = V.int 1) = false := decide_eq_false fun q => h (by
      injection q with q
      omega)
    unfold isSign
    rw [e, Bool.and_false, Bool.false_and]
/-! ### a comprehension over a text, its items reckoned from the signs -/
theorem take_snoc {α : Type} {l : List α} {i : Nat} {x : α} (h : l[i]? = some x) : l.take (i + 1) = l.take i ++ [x] := by
  rw [List.take_add_one, h]
  rfl
theorem el_lcS {σ : L2.St} {H : Hp} {z : Str} {tl te : TE} {j : Nat} {vs : List Nat} (f : Nat → V) (h : Evl.Ev tl σ H (.str z)) (hz : z.length ≤ 40000) (hw : ∀ x, wipe ((wipe σ vs).set j (some x)) vs = wipe σ vs)
    (he : ∀ (c : Nat) H1, Evl.Ex H H1 → c ∈ z.cps.toList → Evl.Ev te ((wipe σ vs).set j (some (.str ⟨#[c]⟩))) H1 (f c)) : Evl.EvL (tLc (iStr tl) (gName j) tYes te vs) σ H (z.cps.toList.map f) := fun H0 e Q q => h H0 e _ fun H1 e1 => ⟨z, rfl, fun D nD =>
  lc_it walk_str (fun i H' => Evl.Ex H1 H' ∧ H' D = some (.lst ((z.cps.toList.map f).take i))) ⟨Evl.Ex.new nD, upd_same⟩ (fun _ _ _ _ => True.intro) (fun i v H2 H3 hi hP hy => by
    obtain ⟨rfl, c, hc, rfl⟩ := hy
    obtain ⟨s2, e2⟩ := hP
    have hc2 : z.cps.toList[i]? = some c := by rw [Array.getElem?_toList]; exact hc
    refine ⟨hw _, yes_of (iteT ?_)⟩
    refine he c H3 ((e.trans e1).trans s2) (List.mem_of_getElem? hc2) H3 (Evl.Ex.refl H3) _ fun H4 e4 => ⟨_, e4 _ _ e2, ?_, Evl.Ex.mut (s2.trans e4) nD, ?_⟩
    · rw [List.length_take, List.length_map]
      have hz2 : z.cps.size ≤ 40000 := hz
      exact small_lt (by omega)
    · rw [upd_same, take_snoc (x := f c) (by rw [List.getElem?_map, hc2]; rfl)]) (fun H' hP => by
    have ez : ((z.cps.toList.map f).take z.cps.size) = z.cps.toList.map f := List.take_of_length_le (by rw [List.length_map]; exact Nat.le_refl _)
    have h2 := hP.2
    rw [ez] at h2
    exact q D H' (Evl.fresh_back e1 nD) (e1.trans hP.1) h2)⟩
section
open Evl
variable {K : PySem.W.Frag} {σ : L2.St} {H : Hp} {ta tb tc te : TE}
theorem ev_all {bs : List Bool} (h : EvL te σ H (bs.map V.bl)) : Ev (tCB (rAll K) (tCons te tNil)) σ H (.bl (bs.all id)) := fun H1 e Q q => h H1 e _ fun p H2 np e2 hp => ⟨p, bs, rfl, .of hp, q H2 e2⟩
theorem ev_lenS {z : Str} (h : Ev te σ H (.str z)) (hz : z.length ≤ 1000000) : Ev (tCB (fun xs H Q => ∃ z : Str, xs = [.str z] ∧ z.length ≤ sizeLine ∧ Q (.int z.length) H) (tCons te tNil)) σ H (.int (z.length : Nat)) := fun H1 e Q q =>
  h H1 e _ fun H2 e2 => ⟨z, rfl, small_le hz, q H2 e2⟩
theorem ev_chainI {f g : Int → Int → Bool} {i j k : Int} (ha : Ev ta σ H (.int i)) (hb : Ev tb σ H (.int j)) (hc : Ev tc σ H (.int k)) : Ev (tChain (rI0 fun i j => .bl (f i j)) (rI0 fun i j => .bl (g i j)) ta tb tc) σ H (.bl (f i j && g j k)) := fun H1 e Q q =>
  ha H1 e _ fun H2 e2 => hb H2 (e.trans e2) _ fun H3 e3 => ⟨i, j, rfl, rfl, f i j, rfl, by
    cases h : f i j with
    | true =>
      rw [h] at q
      exact iteT (hc H3 ((e.trans e2).trans e3) _ fun H4 e4 => ⟨j, k, rfl, rfl, q H4 ((e2.trans e3).trans e4)⟩)
    | false =>
      rw [h] at q
      exact iteF (q H3 (e2.trans e3))⟩
theorem ev_chainS {R R' : R2} {f g : Str → Str → Bool} {x y z : Str} (hR : ∀ x y H (Q : VK), Q (.bl (f x y)) H → R (.str x) (.str y) H Q) (hR' : ∀ x y H (Q : VK), Q (.bl (g x y)) H → R' (.str x) (.str y) H Q)
    (ha : Ev ta σ H (.str x)) (hb : Ev tb σ H (.str y)) (hc : Ev tc σ H (.str z)) : Ev (tChain R R' ta tb tc) σ H (.bl (f x y && g y z)) := fun H1 e Q q =>
  ha H1 e _ fun H2 e2 => hb H2 (e.trans e2) _ fun H3 e3 => hR x y H3 _ ⟨f x y, rfl, by
    cases h : f x y with
    | true =>
      rw [h] at q
      exact iteT (hc H3 ((e.trans e2).trans e3) _ fun H4 e4 => hR' y z H4 Q (q H4 ((e2.trans e3).trans e4)))
    | false =>
      rw [h] at q
      exact iteF (q H3 (e2.trans e3))⟩
theorem ev_call {sp : Sp} {ta : TA} {vs : List V} {v : V} (h : EvA ta σ H vs) (hsp : ∀ H1 (Q : VK), Ex H H1 → (∀ H2, Ex H1 H2 → Q v H2) → sp vs H1 Q E0) : Ev (tCall sp [] E0 ta) σ H v := fun H1 e Q q =>
  h H1 e _ fun H2 e2 => by
    show sp (vs ++ []) H2 Q E0
    rw [List.append_nil]
    exact hsp H2 Q (e.trans e2) fun H3 e3 => q H3 (e2.trans e3)
end
def spSign : Sp := fun vs H Q _ => ∃ z, vs = [.str z] ∧ z.length ≤ 1000 ∧ ∀ H', Same H H' → Q (.bl (isSign z)) H'
def spLetters : Sp := fun vs H Q _ => vs = [] ∧ ∀ H', Same H H' → Q (.str ⟨lets.toArray⟩) H'
def spLawName : Sp := fun vs H Q _ => ∃ z, vs = [.str z] ∧ z.length ≤ 1000 ∧ ∀ H', Same H H' → Q (.bl (lawName z)) H'
def spName : Sp := fun vs H Q _ => ∃ z, vs = [.str z] ∧ z.length ≤ 1000 ∧ ∀ H', Same H H' → Q (.bl (isName z)) H'
section
variable {P : Program} {w : World} {K : PySem.W.Frag} {mg : Str → Option Value} {base : Heap}
theorem and_bl {b : Bool} {A : Prop} {Q : VK} {H : Hp} (h0 : b = false → Q (.bl false) H) (h1 : b = true → A) : if b = true then A else Q (.bl false) H := by
  cases b with
  | true => exact iteT (h1 rfl)
  | false => exact iteF (h0 rfl)
theorem ok_is_sign {f : Addr} {fd : FuncData} {k : Nat} (F : Fun K "is_sign" "is_sign" sIsSign f fd) (T : Txt mg) : FnOk P w K mg base CX0 (k + 1) f fd ["text"] spSign := by
  refine F.ok sc_is_sign (fun vs H Q E h => ?_) (fun cdv A outer s H vs Q E hr h => ?_)
  · obtain ⟨z, rfl, _⟩ := h
    rfl
  · obtain ⟨z, rfl, hz, q⟩ := h
    refine ⟨_, (pss_one (ps_ret (pe_and (pe_cmpR op_eq (pe_callB call_len_str (by rfl) T.m_len PySem.boot_len (pa_cons (pv 0) pa_nil)) pe_int (nomark _)) (pe_one (pe_chain op_le_str op_le_str pe_str (pv 0) pe_str))))), ?_⟩
    refine (Evl.ev_andV (Evl.ev_op (ev_lenS (Evl.ev_var rfl) (by omega)) Evl.ev_c (Evl.rv_eq rfl)) fun _ => ev_chainS (f := fun x y => !decide (y.cps.toList < x.cps.toList)) (g := fun x y => !decide (y.cps.toList < x.cps.toList)) (fun x y H Q h => ⟨x, y, rfl, rfl, h⟩) (fun x y H Q h => ⟨x, y, rfl, rfl, h⟩) Evl.ev_c (Evl.ev_var rfl) Evl.ev_c) H (Same.refl H) _ fun H2 e2 => q H2 e2
theorem ok_letters {f : Addr} {fd : FuncData} {k : Nat} (F : Fun K "_law_letters" "_law_letters" sLLetters f fd) : FnOk P w K mg base CX0 (k + 1) f fd [] spLetters := by
  refine F.ok sc__law_letters (fun vs H Q E h => ?_) (fun cdv A outer s H vs Q E hr h => ?_)
  · obtain ⟨rfl, _⟩ := h
    rfl
  · obtain ⟨rfl, q⟩ := h
    refine ⟨_, (pss_one (ps_ret pe_str)), ?_⟩
    exact q H (Same.refl H)
theorem bls_eq {α : Type} (l : List α) (g : α → Bool) : l.map (fun c => V.bl (g c)) = (l.map g).map V.bl := by
  rw [List.map_map]
  rfl
theorem ok_law_name {f : Addr} {fd : FuncData} {k : Nat} (F : Fun K "_law_is_name" "_law_is_name" sLIsName f fd) (T : Txt mg) (C__law_letters : Cal P w K mg base k "_law_letters" [] spLetters) : FnOk P w K mg base CX0 (k + 1) f fd ["_law_text_here"] spLawName := by
  refine F.ok sc__law_is_name (fun vs H Q E h => ?_) (fun cdv A outer s H vs Q E hr h => ?_)
  · obtain ⟨z, rfl, _⟩ := h
    rfl
  · obtain ⟨z, rfl, hz, q⟩ := h
    refine ⟨_, (pss_one (ps_ret (pe_and (pe_chain op_lt op_lt pe_int (pe_callB call_len_str (by rfl) T.m_len PySem.boot_len (pa_cons (pv 0) pa_nil)) pe_int) (pe_one (pe_callB (cr_all rfl) (by rfl) T.m_all (by decide +kernel) (pa_cons (pe_lc (own := [("_law_sign", 1)]) (g := (gName 1)) (by rfl) sc__law_is_name.nd (pi_str (pv 0)) (blkOk_by (own := [("_law_sign", 1)]) (N := ["_law_text_here", "_law_sign"]) (sc := defScope sLIsName) (by decide +kernel)) (fun _ _ _ _ _ => (pg_name (i := 1) sc__law_is_name.nd rfl (Or.inl rfl))) (fun _ _ _ _ _ => pts_nil) (fun _ _ _ _ _ => (pe_cmpR op_in_sign (pv 1) (pe_callC0 C__law_letters hr (by rfl)) rfl))) pa_nil)))))), ?_⟩
    refine (Evl.ev_andV (ev_chainI (f := fun i j => decide (i < j)) (g := fun i j => decide (i < j)) Evl.ev_c (ev_lenS (Evl.ev_var rfl) (by omega)) Evl.ev_c) fun _ => ev_all (bs := z.cps.toList.map fun c => decide (c ∈ lets)) ?_) H (Same.refl H) _ fun H2 e2 => q H2 e2
    rw [← bls_eq]
    refine el_lcS _ (Evl.ev_var rfl) (by omega) (fun _ => rfl) (fun c H1 e1 _ H2 e2 Q2 q2 => ?_)
    exact ⟨_, rfl, rfl, fun H3 e3 => ⟨c, _, rfl, rfl, q2 H3 e3⟩⟩
theorem ok_is_name {f : Addr} {fd : FuncData} {k : Nat} (F : Fun K "is_name" "is_name" sIsName f fd) (T : Txt mg) (C_is_sign : Cal P w K mg base k "is_sign" ["text"] spSign) : FnOk P w K mg base CX0 (k + 1) f fd ["text"] spName := by
  refine F.ok sc_is_name (fun vs H Q E h => ?_) (fun cdv A outer s H vs Q E hr h => ?_)
  · obtain ⟨z, rfl, _⟩ := h
    rfl
  · obtain ⟨z, rfl, hz, q⟩ := h
    refine ⟨_, (pss_one (ps_ret (pe_and (pe_chain op_le op_le pe_int (pe_callB call_len_str (by rfl) T.m_len PySem.boot_len (pa_cons (pv 0) pa_nil)) (pe_globI (by rfl) T.e__MOST_LETTERS)) (pe_one (pe_callB (cr_all rfl) (by rfl) T.m_all (by decide +kernel) (pa_cons (pe_lc (own := [("letter", 1)]) (g := (gName 1)) (by rfl) sc_is_name.nd (pi_str (pv 0)) (blkOk_by (own := [("letter", 1)]) (N := ["text", "letter"]) (sc := defScope sIsName) (by decide +kernel)) (fun _ _ _ _ _ => (pg_name (i := 1) sc_is_name.nd rfl (Or.inl rfl))) (fun _ _ _ _ _ => pts_nil) (fun _ _ _ _ _ => (pe_callC C_is_sign hr (by rfl) (pa_cons (pv 1) pa_nil)))) pa_nil)))))), ?_⟩
    refine (Evl.ev_andV (ev_chainI (f := fun i j => decide (i ≤ j)) (g := fun i j => decide (i ≤ j)) Evl.ev_c (ev_lenS (Evl.ev_var rfl) (by omega)) Evl.ev_c) fun _ => ev_all (bs := z.cps.toList.map fun c => isSign ⟨#[c]⟩) ?_) H (Same.refl H) _ fun H2 e2 => q H2 e2
    rw [← bls_eq]
    refine el_lcS _ (Evl.ev_var rfl) (by omega) (fun _ => rfl) (fun c H1 e1 _ => ?_)
    exact ev_call (Evl.ea_cons (Evl.ev_var rfl) Evl.ea_nil) fun H2 Q2 _ q2 => ⟨_, rfl, by show 1 ≤ 1000; decide, q2⟩
end
end Ink
namespace Ink
open PySem PySem.Spec PyProof.Rows L2
theorem joinL_len : ∀ ps : List (List Nat), (TL.joinL [] ps).length = (ps.map List.length).sum
  | [] => rfl
  | [p] => by
    show p.length = p.length + 0
    rfl
  | p :: q :: r => by
    show (p ++ ([] ++ TL.joinL [] (q :: r))).length = p.length + ((q :: r).map List.length).sum
    rw [List.length_append, List.nil_append, joinL_len (q :: r)]
theorem join_len (zs : List Str) : (Txt.join ⟨#[]⟩ zs).length = (zs.map (·.length)).sum := by
  rw [TL.join_eq]
  show (Str.join ⟨#[]⟩ zs).cps.toList.length = _
  have h := TL.tl_join ⟨#[]⟩ zs
  unfold TL.tl at h
  rw [h, joinL_len, List.map_map]
  rfl
theorem sum_ones : ∀ zs : List Str, (∀ z ∈ zs, z.length ≤ 1) → (zs.map (·.length)).sum ≤ zs.length
  | [], _ => Nat.le_refl _
  | z :: r, h => by
    have h1 := h z (List.mem_cons_self ..)
    have h2 := sum_ones r fun y hy => h y (List.mem_cons_of_mem _ hy)
    show z.length + (r.map (·.length)).sum ≤ r.length + 1
    omega
def spText : Sp := fun vs H Q _ => ∃ (a l : Addr) (m : Int), vs = [.ref a, .int m] ∧ BagAt H a l ∧ 0 ≤ m ∧ m ≤ 20 ∧ ∀ z H', z.length ≤ 100 → BagAt H' a l → Keep a H H' → Q (.str z) H'
section
variable {P : Program} {w : World} {K : PySem.W.Frag} {mg : Str → Option Value} {base : Heap}
theorem ok_text {f : Addr} {fd : FuncData} {k : Nat} (F : Fun K "_law_text" "_law_text" sLText f fd) (T : Txt mg)
    (C__law_pull : Cal P w K mg base k "_law_pull" ["_law_bag_here", "_law_many"] spPull) (C__law_of : Cal P w K mg base k "_law_of" ["_law_bag_here", "_law_things"] (spOf K)) (C__law_letters : Cal P w K mg base k "_law_letters" [] spLetters) :
    FnOk P w K mg base CX0 (k + 1) f fd ["_law_bag_here", "_law_limit"] spText := by
  refine F.ok sc__law_text (fun vs H Q E h => ?_) (fun cdv A outer s H vs Q E hr h => ?_)
  · obtain ⟨a, l, m, rfl, _⟩ := h
    rfl
  · obtain ⟨a, l, m, rfl, hB, m0, m1, q⟩ := h
    refine ⟨_, (pss_cons (ps_set (i := 2) sc__law_text.nd rfl (.inr rfl) (pe_callC0 C__law_letters hr (by rfl)))
    (pss_cons (ps_set (i := 3) sc__law_text.nd rfl (.inl rfl) (pe_join pe_str (pe_lc (own := [("_law_k", 5)]) (g := (gName 5)) (by rfl) sc__law_text.nd (pi_range1 (by rfl) T.m_range (pa_cons (pe_callC C__law_pull hr (by rfl) (pa_cons (pv 0) (pa_cons (pe_op op_add (pv 1) pe_int) pa_nil))) pa_nil)) (blkOk_by (own := [("_law_k", 5)]) (N := ["_law_bag_here", "_law_limit", "_law_letters_here", "_law_text_here", "_law_at", "_law_k"]) (sc := defScope sLText) (by decide +kernel)) (fun _ _ _ _ _ => (pg_name (i := 5) sc__law_text.nd rfl (Or.inl rfl))) (fun _ _ _ _ _ => pts_nil) (fun _ _ _ _ _ => (pe_callC C__law_of hr (by rfl) (pa_cons (pv 0) (pa_cons (pv 2) pa_nil)))))))
    (pss_cons (ps_set (i := 4) sc__law_text.nd rfl (.inl rfl) (pe_callC C__law_pull hr (by rfl) (pa_cons (pv 0) (pa_cons (pe_op op_add (pe_callB call_len_str (by rfl) T.m_len PySem.boot_len (pa_cons (pv 3) pa_nil)) pe_int) pa_nil))))
    (pss_one (ps_ret (pe_op op_add_str (pe_op op_add_str (pe_slice sl_str (pv 3) po_none (po_some (pv 4))) (pe_callC C__law_of hr (by rfl) (pa_cons (pv 0) (pa_cons (pe_lst (pa_cons pe_str (pa_cons pe_str (pa_cons pe_str (pa_cons pe_str (pa_cons pe_str (pa_cons pe_str (pa_cons pe_str (pa_cons pe_str (pa_cons pe_str (pa_cons pe_str pa_nil))))))))))) pa_nil)))) (pe_slice sl_str (pv 3) (po_some (pv 4)) po_none))))))), ?_⟩
    refine ⟨rfl, fun H1 s1 => ?_⟩
    have hB1 := hB.same s1
    -- the letters joined
    refine ⟨⟨_, rfl⟩, .ref a, rfl, .int m, rfl, m, 1, rfl, rfl, a, l, _, rfl, hB1, by omega, by omega, fun n H2 n0 n1 hB2 k2 => ⟨n, rfl, by omega, by omega, fun D nD => ?_⟩⟩
    refine lc_it walk_range (fun i H' => BagAt H' a l ∧ Keep a H2 H' ∧ ∃ zs : List Str, zs.length = i ∧ (∀ z ∈ zs, z.length ≤ 1) ∧ H' D = some (.lst (zs.map V.str))) ⟨hB2.upd (hB2.ne nD), Keep.mut (Keep.refl H2) nD, [], rfl, fun _ h => (nomatch h), upd_same⟩ (fun _ _ _ _ => True.intro) (fun i x H3 H4 hi hP hy => ?_) (fun H3 hP => ?_)
    · obtain ⟨hB3, k3, zs, rfl, hz, eD⟩ := hP
      obtain ⟨rfl, rfl⟩ := hy
      refine ⟨rfl, yes_of (iteT ?_)⟩
      refine ⟨.ref a, rfl, _, rfl, a, l, _, _, rfl, hB3, .inr ⟨_, rfl, rfl⟩, by decide, by decide, fun v H5 hv hB5 k5 => ?_⟩
      obtain ⟨c, _, rfl⟩ := List.mem_map.mp hv
      refine ⟨zs.map V.str, k5 D _ (hB2.ne nD).1.symm eD, ?_, hB5.upd (hB2.ne nD), Keep.mut (k3.trans k5) nD, zs ++ [⟨#[c]⟩], ?_, ?_, ?_⟩
      · rw [List.length_map]
        exact small_lt (by omega)
      · rw [List.length_append]
        rfl
      · intro z h
        rcases List.mem_append.mp h with h | h
        · exact hz z h
        · rw [List.mem_singleton.mp h]
          exact Nat.le_refl 1
      · rw [upd_same, List.map_append]
        rfl
    · obtain ⟨hB3, k3, zs, ez, hz, eD⟩ := hP
      have hs := sum_ones zs hz
      refine ⟨_, D, zs, rfl, rfl, .inl (.of eD), ?_, ?_⟩
      · show (zs.map (·.length)).sum + zs.length * 0 ≤ 16777216
        omega
      have jl := join_len zs
      change (Txt.join (Str.ofString "") zs).length = _ at jl
      generalize Txt.join (Str.ofString "") zs = z at *
      have zl : z.length ≤ 21 := by omega
      have k13 : Keep a H H3 := ((Keep.of_same s1).trans k2).trans k3
      -- at
      refine ⟨.ref a, rfl, .str z, rfl, z, rfl, small_le (by omega), _, 1, rfl, rfl, a, l, _, rfl, hB3, by omega, by omega, fun t H4 t0 t1 hB4 k4 => ?_⟩
      refine ⟨.str z, rfl, .int t, rfl, t, rfl, z, rfl, small_le (by omega), ?_⟩
      refine ⟨.ref a, rfl, by show 10 ≤ sizeLine; decide, fun p np => ?_⟩
      have hB5 := hB4.upd (o := .lst [V.str (Str.ofString ""), .str (Str.ofString ""), .str (Str.ofString ""), .str (Str.ofString ""), .str (Str.ofString "A"), .str (Str.ofString "1"), .str (Str.ofString " "), .str (Str.ofString "-"), .str (Str.ofString "~"), .str (Str.ofString "_")]) (hB4.ne np)
      refine ⟨a, l, _, _, rfl, hB5, .inl ⟨p, rfl, (hB4.ne np).1.symm, .inl (.of upd_same)⟩, by decide, by decide, fun v H6 hv hB6 k6 => ?_⟩
      obtain ⟨u, rfl, hu⟩ : ∃ u, v = .str u ∧ u.length ≤ 1 := by
        simp only [List.mem_cons, List.not_mem_nil, or_false] at hv
        rcases hv with rfl | rfl | rfl | rfl | rfl | rfl | rfl | rfl | rfl | rfl <;> exact ⟨_, rfl, by decide⟩
      have c1 := cutS_length z none (some t)
      have c2 := cutS_length z (some t) none
      refine ⟨_, _, rfl, rfl, small_le (by omega), .str z, rfl, .int t, rfl, t, rfl, z, rfl, small_le (by omega), _, _, rfl, rfl, ?_, ?_⟩
      · rw [PySem.Str.length_append]
        exact small_le (by omega)
      · refine q _ H6 ?_ hB6 ((k13.trans k4).trans ((Keep.mut (Keep.refl H4) np).trans k6))
        rw [PySem.Str.length_append, PySem.Str.length_append]
        omega
end
section
open Evl
variable {K : PySem.W.Frag} {σ : L2.St} {H : Hp} {ta tb te te2 : TE}
theorem ev_callL {sp : Sp} {tr : TA} {xs vs : List V} {v : V} (h : EvL te σ H xs) (hr : EvA tr σ H vs) (hsp : ∀ p H1 (Q : VK), Ex H H1 → H1 p = some (.lst xs) → (∀ H2, Ex H1 H2 → Q v H2) → sp (.ref p :: vs) H1 Q E0) : Ev (tCall sp [] E0 (tCons te tr)) σ H v := fun H1 e Q q =>
  h H1 e _ fun p H2 np e2 hp => hr H2 (e.trans e2) _ fun H3 e3 => by
    show sp (V.ref p :: vs ++ []) H3 Q E0
    rw [List.append_nil]
    exact hsp p H3 Q ((e.trans e2).trans e3) (e3 _ _ hp) fun H4 e4 => q H4 ((e2.trans e3).trans e4)
theorem ev_callLL {sp : Sp} {xs ys : List V} {v : V} (h : EvL te σ H xs) (h2 : EvL te2 σ H ys) (hsp : ∀ p q H1 (Q : VK), Ex H H1 → H1 p = some (.lst xs) → H1 q = some (.lst ys) → (∀ H2, Ex H1 H2 → Q v H2) → sp [.ref p, .ref q] H1 Q E0) : Ev (tCall sp [] E0 (tCons te (tCons te2 tNil))) σ H v := fun H1 e Q q =>
  h H1 e _ fun p H2 np e2 hp => h2 H2 (e.trans e2) _ fun q' H3 nq e3 hq => hsp p q' H3 Q ((e.trans e2).trans e3) (e3 _ _ hp) hq fun H4 e4 => q H4 ((e2.trans e3).trans e4)
theorem el_cat {p : Addr} {xs ys : List V} (ha : Ev ta σ H (.ref p)) (hp : H p = some (.lst xs)) (hb : EvL tb σ H ys) (hz : xs.length + ys.length ≤ 100000) : EvL (tOp rCat ta tb) σ H (xs ++ ys) := fun H1 e Q q =>
  ha H1 e _ fun H2 e2 => hb H2 (e.trans e2) _ fun b H3 nb e3 hb' => ⟨p, b, xs, ys, rfl, rfl, e3 _ _ (e2 _ _ (e _ _ hp)), hb', sz_of hz, fun r nr => q r _ (fresh_back (e2.trans e3) nr) ((e2.trans e3).trans (Ex.new nr)) upd_same⟩
end
section
variable {P : Program} {w : World} {K : PySem.W.Frag} {mg : Str → Option Value} {base : Heap}
def spLaw (K : PySem.W.Frag) : Sp := fun vs H Q _ => ∃ (c : Addr) (ns : List Int), vs = [.ref c] ∧ SqL K H c (ns.map V.int) ∧ ns.length ≤ 63 ∧ ∀ H', Q (.bl true) H'
theorem lk_bls {K : PySem.W.Frag} {H : Hp} {p q : Addr} {xs : List V} (hp : H p = some (.lst xs)) (hq : H q = some (.lst xs)) (hl : xs.length ≤ 1000) (hf : ∀ v ∈ xs, flatD v = true) : Lk K H 2 (.ref p) (.ref q) := by
  refine .inr ⟨p, q, xs, xs, rfl, rfl, .inl ⟨.of hp, .of hq⟩, rfl, hl, fun i x y hx hy => .inl ⟨?_, hf y (List.mem_of_getElem? hy)⟩⟩
  rw [hx] at hy
  exact Option.some.inj hy
theorem ok_law {f : Addr} {fd : FuncData} {k : Nat} (F : Fun K "law" "law" sLaw f fd) (T : Txt mg)
    (C__law_bag : Cal P w K mg base k "_law_bag" ["_law_script"] (spBag K)) (C__law_of : Cal P w K mg base k "_law_of" ["_law_bag_here", "_law_things"] (spOf K))
    (C__law_text : Cal P w K mg base k "_law_text" ["_law_bag_here", "_law_limit"] spText) (C__law_is_name : Cal P w K mg base k "_law_is_name" ["_law_text_here"] spLawName)
    (C__law_like : Cal P w K mg base k "_law_like" ["_law_found", "_law_due"] (spLike K 2)) (C_is_name : Cal P w K mg base k "is_name" ["text"] spName) (C_is_sign : Cal P w K mg base k "is_sign" ["text"] spSign) :
    FnOk P w K mg base CX0 (k + 1) f fd ["_law_script"] (spLaw K) := by
  refine F.ok sc_law (fun vs H Q E h => ?_) (fun cdv A outer s H vs Q E hr h => ?_)
  · obtain ⟨c, ns, rfl, _⟩ := h
    rfl
  · obtain ⟨c, ns, rfl, hS, hl, q⟩ := h
    refine ⟨_, (pss_cons (ps_set (i := 1) sc_law.nd rfl (.inl rfl) (pe_callC C__law_bag hr (by rfl) (pa_cons (pv 0) pa_nil)))
    (pss_cons (ps_for PassesOwn.never rfl (pi_range1 (by rfl) T.m_range (pa_cons pe_int pa_nil)) (pg_name (i := 2) sc_law.nd rfl (.inl rfl))
    (pss_cons (ps_set (i := 3) sc_law.nd rfl (.inl rfl) (pe_callC C__law_text hr (by rfl) (pa_cons (pv 1) (pa_cons (pe_callC C__law_of hr (by rfl) (pa_cons (pv 1) (pa_cons (pe_lst (pa_cons pe_int (pa_cons pe_int pa_nil))) pa_nil))) pa_nil))))
    (pss_cons (ps_set (i := 4) sc_law.nd rfl (.inl rfl) (pe_lst (pa_cons (pe_callC C__law_is_name hr (by rfl) (pa_cons (pv 3) pa_nil)) (pa_cons (pe_and (pe_callC C__law_is_name hr (by rfl) (pa_cons (pv 3) pa_nil)) (pe_one (pe_cmpR op_eq (pe_callB call_len_str (by rfl) T.m_len PySem.boot_len (pa_cons (pv 3) pa_nil)) pe_int (nomark _)))) pa_nil))))
    (pss_one (ps_if (pt_not (pt_val (pe_callC C__law_like hr (by rfl) (pa_cons (pe_lst (pa_cons (pe_callC C_is_name hr (by rfl) (pa_cons (pv 3) pa_nil)) (pa_cons (pe_callC C_is_sign hr (by rfl) (pa_cons (pv 3) pa_nil)) pa_nil))) (pa_cons (pv 4) pa_nil)))))
    (pss_one (ps_ret pe_bl)) pss_nil)))))
    (pss_cons (ps_set (i := 5) sc_law.nd rfl (.inl rfl) (pe_lst (pa_cons (pe_callC C_is_name hr (by rfl) (pa_cons pe_str pa_nil)) (pa_cons (pe_callC C_is_name hr (by rfl) (pa_cons pe_str pa_nil)) (pa_cons (pe_callC C_is_name hr (by rfl) (pa_cons pe_str pa_nil)) (pa_cons (pe_callC C_is_sign hr (by rfl) (pa_cons pe_str pa_nil)) (pa_cons (pe_callC C_is_sign hr (by rfl) (pa_cons pe_str pa_nil)) (pa_cons (pe_callC C_is_sign hr (by rfl) (pa_cons pe_str pa_nil)) pa_nil))))))))
    (pss_one (ps_ret (pe_callC C__law_like hr (by rfl) (pa_cons (pe_op op_cat (pv 5) (pe_lst (pa_cons (pe_globI (by rfl) T.e_MOST_ARROWS) (pa_cons (pe_globI (by rfl) T.e_MOST_COUNT) pa_nil)))) (pa_cons (pe_lst (pa_cons pe_bl (pa_cons pe_bl (pa_cons pe_bl (pa_cons pe_bl (pa_cons pe_bl (pa_cons pe_bl (pa_cons pe_int (pa_cons pe_int pa_nil))))))))) pa_nil)))))))), ?_⟩
    refine ⟨.ref c, rfl, c, ns, rfl, hS, hl, fun a l H1 _ hB1 s1 => ?_⟩
    refine ⟨8, rfl, by decide, by decide, for_it walk_range (fun i σ H' => (∃ y2 y3 y4 y5, σ = [some (.ref c), some (.ref a), y2, y3, y4, y5]) ∧ BagAt H' a l) ⟨⟨none, none, none, none, rfl⟩, hB1⟩ (fun _ _ _ _ _ => True.intro) (fun i x σ H2 H3 hi hP hy => ?_) (fun σ H2 hP => ?_)⟩
    · obtain ⟨⟨y2, y3, y4, y5, rfl⟩, hB2⟩ := hP
      obtain ⟨rfl, rfl⟩ := hy
      -- text
      refine ⟨.ref a, rfl, .ref a, rfl, by show 2 ≤ sizeLine; decide, fun p np => ?_⟩
      refine ⟨a, l, _, _, rfl, hB2.upd (hB2.ne np), .inl ⟨p, rfl, (hB2.ne np).1.symm, .inl (.of upd_same)⟩, by decide, by decide, fun v H4 hv hB4 k4 => ?_⟩
      obtain ⟨m, rfl, m0, m1⟩ : ∃ m, v = .int m ∧ 0 ≤ m ∧ m ≤ 20 := by
        simp only [List.mem_cons, List.not_mem_nil, or_false] at hv
        rcases hv with rfl | rfl <;> exact ⟨_, rfl, by decide, by decide⟩
      refine ⟨a, l, m, rfl, hB4, m0, m1, fun z H5 hz hB5 k5 => ?_⟩
      -- due
      have cn : ∀ (σ : L2.St) H6, σ[3]? = some (some (.str z)) → Evl.Ev (tCall spLawName [] E0 (tCons (tVar 3) tNil)) σ H6 (.bl (lawName z)) := fun σ H6 hσ => ev_call (Evl.ea_cons (Evl.ev_var hσ) Evl.ea_nil) fun H7 Q7 _ q7 => ⟨z, rfl, by omega, q7⟩
      refine Evl.q_asgL (xs := [.bl (lawName z), .bl (lawName z && decide (V.int (z.length : Nat) = V.int 1))]) (Evl.el_lst (Evl.ea_cons (cn _ _ rfl) (Evl.ea_cons (Evl.ev_andV (cn _ _ rfl) fun _ => Evl.ev_op (ev_lenS (Evl.ev_var rfl) (by omega)) Evl.ev_c (Evl.rv_eq rfl)) Evl.ea_nil)) (by decide : 2 ≤ 100000)) fun d H6 nd s6 hd => ?_
      rw [← sign_eq, ← name_eq] at hd
      refine Evl.s_when (b := false) (Evl.et_not (a := true) (Evl.et_B (ev_callL (xs := [.bl (isName z), .bl (isSign z)]) (vs := [.ref d]) (Evl.el_lst (Evl.ea_cons ?_ (Evl.ea_cons ?_ Evl.ea_nil)) (by decide : 2 ≤ 100000)) ?_ fun p H7 Q7 e7 hp7 q7 => ?_))) (fun h => nomatch h) (fun _ H7 e7 => ?_)
      · exact ev_call (Evl.ea_cons (Evl.ev_var rfl) Evl.ea_nil) fun H7 Q7 _ q7 => ⟨z, rfl, by omega, q7⟩
      · exact ev_call (Evl.ea_cons (Evl.ev_var rfl) Evl.ea_nil) fun H7 Q7 _ q7 => ⟨z, rfl, by omega, q7⟩
      · exact Evl.ea_cons (Evl.ev_var (by rfl)) Evl.ea_nil
      · refine ⟨_, _, rfl, lk_bls hp7 (e7 _ _ hd) (by show 2 ≤ 1000; decide) (fun v hv => ?_), q7⟩
        simp only [List.mem_cons, List.not_mem_nil, or_false] at hv
        rcases hv with rfl | rfl <;> rfl
      · exact ⟨⟨_, _, _, _, rfl⟩, (hB5.same s6).same e7⟩
    · obtain ⟨⟨y2, y3, y4, y5, rfl⟩, hB2⟩ := hP
      have ck : ∀ (x : String) (b : Bool), isName (Str.ofString x) = b → (Str.ofString x).length ≤ 1000 → ∀ (σ : L2.St) H6, Evl.Ev (tCall spName [] E0 (tCons (tC (.str (Str.ofString x))) tNil)) σ H6 (.bl b) := fun x b hb hx σ H6 => ev_call (Evl.ea_cons Evl.ev_c Evl.ea_nil) fun H7 Q7 _ q7 => ⟨_, rfl, hx, by rw [hb]; exact q7⟩
      have cs : ∀ (x : String) (b : Bool), isSign (Str.ofString x) = b → (Str.ofString x).length ≤ 1000 → ∀ (σ : L2.St) H6, Evl.Ev (tCall spSign [] E0 (tCons (tC (.str (Str.ofString x))) tNil)) σ H6 (.bl b) := fun x b hb hx σ H6 => ev_call (Evl.ea_cons Evl.ev_c Evl.ea_nil) fun H7 Q7 _ q7 => ⟨_, rfl, hx, by rw [hb]; exact q7⟩
      refine Evl.q_asgL (xs := [.bl false, .bl true, .bl false, .bl false, .bl true, .bl false]) (Evl.el_lst (Evl.ea_cons (ck _ _ (by decide +kernel) (by decide +kernel) _ _) (Evl.ea_cons (ck _ _ (by decide +kernel) (by decide +kernel) _ _) (Evl.ea_cons (ck _ _ (by decide +kernel) (by decide +kernel) _ _)
        (Evl.ea_cons (cs _ _ (by decide +kernel) (by decide +kernel) _ _) (Evl.ea_cons (cs _ _ (by decide +kernel) (by decide +kernel) _ _) (Evl.ea_cons (cs _ _ (by decide +kernel) (by decide +kernel) _ _) Evl.ea_nil)))))) (by decide : 6 ≤ 100000)) fun d H6 nd s6 hd => ?_
      refine Evl.s_ret (v := .bl true) (ev_callLL (v := .bl true) (xs := [.bl false, .bl true, .bl false, .bl false, .bl true, .bl false] ++ [.int 9, .int 3]) (ys := [.bl false, .bl true, .bl false, .bl false, .bl true, .bl false, .int 9, .int 3])
        (el_cat (Evl.ev_var (by rfl)) hd (Evl.el_lst (Evl.ea_cons Evl.ev_c (Evl.ea_cons Evl.ev_c Evl.ea_nil)) (by decide : 2 ≤ 100000)) (by decide))
        (Evl.el_lst (Evl.ea_cons Evl.ev_c (Evl.ea_cons Evl.ev_c (Evl.ea_cons Evl.ev_c (Evl.ea_cons Evl.ev_c (Evl.ea_cons Evl.ev_c (Evl.ea_cons Evl.ev_c (Evl.ea_cons Evl.ev_c (Evl.ea_cons Evl.ev_c Evl.ea_nil)))))))) (by decide : 8 ≤ 100000)) fun p q' H7 Q7 e7 hp hq q7 => ?_) fun H7 _ => q H7
      refine ⟨_, _, rfl, lk_bls hp hq (by decide) (fun v hv => ?_), q7⟩
      simp only [List.mem_append, List.mem_cons, List.not_mem_nil, or_false] at hv
      rcases hv with (rfl | rfl | rfl | rfl | rfl | rfl) | rfl | rfl <;> rfl
end
end Ink
namespace Ink
open PySem PySem.Spec PyProof.Rows L2
theorem all_mk {l : PySem.W.OpenLaw} {w : World} {K : PySem.W.Frag} {h : Heap} {mg : Str → Option Value} {fa fl : Addr} (X : K.In h) (G : h.Ns mainGlobals mg) (hfa : mg "law" = some (.ref fa))
    {oc1 kV1 dc1 pm1 cd1 ct1 : Value} {od1 an1 : Option Addr} {sl1 : Array (Option Value)} {f1 : Addr} {oc2 kV2 dc2 pm2 cd2 ct2 : Value} {od2 an2 : Option Addr} {sl2 : Array (Option Value)} {f2 : Addr} {oc3 kV3 dc3 pm3 cd3 ct3 : Value} {od3 an3 : Option Addr} {sl3 : Array (Option Value)} {f3 : Addr} {oc4 kV4 dc4 pm4 cd4 ct4 : Value} {od4 an4 : Option Addr} {sl4 : Array (Option Value)} {f4 : Addr} {oc5 kV5 dc5 pm5 cd5 ct5 : Value} {od5 an5 : Option Addr} {sl5 : Array (Option Value)} {f5 : Addr} {oc6 kV6 dc6 pm6 cd6 ct6 : Value} {od6 an6 : Option Addr} {sl6 : Array (Option Value)} {f6 : Addr} {oc7 kV7 dc7 pm7 cd7 ct7 : Value} {od7 an7 : Option Addr} {sl7 : Array (Option Value)} {f7 : Addr} {oc8 kV8 dc8 pm8 cd8 ct8 : Value} {od8 an8 : Option Addr} {sl8 : Array (Option Value)} {f8 : Addr} {oc9 kV9 dc9 pm9 cd9 ct9 : Value} {od9 an9 : Option Addr} {sl9 : Array (Option Value)} {f9 : Addr} {oc10 kV10 dc10 pm10 cd10 ct10 : Value} {od10 an10 : Option Addr} {sl10 : Array (Option Value)} {t1 : Tok} {t2 : Tok} {t3 : Tok}
    (a1 : PySem.W.nsIn K mainGlobals "is_name" = some (some (.ref f1))) (l1 : K.lookup f1 = some ⟨oc1, od1, .func (PySem.W.fnOf "is_name" "is_name" (defArgs sIsName) (defBody sIsName) (defScope sIsName) .none kV1 dc1 pm1 an1 cd1 ct1), sl1⟩) (c1 : PySem.W.codeIn K cd1 "is_name" = true) (k1 : PySem.W.keepIn K (.ref f1) = true)
    (a2 : PySem.W.nsIn K mainGlobals "is_sign" = some (some (.ref f2))) (l2 : K.lookup f2 = some ⟨oc2, od2, .func (PySem.W.fnOf "is_sign" "is_sign" (defArgs sIsSign) (defBody sIsSign) (defScope sIsSign) .none kV2 dc2 pm2 an2 cd2 ct2), sl2⟩) (c2 : PySem.W.codeIn K cd2 "is_sign" = true) (k2 : PySem.W.keepIn K (.ref f2) = true)
    (a3 : PySem.W.nsIn K mainGlobals "_law_bag" = some (some (.ref f3))) (l3 : K.lookup f3 = some ⟨oc3, od3, .func (PySem.W.fnOf "_law_bag" "_law_bag" (defArgs sLBag) (defBody sLBag) (defScope sLBag) .none kV3 dc3 pm3 an3 cd3 ct3), sl3⟩) (c3 : PySem.W.codeIn K cd3 "_law_bag" = true) (k3 : PySem.W.keepIn K (.ref f3) = true)
    (a4 : PySem.W.nsIn K mainGlobals "_law_pull" = some (some (.ref f4))) (l4 : K.lookup f4 = some ⟨oc4, od4, .func (PySem.W.fnOf "_law_pull" "_law_pull" (defArgs sLPull) (defBody sLPull) (defScope sLPull) .none kV4 dc4 pm4 an4 cd4 ct4), sl4⟩) (c4 : PySem.W.codeIn K cd4 "_law_pull" = true) (k4 : PySem.W.keepIn K (.ref f4) = true)
    (a5 : PySem.W.nsIn K mainGlobals "_law_of" = some (some (.ref f5))) (l5 : K.lookup f5 = some ⟨oc5, od5, .func (PySem.W.fnOf "_law_of" "_law_of" (defArgs sLOf) (defBody sLOf) (defScope sLOf) .none kV5 dc5 pm5 an5 cd5 ct5), sl5⟩) (c5 : PySem.W.codeIn K cd5 "_law_of" = true) (k5 : PySem.W.keepIn K (.ref f5) = true)
    (a6 : PySem.W.nsIn K mainGlobals "_law_letters" = some (some (.ref f6))) (l6 : K.lookup f6 = some ⟨oc6, od6, .func (PySem.W.fnOf "_law_letters" "_law_letters" (defArgs sLLetters) (defBody sLLetters) (defScope sLLetters) .none kV6 dc6 pm6 an6 cd6 ct6), sl6⟩) (c6 : PySem.W.codeIn K cd6 "_law_letters" = true) (k6 : PySem.W.keepIn K (.ref f6) = true)
    (a7 : PySem.W.nsIn K mainGlobals "_law_like" = some (some (.ref f7))) (l7 : K.lookup f7 = some ⟨oc7, od7, .func (PySem.W.fnOf "_law_like" "_law_like" (defArgs sLLike) (defBody sLLike) (defScope sLLike) .none kV7 dc7 pm7 an7 cd7 ct7), sl7⟩) (c7 : PySem.W.codeIn K cd7 "_law_like" = true) (k7 : PySem.W.keepIn K (.ref f7) = true)
    (a8 : PySem.W.nsIn K mainGlobals "_law_is_name" = some (some (.ref f8))) (l8 : K.lookup f8 = some ⟨oc8, od8, .func (PySem.W.fnOf "_law_is_name" "_law_is_name" (defArgs sLIsName) (defBody sLIsName) (defScope sLIsName) .none kV8 dc8 pm8 an8 cd8 ct8), sl8⟩) (c8 : PySem.W.codeIn K cd8 "_law_is_name" = true) (k8 : PySem.W.keepIn K (.ref f8) = true)
    (a9 : PySem.W.nsIn K mainGlobals "_law_text" = some (some (.ref f9))) (l9 : K.lookup f9 = some ⟨oc9, od9, .func (PySem.W.fnOf "_law_text" "_law_text" (defArgs sLText) (defBody sLText) (defScope sLText) .none kV9 dc9 pm9 an9 cd9 ct9), sl9⟩) (c9 : PySem.W.codeIn K cd9 "_law_text" = true) (k9 : PySem.W.keepIn K (.ref f9) = true)
    (a10 : PySem.W.nsIn K mainGlobals "law" = some (some (.ref fl))) (l10 : K.lookup fl = some ⟨oc10, od10, .func (PySem.W.fnOf "law" "law" (defArgs sLaw) (defBody sLaw) (defScope sLaw) .none kV10 dc10 pm10 an10 cd10 ct10), sl10⟩) (c10 : PySem.W.codeIn K cd10 "law" = true) (k10 : PySem.W.keepIn K (.ref fl) = true)
    (z1 : PySem.W.nsIn K mainGlobals "len" = some none)
    (z2 : PySem.W.nsIn K mainGlobals "all" = some none)
    (z3 : PySem.W.nsIn K mainGlobals "list" = some none)
    (z4 : PySem.W.nsIn K mainGlobals "range" = some none)
    (z5 : PySem.W.nsIn K mainGlobals "zip" = some none)
    (z6 : PySem.W.nsIn K mainGlobals "isinstance" = some none)
    (z7 : PySem.W.nsIn K mainGlobals "tuple" = some none)
    (z8 : PySem.W.nsIn K mainGlobals "bool" = some none)
    (z9 : PySem.W.nsIn K mainGlobals "int" = some none)
    (z10 : PySem.W.nsIn K mainGlobals "str" = some none)
    (y1 : PySem.W.nsIn K mainGlobals "_MOST_LETTERS" = some (some (.int 6 t1)))
    (y2 : PySem.W.nsIn K mainGlobals "MOST_ARROWS" = some (some (.int 9 t2)))
    (y3 : PySem.W.nsIn K mainGlobals "MOST_COUNT" = some (some (.int 3 t3))) :
    ∃ fd : FuncData, (∀ (s : Shared) (v : Value), BindsTo s fd ⟨[v], []⟩ [("_law_script", v)]) ∧ ∀ base : Heap, K.In base → base.Ns mainGlobals mg → FnOk l.prog w K mg base CX0 4 fa fd ["_law_script"] (spLaw K) := by
  have e := hfa.symm.trans (PySem.W.mg_of X G a10)
  cases e
  have F1 := fun_mk (st := sIsName) l1 c1 k1
  have F2 := fun_mk (st := sIsSign) l2 c2 k2
  have F3 := fun_mk (st := sLBag) l3 c3 k3
  have F4 := fun_mk (st := sLPull) l4 c4 k4
  have F5 := fun_mk (st := sLOf) l5 c5 k5
  have F6 := fun_mk (st := sLLetters) l6 c6 k6
  have F7 := fun_mk (st := sLLike) l7 c7 k7
  have F8 := fun_mk (st := sLIsName) l8 c8 k8
  have F9 := fun_mk (st := sLText) l9 c9 k9
  have F10 := fun_mk (st := sLaw) l10 c10 k10
  have b1 := F1.binds (ps := ["text"]) fun _ _ _ _ _ _ us hl => match us, hl with | [_], _ => rfl
  have b2 := F2.binds (ps := ["text"]) fun _ _ _ _ _ _ us hl => match us, hl with | [_], _ => rfl
  have b3 := F3.binds (ps := ["_law_script"]) fun _ _ _ _ _ _ us hl => match us, hl with | [_], _ => rfl
  have b4 := F4.binds (ps := ["_law_bag_here", "_law_many"]) fun _ _ _ _ _ _ us hl => match us, hl with | [_, _], _ => rfl
  have b5 := F5.binds (ps := ["_law_bag_here", "_law_things"]) fun _ _ _ _ _ _ us hl => match us, hl with | [_, _], _ => rfl
  have b6 := F6.binds (ps := []) fun _ _ _ _ _ _ us hl => match us, hl with | [], _ => rfl
  have b7 := F7.binds (ps := ["_law_found", "_law_due"]) fun _ _ _ _ _ _ us hl => match us, hl with | [_, _], _ => rfl
  have b8 := F8.binds (ps := ["_law_text_here"]) fun _ _ _ _ _ _ us hl => match us, hl with | [_], _ => rfl
  have b9 := F9.binds (ps := ["_law_bag_here", "_law_limit"]) fun _ _ _ _ _ _ us hl => match us, hl with | [_, _], _ => rfl
  have T : Txt mg := ⟨PySem.W.mg_none_of X G z1, PySem.W.mg_none_of X G z2, PySem.W.mg_none_of X G z3, PySem.W.mg_none_of X G z4, PySem.W.mg_none_of X G z5, PySem.W.mg_none_of X G z6, PySem.W.mg_none_of X G z7, PySem.W.mg_none_of X G z8, PySem.W.mg_none_of X G z9, PySem.W.mg_none_of X G z10, ⟨_, PySem.W.mg_of X G y1⟩, ⟨_, PySem.W.mg_of X G y2⟩, ⟨_, PySem.W.mg_of X G y3⟩⟩
  refine ⟨PySem.W.fnOf "law" "law" (defArgs sLaw) (defBody sLaw) (defScope sLaw) .none kV10 dc10 pm10 an10 cd10 ct10, fun s v => .of_eq rfl, fun base _ _ => ?_⟩
  have C_law_pull : Cal l.prog w K mg base 1 "_law_pull" _ _ := ⟨_, _, ok_pull F4 T, PySem.W.mg_of X G a4, F4.kp, b4⟩
  have C_law_bag : Cal l.prog w K mg base 1 "_law_bag" _ _ := ⟨_, _, ok_bag F3 T, PySem.W.mg_of X G a3, F3.kp, b3⟩
  have C_law_letters : Cal l.prog w K mg base 1 "_law_letters" _ _ := ⟨_, _, ok_letters F6, PySem.W.mg_of X G a6, F6.kp, b6⟩
  have C_is_sign : Cal l.prog w K mg base 1 "is_sign" _ _ := ⟨_, _, ok_is_sign F2 T, PySem.W.mg_of X G a2, F2.kp, b2⟩
  have C_law_of : Cal l.prog w K mg base 2 "_law_of" _ _ := ⟨_, _, ok_of F5 T C_law_pull, PySem.W.mg_of X G a5, F5.kp, b5⟩
  have C_is_name : Cal l.prog w K mg base 2 "is_name" _ _ := ⟨_, _, ok_is_name F1 T C_is_sign, PySem.W.mg_of X G a1, F1.kp, b1⟩
  have C_law_is_name : Cal l.prog w K mg base 2 "_law_is_name" _ _ := ⟨_, _, ok_law_name F8 T C_law_letters, PySem.W.mg_of X G a8, F8.kp, b8⟩
  have C_law_like := cal_like (P := l.prog) (w := w) (base := base) F7 T (PySem.W.mg_of X G a7) b7 2
  have C_law_text : Cal l.prog w K mg base 3 "_law_text" _ _ := ⟨_, _, ok_text F9 T (C_law_pull.mono (by decide)) C_law_of (C_law_letters.mono (by decide)), PySem.W.mg_of X G a9, F9.kp, b9⟩
  exact ok_law F10 T (C_law_bag.mono (by decide)) (C_law_of.mono (by decide)) C_law_text (C_law_is_name.mono (by decide)) (C_law_like.mono (by decide)) (C_is_name.mono (by decide)) (C_is_sign.mono (by decide))
end Ink
open PySem PySem.W PyProof.Rows
set_option maxHeartbeats 0 in
theorem PySem.Challenge.cw_whoseink_k01_names_and_signs_holds : PySem.Challenge.rw_whoseink_k01_names_and_signs.Holds := by
  w_on; o_law; k_head; (case hw => w_witness2)
  k_fill
  refine L2.walk_of (l := PySem.Challenge.rw_whoseink_k01_names_and_signs) (n := 63) (k := 4) (x := "_law_script") (CX := fun _ => L2.CX0) (sp := fun w => Ink.spLaw _) rfl (by decide) rfl ⟨rfl, by decide, by decide⟩ (fun w h Y => PySem.W.kIn_of Y) ?F (fun _ _ a ns hl _ hS => ⟨a, ns, rfl, hS, hl, fun _ => rfl⟩) (fun _ _ _ _ _ h => h)
  case F =>
    intro w mg fa h KX G hmg
    refine' Ink.all_mk KX G hmg ?a1 ?l1 ?c1 ?k1 ?a2 ?l2 ?c2 ?k2 ?a3 ?l3 ?c3 ?k3 ?a4 ?l4 ?c4 ?k4 ?a5 ?l5 ?c5 ?k5 ?a6 ?l6 ?c6 ?k6 ?a7 ?l7 ?c7 ?k7 ?a8 ?l8 ?c8 ?k8 ?a9 ?l9 ?c9 ?k9 ?a10 ?l10 ?c10 ?k10 ?z1 ?z2 ?z3 ?z4 ?z5 ?z6 ?z7 ?z8 ?z9 ?z10 ?y1 ?y2 ?y3
    (case a1 => k_is); (case l1 => k_is); (case c1 => k_is); (case k1 => k_is); (case a2 => k_is); (case l2 => k_is)
    (case c2 => k_is); (case k2 => k_is); (case a3 => k_is); (case l3 => k_is); (case c3 => k_is); (case k3 => k_is)
    (case a4 => k_is); (case l4 => k_is); (case c4 => k_is); (case k4 => k_is); (case a5 => k_is); (case l5 => k_is)
    (case c5 => k_is); (case k5 => k_is); (case a6 => k_is); (case l6 => k_is); (case c6 => k_is); (case k6 => k_is)
    (case a7 => k_is); (case l7 => k_is); (case c7 => k_is); (case k7 => k_is); (case a8 => k_is); (case l8 => k_is)
    (case c8 => k_is); (case k8 => k_is); (case a9 => k_is); (case l9 => k_is); (case c9 => k_is); (case k9 => k_is)
    (case a10 => k_is); (case l10 => k_is); (case c10 => k_is); (case k10 => k_is); (case z1 => k_is); (case z2 => k_is)
    (case z3 => k_is); (case z4 => k_is); (case z5 => k_is); (case z6 => k_is); (case z7 => k_is); (case z8 => k_is)
    (case z9 => k_is); (case z10 => k_is); (case y1 => k_is); (case y2 => k_is); (case y3 => k_is)
