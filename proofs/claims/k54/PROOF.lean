import PyProof.Rows.All
import Wide.All
import OpenK.AllK
import Wide.FinOn
import HandS.ForMost
import HandS.Wide
import HandS.Codes
import HandS.Strs
import HandS.SetKeys
import PyProof.ListStr
import HandS.Style
import HandS.FStr
import HandS.TupLe
import PyProof.Rows.StrRev
import PyProof.StrOps2
import HandS.Walk
import PyProof.Rows.SetFrom
import HandS.IsInst
import HandS.OwnEq
import HandS.Steps
import HandS.Defaults
import HandS.ClsMeth
import HandS.HotCalls
import HandS.Comp
import PyProof.Draws
import HandS.List
import HandS.Iter
import KE.KExcSuper
import HandS.Base
import HandS.Call
import HandS.Exc
import HandS.ExcInit
import HandS.TryOnly
import HandS.Lambda
import HandS.Nested
import HandS.Words
import HandS.More
import KE.KCallOwn
import HandS.WordsExc
import HandS.ExcOwn
import HandS.ExcInitHot
import HandS.ExcField
import HandS.ExcIs
import HandS.MakeKw
import HandS.HeadHook2
import HandS.NamedTupGet
import KE.KFmtOwn
import HandS.NamedTupSort
import PyProof.FactsAll.object_2
import PyProof.InstNe
import HandS.Star
import OpenK.KMeth
import KE.GoesEnum
import KE.GoesEnumKw
import OpenK.KMore
import HandS.CallLocal
import OpenK.KOps
import PyProof.StrLawsRepr
import HandS.Zip
import HandS.RaiseMore
import KE.KExcIs
import HandS.RaiseFrom
import HandS.NestedHot
import KE.GoesMore
import HandS.TryMany
import HandS.Deep
import KE.KStateDown
import HandS.Ends
import HandS.Head0
import HandS.Head1
import HandS.Head2
import HandS.HeadEnd
import HandS.HeadHook1
import HandS.HeadHook3
import HandS.HeadNt
import HandS.HeadHook4
import Lean
import PySem.Challenge.RW_cliplore_k54_lots_refused
set_option Elab.async false
set_option linter.all false
set_option maxRecDepth 100000
set_option maxHeartbeats 4000000
/-! The law's draws: a bag of numbers, and what a draw promises. -/
namespace Cl
open PySem L2

/-- all that was known is as it was, but b -/
def Kp (b : Addr) (H H' : Hp) : Prop := ∀ a o, a ≠ b → H a = some o → H' a = some o
theorem Kp.refl (b : Addr) (H : Hp) : Kp b H H := fun _ _ _ h => h
theorem Kp.trans {b : Addr} {H H1 H2 : Hp} (p : Kp b H H1) (q : Kp b H1 H2) : Kp b H H2 := fun a o n h => q a o n (p a o n h)
theorem Kp.same {b : Addr} {H H' : Hp} (p : Same H H') : Kp b H H' := fun a o _ h => p a o h
theorem Kp.new {b p : Addr} {H : Hp} {o : HO} (h : H p = none) : Kp b H (upd H p o) := fun a u _ e => by
  rw [upd_ne (ne_of_none e h)]
  exact e
theorem Kp.put {b : Addr} {H : Hp} {o : HO} : Kp b H (upd H b o) := fun a u n e => by
  rw [upd_ne n]
  exact e
theorem same_new {p : Addr} {H : Hp} {o : HO} (h : H p = none) : Same H (upd H p o) := fun a u e => by
  rw [upd_ne (ne_of_none e h)]
  exact e
theorem Kp.seq {K : PySem.W.Frag} {b a : Addr} {H H' : Hp} {xs : List V} (e : Kp b H H') (n : a ≠ b) (h : SqL K H a xs) : SqL K H' a xs := by
  rcases h with (h | ⟨o, h⟩) | h
  · exact .inl (.inl (e _ _ n h))
  · exact .inl (.inr ⟨o, e _ _ n h⟩)
  · exact .inr h

theorem Kp.mut {b r : Addr} {H0 H : Hp} {o : HO} (p : Kp b H0 H) (n : H0 r = none) : Kp b H0 (upd H r o) := fun a u na e => by
  rw [upd_ne (ne_of_none e n)]
  exact p a u na e
theorem same_mut {r : Addr} {H0 H : Hp} {o : HO} (p : Same H0 H) (n : H0 r = none) : Same H0 (upd H r o) := fun a u e => by
  rw [upd_ne (ne_of_none e n)]
  exact p a u e

/-- at b a law's bag: its cells at l, the place, the rest, the seed -/
def Bag (H : Hp) (b l : Addr) : Prop := ∃ (ns : List Int) (i r x : Int), H b = some (.lst [.ref l, .int i, .int r, .int x]) ∧ l ≠ b ∧ H l = some (.lst (ns.map V.int)) ∧ 0 ≤ i
theorem Bag.put {H : Hp} {b l : Addr} {i r x : Int} (h : Bag H b l) (hi : 0 ≤ i) : Bag (upd H b (.lst [.ref l, .int i, .int r, .int x])) b l := by
  obtain ⟨ns, _, _, _, h1, h2, h3, _⟩ := h
  exact ⟨ns, i, r, x, upd_same, h2, by rw [upd_ne h2]; exact h3, hi⟩
theorem Bag.same {H H' : Hp} {b l : Addr} (h : Bag H b l) (s : Same H H') : Bag H' b l := by
  obtain ⟨ns, i, r, x, h1, h2, h3, h4⟩ := h
  exact ⟨ns, i, r, x, s _ _ h1, h2, s _ _ h3, h4⟩
theorem Bag.new {H : Hp} {b l p : Addr} {o : HO} (h : Bag H b l) (n : H p = none) : Bag (upd H p o) b l := h.same (same_new n)
theorem Bag.nb {H : Hp} {b l p : Addr} (h : Bag H b l) (n : H p = none) : p ≠ b := by
  obtain ⟨ns, i, r, x, h1, _⟩ := h
  exact (ne_of_none h1 n).symm
theorem Bag.nl {H : Hp} {b l p : Addr} (h : Bag H b l) (n : H p = none) : p ≠ l := by
  obtain ⟨ns, i, r, x, _, _, h1, _⟩ := h
  exact (ne_of_none h1 n).symm
theorem Bag.upd {H : Hp} {b l p : Addr} {o : HO} (h : Bag H b l) (nb : p ≠ b) (nl : p ≠ l) : Bag (upd H p o) b l := by
  obtain ⟨ns, i, r, x, h1, h2, h3, h4⟩ := h
  exact ⟨ns, i, r, x, by rw [upd_ne nb.symm]; exact h1, h2, by rw [upd_ne nl.symm]; exact h3, h4⟩

/-- a draw below n -/
def spTake : Sp := fun vs H Q _ => ∃ (b l : Addr) (n : Int), vs = [.ref b, .int n] ∧ 0 < n ∧ n < 2 ^ 64 ∧ Bag H b l ∧
  ∀ (v : Int) (H' : Hp), 0 ≤ v → v < n → Kp b H H' → Bag H' b l → Q (.int v) H'
/-- a new bag of the script -/
def spBag (K : PySem.W.Frag) : Sp := fun vs H Q _ => ∃ (a : Addr) (ns : List Int), vs = [.ref a] ∧ SqL K H a (ns.map V.int) ∧
  ∀ (b l : Addr) (H' : Hp), H b = none → H l = none → Same H H' → Bag H' b l → Q (.ref b) H'
theorem atI_pos {α : Type} {xs : List α} {i : Int} {v : α} (h0 : 0 ≤ i) (hx : xs[i.toNat]? = some v) : atI xs i = some v := by
  have e := atI_nat hx
  rwa [Int.toNat_of_nonneg h0] at e
theorem at0 {α : Type} {a b c d : α} : atI [a, b, c, d] 0 = some a := rfl
theorem at1 {α : Type} {a b c d : α} : atI [a, b, c, d] 1 = some b := rfl
theorem at2 {α : Type} {a b c d : α} : atI [a, b, c, d] 2 = some c := rfl
theorem at3 {α : Type} {a b c d : α} : atI [a, b, c, d] 3 = some d := rfl
end Cl
set_option Elab.async false
set_option linter.all false
set_option maxRecDepth 100000
set_option maxHeartbeats 4000000
namespace Cl.K54
open PySem L2
def top (i : Nat) : Stmt := PySem.Challenge.pw_cliplore_k54_lots_refused.main.body.getD i (.Pass ⟨0, 0, 0, 0⟩)
abbrev sTake : Stmt := top 40
section
variable {P : Program} {w : World} {K : PySem.W.Frag} {mg : Str → Option Value} {base : Heap}
theorem scTake : FnScope ["_law_bag_here", "_law_size", "_law_rest", "_law_cell"] ["_law_bag_here", "_law_size"] (defScope sTake) := ⟨rfl, rfl, rfl, by decide +kernel, rfl, by decide +kernel, by decide +kernel⟩
theorem ok_take {f : Addr} {fd : FuncData} (F : Fun K "_law_take" "_law_take" sTake f fd) (hI : mg "int" = none) (hL : mg "len" = none) : FnOk P w K mg base CX0 1 f fd ["_law_bag_here", "_law_size"] spTake := by
  refine F.ok scTake (fun vs H Q E h => ?_) (fun cdv A outer s H vs Q E hr h => ?_)
  · obtain ⟨b, l, n, rfl, _⟩ := h
    rfl
  · obtain ⟨b, l, n, rfl, n0, n9, ⟨ns, i, r, x, hb, hlb, hl', hi⟩, k⟩ := h
    have hl : SqL K H l (ns.map V.int) := SqL.of hl'
    refine ⟨_, pss_cons (ps_if (pt_cmpR op_gt (pe_ix ix_list (pv 0) pe_int (fun _ _ => rfl)) pe_int (nomark _))
        (pss_cons (ps_set (i := 2) scTake.nd rfl (.inl rfl) (pe_callTy call_int1 (by rfl) hI (by decide +kernel) (pa_cons (pe_ix ix_list (pv 0) pe_int (fun _ _ => rfl)) pa_nil)))
          (pss_cons (ps_asg (pe_op op_fdivW (pv 2) (pv 1)) (pg_sub (pv 0) pe_int set_list))
            (pss_one (ps_ret (pe_op op_mod (pe_callTy call_int1 (by rfl) hI (by decide +kernel) (pa_cons (pv 2) pa_nil)) (pv 1))))))
        pss_nil)
      (pss_cons (ps_set (i := 3) scTake.nd rfl (.inl rfl) pe_int)
      (C8.pss_cut (ps_if (pt_cmpR op_lt (pe_ix ix_list (pv 0) pe_int (fun _ _ => rfl)) (pe_callB call_len_seq (by rfl) hL PySem.boot_len (pa_cons (pe_ix ix_list (pv 0) pe_int (fun _ _ => rfl)) pa_nil)) (nomark _))
        (pss_one (ps_set (i := 3) scTake.nd rfl (.inl rfl) (pe_ix ix_list (pe_ix ix_list (pv 0) pe_int (fun _ _ => rfl)) (pe_ix ix_list (pv 0) pe_int (fun _ _ => rfl)) (fun _ _ => rfl))))
        pss_nil)
      (pss_cons (ps_asg (pe_op op_add (pe_ix ix_list (pv 0) pe_int (fun _ _ => rfl)) pe_int) (pg_sub (pv 0) pe_int set_list))
      (pss_cons (ps_if (pt_cmpR op_ge (pv 3) (pe_op op_pow pe_int pe_int) (nomark _))
        (pss_cons (ps_asg (pe_op op_fdivW (pv 3) (pv 1)) (pg_sub (pv 0) pe_int set_list))
          (pss_one (ps_ret (pe_op op_mod (pe_callTy call_int1 (by rfl) hI (by decide +kernel) (pa_cons (pv 3) pa_nil)) (pv 1)))))
        pss_nil)
      (pss_cons (ps_asg (pe_op op_mod (pe_callTy call_int1 (by rfl) hI (by decide +kernel) (pa_cons (pe_op op_add (pe_op op_add (pe_op op_mul (pe_ix ix_list (pv 0) pe_int (fun _ _ => rfl)) pe_int) (pe_op op_mul (pv 3) pe_int)) (pe_op op_mul (pe_ix ix_list (pv 0) pe_int (fun _ _ => rfl)) pe_int)) pa_nil)) pe_int) (pg_sub (pv 0) pe_int set_list))
      (pss_one (ps_ret (pe_op op_mod (pe_op op_fdiv (pe_callTy call_int1 (by rfl) hI (by decide +kernel) (pa_cons (pe_ix ix_list (pv 0) pe_int (fun _ _ => rfl)) pa_nil)) pe_int) (pv 1))))))))), ?_⟩
    -- if bag[2] > 0
    have fin : ∀ (j r' x' v : Int), 0 ≤ j → 0 ≤ v → v < n → Q (.int v) (upd H b (.lst [.ref l, .int j, .int r', .int x'])) := fun j r' x' v hj h0 h1 =>
      k v _ h0 h1 Kp.put (Bag.put ⟨ns, i, r, x, hb, hlb, hl', hi⟩ hj)
    have md : ∀ m : Int, 0 ≤ m % n ∧ m % n < n := fun m => ⟨Int.emod_nonneg m (by omega), Int.emod_lt_of_pos m n0⟩
    have hc : CDivW 0 n := wide_div (b := 64) (i := 0) n0 (by omega) (by decide) (by decide)
    refine ⟨_, rfl, b, _, _, _, rfl, rfl, SqL.of hb, at2, _, _, rfl, rfl, _, rfl, ?_⟩
    refine ite2 (fun _ => ?_) (fun _ => ?_)
    · refine ⟨_, rfl, b, _, _, _, rfl, rfl, SqL.of hb, at2, .inl ⟨_, rfl, ?_⟩⟩
      refine ⟨_, rfl, _, rfl, _, _, rfl, rfl, hc, _, rfl, ?_⟩
      refine ⟨b, _, _, 2, rfl, rfl, hb, rfl, ?_⟩
      refine ⟨_, rfl, .inl ⟨_, rfl, _, rfl, _, _, rfl, rfl, n0, ?_⟩⟩
      exact fin i _ x _ hi (md r).1 (md r).2
    · refine ⟨fun σ' H' => ∃ c : Int, σ' = [some (.ref b), some (.int n), none, some (.int c)] ∧ H' = H, ?_, ?_⟩
      · refine ⟨_, rfl, b, _, _, _, rfl, rfl, SqL.of hb, at1, _, rfl, b, _, _, _, rfl, rfl, SqL.of hb, at0, l, _, rfl, .inl hl, _, _, rfl, rfl, _, rfl, ?_⟩
        refine ite2 (fun hlt => ?_) (fun _ => ⟨_, rfl, rfl⟩)
        have hlt' : i.toNat < ns.length := by
          have z := of_decide_eq_true hlt
          rw [List.length_map] at z
          omega
        refine ⟨_, rfl, b, _, _, _, rfl, rfl, SqL.of hb, at0, _, rfl, b, _, _, _, rfl, rfl, SqL.of hb, at1, l, _, _, .int (ns[i.toNat]), rfl, rfl, hl, ?_, ⟨_, rfl, rfl⟩⟩
        exact atI_pos hi (by rw [List.getElem?_map, List.getElem?_eq_getElem hlt'] <;> rfl)
      · rintro σ' H' ⟨c, rfl, rfl⟩
        refine ⟨_, rfl, b, _, _, _, rfl, rfl, SqL.of hb, at1, _, _, rfl, rfl, _, rfl, b, _, _, 1, rfl, rfl, hb, rfl, ?_⟩
        refine ⟨_, rfl, _, _, rfl, rfl, ⟨by decide, by decide, by decide⟩, _, _, rfl, rfl, _, rfl, ?_⟩
        refine ite2 (fun _ => ?_) (fun _ => ?_)
        · refine ⟨_, rfl, _, rfl, _, _, rfl, rfl, hc, _, rfl, b, _, _, 2, rfl, rfl, upd_same, rfl, ?_⟩
          refine ⟨_, rfl, .inl ⟨_, rfl, _, rfl, _, _, rfl, rfl, n0, ?_⟩⟩
          rw [upd_upd]
          exact fin (i + 1) _ x _ (by omega) (md c).1 (md c).2
        · refine ⟨_, rfl, b, _, _, _, rfl, rfl, SqL.of upd_same, at3, _, _, rfl, rfl, .inr (by decide), ?_⟩
          refine ⟨_, rfl, _, _, rfl, rfl, .inr (by decide), _, _, rfl, rfl, _, rfl, b, _, _, _, rfl, rfl, SqL.of upd_same, at1, _, _, rfl, rfl, .inr (by decide), _, _, rfl, rfl, .inl ⟨_, rfl, ?_⟩⟩
          refine ⟨_, _, rfl, rfl, (by show (0 : Int) < 2147483647; decide), _, rfl, b, _, _, 3, rfl, rfl, upd_same, rfl, ?_⟩
          refine ⟨_, rfl, b, _, _, _, rfl, rfl, SqL.of upd_same, at3, .inl ⟨_, rfl, _, _, rfl, rfl, ⟨by decide, by decide⟩, _, rfl, _, _, rfl, rfl, n0, ?_⟩⟩
          rw [upd_upd]
          exact fin (i + 1) r _ _ (by omega) (md _).1 (md _).2

end
end Cl.K54
set_option Elab.async false
set_option linter.all false
set_option maxRecDepth 100000
set_option maxHeartbeats 4000000
/-! Texts by their codes; list, sorted, set of a text. -/
namespace Cl
open PySem PySem.Spec L2 PyProof.Rows

/-! ### texts by their codes -/
def S (l : List Nat) : Str := ⟨l.toArray⟩
def sg (c : Nat) : V := .str ⟨#[c]⟩
theorem S_cps (l : List Nat) : (S l).cps.toList = l := by simp [S]
theorem S_len (l : List Nat) : (S l).length = l.length := by simp [S, Str.length]
theorem S_of (z : Str) : S z.cps.toList = z := by
  obtain ⟨a⟩ := z
  simp [S]
theorem S_inj {a b : List Nat} (h : S a = S b) : a = b := by
  have e := congrArg (fun z : Str => z.cps.toList) h
  simpa [S_cps] using e
theorem S_one (c : Nat) : (⟨#[c]⟩ : Str) = S [c] := rfl
theorem S_app (a b : List Nat) : S a ++ S b = S (a ++ b) := by
  show Str.mk _ = Str.mk _
  simp [S]

theorem strs_of_items {x : Str} {acc : Array Value} (h : ItemsOf (SignAt x) acc x.cps.size) : StrsAre acc.toList (x.cps.toList.map fun c => (⟨#[c]⟩ : Str)) := by
  obtain ⟨h1, h2⟩ := h
  have key : ∀ (vs : List Value) (cs : List Nat), vs.length = cs.length → (∀ (j : Nat) (v : Value), vs[j]? = some v → ∃ c u, cs[j]? = some c ∧ v = .str ⟨#[c]⟩ u) → StrsAre vs (cs.map fun c => (⟨#[c]⟩ : Str)) := by
    intro vs
    induction vs with
    | nil =>
      intro cs hl _
      cases cs with
      | nil => exact .nil
      | cons c r => simp at hl
    | cons v r ih =>
      intro cs hl hj
      cases cs with
      | nil => simp at hl
      | cons c t =>
        obtain ⟨c', u, e1, e2⟩ := hj 0 v rfl
        simp at e1
        subst e1
        subst e2
        exact .cons _ u (ih t (by simpa using hl) fun j w hw => by
          obtain ⟨c', u', e1, e2⟩ := hj (j + 1) w (by simpa using hw)
          exact ⟨c', u', by simpa using e1, e2⟩)
  refine key _ _ (by simp [h1]) fun j v hv => ?_
  obtain ⟨c, u, e1, e2⟩ := h2 j v (by simpa using hv)
  exact ⟨c, u, by simpa using e1, e2⟩
theorem map_one (l : List Nat) : (l.map fun c => (⟨#[c]⟩ : Str)).map V.str = l.map sg := by
  rw [List.map_map]
  rfl

/-! ### list(text) -/
def rListT : List V → Hp → VK → Prop := fun vs H Q => ∃ l : List Nat, vs = [.str (S l)] ∧ l.length ≤ sizeLine ∧ ∀ p, H p = none → Q (.ref p) (upd H p (.lst (l.map sg)))
theorem cr_listT {X : Cx} (hc : X.calm = true) : CallR X (.type "list") rListT := by
  intro pins s σ H vs us Q I r h
  obtain ⟨l, rfl, hl, q⟩ := h
  obtain ⟨u, rfl, rx⟩ := vals1 r
  obtain ⟨t, rfl⟩ := rx
  refine call_list_str (hn := by simpa [S] using hl) (I.ok.hd hc) (S l) t fun h' tk acc c' hk e hi => ?_
  have hs := vals_of_strs (strs_of_items hi)
  rw [S_cps, map_one] at hs
  refine ⟨.ref s.heap.objs.size, upd H s.heap.objs.size (.lst (l.map sg)), I.laid hk (Nat.le_refl _) ⟨by simpa using hl, acc.toList, c', hs, by rw [Array.toArray_toList]; exact e⟩, rfl, q _ (I.hok.fresh (Nat.le_refl _))⟩

/-! ### sorted(text) -/
section
variable {prog : Program} {w : World} {A : Around} {E : Value → Shared → Prop} {s : Shared}
theorem sorted_text {x : Str} {t : Tok} {Q : Value → Shared → Prop} (hh : A.handled = none) (h64 : x.cps.size < 64)
    (h : ∀ (hp h' : Heap) (tk : Nat) (out : Array Value) (ys : List Str) (n : Nat), StrsAre out.toList ys → ys.Perm (x.cps.toList.map fun c => (⟨#[c]⟩ : Str)) → sortedS ys = true → h'.get? hp.objs.size = some (seqObj "list" out n) →
      (∀ b o, s.heap.get? b = some o → hp.get? b = some o) → (∀ b o, hp.get? b = some o → h'.get? b = some o) → Q (.ref hp.objs.size) { s with heap := h', toks := tk }) :
    wpAny (model prog w) A (call (.builtin "sorted") [.str x t]) Q E s := by
  refine Calls.call_function_entry kind_sorted plain_sorted entry_sorted (args_sorted1 _) ?_
  unfold Builtin.«sorted»
  refine wpAny_bind (m := checkCount "sorted" 1 1 _) (wpAny_pure ?_)
  refine wpAny_bind (wpAny_collect_str (A := A.in1) (hn := by rw [sizeLine_eq]; omega) hh x t fun s1 acc hk hg hd ho hi => ?_)
  have hS := strs_of_items hi
  obtain ⟨hp, g, d, tk, os⟩ := s1
  have eg : g = s.gens := hg
  have ed : d = s.drawn := hd
  have eo : os = s.os := ho
  subst eg; subst ed; subst eo
  have hk : ∀ b o, s.heap.get? b = some o → hp.get? b = some o := hk
  have hlen : acc.toList.length < 64 := by
    have e := hi.1
    simp
    omega
  refine wpAny_bind (wpAny_newList (hsz := by rw [sizeLine_eq]; omega) ?_)
  have hoL : (hp.push (seqObj "list" acc.toList.toArray 0)).get? hp.objs.size = some (seqObj "list" acc.toList.toArray 0) := Heap.get?_push_size _ rfl
  refine wpAny_bind (wpAny_holding (wpAny_call_entry slot_list_sort ⟨_, hoL, rfl⟩ entry_list_sort (list_sort_treeK strKind_oneLt hoL hS.keysOf (fun v₁ v₂ rest e => keyKind_strs (by rw [← e]; exact hS)) hlen fun st' a1 a2 => ⟨_, rfl, ?_⟩) (args_list_sort _)))
  obtain ⟨ys, b1, b2, b3⟩ := sorted_out_str hS a1 a2
  obtain ⟨n, hat⟩ := sortedHeap_at (h := hp.push (seqObj "list" acc.toList.toArray 0)) (vs := acc.toList) (out := (arrOf st').map (·.2)) hoL
  refine wpAny_pure ⟨_, rfl, h hp _ tk _ ys n b1 b2 b3 hat hk fun b o e => ?_⟩
  have lt := Heap.lt_size e
  rw [sortedHeap_old (Nat.ne_of_lt lt) (by rw [Heap.size_push]; exact Nat.lt_succ_of_lt lt)]
  exact Heap.get?_push_of_some _ e
end
theorem rising_pw : ∀ (l : List Nat) (c : Nat), risingS ⟨#[c]⟩ (l.map fun c => (⟨#[c]⟩ : Str)) = true → (c :: l).Pairwise (· ≤ ·)
  | [], c, _ => List.pairwise_singleton _ _
  | d :: r, c, h => by
    have h' : (!ltCps [d] [c] && risingS ⟨#[d]⟩ (r.map fun c => (⟨#[c]⟩ : Str))) = true := h
    rw [Bool.and_eq_true] at h'
    have p := rising_pw r d h'.2
    have le : c ≤ d := by
      have z := h'.1
      rw [ltCps_eq] at z
      have z2 : ¬ [d] < [c] := by
        intro q
        rw [decide_eq_true q] at z
        cases z
      exact Nat.le_of_not_lt fun q => z2 (List.cons_lt_cons_iff.mpr (.inl q))
    refine List.pairwise_cons.mpr ⟨fun e he => ?_, p⟩
    rcases List.mem_cons.mp he with e1 | e1
    · omega
    · exact Nat.le_trans le ((List.pairwise_cons.mp p).1 e e1)
theorem sorted_pw : ∀ (l : List Nat), sortedS (l.map fun c => (⟨#[c]⟩ : Str)) = true → l.Pairwise (· ≤ ·)
  | [], _ => List.Pairwise.nil
  | c :: r, h => rising_pw r c h
def rSortT : List V → Hp → VK → Prop := fun vs H Q => ∃ l : List Nat, vs = [.str (S l)] ∧ l.length < 64 ∧ ∀ (l' : List Nat) (p : Addr), l'.Perm l → l'.Pairwise (· ≤ ·) → H p = none → Q (.ref p) (upd H p (.lst (l'.map sg)))
theorem cr_sortT {X : Cx} (hc : X.calm = true) : CallR X (.builtin "sorted") rSortT := by
  intro pins s σ H vs us Q I r h
  obtain ⟨l, rfl, hl, q⟩ := h
  obtain ⟨u, rfl, rx⟩ := vals1 r
  obtain ⟨t, rfl⟩ := rx
  refine sorted_text (I.ok.hd hc) (by simpa [S] using hl) fun hp h' tk out ys n h1 h2 h3 h4 k1 k2 => ?_
  rw [S_cps] at h2
  have ey : ys = (ys.map fun z => z.cps.toList.headD 0).map fun c => (⟨#[c]⟩ : Str) := by
    rw [List.map_map]
    have : ∀ z ∈ ys, ((fun c => (⟨#[c]⟩ : Str)) ∘ fun z : Str => z.cps.toList.headD 0) z = z := fun z hz => by
      obtain ⟨c, _, rfl⟩ := List.mem_map.mp (h2.mem_iff.mp hz)
      rfl
    rw [List.map_congr_left this, List.map_id']
  have p2 : (ys.map fun z => z.cps.toList.headD 0).Perm l := by
    have e := h2.map fun z : Str => z.cps.toList.headD 0
    rw [List.map_map] at e
    have e2 : l.map ((fun z : Str => z.cps.toList.headD 0) ∘ fun c => (⟨#[c]⟩ : Str)) = l := by
      have : ((fun z : Str => z.cps.toList.headD 0) ∘ fun c => (⟨#[c]⟩ : Str)) = id := by
        funext c
        rfl
      rw [this, List.map_id]
    rwa [e2] at e
  generalize (ys.map fun z => z.cps.toList.headD 0) = l' at ey p2
  subst ey
  have hs := vals_of_strs h1
  rw [map_one] at hs
  have I1 : Inv X pins σ H { s with heap := hp, toks := tk } := I.kept k1
  exact ⟨.ref hp.objs.size, upd H hp.objs.size (.lst (l'.map sg)), I1.laid (t' := tk) k2 (Nat.le_refl _) ⟨by rw [List.length_map, p2.length_eq]; exact small64 hl, out.toList, n, hs, by rw [Array.toArray_toList]; exact h4⟩, rfl, q l' _ p2 (sorted_pw _ h3) (I1.hok.fresh (Nat.le_refl _))⟩
end Cl
set_option Elab.async false
set_option linter.all false
set_option maxRecDepth 100000
set_option maxHeartbeats 4000000
namespace Cl
open PySem PySem.Spec L2 PyProof.Rows
/-! ### text[::-1] -/
def tRevT (te : TE) : TE := fun σ H Q => te σ H fun x H1 => ∃ l : List Nat, x = .str (S l) ∧ l.length ≤ sizeLine ∧ Q (.str (S l.reverse)) H1
theorem rev_codes (l : List Nat) : (Builtin.Str.strSliceIndices none none (-1) (S l).length).filterMap ((S l).cps[·]?) = l.reverse := by
  rw [picked_rev, filterMap_get, List.map_map]
  · rw [S_len]
    apply List.ext_getElem?
    intro i
    by_cases hi : i < l.length
    · rw [List.getElem?_reverse hi, List.getElem?_map, List.getElem?_range hi]
      show some ((S l).cps.getD (l.length - 1 - i) 0) = _
      have hj : l.length - 1 - i < l.length := by omega
      rw [List.getElem?_eq_getElem hj]
      simp [S, Array.getD, hj]
    · rw [List.getElem?_eq_none (by simp; omega), List.getElem?_eq_none (by simp; omega)]
  · intro i hi
    obtain ⟨k, hk, rfl⟩ := List.mem_map.mp hi
    have hk' := List.mem_range.mp hk
    show (S l).length - 1 - k < (S l).length
    omega
theorem pe_revT {X : Cx} {e : Expr} {te : TE} {k : Nat} {p1 p2 p3 pos : Pos} (he : PE X e te) : PE X (.Subscript e (.Slice none none (some (.UnaryOp .USub (.Constant (.int 1) k p1) p2)) p3) pos) (tRevT te) := by
  refine ⟨fun pins s σ H Q I h => ?_⟩
  refine Subscript_ (thn (he.run pins s σ H _ I h) fun v s1 ⟨x, H1, I1, r1, l, ex, hx, q⟩ => ?_)
  subst ex
  obtain ⟨t, rfl⟩ := r1
  have hst : PO X (some (.UnaryOp .USub (.Constant (.int 1) k p1) p2)) (tPart (tUn (rU fun i => .int (-i)) (tC (.int 1)))) := po_some (pe_un un_neg pe_int)
  refine wpAny_Slice (thn (po_none.run pins s1 σ H1 (fun o H2 => o = none ∧ H2 = H1) I1 ⟨rfl, rfl⟩) fun vl s2 ⟨lo, H2, I2, pl, el, e2⟩ => ?_)
  subst el e2
  refine thn (po_none.run pins s2 σ H2 (fun o H3 => o = none ∧ H3 = H2) I2 ⟨rfl, rfl⟩) fun vu s3 ⟨u, H3, I3, pu, eu, e3⟩ => ?_
  subst eu e3
  refine thn (hst.run pins s3 σ H3 (fun o H4 => o = some (-1) ∧ H4 = H3) I3 ⟨1, rfl, -1, rfl, rfl, rfl⟩) fun vs s4 ⟨o, H4, I4, ps, eo, e4⟩ => ?_
  subst eo e4
  have I5 : Inv X pins σ H4 { s4 with heap := s4.heap.push { cls := .type "slice", data := .fields #[vl, vu, vs] } } := I4.kept (t' := s4.toks) fun b ob q => Heap.get?_push_of_some _ q
  obtain ⟨l1, d1, e1⟩ := IsPart.raw pl
  obtain ⟨u1, d2, e2⟩ := IsPart.raw pu
  obtain ⟨w1, d3, e3⟩ := IsPart.raw ps
  have a1 : l1 = none := by cases l1 <;> simp_all
  have a2 : u1 = none := by cases u1 <;> simp_all
  obtain ⟨tw, a3⟩ : ∃ tw, w1 = some (-1, tw) := by
    cases w1 with
    | none => simp at e3
    | some p =>
      obtain ⟨i, tw⟩ := p
      simp at e3
      exact ⟨tw, by rw [← e3]⟩
  subst a1 a2 a3 d1 d2 d3
  show wpAny (model X.prog X.w) X.A (subscriptTail e (.Slice none none (some (.UnaryOp .USub (.Constant (.int 1) k p1) p2)) p3) (.str (S l) t) (.ref s4.heap.objs.size)) (EP X pins σ Q) X.xe _
  refine tail_any (ops := [.ref s4.heap.objs.size]) (typeIs_str _ _ _) (PySem.F.slot_str_getitem.lookup) ?_ (by with_unfolding_all rfl)
  refine wpAny_getItem_str_slice (l := none) (u := none) (st := some (-1, tw)) ⟨_, Heap.get?_push_size _ rfl, rfl, rfl⟩ rfl ?_
  have e := rev_codes l
  unfold sliceMade slicePicked
  rw [if_neg (by simp)]
  have hz : (⟨((Builtin.Str.strSliceIndices none none (-1) (S l).length).filterMap ((S l).cps[·]?)).toArray⟩ : Str) = S l.reverse := by rw [e] <;> rfl
  show Made.post (Made.str ⟨((Builtin.Str.strSliceIndices none none (-1) (S l).length).filterMap ((S l).cps[·]?)).toArray⟩) _ _
  rw [hz]
  exact ⟨by rw [S_len, List.length_reverse]; exact hx, .str (S l.reverse), H4, I5.tok _, ⟨_, rfl⟩, q⟩

/-! ### text * n -/
def rMulT : R2 := fun x y H Q => ∃ (l : List Nat) (n : Int), x = .str (S l) ∧ y = .int n ∧ 0 ≤ n ∧ n ≤ 1000 ∧ l.length ≤ 1000 ∧ Q (.str (S (List.replicate n.toNat l).flatten)) H
theorem fold_app (a : Array Nat) : ∀ (n : Nat) (acc : Array Nat), ((List.replicate n a).foldl (· ++ ·) acc).toList = acc.toList ++ (List.replicate n a.toList).flatten
  | 0, acc => by simp
  | n + 1, acc => by
    rw [List.replicate_succ, List.foldl_cons, fold_app a n, List.replicate_succ, List.flatten_cons, Array.toList_append, List.append_assoc]
theorem op_mulT {X : Cx} : OpR X (binaryOp .Mult) rMulT := by
  intro pins s σ H x y v u Q I rx ry h
  obtain ⟨l, n, rfl, rfl, h0, h1, hl, q⟩ := h
  obtain ⟨t, rfl⟩ := rx
  obtain ⟨t', rfl⟩ := ry
  have hm : l.length * n.toNat ≤ 1000 * 1000 := Nat.mul_le_mul hl (by omega)
  have hz : (⟨(List.replicate n.toNat (S l).cps).foldl (· ++ ·) #[]⟩ : Str) = S (List.replicate n.toNat l).flatten := by
    have e := fold_app (S l).cps n.toNat #[]
    rw [S_cps] at e
    rw [← S_of ⟨(List.replicate n.toNat (S l).cps).foldl (· ++ ·) #[]⟩]
    show S ((List.replicate n.toNat (S l).cps).foldl (· ++ ·) #[]).toList = _
    rw [e] <;> rfl
  refine PySem.P.mul_str ?_ ?_ ?_ ?_
  · rw [decide_eq_false (by omega), decide_eq_false (by omega)] <;> rfl
  · intro a b c
    rw [S_len] at c
    have d : (1000 : Int) ≤ (2 ^ 63 - 1) / n := (Int.le_ediv_iff_mul_le (by omega)).mpr (by omega)
    omega
  · intro a b
    rw [S_len]
    show decide (l.length * n.toNat > sizeLine) = false
    rw [sizeLine_eq]
    exact decide_eq_false (by omega)
  · by_cases c : n < 1
    · rw [if_pos c]
      have e0 : n = 0 := by omega
      subst e0
      exact ⟨by decide, .str Str.empty, H, I.tok _, ⟨_, rfl⟩, q⟩
    · rw [if_neg c]
      by_cases d : (n == 1 || (S l).length == 0) = true
      · rw [if_pos d]
        have e : (List.replicate n.toNat l).flatten = l := by
          rw [S_len, Bool.or_eq_true, beq_iff_eq, beq_iff_eq] at d
          rcases d with d | d
          · rw [d]
            simp
          · have : l = [] := List.eq_nil_of_length_eq_zero d
            rw [this]
            simp
        rw [e] at q
        exact ⟨.str (S l), H, I, ⟨t, rfl⟩, q⟩
      · rw [if_neg d, hz]
        refine ⟨?_, .str _, H, I.tok _, ⟨_, rfl⟩, q⟩
        rw [S_len, List.length_flatten, List.map_replicate, List.sum_replicate_nat, Nat.mul_comm]
        exact Nat.le_trans hm (by rw [sizeLine_eq]; decide)
end Cl
set_option Elab.async false
set_option linter.all false
set_option maxRecDepth 100000
set_option maxHeartbeats 4000000
/-! What the law's helpers promise. -/
namespace Cl
open PySem PySem.Spec L2 PyProof.Rows
/-- letters in order, all unlike, at least one, at most n -/
structure Lets (l : List Nat) (n : Nat) : Prop where
  up : l.Pairwise (· < ·)
  az : ∀ c ∈ l, 97 ≤ c ∧ c ≤ 122
  one : 1 ≤ l.length
  most : l.length ≤ n
/-- some of the letters, in order -/
structure Sub (v l : List Nat) : Prop where
  sub : v.Sublist l
def abc : List Nat := (List.range 26).map (· + 97)
theorem abc_str : ("abcdefghijklmnopqrstuvwxyz" : Str) = S abc := by decide +kernel
def spLetters : Sp := fun vs H Q _ => ∃ (b lb : Addr) (top : Int), vs = [.ref b, .int top] ∧ 1 ≤ top ∧ top ≤ 8 ∧ Bag H b lb ∧
  ∀ (l : List Nat) (H' : Hp), Kp b H H' → Bag H' b lb → Lets l top.toNat → Q (.str (S l)) H'
def spVowels : Sp := fun vs H Q _ => ∃ (b lb : Addr) (l : List Nat), vs = [.ref b, .str (S l)] ∧ l.length ≤ 8 ∧ Bag H b lb ∧
  ∀ (v : List Nat) (H' : Hp), Kp b H H' → Bag H' b lb → v.Sublist l → Q (.str (S v)) H'
theorem abc_mem {c : Nat} (h : c ∈ abc) : 97 ≤ c ∧ c ≤ 122 := by
  obtain ⟨k, hk, rfl⟩ := List.mem_map.mp h
  have := List.mem_range.mp hk
  omega
theorem abc_nodup : abc.Nodup := by decide +kernel
theorem pw_lt {l : List Nat} (h1 : l.Pairwise (· ≤ ·)) (h2 : l.Nodup) : l.Pairwise (· < ·) := by
  have h := List.Pairwise.and h1 h2
  exact h.imp fun z => Nat.lt_of_le_of_ne z.1 z.2
/-- texts joined by a text -/
theorem join_tl (y : Str) (ys : List Str) : Txt.join y ys = S (TL.joinL y.cps.toList (ys.map fun z => z.cps.toList)) := by
  rw [TL.join_eq, ← S_of (Str.join y ys)]
  exact congrArg S (TL.tl_join y ys)
theorem joinL_nil : ∀ ys : List (List Nat), TL.joinL [] ys = ys.flatten
  | [] => rfl
  | [p] => by simp [TL.joinL]
  | p :: q :: r => by
    have e : TL.joinL [] (p :: q :: r) = p ++ TL.joinL [] (q :: r) := rfl
    rw [e, joinL_nil (q :: r)] <;> rfl
theorem flat_one (l : List Nat) : (l.map fun c => [c]).flatten = l := by
  induction l with
  | nil => rfl
  | cons c r ih => rw [List.map_cons, List.flatten_cons, ih] <;> rfl
/-- the texts of single signs, joined -/
theorem join_sg (l : List Nat) : Txt.join ("" : Str) (l.map fun c => (⟨#[c]⟩ : Str)) = S l := by
  rw [join_tl]
  show S (TL.joinL [] _) = _
  rw [joinL_nil, List.map_map]
  exact congrArg S (flat_one l)
theorem seqIx {v : Int} {n : Nat} (h0 : 0 ≤ v) (h1 : v < n) : seqIndex? v n = some v.toNat := by
  unfold seqIndex?
  have a : ¬ v < 0 := by omega
  simp only [a, if_false, h0, h1, decide_true, Bool.and_self, if_true]
theorem join_size (l : List Nat) (a : Str) (ha : a.length = 0) (h : l.length ≤ 1000) : ((l.map fun c => (⟨#[c]⟩ : Str)).map (·.length)).sum + (l.map fun c => (⟨#[c]⟩ : Str)).length * a.length ≤ 16777216 := by
  rw [ha, List.map_map]
  have e : (l.map ((fun z : Str => z.length) ∘ fun c => (⟨#[c]⟩ : Str))).sum = l.length := by
    have : ((fun z : Str => z.length) ∘ fun c => (⟨#[c]⟩ : Str)) = fun _ => 1 := by
      funext c
      rfl
    rw [this]
    clear h
    induction l with
    | nil => rfl
    | cons c r ih =>
      rw [List.map_cons, List.sum_cons, ih, List.length_cons]
      omega
  rw [e]
  omega
theorem erase_map (f : Nat → V) : ∀ (l : List Nat) (i : Nat), (l.map f).eraseIdx i = (l.eraseIdx i).map f
  | [], _ => rfl
  | c :: r, 0 => rfl
  | c :: r, i + 1 => by
    show f c :: (r.map f).eraseIdx i = f c :: (r.eraseIdx i).map f
    rw [erase_map f r i]
theorem perm_erase : ∀ (l : List Nat) (i : Nat) (h : i < l.length), (l[i] :: l.eraseIdx i).Perm l
  | c :: r, 0, _ => List.Perm.refl _
  | c :: r, i + 1, h => by
    have h' : i < r.length := by simpa using h
    have ih := perm_erase r i h'
    exact (List.Perm.swap c r[i] (r.eraseIdx i)).trans (ih.cons c)
theorem take_perm {rest acc all : List Nat} {i : Nat} (h : i < rest.length) (p : (rest ++ acc).Perm all) : (rest.eraseIdx i ++ (acc ++ [rest[i]])).Perm all := by
  refine List.Perm.trans ?_ p
  refine List.Perm.trans ?_ ((perm_erase rest i h).append_right acc)
  rw [← List.append_assoc]
  exact List.perm_append_comm
/-- a list of texts at a place -/
def txs (ys : List (List Nat)) : List V := ys.map fun y => V.str (S y)
theorem strs_map (ys : List (List Nat)) : (ys.map S).map V.str = txs ys := by
  rw [List.map_map]
  rfl
theorem join_nil (ys : List (List Nat)) : Txt.join ("" : Str) (ys.map S) = S ys.flatten := by
  rw [join_tl, List.map_map]
  show S (TL.joinL [] _) = _
  rw [joinL_nil]
  have e : ((fun z : Str => z.cps.toList) ∘ S) = id := by
    funext l
    exact S_cps l
  rw [e, List.map_id]
theorem join_room (ys : List (List Nat)) (a : Str) (n : Nat) (ha : a.length ≤ 100) (h1 : ys.length ≤ 1000) (h2 : ys.flatten.length ≤ 100000) : ((ys.map S).map (·.length)).sum + (ys.map S).length * a.length ≤ 16777216 := by
  rw [List.map_map]
  have e : (ys.map ((fun z : Str => z.length) ∘ S)).sum = ys.flatten.length := by
    have : ((fun z : Str => z.length) ∘ S) = fun l : List Nat => l.length := by
      funext l
      exact S_len l
    rw [this, List.length_flatten]
  rw [e, List.length_map]
  have : ys.length * a.length ≤ 1000 * 100 := Nat.mul_le_mul h1 ha
  omega
theorem at2_0 {x y : V} {v : Int} (h : v = 0) : atI [x, y] v = some x := by
  subst h
  rfl
theorem at2_1 {x y : V} {v : Int} (h : v = 1) : atI [x, y] v = some y := by
  subst h
  rfl
theorem take_snoc {l : List Nat} {i c : Nat} (h : l[i]? = some c) : l.take (i + 1) = l.take i ++ [c] := by
  rw [List.take_succ, h] <;> rfl
theorem S_get {l : List Nat} {i c : Nat} (h : (S l).cps[i]? = some c) : l[i]? = some c := by
  rw [← Array.getElem?_toList, S_cps] at h
  exact h
theorem S_size (l : List Nat) : (S l).cps.size = l.length := S_len l
end Cl
set_option Elab.async false
set_option linter.all false
set_option maxRecDepth 100000
set_option maxHeartbeats 4000000
namespace Cl.K54
open PySem PySem.Spec L2 PyProof.Rows
abbrev sBag : Stmt := top 39
abbrev sLetters : Stmt := top 41
abbrev sVowels : Stmt := top 42
section
variable {P : Program} {w : World} {K : PySem.W.Frag} {mg : Str → Option Value} {base : Heap}
theorem scBag : FnScope ["_law_script"] ["_law_script"] (defScope sBag) := ⟨rfl, rfl, rfl, by decide +kernel, rfl, by decide +kernel, by decide +kernel⟩
theorem cut_all (ns : List Int) (m : Nat) : ∃ ks : List Int, cutV (ns.map V.int) none (some (m : Int)) = ks.map V.int := by
  unfold cutV
  rw [← List.map_drop, ← List.map_take]
  exact ⟨_, rfl⟩
theorem ok_bag {f : Addr} {fd : FuncData} (F : Fun K "_law_bag" "_law_bag" sBag f fd) (hL : mg "list" = none) : FnOk P w K mg base CX0 1 f fd ["_law_script"] (spBag K) := by
  refine F.ok scBag (fun vs H Q E h => ?_) (fun cdv A outer s H vs Q E hr h => ?_)
  · obtain ⟨a, ns, rfl, _⟩ := h
    rfl
  · obtain ⟨a, ns, rfl, ha, k⟩ := h
    refine ⟨_, pss_one (ps_ret (pe_lst (pa_cons (pe_callTy call_list_of (by rfl) hL (by decide +kernel) (pa_cons (pe_slice sl_list (pv 0) po_none (po_some pe_int)) pa_nil)) (pa_cons pe_int (pa_cons pe_int (pa_cons pe_int pa_nil)))))), ?_⟩
    obtain ⟨ks, ek⟩ := cut_all ns 63
    refine ⟨_, rfl, 63, rfl, a, _, rfl, ha, fun p hp => ?_⟩
    refine ⟨p, _, rfl, .inl (SqL.of upd_same), fun l hl => ?_⟩
    refine ⟨(by show 4 ≤ sizeLine; decide), fun b hb => ?_⟩
    have e : cutV (ns.map V.int) none (some 63) = ks.map V.int := ek
    have npl : l ≠ p := fun z => by
      rw [z, upd_same] at hl
      cases hl
    have hl0 : H l = none := by
      rw [upd_ne npl] at hl
      exact hl
    have nbl : b ≠ l := fun z => by
      rw [z, upd_same] at hb
      cases hb
    have hb1 : upd H p (.lst (cutV (ns.map V.int) none (some 63))) b = none := by
      rw [upd_ne nbl] at hb
      exact hb
    have hb0 : H b = none := (same_new hp).free hb1
    refine k b l _ hb0 hl0 (((same_new hp).trans (same_new hl)).trans (same_new hb)) ⟨ks, 0, 0, 1, upd_same, nbl.symm, ?_, Int.le_refl _⟩
    rw [upd_ne nbl.symm, upd_same, e]
theorem scLetters : FnScope ["_law_bag_here", "_law_top", "_law_rest", "_law_letters_here", "_law_k"] ["_law_bag_here", "_law_top"] (defScope sLetters) := ⟨rfl, rfl, rfl, by decide +kernel, rfl, by decide +kernel, by decide +kernel⟩
theorem ok_letters {f fT : Addr} {fd fdT : FuncData} (F : Fun K "_law_letters" "_law_letters" sLetters f fd) (GT : FnOk P w K mg base CX0 1 fT fdT ["_law_bag_here", "_law_size"] spTake) (bT : Binds K fdT ["_law_bag_here", "_law_size"] [])
    (gT : mg "_law_take" = some (.ref fT)) (kT : PySem.W.keepIn K (.ref fT) = true) (hL : mg "list" = none) (hn : mg "len" = none) (hR : mg "range" = none) (hs : mg "sorted" = none) : FnOk P w K mg base CX0 2 f fd ["_law_bag_here", "_law_top"] spLetters := by
  refine F.ok scLetters (fun vs H Q E h => ?_) (fun cdv A outer s H vs Q E hr h => ?_)
  · obtain ⟨b, lb, n, rfl, _⟩ := h
    rfl
  · obtain ⟨b, lb, n, rfl, n1, n8, hb, k⟩ := h
    have hr1 : Room 1 _ := hr
    refine ⟨_, pss_cons (ps_set (i := 2) scLetters.nd rfl (.inl rfl) (pe_callTy (cr_listT rfl) (by rfl) hL (by decide +kernel) (pa_cons pe_str pa_nil)))
      (pss_cons (ps_set (i := 3) scLetters.nd rfl (.inl rfl) pe_str)
      (pss_cons (ps_for PassesOwn.never rfl (pi_range1 rfl hR (pa_cons (pe_op op_add pe_int (pe_call GT hr1 rfl gT kT bT .nil pass0 (pa_cons (pv 0) (pa_cons (pv 1) pa_nil)))) pa_nil)) (pg_name (i := 4) scLetters.nd rfl (.inl rfl))
        (pss_one (ps_set (i := 3) scLetters.nd rfl (.inl rfl) (pe_op op_add_str (pv 3) (pe_bm PySem.F.plainAttrs_list PySem.F.slot_list_pop PySem.F.type_list_pop mt_popAt (pv 2) (pa_cons (pe_call GT hr1 rfl gT kT bT .nil pass0 (pa_cons (pv 0) (pa_cons (pe_callB call_len_seq (by rfl) hn PySem.boot_len (pa_cons (pv 2) pa_nil)) pa_nil))) pa_nil))))))
      (pss_one (ps_ret (pe_join pe_str (pe_callB (cr_sortT rfl) (by rfl) hs (by decide +kernel) (pa_cons (pv 3) pa_nil))))))), ?_⟩
    refine ⟨abc, (congrArg (fun z => [V.str z]) abc_str), (by show 26 ≤ sizeLine; decide), fun r hr0 => ?_⟩
    have nrb : r ≠ b := hb.nb hr0
    have nrl : r ≠ lb := hb.nl hr0
    have hb1 := hb.new (o := .lst (abc.map sg)) hr0
    refine ⟨_, rfl, _, rfl, b, lb, n, rfl, by omega, by omega, hb1, fun m H1 m0 m1 kp1 hb2 => ?_⟩
    have hr2 : H1 r = some (.lst (abc.map sg)) := kp1 _ _ nrb upd_same
    refine ⟨_, _, rfl, rfl, _, rfl, by omega, by omega, ?_⟩
    have e1 : (1 + m).toNat = m.toNat + 1 := by omega
    refine for_range (n := (1 + m).toNat) (fun i σ H' => ∃ (acc rest : List Nat) (v : Option V), σ = [some (.ref b), some (.int n), some (.ref r), some (.str (S acc)), v] ∧ Kp b H H' ∧ Bag H' b lb ∧ H' r = some (.lst (rest.map sg)) ∧ acc.length = i ∧ (rest ++ acc).Perm abc) ?_ ?_ ?_
    · exact ⟨[], abc, none, rfl, (Kp.new hr0).trans kp1, hb2, hr2, rfl, by rw [List.append_nil]⟩
    · rintro i σ H' hi ⟨acc, rest, v, rfl, kp, hb3, hr3, hl, hp⟩
      have hlen : rest.length + acc.length = 26 := by
        have z := hp.length_eq
        rw [List.length_append] at z
        exact z
      have hml : (rest.map sg).length = rest.length := List.length_map ..
      have hi8 : i < 8 := by omega
      refine ⟨_, rfl, _, rfl, .inl ⟨rfl, _, SqL.of hr3⟩, _, rfl, _, rfl, r, _, rfl, .inl (SqL.of hr3), b, lb, _, rfl, by omega, by omega, hb3, fun v H2 v0 v1 kp2 hb4 => ?_⟩
      have hr4 : H2 r = some (.lst (rest.map sg)) := kp2 _ _ nrb hr3
      have hv : v.toNat < rest.length := by omega
      have hix : seqIndex? v (rest.map sg).length = some v.toNat := seqIx v0 (by omega)
      refine ⟨r, _, v, v.toNat, sg rest[v.toNat], rfl, rfl, hr4, by omega, by omega, hix, by rw [List.getElem?_map, List.getElem?_eq_getElem hv] <;> rfl, ?_⟩
      refine ⟨_, _, rfl, rfl, ?_, ?_⟩
      · show (S acc).length + 1 ≤ sizeLine
        rw [S_len]
        exact Nat.le_trans (by omega : acc.length + 1 ≤ 26) (by decide)
      · have es : S acc ++ (⟨#[rest[v.toNat]]⟩ : Str) = S (acc ++ [rest[v.toNat]]) := S_app acc [rest[v.toNat]]
        rw [es]
        refine ⟨acc ++ [rest[v.toNat]], rest.eraseIdx v.toNat, _, rfl, (kp.trans kp2).mut hr0, hb4.upd nrb nrl, ?_, by rw [List.length_append, hl] <;> rfl, ?_⟩
        · rw [upd_same, erase_map]
        · exact take_perm hv hp
    · rintro σ H' ⟨acc, rest, v, rfl, kp, hb3, hr3, hl, hp⟩
      refine ⟨⟨_, rfl⟩, _, rfl, acc, rfl, by omega, fun l' p hp1 hp2 hp0 => ?_⟩
      refine ⟨("" : Str), p, l'.map (fun c => (⟨#[c]⟩ : Str)), rfl, rfl, .inl ?_, ?_, ?_⟩
      · rw [map_one]
        exact SqL.of upd_same
      · exact join_size l' _ rfl (by rw [hp1.length_eq]; omega)
      · rw [join_sg]
        have nd : (rest ++ acc).Nodup := hp.nodup_iff.mpr abc_nodup
        have nda : l'.Nodup := hp1.nodup_iff.mpr (List.nodup_append.mp nd).2.1
        refine k l' _ (kp.trans (Kp.new hp0)) (hb3.new hp0) ⟨pw_lt hp2 nda, fun c hc => abc_mem (hp.mem_iff.mp (List.mem_append_right _ (hp1.mem_iff.mp hc))), by rw [hp1.length_eq]; omega, by rw [hp1.length_eq]; omega⟩
end
end Cl.K54
set_option Elab.async false
set_option linter.all false
set_option maxRecDepth 100000
set_option maxHeartbeats 4000000
namespace Cl.K54
open PySem PySem.Spec L2 PyProof.Rows
section
variable {P : Program} {w : World} {K : PySem.W.Frag} {mg : Str → Option Value} {base : Heap}
abbrev nVowels : List Str := ["_law_bag_here", "_law_letters_here", "_law_sign"]
theorem scVowels : FnScope nVowels ["_law_bag_here", "_law_letters_here"] (defScope sVowels) := ⟨rfl, rfl, rfl, by decide +kernel, rfl, by decide +kernel, by decide +kernel⟩
theorem ok_vowels {f fT : Addr} {fd fdT : FuncData} (F : Fun K "_law_vowels" "_law_vowels" sVowels f fd) (GT : FnOk P w K mg base CX0 1 fT fdT ["_law_bag_here", "_law_size"] spTake) (bT : Binds K fdT ["_law_bag_here", "_law_size"] [])
    (gT : mg "_law_take" = some (.ref fT)) (kT : PySem.W.keepIn K (.ref fT) = true) : FnOk P w K mg base CX0 2 f fd ["_law_bag_here", "_law_letters_here"] spVowels := by
  refine F.ok scVowels (fun vs H Q E h => ?_) (fun cdv A outer s H vs Q E hr h => ?_)
  · obtain ⟨b, lb, n, rfl, _⟩ := h
    rfl
  · obtain ⟨b, lb, l, rfl, hl, hb, k⟩ := h
    have hr1 : Room 1 _ := hr
    refine ⟨_, pss_one (ps_ret (pe_join pe_str (pe_lc (own := [("_law_sign", 2)]) (g := gName 2) (tt := tYes) (te := tOp (rIxL K) (tLst (tCons (tC (.str "")) (tCons (tVar 2) tNil))) (tCall spTake [] E0 (tCons (tVar 0) (tCons (tC (.int 2)) tNil)))) rfl scVowels.nd (pi_str (pv 1)) (blkOk_by (N := nVowels) (sc := defScope sVowels) (by decide +kernel)) (fun _ _ _ _ _ => pg_name (i := 2) scVowels.nd rfl (Or.inl rfl)) (fun _ _ _ _ _ => pts_nil)
      (fun _ _ _ _ _ => pe_ix ix_list (pe_lst (pa_cons pe_str (pa_cons (pv 2) pa_nil))) (pe_call GT hr1 rfl gT kT bT .nil pass0 (pa_cons (pv 0) (pa_cons pe_int pa_nil))) (fun _ _ => rfl))))), ?_⟩
    refine ⟨⟨_, rfl⟩, _, rfl, _, rfl, fun D hD => lc_it walk_str (fun i H' => Kp b H H' ∧ Bag H' b lb ∧ ∃ ys : List (List Nat), H' D = some (.lst (txs ys)) ∧ ys.length ≤ i ∧ ys.flatten.Sublist (l.take i)) ?_ (fun _ _ _ _ => trivial) ?_ ?_⟩
    · exact ⟨Kp.new hD, hb.new hD, [], upd_same, Nat.le_refl _, by simp⟩
    · rintro i x H1 H1' hi ⟨kp, hb1, ys, hy, hl1, hsub⟩ ⟨rfl, c, hc, rfl⟩
      have nDb := hb.nb hD
      have nDl := hb.nl hD
      have hc' := S_get hc
      rw [S_size] at hi
      refine ⟨rfl, ?_⟩
      refine ⟨_, rfl, (by show 2 ≤ sizeLine; decide), fun p hp => ?_⟩
      refine ⟨_, rfl, b, lb, 2, rfl, by decide, by decide, hb1.new hp, fun v H2 v0 v1 kp2 hb2 => ?_⟩
      have hp2 : H2 p = some (.lst [V.str ("" : Str), sg c]) := kp2 _ _ (hb1.nb hp) upd_same
      have nDp : D ≠ p := ne_of_none hy hp
      have hD2 : H2 D = some (.lst (txs ys)) := kp2 _ _ nDb (by rw [upd_ne nDp]; exact hy)
      have kq : Kp b H H2 := (kp.trans (Kp.new hp)).trans kp2
      have room : (txs ys).length < sizeLine := by
        unfold txs
        rw [List.length_map]
        exact Nat.lt_of_le_of_lt (by omega : ys.length ≤ 8) (by decide)
      rcases (by omega : v = 0 ∨ v = 1) with e | e
      · refine ⟨p, _, v, _, rfl, rfl, SqL.of hp2, at2_0 e, _, hD2, room, kq.mut hD, hb2.upd nDb nDl, ys ++ [[]], ?_, by simp; omega, ?_⟩
        · rw [upd_same]
          unfold txs
          rw [List.map_append]
          rfl
        · rw [List.flatten_append, take_snoc hc']
          simpa using hsub.trans (List.sublist_append_left _ _)
      · refine ⟨p, _, v, _, rfl, rfl, SqL.of hp2, at2_1 e, _, hD2, room, kq.mut hD, hb2.upd nDb nDl, ys ++ [[c]], ?_, by simp; omega, ?_⟩
        · rw [upd_same]
          unfold txs
          rw [List.map_append]
          rfl
        · rw [List.flatten_append, take_snoc hc']
          exact hsub.append (by simp)
    · rintro H1 ⟨kp, hb1, ys, hy, hl1, hsub⟩
      rw [S_size] at hl1 hsub
      rw [List.take_length] at hsub
      refine ⟨("" : Str), D, ys.map S, rfl, rfl, .inl ?_, join_room ys _ 0 (by decide) (by omega) (by have := hsub.length_le; omega), ?_⟩
      · rw [strs_map]
        exact SqL.of hy
      · rw [join_nil]
        exact k _ _ kp hb1 hsub
end
end Cl.K54
set_option Elab.async false
set_option linter.all false
set_option maxRecDepth 100000
set_option maxHeartbeats 4000000
/-! len(set(text)) -/
namespace Cl
open PySem PySem.Spec L2 PyProof.Rows

/-- the unlike ones of a list, each at its first place -/
def once1 (acc : List Str) (x : Str) : List Str := if x ∈ acc then acc else acc ++ [x]
def onceS (l : List Str) : List Str := l.foldl once1 []
theorem onceS_snoc (l : List Str) (x : Str) : onceS (l ++ [x]) = once1 (onceS l) x := by
  unfold onceS
  rw [List.foldl_append] <;> rfl
theorem onceS_le : ∀ (l : List Str) (acc : List Str), (l.foldl once1 acc).length ≤ acc.length + l.length
  | [], acc => by simp
  | x :: r, acc => by
    have h := onceS_le r (once1 acc x)
    have h2 : (once1 acc x).length ≤ acc.length + 1 := by
      unfold once1
      split <;> simp
    simp only [List.foldl_cons, List.length_cons]
    omega
theorem onceS_eq : ∀ (l : List Str) (acc : List Str), (l.foldl once1 acc).length = acc.length + l.length ↔ l.Nodup ∧ ∀ x ∈ l, x ∉ acc
  | [], acc => by simp
  | x :: r, acc => by
    simp only [List.foldl_cons, List.length_cons, List.nodup_cons]
    by_cases hx : x ∈ acc
    · have e : once1 acc x = acc := if_pos hx
      rw [e]
      have h := onceS_le r acc
      constructor
      · intro z
        omega
      · intro z
        exact absurd hx (z.2 x List.mem_cons_self)
    · have e : once1 acc x = acc ++ [x] := if_neg hx
      rw [e]
      have ih := onceS_eq r (acc ++ [x])
      rw [List.length_append, List.length_singleton] at ih
      rw [show acc.length + (r.length + 1) = acc.length + 1 + r.length by omega, ih]
      constructor
      · rintro ⟨h1, h2⟩
        refine ⟨⟨fun z => ?_, h1⟩, fun y hy => ?_⟩
        · exact h2 x z (by simp)
        · rcases List.mem_cons.mp hy with q | q
          · rw [q]
            exact hx
          · exact fun z => h2 y q (by simp [z])
      · rintro ⟨⟨h0, h1⟩, h2⟩
        refine ⟨h1, fun y hy z => ?_⟩
        rcases List.mem_append.mp z with q | q
        · exact h2 y (List.mem_cons_of_mem _ hy) q
        · rw [List.mem_singleton] at q
          exact h0 (q ▸ hy)
def ones (l : List Nat) : List Str := l.map fun c => (⟨#[c]⟩ : Str)
/-- how many unlike signs -/
def unlike (l : List Nat) : Nat := (onceS (ones l)).length
theorem unlike_le (l : List Nat) : unlike l ≤ l.length := by
  have h := onceS_le (ones l) []
  simpa [unlike, onceS, ones] using h
theorem ones_nodup (l : List Nat) : (ones l).Nodup ↔ l.Nodup := by
  unfold ones
  induction l with
  | nil => simp
  | cons c r ih =>
    rw [List.map_cons, List.nodup_cons, List.nodup_cons, ih]
    have : ((⟨#[c]⟩ : Str) ∈ r.map fun c => (⟨#[c]⟩ : Str)) ↔ c ∈ r := by
      rw [List.mem_map]
      constructor
      · rintro ⟨d, hd, e⟩
        have e2 := S_inj (a := [d]) (b := [c]) e
        cases e2
        exact hd
      · intro h
        exact ⟨c, h, rfl⟩
    rw [this]
theorem unlike_lt (l : List Nat) : decide (unlike l < l.length) = !decide l.Nodup := by
  have h := onceS_eq (ones l) []
  have h2 := unlike_le l
  have e : (ones l).length = l.length := by simp [ones]
  rw [e, ones_nodup] at h
  have h3 : unlike l = l.length ↔ l.Nodup := by
    constructor
    · intro z
      exact (h.mp (by show unlike l = _; simpa using z)).1
    · intro z
      have y : unlike l = _ := h.mpr ⟨z, fun x _ => by simp⟩
      simpa using y
  by_cases hn : l.Nodup
  · rw [decide_eq_true hn, decide_eq_false (by rw [h3.mpr hn]; omega)] <;> rfl
  · rw [decide_eq_false hn, decide_eq_true (by have : unlike l ≠ l.length := fun z => hn (h3.mp z); omega)] <;> rfl

section
variable {prog : Program} {w : World} {A : Around} {R : Result → Shared → Prop} {I : Addr} {fp wr : List Addr} {G : Array GenState → Array GenState → Prop} {St : Nat → Shared → Prop}
abbrev has (l : List Str) : Str → Bool := fun k => decide (k ∈ l)
theorem set_cong {h : Heap} {a : Addr} {T T' : Str → Bool} {n n' : Nat} (hS : h.SetOf (strKind prog w) a T n) (e : ∀ k, T k = T' k) (en : n = n') : h.SetOf (strKind prog w) a T' n' := by
  have e2 : T = T' := funext e
  subst e2
  subst en
  exact hS
/-- the signs go into the set, one behind another -/
theorem text_into_set {z : Str} (l : List Str) (el : l = ones z.cps.toList) (W : WalksS prog w A.in1 I fp wr G l.length (SignAt z) St) (T : Addr) (hT : T ∉ fp) (hb : l.length + 1 < scanBound) :
    ∀ (k i : Nat) (s : Shared), l.length - i = k → i ≤ l.length → St i s → s.heap.SetOf (strKind prog w) T (has (onceS (l.take i))) (onceS (l.take i)).length →
      (∀ s', Moved (T :: wr) G s s' → s'.heap.SetOf (strKind prog w) T (has (onceS l)) (onceS l).length → R (.ok (.ret .none)) s') →
      codeAny (model prog w) A (.builtin "set.update.loop" ⟨[.ref T, .ref I], []⟩) R s := by
  have hTw : T ∉ wr := fun h => hT (W.sub _ h)
  have sub : ∀ b ∈ wr, b ∈ T :: wr := fun b hb => List.mem_cons_of_mem _ hb
  have keepS : ∀ {s s' : Shared} {f : Str → Bool} {n : Nat}, s.heap.SetOf (strKind prog w) T f n → (∀ o, s.heap.get? T = some o → s'.heap.get? T = some o) → s'.heap.SetOf (strKind prog w) T f n := fun {s s' f n} hS k => by
    obtain ⟨o, es, ep, t, ho, r⟩ := hS
    exact ⟨o, es, ep, t, k o ho, r⟩
  intro k
  induction k with
  | zero =>
    intro i s hk hi hst hS hR
    have hin : i = l.length := by omega
    subst hin
    rw [List.take_length] at hS
    refine codeAny_builtin F.entry_set_update_loop ?_
    rw [Around.under_plainId F.plain_set_update_loop _]
    refine wpAny_bind (m := pyNext (.ref I)) (W.done s _ _ hst fun s' hm => ?_)
    exact wpAny_pure (hR s' (hm.mono sub) (keepS hS fun o e => hm.heap T o hTw e))
  | succ k ih =>
    intro i s hk hi hst hS hR
    have hlt : i < l.length := by omega
    refine codeAny_builtin F.entry_set_update_loop ?_
    rw [Around.under_plainId F.plain_set_update_loop _]
    refine wpAny_bind (m := pyNext (.ref I)) (W.item i s _ _ hlt hst fun v s1 hP hst1 hm => ?_)
    obtain ⟨c, u, hc, rfl⟩ := hP
    have hx : l[i]? = some (⟨#[c]⟩ : Str) := by
      rw [el]
      unfold ones
      rw [List.getElem?_map, Array.getElem?_toList, hc] <;> rfl
    have htake : l.take (i + 1) = l.take i ++ [(⟨#[c]⟩ : Str)] := by
      rw [List.take_succ, hx] <;> rfl
    have hS1 := keepS (s' := s1) hS fun o e => hm.heap T o hTw e
    refine wpAny_bind (m := holding [Value.str ⟨#[c]⟩ u] (setAdd T (.str ⟨#[c]⟩ u))) (wpAny_holding ?_)
    unfold setAdd
    refine wpAny_holding ?_
    have hkey : (strKind prog w).is (⟨#[c]⟩ : Str) (.str ⟨#[c]⟩ u) = true := by
      show Value.isStrOf (⟨#[c]⟩ : Str) (.str ⟨#[c]⟩ u) = true
      simp [Value.isStrOf]
    refine wpAny_bind ((strKind prog w).pyHash hkey ?_)
    have room : (onceS (l.take i)).length + 1 < scanBound := by
      have h1 := onceS_le (l.take i) []
      have h2 : (onceS (l.take i)).length ≤ (l.take i).length := by simpa [onceS] using h1
      rw [List.length_take] at h2
      omega
    refine wpAny_setAddHashed_of (knd := strKind prog w) (s := { s1 with toks := s1.toks + 1 }) hkey rfl hS1 room fun h' sb hS2 => ?_
    have hS3 : h'.SetOf (strKind prog w) T (has (onceS (l.take (i + 1)))) (onceS (l.take (i + 1))).length := by
      rw [htake, onceS_snoc]
      refine set_cong hS2 (fun k' => ?_) ?_
      · unfold once1 has
        by_cases hm : (⟨#[c]⟩ : Str) ∈ onceS (l.take i)
        · rw [if_pos hm]
          by_cases e : k' = ⟨#[c]⟩
          · subst e
            simp [hm]
          · simp [e]
        · rw [if_neg hm]
          simp
      · unfold once1 has
        by_cases hm : (⟨#[c]⟩ : Str) ∈ onceS (l.take i)
        · simp [hm]
        · simp [hm]
    refine wpAny_pure ⟨plainId_quiet F.plain_set_update_loop _, ih (i + 1) _ (by omega) hlt (W.frame _ s1 _ _ hst1 (Nat.le_succ _) fun b hb o e => ?_) hS3 fun s2 hm2 hS4 => ?_⟩
    · rw [sb.2 b fun h : b = T => hT (h ▸ hb)]
      exact e
    · refine hR s2 (Moved.trans W.gtrans ((hm.mono sub).then_heap (Nat.le_succ _) fun b o hb e => ?_) hm2) hS4
      rw [sb.2 b fun h : b = T => hb (by rw [h]; exact List.mem_cons_self)]
      exact e
end
end Cl
set_option Elab.async false
set_option linter.all false
set_option maxRecDepth 100000
set_option maxHeartbeats 4000000
namespace Cl
open PySem PySem.Spec L2 PyProof.Rows
theorem sub_str_set : isSubtype (.type "str") (.type "set") = pure false := by rw [isSubtype_type]; kernel_rfl
theorem sub_str_frozen : isSubtype (.type "str") (.type "frozenset") = pure false := by rw [isSubtype_type]; kernel_rfl
section
variable {prog : Program} {w : World} {A : Around} {E : Value → Shared → Prop} {s : Shared}
abbrev freshSet (led : Bool) : Obj := { cls := .type "set", dict := none, data := .set #[] 0 (.fresh 0 0 led) }
theorem set_of_text {x : Str} {t : Tok} {Q : Value → Shared → Prop} (hh : A.handled = none) (hb : x.cps.size + 1 < scanBound)
    (h : ∀ (h' : Heap) (tk : Nat), h'.SetOf (PySem.strKind prog w) s.heap.objs.size (has (onceS (ones x.cps.toList))) (onceS (ones x.cps.toList)).length →
      (∀ b o, b < s.heap.objs.size → s.heap.get? b = some o → h'.get? b = some o) → Q (.ref s.heap.objs.size) { s with heap := h', toks := tk }) :
    wpAny (model prog w) A (call (.type "set") [.str x t]) Q E s := by
  obtain ⟨c, tl, hmro⟩ := PySem.F.called_set.mro
  have f1 := PySem.F.called_set.made
  have f2 := PySem.F.called_set.sub
  refine wpAny_call (codeAny_of_tree ?_)
  show wpAny _ _ (callAny (.type "set") _) _ _ _
  refine wpAny_pure ⟨Code.quiet_builtin _ (by decide +kernel), codeAny_builtin PySem.F.entry_type_call ?_⟩
  rw [Around.under_plain (weight_type_call_type "set" [.str x t] []) rfl]
  have f3 := PySem.F.called_set.notType
  have f4 := PySem.F.called_set.canCreate
  have f5 := PySem.F.typeCall_set_1 (.str x t)
  repeat (any_goals (first | assumption | wp_step))
  refine codeAny_mono (code_set_new_1 (.str x t) (E := E) (Q₁ := fun obj s₁ => ∃ led : Bool, obj = .ref s.heap.objs.size ∧ s₁ = { s with heap := s.heap.push (freshSet led) }) fun led => ⟨led, rfl, rfl⟩) fun r s₁ hr => ?_
  cases r with
  | error e => exact hr
  | ok fl =>
    cases fl with
    | next => exact hr.elim
    | brk => exact hr.elim
    | cont => exact hr.elim
    | ret obj =>
      obtain ⟨led, rfl, rfl⟩ := hr
      have hS : (s.heap.push (freshSet led)).get? s.heap.objs.size = some (freshSet led) := Heap.get?_push_size _ rfl
      have hT : Shared.TypeIs { s with heap := s.heap.push (freshSet led) } (.ref s.heap.objs.size) "set" := ⟨_, hS, rfl⟩
      have g1 := PySem.F.called_set.init.lookup
      have g2 := PySem.F.called_set.init.bind (.ref s.heap.objs.size)
      repeat (any_goals (first | assumption | wp_step))
      refine codeAny_mono (codeAny_call_builtin (R := wants (fun r s₂ => r = .none ∧ ∃ h' tk, s₂ = { s with heap := h', toks := tk } ∧
          h'.SetOf (PySem.strKind prog w) s.heap.objs.size (has (onceS (ones x.cps.toList))) (onceS (ones x.cps.toList)).length ∧
          (∀ b o, b < s.heap.objs.size → s.heap.get? b = some o → h'.get? b = some o)) E) PySem.F.called_set.init.plain PySem.F.entry_set_init (check_set_init_1 hT ?_)) fun r₂ s₂ hr₂ => ?_
      · unfold Builtin.«set.__init__» noKeywords Builtin.Frozenset.updateFrom
        have k1 := sub_str_set
        have k2 := sub_str_frozen
        have k3 : (Value.type "str" == Value.type "dict") = false := by decide
        generalize hPI : pyIter = PI
        wp_walk
        subst hPI
        refine wpAny_pyIter_str fun o St W hst => ?_
        refine wpAny_bind (wpAny_runValue ?_)
        have hsz : (s.heap.push (freshSet led)).objs.size = s.heap.objs.size + 1 := Heap.size_push ..
        have hne : s.heap.objs.size ∉ [(s.heap.push (freshSet led)).objs.size] := fun z => by
          rw [List.mem_singleton, hsz] at z
          exact absurd z (Nat.ne_of_lt (Nat.lt_succ_self _))
        have ln : (ones x.cps.toList).length = x.cps.size := by simp [ones]
        refine text_into_set (z := x) (ones x.cps.toList) rfl (by rw [ln]; exact (W A.in1.in1.in1 (by simpa using hh)).toS) s.heap.objs.size hne (by rw [ln]; exact hb) _ 0 _ rfl (Nat.zero_le _) hst ?_ fun s' hm hS' => ?_
        · have hget : ((s.heap.push (freshSet led)).push o).get? s.heap.objs.size = some (freshSet led) := Heap.get?_push_of_some _ hS
          exact set_cong ((PyProof.Rows.setObjOf_fresh (knd := PySem.strKind prog w) led).setOf hget (by unfold scanBound; omega)) (fun _ => rfl) rfl
        · obtain ⟨h', g', d', tk', os'⟩ := s'
          obtain rfl : g' = s.gens := hm.gens
          obtain rfl : d' = s.drawn := hm.drawn
          obtain rfl : os' = s.os := hm.os
          refine wpAny_pure ?_
          show wpAny _ _ (ret Value.none) _ _ _
          refine wpAny_pure ⟨rfl, h', tk', rfl, hS', fun b o hb e => ?_⟩
          refine hm.heap b o (fun z => ?_) (Heap.get?_push_of_some _ (Heap.get?_push_of_some _ e))
          rcases List.mem_cons.mp z with z | z
          · exact absurd z (Nat.ne_of_lt hb)
          · rw [List.mem_singleton, hsz] at z
            exact absurd z (Nat.ne_of_lt (Nat.lt_succ_of_lt hb))
      · cases r₂ with
        | error e => exact hr₂
        | ok fl₂ =>
          cases fl₂ with
          | ret r =>
            obtain ⟨rfl, h', tk, rfl, hS', hk'⟩ := hr₂
            repeat (any_goals (first | assumption | wp_step))
            exact h _ _ hS' hk'
          | next => exact hr₂.elim
          | brk => exact hr₂.elim
          | cont => exact hr₂.elim
end
/-- len(set(e)), e a text -/
def tUnlike (te : TE) : TE := fun σ H Q => te σ H fun v H1 => ∃ l : List Nat, v = .str (S l) ∧ l.length ≤ 1000 ∧ Q (.int (unlike l : Nat)) H1
theorem pe_unlike {X : Cx} {a : Expr} {ta : TE} {p p2 q pos : Pos} (hc : X.calm = true) (hg : Gl X "len") (hm : X.mg "len" = none) (hg2 : Gl X "set") (hm2 : X.mg "set" = none) (ha : PE X a ta)
    (na : starEach [a] X.env = (false, eval a X.env) :: starEach [] X.env := by rfl) : PE X (.Call (.Name "len" p) [.Call (.Name "set" p2) [a] [] q] [] pos) (tUnlike ta) := by
  refine ⟨fun pins s σ H Q I h => ?_⟩
  refine Call_ (ld_blt I hg hm boot_len (PyProof.Rows.callWith_builtin1 (PyProof.Rows.args_cons ?_ rfl) rfl rfl))
  refine Call_ (ld_blt I hg2 hm2 boot_set (PyProof.Rows.callWith_type1 (PyProof.Rows.args_cons (thn (ha.run pins s σ H _ I h) fun v s1 ⟨x, H1, I1, r1, l, ex, hl, q1⟩ => PyProof.Rows.args_nil ?_) na) na rfl))
  subst ex
  obtain ⟨t, rfl⟩ := r1
  have hsz : (S l).cps.size = l.length := by simp [S]
  refine set_of_text (I1.ok.hd hc) (by rw [hsz]; unfold scanBound; omega) fun h' tk hS hk => ?_
  rw [S_cps] at hS
  refine PyProof.Rows.args_nil ?_
  obtain ⟨o, es, ep, t', ho, hex, hd, _, _, _, hf, hn⟩ := hS
  have I2 : Inv X pins σ H1 { s1 with heap := h', toks := tk } := I1.kept fun b o e => hk b o (Heap.lt_size e) e
  have hu := unlike_le l
  exact call_len_set ho hex hd hf (by rw [hn]; show ((unlike l : Nat) : Int) < _; omega) ⟨.int (unlike l : Nat), H1, I2.tok _, ⟨_, by rw [hn] <;> rfl⟩, q1⟩
end Cl
set_option Elab.async false
set_option linter.all false
set_option maxRecDepth 100000
set_option maxHeartbeats 4000000
/-! Comprehensions over a text whose parts change nothing; == by an own __eq__. -/
namespace Cl
open PySem PySem.Spec L2 PyProof.Rows

section
variable {l : List Nat} {f : Nat → V} {p : Nat → Bool} {σ : L2.St} {vs : List Nat} {i : Nat} {te : TE} {tt : TT} {D : Addr} {H1 : Hp} {Qd : Hp → Prop}
theorem lc_textIf (hl : l.length ≤ 1000) (hD : H1 D = none) (hw : ∀ c, wipe ((wipe σ vs).set i (some (sg c))) vs = wipe σ vs)
    (hp : ∀ c ∈ l, ∀ H', Same H1 H' → ∀ Q : Bool → Hp → Prop, Q (p c) H' → tt ((wipe σ vs).set i (some (sg c))) H' Q)
    (hf : ∀ c ∈ l, p c = true → ∀ H', Same H1 H' → ∀ Q : VK, Q (f c) H' → te ((wipe σ vs).set i (some (sg c))) H' Q)
    (hd : Qd (upd H1 D (.lst ((l.filter p).map f)))) :
    ∃ W : Nat → Nat → Hp → Prop, (∃ m, W 0 m (upd H1 D (.lst []))) ∧ ∀ k m H, W k m H →
      ((Its (S l)).stop k H ∧ Qd H) ∨ ((Its (S l)).go k H ∧ ∃ Nx : Hp → Prop, (∀ H', Nx H' → ∃ m', m' < m ∧ W (k + 1) m' H') ∧ ∀ x H', (Its (S l)).yld k H x H' → gName i x (wipe σ vs) H' fun σ2 H2 => wipe σ2 vs = wipe σ vs ∧ tt σ2 H2 fun b H3 =>
        if b = true then te σ2 H3 fun y H4 => ∃ acc, H4 D = some (.lst acc) ∧ acc.length < sizeLine ∧ Nx (upd H4 D (.lst (acc ++ [y]))) else Nx H3) := by
  refine lc_it walk_str (fun k H' => H' = upd H1 D (.lst (((l.take k).filter p).map f))) rfl (fun _ _ _ _ => trivial) ?_ ?_
  · rintro k x H H' hk rfl ⟨rfl, c, hc, rfl⟩
    have hc' := S_get hc
    have hm : c ∈ l := List.mem_of_getElem? hc'
    have hsame : Same H1 (upd H1 D (.lst (((l.take k).filter p).map f))) := same_new hD
    refine ⟨hw c, hp c hm _ hsame _ ?_⟩
    have et := take_snoc hc'
    cases hpc : p c with
    | true =>
      refine iteT (hf c hm hpc _ hsame _ ⟨_, upd_same, ?_, ?_⟩)
      · rw [List.length_map]
        have h1 := List.length_filter_le p (l.take k)
        have h2 : (l.take k).length ≤ l.length := List.length_take_le' ..
        exact Nat.lt_of_le_of_lt (by omega : _ ≤ 1000) (by decide)
      · rw [upd_upd, et, List.filter_append, List.map_append]
        simp [hpc]
    | false =>
      refine iteF ?_
      rw [et, List.filter_append]
      simp [hpc]
  · rintro H rfl
    rw [S_size, List.take_length]
    exact hd
theorem lc_text (hl : l.length ≤ 1000) (hD : H1 D = none) (hw : ∀ c, wipe ((wipe σ vs).set i (some (sg c))) vs = wipe σ vs)
    (hf : ∀ c ∈ l, ∀ H', Same H1 H' → ∀ Q : VK, Q (f c) H' → te ((wipe σ vs).set i (some (sg c))) H' Q) (hd : Qd (upd H1 D (.lst (l.map f)))) :
    ∃ W : Nat → Nat → Hp → Prop, (∃ m, W 0 m (upd H1 D (.lst []))) ∧ ∀ k m H, W k m H →
      ((Its (S l)).stop k H ∧ Qd H) ∨ ((Its (S l)).go k H ∧ ∃ Nx : Hp → Prop, (∀ H', Nx H' → ∃ m', m' < m ∧ W (k + 1) m' H') ∧ ∀ x H', (Its (S l)).yld k H x H' → gName i x (wipe σ vs) H' fun σ2 H2 => wipe σ2 vs = wipe σ vs ∧ tYes σ2 H2 fun b H3 =>
        if b = true then te σ2 H3 fun y H4 => ∃ acc, H4 D = some (.lst acc) ∧ acc.length < sizeLine ∧ Nx (upd H4 D (.lst (acc ++ [y]))) else Nx H3) :=
  lc_textIf (p := fun _ => true) (f := f) hl hD hw (fun _ _ _ _ _ q => q) (fun c hc _ H' e Q q => hf c hc H' e Q q) (by rw [List.filter_eq_self.mpr fun _ _ => rfl]; exact hd)
end

/-! ### x == y by an own __eq__ -/
def rEqI (C : Addr) (sp : Sp) (E : XK) : R2 := fun x y H Q => ∃ a b dx dy fs gs, x = .ref a ∧ y = .ref b ∧ H a = some (.ins C dx fs) ∧ H b = some (.ins C dy gs) ∧ sp [.ref a, .ref b] H (fun v H' => ∃ k, v = .bl k ∧ Q (.bl k) H') E
theorem op_eqI {X : Cx} {CX : CXT} {n : Nat} {C f : Addr} {fd : FuncData} {ps : List Str} {sp : Sp} {E : XK} (F : FnOk X.prog X.w X.K X.mg X.base CX n f fd ps sp) (hr : Room n X.A)
    (hs : PySem.W.findIn X.K (.ref C) "__eq__" = some (some (.ref f))) (hf : PySem.W.isFn X.K (.ref f) = true) (hb : Binds X.K fd ps []) (hx : Passes CX X E) : OpR X (compareOp .Eq) (rEqI C sp E) := by
  intro pins s σ H x y v u Q I rx ry h
  obtain ⟨a, b, dx, dy, fs, gs, rfl, rfl, ha, hb', hsp⟩ := h
  cases rx
  cases ry
  obtain ⟨mA, J, _⟩ := ins_get I.hok ha
  obtain ⟨mB, J', _⟩ := ins_get I.hok hb'
  obtain ⟨od, J, _⟩ := J.look
  obtain ⟨od', J', _⟩ := J'.look
  obtain ⟨m, hF⟩ := I.fr
  show wpAny (model X.prog X.w) X.A (richCompare .Eq (.ref a) (.ref b)) (EP X pins σ Q) X.xe s
  refine PySem.W.cmp_K (op := .Eq) (tb := .ref C) hr.units0 hF I.ok.mod.kin J J'.type (by simp [PySem.W.notFirst]) hs hf ?_
  have q := run_fn (us := [.ref a, .ref b]) (vs := [.ref a, .ref b]) (dvs := []) F hr hb .nil hx I (.cons rfl (.cons rfl .nil)) (show sp ([V.ref a, V.ref b] ++ []) H _ E from hsp)
  refine thn q fun r s' hr' => ?_
  obtain ⟨z, H', I', rz, k, ez, q'⟩ := hr'
  subst ez
  cases rz
  exact ⟨.bl k, H', I', rfl, q'⟩

/-! ### the alphabet -/
/-- an alphabet's attributes: its letters, its vowels -/
def af (l v : List Nat) : List (Str × V) := [("letters", .str (S l)), ("vowels", .str (S v)), ("consonants", .str (S (l.filter (· ∉ v)))), ("signs", .str (S (45 :: l)))]
/-- at p an alphabet of these letters and vowels -/
def AlphaAt (C : Addr) (H : Hp) (p : Addr) (l v : List Nat) : Prop := ∃ dx, H p = some (.ins C dx (af l v))
theorem af_letters (l v : List Nat) : (af l v).lookup ("letters" : Str) = some (.str (S l)) := rfl
theorem af_vowels (l v : List Nat) : (af l v).lookup ("vowels" : Str) = some (.str (S v)) := rfl
theorem af_cons (l v : List Nat) : (af l v).lookup ("consonants" : Str) = some (.str (S (l.filter (· ∉ v)))) := rfl
theorem af_signs (l v : List Nat) : (af l v).lookup ("signs" : Str) = some (.str (S (45 :: l))) := rfl
theorem AlphaAt.same {C p : Addr} {H H' : Hp} {l v : List Nat} (a : AlphaAt C H p l v) (s : Same H H') : AlphaAt C H' p l v := let ⟨dx, h⟩ := a; ⟨dx, s _ _ h⟩
theorem AlphaAt.kp {C p b : Addr} {H H' : Hp} {l v : List Nat} (a : AlphaAt C H p l v) (k : Kp b H H') (n : p ≠ b) : AlphaAt C H' p l v := let ⟨dx, h⟩ := a; ⟨dx, k _ _ n h⟩

def spTwice : Sp := fun vs H Q _ => ∃ l : List Nat, vs = [.str (S l)] ∧ l.length ≤ 1000 ∧ ∀ H', Same H H' → Q (.bl (!decide l.Nodup)) H'
def spOrder : Sp := fun vs H Q _ => ∃ l : List Nat, vs = [.str (S l)] ∧ l.length < 64 ∧ ∀ (l' : List Nat) (H' : Hp), Same H H' → l'.Perm l → l'.Pairwise (· ≤ ·) → Q (.str (S l')) H'
/-- from a to z -/
def az (c : Nat) : Bool := decide (97 ≤ c) && decide (c ≤ 122)
def isLets (l : List Nat) : Bool := decide (1 ≤ l.length) && decide (l.length ≤ 8) && decide l.Nodup && l.all az
def spAreLetters (C : Addr) : Sp := fun vs H Q _ => ∃ (p dx : Addr) (fs : List (Str × V)) (l : List Nat), vs = [.ref p, .str (S l)] ∧ H p = some (.ins C dx fs) ∧ fs.lookup ("MOST" : Str) = none ∧ l.length ≤ 1000 ∧ ∀ H', Same H H' → Q (.bl (isLets l)) H'
def spIsWord (C : Addr) : Sp := fun vs H Q _ => ∃ (p : Addr) (l v t : List Nat), vs = [.ref p, .str (S t)] ∧ AlphaAt C H p l v ∧ t.length ≤ 1000 ∧ ∀ H', Same H H' → Q (.bl (t.all fun c => decide (c ∈ 45 :: l))) H'
/-- signs that make a listed set -/
def isList (l x : List Nat) : Bool := decide (x ≠ []) && x.all (fun c => decide (c ∈ 45 :: l)) && decide (x.Pairwise (· < ·))
def spListed (C : Addr) : Sp := fun vs H Q _ => ∃ (p : Addr) (l v t : List Nat), vs = [.ref p, .str (S t)] ∧ AlphaAt C H p l v ∧ t.length < 64 ∧ ∀ H', Same H H' → Q (.bl (isList l t)) H'
/-- C(a, u) with letters and vowels that make an alphabet: l and v are theirs in order -/
def spInitA (C : Addr) : Sp := fun vs H Q _ => ∃ (p dx : Addr) (a u l v : List Nat), vs = [.ref p, .str (S a), .str (S u)] ∧ H p = some (.ins C dx []) ∧ Lets l 8 ∧ v.Sublist l ∧ a.Perm l ∧ u.Perm v ∧
  ∀ H', Kp p H H' → AlphaAt C H' p l v → Q .non H'
structure ATxt (K : PySem.W.Frag) (mg : Str → Option Value) (C : Addr) : Prop where
  cl : Cls K C
  nL : NoAttr K C "letters"
  nV : NoAttr K C "vowels"
  nC : NoAttr K C "consonants"
  nS : NoAttr K C "signs"
  cJ : ∃ u, Con K C "JOINT" (.str (S [45])) u
  cM : ∃ u, Con K C "MOST" (.int 8) u
  mgC : mg "Alphabet" = some (.ref C)
theorem sorted_eq {t t' : List Nat} (p : t'.Perm t) (h : t'.Pairwise (· ≤ ·)) : t = t' ↔ t.Pairwise (· ≤ ·) :=
  ⟨fun e => by rw [e]; exact h, fun q => List.Perm.eq_of_pairwise (le := (· ≤ ·)) (fun _ _ _ _ => Nat.le_antisymm) q h p.symm⟩
theorem vs_eq (a b : List Nat) : decide (V.str (S a) = V.str (S b)) = decide (a = b) :=
  decide_eq_decide.mpr ⟨fun h => by injection h with h; exact S_inj h, fun h => by rw [h]⟩
theorem lt_le_nodup (t : List Nat) : t.Pairwise (· < ·) ↔ t.Pairwise (· ≤ ·) ∧ t.Nodup := by
  constructor
  · intro h
    exact ⟨h.imp fun z => Nat.le_of_lt z, h.imp fun z => Nat.ne_of_lt z⟩
  · rintro ⟨h1, h2⟩
    exact pw_lt h1 h2
theorem le_S {n : Nat} {l : List Nat} (h : l.length ≤ n) (hn : n ≤ 16777216 := by decide) : (S l).length ≤ sizeLine := by
  rw [S_len, sizeLine_eq]
  omega
theorem az_lo (c : Nat) : (!decide ((⟨#[c]⟩ : Str).cps.toList < ("a" : Str).cps.toList)) = decide (97 ≤ c) := by
  show (!decide ([c] < [97])) = decide (97 ≤ c)
  rw [show decide ([c] < [97]) = decide (c < 97) from decide_eq_decide.mpr (by rw [List.cons_lt_cons_iff]; simp)]
  by_cases h : c < 97
  · rw [decide_eq_true h, decide_eq_false (by omega)] <;> rfl
  · rw [decide_eq_false h, decide_eq_true (by omega)] <;> rfl
theorem az_hi (c : Nat) : (!decide (("z" : Str).cps.toList < (⟨#[c]⟩ : Str).cps.toList)) = decide (c ≤ 122) := by
  show (!decide ([122] < [c])) = decide (c ≤ 122)
  rw [show decide ([122] < [c]) = decide (122 < c) from decide_eq_decide.mpr (by rw [List.cons_lt_cons_iff]; simp)]
  by_cases h : 122 < c
  · rw [decide_eq_true h, decide_eq_false (by omega)] <;> rfl
  · rw [decide_eq_false h, decide_eq_true (by omega)] <;> rfl
end Cl
set_option Elab.async false
set_option linter.all false
set_option maxRecDepth 100000
set_option maxHeartbeats 4000000
namespace Cl.K54
open PySem PySem.Spec L2 PyProof.Rows
abbrev sTwice : Stmt := top 12
abbrev sOrder : Stmt := top 13
abbrev sInitA : Stmt := inClass (top 14) 2
abbrev sEqA : Stmt := inClass (top 14) 3
abbrev sMembers : Stmt := inClass (top 14) 4
abbrev sIsWord : Stmt := inClass (top 14) 5
abbrev sAreLetters : Stmt := inClass (top 14) 6
abbrev sListed : Stmt := inClass (top 14) 7
section
variable {P : Program} {w : World} {K : PySem.W.Frag} {mg : Str → Option Value} {base : Heap} {C : Addr}
theorem scTwice : FnScope ["text"] ["text"] (defScope sTwice) := ⟨rfl, rfl, rfl, by decide +kernel, rfl, by decide +kernel, by decide +kernel⟩
theorem ok_twice {f : Addr} {fd : FuncData} (F : Fun K "_has_twice" "_has_twice" sTwice f fd) (hn : mg "len" = none) (hs : mg "set" = none) : FnOk P w K mg base CX0 1 f fd ["text"] spTwice := by
  refine F.ok scTwice (fun vs H Q E h => ?_) (fun cdv A outer s H vs Q E hr h => ?_)
  · obtain ⟨l, rfl, _⟩ := h
    rfl
  · obtain ⟨l, rfl, hl, k⟩ := h
    refine ⟨_, pss_one (ps_ret (pe_cmpR op_lt (pe_unlike rfl (by rfl) hn (by rfl) hs (pv 0)) (pe_callB call_len_str (by rfl) hn PySem.boot_len (pa_cons (pv 0) pa_nil)) (nomark _))), ?_⟩
    refine ⟨_, rfl, l, rfl, hl, _, rfl, _, rfl, by rw [S_len]; exact Nat.le_trans hl (by decide), _, _, rfl, rfl, ?_⟩
    have e : decide (((unlike l : Nat) : Int) < ((S l).length : Nat)) = !decide l.Nodup := by
      rw [← unlike_lt, S_len]
      exact decide_eq_decide.mpr (by omega)
    show Q (.bl (decide (((unlike l : Nat) : Int) < ((S l).length : Nat)))) H
    rw [e]
    exact k _ (Same.refl _)
theorem scOrder : FnScope ["text"] ["text"] (defScope sOrder) := ⟨rfl, rfl, rfl, by decide +kernel, rfl, by decide +kernel, by decide +kernel⟩
theorem ok_order {f : Addr} {fd : FuncData} (F : Fun K "_in_order" "_in_order" sOrder f fd) (hs : mg "sorted" = none) : FnOk P w K mg base CX0 1 f fd ["text"] spOrder := by
  refine F.ok scOrder (fun vs H Q E h => ?_) (fun cdv A outer s H vs Q E hr h => ?_)
  · obtain ⟨l, rfl, _⟩ := h
    rfl
  · obtain ⟨l, rfl, hl, k⟩ := h
    refine ⟨_, pss_one (ps_ret (pe_join pe_str (pe_callB (cr_sortT rfl) (by rfl) hs (by decide +kernel) (pa_cons (pv 0) pa_nil)))), ?_⟩
    refine ⟨⟨_, rfl⟩, _, rfl, l, rfl, hl, fun l' p hp1 hp2 hp0 => ?_⟩
    refine ⟨("" : Str), p, l'.map (fun c => (⟨#[c]⟩ : Str)), rfl, rfl, .inl ?_, join_size l' _ rfl (by rw [hp1.length_eq]; omega), ?_⟩
    · rw [map_one]
      exact SqL.of upd_same
    · rw [join_sg]
      exact k l' _ (same_new hp0) hp1 hp2
theorem scIsWord : FnScope ["self", "text", "sign"] ["self", "text"] (defScope sIsWord) := ⟨rfl, rfl, rfl, by decide +kernel, rfl, by decide +kernel, by decide +kernel⟩
theorem ok_isword {f : Addr} {fd : FuncData} (F : Fun K "is_word" "Alphabet.is_word" sIsWord f fd) (T : ATxt K mg C) (ha : mg "all" = none) : FnOk P w K mg base CX0 1 f fd ["self", "text"] (spIsWord C) := by
  refine F.ok scIsWord (fun vs H Q E h => ?_) (fun cdv A outer s H vs Q E hr h => ?_)
  · obtain ⟨p, l, v, t, rfl, _⟩ := h
    rfl
  · obtain ⟨p, l, v, t, rfl, ⟨dx, hp⟩, ht, k⟩ := h
    refine ⟨_, pss_one (ps_ret (pe_callB (cr_all rfl) (by rfl) ha (by decide +kernel) (pa_cons (pe_lc (own := [("sign", 2)]) (g := gName 2) (tt := tYes) (te := tOp rInS (tVar 2) (tFld K (tVar 0) "signs")) rfl scIsWord.nd (pi_str (pv 1)) (blkOk_by (N := ["self", "text", "sign"]) (sc := defScope sIsWord) (by decide +kernel)) (fun _ _ _ _ _ => pg_name (i := 2) scIsWord.nd rfl (Or.inl rfl)) (fun _ _ _ _ _ => pts_nil)
      (fun _ _ _ _ _ => pe_cmpR op_inS (pv 2) (pe_fld (pv 0) rfl) rfl)) pa_nil))), ?_⟩
    refine ⟨_, rfl, _, rfl, fun D hD => lc_text (f := fun c => .bl (decide (c ∈ 45 :: l))) ht hD (fun _ => rfl) (fun c _ H' e Q q => ?_) ?_⟩
    · refine ⟨_, rfl, _, rfl, p, C, dx, _, _, rfl, e _ _ hp, T.cl, T.nS, af_signs l v, c, _, rfl, rfl, ?_⟩
      rw [S_cps]
      exact q
    · refine ⟨D, t.map fun c => decide (c ∈ 45 :: l), rfl, ?_, ?_⟩
      · rw [List.map_map]
        exact SqL.of upd_same
      · rw [List.all_map]
        exact k _ (same_new hD)
end
end Cl.K54
set_option Elab.async false
set_option linter.all false
set_option maxRecDepth 100000
set_option maxHeartbeats 4000000
namespace Cl.K54
open PySem PySem.Spec L2 PyProof.Rows
section
variable {P : Program} {w : World} {K : PySem.W.Frag} {mg : Str → Option Value} {base : Heap} {C : Addr}
theorem scAre : FnScope ["self", "letters", "letter"] ["self", "letters"] (defScope sAreLetters) := ⟨rfl, rfl, rfl, by decide +kernel, rfl, by decide +kernel, by decide +kernel⟩
theorem ok_are {f fT : Addr} {fd fdT : FuncData} (F : Fun K "_are_letters" "Alphabet._are_letters" sAreLetters f fd) (T : ATxt K mg C) (GT : FnOk P w K mg base CX0 1 fT fdT ["text"] spTwice) (bT : Binds K fdT ["text"] []) (gT : mg "_has_twice" = some (.ref fT)) (kT : PySem.W.keepIn K (.ref fT) = true)
    (hi : mg "isinstance" = none) (hS : mg "str" = none) (hn : mg "len" = none) (ha : mg "all" = none) : FnOk P w K mg base CX0 2 f fd ["self", "letters"] (spAreLetters C) := by
  refine F.ok scAre (fun vs H Q E h => ?_) (fun cdv A outer s H vs Q E hr h => ?_)
  · obtain ⟨p, dx, fs, l, rfl, _⟩ := h
    rfl
  · obtain ⟨p, dx, fs, l, rfl, hp, hno, hl, k⟩ := h
    obtain ⟨uM, cM⟩ := T.cM
    have hr1 : Room 1 _ := hr
    refine ⟨_, pss_cons (ps_if (PW.pt (pw_or (pt_not (pt_val (pe_callB call_isi (by rfl) hi (by decide +kernel) (pa_cons (pv 1) (pa_cons (pe_bltn (v := .ty "str") (by rfl) hS (by decide +kernel) rfl) pa_nil)))))
        (pw_or1 (pt_not (pt_chain op_le op_le pe_int (pe_callB call_len_str (by rfl) hn PySem.boot_len (pa_cons (pv 1) pa_nil)) (pe_con (pv 0) rfl)))))) (pss_one (ps_ret pe_bl)) pss_nil)
      (pss_one (ps_ret (pe_and (pe_not (pe_call GT hr1 rfl gT kT bT .nil pass0 (pa_cons (pv 1) pa_nil)))
        (pe_one (pe_callB (cr_all rfl) (by rfl) ha (by decide +kernel) (pa_cons (pe_lc (own := [("letter", 2)]) (g := gName 2) (tt := tYes) rfl scAre.nd (pi_str (pv 1)) (blkOk_by (N := ["self", "letters", "letter"]) (sc := defScope sAreLetters) (by decide +kernel)) (fun _ _ _ _ _ => pg_name (i := 2) scAre.nd rfl (Or.inl rfl)) (fun _ _ _ _ _ => pts_nil)
          (fun _ _ _ _ _ => pe_chain op_le_str op_le_str pe_str (pv 2) pe_str)) pa_nil)))))), ?_⟩
    refine ⟨_, rfl, _, _, _, _, true, rfl, .ty "str", .base (.str _), rfl, true, rfl, ?_⟩
    refine ⟨_, rfl, _, rfl, le_S hl, _, _, rfl, rfl, _, rfl, ?_⟩
    rw [S_len]
    refine ite2 (fun h1 => ?_) (fun h1 => ?_)
    · have h1' := of_decide_eq_true h1
      refine ⟨_, rfl, p, C, dx, fs, _, uM, rfl, hp, T.cl, cM, hno, _, _, rfl, rfl, _, rfl, ?_⟩
      refine ite2 (fun h2 => ?_) (fun h2 => ?_)
      · have e : isLets l = false := by
          have h2' : (decide (l.length ≤ 8)) = false := by
            have z : (!decide (((l.length : Nat) : Int) ≤ 8)) = true := h2
            rw [Bool.not_eq_true'] at z
            exact decide_eq_false fun y => of_decide_eq_false z (by omega)
          unfold isLets
          rw [h2', Bool.and_false] <;> rfl
        show Q (.bl false) H
        rw [← e]
        exact k _ (Same.refl _)
      · have h8 : l.length ≤ 8 := by
          have z : ¬ (!decide (((l.length : Nat) : Int) ≤ 8)) = true := h2
          simp at z
          omega
        have e1 : isLets l = (decide l.Nodup && l.all az) := by
          unfold isLets
          rw [decide_eq_true (by omega : 1 ≤ l.length), decide_eq_true h8] <;> rfl
        refine ⟨_, rfl, l, rfl, hl, fun H1 s1 => ⟨_, rfl, _, rfl, ?_⟩⟩
        refine ite2 (fun h3 => ?_) (fun h3 => ?_)
        · refine ⟨_, rfl, _, rfl, fun D hD => lc_text (f := fun c => .bl (az c)) hl hD (fun _ => rfl) (fun c _ H' e Q q => ?_) ?_⟩
          · refine ⟨_, rfl, _, _, rfl, rfl, _, rfl, ?_⟩
            rw [az_lo]
            refine ite2 (fun y => ?_) (fun y => ?_)
            · refine ⟨_, _, rfl, rfl, ?_⟩
              rw [az_hi]
              have ec : az c = decide (c ≤ 122) := by
                unfold az
                rw [y] <;> rfl
              rw [← ec]
              exact q
            · have ec : az c = false := by
                unfold az
                rw [Bool.not_eq_true] at y
                rw [y] <;> rfl
              rw [← ec]
              exact q
          · refine ⟨D, l.map az, rfl, ?_, ?_⟩
            · rw [List.map_map]
              exact SqL.of upd_same
            · rw [List.all_map]
              have nd : decide l.Nodup = true := by simpa using h3
              have z := k _ (s1.trans (same_new (o := .lst (l.map fun c => V.bl (az c))) hD))
              rw [e1, nd] at z
              exact z
        · have nd : decide l.Nodup = false := by simpa using h3
          have z := k _ s1
          rw [e1, nd] at z
          exact z
    · have e : isLets l = false := by
        have h1' : decide (1 ≤ l.length) = false := decide_eq_false fun y => h1 (decide_eq_true (by omega))
        unfold isLets
        rw [h1'] <;> rfl
      refine ⟨_, rfl, ?_⟩
      show Q (.bl false) H
      rw [← e]
      exact k _ (Same.refl _)
end
end Cl.K54
set_option Elab.async false
set_option linter.all false
set_option maxRecDepth 100000
set_option maxHeartbeats 4000000
namespace Cl.K54
open PySem PySem.Spec L2 PyProof.Rows
section
variable {P : Program} {w : World} {K : PySem.W.Frag} {mg : Str → Option Value} {base : Heap} {C : Addr}
theorem scListed : FnScope ["self", "signs"] ["self", "signs"] (defScope sListed) := ⟨rfl, rfl, rfl, by decide +kernel, rfl, by decide +kernel, by decide +kernel⟩
theorem ok_listed {f fT fO fI : Addr} {fd fdT fdO fdI : FuncData} (F : Fun K "_can_be_listed" "Alphabet._can_be_listed" sListed f fd) (T : ATxt K mg C)
    (GT : FnOk P w K mg base CX0 1 fT fdT ["text"] spTwice) (bT : Binds K fdT ["text"] []) (gT : mg "_has_twice" = some (.ref fT)) (kT : PySem.W.keepIn K (.ref fT) = true)
    (GO : FnOk P w K mg base CX0 1 fO fdO ["text"] spOrder) (bO : Binds K fdO ["text"] []) (gO : mg "_in_order" = some (.ref fO)) (kO : PySem.W.keepIn K (.ref fO) = true)
    (GI : FnOk P w K mg base CX0 1 fI fdI ["self", "text"] (spIsWord C)) (bI : Binds K fdI ["self", "text"] []) (mI : Meth K C "is_word" fI) : FnOk P w K mg base CX0 2 f fd ["self", "signs"] (spListed C) := by
  refine F.ok scListed (fun vs H Q E h => ?_) (fun cdv A outer s H vs Q E hr h => ?_)
  · obtain ⟨p, l, v, t, rfl, _⟩ := h
    rfl
  · obtain ⟨p, l, v, t, rfl, ⟨dx, hp⟩, ht, k⟩ := h
    have hr1 : Room 1 _ := hr
    refine ⟨_, pss_one (ps_ret (pe_and (pe_cmpR op_ne (pv 1) pe_str (nomark _)) (pe_and (pe_meth (pv 0) T.cl mI GI hr1 bI .nil pass0 (pa_cons (pv 1) pa_nil))
      (pe_and (pe_cmpR op_eq (pv 1) (pe_call GO hr1 rfl gO kO bO .nil pass0 (pa_cons (pv 1) pa_nil)) (nomark _)) (pe_one (pe_not (pe_call GT hr1 rfl gT kT bT .nil pass0 (pa_cons (pv 1) pa_nil)))))))), ?_⟩
    refine ⟨_, rfl, rfl, _, rfl, ?_⟩
    have h0 : (!decide (V.str (S t) = V.str ("" : Str))) = decide (t ≠ []) := by
      rw [show decide (V.str (S t) = V.str ("" : Str)) = decide (t = []) from vs_eq t []]
      by_cases e : t = []
      · simp [e]
      · simp [e]
    rw [h0]
    have fin : ∀ (x : Bool) (H' : Hp), Same H H' → isList l t = x → Q (.bl x) H' := fun x H' s e => e ▸ k H' s
    refine ite2 (fun h1 => ?_) (fun h1 => ?_)
    · refine ⟨_, rfl, p, dx, _, rfl, hp, rfl, _, rfl, p, l, v, t, rfl, ⟨dx, hp⟩, by omega, fun H1 s1 => ⟨_, rfl, ?_⟩⟩
      refine ite2 (fun h2 => ?_) (fun h2 => ?_)
      · refine ⟨_, rfl, _, rfl, t, rfl, ht, fun t' H2 s2 hp1 hp2 => ⟨rfl, _, rfl, ?_⟩⟩
        rw [vs_eq, decide_eq_decide.mpr (sorted_eq hp1 hp2)]
        refine ite2 (fun h3 => ?_) (fun h3 => ?_)
        · refine ⟨_, rfl, t, rfl, by omega, fun H3 s3 => ⟨_, rfl, ?_⟩⟩
          refine fin _ _ ((s1.trans s2).trans s3) ?_
          unfold isList
          rw [h1, h2, Bool.true_and, Bool.true_and, Bool.not_not]
          exact decide_eq_decide.mpr ((lt_le_nodup t).trans ⟨fun z => z.2, fun z => ⟨of_decide_eq_true h3, z⟩⟩)
        · refine fin false _ (s1.trans s2) ?_
          unfold isList
          rw [decide_eq_false fun z => h3 (decide_eq_true ((lt_le_nodup t).mp z).1), Bool.and_false]
      · refine fin false _ s1 ?_
        unfold isList
        rw [Bool.not_eq_true] at h2
        rw [h2, Bool.and_false] <;> rfl
    · refine fin false _ (Same.refl _) ?_
      unfold isList
      rw [Bool.not_eq_true] at h1
      rw [h1] <;> rfl
end
end Cl.K54
set_option Elab.async false
set_option linter.all false
set_option maxRecDepth 100000
set_option maxHeartbeats 4000000
namespace Cl.K54
open PySem PySem.Spec L2 PyProof.Rows
section
variable {P : Program} {w : World} {K : PySem.W.Frag} {mg : Str → Option Value} {base : Heap} {C : Addr}
abbrev nInitA : List Str := ["self", "letters", "vowels", "vowel", "letter"]
theorem scInitA : FnScope nInitA ["self", "letters", "vowels"] (defScope sInitA) := ⟨rfl, rfl, rfl, by decide +kernel, rfl, by decide +kernel, by decide +kernel⟩
theorem ok_initA {f fT fO fA : Addr} {fd fdT fdO fdA : FuncData} (F : FunD K "__init__" "Alphabet.__init__" (defArgs sInitA) (defBody sInitA) (defScope sInitA) [.str (S [])] [] f fd) (T : ATxt K mg C)
    (GT : FnOk P w K mg base CX0 1 fT fdT ["text"] spTwice) (bT : Binds K fdT ["text"] []) (gT : mg "_has_twice" = some (.ref fT)) (kT : PySem.W.keepIn K (.ref fT) = true)
    (GO : FnOk P w K mg base CX0 1 fO fdO ["text"] spOrder) (bO : Binds K fdO ["text"] []) (gO : mg "_in_order" = some (.ref fO)) (kO : PySem.W.keepIn K (.ref fO) = true)
    (GA : FnOk P w K mg base CX0 2 fA fdA ["self", "letters"] (spAreLetters C)) (bA : Binds K fdA ["self", "letters"] []) (mA : Meth K C "_are_letters" fA) (ha : mg "all" = none) : FnOk P w K mg base CX0 3 f fd ["self", "letters", "vowels"] (spInitA C) := by
  refine F.ok scInitA (fun vs H Q E h => ?_) (fun cdv A outer s H vs Q E hr h => ?_)
  · obtain ⟨p, dx, a, u, l, v, rfl, _⟩ := h
    rfl
  · obtain ⟨p, dx, a, u, l, v, rfl, hp, hL, hv, pa, pu, k⟩ := h
    have hr1 : Room 1 _ := hr.mono (by decide)
    obtain ⟨uJ, cJ⟩ := T.cJ
    refine ⟨_, PSs.nox (pss_cons (ps_if (pt_not (pt_val (pe_meth (pv 0) T.cl mA GA hr bA .nil pass0 (pa_cons (pv 1) pa_nil)))) (pss_one ps_never) pss_nil)
      (pss_cons (ps_if (PW.pt (pw_or (pt_val (pe_call GT hr1 rfl gT kT bT .nil pass0 (pa_cons (pv 2) pa_nil))) (pw_or1 (pt_not (pt_val (pe_callB (cr_all rfl) (by rfl) ha (by decide +kernel) (pa_cons
          (pe_lc (own := [("vowel", 3)]) (g := gName 3) (tt := tYes) (te := tOp rInS (tVar 3) (tVar 1)) rfl scInitA.nd (pi_str (pv 2)) (blkOk_by (N := nInitA) (sc := defScope sInitA) (by decide +kernel)) (fun _ _ _ _ _ => pg_name (i := 3) scInitA.nd rfl (Or.inl rfl)) (fun _ _ _ _ _ => pts_nil)
            (fun _ _ _ _ _ => pe_cmpR op_inS (pv 3) (pv 1) rfl)) pa_nil))))))) (pss_one ps_never) pss_nil)
      (pss_cons (ps_fld (pv 0) (pe_call GO hr1 rfl gO kO bO .nil pass0 (pa_cons (pv 1) pa_nil)) rfl)
      (pss_cons (ps_fld (pv 0) (pe_call GO hr1 rfl gO kO bO .nil pass0 (pa_cons (pv 2) pa_nil)) rfl)
      (pss_cons (ps_fld (pv 0) (pe_join pe_str (pe_lc (own := [("letter", 4)]) (g := gName 4) (tt := tTest (tOp rNotInS (tVar 4) (tVar 2))) (te := tVar 4) rfl scInitA.nd (pi_str (pe_fld (pv 0) rfl)) (blkOk_by (N := nInitA) (sc := defScope sInitA) (by decide +kernel)) (fun _ _ _ _ _ => pg_name (i := 4) scInitA.nd rfl (Or.inl rfl))
          (fun _ _ _ _ _ => pts_one (pt_cmpR op_notInS (pv 4) (pv 2) rfl)) (fun _ _ _ _ _ => pv 4))) rfl)
      (pss_one (ps_fld (pv 0) (pe_op op_add_str (pe_con (pv 0) rfl) (pe_fld (pv 0) rfl)) rfl))))))), ?_⟩
    have la : a.length ≤ 8 := by rw [pa.length_eq]; exact hL.most
    have lv : v.length ≤ 8 := Nat.le_trans hv.length_le hL.most
    have lu : u.length ≤ 8 := by rw [pu.length_eq]; exact lv
    have ndl : l.Nodup := hL.up.imp fun z => Nat.ne_of_lt z
    have ndv : v.Nodup := hv.nodup ndl
    have upv : v.Pairwise (· < ·) := hL.up.sublist hv
    have eA : isLets a = true := by
      unfold isLets
      rw [decide_eq_true (by rw [pa.length_eq]; exact hL.one), decide_eq_true la, decide_eq_true (pa.nodup_iff.mpr ndl), Bool.true_and, Bool.true_and, Bool.true_and]
      refine List.all_eq_true.mpr fun c hc => ?_
      have z := hL.az c (pa.mem_iff.mp hc)
      unfold az
      rw [decide_eq_true z.1, decide_eq_true z.2] <;> rfl
    have eU : (!decide u.Nodup) = false := by rw [decide_eq_true (pu.nodup_iff.mpr ndv)] <;> rfl
    -- the checks
    refine ⟨_, rfl, p, dx, _, rfl, hp, rfl, _, rfl, p, dx, [], a, rfl, hp, rfl, by omega, fun H1 s1 => ⟨_, rfl, ?_⟩⟩
    rw [eA]
    refine ⟨_, rfl, u, rfl, by omega, fun H2 s2 => ⟨_, rfl, ?_⟩⟩
    rw [eU]
    refine ⟨_, rfl, _, rfl, fun D hD => lc_text (f := fun _ => .bl true) (by omega) hD (fun _ => rfl) (fun c hc H' e Q q => ?_) ?_⟩
    · refine ⟨_, rfl, _, rfl, c, _, rfl, rfl, ?_⟩
      rw [S_cps, decide_eq_true (pa.mem_iff.mpr (hv.subset (pu.mem_iff.mp hc)))]
      exact q
    have s3 : Same H (upd H2 D (.lst (u.map fun _ => V.bl true))) := (s1.trans s2).trans (same_new hD)
    refine ⟨D, u.map fun _ => true, rfl, ?_, _, rfl, ?_⟩
    · rw [List.map_map]
      exact SqL.of upd_same
    rw [show (u.map fun _ => true).all id = true by simp]
    generalize upd H2 D (.lst (u.map fun _ => V.bl true)) = H3 at s3
    -- the letters
    refine ⟨_, rfl, a, rfl, by omega, fun l1 H4 s4 q1 q2 => ?_⟩
    have e1 : l1 = l := List.Perm.eq_of_pairwise (le := (· ≤ ·)) (fun _ _ _ _ => Nat.le_antisymm) q2 (hL.up.imp fun z => Nat.le_of_lt z) (q1.trans pa)
    subst e1
    have hp4 : H4 p = some (.ins C dx []) := s4 _ _ (s3 _ _ hp)
    refine ⟨_, rfl, p, C, dx, _, rfl, hp4, T.cl, T.nL, (by show 0 < 1000; decide), ?_⟩
    -- the vowels
    refine ⟨_, rfl, u, rfl, by omega, fun v1 H5 s5 r1 r2 => ?_⟩
    have e2 : v1 = v := List.Perm.eq_of_pairwise (le := (· ≤ ·)) (fun _ _ _ _ => Nat.le_antisymm) r2 (upv.imp fun z => Nat.le_of_lt z) (r1.trans pu)
    subst e2
    refine ⟨_, rfl, p, C, dx, _, rfl, s5 _ _ upd_same, T.cl, T.nV, (by show 1 < 1000; decide), ?_⟩
    -- the consonants
    refine ⟨⟨_, rfl⟩, _, rfl, p, C, dx, _, .str (S l1), rfl, upd_same, T.cl, T.nL, rfl, _, rfl, fun D2 hD2 => lc_textIf (p := fun c => decide (c ∉ v1)) (f := sg) (by have := hL.most; omega) hD2 (fun _ => rfl) (fun c hc H' e Q q => ?_) (fun c hc _ H' e Q q => ⟨_, rfl, q⟩) ?_⟩
    · refine ⟨_, rfl, _, rfl, c, _, rfl, rfl, _, rfl, ?_⟩
      rw [S_cps]
      have e3 : (!decide (c ∈ u)) = decide (c ∉ v1) := by
        by_cases z : c ∈ v1
        · have z' := pu.mem_iff.mpr z
          simp [z, z']
        · have z' : c ∉ u := fun y => z (pu.mem_iff.mp y)
          simp [z, z']
      rw [e3]
      exact q
    have lf : (l1.filter fun c => decide (c ∉ v1)).length ≤ 8 := Nat.le_trans (List.length_filter_le ..) hL.most
    refine ⟨("" : Str), D2, (l1.filter fun c => decide (c ∉ v1)).map fun c => (⟨#[c]⟩ : Str), rfl, rfl, .inl ?_, join_size _ _ rfl (by omega), ?_⟩
    · rw [map_one]
      exact SqL.of upd_same
    rw [join_sg]
    have npD : p ≠ D2 := fun z => by
      rw [← z, upd_same] at hD2
      cases hD2
    refine ⟨_, rfl, p, C, dx, _, rfl, by rw [upd_ne npD]; exact upd_same, T.cl, T.nC, (by show 2 < 1000; decide), ?_⟩
    -- the signs
    refine ⟨_, rfl, p, C, dx, _, .str (S [45]), uJ, rfl, upd_same, T.cl, cJ, rfl, _, rfl, p, C, dx, _, .str (S l1), rfl, upd_same, T.cl, T.nL, rfl, _, _, rfl, rfl, ?_, ?_⟩
    · rw [S_len, S_len, sizeLine_eq]
      have := hL.most
      simp
      omega
    rw [S_app]
    refine ⟨_, rfl, p, C, dx, _, rfl, upd_same, T.cl, T.nS, (by show 3 < 1000; decide), ?_⟩
    refine k _ ?_ ⟨dx, upd_same⟩
    intro b o nb hb
    have h3 := s3 _ _ hb
    rw [upd_ne nb, upd_ne nb, upd_ne (fun z => ?_), upd_ne nb]
    · refine s5 _ _ ?_
      rw [upd_ne nb]
      exact s4 _ _ h3
    · rw [← z, upd_ne nb, s5 _ _ (by rw [upd_ne nb]; exact s4 _ _ h3)] at hD2
      cases hD2
end
end Cl.K54
set_option Elab.async false
set_option linter.all false
set_option maxRecDepth 100000
set_option maxHeartbeats 4000000
/-! The names of sets. -/
namespace Cl
open PySem PySem.Spec L2 PyProof.Rows
def cAll : List Nat := [97, 108, 108]
def cLetters : List Nat := [108, 101, 116, 116, 101, 114, 115]
def cVowels : List Nat := [118, 111, 119, 101, 108, 115]
def cCons : List Nat := [99, 111, 110, 115, 111, 110, 97, 110, 116, 115]
def cJoints : List Nat := [106, 111, 105, 110, 116, 115]
theorem eAll : ("all" : Str) = S cAll := by decide +kernel
theorem eLetters : ("letters" : Str) = S cLetters := by decide +kernel
theorem eVowels : ("vowels" : Str) = S cVowels := by decide +kernel
theorem eCons : ("consonants" : Str) = S cCons := by decide +kernel
theorem eJoints : ("joints" : Str) = S cJoints := by decide +kernel
/-- what stands between the brackets -/
def inner (n : List Nat) : List Nat := (n.drop 1).dropLast
/-- the members of a set that has a name of its own -/
def namedSet (l v n : List Nat) : Option (List Nat) :=
  if cAll = n then some (45 :: l) else if cLetters = n then some l else if cVowels = n then some v else if cCons = n then some (l.filter (· ∉ v)) else if cJoints = n then some [45] else none
/-- the members of a set by its name -/
def setOf (l v n : List Nat) : Option (List Nat) :=
  match namedSet l v n with
  | some m => some m
  | none => if n = 91 :: (inner n ++ [93]) ∧ isList l (inner n) = true then some (inner n) else none
def namedD (l v : List Nat) : List (Key × V) := [(.inr ("all" : Str), .str (S (45 :: l))), (.inr ("letters" : Str), .str (S l)), (.inr ("vowels" : Str), .str (S v)), (.inr ("consonants" : Str), .str (S (l.filter (· ∉ v)))), (.inr ("joints" : Str), .str (S [45]))]
theorem key_dec (a b : List Nat) : decide ((Sum.inr (S a) : Key) = Sum.inr (S b)) = decide (a = b) :=
  decide_eq_decide.mpr ⟨fun h => S_inj (Sum.inr.inj h), fun h => by rw [h]⟩
theorem val_named (l v n : List Nat) : valV (namedD l v) (.inr (S n)) = (namedSet l v n).map fun m => .str (S m) := by
  unfold valV namedD namedSet
  rw [eAll, eLetters, eVowels, eCons, eJoints]
  simp only [List.find?_cons, key_dec, List.find?_nil]
  by_cases h1 : cAll = n
  · simp [h1]
  · by_cases h2 : cLetters = n
    · simp [h1, h2]
    · by_cases h3 : cVowels = n
      · simp [h1, h2, h3]
      · by_cases h4 : cCons = n
        · simp [h1, h2, h3, h4]
        · by_cases h5 : cJoints = n
          · simp [h1, h2, h3, h4, h5]
          · simp [h1, h2, h3, h4, h5]
theorem merge_named (l v : List Nat) : mergeK [] (namedD l v) = namedD l v := by
  rfl
theorem cut_inner (n : List Nat) : cutS (S n) (some 1) (some (-1)) = S (inner n) := by
  unfold cutS inner
  rw [S_cps, S_len]
  have e1 : HT.sIx n.length 0 (some 1) = min 1 n.length := HT.sIx_nat n.length 0 1
  have e2 : HT.sIx n.length n.length (some (-1)) = n.length - 1 := by
    show (if (-1 : Int) < 0 then ((-1 : Int) + (n.length : Int)).toNat else min (-1 : Int).toNat n.length) = _
    rw [if_pos (by decide)]
    omega
  rw [e1, e2]
  show Str.mk _ = Str.mk _
  congr 2
  rw [List.dropLast_eq_take, List.length_drop]
  cases n with
  | nil => rfl
  | cons c r =>
    simp
theorem named_none {l v n : List Nat} (h : namedSet l v n = none) : setOf l v n = if n = 91 :: (inner n ++ [93]) ∧ isList l (inner n) = true then some (inner n) else none := by
  unfold setOf
  rw [h]
theorem brackets (x : List Nat) : ((Str.empty ++ ("[" : Str)) ++ S x) ++ ("]" : Str) = S (91 :: (x ++ [93])) := by
  have e1 : (Str.empty ++ ("[" : Str)) = S [91] := by decide +kernel
  have e2 : ("]" : Str) = S [93] := by decide +kernel
  rw [e1, e2, S_app, S_app] <;> rfl
theorem bracket1 (x : List Nat) : (Str.empty ++ ("[" : Str)) ++ S x = S (91 :: x) := by
  have e1 : (Str.empty ++ ("[" : Str)) = S [91] := by decide +kernel
  rw [e1, S_app] <;> rfl
theorem inner_le (n : List Nat) : (inner n).length ≤ n.length := by
  unfold inner
  rw [List.length_dropLast, List.length_drop]
  omega
/-- members of a name that is one -/
def spMembers (C : Addr) : Sp := fun vs H Q _ => ∃ (p : Addr) (l v n m : List Nat), vs = [.ref p, .str (S n)] ∧ AlphaAt C H p l v ∧ n.length ≤ 60 ∧ setOf l v n = some m ∧ ∀ H', Same H H' → Q (.str (S m)) H'
/-- what isinstance wants of an own class -/
structure IsTxt (K : PySem.W.Frag) (C : Addr) : Prop where
  ha : PySem.W.findIn K (.ref C) "__class__" = some (some (.builtin "object.__class__"))
  hn : PySem.W.specialIn K (.builtin "object.__class__") "__get__" = some (some (.builtin "getset_descriptor.__get__"))
  htk : PySem.W.takesIn K (.builtin "object.__class__") = some true
  hm : PySem.W.mroIn K C (.type "object") = some true
theorem kit_self {K : PySem.W.Frag} {t : Value} : PySem.W.kitOne K t t = some true := by
  unfold PySem.W.kitOne
  rw [if_pos (by simp)]
def spEqA (C : Addr) : Sp := fun vs H Q _ => ∃ (p q : Addr) (l v l' v' : List Nat), vs = [.ref p, .ref q] ∧ AlphaAt C H p l v ∧ AlphaAt C H q l' v' ∧ Q (.bl (decide (l = l') && decide (v = v'))) H
end Cl
set_option Elab.async false
set_option linter.all false
set_option maxRecDepth 100000
set_option maxHeartbeats 4000000
namespace Cl
open PySem PySem.Spec L2 PyProof.Rows
def lawMembers (l v n : List Nat) : List Nat := (namedSet l v n).getD (inner n)
def spLawMembers : Sp := fun vs H Q _ => ∃ l v n : List Nat, vs = [.str (S l), .str (S v), .str (S n)] ∧ l.length ≤ 8 ∧ n.length ≤ 60 ∧ ∀ H', Same H H' → Q (.str (S (lawMembers l v n))) H'
/-- a name of a set -/
def GoodName (l n : List Nat) : Prop := n.length ≤ 12 ∧ (n = cAll ∨ n = cLetters ∨ n = cVowels ∨ n = cCons ∨ n = cJoints ∨ ∃ x, n = 91 :: (x ++ [93]) ∧ isList l x = true)
theorem inner_of (x : List Nat) : inner (91 :: (x ++ [93])) = x := by
  unfold inner
  rw [List.drop_one, List.tail_cons, List.dropLast_concat]
/-- for a good name the law's members are the set's -/
theorem good_members {l v n : List Nat} (h : GoodName l n) : setOf l v n = some (lawMembers l v n) := by
  unfold setOf lawMembers
  cases e : namedSet l v n with
  | some m => rfl
  | none =>
    obtain ⟨_, h⟩ := h
    have hn : ¬ cAll = n ∧ ¬ cLetters = n ∧ ¬ cVowels = n ∧ ¬ cCons = n ∧ ¬ cJoints = n := by
      unfold namedSet at e
      refine ⟨fun z => ?_, fun z => ?_, fun z => ?_, fun z => ?_, fun z => ?_⟩
      all_goals (subst z; revert e; simp [cAll, cLetters, cVowels, cCons, cJoints])
    rcases h with h | h | h | h | h | ⟨x, hx, hl⟩
    · exact absurd h.symm hn.1
    · exact absurd h.symm hn.2.1
    · exact absurd h.symm hn.2.2.1
    · exact absurd h.symm hn.2.2.2.1
    · exact absurd h.symm hn.2.2.2.2
    · subst hx
      rw [inner_of]
      show (if _ then some x else none) = some x
      rw [if_pos ⟨rfl, hl⟩]
def spLawName : Sp := fun vs H Q _ => ∃ (b lb : Addr) (l : List Nat), vs = [.ref b, .str (S l)] ∧ Lets l 8 ∧ Bag H b lb ∧
  ∀ (n : List Nat) (H' : Hp), Kp b H H' → Bag H' b lb → GoodName l n → Q (.str (S n)) H'
def spLawWord : Sp := fun vs H Q _ => ∃ (b lb : Addr) (g : List Nat) (top : Nat), vs = [.ref b, .str (S g), .int top] ∧ g ≠ [] ∧ g.length ≤ 30 ∧ top ≤ 60 ∧ Bag H b lb ∧
  ∀ (t : List Nat) (H' : Hp), Kp b H H' → Bag H' b lb → (∀ c ∈ t, c ∈ g) → t.length ≤ top → Q (.str (S t)) H'
theorem signs_up {l : List Nat} {n : Nat} (h : Lets l n) : (45 :: l).Pairwise (· < ·) :=
  List.pairwise_cons.mpr ⟨fun c hc => by have := (h.az c hc).1; omega, h.up⟩
theorem sub_isList {l x : List Nat} {n : Nat} (h : Lets l n) (hx : x.Sublist (45 :: l)) (h0 : x ≠ []) : isList l x = true := by
  unfold isList
  rw [decide_eq_true h0, decide_eq_true ((signs_up h).sublist hx), Bool.true_and, Bool.and_true]
  exact List.all_eq_true.mpr fun c hc => decide_eq_true (hx.subset hc)
theorem dash_app (l : List Nat) : ("-" : Str) ++ S l = S (45 :: l) := by
  have e45 : ("-" : Str) = S [45] := by decide +kernel
  rw [e45, S_app] <;> rfl
theorem dash_len (l : List Nat) (h : l.length ≤ 1000) : ("-" : Str).length + (S l).length ≤ sizeLine := by
  have e45 : ("-" : Str) = S [45] := by decide +kernel
  rw [e45, S_len, S_len, sizeLine_eq]
  show 1 + l.length ≤ _
  omega
theorem name_app (x : List Nat) : (("[" : Str) ++ S x) ++ ("]" : Str) = S (91 :: (x ++ [93])) := by
  have e1 : ("[" : Str) = S [91] := by decide +kernel
  have e2 : ("]" : Str) = S [93] := by decide +kernel
  rw [e1, e2, S_app, S_app] <;> rfl
theorem name_app1 (x : List Nat) : ("[" : Str) ++ S x = S (91 :: x) := by
  have e1 : ("[" : Str) = S [91] := by decide +kernel
  rw [e1, S_app] <;> rfl
theorem atS {l : List Nat} {v : Int} (h0 : 0 ≤ v) (h1 : v < l.length) : atI (S l).cps.toList v = some (l[v.toNat]'(by omega)) := by
  rw [S_cps]
  exact atI_pos h0 (List.getElem?_eq_getElem _)
end Cl
set_option Elab.async false
set_option linter.all false
set_option maxRecDepth 100000
set_option maxHeartbeats 4000000
namespace Cl.K54
open PySem PySem.Spec L2 PyProof.Rows
abbrev sLawName : Stmt := top 43
section
variable {P : Program} {w : World} {K : PySem.W.Frag} {mg : Str → Option Value} {base : Heap}
abbrev nLawName : List Str := ["_law_bag_here", "_law_letters_here", "_law_way", "_law_signs", "_law_listed", "_law_sign"]
theorem scLawName : FnScope nLawName ["_law_bag_here", "_law_letters_here"] (defScope sLawName) := ⟨rfl, rfl, rfl, by decide +kernel, rfl, by decide +kernel, by decide +kernel⟩
theorem ok_lawname {f fT : Addr} {fd fdT : FuncData} (F : Fun K "_law_name" "_law_name" sLawName f fd) (GT : FnOk P w K mg base CX0 1 fT fdT ["_law_bag_here", "_law_size"] spTake) (bT : Binds K fdT ["_law_bag_here", "_law_size"] [])
    (gT : mg "_law_take" = some (.ref fT)) (kT : PySem.W.keepIn K (.ref fT) = true) (hn : mg "len" = none) : FnOk P w K mg base CX0 2 f fd ["_law_bag_here", "_law_letters_here"] spLawName := by
  refine F.ok scLawName (fun vs H Q E h => ?_) (fun cdv A outer s H vs Q E hr h => ?_)
  · obtain ⟨b, lb, l, rfl, _⟩ := h
    rfl
  · obtain ⟨b, lb, l, rfl, hL, hb, k⟩ := h
    have hr1 : Room 1 _ := hr
    refine ⟨_, pss_cons (ps_set (i := 2) scLawName.nd rfl (.inl rfl) (pe_call GT hr1 rfl gT kT bT .nil pass0 (pa_cons (pv 0) (pa_cons pe_int pa_nil))))
      (pss_cons (ps_set (i := 3) scLawName.nd rfl (.inl rfl) (pe_op op_add_str pe_str (pv 1)))
      (C8.pss_cut (ps_set (i := 4) scLawName.nd rfl (.inl rfl) (pe_ifExp (pt_cmpR op_eq (pv 2) pe_int (nomark _))
          (pe_join pe_str (pe_lc (own := [("_law_sign", 5)]) (g := gName 5) (tt := tYes) (te := tOp (rIxL K) (tLst (tCons (tC (.str "")) (tCons (tVar 5) tNil))) (tCall spTake [] E0 (tCons (tVar 0) (tCons (tC (.int 2)) tNil)))) rfl scLawName.nd (pi_str (pv 3)) (blkOk_by (N := nLawName) (sc := defScope sLawName) (by decide +kernel)) (fun _ _ _ _ _ => pg_name (i := 5) scLawName.nd rfl (Or.inl rfl)) (fun _ _ _ _ _ => pts_nil)
            (fun _ _ _ _ _ => pe_ix ix_list (pe_lst (pa_cons pe_str (pa_cons (pv 5) pa_nil))) (pe_call GT hr1 rfl gT kT bT .nil pass0 (pa_cons (pv 0) (pa_cons pe_int pa_nil))) (fun _ _ => rfl)))) pe_str))
      (C8.pss_cut (ps_if (PW.pt (pw_and (pt_cmpR op_eq (pv 2) pe_int (nomark _)) (pw_and1 (pt_cmpR op_eq (pv 4) pe_str (nomark _))))) (pss_one (ps_set (i := 4) scLawName.nd rfl (.inl rfl) (pe_ix ix_str (pv 3) (pe_call GT hr1 rfl gT kT bT .nil pass0 (pa_cons (pv 0) (pa_cons (pe_callB call_len_str (by rfl) hn PySem.boot_len (pa_cons (pv 3) pa_nil)) pa_nil))) (fun _ _ => rfl)))) pss_nil)
      (pss_one (ps_ret (pe_ix ix_list (pe_lst (pa_cons pe_str (pa_cons pe_str (pa_cons pe_str (pa_cons pe_str (pa_cons pe_str (pa_cons (pe_op op_add_str (pe_op op_add_str pe_str (pv 4)) pe_str) pa_nil)))))) ) (pv 2) (fun _ _ => rfl))))))), ?_⟩
    refine ⟨_, rfl, b, lb, 6, rfl, by decide, by decide, hb, fun way H1 w0 w1 kp1 hb1 => ?_⟩
    refine ⟨_, rfl, _, _, rfl, rfl, dash_len l (by have := hL.most; omega), ?_⟩
    rw [dash_app]
    have lg : (45 :: l).length ≤ 9 := by have := hL.most; rw [List.length_cons]; omega
    -- what is listed
    refine ⟨fun σ' H' => ∃ x : List Nat, σ' = [some (.ref b), some (.str (S l)), some (.int way), some (.str (S (45 :: l))), some (.str (S x)), none] ∧ Kp b H H' ∧ Bag H' b lb ∧ x.Sublist (45 :: l), ?_, ?_⟩
    · refine ⟨_, rfl, rfl, _, rfl, ?_⟩
      refine ite2 (fun h5 => ?_) (fun h5 => ?_)
      · refine ⟨⟨_, rfl⟩, _, rfl, _, rfl, fun D hD => lc_it walk_str (fun i H' => Kp b H H' ∧ Bag H' b lb ∧ ∃ ys : List (List Nat), H' D = some (.lst (txs ys)) ∧ ys.length ≤ i ∧ ys.flatten.Sublist ((45 :: l).take i)) ?_ (fun _ _ _ _ => trivial) ?_ ?_⟩
        · exact ⟨kp1.trans (Kp.new hD), hb1.new hD, [], upd_same, Nat.le_refl _, by simp⟩
        · rintro i x H2 H2' hi ⟨kp, hb2, ys, hy, hl1, hsub⟩ ⟨rfl, c, hc, rfl⟩
          have nDb := hb1.nb hD
          have nDl := hb1.nl hD
          have hD0 : H D = none := by
            cases e : H D with
            | none => rfl
            | some o =>
              rw [kp1 _ _ nDb e] at hD
              cases hD
          have hc' := S_get hc
          rw [S_size] at hi
          refine ⟨rfl, ?_⟩
          refine ⟨_, rfl, (by show 2 ≤ sizeLine; decide), fun p hp => ?_⟩
          refine ⟨_, rfl, b, lb, 2, rfl, by decide, by decide, hb2.new hp, fun v H3 v0 v1 kp2 hb3 => ?_⟩
          have hp2 : H3 p = some (.lst [V.str ("" : Str), sg c]) := kp2 _ _ (hb2.nb hp) upd_same
          have nDp : D ≠ p := ne_of_none hy hp
          have hD2 : H3 D = some (.lst (txs ys)) := kp2 _ _ nDb (by rw [upd_ne nDp]; exact hy)
          have kq : Kp b H H3 := (kp.trans (Kp.new hp)).trans kp2
          have room : (txs ys).length < sizeLine := by
            unfold txs
            rw [List.length_map]
            exact Nat.lt_of_le_of_lt (by omega : ys.length ≤ 9) (by decide)
          rcases (by omega : v = 0 ∨ v = 1) with e | e
          · refine ⟨p, _, v, _, rfl, rfl, SqL.of hp2, at2_0 e, _, hD2, room, kq.mut hD0, hb3.upd nDb nDl, ys ++ [[]], ?_, by simp; omega, ?_⟩
            · rw [upd_same]
              unfold txs
              rw [List.map_append]
              rfl
            · rw [List.flatten_append, take_snoc hc']
              simpa using hsub.trans (List.sublist_append_left _ _)
          · refine ⟨p, _, v, _, rfl, rfl, SqL.of hp2, at2_1 e, _, hD2, room, kq.mut hD0, hb3.upd nDb nDl, ys ++ [[c]], ?_, by simp; omega, ?_⟩
            · rw [upd_same]
              unfold txs
              rw [List.map_append]
              rfl
            · rw [List.flatten_append, take_snoc hc']
              exact hsub.append (by simp)
        · rintro H2 ⟨kp, hb2, ys, hy, hl1, hsub⟩
          rw [S_size] at hl1 hsub
          rw [List.take_length] at hsub
          refine ⟨("" : Str), D, ys.map S, rfl, rfl, .inl ?_, join_room ys _ 0 (by decide) (by omega) (by have := hsub.length_le; omega), ?_⟩
          · rw [strs_map]
            exact SqL.of hy
          · rw [join_nil]
            exact ⟨ys.flatten, rfl, kp, hb2, hsub⟩
      · exact ⟨[], rfl, kp1, hb1, List.nil_sublist _⟩
    rintro σ' H2 ⟨x, rfl, kp2, hb2, hx⟩
    -- not empty
    refine ⟨fun σ' H' => ∃ x : List Nat, σ' = [some (.ref b), some (.str (S l)), some (.int way), some (.str (S (45 :: l))), some (.str (S x)), none] ∧ Kp b H H' ∧ Bag H' b lb ∧ x.Sublist (45 :: l) ∧ (way = 5 → x ≠ []), ?_, ?_⟩
    · refine ⟨_, rfl, rfl, _, rfl, ?_⟩
      refine ite2 (fun h5 => ?_) (fun h5 => ?_)
      · refine ⟨_, rfl, rfl, _, rfl, ?_⟩
        rw [show decide (V.str (S x) = V.str ("" : Str)) = decide (x = []) from vs_eq x []]
        refine ite2 (fun h0 => ?_) (fun h0 => ?_)
        · refine ⟨_, rfl, _, rfl, _, rfl, _, rfl, le_S (by omega : _ ≤ 9), b, lb, _, rfl, ?_, ?_, hb2, fun v H3 v0 v1 kp3 hb3 => ?_⟩
          · rw [S_len]
            simp
          · rw [S_len]
            omega
          · rw [S_len] at v1
            refine ⟨_, _, _, rfl, rfl, le_S (by omega : _ ≤ 9), atS v0 v1, [(45 :: l)[v.toNat]'(by omega)], rfl, kp2.trans kp3, hb3, ?_, by simp⟩
            exact List.singleton_sublist.mpr (List.getElem_mem _)
        · exact ⟨x, rfl, kp2, hb2, hx, fun _ z => h0 (decide_eq_true z)⟩
      · refine ⟨x, rfl, kp2, hb2, hx, fun z => absurd (decide_eq_true (by rw [z])) h5⟩
    rintro σ' H3 ⟨x, rfl, kp3, hb3, hx, h5⟩
    have lx : x.length ≤ 9 := Nat.le_trans hx.length_le lg
    refine ⟨_, rfl, _, _, rfl, rfl, ?_, _, _, rfl, rfl, ?_, (by show 6 ≤ sizeLine; decide), fun q hq => ?_⟩
    · show ("[" : Str).length + (S x).length ≤ sizeLine
      rw [S_len, sizeLine_eq, show ("[" : Str).length = 1 from rfl]
      omega
    · show (("[" : Str) ++ S x).length + ("]" : Str).length ≤ sizeLine
      rw [name_app1, S_len, sizeLine_eq, show ("]" : Str).length = 1 from rfl, List.length_cons]
      omega
    have fin : ∀ n, GoodName l n → Q (.str (S n)) (upd H3 q (.lst [.str ("all" : Str), .str ("letters" : Str), .str ("vowels" : Str), .str ("consonants" : Str), .str ("joints" : Str), .str ((("[" : Str) ++ S x) ++ ("]" : Str))])) := fun n hn => k n _ (kp3.trans (Kp.new hq)) (hb3.new hq) hn
    rcases (by omega : way = 0 ∨ way = 1 ∨ way = 2 ∨ way = 3 ∨ way = 4 ∨ way = 5) with e | e | e | e | e | e
    · subst e
      exact ⟨_, rfl, q, _, 0, .str ("all" : Str), rfl, rfl, SqL.of upd_same, rfl, by rw [eAll]; exact fin _ ⟨by decide, .inl rfl⟩⟩
    · subst e
      exact ⟨_, rfl, q, _, 1, .str ("letters" : Str), rfl, rfl, SqL.of upd_same, rfl, by rw [eLetters]; exact fin _ ⟨by decide, .inr (.inl rfl)⟩⟩
    · subst e
      exact ⟨_, rfl, q, _, 2, .str ("vowels" : Str), rfl, rfl, SqL.of upd_same, rfl, by rw [eVowels]; exact fin _ ⟨by decide, .inr (.inr (.inl rfl))⟩⟩
    · subst e
      exact ⟨_, rfl, q, _, 3, .str ("consonants" : Str), rfl, rfl, SqL.of upd_same, rfl, by rw [eCons]; exact fin _ ⟨by decide, .inr (.inr (.inr (.inl rfl)))⟩⟩
    · subst e
      exact ⟨_, rfl, q, _, 4, .str ("joints" : Str), rfl, rfl, SqL.of upd_same, rfl, by rw [eJoints]; exact fin _ ⟨by decide, .inr (.inr (.inr (.inr (.inl rfl))))⟩⟩
    · subst e
      refine ⟨_, rfl, q, _, 5, .str ((("[" : Str) ++ S x) ++ ("]" : Str)), rfl, rfl, SqL.of upd_same, rfl, ?_⟩
      rw [name_app] at fin ⊢
      exact fin _ ⟨by rw [List.length_cons, List.length_append]; show x.length + 1 + 1 ≤ 12; omega, .inr (.inr (.inr (.inr (.inr ⟨x, rfl, sub_isList hL hx (h5 rfl)⟩))))⟩
end
end Cl.K54
set_option Elab.async false
set_option linter.all false
set_option maxRecDepth 100000
set_option maxHeartbeats 2000000
/-! Texts and lists that end while an exception is handled. -/
namespace HotX
open PySem PySem.Spec PyProof.Rows
section
variable {prog : Program} {w : World} {A : Around} {E : Value → Shared → Prop} {s : Shared}
theorem HotAt.ne {x1 it : Addr} {h : Heap} {o : Obj} {u v : Value} (hot : HotAt A x1 h) (ho : h.get? it = some o) (hd : o.data = .fields #[u, v]) : x1 ≠ it := fun z => by
  obtain ⟨_, o1, vs, h1, d1, c1⟩ := hot
  rw [z, ho] at h1
  cases h1
  rw [hd] at d1
  cases d1
  exact absurd c1 (by simp)
theorem stop_hot {α : Type} {x1 : Addr} {Q : α → Shared → Prop} (hot : HotAt A x1 s.heap)
    (hE : ∀ h' e, (∀ b o, s.heap.get? b = some o → h'.get? b = some o) → (∃ o, h'.get? e = some o ∧ o.cls = .type "StopIteration") → E (.ref e) { s with heap := h' }) :
    wpAny (model prog w) A (newExc (.type "StopIteration") [] >>= raiseNew : Sem α) Q E s := by
  obtain ⟨hh, o1, vs1, h1, d1, c1⟩ := hot
  refine wpAny_bind ?_
  simp only [newExc, newTuple]
  refine wpAny_bind (wpAny_newObj_type ?_ (by size_fits))
  refine wpAny_bind (m := firstArgMember _ _) (wpAny_of_eq (a := Value.none) (by first | rfl | (simp only [firstArgMember]; rfl)) ?_)
  refine wpAny_newObj_type ?_ (by size_fits)
  refine raiseNew_hot ⟨hh, o1, vs1, Heap.get?_push_of_some _ (Heap.get?_push_of_some _ h1), d1, c1⟩ (Nat.ne_of_lt (Heap.lt_size (Heap.get?_push_of_some _ h1))) (Heap.get?_push_size _ rfl) rfl (by first | (simp; done) | (simp; omega) | (simp only [Array.size_append]; simp; omega)) ?_
  refine hE _ _ (fun b o e => ?_) ⟨_, Heap.get?_update_self _ (Heap.get?_push_size _ rfl) rfl, rfl⟩
  rw [Heap.get?_update_other _ _ (Nat.ne_of_gt (Heap.lt_size (Heap.get?_push_of_some _ e)))]
  exact Heap.get?_push_of_some _ (Heap.get?_push_of_some _ e)
theorem pyNext_ascii_end_hot {it x1 : Addr} {x : Str} {t : Tok} {i : Nat} {Q : Option Value → Shared → Prop} (hot : HotAt A x1 s.heap)
    (hit : s.heap.IsStrIter it "str_ascii_iterator" x t i) (hx : x.cps[i]? = none)
    (hQ : ∀ h', (∀ b o, b ≠ it → s.heap.get? b = some o → h'.get? b = some o) → Q none { s with heap := h' }) :
    wpAny (model prog w) A (pyNext (.ref it)) Q E s := by
  obtain ⟨o, ho, hc, hd⟩ := id hit
  have hne := hot.ne ho hd
  unfold pyNext
  refine wpAny_bind (wpAny_attempt (wpAny_callSpecial?_slot (name := Str.ofString "__next__") hit.typeIs F.slot_str_ascii_iterator_next
    (wpAny_call_entry F.slot_str_ascii_iterator_next hit.typeIs F.entry_str_ascii_iterator_next ?_ (F.args_str_ascii_iterator_next_1 _))))
  show wpAny _ _ (field (.ref it) 0 >>= _) _ _ s
  refine wpAny_bind (wpAny_field ho hd (x := .str x t) rfl ?_)
  show wpAny _ _ (field (.ref it) 1 >>= _) _ _ s
  refine wpAny_bind (wpAny_field ho hd (x := .int i 0) rfl ?_)
  simp only [Int.toNat_natCast, hx]
  refine wpAny_bind (wpAny_rule (wpAny_bind (wpAny_setField ho hd (by simp) (wpAny_bind (wpAny_letGo ?_)))))
  obtain ⟨hh, o1, vs1, h1, d1, c1⟩ := hot
  refine stop_hot (x1 := x1) ⟨hh, o1, vs1, ?_, d1, c1⟩ fun h' e k he => ?_
  · rw [Heap.get?_update_other _ _ hne.symm]
    exact h1
  obtain ⟨oe, hoe, hce⟩ := he
  refine wpAny_bind (wpAny_isInstance (T := "StopIteration") (b := true) ⟨oe, hoe, hce⟩ isSubtype_stop ?_)
  refine wpAny_pure (hQ _ fun b o nb eb => k b o ?_)
  rw [Heap.get?_update_other _ _ nb.symm]
  exact eb
theorem pyNext_wide_end_hot {it x1 : Addr} {x : Str} {t : Tok} {i : Nat} {Q : Option Value → Shared → Prop} (hot : HotAt A x1 s.heap)
    (hit : s.heap.IsStrIter it "str_iterator" x t i) (hx : x.cps[i]? = none)
    (hQ : ∀ h', (∀ b o, b ≠ it → s.heap.get? b = some o → h'.get? b = some o) → Q none { s with heap := h' }) :
    wpAny (model prog w) A (pyNext (.ref it)) Q E s := by
  obtain ⟨o, ho, hc, hd⟩ := id hit
  have hne := hot.ne ho hd
  unfold pyNext
  refine wpAny_bind (wpAny_attempt (wpAny_callSpecial?_slot (name := Str.ofString "__next__") hit.typeIs F.slot_str_iterator_next
    (wpAny_call_entry F.slot_str_iterator_next hit.typeIs F.entry_str_iterator_next ?_ (F.args_str_iterator_next_1 _))))
  show wpAny _ _ (field (.ref it) 0 >>= _) _ _ s
  refine wpAny_bind (wpAny_field ho hd (x := .str x t) rfl ?_)
  show wpAny _ _ (field (.ref it) 1 >>= _) _ _ s
  refine wpAny_bind (wpAny_field ho hd (x := .int i 0) rfl ?_)
  simp only [Int.toNat_natCast, hx]
  refine wpAny_bind (wpAny_rule (wpAny_bind (wpAny_setField ho hd (by simp) (wpAny_bind (wpAny_letGo ?_)))))
  obtain ⟨hh, o1, vs1, h1, d1, c1⟩ := hot
  refine stop_hot (x1 := x1) ⟨hh, o1, vs1, ?_, d1, c1⟩ fun h' e k he => ?_
  · rw [Heap.get?_update_other _ _ hne.symm]
    exact h1
  obtain ⟨oe, hoe, hce⟩ := he
  refine wpAny_bind (wpAny_isInstance (T := "StopIteration") (b := true) ⟨oe, hoe, hce⟩ isSubtype_stop ?_)
  refine wpAny_pure (hQ _ fun b o nb eb => k b o ?_)
  rw [Heap.get?_update_other _ _ nb.symm]
  exact eb
theorem list_next_end_hot {it l x1 : Addr} {i : Nat} {items : Array Value} {Q : Fin → Shared → Prop} (hot : HotAt A x1 s.heap)
    (hit : s.heap.IsListIter it l i) (hl : s.heap.IsList l items) (hx : items[i]? = none)
    (hE : ∀ h' e, (∀ b o, b ≠ it → s.heap.get? b = some o → h'.get? b = some o) → (∃ o, h'.get? e = some o ∧ o.cls = .type "StopIteration") → E (.ref e) { s with heap := h' }) :
    wpAny (model prog w) A (Builtin.«list_iterator.__next__» ⟨[.ref it], []⟩) Q E s := by
  obtain ⟨o, ho, hc, hd⟩ := id hit
  have hne := hot.ne ho hd
  obtain ⟨ol, hol, _, nl, hdl⟩ := hl
  show wpAny _ _ (field (.ref it) 0 >>= _) _ _ s
  refine wpAny_bind (wpAny_field ho hd (x := .ref l) rfl ?_)
  show wpAny _ _ (if (Value.ref l == Value.none) = true then _ else _) _ _ s
  rw [if_neg (show ¬ ((Value.ref l == Value.none) = true) from Bool.false_ne_true)]
  show wpAny _ _ (field (.ref it) 1 >>= _) _ _ s
  refine wpAny_bind (wpAny_field ho hd (x := .int i 0) rfl ?_)
  show wpAny _ _ (seqItems? (.ref l) >>= _) _ _ s
  refine wpAny_bind (wpAny_seqItems hol hdl ?_)
  simp only [Int.toNat_natCast, hx]
  refine wpAny_bind (wpAny_rule (wpAny_bind (wpAny_setField ho hd (by simp) ?_)))
  obtain ⟨hh, o1, vs1, h1, d1, c1⟩ := hot
  refine stop_hot (x1 := x1) ⟨hh, o1, vs1, ?_, d1, c1⟩ fun h' e k he => hE h' e (fun b o nb eb => k b o ?_) he
  · rw [Heap.get?_update_other _ _ hne.symm]
    exact h1
  · rw [Heap.get?_update_other _ _ nb.symm]
    exact eb
theorem pyNext_list_end_hot {it l x1 : Addr} {i : Nat} {items : Array Value} {Q : Option Value → Shared → Prop} (hot : HotAt A x1 s.heap)
    (hit : s.heap.IsListIter it l i) (hl : s.heap.IsList l items) (hx : items[i]? = none)
    (hQ : ∀ h', (∀ b o, b ≠ it → s.heap.get? b = some o → h'.get? b = some o) → Q none { s with heap := h' }) :
    wpAny (model prog w) A (pyNext (.ref it)) Q E s := by
  unfold pyNext
  refine wpAny_bind (wpAny_attempt (wpAny_callSpecial?_slot (name := Str.ofString "__next__") hit.typeIs slot_listiter_next
    (wpAny_call_entry slot_listiter_next hit.typeIs entry_listiter_next (list_next_end_hot hot hit hl hx fun h' e k he => ?_) (args_listiter_next _))))
  obtain ⟨oe, hoe, hce⟩ := he
  refine wpAny_bind (wpAny_isInstance (T := "StopIteration") (b := true) ⟨oe, hoe, hce⟩ isSubtype_stop ?_)
  exact wpAny_pure (hQ _ k)
end
end HotX
set_option Elab.async false
set_option linter.all false
set_option maxRecDepth 100000
set_option maxHeartbeats 2000000
/-! While an exception is handled: a loop over a text, all(list). -/
namespace Sx
open PySem PySem.Spec PyProof.Rows L2 HotX L2H
theorem turn_strH {P : Program} {w : World} {K : PySem.W.Frag} {tg : Expr} (it : Addr) (x : Str) (hx0 : x.cps.size = 0) (t : Tok) (ty : String) (hty : ty = "str_ascii_iterator" ∨ ty = "str_iterator") :
    TurnH P w K tg (Its x) [it] it (fun i h => h.IsStrIter it ty x t i) where
  mem := by simp
  obj := fun i h st b hb => by
    have e : b = it := by simpa using hb
    subst e
    obtain ⟨o, e, c, d⟩ := st
    exact ⟨o, e, fun v z => by rw [d] at z; cases z⟩
  keep := fun i h h' st k => let ⟨o, ho, r⟩ := st; ⟨o, k it (by simp) o ho, r⟩
  item := by
    intro X hP hw hK hc i pins s σ H E I hf st hg
    have : i < x.cps.size := hg
    omega
  done := by
    intro X hP hw hK hc i pins s σ H E I hf st hg
    subst hP hw hK
    obtain ⟨f0, f1, f2, f3, f4, f5⟩ := hf it (by simp)
    obtain ⟨x1, hot⟩ := hc.at I
    have hx : x.cps[i]? = none := Array.getElem?_eq_none hg
    rcases hty with e | e
    · rw [e] at st
      exact pyNext_ascii_end_hot hot st hx fun h' eb => ⟨rfl, I.turned (t' := s.toks) (fun b o hb e => eb b o hb e) f0 f1 f3 f4 f5⟩
    · rw [e] at st
      exact pyNext_wide_end_hot hot st hx fun h' eb => ⟨rfl, I.turned (t' := s.toks) (fun b o hb e => eb b o hb e) f0 f1 f3 f4 f5⟩
  self := fun A i s Q E st h => by
    rcases hty with e | e
    · rw [e] at st; exact wpAny_pyIter_striter_ascii st h
    · rw [e] at st; exact wpAny_pyIter_striter_wide st h
def iStrE (te : TE) : TI := fun σ H R => te σ H fun v H1 => ∃ x, v = .str x ∧ x.cps.size = 0 ∧ R (Its x) H1
theorem pi_strH {X : Cx} {tg e : Expr} {te : TE} (he : PE X e te) : PIH X tg e (iStrE te) := by
  refine ⟨fun pins s σ H R I h => ?_⟩
  refine thn (he.run pins s σ H _ I h) fun v s1 ⟨y, H1, I1, r1, x, ex, hx, q⟩ => ?_
  subst ex
  obtain ⟨t, rfl⟩ := r1
  have fin : ∀ ty, ty = "str_ascii_iterator" ∨ ty = "str_iterator" → PIEH X pins σ tg R (.ref s1.heap.objs.size) { s1 with heap := s1.heap.push { cls := .type ty, data := .fields #[.str x t, .int 0 0] } } := fun ty hty =>
    ⟨s1.heap.objs.size, [s1.heap.objs.size], _, _, H1, rfl, I1.kept (t' := s1.toks) fun b o e => Heap.get?_push_of_some _ e, turn_strH _ x hx t ty hty, ⟨_, Heap.get?_push_size _ rfl, rfl, rfl⟩, fun b hb => by
      have e : b = s1.heap.objs.size := by simpa using hb
      subst e
      exact I1.fpOk (Nat.le_refl _) (I1.hok.fresh (Nat.le_refl _)), q⟩
  cases ha : x.cps.all (· < 128)
  · exact wpAny_pyIter_wide ha (fin _ (.inr rfl))
  · exact wpAny_pyIter_ascii ha (fin _ (.inl rfl))
theorem walks_listH {prog : Program} {w : World} {A : Around} {x1 : Addr} (I ax : Addr) (hne : ax ≠ I) (items : Array Value) :
    Walks prog w A I [I, ax, x1] [I] items.size (fun i v => items[i]? = some v) (fun i h => (h.IsListIter I ax i ∧ h.IsList ax items) ∧ HotAt A x1 h ∧ x1 ≠ I) where
  sub := fun b hb => by simp at hb; simp [hb]
  frame := fun _ _ _ st hk => by
    obtain ⟨⟨a, b⟩, ⟨hh, o, vs, h1, d1, c1⟩, n⟩ := st
    exact ⟨⟨a.at fun o e => hk I (by simp) o e, b.at fun o e => hk ax (by simp) o e⟩, ⟨hh, o, vs, hk x1 (by simp) o h1, d1, c1⟩, n⟩
  item := fun i s Q E hi st hQ => by
    obtain ⟨st, ⟨hh, o, vs, h1, d1, c1⟩, n⟩ := st
    refine wpAny_pyNext_list_item st.1 st.2 (x := items[i]) (by simp [hi]) fun h' hit' hs' => ?_
    exact hQ _ h' s.toks (by simp [hi]) ⟨⟨hit', st.2.extBut hs'.extBut hne⟩, ⟨hh, o, vs, hs'.extBut _ _ n h1, d1, c1⟩, n⟩ fun b o hb e => hs'.extBut b o (fun h => hb (by simp [h])) e
  done := fun s Q E st hQ => by
    obtain ⟨st, hot, n⟩ := st
    exact pyNext_list_end_hot hot st.1 st.2 (by simp) fun h' he' => hQ h' s.toks fun b o hb e => he' b o (fun h => hb (by simp [h])) e
  self := fun _ _ _ _ st hQ => wpAny_pyIter_listiter st.1.1 hQ
theorem cr_allH {X : Cx} (hc : HotC X) : CallR X (.builtin "all") (rAll X.K) := by
  intro pins s σ H vs us Q I r h
  obtain ⟨a, bs, rfl, hs, q⟩ := h
  obtain ⟨its, rv, hl, _⟩ := I.list hs
  rw [Vals.ref1 r]
  have hb := rv.bls
  obtain ⟨x1, hot⟩ := hc.at I
  refine call_all_walk (iter_any hl.isList fun s₂ e2 st hne => ?_)
  subst e2
  obtain ⟨hh, o1, vs1, h1, d1, c1⟩ := hot
  refine ⟨_, _, _, _, _, _, _, rfl, walks_listH (A := X.A.in1) (x1 := x1) _ a hne its.toArray, ⟨st, ⟨hh, o1, vs1, Heap.get?_push_of_some _ h1, d1, c1⟩, Nat.ne_of_lt (Heap.lt_size h1)⟩, truth_bools hb, fun h' tk hk => ?_⟩
  refine ⟨.bl _, H, I.kept fun b o eo => hk b o (fun hmem => ?_) (Heap.get?_push_of_some _ eo), ?_, q⟩
  · rcases List.mem_cons.mp hmem with e1 | hmem
    · exact absurd (e1 ▸ Heap.lt_size eo) (Nat.lt_irrefl _)
    · cases hmem
  · show Value.bool _ = Value.bool _
    rw [← L2.all_range, hb, List.size_toArray, List.length_map]
end Sx
set_option Elab.async false
set_option linter.all false
set_option maxRecDepth 100000
set_option maxHeartbeats 4000000
/-! super().__init__(..) in the own __init__ of an exception of one's own over ValueError. -/
namespace Sx
open PySem PySem.Spec L2 PyProof.Rows
/-- what super().__init__ wants of the class C, within D -/
structure SupE (K : PySem.W.Frag) (C D : Addr) : Prop where
  cD : ∃ oD cd, K.lookup D = some oD ∧ oD.data = .cls cd
  sub : PySem.W.subIn K (.ref C) (.ref D) = some true
  no : PySem.W.nsIn K cStatics "thirdparty.any" = some none
  at_ : PySem.W.ks_superIn K C D "__init__" = some (some (.builtin "ValueError.__init__"))
  ve : PySem.W.subIn K (.ref C) (.type "ValueError") = some true
section
variable {X : Cx} {pins : List (Addr × Obj)} {σ : L2.St} {H : Hp} {s : Shared} {a C D u : Addr}
/-- the bound __init__ called -/
theorem call_mw {us : List Value} {Q : Value → Shared → Prop} {E : Value → Shared → Prop} (T : OexC X.K C) (I : Inv X ((u, PySem.W.kxs_mw "ValueError.__init__" a) :: pins) σ H s) (e : H a = some (exo a C none)) (hl : us.length ≤ sizeLine)
    (h : ∀ s', Inv X pins σ H s' → Q .none s') : wpAny (model X.prog X.w) X.A (call (.ref u) us) Q E s := by
  obtain ⟨nm, q, N, bs, bm, sn, sub, ab, col, dd, k0, k1, k2, k3, k5, hC, hbm⟩ := T.cls
  obtain ⟨t1, ho⟩ := exo_at I.hok e
  have hu := ClX.pin_at I
  have I0 := ClX.unpin I
  have hC' := I.kIn _ _ hC
  obtain ⟨hp, g, d, t, os⟩ := s
  have fin : ∀ h', (∀ b o, b ≠ a → hp.get? b = some o → h'.get? b = some o) → h'.get? a = some (PySem.W.excObj C hp.objs.size none .none) → h'.get? hp.objs.size = some (PySem.W.excTup us) → Q .none ⟨h', g, d, t, os⟩ := fun h' k e' _ => by
    have J := I0.write (t' := t) (x := a) (e := a) (o := exo a C none) (h' := h') (by rw [e]; exact True.intro) (.inl rfl) k ⟨_, e'⟩ (exo_ok e')
    have eu : upd H a (exo a C none) = H := by
      funext b
      by_cases hb : b = a
      · rw [hb, upd_same, e]
      · rw [upd_ne hb]
    rw [eu] at J
    exact h _ J
  refine wpAny_call (codeAny_of_tree ?_)
  show wpAny _ X.A.in1 (callAny (.ref u) ⟨us, []⟩) _ _ _
  simp only [callAny]
  refine wpAny_bind (wpAny_load hu ?_)
  simp only [PySem.W.kxs_mw, show (Value.type "method-wrapper" == Value.type "method" || Value.type "method-wrapper" == Value.type "builtin_function_or_method" || Value.type "method-wrapper" == Value.type "method-wrapper") = true by decide, if_true]
  refine PySem.W.KFB.if_so (by decide) ?_
  refine wpAny_bind (PySem.W.check_bound_init F.excBase_ValueError.toExcCallFacts hC' ho rfl ?_)
  refine wpAny_bind (wpAny_pure (wpAny_pure ?_))
  refine ⟨plainId_quiet F.excBase_ValueError.init.plain _, codeAny_builtin F.excBase_ValueError.initEntry ?_⟩
  exact PySem.W.exc_init_tree (cls := .ref C) (t0 := t1) (dv := none) (c2 := .none) (c3 := .none) (b4 := .bool false) ho hl fin
/-- super(D, self).__init__(..), once D and self are told -/
theorem sup_chain {e0 : Expr} {es : List Expr} {ta : TA} {pos : Pos} {pl : Sem Bool} {Q : VK} {R : Value → Shared → Prop} (T : OexC X.K C) (z : SupE X.K C D) (I : Inv X pins σ H s) (e : H a = some (exo a C none)) (ha : PA X (e0 :: es) ta)
    (hq : ta σ H fun ws H1 => ws.length ≤ 1000 ∧ H1 a = some (exo a C none) ∧ Q .non H1) (hR : ∀ v s', EP X pins σ Q v s' → R v s')
    (he : starEach (e0 :: es) X.env = (false, eval e0 X.env) :: starEach es X.env := by rfl) (hpl : (backTo pos (starEach es X.env)).any (·.1) = false := by rfl) :
    wpAny (model X.prog X.w) X.A (isType (.ref D)) (fun b s₄ => b = true ∧ wpAny (model X.prog X.w) X.A (call (.type "super") [.ref D, .ref a]) (fun ov s₁ => wpAny (model X.prog X.w) X.A (getMethod ov "__init__" pl) (fun fx s₂ => wpAny (model X.prog X.w) X.A (callWith pos fx.1 fx.2 (backTo pos (starEach (e0 :: es) X.env)) []) R X.xe s₂) X.xe s₁) X.xe s₄) X.xe s := by
  obtain ⟨nm, q, N, bs, bm, sn, sub, ab, col, dd, k0, k1, k2, k3, k5, hC, hbm⟩ := T.cls
  have hcl : PySem.W.clsIn X.K C = some { name := nm, bases := bs, mro := .ref C :: bm, ns := N, qualname := q, hasDict := true, slotNames := sn, subclasses := sub, abstract := ab, collection := col, hasDel := false } := by unfold PySem.W.clsIn; rw [hC] <;> rfl
  obtain ⟨oD, cd, hD, hDt⟩ := z.cD
  obtain ⟨t1, ho⟩ := exo_at I.hok e
  have hD' := I.kIn _ _ hD
  obtain ⟨hp, g, d, t, os⟩ := s
  refine PySem.ks_wpAny_isType_cls hD' hDt ⟨rfl, ?_⟩
  refine PySem.ks_wpAny_call_super hD' hDt ho rfl (fun c y => by cases y) (PySem.W.looks_subIn I.kIn z.sub) fun h1 hso k1 => ?_
  have I1 := ClX.pin_new (t' := t) I k1 (Nat.le_refl _) hso (fun v y => by cases y)
  have ho1 := k1 _ _ ho
  have J1 : PySem.W.InstAt h1 a _ C none := ⟨ho1, rfl, rfl, trivial⟩
  have hm := z.at_
  unfold PySem.W.ks_superIn at hm
  rw [hcl, Option.bind_some] at hm
  refine PySem.W.kxs_getMethod PySem.W.kxs_ValueError hso (PySem.W.looks_opaque I1.kIn z.no) (l₀ := .ref C :: bm) (fun A Q E s k q => wpAny_bind ((PySem.W.looks_clsIn I1.kIn hcl) A _ E s k (wpAny_pure q))) rfl I1.kIn hm (J1.type.andThen (PySem.W.looks_subIn I1.kIn z.ve)) (PySem.W.ks_ne I1.kIn J1 hcl) rfl ?_
  have I2 := ClX.pin_new (t' := t + 1) (o := PySem.W.kxs_mw "ValueError.__init__" a) (h' := h1.push (PySem.W.kxs_mw "ValueError.__init__" a)) I1 (fun b o y => Heap.get?_push_of_some _ y) (Nat.le_refl _) (Heap.get?_push_at rfl rfl) (fun v y => by cases y)
  show wpAny _ _ (callWith pos (.ref h1.objs.size) [] (backTo pos (starEach (e0 :: es) X.env)) []) _ _ _
  have hr := ha.run pos _ _ σ H _ I2 hq
  rw [he] at hr ⊢
  refine PySem.W.kxs_callWith (i := "ValueError.__init__") (x := a) (by show (false || (backTo pos (starEach es X.env)).any (·.1)) = false; rw [hpl]; rfl) ?_
  refine Calls.evalArgs_plain (thn hr fun us s1 ⟨vs, H1, I3, r1, hl, ea, q⟩ => ?_)
  refine ⟨ClX.pin_at I3, ?_⟩
  have hlen : us.length ≤ sizeLine := by
    rw [← r1.length, sizeLine_eq]
    omega
  exact call_mw T I3 ea hlen fun s' J => hR _ _ ⟨.non, H1, ClX.unpin J, rfl, q⟩
end
end Sx
set_option Elab.async false
set_option linter.all false
set_option maxRecDepth 100000
set_option maxHeartbeats 4000000
namespace Sx
open PySem PySem.Spec L2 PyProof.Rows
/-- its words: the class cell is captured -/
abbrev nf (x qual : Str) (st : Stmt) (cc c : Addr) : NdefX.NF := ⟨x, qual, defArgs st, defBody st, defScope st, [("__class__", cc)], c⟩
/-- a method with super() as it stands behind the top: D its class -/
structure FunS (K : PySem.W.Frag) (file x qual : Str) (st : Stmt) (D f c cc : Addr) (fd : FuncData) : Prop where
  ex : ∃ (oc : Value) (od an : Option Addr) (kV doc pm ct : Value) (osl : Array (Option Value)), fd = PySem.W.fnX x qual (defArgs st) (defBody st) (defScope st) [("__class__", cc)] .none kV doc pm an (.ref c) ct ∧ K.lookup f = some ⟨oc, od, .func fd, osl⟩
  cd : PySem.W.codeIn K (.ref c) qual = true
  cell : ∃ o, K.lookup cc = some o ∧ o.data = .cell (some (.ref D))
  code : ∃ (o : Obj) (vs : Array Value) (tf : Tok), K.lookup c = some o ∧ o.data = .fields vs ∧ vs[2]? = some (.str file tf)
  kp : PySem.W.keepIn K (.ref f) = true
abbrev wsOf (D : Addr) : List (Option V) := [some (.ref D)]
theorem FunS.binds {K : PySem.W.Frag} {file x qual : Str} {st : Stmt} {D f c cc : Addr} {fd : FuncData} {ps : List Str} (F : FunS K file x qual st D f c cc fd)
    (h : ∀ (kV doc pm : Value) (an : Option Addr) (ct : Value) (us : List Value), us.length = ps.length → bindArgs (PySem.W.fnX x qual (defArgs st) (defBody st) (defScope st) [("__class__", cc)] .none kV doc pm an (.ref c) ct) ⟨us, []⟩ = pure (ps.zip us)) : Binds K fd ps [] := by
  obtain ⟨oc, od, an, kV, doc, pm, ct, osl, rfl, lk⟩ := F.ex
  exact .all (h kV doc pm an ct)
section
variable {CX : CXT} {P : Program} {w : World} {K : PySem.W.Frag} {mg : Str → Option Value} {base : Heap} {N : List Str} {D f c cc : Addr} {k : Nat} {sp : Sp} {x qual p1 : Str} {ps : List Str} {st : Stmt} {fd : FuncData} {e0 : Expr} {es : List Expr} {rest : List Stmt} {q0 q1 q2 q3 q4 : Pos} {ar : Arg} {n : NdefX.NF}
/-- THE RULE: __init__ of an own exception whose first row is super().__init__(..) -/
theorem fn_sup (F : FunS K P.main.file x qual st D f c cc fd) (hn : n = nf x qual st cc c) (S : NdefX.NScope N (p1 :: ps) ["__class__"] (defScope st))
    (hbd : defBody st = .Expr (.Call (.Attribute (.Call (.Name "super" q0) [] [] q1) "__init__" q2) (e0 :: es) [] q3) q4 :: rest)
    (hk : (defScope st).names.lookup ("super" : Str) = some .globalImplicit)
    (har : ((defArgs st).posonlyargs ++ (defArgs st).args).head? = some ar) (harn : ar.arg = p1) (htop : (P.main.scope.names.lookup ("super" : Str)).isSome = false) (hsu : mg "super" = none)
    (len : ∀ vs H Q E, sp vs H Q E → vs.length = (p1 :: ps).length)
    (hbody : ∀ (A : Around) (outer : List Env) (s : Shared) (H : Hp) (vs : List V) (Q : VK) (E : XK), Room k (A.deeper (NdefX.envF n f s.heap.objs.size)) → sp vs H Q E →
      ∃ (ta : TA) (tr : TS), PA (NdefX.ncx CX P w K mg base N n f A outer s H E) (e0 :: es) ta ∧ PSs (NdefX.ncx CX P w K mg base N n f A outer s H E) rest tr ∧
        ∃ (a C : Addr) (vr : List V), vs = .ref a :: vr ∧ H a = some (exo a C none) ∧ OexC K C ∧ SupE K C D ∧
          ta (NdefX.startF N vs (wsOf D)) H fun ws H1 => ws.length ≤ 1000 ∧ H1 a = some (exo a C none) ∧ tr { nx := fun _ H' => Q .non H', rt := Q } (NdefX.startF N vs (wsOf D)) H1)
    (he : ∀ L, starEach (e0 :: es) (NdefX.envF n f L) = (false, eval e0 (NdefX.envF n f L)) :: starEach es (NdefX.envF n f L) := by intro _; rfl) (hpl : ∀ L, (backTo q3 (starEach es (NdefX.envF n f L))).any (·.1) = false := by intro _; rfl)
    (hi : ∀ L, interactive (NdefX.envF n f L) = false := by intro _; rfl) (hsw : ∀ L, swapsWith (.Call (.Attribute (.Call (.Name "super" q0) [] [] q1) "__init__" q2) (e0 :: es) [] q3) none q4.line (NdefX.envF n f L) = pure false := by intro _; rfl) {pl : Nat → Sem Bool}
    (hm : ∀ L, eval (.Call (.Attribute (.Call (.Name "super" q0) [] [] q1) "__init__" q2) (e0 :: es) [] q3) (NdefX.envF n f L) = (do
      let ov ← attributeBase (.Call (.Name "super" q0) [] [] q1) "__init__" (NdefX.envF n f L) (eval (.Call (.Name "super" q0) [] [] q1) (NdefX.envF n f L))
      standAt q2.atName
      let (g, first) ← holding [ov] (getMethod ov "__init__" (pl L))
      callWith q3 g first (backTo q3 (starEach (e0 :: es) (NdefX.envF n f L))) []) := by intro _; rfl) :
    FnOk P w K mg base CX (k + 1) f fd (p1 :: ps) sp := by
  subst hn
  obtain ⟨oc, od, an, kV, doc, pm, ct, osl, rfl, lk⟩ := F.ex
  refine ⟨len, fun A outer s H args us vs Q E hr e0' hb r hsp => ?_⟩
  have hl := len _ _ _ _ hsp
  have KX : K.In s.heap := e0'.mod.kin.keeps fun b o e => (e0'.bs b o e).1
  have lim : s.heap.NoLimit := e0'.mod.nolimit.keeps fun b o e => (e0'.bs b o e).1
  obtain ⟨oCl, hcl, hcd⟩ := F.cell
  obtain ⟨oCd, vsC, tf, hco, hcf, hc2⟩ := F.code
  have C : NdefX.CellsAt [("__class__", cc)] ["__class__"] (wsOf D) s.heap H := by
    have hc : H cc = none := (e0'.bs cc oCl (e0'.mod.kin _ _ hcl)).2
    have hcell : s.heap.IsCell cc (some (.ref D)) := ⟨oCl, KX _ _ hcl, hcd⟩
    have one : ∀ {y : Str} {b : Addr}, List.lookup y [(("__class__" : Str), cc)] = some b → y = "__class__" ∧ b = cc := fun {y b} h => by
      rw [List.lookup_cons] at h
      cases q : y == ("__class__" : Str) with
      | true =>
        rw [q] at h
        exact ⟨eq_of_beq q, (Option.some.inj h).symm⟩
      | false =>
        rw [q] at h
        cases h
    refine ⟨rfl, fun y b h => ?_, fun x y b h1 h2 => ?_, fun i y h => ?_⟩
    · obtain ⟨rfl, rfl⟩ := one h
      exact ⟨hc, _, hcell⟩
    · rw [(one h1).1, (one h2).1]
    · match i, h with
      | 0, h =>
        have h : some ("__class__" : Str) = some y := h
        cases h
        refine ⟨cc, by rw [List.lookup_cons_self], fun v hv => ?_⟩
        have hv : some (some (V.ref D)) = some (some v) := hv
        cases hv
        exact ⟨.ref D, rfl, hcell⟩
  refine codeAny_call_function hr.depth (KX _ _ lk) rfl S.co S.gen rfl (PySem.W.codeRec_of KX F.cd) (hb _ _ _ _ ?_)
  refine wpAny_newFunctionEnv S.nocell (fun ⟨n, _⟩ hy => S.par n (List.of_mem_zip hy).1) (fun h₁ hns hsb => ⟨lim.fresh _ hsb, ?_⟩) S.kind
  have kp : ∀ b o, s.heap.get? b = some o → h₁.get? b = some o := fun b o e => hsb.extBut b o (Nat.ne_of_lt (Heap.lt_size e)) (Heap.get?_push_of_some _ e)
  show codeAny _ _ (.func (defBody st) (NdefX.envF (nf x qual st cc c) f s.heap.objs.size)) _ _
  obtain ⟨ta, tr, hta, htr, a, C', vr, rfl, ha, T, z, hq⟩ := hbody A outer s H vs Q E (hr.deeper _) hsp
  have I : Inv (NdefX.ncx CX P w K mg base N (nf x qual st cc c) f A outer s H E) [] (NdefX.startF N (.ref a :: vr) (wsOf D)) H { s with heap := h₁, toks := s.toks + ((p1 :: ps).zip us).length } := NdefX.inv_startN S hr.hd e0' hl r C hns kp
  refine PySem.ks_codeAny_funcAt ?_
  rw [hbd]
  refine PySem.ks_wpAt_execs_cons (PySem.ks_wpAt_Expr_any (PySem.ks_wpAt_MethodCall (pl := pl s.heap.objs.size) ?_ (hm _)) (hi _) (hsw _))
  have hfree : (NdefX.envF (nf x qual st cc c) f s.heap.objs.size).kindOf "__class__" = some .free := S.frk _ (List.mem_singleton.mpr rfl)
  have hloc : (NdefX.envF (nf x qual st cc c) f s.heap.objs.size).kindOf ar.arg = some .local := by
    rw [harn]
    exact S.par _ (List.mem_cons_self ..)
  refine PySem.ks_wpAt_super_base (ar := ar) (f := f) (cc := c) hk hfree rfl rfl (kp _ _ (KX _ _ lk)) rfl har rfl (kp _ _ (KX _ _ hco)) hcf hc2 (by simp) htop ?_
  -- the three names
  have hsup : ∀ {R : Value → Shared → Prop} {E' : Value → Shared → Prop}, R (.type "super") { s with heap := h₁, toks := s.toks + ((p1 :: ps).zip us).length } → wpAny (model P w) (A.deeper (NdefX.envF (nf x qual st cc c) f s.heap.objs.size)) (loadName (NdefX.envF (nf x qual st cc c) f s.heap.objs.size) "super") R E' { s with heap := h₁, toks := s.toks + ((p1 :: ps).zip us).length } := fun {R E'} h => by
    unfold loadName
    have hk' : (NdefX.envF (nf x qual st cc c) f s.heap.objs.size).kindOf "super" = some .globalImplicit := hk
    simp only [Env.blockKind, S.kind, hk', ScopeKind.isAnnotationScope, Bool.false_and, Bool.false_eq_true, if_false]
    obtain ⟨mb, h1, h2⟩ := I.mod.blt
    exact Calls.loadGlobal_builtin (I.mod.glob.keeps I.bk) hsu (h1.keeps I.bk) ((h2 "super" (by decide)).trans PyProof.Rows.Boot.«super») h
  refine hsup ⟨rfl, ?_⟩
  obtain ⟨c0, hc0, hv0⟩ := C.has 0 "__class__" rfl
  obtain ⟨u0, ru0, ⟨oq, hq1, hq2⟩⟩ := hv0 (.ref D) rfl
  cases ru0
  refine wpAny_loadName_free (env := NdefX.envF (nf x qual st cc c) f s.heap.objs.size) S.kind hfree hc0 ⟨oq, kp _ _ hq1, hq2⟩ ?_
  cases r with
  | @cons _ ua _ ur ra rr =>
  obtain rfl : ua = Value.ref a := ra
  have hlk : ((p1 :: ps).zip (Value.ref a :: ur)).reverse.lookup ar.arg = some (.ref a) := by
    rw [harn]
    have ndP : (p1 :: ps).Nodup := by
      have q := S.nd.sublist (List.take_sublist ((p1 :: ps).length + [("__class__" : Str)].length) N)
      rw [S.pre] at q
      exact (List.nodup_append.mp q).1
    exact NdefX.zip_look (i := 0) ndP rfl rfl
  refine wpAny_loadName_local (env := NdefX.envF (nf x qual st cc c) f s.heap.objs.size) S.kind hloc hns hlk ?_
  refine sup_chain (X := NdefX.ncx CX P w K mg base N (nf x qual st cc c) f A outer s H E) (Q := fun _ H1 => tr { nx := fun _ H' => Q .non H', rt := Q } (NdefX.startF N (.ref a :: vr) (wsOf D)) H1) T z I ha hta hq (fun v s' h => ?_) (he _) (hpl _)
  obtain ⟨y, H1, J, ry, q⟩ := h
  show PySem.wpAt _ _ _ (execs rest (NdefX.envF (nf x qual st cc c) f s.heap.objs.size)) _ _ _
  refine PySem.wpAt_of_wpAny (wpAny_mono (htr.run [] s' _ H1 _ J q) (fun fl s' hs => ?_) fun e s' hs => hs)
  have fin : ∀ {σ' : L2.St} {H' : Hp} {v : V} {u : Value}, Inv (NdefX.ncx CX P w K mg base N (nf x qual st cc c) f A outer s H E) [] σ' H' s' → L2.RelV v u → Q v H' → CE outer P w H s Q u s' :=
    fun {σ' H' v u} J rv q => ⟨v, H', J.os, J.bare, J.base, J.hok, rv, q⟩
  cases fl with
  | ret u =>
    obtain ⟨v, σ', H', J, rv, q⟩ := hs
    exact fin J rv q
  | next =>
    obtain ⟨σ', H', J, q⟩ := hs
    exact fin (v := V.non) (u := Value.none) J rfl q
  | brk =>
    obtain ⟨_, _, _, q⟩ := hs
    exact False.elim q
  | cont =>
    obtain ⟨_, _, _, q⟩ := hs
    exact False.elim q
end
end Sx
set_option Elab.async false
set_option linter.all false
set_option maxRecDepth 100000
set_option maxHeartbeats 4000000
/-! super().__init__(..) in the own __init__ of a plain class of one's own, below another one. -/
namespace Sx
open PySem PySem.Spec L2 PyProof.Rows
/-- what super().m(..) wants of the instance's class C, within D: g the def that is found -/
structure SupP (K : PySem.W.Frag) (C D g : Addr) (m : Str) : Prop where
  cC : ∃ cd, PySem.W.clsIn K C = some cd
  cD : ∃ oD cd, K.lookup D = some oD ∧ oD.data = .cls cd
  sub : PySem.W.subIn K (.ref C) (.ref D) = some true
  no : PySem.W.nsIn K cStatics "thirdparty.any" = some none
  at_ : PySem.W.ks_superIn K C D m = some (some (.ref g))
  fn : PySem.W.fnIn K g = true
  ob : ∃ o, K.lookup g = some o ∧ o.cls = .type "function"
section
variable {X : Cx} {pins : List (Addr × Obj)} {σ : L2.St} {H : Hp} {s : Shared} {a C D g dx : Addr} {fs : List (Str × V)} {CXa : CXT} {k : Nat} {gd : FuncData} {ns : List Str} {sp : Sp} {E : XK}
theorem sup_chainP {e0 : Expr} {es : List Expr} {ta : TA} {pos : Pos} {pl : Sem Bool} {Q : VK} {R : Value → Shared → Prop} (z : SupP X.K C D g "__init__") (I : Inv X pins σ H s) (e : H a = some (.ins C dx fs)) (ha : PA X (e0 :: es) ta)
    (FG : FnR X.prog X.w X.K X.mg X.base CXa k g sp) (hr : Room k X.A) (hx : Passes CXa X E)
    (hq : ta σ H fun ws H1 => sp (.ref a :: ws) H1 Q E) (hR : ∀ v s', EP X pins σ Q v s' → R v s')
    (he : starEach (e0 :: es) X.env = (false, eval e0 X.env) :: starEach es X.env := by rfl) (hpl : (backTo pos (starEach es X.env)).any (·.1) = false := by rfl) :
    wpAny (model X.prog X.w) X.A (isType (.ref D)) (fun b s₄ => b = true ∧ wpAny (model X.prog X.w) X.A (call (.type "super") [.ref D, .ref a]) (fun ov s₁ => wpAny (model X.prog X.w) X.A (getMethod ov "__init__" pl) (fun fx s₂ => wpAny (model X.prog X.w) X.A (callWith pos fx.1 fx.2 (backTo pos (starEach (e0 :: es) X.env)) []) R X.xe s₂) X.xe s₁) X.xe s₄) X.xe s := by
  obtain ⟨cdC, hcl⟩ := z.cC
  obtain ⟨oD, cd, hD, hDt⟩ := z.cD
  obtain ⟨og, hg, hgc⟩ := z.ob
  obtain ⟨mA, J, _⟩ := ins_get I.hok e
  obtain ⟨od, J, _⟩ := J.look
  have hD' := I.kIn _ _ hD
  obtain ⟨hp, gs, d, t, os⟩ := s
  refine PySem.ks_wpAny_isType_cls hD' hDt ⟨rfl, ?_⟩
  refine PySem.ks_wpAny_call_super hD' hDt J.at_ J.cls (fun c y => by have q := J.no; unfold PySem.W.notCls at q; rw [y] at q; cases q) (PySem.W.looks_subIn I.kIn z.sub) fun h1 hso k1 => ?_
  have I1 := ClX.pin_new (t' := t) I k1 (Nat.le_refl _) hso (fun v y => by cases y)
  have J1 : Heap.get? h1 a = _ := k1 _ _ J.at_
  have hm := z.at_
  unfold PySem.W.ks_superIn at hm
  rw [hcl, Option.bind_some] at hm
  refine PySem.ks_wpAny_getMethod_super hso (PySem.W.looks_opaque I1.kIn z.no) (l₀ := cdC.mro) (fun A Q E s k q => wpAny_bind ((PySem.W.looks_clsIn I1.kIn hcl) A _ E s k (wpAny_pure q))) rfl I1.kIn hm (I1.kIn _ _ hg) hgc (PySem.W.ks_ne I.kIn J hcl) rfl ?_
  have I2 : Inv X ((h1.objs.size, PySem.W.methodObj (.ref g) (.ref a)) :: _) σ H _ := ClX.met_new I1
  refine ClX.callwith_cm I2 (ClX.base_none I1 (Nat.le_refl _)) z.fn (thn (ha.run pos _ _ σ H _ I2 hq) fun us s3 hh => ?_) he hpl
  obtain ⟨vs, H2, I3, rv, q2⟩ := hh
  refine ⟨⟨ClX.pin_at I3, I3.kIn⟩, ?_⟩
  exact thn (ClX.run_cm FG hr hx I3 rv q2) fun v s' hv => hR v s' (ClX.unpinE hv)
end
end Sx
set_option Elab.async false
set_option linter.all false
set_option maxRecDepth 100000
set_option maxHeartbeats 4000000
namespace Sx
open PySem PySem.Spec L2 PyProof.Rows
section
variable {CX : CXT} {P : Program} {w : World} {K : PySem.W.Frag} {mg : Str → Option Value} {base : Heap} {N : List Str} {D f c cc : Addr} {k : Nat} {sp : Sp} {x qual p1 : Str} {ps : List Str} {st : Stmt} {fd : FuncData} {e0 : Expr} {es : List Expr} {rest : List Stmt} {q0 q1 q2 q3 q4 : Pos} {ar : Arg} {n : NdefX.NF}
/-- THE RULE: __init__ of a plain class whose first row is super().__init__(..) -/
theorem fn_supP (F : FunS K P.main.file x qual st D f c cc fd) (hn : n = nf x qual st cc c) (S : NdefX.NScope N (p1 :: ps) ["__class__"] (defScope st))
    (hbd : defBody st = .Expr (.Call (.Attribute (.Call (.Name "super" q0) [] [] q1) "__init__" q2) (e0 :: es) [] q3) q4 :: rest)
    (hk : (defScope st).names.lookup ("super" : Str) = some .globalImplicit)
    (har : ((defArgs st).posonlyargs ++ (defArgs st).args).head? = some ar) (harn : ar.arg = p1) (htop : (P.main.scope.names.lookup ("super" : Str)).isSome = false) (hsu : mg "super" = none)
    (len : ∀ vs H Q E, sp vs H Q E → vs.length = (p1 :: ps).length)
    (hbody : ∀ (A : Around) (outer : List Env) (s : Shared) (H : Hp) (vs : List V) (Q : VK) (E : XK), Room k (A.deeper (NdefX.envF n f s.heap.objs.size)) → sp vs H Q E →
      ∃ (ta : TA) (tr : TS), PA (NdefX.ncx CX P w K mg base N n f A outer s H E) (e0 :: es) ta ∧ PSs (NdefX.ncx CX P w K mg base N n f A outer s H E) rest tr ∧
        ∃ (a C dx g : Addr) (fs : List (Str × V)) (vr : List V) (k' : Nat) (sp' : Sp) (E' : XK) (CXa : CXT), vs = .ref a :: vr ∧ H a = some (.ins C dx fs) ∧ SupP K C D g "__init__" ∧ FnR P w K mg base CXa k' g sp' ∧
          Room k' (A.deeper (NdefX.envF n f s.heap.objs.size)) ∧ Passes CXa (NdefX.ncx CX P w K mg base N n f A outer s H E) E' ∧
          ta (NdefX.startF N vs (wsOf D)) H fun ws H1 => sp' (.ref a :: ws) H1 (fun _ H2 => tr { nx := fun _ H' => Q .non H', rt := Q } (NdefX.startF N vs (wsOf D)) H2) E')
    (he : ∀ L, starEach (e0 :: es) (NdefX.envF n f L) = (false, eval e0 (NdefX.envF n f L)) :: starEach es (NdefX.envF n f L) := by intro _; rfl) (hpl : ∀ L, (backTo q3 (starEach es (NdefX.envF n f L))).any (·.1) = false := by intro _; rfl)
    (hi : ∀ L, interactive (NdefX.envF n f L) = false := by intro _; rfl) (hsw : ∀ L, swapsWith (.Call (.Attribute (.Call (.Name "super" q0) [] [] q1) "__init__" q2) (e0 :: es) [] q3) none q4.line (NdefX.envF n f L) = pure false := by intro _; rfl) {pl : Nat → Sem Bool}
    (hm : ∀ L, eval (.Call (.Attribute (.Call (.Name "super" q0) [] [] q1) "__init__" q2) (e0 :: es) [] q3) (NdefX.envF n f L) = (do
      let ov ← attributeBase (.Call (.Name "super" q0) [] [] q1) "__init__" (NdefX.envF n f L) (eval (.Call (.Name "super" q0) [] [] q1) (NdefX.envF n f L))
      standAt q2.atName
      let (g, first) ← holding [ov] (getMethod ov "__init__" (pl L))
      callWith q3 g first (backTo q3 (starEach (e0 :: es) (NdefX.envF n f L))) []) := by intro _; rfl) :
    FnOk P w K mg base CX (k + 1) f fd (p1 :: ps) sp := by
  subst hn
  obtain ⟨oc, od, an, kV, doc, pm, ct, osl, rfl, lk⟩ := F.ex
  refine ⟨len, fun A outer s H args us vs Q E hr e0' hb r hsp => ?_⟩
  have hl := len _ _ _ _ hsp
  have KX : K.In s.heap := e0'.mod.kin.keeps fun b o e => (e0'.bs b o e).1
  have lim : s.heap.NoLimit := e0'.mod.nolimit.keeps fun b o e => (e0'.bs b o e).1
  obtain ⟨oCl, hcl, hcd⟩ := F.cell
  obtain ⟨oCd, vsC, tf, hco, hcf, hc2⟩ := F.code
  have C : NdefX.CellsAt [("__class__", cc)] ["__class__"] (wsOf D) s.heap H := by
    have hc : H cc = none := (e0'.bs cc oCl (e0'.mod.kin _ _ hcl)).2
    have hcell : s.heap.IsCell cc (some (.ref D)) := ⟨oCl, KX _ _ hcl, hcd⟩
    have one : ∀ {y : Str} {b : Addr}, List.lookup y [(("__class__" : Str), cc)] = some b → y = "__class__" ∧ b = cc := fun {y b} h => by
      rw [List.lookup_cons] at h
      cases q : y == ("__class__" : Str) with
      | true =>
        rw [q] at h
        exact ⟨eq_of_beq q, (Option.some.inj h).symm⟩
      | false =>
        rw [q] at h
        cases h
    refine ⟨rfl, fun y b h => ?_, fun x y b h1 h2 => ?_, fun i y h => ?_⟩
    · obtain ⟨rfl, rfl⟩ := one h
      exact ⟨hc, _, hcell⟩
    · rw [(one h1).1, (one h2).1]
    · match i, h with
      | 0, h =>
        have h : some ("__class__" : Str) = some y := h
        cases h
        refine ⟨cc, by rw [List.lookup_cons_self], fun v hv => ?_⟩
        have hv : some (some (V.ref D)) = some (some v) := hv
        cases hv
        exact ⟨.ref D, rfl, hcell⟩
  refine codeAny_call_function hr.depth (KX _ _ lk) rfl S.co S.gen rfl (PySem.W.codeRec_of KX F.cd) (hb _ _ _ _ ?_)
  refine wpAny_newFunctionEnv S.nocell (fun ⟨n, _⟩ hy => S.par n (List.of_mem_zip hy).1) (fun h₁ hns hsb => ⟨lim.fresh _ hsb, ?_⟩) S.kind
  have kp : ∀ b o, s.heap.get? b = some o → h₁.get? b = some o := fun b o e => hsb.extBut b o (Nat.ne_of_lt (Heap.lt_size e)) (Heap.get?_push_of_some _ e)
  show codeAny _ _ (.func (defBody st) (NdefX.envF (nf x qual st cc c) f s.heap.objs.size)) _ _
  obtain ⟨ta, tr, hta, htr, a, C', dx, g, fs, vr, k', sp', E', CXa, rfl, ha, z, FG, hrm, hpass, hq⟩ := hbody A outer s H vs Q E (hr.deeper _) hsp
  have I : Inv (NdefX.ncx CX P w K mg base N (nf x qual st cc c) f A outer s H E) [] (NdefX.startF N (.ref a :: vr) (wsOf D)) H { s with heap := h₁, toks := s.toks + ((p1 :: ps).zip us).length } := NdefX.inv_startN S hr.hd e0' hl r C hns kp
  refine PySem.ks_codeAny_funcAt ?_
  rw [hbd]
  refine PySem.ks_wpAt_execs_cons (PySem.ks_wpAt_Expr_any (PySem.ks_wpAt_MethodCall (pl := pl s.heap.objs.size) ?_ (hm _)) (hi _) (hsw _))
  have hfree : (NdefX.envF (nf x qual st cc c) f s.heap.objs.size).kindOf "__class__" = some .free := S.frk _ (List.mem_singleton.mpr rfl)
  have hloc : (NdefX.envF (nf x qual st cc c) f s.heap.objs.size).kindOf ar.arg = some .local := by
    rw [harn]
    exact S.par _ (List.mem_cons_self ..)
  refine PySem.ks_wpAt_super_base (ar := ar) (f := f) (cc := c) hk hfree rfl rfl (kp _ _ (KX _ _ lk)) rfl har rfl (kp _ _ (KX _ _ hco)) hcf hc2 (by simp) htop ?_
  -- the three names
  have hsup : ∀ {R : Value → Shared → Prop} {E' : Value → Shared → Prop}, R (.type "super") { s with heap := h₁, toks := s.toks + ((p1 :: ps).zip us).length } → wpAny (model P w) (A.deeper (NdefX.envF (nf x qual st cc c) f s.heap.objs.size)) (loadName (NdefX.envF (nf x qual st cc c) f s.heap.objs.size) "super") R E' { s with heap := h₁, toks := s.toks + ((p1 :: ps).zip us).length } := fun {R E'} h => by
    unfold loadName
    have hk' : (NdefX.envF (nf x qual st cc c) f s.heap.objs.size).kindOf "super" = some .globalImplicit := hk
    simp only [Env.blockKind, S.kind, hk', ScopeKind.isAnnotationScope, Bool.false_and, Bool.false_eq_true, if_false]
    obtain ⟨mb, h1, h2⟩ := I.mod.blt
    exact Calls.loadGlobal_builtin (I.mod.glob.keeps I.bk) hsu (h1.keeps I.bk) ((h2 "super" (by decide)).trans PyProof.Rows.Boot.«super») h
  refine hsup ⟨rfl, ?_⟩
  obtain ⟨c0, hc0, hv0⟩ := C.has 0 "__class__" rfl
  obtain ⟨u0, ru0, ⟨oq, hq1, hq2⟩⟩ := hv0 (.ref D) rfl
  cases ru0
  refine wpAny_loadName_free (env := NdefX.envF (nf x qual st cc c) f s.heap.objs.size) S.kind hfree hc0 ⟨oq, kp _ _ hq1, hq2⟩ ?_
  cases r with
  | @cons _ ua _ ur ra rr =>
  obtain rfl : ua = Value.ref a := ra
  have hlk : ((p1 :: ps).zip (Value.ref a :: ur)).reverse.lookup ar.arg = some (.ref a) := by
    rw [harn]
    have ndP : (p1 :: ps).Nodup := by
      have q := S.nd.sublist (List.take_sublist ((p1 :: ps).length + [("__class__" : Str)].length) N)
      rw [S.pre] at q
      exact (List.nodup_append.mp q).1
    exact NdefX.zip_look (i := 0) ndP rfl rfl
  refine wpAny_loadName_local (env := NdefX.envF (nf x qual st cc c) f s.heap.objs.size) S.kind hloc hns hlk ?_
  refine sup_chainP (X := NdefX.ncx CX P w K mg base N (nf x qual st cc c) f A outer s H E) (Q := fun _ H1 => tr { nx := fun _ H' => Q .non H', rt := Q } (NdefX.startF N (.ref a :: vr) (wsOf D)) H1) z I ha hta FG hrm hpass hq (fun v s' h => ?_) (he _) (hpl _)
  obtain ⟨y, H1, J, ry, q⟩ := h
  show PySem.wpAt _ _ _ (execs rest (NdefX.envF (nf x qual st cc c) f s.heap.objs.size)) _ _ _
  refine PySem.wpAt_of_wpAny (wpAny_mono (htr.run [] s' _ H1 _ J q) (fun fl s' hs => ?_) fun e s' hs => hs)
  have fin : ∀ {σ' : L2.St} {H' : Hp} {v : V} {u : Value}, Inv (NdefX.ncx CX P w K mg base N (nf x qual st cc c) f A outer s H E) [] σ' H' s' → L2.RelV v u → Q v H' → CE outer P w H s Q u s' :=
    fun {σ' H' v u} J rv q => ⟨v, H', J.os, J.bare, J.base, J.hok, rv, q⟩
  cases fl with
  | ret u =>
    obtain ⟨v, σ', H', J, rv, q⟩ := hs
    exact fin J rv q
  | next =>
    obtain ⟨σ', H', J, q⟩ := hs
    exact fin (v := V.non) (u := Value.none) J rfl q
  | brk =>
    obtain ⟨_, _, _, q⟩ := hs
    exact False.elim q
  | cont =>
    obtain ⟨_, _, _, q⟩ := hs
    exact False.elim q
end
end Sx
set_option Elab.async false
set_option linter.all false
set_option maxRecDepth 100000
set_option maxHeartbeats 4000000
/-! An instance of a class of one's own that is called by its own __call__. -/
namespace Sx
open PySem PySem.Spec L2 PyProof.Rows
section
variable {M : Model} {A : Around} {E : Value → Shared → Prop} {s : Shared} {y C : Addr} {pos : Pos} {R : Value → Shared → Prop}
theorem callWith_inst {env : Env} {e0 : Expr} {es : List Expr}
    (h : wpAny M A (spliced (backTo pos (starEach (e0 :: es) env))) (fun ws s1 => (∃ ox od, PySem.W.InstAt s1.heap y ox C od ∧ ox.data = .plain) ∧ wpAny M A (call (.ref y) ws) R E s1) E s)
    (he : starEach (e0 :: es) env = (false, eval e0 env) :: starEach es env := by rfl) (hpl : (backTo pos (starEach es env)).any (·.1) = false := by rfl) :
    wpAny M A (callWith pos (.ref y) [] (backTo pos (starEach (e0 :: es) env)) []) R E s := by
  rw [he] at h ⊢
  unfold callWith
  refine wpAny_bind (wpAny_holding (thn (Calls.evalArgs_plain (Q := fun b s1 => (∃ ox od, PySem.W.InstAt s1.heap y ox C od ∧ ox.data = .plain) ∧ b.kw = [] ∧ wpAny M A (call (.ref y) b.pos) R E s1) (thn h fun ws s1 q => ⟨q.1, rfl, q.2⟩)) fun b s1 q => wpAny_bind (wpAny_standAt ?_)))
  obtain ⟨⟨ox, od, J, hd⟩, hk, q⟩ := q
  have hall : ((((false, eval e0 env) :: backTo pos (starEach es env)).any (·.1)) || ([] : List (Option Str × Sem Value)).any (·.1.isNone)) = false := by
    rw [List.any_cons, hpl]
    rfl
  refine wpAny_bind ((PySem.W.kco_keeper (M := M) J hd).here ?_)
  obtain ⟨bp, bk⟩ := b
  dsimp only at hk q
  subst hk
  have fin : ∀ {t : Sem Value}, wpAny M A t R E s1 → wpAny M A (t >>= fun r => holding [r] point >>= fun _ => pure r) R E s1 := fun ht => wpAny_bind (thn ht fun r s2 hr => wpAny_bind (wpAny_holding (wpAny_point (wpAny_pure hr))))
  exact fin (wpAny_operateT q)
end
section
variable {X : Cx} {CXa : CXT} {k i : Nat} {C g : Addr} {gd : FuncData} {ns : List Str} {sp : Sp} {Eo : L2.St → XK} {x : Str} {p pos : Pos} {a0 : Expr} {as : List Expr} {ta : TA}
/-- what calling an instance of C wants -/
structure CallC (K : PySem.W.Frag) (C g : Addr) : Prop where
  at_ : PySem.W.findIn K (.ref C) "__call__" = some (some (.ref g))
  fn : PySem.W.isFn K (.ref g) = true
  fi : PySem.W.fnIn K g = true
/-- x(..), x a local that stands for an instance of C -/
def tCallI (C : Addr) (sp : Sp) (Eo : L2.St → XK) (i : Nat) (ta : TA) : TE := fun σ H Q => ∃ a : Addr, σ[i]? = some (some (.ref a)) ∧ ta σ H fun vs H1 => (∃ dx fs, H1 a = some (.ins C dx fs)) ∧ sp (.ref a :: vs) H1 Q (Eo σ)
theorem pe_callI (Z : CallC X.K C g) (FG : FnOk X.prog X.w X.K X.mg X.base CXa k g gd ns sp) (hr : Room k X.A) (hb : Binds X.K gd ns []) (hx : ∀ σ, PassesAt CXa X σ (Eo σ)) (hv : PE X (.Name x p) (tVar i)) (ha : PA X (a0 :: as) ta)
    (he : starEach (a0 :: as) X.env = (false, eval a0 X.env) :: starEach as X.env := by rfl) (hpl : (backTo pos (starEach as X.env)).any (·.1) = false := by rfl) : PE X (.Call (.Name x p) (a0 :: as) [] pos) (tCallI C sp Eo i ta) := by
  refine ⟨fun pins s σ H Q I h => ?_⟩
  obtain ⟨a, hσ, h⟩ := h
  refine wpAny_Call_Name_kw (thn (hv.run pins s σ H (fun u H1 => u = .ref a ∧ H1 = H) I ⟨_, hσ, rfl, rfl⟩) fun u s1 hh => ?_)
  obtain ⟨z, H1, J, ru, rfl, rfl⟩ := hh
  obtain rfl : u = Value.ref a := ru
  refine callWith_inst (C := C) (thn (ha.run pos pins s1 σ _ _ J h) fun us s2 hh => ?_) he hpl
  obtain ⟨vs, H2, J2, rv, ⟨dx, fs, hi⟩, q⟩ := hh
  obtain ⟨mA, O, _⟩ := ins_get J2.hok hi
  obtain ⟨od, O, _⟩ := O.look
  refine ⟨⟨_, _, O, rfl⟩, ?_⟩
  refine wpAny_call (PySem.W.kco_code (a := ⟨us, []⟩) J2.kIn O rfl Z.at_ Z.fn Z.fi ?_)
  have hl : (Value.ref a :: us).length = ns.length := by
    rw [← FG.len _ _ _ _ q, List.length_cons, List.length_cons, rv.length]
  have bt := hb s2 (Value.ref a :: us) J2.kIn (by rw [List.append_nil]; exact hl)
  rw [List.append_nil] at bt
  refine codeAny_mono (FG.run X.A X.stack s2 H2 ⟨Value.ref a :: us, []⟩ (Value.ref a :: us) (.ref a :: vs) Q (Eo σ) hr J2.env0 bt (.cons rfl rv) q) fun res s' hres => ?_
  match res, hres with
  | .error e, hres => exact hx σ pins H2 s2 e s' J2 hres
  | .ok (.ret u), hres => exact J2.after hres
  | .ok .next, hres => exact False.elim hres
  | .ok .brk, hres => exact False.elim hres
  | .ok .cont, hres => exact False.elim hres
end
end Sx
set_option Elab.async false
set_option linter.all false
set_option maxRecDepth 100000
set_option maxHeartbeats 4000000
/-! o.m() and o(..) where o's class is one of several: the reading says which. -/
namespace Sx
open PySem PySem.Spec L2 PyProof.Rows
section
variable {X : Cx} {ι : Type} {k : Nat} {D g : ι → Addr} {sp : ι → Sp} {o a0 : Expr} {as : List Expr} {m : Str} {pos apos : Pos} {to : TE} {ta : TA}
/-- o.m() -/
def tMethF (D : ι → Addr) (m : Str) (sp : ι → Sp) (E : XK) (to : TE) : TE := fun σ H Q => to σ H fun x H1 => ∃ (j : ι) (a dx : Addr) (fs : List (Str × V)), x = .ref a ∧ H1 a = some (.ins (D j) dx fs) ∧ fs.lookup m = none ∧ sp j [x] H1 Q E
theorem pe_methF0 {pl : Sem Bool} {CXa : CXT} {E : XK} (ho : PE X o to) (c : ∀ j, Cls X.K (D j)) (hm : ∀ j, Meth X.K (D j) m (g j)) (F : ∀ j, FnR X.prog X.w X.K X.mg X.base CXa k (g j) (sp j)) (hr : Room k X.A) (hx : Passes CXa X E)
    (ht : eval (.Call (.Attribute o m apos) [] [] pos) X.env = (do
      let ov ← eval o X.env
      standAt apos.atName
      let (f, first) ← holding [ov] (getMethod ov m pl)
      callWith pos f first (backTo pos (starEach [] X.env)) (backToKw pos (keywordEach [] X.env))) := by rfl) :
    PE X (.Call (.Attribute o m apos) [] [] pos) (tMethF D m sp E to) := by
  refine ⟨fun pins s σ H Q I h => PySem.W.methodCall_KW (pl := pl) (thn (ho.run pins s σ H _ I h) fun u s1 hh => ?_) ht⟩
  obtain ⟨x, H1, J, rx, j, a, dx, fs, rfl, hi, hl, q⟩ := hh
  obtain rfl : u = Value.ref a := rx
  refine getmeth_ok J hi (c j) (hm j) hl ?_
  exact PySem.W.callWith_K0 (first := [.ref a]) J.kIn (hm j).kp (wpAny_call (run_fnR (us := [.ref a]) (vs := [.ref a]) (F j) hr hx J (.cons rfl .nil) q))
/-- o(..) -/
def tCallF (D : ι → Addr) (sp : ι → Sp) (Eo : L2.St → XK) (to : TE) (ta : TA) : TE := fun σ H Q => to σ H fun x H1 => ∃ (j : ι) (a : Addr), x = .ref a ∧ ta σ H1 fun vs H2 => (∃ dx fs, H2 a = some (.ins (D j) dx fs)) ∧ sp j (.ref a :: vs) H2 Q (Eo σ)
theorem pe_callF {CXa : CXT} {Eo : L2.St → XK} (Z : ∀ j, CallC X.K (D j) (g j)) (F : ∀ j, FnR X.prog X.w X.K X.mg X.base CXa k (g j) (sp j)) (hr : Room k X.A) (hx : ∀ σ, PassesAt CXa X σ (Eo σ)) (ho : PE X o to) (ha : PA X (a0 :: as) ta)
    (hc : eval (.Call o (a0 :: as) [] pos) X.env = (do callWith pos (← eval o X.env) [] (backTo pos (starEach (a0 :: as) X.env)) (backToKw pos (keywordEach [] X.env))) := by rfl)
    (he : starEach (a0 :: as) X.env = (false, eval a0 X.env) :: starEach as X.env := by rfl) (hpl : (backTo pos (starEach as X.env)).any (·.1) = false := by rfl) : PE X (.Call o (a0 :: as) [] pos) (tCallF D sp Eo to ta) := by
  refine ⟨fun pins s σ H Q I h => Call_ (thn (ho.run pins s σ H _ I h) fun u s1 hh => ?_) hc⟩
  obtain ⟨x, H1, J, rx, j, a, rfl, q⟩ := hh
  obtain rfl : u = Value.ref a := rx
  refine callWith_inst (C := D j) (thn (ha.run pos pins s1 σ _ _ J q) fun us s2 hh => ?_) he hpl
  obtain ⟨vs, H2, J2, rv, ⟨dx, fs, hi⟩, q⟩ := hh
  obtain ⟨mA, O, _⟩ := ins_get J2.hok hi
  obtain ⟨od, O, _⟩ := O.look
  refine ⟨⟨_, _, O, rfl⟩, ?_⟩
  refine wpAny_call (PySem.W.kco_code (a := ⟨us, []⟩) J2.kIn O rfl (Z j).at_ (Z j).fn (Z j).fi ?_)
  refine codeAny_mono (F j X.A X.stack s2 H2 (Value.ref a :: us) (.ref a :: vs) Q (Eo σ) hr J2.env0 (.cons rfl rv) q) fun res s' hres => ?_
  match res, hres with
  | .error e, hres => exact hx σ pins H2 s2 e s' J2 hres
  | .ok (.ret u), hres => exact J2.after hres
  | .ok .next, hres => exact False.elim hres
  | .ok .brk, hres => exact False.elim hres
  | .ok .cont, hres => exact False.elim hres
end
end Sx
set_option Elab.async false
set_option linter.all false
set_option maxRecDepth 100000
set_option maxHeartbeats 4000000
/-! While an exception is handled: a comprehension over the empty text; o.m(), o(..). -/
namespace Sx
open PySem PySem.Spec PyProof.Rows L2 HotX L2H
section
variable {X : Cx}
theorem str_itH {pins : List (Addr × Obj)} {σ : L2.St} {H1 : Hp} {s1 : Shared} {tg : Expr} {R : It → Hp → Prop} {E : Value → Shared → Prop} {x : Str} {t : Tok} (I1 : L2.Inv X pins σ H1 s1) (hx : x.cps.size = 0) (q : R (Its x) H1) :
    wpAny (model X.prog X.w) X.A (pyIter (.str x t)) (PIEH X pins σ tg R) E s1 := by
  have fin : ∀ ty, ty = "str_ascii_iterator" ∨ ty = "str_iterator" → PIEH X pins σ tg R (.ref s1.heap.objs.size) { s1 with heap := s1.heap.push { cls := .type ty, data := .fields #[.str x t, .int 0 0] } } := fun ty hty =>
    ⟨s1.heap.objs.size, [s1.heap.objs.size], _, _, H1, rfl, I1.kept (t' := s1.toks) fun b o e => Heap.get?_push_of_some _ e, turn_strH _ x hx t ty hty, ⟨_, Heap.get?_push_size _ rfl, rfl, rfl⟩, fun b hb => by
      have e : b = s1.heap.objs.size := by simpa using hb
      subst e
      exact I1.fpOk (Nat.le_refl _) (I1.hok.fresh (Nat.le_refl _)), q⟩
  cases ha : x.cps.all (· < 128)
  · exact wpAny_pyIter_wide ha (fin _ (.inr rfl))
  · exact wpAny_pyIter_ascii ha (fin _ (.inl rfl))
def tLcE (te : TE) : TE := fun σ H Q => te σ H fun v H1 => ∃ x, v = .str x ∧ x.cps.size = 0 ∧ ∀ D, H1 D = none → Q (.ref D) (upd H1 D (.lst []))
theorem pe_lcEH {elt tg iter : Expr} {ifs : List Expr} {scope : Scope} {own : List (Str × Nat)} {pos : Pos} {te : TE} (hc : HotC X) (hi : PE X iter te) (ok : BlkOk X.N X.env.scope scope own)
    (hs : ∀ x, foldedSetIterable iter X.env x = pure x := by intro _; rfl) :
    PE X (.ListComp elt [⟨tg, iter, ifs, 0⟩] scope pos) (tLcE te) := by
  refine ⟨fun pins s σ H Q I h => ?_⟩
  rw [eval_ListComp]
  have hfree : ∀ y ∈ scope.names, y.2 = .free → ∃ c, X.env.cells.lookup y.1 = some c := fun y hy e => by
    rcases ok.free y hy e with k | k
    · exact I.ok.has _ (.inl k)
    · exact I.ok.has _ (.inr k)
  refine wpAny_comprehension_free (use := none) rfl hs (closure_ok hfree) ok.kind (fun y hy e => by rw [ok.uniq y hy, e])
    (thn (hi.run pins s σ H _ I h) fun xv s1 ⟨y0, H1, I1, r1, x0, ex0, hx0, q0⟩ => ?_)
  subst ex0
  obtain ⟨t0, rfl⟩ := r1
  refine thn (str_itH (tg := tg) (R := fun J H1 => J.stop 0 H1 ∧ ∀ D, H1 D = none → J.stop 0 (upd H1 D (.lst [])) ∧ Q (.ref D) (upd H1 D (.lst []))) I1 hx0 ⟨Nat.le_of_eq hx0, fun D hD => ⟨Nat.le_of_eq hx0, q0 D hD⟩⟩) fun itv s2 h2 => ?_
  obtain ⟨it, fp, tn, J, H2, e, I2, T, st2, f2, _, q⟩ := h2
  subst e
  refine wpAny_newObj_type (newEnv_comp ?_) (by show 0 ≤ sizeLine; decide)
  generalize hD : s2.heap.objs.size = D
  have hDn : H2 D = none := I2.hok.fresh (Nat.le_of_eq hD)
  obtain ⟨stop, q⟩ := q D hDn
  generalize hs3 : ({ s2 with heap := s2.heap.push { cls := .type "list", data := .seq ([] : List Value).toArray } } : Shared) = s3
  have I3 : Inv X pins σ (upd H2 D (.lst [])) s3 := by
    rw [← hs3]
    refine I2.laid (t' := s2.toks) (fun b o e => Heap.get?_push_of_some _ e) (Nat.le_of_eq hD) ⟨Nat.zero_le _, [], 0, .nil, ?_⟩
    rw [← hD]
    exact Heap.get?_push_size _ rfl
  have h3 : s3.heap = s2.heap.push { cls := .type "list", data := .seq ([] : List Value).toArray } := by rw [← hs3]
  have sz : ∀ b ∈ fp, b < s2.heap.objs.size := fun b hb => by
    obtain ⟨o, e, _⟩ := T.obj _ _ st2 b hb
    exact Heap.lt_size e
  have f3 : ∀ b ∈ fp, FpOk X pins (upd H2 D (.lst [])) b ∧ b < s3.heap.objs.size := fun b hb => by
    have hlt := sz b hb
    refine ⟨⟨?_, (f2 b hb).2⟩, by rw [h3, Heap.size_push]; exact Nat.lt_succ_of_lt hlt⟩
    rw [upd_ne (by rw [← hD]; exact Nat.ne_of_lt hlt)]
    exact (f2 b hb).1
  have st3 : tn 0 s3.heap := T.keep _ _ _ st2 fun b _ o e => by rw [h3]; exact Heap.get?_push_of_some _ e
  show codeAny _ _ (.compStart (.ListComp elt [⟨tg, iter, ifs, 0⟩] scope pos) 0 (.ref it) (.ref D) (compEnvC scope (cellsFrom (s3.heap.objs.size + 1) scope.names (cloFrom X.env.cells scope.names [])) s3.heap.objs.size X.env)) (compPost (model X.prog X.w) X.A X.xe none _ (.ref D) s3.heap.objs.size) { s3 with heap := pushCells (s3.heap.push { cls := .type "dict", data := .dict #[] }) scope.names }
  generalize compEnvC scope (cellsFrom (s3.heap.objs.size + 1) scope.names (cloFrom X.env.cells scope.names [])) s3.heap.objs.size X.env = ce
  generalize upd H2 D (.lst []) = H3 at I3 f3 stop q
  have kp : ∀ b o, s3.heap.get? b = some o → (pushCells (s3.heap.push { cls := .type "dict", data := .dict #[] }) scope.names).get? b = some o := fun b o e => pushCells_keeps _ _ _ _ (Heap.get?_push_of_some _ e)
  have hC : (pushCells (s3.heap.push { cls := .type "dict", data := .dict #[] }) scope.names).get? s3.heap.objs.size = some { cls := .type "dict", data := .dict #[] } := pushCells_keeps _ _ _ _ (Heap.get?_push_size _ rfl)
  have ns : (pushCells (s3.heap.push { cls := .type "dict", data := .dict #[] }) scope.names).Ns s3.heap.objs.size (fun _ => none) := Heap.Ns.keeps (Heap.Ns.new ..) fun b o e => pushCells_keeps _ _ _ _ e
  have fC : FpOk X pins H3 s3.heap.objs.size := I3.fpOk (Nat.le_refl _) (I3.hok.fresh (Nat.le_refl _))
  have I4 : Inv X pins σ H3 { s3 with heap := pushCells (s3.heap.push { cls := .type "dict", data := .dict #[] }) scope.names } := I3.kept (t' := s3.toks) kp
  have st4 : tn 0 (pushCells (s3.heap.push { cls := .type "dict", data := .dict #[] }) scope.names) := T.keep _ _ _ st3 fun b _ o e => kp b o e
  have I4' := I4.pinned (fp := [s3.heap.objs.size]) (fun b hb => by rw [List.mem_singleton.mp hb]; exact fC) (fun b hb => by rw [List.mem_singleton.mp hb]; exact ⟨_, hC, fun v z => nomatch z⟩)
  generalize hs4 : ({ s3 with heap := pushCells (s3.heap.push { cls := .type "dict", data := .dict #[] }) scope.names } : Shared) = s4 at I4 I4' ⊢
  have e4 : s4.heap = pushCells (s3.heap.push { cls := .type "dict", data := .dict #[] }) scope.names := by rw [← hs4]
  rw [← e4] at hC ns st4
  have loop : codeAny (model X.prog X.w) X.A (.compLoop (.ListComp elt [⟨tg, iter, ifs, 0⟩] scope pos) 0 (.ref it) (.ref D) ce) (compPost (model X.prog X.w) X.A X.xe none (EP X pins σ Q) (.ref D) s3.heap.objs.size) s4 := by
    refine compLoop_any (fun n s' => s' = s4) ?_ 0 rfl
    rintro n s5 rfl
    have td := T.done X rfl rfl rfl hc 0 _ s5 σ H3 (fun _ _ => False) I4' (fun b hb => ?_) st4 stop
    · refine thnF td fun r s6 ⟨hr, I6⟩ => ?_
      subst hr
      have hC6 : s6.heap.get? s3.heap.objs.size = some { cls := .type "dict", data := .dict #[] } := (I6.pin (s3.heap.objs.size, _) (List.mem_append_right _ (List.mem_append_right _ (mem_pinsAt (List.mem_singleton.mpr rfl) hC)))).1
      refine ⟨_, ns.at fun o e => by rw [hC] at e; rw [← e]; exact hC6, fun h'' sb => ?_⟩
      obtain ⟨f0, f1, f2', f3', f4, f5⟩ := fC
      exact ⟨.ref D, H3, I6.unpinned.turned (t' := s6.toks) (fun b o hb e => (sb.2 b hb).trans e) f0 f1 f3' f4 f5, rfl, q⟩
    · obtain ⟨a, b', c, d, e, f⟩ := (f3 b hb).1
      refine ⟨a, b', c, d, e, fun p hp => ?_⟩
      rcases List.mem_append.mp hp with hp | hp
      · exact f p (List.mem_append_left _ hp)
      rcases List.mem_append.mp hp with hp | hp
      · exact f p (List.mem_append_right _ hp)
      · have z := (of_pinsAt hp).1
        rw [List.mem_singleton.mp z]
        exact fun e => absurd (f3 b hb).2 (by rw [e]; exact Nat.lt_irrefl _)
  exact codeAny_compStart_list loop (T.self X.A 0 _ _ _ st4 loop)
/-- what a def let in while an exception is handled -/
theorem run_fnH0 {CXa : CXT} {k : Nat} {f : Addr} {fd : FuncData} {ps : List Str} {sp : Sp} {Eo : L2.St → XK} {pins : List (Addr × Obj)} {σ : L2.St} {H : Hp} {s : Shared} {Q : VK} {us : List Value} {vs : List V} (F : FnH X.prog X.w X.K X.mg X.base CXa k f fd ps sp) (hr : RoomH k X.A) (hc : HotC X) (hb : L2.Binds X.K fd ps []) (hx : PassesAt CXa X σ (Eo σ))
    (I : L2.Inv X pins σ H s) (r : Vals vs us) (h : sp vs H Q (Eo σ)) : codeAny (model X.prog X.w) X.A (.call (.ref f) ⟨us, []⟩) (fun r s' => match r with
      | .ok (.ret u) => EP X pins σ Q u s'
      | .error e => X.xe e s'
      | _ => False) s := by
  obtain ⟨p, hot, hp⟩ := hc
  have hl : us.length = ps.length := by rw [← r.length]; exact F.len _ _ _ _ h
  have b := hb s us I.kIn (by rw [List.append_nil]; exact hl)
  rw [List.append_nil] at b
  have P1 := I.pin p (List.mem_append_left _ hp)
  have hpin : PinOk X.stack H s p := ⟨P1.1, P1.2.1, fun hm => (List.mem_cons.mp (I.stkSub p.1 hm)).elim P1.2.2.1 P1.2.2.2.1, P1.2.2.2.2⟩
  refine codeAny_mono (F.run X.A X.stack s H ⟨us, []⟩ us vs Q (Eo σ) p hr hot hpin I.env0 b r h) fun r s' hq => ?_
  match r, hq with
  | .error e, hq => exact hx pins H s e s' I hq
  | .ok (.ret u), hq => exact I.after hq
  | .ok .next, hq => exact False.elim hq
  | .ok .brk, hq => exact False.elim hq
  | .ok .cont, hq => exact False.elim hq
/-- o.m() -/
def tMethH0 (C : Addr) (m : Str) (sp : Sp) (Eo : L2.St → XK) (to : TE) : TE := fun σ H Q => to σ H fun x H1 => ∃ (a dx : Addr) (fs : List (Str × V)), x = .ref a ∧ H1 a = some (.ins C dx fs) ∧ fs.lookup m = none ∧ sp [x] H1 Q (Eo σ)
theorem pe_methH0 {C f : Addr} {k : Nat} {fd : FuncData} {ps : List Str} {sp : Sp} {m : Str} {o : Expr} {to : TE} {pos apos : Pos} {pl : Sem Bool} {CXa : CXT} {Eo : L2.St → XK} (ho : PE X o to) (c : Cls X.K C) (hm : Meth X.K C m f) (F : FnH X.prog X.w X.K X.mg X.base CXa k f fd ps sp) (hr : RoomH k X.A) (hc : HotC X) (hb : L2.Binds X.K fd ps []) (hx : ∀ σ, PassesAt CXa X σ (Eo σ))
    (ht : eval (.Call (.Attribute o m apos) [] [] pos) X.env = (do
      let ov ← eval o X.env
      standAt apos.atName
      let (f, first) ← holding [ov] (getMethod ov m pl)
      callWith pos f first (backTo pos (starEach [] X.env)) (backToKw pos (keywordEach [] X.env))) := by rfl) :
    PE X (.Call (.Attribute o m apos) [] [] pos) (tMethH0 C m sp Eo to) := by
  refine ⟨fun pins s σ H Q I h => PySem.W.methodCall_KW (pl := pl) (thn (ho.run pins s σ H _ I h) fun u s1 hh => ?_) ht⟩
  obtain ⟨x, H1, J, rx, a, dx, fs, rfl, hi, hl, q⟩ := hh
  obtain rfl : u = Value.ref a := rx
  refine getmeth_ok J hi c hm hl ?_
  exact PySem.W.callWith_K0 (first := [.ref a]) J.kIn hm.kp (run_fnH (us := [.ref a]) (vs := [.ref a]) F hr hc hb (hx σ) J (.cons rfl .nil) q)
/-- o(..) -/
def tCallH (D : Addr) (sp : Sp) (Eo : L2.St → XK) (to : TE) (ta : TA) : TE := fun σ H Q => to σ H fun x H1 => ∃ a : Addr, x = .ref a ∧ ta σ H1 fun vs H2 => (∃ dx fs, H2 a = some (.ins D dx fs)) ∧ sp (.ref a :: vs) H2 Q (Eo σ)
theorem pe_callOH {D g : Addr} {k : Nat} {fd : FuncData} {ps : List Str} {sp : Sp} {o a0 : Expr} {as : List Expr} {to : TE} {ta : TA} {pos : Pos} {CXa : CXT} {Eo : L2.St → XK} (Z : CallC X.K D g) (F : FnH X.prog X.w X.K X.mg X.base CXa k g fd ps sp) (hr : RoomH k X.A) (hc : HotC X) (hb : L2.Binds X.K fd ps []) (hx : ∀ σ, PassesAt CXa X σ (Eo σ)) (ho : PE X o to) (ha : PA X (a0 :: as) ta)
    (hcl : eval (.Call o (a0 :: as) [] pos) X.env = (do callWith pos (← eval o X.env) [] (backTo pos (starEach (a0 :: as) X.env)) (backToKw pos (keywordEach [] X.env))) := by rfl)
    (he : starEach (a0 :: as) X.env = (false, eval a0 X.env) :: starEach as X.env := by rfl) (hpl : (backTo pos (starEach as X.env)).any (·.1) = false := by rfl) : PE X (.Call o (a0 :: as) [] pos) (tCallH D sp Eo to ta) := by
  refine ⟨fun pins s σ H Q I h => Call_ (thn (ho.run pins s σ H _ I h) fun u s1 hh => ?_) hcl⟩
  obtain ⟨x, H1, J, rx, a, rfl, q⟩ := hh
  obtain rfl : u = Value.ref a := rx
  refine callWith_inst (C := D) (thn (ha.run pos pins s1 σ _ _ J q) fun us s2 hh => ?_) he hpl
  obtain ⟨vs, H2, J2, rv, ⟨dx, fs, hi⟩, q⟩ := hh
  obtain ⟨mA, O, _⟩ := ins_get J2.hok hi
  obtain ⟨od, O, _⟩ := O.look
  refine ⟨⟨_, _, O, rfl⟩, ?_⟩
  refine wpAny_call (PySem.W.kco_code (a := ⟨us, []⟩) J2.kIn O rfl Z.at_ Z.fn Z.fi ?_)
  refine codeAny_mono (run_fnH0 (us := Value.ref a :: us) (vs := .ref a :: vs) F hr hc hb (hx σ) J2 (.cons rfl rv) q) fun res s' hres => ?_
  match res, hres with
  | .error e, hres => exact hres
  | .ok (.ret u), hres => exact hres
  | .ok .next, hres => exact False.elim hres
  | .ok .brk, hres => exact False.elim hres
  | .ok .cont, hres => exact False.elim hres
end
end Sx
set_option Elab.async false
set_option linter.all false
set_option maxRecDepth 100000
set_option maxHeartbeats 4000000
/-! C(e, ..) made by an own __init__, its context told (for HandS.ExcCtx); a def that raises so. -/
namespace Sx
open PySem PySem.Spec PyProof.Rows L2 HotX
section
variable {X : Cx} {e : Expr} {es : List Expr} {ta : TA} {p pos : Pos}
theorem pmk_oexC {CX : CXT} {x : Str} {C fI : Addr} {k : Nat} {fd : FuncData} {ps : List Str} {sp : Sp} {ds : List Value} {dvs : List V} (T : OexC X.K C) (iC : PySem.W.findIn X.K (.ref C) "__init__" = some (some (.ref fI))) (tI : PySem.W.typeIn X.K (.ref fI) = some (.type "function"))
    (F1 : FnOk X.prog X.w X.K X.mg X.base CX k fI fd ps sp) (hr : Room (k + 1) X.A) (hb : Binds X.K fd ps ds) (hd : Vals dvs ds) (hx : Passes CX X (fun _ _ _ => False)) (hg : Gl X x) (hm : X.mg x = some (.ref C)) (ha : PA X (e :: es) ta)
    (hdb : (x == ("__debug__" : Str)) = false := by decide) (he : starEach (e :: es) X.env = (false, eval e X.env) :: starEach es X.env := by rfl) (hpl : (backTo pos (starEach es X.env)).any (·.1) = false := by rfl) :
    L2N.PMk X (.Call (.Name x p) (e :: es) [] pos) (tMkO C sp dvs ta) := by
  intro pins s σ H Q I h
  obtain ⟨nm, q, N, bs, bm, sn, sub, ab, col, dd, k0, k1, k2, k3, k5, hC, hbm⟩ := T.cls
  refine wpAny_Call_Name_kw (ld_glob I hg hm ?_ hdb)
  refine PySem.W.callWith_K (h₀ := X.base) I.ok.mod.kin T.kC (thn (ha.run pos pins s σ H _ I h) fun us s1 ⟨vs, H1, I1, r1, hz, q1⟩ => ⟨I1.kIn, ?_⟩) he hpl
  show wpAny _ _ (call (.ref C) us) _ _ _
  obtain ⟨hp, g, dr, tk, os⟩ := s1
  have hsz : hp.objs.size ≤ hp.objs.size + 1 := Nat.le_succ _
  have hn : H1 (hp.objs.size + 1) = none := I1.hok.fresh hsz
  have hq := q1 (hp.objs.size + 1) hn
  have kk : ∀ b o, hp.get? b = some o → ((hp.push (PySem.W.kdv_tup us)).push (PySem.HandSPX.excO C hp.objs.size)).get? b = some o := fun b o e => Heap.get?_push_of_some _ (Heap.get?_push_of_some _ e)
  have hget : ((hp.push (PySem.W.kdv_tup us)).push (PySem.HandSPX.excO C hp.objs.size)).get? (hp.objs.size + 1) = some (PySem.HandSPX.excO C hp.objs.size) := by heap_get
  have I2 : Inv X pins σ (upd H1 (hp.objs.size + 1) (exo (hp.objs.size + 1) C none)) ⟨(hp.push (PySem.W.kdv_tup us)).push (PySem.HandSPX.excO C hp.objs.size), g, dr, tk, os⟩ :=
    I1.laid (t' := tk) (a := hp.objs.size + 1) (o := exo (hp.objs.size + 1) C none) (h' := (hp.push (PySem.W.kdv_tup us)).push (PySem.HandSPX.excO C hp.objs.size)) kk hsz (exo_ok hget)
  have r2 : Vals (V.ref (hp.objs.size + 1) :: (vs ++ dvs)) (Value.ref (hp.objs.size + 1) :: (us ++ ds)) := .cons rfl (r1.append hd)
  have hl : (Value.ref (hp.objs.size + 1) :: us ++ ds).length = ps.length := by
    have e := r2.length
    rw [F1.len _ _ _ _ hq] at e
    exact e.symm
  have hus : us.length ≤ sizeLine := by
    rw [← Paired.length r1, sizeLine_eq]
    omega
  refine wpAny_call (PySem.HandSPX.call_own F.excBase_ValueError (fun Y => PySem.HandSPX.refsVE_contains Y bm hbm) (I1.kIn _ _ hC) (PySem.W.looks_findIn I1.kIn iC) (fun self => PySem.W.bind_fn I1.kIn self tI) hus
    (codeAny_mono (F1.run _ X.stack _ _ ⟨Value.ref (hp.objs.size + 1) :: us, []⟩ (Value.ref (hp.objs.size + 1) :: (us ++ ds)) _ _ (fun _ _ _ => False) (hr.make C us []) (I2.env0.make C us []) (hb _ (Value.ref (hp.objs.size + 1) :: us) I2.kIn hl) r2 hq) fun r s' hq' => ?_))
  cases r with
  | error er => exact hx pins σ _ _ er s' I2 hq'
  | ok fl =>
    cases fl with
    | ret u =>
      obtain ⟨v, H2, os2, bare2, un2, hok2, rv, ev, d, fs, ea, ed, hd1, q2⟩ := hq'
      subst ev
      obtain ⟨h2, g2, d2, t2, os'⟩ := s'
      obtain ⟨t0, G, J, kG, ge, hoe, na⟩ := mk_end0 (d2 := d2) (t2 := t2) I1 hsz kk un2 hok2 os2 bare2 ea ed hd1
      refine ⟨rv, hp.objs.size + 1, _, _, ⟨G, g2, d2, t2, os'⟩, _, .ref C, some d, rfl, J, kG, ge, hoe, ⟨rfl, rfl, fun vs hv => ?_⟩, rfl, rfl, na, rfl, bare2, raises_own T.exC T.tyC, q2⟩
      cases hv
      rfl
    | next => exact False.elim hq'
    | brk => exact False.elim hq'
    | cont => exact False.elim hq'
end
section
variable {P : Program} {w : World} {K : PySem.W.Frag} {mg : Str → Option Value} {base : Heap}
/-- as Fun.okX, the context told -/
theorem okN {x qual : Str} {st : Stmt} {f : Addr} {fd : FuncData} {N ps : List Str} {k : Nat} {sp : Sp} (F : Fun K x qual st f fd) (S : FnScope N ps (defScope st)) (len : ∀ vs H Q E, sp vs H Q E → vs.length = ps.length)
    (hbody : ∀ (cdv : Value) (A : Around) (outer : List Env) (s : Shared) (H : Hp) (vs : List V) (Q : VK) (E : XK), Room k (A.deeper (envOfC qual (defScope st) s.heap.objs.size f cdv)) → sp vs H Q E →
      ∃ t, PSs (cxOf (L2N.CX P w) P w K mg base N qual (defScope st) f cdv A outer s H E) (defBody st) t ∧ t { nx := fun _ H' => Q .non H', rt := Q } (L2.start N vs) H) : FnOk P w K mg base (L2N.CX P w) (k + 1) f fd ps sp := by
  obtain ⟨oc, od, kV, doc, pm, an, cdv, ct, osl, rfl, lk, hcd⟩ := F.ex
  exact fn_of lk hcd S len fun A outer s H vs Q E hr hsp => hbody cdv A outer s H vs Q E hr hsp
/-- as Fun.ok, while an exception is handled -/
theorem okH {CXa : CXT} {x qual : Str} {st : Stmt} {f : Addr} {fd : FuncData} {N ps : List Str} {k : Nat} {sp : Sp} (F : Fun K x qual st f fd) (S : FnScope N ps (defScope st)) (len : ∀ vs H Q E, sp vs H Q E → vs.length = ps.length)
    (hbody : ∀ (cdv : Value) (A : Around) (outer : List Env) (s : Shared) (H : Hp) (vs : List V) (Q : VK) (E : XK) (p : Addr × Obj), L2H.Hot1 A p → L2H.RoomH k (A.deeper (envOfC qual (defScope st) s.heap.objs.size f cdv)) → sp vs H Q E →
      ∃ t, PSs (L2H.cxH CXa P w K mg base N qual (defScope st) f cdv A outer s H E p) (defBody st) t ∧ t { nx := fun _ H' => Q .non H', rt := Q } (L2.start N vs) H) : L2H.FnH P w K mg base CXa (k + 1) f fd ps sp := by
  obtain ⟨oc, od, kV, doc, pm, an, cdv, ct, osl, rfl, lk, hcd⟩ := F.ex
  exact L2H.fn_ofH lk hcd S len fun A outer s H vs Q E p hot hr hsp => hbody cdv A outer s H vs Q E p hot hr hsp
theorem hotC_of {CXa : CXT} {N : List Str} {qual : Str} {scope : Scope} {f : Addr} {cdv : Value} {A : Around} {outer : List Env} {s : Shared} {H : Hp} {E : XK} {p : Addr × Obj} (h : L2H.Hot1 A p) : L2H.HotC (L2H.cxH CXa P w K mg base N qual scope f cdv A outer s H E p) :=
  ⟨p, h, List.mem_singleton.mpr rfl⟩
end
end Sx
set_option Elab.async false
set_option linter.all false
set_option maxRecDepth 100000
set_option maxHeartbeats 4000000
/-! C(..) whose refusal is told at the slots of the frame. -/
namespace Sx
open PySem PySem.Spec L2 PyProof.Rows
section
variable {X : Cx} {CXa : CXT} {k : Nat} {g C : Addr} {gd : FuncData} {ns : List Str} {sp : Sp} {Eo : L2.St → XK} {x : Str} {p pos : Pos} {a0 : Expr} {as : List Expr} {ta : TA} {ws : List V} {dw : List Value}
def tMakeS (C : Addr) (sp : Sp) (ws : List V) (Eo : L2.St → XK) (ta : TA) : TE := fun σ H Q => ta σ H fun vs H1 => ∀ o dx, H1 o = none → H1 dx = none → dx ≠ o →
  sp (.ref o :: (vs ++ ws)) (upd (upd H1 dx (.own o)) o (.ins C dx [])) (fun v H2 => v = .non ∧ Q (.ref o) H2) (Eo σ)
theorem pe_makeS (M : Mk X.K C g) (F : FnOk X.prog X.w X.K X.mg X.base CXa k g gd ns sp) (hr : Room (k + 1) X.A) (hg : Gl X x) (hm : X.mg x = some (.ref C)) (hb : Binds X.K gd ns dw) (hd : Vals ws dw)
    (out : ∀ (σ : L2.St) (pins : List (Addr × Obj)) (H : Hp) (o dx : Addr) (s : Shared) (e : Value) (s' : Shared), Inv X pins σ (upd (upd H dx (.own o)) o (.ins C dx [])) s → CXa X.stack (upd (upd H dx (.own o)) o (.ins C dx [])) s (Eo σ) e s' → X.xe e s')
    (ha : PA X (a0 :: as) ta) (hdb : (x == ("__debug__" : Str)) = false := by decide) (he : starEach (a0 :: as) X.env = (false, eval a0 X.env) :: starEach as X.env := by rfl) (hpl : (backTo pos (starEach as X.env)).any (·.1) = false := by rfl) :
    PE X (.Call (.Name x p) (a0 :: as) [] pos) (tMakeS C sp ws Eo ta) := by
  refine ⟨fun pins s σ H Q I h => wpAny_Call_Name_kw (ld_glob I hg hm ?_ hdb)⟩
  refine PySem.W.callWith_K (h₀ := X.base) I.ok.mod.kin M.kp (thn (ha.run pos pins s σ H _ I h) fun us s1 hh => ?_) he hpl
  obtain ⟨vs, H1, J, rv, q⟩ := hh
  refine ⟨J.kIn, ?_⟩
  have n0 : s1.heap.objs.size ≠ s1.heap.objs.size + 1 := Nat.ne_of_lt (Nat.lt_succ_self _)
  have q1 := q _ _ (J.hok.fresh (Nat.le_succ s1.heap.objs.size)) (J.hok.fresh (Nat.le_refl s1.heap.objs.size)) n0
  have J2 := Inv.made (C := C) J
  have rall := Vals.append rv hd
  have r3 : Vals (V.ref (s1.heap.objs.size + 1) :: (vs ++ ws)) (Value.ref (s1.heap.objs.size + 1) :: (us ++ dw)) := .cons rfl rall
  have hlen : (Value.ref (s1.heap.objs.size + 1) :: us ++ dw).length = ns.length := r3.length.symm.trans (F.len _ _ _ _ q1)
  have body := F.run _ X.stack _ _ ⟨Value.ref (s1.heap.objs.size + 1) :: us, []⟩ (Value.ref (s1.heap.objs.size + 1) :: (us ++ dw)) _ _ _ (hr.make C us []) (J2.env0.make C us []) (hb _ (Value.ref (s1.heap.objs.size + 1) :: us) J2.kIn hlen) r3 q1
  refine wpAny_call (make_map (f := g) J.kIn M.makes M.init (beq_iff_eq.mp M.fn) (codeAny_mono body fun res s' hres => ?_))
  match res, hres with
  | .error e, hres => exact out σ pins _ _ _ _ e s' J2 hres
  | .ok (.ret u), hres =>
    obtain ⟨v, H3, J3, rw3, ev, q3⟩ := J2.after hres
    subst ev
    exact ⟨rw3, V.ref (s1.heap.objs.size + 1), H3, J3, rfl, q3⟩
  | .ok .next, hres => exact False.elim hres
  | .ok .brk, hres => exact False.elim hres
  | .ok .cont, hres => exact False.elim hres
theorem out_of {W : WX} (tk : Takes X W) (σ : L2.St) (pins : List (Addr × Obj)) (H : Hp) (o dx : Addr) (s : Shared) (e : Value) (s' : Shared) (I : Inv X pins σ (upd (upd H dx (.own o)) o (.ins C dx [])) s)
    (c : L2.CX X.prog X.w X.stack (upd (upd H dx (.own o)) o (.ins C dx [])) s (WE W σ) e s') : X.xe e s' := passAt tk σ pins _ s e s' I c
end
end Sx
set_option Elab.async false
set_option linter.all false
set_option maxRecDepth 100000
set_option maxHeartbeats 4000000
namespace Cl
open PySem PySem.Spec L2 PyProof.Rows
def cSet : List Nat := [115, 101, 116]
def cSign : List Nat := [115, 105, 103, 110]
def cAft : List Nat := [97, 102, 116, 101, 114]
theorem eSet : ("set" : Str) = S cSet := by decide +kernel
theorem eSign : ("sign" : Str) = S cSign := by decide +kernel
theorem eAft : ("after" : Str) = S cAft := by decide +kernel
/-- the own __init__ of BadStage at B -/
def spBS (B : Addr) : Sp := fun vs H Q _ => ∃ (a : Addr) (t : List Nat), vs = [.ref a, .str (S t)] ∧ H a = some (exo a B none) ∧ t.length ≤ 20 ∧
  ∀ d, H d = none → d ≠ a → Q .non (upd (upd H d (exd d [("what", .str (S t))])) a (exo a B (some d)))
/-- BadStage(what) is raised -/
def RaisesW (B : Addr) (H : Hp) (E : XK) (t : List Nat) : Prop := ∀ d H', Same H H' → H' d = some (.xd [("what", .str (S t))]) → E (.ref B) (some d) H'
/-- members of any name -/
def spMemX (C B : Addr) : Sp := fun vs H Q E => ∃ (p : Addr) (l v n : List Nat), vs = [.ref p, .str (S n)] ∧ AlphaAt C H p l v ∧ n.length ≤ 60 ∧
  (∀ m, setOf l v n = some m → ∀ H', Same H H' → Q (.str (S m)) H') ∧ (setOf l v n = none → RaisesW B H E cSet)
theorem same_raise {H : Hp} {a d B : Addr} {fs : List (Str × V)} (ha : H a = none) (hd : (upd H a (exo a B none)) d = none) (nd : d ≠ a) :
    Same H (upd (del (upd (upd (upd H a (exo a B none)) d (exd d fs)) a (exo a B (some d))) a) d (.xd fs)) := fun b o e => by
  have na : b ≠ a := ne_of_none e ha
  have nb' : b ≠ d := fun z => by
    rw [← z, upd_ne na, e] at hd
    cases hd
  rw [upd_ne nb', del_ne na, upd_ne na, upd_ne nb', upd_ne na]
  exact e
end Cl
namespace Cl.K54
open PySem PySem.Spec L2 PyProof.Rows
abbrev sBadI : Stmt := inClass (top 5) 0
section
variable {P : Program} {w : World} {K : PySem.W.Frag} {mg : Str → Option Value} {base : Heap} {B D f c cc : Addr} {fd : FuncData}
abbrev nBad : List Str := ["self", "what", "__class__"]
theorem scBad : NdefX.NScope nBad ["self", "what"] ["__class__"] (defScope sBadI) := NdefX.nscope_by (by decide +kernel)
theorem ok_bad (F : Sx.FunS K P.main.file "__init__" "BadStage.__init__" sBadI B f c cc fd) (T : OexC K B) (z : Sx.SupE K B B) (hno : PySem.W.findIn K (.ref B) "what" = some none) (htop : (P.main.scope.names.lookup ("super" : Str)).isSome = false) (hs : mg "super" = none) :
    FnOk P w K mg base CX0 1 f fd ["self", "what"] (spBS B) := by
  refine Sx.fn_sup (k := 0) (n := Sx.nf "__init__" "BadStage.__init__" sBadI cc c) (N := nBad) F rfl scBad rfl rfl rfl rfl htop hs (fun vs H Q E h => ?_) (fun A outer s H vs Q E hr h => ?_)
  · obtain ⟨a, t, rfl, _⟩ := h
    rfl
  · obtain ⟨a, t, rfl, ha, ht, k⟩ := h
    refine ⟨_, _, pa_cons (pe_joined (.cons pe_str (.cons (pe_fmt (pv 1)) .nil))) pa_nil, pss_one (ps_ost (pv 0) (pv 1)), a, B, _, rfl, ha, T, z, ?_⟩
    have e1 : (Str.empty ++ ("wrong stage: " : Str)) = S [119, 114, 111, 110, 103, 32, 115, 116, 97, 103, 101, 58, 32] := by decide +kernel
    refine ⟨_, rfl, ?_, _, rfl, .inl ⟨_, rfl, le_S (by omega : _ ≤ 60), _, rfl, ?_, ?_⟩⟩
    · rw [e1]
      exact le_S (by decide : _ ≤ 13)
    · rw [e1, S_app]
      exact le_S (by rw [List.length_append]; show 13 + _ ≤ _; omega : _ ≤ 60)
    refine ⟨(by show 1 ≤ 1000; decide), ha, _, rfl, _, rfl, a, B, rfl, T, hno, .inl ⟨ha, fun d hd nd => k d hd nd⟩⟩
end
section
variable {P : Program} {w : World} {K : PySem.W.Frag} {mg : Str → Option Value} {base : Heap} {C B : Addr}
/-- what the raise wants of BadStage -/
structure BadS (P : Program) (w : World) (K : PySem.W.Frag) (mg : Str → Option Value) (base : Heap) (B f : Addr) (fd : FuncData) : Prop where
  T : OexC K B
  iC : PySem.W.findIn K (.ref B) "__init__" = some (some (.ref f))
  tI : PySem.W.typeIn K (.ref f) = some (.type "function")
  ok : FnOk P w K mg base CX0 1 f fd ["self", "what"] (spBS B)
  bd : Binds K fd ["self", "what"] []
  gl : mg "BadStage" = some (.ref B)
abbrev nMembers : List Str := ["self", "name", "named", "listed"]
theorem scMembers : FnScope nMembers ["self", "name"] (defScope sMembers) := ⟨rfl, rfl, rfl, by decide +kernel, rfl, by decide +kernel, by decide +kernel⟩
theorem ok_membersX {f fL fB : Addr} {fd fdL fdB : FuncData} (F : Fun K "members" "Alphabet.members" sMembers f fd) (T : ATxt K mg C)
    (GL : FnOk P w K mg base CX0 2 fL fdL ["self", "signs"] (spListed C)) (bL : Binds K fdL ["self", "signs"] []) (mL : Meth K C "_can_be_listed" fL) (BX : BadS P w K mg base B fB fdB) : FnOk P w K mg base (L2N.CX P w) 3 f fd ["self", "name"] (spMemX C B) := by
  refine Sx.okN F scMembers (fun vs H Q E h => ?_) (fun cdv A outer s H vs Q E hr h => ?_)
  · obtain ⟨p, l, v, n, rfl, _⟩ := h
    rfl
  · obtain ⟨p, l, v, n, rfl, ⟨dx, hp⟩, hn, kS, kE⟩ := h
    have hu := hu_of hr
    obtain ⟨uJ, cJ⟩ := T.cJ
    refine ⟨_, pss_cons (ps_set (i := 2) scMembers.nd rfl (.inl rfl) (pe_disp (pps_cons pe_str (pe_fld (pv 0) rfl) (pps_cons pe_str (pe_fld (pv 0) rfl) (pps_cons pe_str (pe_fld (pv 0) rfl) (pps_cons pe_str (pe_fld (pv 0) rfl) (pps_cons pe_str (pe_con (pv 0) rfl) pps_nil))))) rfl rfl (fun z => by cases z) (by decide)))
      (pss_cons (ps_if (pt_cmp (pc_din hu (pv 1) (pv 2))) (pss_one (ps_ret (pe_dget hu (pv 2) (pv 1) (fun _ _ => rfl)))) pss_nil)
      (pss_cons (ps_set (i := 3) scMembers.nd rfl (.inl rfl) (pe_slice sl_str (pv 1) (po_some pe_int) (po_some (pe_un un_neg pe_int))))
      (pss_cons (ps_if (PW.pt (pw_or (pt_cmpR op_ne (pv 1) (pe_joined (.cons pe_str (.cons (pe_fmt (pv 3)) (.cons pe_str .nil)))) (nomark _)) (pw_or1 (pt_not (pt_val (pe_meth (pv 0) T.cl mL GL hr bL .nil pass0 (pa_cons (pv 3) pa_nil))))))) (pss_one (L2N.ps_raise (W := fun cls d _ H => E cls d H) rfl (L2N.takes_of rfl rfl rfl rfl) (Sx.pmk_oexC BX.T BX.iC BX.tI BX.ok (hr.mono (by decide)) BX.bd .nil pass0 rfl BX.gl (pa_cons pe_str pa_nil)))) pss_nil)
      (pss_one (ps_ret (pv 3)))))), ?_⟩
    intro d hd
    have hpd : upd H d (.dK []) p = some (.ins C dx (af l v)) := same_new hd _ _ hp
    refine ⟨_, rfl, p, C, dx, _, _, rfl, hpd, T.cl, T.nS, af_signs l v, _, rfl, p, C, dx, _, _, rfl, hpd, T.cl, T.nL, af_letters l v, _, rfl, p, C, dx, _, _, rfl, hpd, T.cl, T.nV, af_vowels l v,
      _, rfl, p, C, dx, _, _, rfl, hpd, T.cl, T.nC, af_cons l v, _, rfl, p, C, dx, _, .str (S [45]), uJ, rfl, hpd, T.cl, cJ, rfl, upd_same, namedD l v, rfl, by show 5 ≤ 15; decide, ?_⟩
    rw [merge_named, upd_upd]
    refine ⟨_, rfl, _, rfl, d, _, rfl, DGet.k (k := Sum.inr (S n)) upd_same, _, rfl, ?_⟩
    rw [val_named]
    have s1 : Same H (upd H d (.dK (namedD l v))) := same_new hd
    have eD := val_named l v n
    cases e : namedSet l v n with
    | some m' =>
      have em : setOf l v n = some m' := by
        unfold setOf
        rw [e]
      rw [e] at eD
      refine ⟨_, rfl, _, rfl, d, .str (S m'), rfl, ?_, kS _ em _ s1⟩
      have z := DGet.k (k := Sum.inr (S n)) (upd_same (H := H) (a := d) (o := .dK (namedD l v)))
      rw [eD] at z
      exact z
    | none =>
      have hm := named_none e
      have hl := inner_le n
      have raise : ∀ H2 : Hp, Same H H2 → setOf l v n = none → 1 ≤ 1000 ∧ ∀ a, H2 a = none → spBS B (V.ref a :: ([V.str ("set" : Str)] ++ [])) (upd H2 a (exo a B none))
          (fun v H3 => v = .non ∧ ∃ (d : Addr) (fs : List (Str × V)), H3 a = some (exo a B (some d)) ∧ H3 d = some (exd d fs) ∧ H2 d = none ∧ E (.ref B) (some d) (upd (del H3 a) d (.xd fs))) (fun _ _ _ => False) := by
        intro H2 s2 hn0
        refine ⟨by decide, fun a ha => ?_⟩
        rw [eSet]
        refine ⟨a, cSet, rfl, upd_same, by decide, fun d hd nd => ⟨rfl, d, _, upd_same, ?_, ?_, kE hn0 d _ (s2.trans (same_raise ha hd nd)) upd_same⟩⟩
        · rw [upd_ne nd]
          exact upd_same
        · rw [upd_ne nd] at hd
          exact hd
      refine ⟨_, rfl, 1, rfl, 1, rfl, -1, rfl, S n, rfl, le_S hn, ?_⟩
      rw [cut_inner]
      refine ⟨_, rfl, _, rfl, by decide +kernel, _, rfl, .inl ⟨_, rfl, le_S (by omega : _ ≤ 60), _, rfl, ?_, _, rfl, ?_, rfl, _, rfl, ?_⟩⟩
      · show ((Str.empty ++ ("[" : Str)) ++ S (inner n)).length ≤ sizeLine
        rw [bracket1]
        exact le_S (by rw [List.length_cons]; omega : _ ≤ 61)
      · show (((Str.empty ++ ("[" : Str)) ++ S (inner n)) ++ ("]" : Str)).length ≤ sizeLine
        rw [brackets]
        exact le_S (by rw [List.length_cons, List.length_append]; show (inner n).length + 1 + 1 ≤ 62; omega : _ ≤ 62)
      rw [brackets, vs_eq]
      by_cases c : n = 91 :: (inner n ++ [93])
      · rw [decide_eq_true c]
        refine iteF ⟨_, rfl, p, dx, _, rfl, s1 _ _ hp, rfl, _, rfl, p, l, v, inner n, rfl, ⟨dx, s1 _ _ hp⟩, by omega, fun H2 s2 => ⟨_, rfl, ?_⟩⟩
        by_cases c2 : isList l (inner n) = true
        · rw [c2]
          rw [if_pos ⟨c, c2⟩] at hm
          exact iteF ⟨_, rfl, kS _ hm _ (s1.trans s2)⟩
        · rw [Bool.not_eq_true] at c2
          rw [c2]
          rw [if_neg (fun z => by rw [c2] at z; exact absurd z.2 (by decide))] at hm
          exact iteT (raise _ (s1.trans s2) hm)
      · rw [decide_eq_false c]
        rw [if_neg (fun z => c z.1)] at hm
        exact iteT (raise _ s1 hm)
end
end Cl.K54
set_option Elab.async false
set_option linter.all false
set_option maxRecDepth 100000
set_option maxHeartbeats 4000000
/-! A method with super() that has keyword-only parameters with defaults. -/
namespace Sx
open PySem PySem.Spec L2 PyProof.Rows
section
variable {K : PySem.W.Frag} {file x qual : Str} {st : Stmt} {D f c cc : Addr} {fd : FuncData} {ps ks : List Str} {n : Nat} {kws : List (Str × V)}
/-- every keyword-only parameter is written -/
theorem FunS.kbinds (F : FunS K file x qual st D f c cc fd)
    (h : ∀ (kV doc pm : Value) (an : Option Addr) (ct : Value) (us ws : List Value), us.length = n → ws.length = ks.length → bindArgs (PySem.W.fnX x qual (defArgs st) (defBody st) (defScope st) [("__class__", cc)] .none kV doc pm an (.ref c) ct) ⟨us, ks.zip ws⟩ = pure (ps.zip (us ++ ws))) :
    KBn K fd ps n ks (fun us ws => us ++ ws) (fun vs zs => vs ++ zs) := by
  obtain ⟨oc, od, an, kV, doc, pm, ct, osl, rfl, lk⟩ := F.ex
  exact ⟨fun s us ws _ h1 h2 => BindsTo.of_eq (h kV doc pm an ct us ws h1 h2), fun r1 r2 => r1.append r2⟩
/-- none is written -/
theorem FunS.binds0 (F : FunS K file x qual st D f c cc fd) (kd : KwdV K fd.kwdefaults kws) (hk : kws ≠ []) (hn : n + kws.length = ps.length)
    (h : ∀ (M : Addr) (doc pm : Value) (an : Option Addr) (ct : Value) (us ks : List Value), us.length = n → ks.length = kws.length →
      KwChain M ((kws.map (·.1)).zip ks) (bindArgs (PySem.W.fnX x qual (defArgs st) (defBody st) (defScope st) [("__class__", cc)] .none (.ref M) doc pm an (.ref c) ct) ⟨us, []⟩) (ps.zip (us ++ ks))) : ∃ ds, Vals (kws.map (·.2)) ds ∧ Binds K fd ps ds := by
  obtain ⟨oc, od, an, kV, doc, pm, ct, osl, rfl, lk⟩ := F.ex
  rcases (show KwdV K kV kws from kd) with e | ⟨M, rfl, hq⟩
  · exact absurd e hk
  · obtain ⟨ks, hl, rk, hks⟩ := kwd_vals hq
    refine ⟨ks, rk, fun s us X hlen => ?_⟩
    have l2 : us.length = n := by
      rw [List.length_append, hl] at hlen
      omega
    exact BindsTo.of_looks fun M' => KwChain.looks X hks (h M doc pm an ct us ks l2 hl)
def kwdF (K : PySem.W.Frag) (f : Addr) (kws : List (Str × V)) : Bool := match K.lookup f with
  | some ⟨_, _, .func fd, _⟩ => He.kwdB K fd.kwdefaults kws
  | _ => false
theorem kwdF_ok (F : FunS K file x qual st D f c cc fd) (h : kwdF K f kws = true) : KwdV K fd.kwdefaults kws := by
  obtain ⟨oc, od, an, kV, doc, pm, ct, osl, rfl, lk⟩ := F.ex
  unfold kwdF at h
  rw [lk] at h
  exact He.kwdB_ok h
end
end Sx
set_option Elab.async false
set_option linter.all false
set_option maxRecDepth 100000
set_option maxHeartbeats 4000000
/-! super().m(..) anywhere in a def's rows: evaluation at a known activation. -/
namespace Sx
open PySem PySem.Spec L2 PyProof.Rows
structure PEa (X : Cx) (bd : List Stmt) (e : Expr) (t : TE) : Prop where
  run : ∀ (pins : List (Addr × Obj)) (s : Shared) (σ : L2.St) (H : Hp) (Q : VK), Inv X pins σ H s → t σ H Q → PySem.wpAt (model X.prog X.w) X.A (.func bd X.env) (eval e X.env) (EP X pins σ Q) X.xe s
structure PSa (X : Cx) (bd : List Stmt) (st : Stmt) (t : TS) : Prop where
  run : ∀ (pins : List (Addr × Obj)) (s : Shared) (σ : L2.St) (H : Hp) (D : Ends), Inv X pins σ H s → t D σ H → PySem.wpAt (model X.prog X.w) X.A (.func bd X.env) (exec st X.env) (SP X pins D) X.xe s
structure PSsa (X : Cx) (bd : List Stmt) (st : List Stmt) (t : TS) : Prop where
  run : ∀ (pins : List (Addr × Obj)) (s : Shared) (σ : L2.St) (H : Hp) (D : Ends), Inv X pins σ H s → t D σ H → PySem.wpAt (model X.prog X.w) X.A (.func bd X.env) (execs st X.env) (SP X pins D) X.xe s
section
variable {X : Cx} {bd : List Stmt}
theorem psa_of {st : Stmt} {t : TS} (h : PS X st t) : PSa X bd st t := ⟨fun pins s σ H D I q => PySem.wpAt_of_wpAny (h.run pins s σ H D I q)⟩
theorem pssa_of {sts : List Stmt} {t : TS} (h : PSs X sts t) : PSsa X bd sts t := ⟨fun pins s σ H D I q => PySem.wpAt_of_wpAny (h.run pins s σ H D I q)⟩
theorem pssa_cons {st : Stmt} {rest : List Stmt} {t u : TS} (h1 : PSa X bd st t) (h2 : PSsa X bd rest u) : PSsa X bd (st :: rest) (tSeq t u) := by
  refine ⟨fun pins s σ H D I h => ?_⟩
  refine PySem.ks_wpAt_execs_cons (PySem.ks_wpAt_mono (h1.run pins s σ H { D with nx := u D } I h) (fun f s1 q => ?_) fun _ _ z => z)
  cases f with
  | next =>
    obtain ⟨σ', H', I', q⟩ := q
    exact h2.run pins s1 σ' H' D I' q
  | ret v => exact q
  | brk => exact q
  | cont => exact q
theorem pssa_one {st : Stmt} {t : TS} (h : PSa X bd st t) : PSsa X bd [st] (tSeq t tNext) := pssa_cons h (pssa_of pss_nil)
theorem psa_ret {e : Expr} {te : TE} {pos : Pos} (he : PEa X bd e te) : PSa X bd (.Return (some e) pos) (tRet te) := by
  refine ⟨fun pins s σ H D I h => ?_⟩
  exact PySem.ks_wpAt_Return_some (PySem.ks_wpAt_mono (he.run pins s σ H _ I h) (fun v s1 ⟨x, H1, I1, r1, q1⟩ => ⟨x, σ, H1, I1, r1, q1⟩) fun _ _ z => z)
theorem wpAt_Assign_stores {M : Model} {A : Around} {c : Code} {E : Value → Shared → Prop} {s : Shared} {env : Env} {targets : List Expr} {value : Expr} {pos : Pos} {Q : Flow → Shared → Prop}
    (h : PySem.wpAt M A c (eval value env) (fun v s₁ => wpAny M A (assignAll v ((assignEach targets env).map (·.2))) (fun _ => Q .next) E s₁) E s)
    (hs : swapsWithSole targets value pos.line env = pure false) (hw : swappedStores targets value env = pure none) :
    PySem.wpAt M A c (exec (.Assign targets value pos) env) Q E s := by
  rw [exec_Assign_arm]
  refine PySem.wpAt_bind (PySem.wpAt_of_wpAny (wpAny_standAt ?_))
  rw [hs]
  refine PySem.wpAt_bind (PySem.wpAt_of_wpAny (wpAny_pure ?_))
  rw [if_neg (by decide)]
  refine PySem.wpAt_bind (PySem.ks_wpAt_mono h (fun v s₁ h₁ => ?_) fun _ _ x => x)
  rw [hw]
  refine PySem.wpAt_of_wpAny (wpAny_bind (wpAny_pure ?_))
  show wpAny M A (do assignAll v ((assignEach targets env).map (·.2)); pure .next) Q E s₁
  exact wpAny_bind (wpAny_mono h₁ (fun _ _ x => wpAny_pure x) fun _ _ x => x)
theorem psa_asg {tg e : Expr} {te : TE} {g : TG} {pos : Pos} (he : PEa X bd e te) (hg : PG X tg g) (hs : swapsWithSole [tg] e pos.line X.env = pure false := by rfl) (hw : swappedStores [tg] e X.env = pure none := by rfl)
    (h1 : (assignEach [tg] X.env).map (·.2) = [assign tg X.env] := by rfl) : PSa X bd (.Assign [tg] e pos) (tAsg te g) := by
  refine ⟨fun pins s σ H D I h => ?_⟩
  refine wpAt_Assign_stores (PySem.ks_wpAt_mono (he.run pins s σ H _ I h) (fun v s1 ⟨x, H1, I1, r1, q1⟩ => ?_) fun _ _ z => z) hs hw
  rw [h1]
  exact thn (hg.run pins s1 σ H1 x v _ I1 r1 q1) fun _ s2 q => q
theorem psa_expr {e : Expr} {te : TE} {pos : Pos} (he : PEa X bd e te) (hi : interactive X.env = false := by rfl) (hs : swapsWith e none pos.line X.env = pure false := by rfl) : PSa X bd (.Expr e pos) (tDrop te) := by
  refine ⟨fun pins s σ H D I h => ?_⟩
  exact PySem.ks_wpAt_Expr_any (PySem.ks_wpAt_mono (he.run pins s σ H _ I h) (fun v s1 ⟨x, H1, I1, r1, q1⟩ => ⟨σ, H1, I1, q1⟩) fun _ _ z => z) hi hs
theorem pea_op {op : Operator} {r : R2} {a b : Expr} {ta tb : TE} {pos : Pos} (ho : OpR X (binaryOp op) r) (ha : PEa X bd a ta) (hb : PE X b tb) : PEa X bd (.BinOp a op b pos) (tOp r ta tb) := by
  refine ⟨fun pins s σ H Q I h => ?_⟩
  refine PySem.ks_wpAt_BinOp (PySem.ks_wpAt_mono (ha.run pins s σ H _ I h) (fun v s1 ⟨x, H1, I1, rx, q1⟩ => ?_) fun _ _ z => z)
  exact thn (hb.run pins s1 σ H1 _ I1 q1) fun u s2 ⟨y, H2, I2, ry, q2⟩ => ho pins s2 σ H2 x y v u Q I2 rx ry q2
theorem spliced_at {M : Model} {A : Around} {c : Code} {E : Value → Shared → Prop} {s : Shared} {x : Sem Value} {rest : List (Bool × Sem Value)} {Q : List Value → Shared → Prop}
    (h : PySem.wpAt M A c x (fun v s₁ => wpAny M A (spliced rest) (fun vs => Q (v :: vs)) E s₁) E s) : PySem.wpAt M A c (spliced ((false, x) :: rest)) Q E s := by
  show PySem.wpAt M A c (x >>= fun v => (pure [v] : Sem (List Value)) >>= fun here => (holding here (spliced rest)) >>= fun r => pure (here ++ r)) Q E s
  refine PySem.wpAt_bind (PySem.ks_wpAt_mono h (fun v s1 q => PySem.wpAt_of_wpAny (wpAny_bind (wpAny_pure (wpAny_bind (wpAny_holding (thn q fun vs s2 z => wpAny_pure z)))))) fun _ _ z => z)
theorem pea_tup {a : Expr} {es : List Expr} {te : TE} {t : TA} {x1} {pos : Pos} (ha : PEa X bd a te) (hr : PA X es t) (hs : starEach (a :: es) X.env = (false, eval a X.env) :: starEach es X.env := by rfl) : PEa X bd (.Tuple (a :: es) x1 pos) (tTup (tCons te t)) := by
  refine ⟨fun pins s σ H Q I h => ?_⟩
  rw [arm_eval_Tuple, hs]
  refine PySem.wpAt_bind (PySem.wpAt_of_wpAny (wpAny_standAt ?_))
  refine PySem.wpAt_bind ?_
  show PySem.wpAt _ _ _ (spliced ((false, eval a X.env) :: backTo pos (starEach es X.env))) _ _ _
  refine spliced_at (PySem.ks_wpAt_mono (ha.run pins _ σ H _ (I.tok _) h) (fun v s1 ⟨x, H1, I1, r1, q1⟩ => ?_) fun _ _ z => z)
  refine thn (hr.run pos pins s1 σ H1 _ I1 q1) fun us s2 ⟨xs, H2, I2, r2, z, q2⟩ => PySem.wpAt_of_wpAny ?_
  have r : Vals (x :: xs) (v :: us) := .cons r1 r2
  refine wpAny_newTuple ?_ (by rw [← r.length]; exact z)
  have hf : H2 s2.heap.objs.size = none := I2.hok.fresh (Nat.le_refl _)
  refine ⟨.ref s2.heap.objs.size, upd H2 s2.heap.objs.size (.tup (x :: xs)), I2.laid (t' := s2.toks) (fun b u e => Heap.get?_push_of_some _ e) (Nat.le_refl _) ?_, rfl, q2 _ hf⟩
  exact ⟨z, v :: us, r, ⟨_, Heap.get?_push_size _ rfl, rfl, _, rfl⟩⟩
end
/-! ### super() -/
section
variable {X : Cx} {pins : List (Addr × Obj)} {σ : L2.St} {H : Hp} {s : Shared} {a C D g dx : Addr} {fs : List (Str × V)} {m : Str}
theorem sup_chainM {cw : Value → List Value → Sem Value} {pl : Sem Bool} {Q : VK} (hn : (m == ("__class__" : Str)) = false) (z : SupP X.K C D g m) (I : Inv X pins σ H s) (e : H a = some (.ins C dx fs))
    (hq : ∀ (u : Addr) (p : Addr × Obj) (s1 : Shared), Inv X ((u, PySem.W.methodObj (.ref g) (.ref a)) :: p :: pins) σ H s1 → X.base.get? u = none → wpAny (model X.prog X.w) X.A (cw (.ref u) []) (EP X (p :: pins) σ Q) X.xe s1) :
    wpAny (model X.prog X.w) X.A (isType (.ref D)) (fun b s₄ => b = true ∧ wpAny (model X.prog X.w) X.A (call (.type "super") [.ref D, .ref a]) (fun ov s₁ => wpAny (model X.prog X.w) X.A (getMethod ov m pl) (fun fx s₂ => wpAny (model X.prog X.w) X.A (cw fx.1 fx.2) (EP X pins σ Q) X.xe s₂) X.xe s₁) X.xe s₄) X.xe s := by
  obtain ⟨cdC, hcl⟩ := z.cC
  obtain ⟨oD, cd, hD, hDt⟩ := z.cD
  obtain ⟨og, hg, hgc⟩ := z.ob
  obtain ⟨mA, J, _⟩ := ins_get I.hok e
  obtain ⟨od, J, _⟩ := J.look
  have hD' := I.kIn _ _ hD
  obtain ⟨hp, gs, d, t, os⟩ := s
  refine PySem.ks_wpAny_isType_cls hD' hDt ⟨rfl, ?_⟩
  refine PySem.ks_wpAny_call_super hD' hDt J.at_ J.cls (fun c y => by have q := J.no; unfold PySem.W.notCls at q; rw [y] at q; cases q) (PySem.W.looks_subIn I.kIn z.sub) fun h1 hso k1 => ?_
  have I1 := ClX.pin_new (t' := t) I k1 (Nat.le_refl _) hso (fun v y => by cases y)
  have J1 : Heap.get? h1 a = _ := k1 _ _ J.at_
  have hm := z.at_
  unfold PySem.W.ks_superIn at hm
  rw [hcl, Option.bind_some] at hm
  refine PySem.ks_wpAny_getMethod_super hso (PySem.W.looks_opaque I1.kIn z.no) (l₀ := cdC.mro) (fun A Q E s k q => wpAny_bind ((PySem.W.looks_clsIn I1.kIn hcl) A _ E s k (wpAny_pure q))) rfl I1.kIn hm (I1.kIn _ _ hg) hgc (PySem.W.ks_ne I.kIn J hcl) hn ?_
  have I2 : Inv X ((h1.objs.size, PySem.W.methodObj (.ref g) (.ref a)) :: _) σ H _ := ClX.met_new I1
  exact thn (hq _ _ _ I2 (ClX.base_none I1 (Nat.le_refl _))) fun v s' hv => ClX.unpinE hv
/-- what super() wants of the context: the class within which the def stands, the def, its code -/
structure SupCx (X : Cx) (D f c : Addr) (i : Nat) : Prop where
  ks : X.env.kindOf "super" = some .globalImplicit
  kc : X.env.kindOf "__class__" = some .free
  fu : X.env.func = some f
  fd : ∃ (of : Obj) (fd : FuncData) (ar : Arg), X.K.lookup f = some of ∧ of.data = .func fd ∧ (fd.params.posonlyargs ++ fd.params.args).head? = some ar ∧ ar.arg = ("self" : Str)
  se : X.N[0]? = some ("self" : Str) ∧ X.env.kindOf "self" = some .local
  co : X.env.code = .ref c
  cd : ∃ (oc : Obj) (vs : Array Value) (tf : Tok), X.K.lookup c = some oc ∧ oc.data = .fields vs ∧ vs[2]? = some (.str X.prog.main.file tf)
  top : (X.prog.main.scope.names.lookup ("super" : Str)).isSome = false
  mg : X.mg "super" = none
  ci : X.N[i]? = some ("__class__" : Str)
theorem ld_slot {i : Nat} {x : Str} {v : V} {R : Value → Shared → Prop} (I : Inv X pins σ H s) (hN : X.N[i]? = some x) (e : σ[i]? = some (some v)) (hk : X.env.kindOf x = some .local ∨ X.env.kindOf x = some .free) (hcd : (x == ("__classdict__" : Str)) = false)
    (h : ∀ u, RelV v u → R u s) : wpAny (model X.prog X.w) X.A (loadName X.env x) R X.xe s := by
  obtain ⟨m, hn, hl⟩ := I.loc
  obtain ⟨u, r, l⟩ := hl i x v hN e (by rcases hk with hk | hk; exact Or.inl hk; exact Or.inr (Or.inr hk))
  rcases l with ⟨hk, hm⟩ | ⟨hk, c, hc, hcell⟩
  · exact wpAny_loadName_local I.ok.kind hk hn hm (h u r)
  · rcases hk with hk | hk
    · exact wpAny_loadName_cell I.ok.kind hk hc hcell (h u r)
    · exact wpAny_loadName_free I.ok.kind hk hc hcell (h u r) hcd
theorem ld_super {R : Value → Shared → Prop} (I : Inv X pins σ H s) (hk : X.env.kindOf "super" = some .globalImplicit) (hsu : X.mg "super" = none) (h : R (.type "super") s) : wpAny (model X.prog X.w) X.A (loadName X.env "super") R X.xe s := by
  unfold loadName
  simp only [Env.blockKind, I.ok.kind, hk, ScopeKind.isAnnotationScope, Bool.false_and, Bool.false_eq_true, if_false]
  obtain ⟨mb, h1, h2⟩ := I.mod.blt
  exact Calls.loadGlobal_builtin (by rw [I.ok.glob]; exact I.mod.glob.keeps I.bk) hsu (by rw [I.ok.blt]; exact h1.keeps I.bk) ((h2 "super" (by decide)).trans PyProof.Rows.Boot.«super») h
end
/-- super().m(..) within D, self an instance of D -/
def tSup (D : Addr) (i : Nat) (sp : Sp) (E : XK) (ta : TA) : TE := fun σ H Q => ∃ (a dx : Addr) (fs : List (Str × V)), σ[0]? = some (some (.ref a)) ∧ σ[i]? = some (some (.ref D)) ∧ H a = some (.ins D dx fs) ∧ ta σ H fun ws H1 => sp (.ref a :: ws) H1 Q E
def tSupK (D : Addr) (i n m : Nat) (sp : Sp) (gV : List V → List V → List V) (E : XK) (ta tk : TA) : TE := fun σ H Q => ∃ (a dx : Addr) (fs : List (Str × V)), σ[0]? = some (some (.ref a)) ∧ σ[i]? = some (some (.ref D)) ∧ H a = some (.ins D dx fs) ∧
  ta σ H fun vs H1 => tk σ H1 fun zs H2 => vs.length = n ∧ zs.length = m ∧ sp (gV (.ref a :: vs) zs) H2 Q E
section
variable {X : Cx} {bd : List Stmt} {D f c g : Addr} {i k : Nat} {m : Str} {sp : Sp} {E : XK} {CXa : CXT} {e0 : Expr} {es : List Expr} {ta : TA} {q0 q1 q2 q3 : Pos} {pl : Sem Bool}
theorem sup_at {cw : Value → List Value → Sem Value} {pins : List (Addr × Obj)} {s : Shared} {σ : L2.St} {H : Hp} {Q : VK} {a dx : Addr} {fs : List (Str × V)} {whole : Sem Value} (S : SupCx X D f c i) (z : SupP X.K D D g m) (hn : (m == ("__class__" : Str)) = false) (I : Inv X pins σ H s)
    (h0 : σ[0]? = some (some (.ref a))) (hi : σ[i]? = some (some (.ref D))) (e : H a = some (.ins D dx fs))
    (hq : ∀ (u : Addr) (p : Addr × Obj) (s1 : Shared), Inv X ((u, PySem.W.methodObj (.ref g) (.ref a)) :: p :: pins) σ H s1 → X.base.get? u = none → wpAny (model X.prog X.w) X.A (cw (.ref u) []) (EP X (p :: pins) σ Q) X.xe s1) :
    PySem.wpAt (model X.prog X.w) X.A (.func bd X.env) (attributeBase (.Call (.Name "super" q0) [] [] q1) m X.env whole) (fun ov s₁ => wpAny (model X.prog X.w) X.A (getMethod ov m pl) (fun fx s₂ => wpAny (model X.prog X.w) X.A (cw fx.1 fx.2) (EP X pins σ Q) X.xe s₂) X.xe s₁) X.xe s := by
  obtain ⟨of, fd, ar, lk, hfd, har, hs⟩ := S.fd
  obtain ⟨oc, vs, tf, hco, hcf, hc2⟩ := S.cd
  refine PySem.ks_wpAt_super_base (ar := ar) (f := f) (cc := c) S.ks S.kc hn S.fu (I.kIn _ _ lk) hfd har S.co (I.kIn _ _ hco) hcf hc2 (by simp) S.top ?_
  refine ld_super I S.ks S.mg ⟨rfl, ?_⟩
  refine ld_slot I S.ci hi (.inr S.kc) (by decide) fun u r => ?_
  obtain rfl : u = Value.ref D := r
  rw [hs]
  refine ld_slot I S.se.1 h0 (.inl S.se.2) (by decide) fun u r => ?_
  obtain rfl : u = Value.ref a := r
  exact sup_chainM hn z I e hq
theorem pea_sup (S : SupCx X D f c i) (z : SupP X.K D D g m) (F : FnR X.prog X.w X.K X.mg X.base CXa k g sp) (hr : Room k X.A) (hx : Passes CXa X E) (ha : PA X (e0 :: es) ta) (hn : (m == ("__class__" : Str)) = false := by decide)
    (he : starEach (e0 :: es) X.env = (false, eval e0 X.env) :: starEach es X.env := by rfl) (hpl : (backTo q3 (starEach es X.env)).any (·.1) = false := by rfl)
    (hm : eval (.Call (.Attribute (.Call (.Name "super" q0) [] [] q1) m q2) (e0 :: es) [] q3) X.env = (do
      let ov ← attributeBase (.Call (.Name "super" q0) [] [] q1) m X.env (eval (.Call (.Name "super" q0) [] [] q1) X.env)
      standAt q2.atName
      let (g, first) ← holding [ov] (getMethod ov m pl)
      callWith q3 g first (backTo q3 (starEach (e0 :: es) X.env)) []) := by rfl) :
    PEa X bd (.Call (.Attribute (.Call (.Name "super" q0) [] [] q1) m q2) (e0 :: es) [] q3) (tSup D i sp E ta) := by
  refine ⟨fun pins s σ H Q I h => ?_⟩
  obtain ⟨a, dx, fs, h0, hi, e, h⟩ := h
  refine PySem.ks_wpAt_MethodCall (pl := pl) (sup_at S z hn I h0 hi e (cw := fun f first => callWith q3 f first (backTo q3 (starEach (e0 :: es) X.env)) []) fun u p s1 J hb => ?_) hm
  refine ClX.callwith_cm J hb z.fn (thn (ha.run q3 _ _ σ H _ J h) fun us s3 hh => ?_) he hpl
  obtain ⟨vs, H2, I3, rv, q⟩ := hh
  exact ⟨⟨ClX.pin_at I3, I3.kIn⟩, ClX.run_cm F hr hx I3 rv q⟩
theorem pea_sup0 (S : SupCx X D f c i) (z : SupP X.K D D g m) (F : FnR X.prog X.w X.K X.mg X.base CXa k g sp) (hr : Room k X.A) (hx : Passes CXa X E) (hn : (m == ("__class__" : Str)) = false := by decide)
    (hm : eval (.Call (.Attribute (.Call (.Name "super" q0) [] [] q1) m q2) [] [] q3) X.env = (do
      let ov ← attributeBase (.Call (.Name "super" q0) [] [] q1) m X.env (eval (.Call (.Name "super" q0) [] [] q1) X.env)
      standAt q2.atName
      let (g, first) ← holding [ov] (getMethod ov m pl)
      callWith q3 g first (backTo q3 (starEach [] X.env)) []) := by rfl) :
    PEa X bd (.Call (.Attribute (.Call (.Name "super" q0) [] [] q1) m q2) [] [] q3) (tSup D i sp E tNil) := by
  refine ⟨fun pins s σ H Q I h => ?_⟩
  obtain ⟨a, dx, fs, h0, hi, e, h⟩ := h
  refine PySem.ks_wpAt_MethodCall (pl := pl) (sup_at S z hn I h0 hi e (cw := fun f first => callWith q3 f first (backTo q3 (starEach [] X.env)) []) fun u p s1 J hb => ?_) hm
  exact PySem.W.callWith_M0 (K := X.K) (first := []) ⟨ClX.pin_at J, J.kIn⟩ z.fn (ClX.run_cm (us := []) (vs := []) F hr hx J .nil h)
theorem run_cmK {n : Nat} {ks ps : List Str} {fd : FuncData} {gg : List Value → List Value → List Value} {gV : List V → List V → List V} {q a : Addr} {Q : VK} {us ws : List Value} {vs zs : List V} {pins : List (Addr × Obj)} {s : Shared} {σ : L2.St} {H : Hp}
    (F : FnOk X.prog X.w X.K X.mg X.base CXa k g fd ps sp) (hr : Room k X.A) (hb : KBn X.K fd ps (n + 1) ks gg gV) (hx : Passes CXa X E) (I : Inv X ((q, PySem.W.methodObj (.ref g) (.ref a)) :: pins) σ H s)
    (r : Vals vs us) (rz : Vals zs ws) (l1 : vs.length = n) (l2 : zs.length = ks.length) (h : sp (gV (.ref a :: vs) zs) H Q E) : wpAny (model X.prog X.w) X.A (call (.ref q) us (ks.zip ws)) (EP X pins σ Q) X.xe s := by
  have r1 : Vals (V.ref a :: vs) (Value.ref a :: us) := .cons rfl r
  have r2 := hb.rel r1 rz
  have e1 : (Value.ref a :: us).length = n + 1 := r1.length.symm.trans (congrArg Nat.succ l1)
  have z : wpAny (model X.prog X.w) X.A (call (.ref q) us (ks.zip ws)) (EP X ((q, PySem.W.methodObj (.ref g) (.ref a)) :: pins) σ Q) X.xe s := by
    refine wpAny_call (PySem.W.method_call (ClX.pin_at I) (codeAny_mono (F.run X.A X.stack s H ⟨Value.ref a :: us, ks.zip ws⟩ (gg (Value.ref a :: us) ws) (gV (.ref a :: vs) zs) Q E hr I.env0 (hb.to s (Value.ref a :: us) ws I.kIn e1 (rz.length.symm.trans l2)) r2 h) fun r s' hq => ?_))
    cases r with
    | error e => exact hx _ σ H s e s' I hq
    | ok fl =>
      cases fl with
      | ret u => exact I.after hq
      | next => exact False.elim hq
      | brk => exact False.elim hq
      | cont => exact False.elim hq
  exact thn z fun _ _ y => ClX.unpinE y
theorem pea_supK {n : Nat} {ks ps : List Str} {kws : List Keyword} {tk : TA} {fd : FuncData} {gg : List Value → List Value → List Value} {gV : List V → List V → List V} (S : SupCx X D f c i) (z : SupP X.K D D g m) (F : FnOk X.prog X.w X.K X.mg X.base CXa k g fd ps sp) (hr : Room k X.A) (hb : KBn X.K fd ps (n + 1) ks gg gV) (hx : Passes CXa X E)
    (ha : PA X (e0 :: es) ta) (hkw : PK X kws tk) (hn : (m == ("__class__" : Str)) = false := by decide)
    (hall : (backToKw q3 (keywordEach kws X.env)).all (·.1.isSome) = true := by rfl) (hks : (backToKw q3 (keywordEach kws X.env)).filterMap (·.1) = ks := by rfl)
    (he : starEach (e0 :: es) X.env = (false, eval e0 X.env) :: starEach es X.env := by rfl)
    (hpl : ((backTo q3 (starEach (e0 :: es) X.env)).any (·.1) || (backToKw q3 (keywordEach kws X.env)).any (·.1.isNone)) = false := by rfl)
    (hm : eval (.Call (.Attribute (.Call (.Name "super" q0) [] [] q1) m q2) (e0 :: es) kws q3) X.env = (do
      let ov ← attributeBase (.Call (.Name "super" q0) [] [] q1) m X.env (eval (.Call (.Name "super" q0) [] [] q1) X.env)
      standAt q2.atName
      let (g, first) ← holding [ov] (getMethod ov m pl)
      callWith q3 g first (backTo q3 (starEach (e0 :: es) X.env)) (backToKw q3 (keywordEach kws X.env))) := by rfl) :
    PEa X bd (.Call (.Attribute (.Call (.Name "super" q0) [] [] q1) m q2) (e0 :: es) kws q3) (tSupK D i n ks.length sp gV E ta tk) := by
  refine ⟨fun pins s σ H Q I h => ?_⟩
  obtain ⟨a, dx, fs, h0, hi, e, h⟩ := h
  rw [hm]
  refine PySem.wpAt_bind (PySem.ks_wpAt_mono (sup_at S z hn I h0 hi e (pl := pl) (Q := Q) (cw := fun f first => callWith q3 f first (backTo q3 (starEach (e0 :: es) X.env)) (backToKw q3 (keywordEach kws X.env))) fun u p s1 J hb' => ?_) (fun ov s₁ h₁ => PySem.wpAt_of_wpAny (wpAny_bind (wpAny_standAt (wpAny_bind (wpAny_holding (wpAny_mono h₁ (fun fx s₂ h₂ => ?_) fun _ _ x => x)))))) fun _ _ x => x)
  · refine PySem.W.callWith_of (P := PySem.W.MethP X.K u g (.ref a)) hpl (PySem.W.keeps_M z.fn) (evalArgs_kw2 hall (thn (ha.run q3 _ _ σ H _ J h) fun us s3 hh => ?_) he)
    obtain ⟨vs, H2, I3, rv, q⟩ := hh
    refine thn (hkw.run q3 _ _ σ H2 _ I3 q) fun ws s4 hh => ?_
    obtain ⟨zs, H3, I4, rz, l1, l2, q⟩ := hh
    refine ⟨⟨ClX.pin_at I4, I4.kIn⟩, ?_⟩
    rw [hks]
    exact run_cmK F hr hb hx I4 rv rz l1 l2 q
  · exact h₂
end
section
variable {CX : CXT} {P : Program} {w : World} {K : PySem.W.Frag} {mg : Str → Option Value} {base : Heap} {N : List Str} {D f c cc : Addr} {k : Nat} {sp : Sp} {x qual p1 : Str} {ps : List Str} {st : Stmt} {fd : FuncData} {ar : Arg} {n : NdefX.NF}
/-- THE RULE: a def that says super() -/
theorem fn_at (F : FunS K P.main.file x qual st D f c cc fd) (hn : n = nf x qual st cc c) (S : NdefX.NScope N (p1 :: ps) ["__class__"] (defScope st))
    (len : ∀ vs H Q E, sp vs H Q E → vs.length = (p1 :: ps).length)
    (hbody : ∀ (A : Around) (outer : List Env) (s : Shared) (H : Hp) (vs : List V) (Q : VK) (E : XK), Room k (A.deeper (NdefX.envF n f s.heap.objs.size)) → sp vs H Q E →
      ∃ tr : TS, PSsa (NdefX.ncx CX P w K mg base N n f A outer s H E) (defBody st) (defBody st) tr ∧ tr { nx := fun _ H' => Q .non H', rt := Q } (NdefX.startF N vs (wsOf D)) H) :
    FnOk P w K mg base CX (k + 1) f fd (p1 :: ps) sp := by
  subst hn
  obtain ⟨oc, od, an, kV, doc, pm, ct, osl, rfl, lk⟩ := F.ex
  refine ⟨len, fun A outer s H args us vs Q E hr e0' hb r hsp => ?_⟩
  have hl := len _ _ _ _ hsp
  have KX : K.In s.heap := e0'.mod.kin.keeps fun b o e => (e0'.bs b o e).1
  have lim : s.heap.NoLimit := e0'.mod.nolimit.keeps fun b o e => (e0'.bs b o e).1
  obtain ⟨oCl, hcl, hcd⟩ := F.cell
  have C : NdefX.CellsAt [("__class__", cc)] ["__class__"] (wsOf D) s.heap H := by
    have hc : H cc = none := (e0'.bs cc oCl (e0'.mod.kin _ _ hcl)).2
    have hcell : s.heap.IsCell cc (some (.ref D)) := ⟨oCl, KX _ _ hcl, hcd⟩
    have one : ∀ {y : Str} {b : Addr}, List.lookup y [(("__class__" : Str), cc)] = some b → y = "__class__" ∧ b = cc := fun {y b} h => by
      rw [List.lookup_cons] at h
      cases q : y == ("__class__" : Str) with
      | true =>
        rw [q] at h
        exact ⟨eq_of_beq q, (Option.some.inj h).symm⟩
      | false =>
        rw [q] at h
        cases h
    refine ⟨rfl, fun y b h => ?_, fun x y b h1 h2 => ?_, fun i y h => ?_⟩
    · obtain ⟨rfl, rfl⟩ := one h
      exact ⟨hc, _, hcell⟩
    · rw [(one h1).1, (one h2).1]
    · match i, h with
      | 0, h =>
        have h : some ("__class__" : Str) = some y := h
        cases h
        refine ⟨cc, by rw [List.lookup_cons_self], fun v hv => ?_⟩
        have hv : some (some (V.ref D)) = some (some v) := hv
        cases hv
        exact ⟨.ref D, rfl, hcell⟩
  refine codeAny_call_function hr.depth (KX _ _ lk) rfl S.co S.gen rfl (PySem.W.codeRec_of KX F.cd) (hb _ _ _ _ ?_)
  refine wpAny_newFunctionEnv S.nocell (fun ⟨n, _⟩ hy => S.par n (List.of_mem_zip hy).1) (fun h₁ hns hsb => ⟨lim.fresh _ hsb, ?_⟩) S.kind
  have kp : ∀ b o, s.heap.get? b = some o → h₁.get? b = some o := fun b o e => hsb.extBut b o (Nat.ne_of_lt (Heap.lt_size e)) (Heap.get?_push_of_some _ e)
  show codeAny _ _ (.func (defBody st) (NdefX.envF (nf x qual st cc c) f s.heap.objs.size)) _ _
  obtain ⟨tr, htr, q⟩ := hbody A outer s H vs Q E (hr.deeper _) hsp
  have I : Inv (NdefX.ncx CX P w K mg base N (nf x qual st cc c) f A outer s H E) [] (NdefX.startF N vs (wsOf D)) H { s with heap := h₁, toks := s.toks + ((p1 :: ps).zip us).length } := NdefX.inv_startN S hr.hd e0' hl r C hns kp
  refine PySem.ks_codeAny_funcAt ?_
  refine PySem.ks_wpAt_mono (htr.run [] _ _ H _ I q) (fun fl s' hs => ?_) fun e s' hs => hs
  have fin : ∀ {σ' : L2.St} {H' : Hp} {v : V} {u : Value}, Inv (NdefX.ncx CX P w K mg base N (nf x qual st cc c) f A outer s H E) [] σ' H' s' → L2.RelV v u → Q v H' → CE outer P w H s Q u s' :=
    fun {σ' H' v u} J rv q => ⟨v, H', J.os, J.bare, J.base, J.hok, rv, q⟩
  cases fl with
  | ret u =>
    obtain ⟨v, σ', H', J, rv, q⟩ := hs
    exact fin J rv q
  | next =>
    obtain ⟨σ', H', J, q⟩ := hs
    exact fin (v := V.non) (u := Value.none) J rfl q
  | brk =>
    obtain ⟨_, _, _, q⟩ := hs
    exact False.elim q
  | cont =>
    obtain ⟨_, _, _, q⟩ := hs
    exact False.elim q
theorem supCx_of {A : Around} {outer : List Env} {s : Shared} {H : Hp} {E : XK} {i : Nat} (F : FunS K P.main.file x qual st D f c cc fd) (S : NdefX.NScope N (p1 :: ps) ["__class__"] (defScope st)) (hk : (defScope st).names.lookup ("super" : Str) = some .globalImplicit)
    (har : ((defArgs st).posonlyargs ++ (defArgs st).args).head? = some ar) (harn : ar.arg = ("self" : Str)) (hp1 : p1 = ("self" : Str)) (hN : N[0]? = some ("self" : Str)) (hi : N[i]? = some ("__class__" : Str)) (htop : (P.main.scope.names.lookup ("super" : Str)).isSome = false) (hsu : mg "super" = none) :
    SupCx (NdefX.ncx CX P w K mg base N (nf x qual st cc c) f A outer s H E) D f c i := by
  obtain ⟨oc, od, an, kV, doc, pm, ct, osl, rfl, lk⟩ := F.ex
  obtain ⟨oCd, vsC, tf, hco, hcf, hc2⟩ := F.code
  exact ⟨hk, S.frk _ (List.mem_singleton.mpr rfl), rfl, ⟨_, _, ar, lk, rfl, har, harn⟩, ⟨hN, by subst hp1; exact S.par _ (List.mem_cons_self ..)⟩, rfl, ⟨oCd, vsC, tf, hco, hcf, hc2⟩, htop, hsu, hi⟩
end
end Sx
set_option Elab.async false
set_option linter.all false
set_option maxRecDepth 100000
set_option maxHeartbeats 4000000
namespace Cl
open PySem PySem.Spec L2 PyProof.Rows
theorem made_same {H H' : Hp} {p dx C : Addr} (hp : H p = none) (hd : H dx = none) (k : Kp p (upd (upd H dx (.own p)) p (.ins C dx [])) H') : Same H H' := fun a o e => by
  have n := ne_of_none e hp
  refine k a o n ?_
  rw [upd_ne n, upd_ne (ne_of_none e hd)]
  exact e
/-- copy_of: an equal alphabet -/
def spCopy (C : Addr) : Sp := fun vs H Q _ => ∃ (p : Addr) (l v : List Nat), vs = [.ref p] ∧ AlphaAt C H p l v ∧ Lets l 8 ∧ v.Sublist l ∧ ∀ (q : Addr) H', Same H H' → H q = none → AlphaAt C H' q l v → Q (.ref q) H'
/-- Stage.__init__ on an instance of any class S below it; C: Alphabet -/
def spStageI (K : PySem.W.Frag) (C : Addr) : Sp := fun vs H Q _ => ∃ (S a dx p : Addr) (l v : List Nat), vs = [.ref a, .ref p] ∧ H a = some (.ins S dx []) ∧ Cls K S ∧ NoAttr K S "alphabet" ∧ AlphaAt C H p l v ∧ Lets l 8 ∧ v.Sublist l ∧
  ∀ (q : Addr) H', Kp a H H' → H q = none → H' a = some (.ins S dx [("alphabet", .ref q)]) → AlphaAt C H' q l v → Q .non H'
/-- what a class of drops has no attribute for -/
structure DCls (K : PySem.W.Frag) (W : Addr) : Prop where
  cl : Cls K W
  nA : NoAttr K W "alphabet"
  nN : NoAttr K W "name"
  nT : NoAttr K W "taken"
  nF : NoAttr K W "after"
  nE : NoAttr K W "each"
/-- fields of a drop -/
def df (q : Nat) (n m : List Nat) (af : Nat) (e : Bool) : List (Str × V) := [("alphabet", .ref q), ("name", .str (S n)), ("taken", .str (S m)), ("after", .int (af : Int)), ("each", .bl e)]
end Cl
namespace Cl.K54
open PySem PySem.Spec L2 PyProof.Rows
abbrev sStageI : Stmt := inClass (top 18) 0
abbrev sDropI : Stmt := inClass (top 19) 0
section
variable {P : Program} {w : World} {K : PySem.W.Frag} {mg : Str → Option Value} {base : Heap} {C : Addr}
theorem scStageI : FnScope ["self", "alphabet"] ["self", "alphabet"] (defScope sStageI) := ⟨rfl, rfl, rfl, by decide +kernel, rfl, by decide +kernel, by decide +kernel⟩
abbrev sCopy : Stmt := top 15
theorem scCopy : FnScope ["alphabet"] ["alphabet"] (defScope sCopy) := ⟨rfl, rfl, rfl, by decide +kernel, rfl, by decide +kernel, by decide +kernel⟩
theorem ok_copy {f fI : Addr} {fd fdI : FuncData} (F : Fun K "copy_of" "copy_of" sCopy f fd) (T : ATxt K mg C) (M : Mk K C fI) (GI : FnOk P w K mg base CX0 3 fI fdI ["self", "letters", "vowels"] (spInitA C)) (bI : Binds K fdI ["self", "letters", "vowels"] []) :
    FnOk P w K mg base CX0 5 f fd ["alphabet"] (spCopy C) := by
  refine F.ok scCopy (fun vs H Q E h => ?_) (fun cdv A outer s H vs Q E hr h => ?_)
  · obtain ⟨p, l, v, rfl, _⟩ := h
    rfl
  · obtain ⟨p, l, v, rfl, ⟨dp, hp⟩, hL, hv, k⟩ := h
    refine ⟨_, pss_one (ps_ret (pe_make M GI hr rfl T.mgC bI .nil pass0 (pa_cons (pe_fld (pv 0) rfl) (pa_cons (pe_fld (pv 0) rfl) pa_nil)))), ?_⟩
    refine ⟨_, rfl, p, C, dp, _, _, rfl, hp, T.cl, T.nL, af_letters l v, _, rfl, p, C, dp, _, _, rfl, hp, T.cl, T.nV, af_vowels l v, ?_⟩
    intro q dq nq ndq nqq
    exact ⟨q, dq, l, v, l, v, rfl, upd_same, hL, hv, List.Perm.refl _, List.Perm.refl _, fun H1 k1 al => ⟨rfl, k q H1 (made_same nq ndq k1) nq al⟩⟩
theorem ok_stageI {f fI : Addr} {fd fdI : FuncData} (F : Fun K "__init__" "Stage.__init__" sStageI f fd) (GC : FnOk P w K mg base CX0 5 fI fdI ["alphabet"] (spCopy C)) (bC : Binds K fdI ["alphabet"] []) (gC : mg "copy_of" = some (.ref fI)) (kC : PySem.W.keepIn K (.ref fI) = true) :
    FnOk P w K mg base CX0 6 f fd ["self", "alphabet"] (spStageI K C) := by
  refine F.ok scStageI (fun vs H Q E h => ?_) (fun cdv A outer s H vs Q E hr h => ?_)
  · obtain ⟨S, a, dx, p, l, v, rfl, _⟩ := h
    rfl
  · obtain ⟨S', a, dx, p, l, v, rfl, ha, cl, nA, hp, hL, hv, k⟩ := h
    refine ⟨_, pss_one (ps_fld (pv 0) (pe_call GC hr rfl gC kC bC .nil pass0 (pa_cons (pv 1) pa_nil)) rfl), ?_⟩
    refine ⟨_, rfl, p, l, v, rfl, hp, hL, hv, fun q H1 s1 nq al => ?_⟩
    refine ⟨_, rfl, a, S', dx, [], rfl, s1 _ _ ha, cl, nA, (by show 0 < 1000; decide), ?_⟩
    have nqa : q ≠ a := fun z => by
      rw [z, ha] at nq
      cases nq
    obtain ⟨dq', hq'⟩ := al
    refine k q _ (fun b o nb e => ?_) nq upd_same ⟨dq', by rw [upd_ne nqa]; exact hq'⟩
    rw [upd_ne nb]
    exact s1 _ _ e
end
section
variable {P : Program} {w : World} {K : PySem.W.Frag} {mg : Str → Option Value} {base : Heap} {C W D f c cc g : Addr} {fd gd : FuncData} {tk : Tok}
/-- what super().__init__ and the attributes of a drop want -/
structure StageX (P : Program) (w : World) (K : PySem.W.Frag) (mg : Str → Option Value) (base : Heap) (C W D g : Addr) (gd : FuncData) : Prop where
  z : Sx.SupP K W D g "__init__"
  ok : FnOk P w K mg base CX0 6 g gd ["self", "alphabet"] (spStageI K C)
  bd : Binds K gd ["self", "alphabet"] []
  s : DCls K W
end
end Cl.K54
set_option Elab.async false
set_option linter.all false
set_option maxRecDepth 100000
set_option maxHeartbeats 4000000
namespace Cl
open PySem PySem.Spec L2 PyProof.Rows
/-- what a class of stages has no attribute for -/
structure SCls (K : PySem.W.Frag) (W : Addr) : Prop where
  cl : Cls K W
  nA : NoAttr K W "alphabet"
  nS : NoAttr K W "sign"
  nN : NoAttr K W "name"
  nT : NoAttr K W "taken"
/-- BadStage(what) is raised while the instance a is made -/
def RaisesK (B a : Addr) (H : Hp) (E : XK) (t : List Nat) : Prop := ∀ d H', Kp a H H' → H' d = some (.xd [("what", .str (S t))]) → E (.ref B) (some d) H'
def isSg (l t : List Nat) : Bool := match t with
  | [c] => decide (c ∈ 45 :: l)
  | _ => false
/-- fields of the stages -/
def wf (q c : Nat) (n m : List Nat) : List (Str × V) := [("alphabet", .ref q), ("sign", sg c), ("name", .str (S n)), ("taken", .str (S m))]
def nf (q : Nat) (n m : List Nat) : List (Str × V) := [("alphabet", .ref q), ("name", .str (S n)), ("taken", .str (S m))]
def gf (q c : Nat) : List (Str × V) := [("alphabet", .ref q), ("sign", sg c)]
def okAf (af : Int) : Bool := decide (0 ≤ af) && decide (af ≤ 3)
def spCheckX (C B : Addr) : Sp := fun vs H Q E => ∃ (p : Addr) (l v t : List Nat), vs = [.ref p, .str (S t)] ∧ AlphaAt C H p l v ∧ t.length ≤ 60 ∧ (isSg l t = true → ∀ H', Same H H' → Q .non H') ∧ (isSg l t = false → RaisesW B H E cSign)
def spDropX (C B W : Addr) : Sp := fun vs H Q E => ∃ (a dx p : Addr) (l v n : List Nat) (af : Int) (e : Bool), vs = [.ref a, .ref p, .str (S n), .int af, .bl e] ∧ H a = some (.ins W dx []) ∧ AlphaAt C H p l v ∧ Lets l 8 ∧ v.Sublist l ∧ n.length ≤ 60 ∧
  (setOf l v n = none → RaisesK B a H E cSet) ∧ (∀ m, setOf l v n = some m → okAf af = false → RaisesK B a H E cAft) ∧ (∀ m, setOf l v n = some m → okAf af = true → ∀ (q : Nat) H', Kp a H H' → H' a = some (.ins W dx (df q n m af.toNat e)) → AlphaAt C H' q l v → Q .non H')
def spWriteX (C B W : Addr) : Sp := fun vs H Q E => ∃ (a dx p : Addr) (l v t n : List Nat), vs = [.ref a, .ref p, .str (S t), .str (S n)] ∧ H a = some (.ins W dx []) ∧ AlphaAt C H p l v ∧ Lets l 8 ∧ v.Sublist l ∧ t.length ≤ 60 ∧ n.length ≤ 60 ∧
  (isSg l t = false → RaisesK B a H E cSign) ∧ (isSg l t = true → setOf l v n = none → RaisesK B a H E cSet) ∧ (∀ m c, t = [c] → isSg l t = true → setOf l v n = some m → ∀ (q : Nat) H', Kp a H H' → H' a = some (.ins W dx (wf q c n m)) → AlphaAt C H' q l v → Q .non H')
def spOnceX (C B W : Addr) : Sp := fun vs H Q E => ∃ (a dx p : Addr) (l v n : List Nat), vs = [.ref a, .ref p, .str (S n)] ∧ H a = some (.ins W dx []) ∧ AlphaAt C H p l v ∧ Lets l 8 ∧ v.Sublist l ∧ n.length ≤ 60 ∧
  (setOf l v n = none → RaisesK B a H E cSet) ∧ (∀ m, setOf l v n = some m → ∀ (q : Nat) H', Kp a H H' → H' a = some (.ins W dx (nf q n m)) → AlphaAt C H' q l v → Q .non H')
def spAddX (C B W : Addr) : Sp := fun vs H Q E => ∃ (a dx p : Addr) (l v t : List Nat), vs = [.ref a, .ref p, .str (S t)] ∧ H a = some (.ins W dx []) ∧ AlphaAt C H p l v ∧ Lets l 8 ∧ v.Sublist l ∧ t.length ≤ 60 ∧
  (isSg l t = false → RaisesK B a H E cSign) ∧ (∀ c, t = [c] → isSg l t = true → ∀ (q : Nat) H', Kp a H H' → H' a = some (.ins W dx (gf q c)) → AlphaAt C H' q l v → Q .non H')
theorem isSg_one {l t : List Nat} (h : isSg l t = true) : ∃ c, t = [c] := by
  unfold isSg at h
  split at h
  · exact ⟨_, rfl⟩
  · cases h
theorem same_kp {a : Addr} {H H' : Hp} (s : Same H H') : Kp a H H' := fun b o _ e => s b o e
end Cl
namespace Cl.K54
open PySem PySem.Spec L2 PyProof.Rows
abbrev sWriteI : Stmt := inClass (top 21) 0
abbrev sOnceI : Stmt := inClass (top 22) 0
abbrev sAddI : Stmt := inClass (top 23) 0
abbrev sCheck : Stmt := top 24
section
variable {P : Program} {w : World} {K : PySem.W.Frag} {mg : Str → Option Value} {base : Heap} {C B : Addr}
theorem raiseW {H H2 : Hp} {E : XK} {t : List Nat} {x : Str} (ht : t.length ≤ 20) (hx : x = S t) (s2 : Same H H2) (k : RaisesW B H E t) : 1 ≤ 1000 ∧ ∀ a, H2 a = none → spBS B (V.ref a :: ([V.str x] ++ [])) (upd H2 a (exo a B none))
    (fun v H3 => v = .non ∧ ∃ (d : Addr) (fs : List (Str × V)), H3 a = some (exo a B (some d)) ∧ H3 d = some (exd d fs) ∧ H2 d = none ∧ E (.ref B) (some d) (upd (del H3 a) d (.xd fs))) (fun _ _ _ => False) := by
  refine ⟨by decide, fun a ha => ?_⟩
  rw [hx]
  refine ⟨a, t, rfl, upd_same, ht, fun d hd nd => ⟨rfl, d, _, upd_same, ?_, ?_, k d _ (s2.trans (same_raise ha hd nd)) upd_same⟩⟩
  · rw [upd_ne nd]
    exact upd_same
  · rw [upd_ne nd] at hd
    exact hd
theorem raiseK {H H2 : Hp} {E : XK} {b : Addr} {t : List Nat} {x : Str} (ht : t.length ≤ 20) (hx : x = S t) (s2 : Kp b H H2) (k : RaisesK B b H E t) : 1 ≤ 1000 ∧ ∀ a, H2 a = none → spBS B (V.ref a :: ([V.str x] ++ [])) (upd H2 a (exo a B none))
    (fun v H3 => v = .non ∧ ∃ (d : Addr) (fs : List (Str × V)), H3 a = some (exo a B (some d)) ∧ H3 d = some (exd d fs) ∧ H2 d = none ∧ E (.ref B) (some d) (upd (del H3 a) d (.xd fs))) (fun _ _ _ => False) := by
  refine ⟨by decide, fun a ha => ?_⟩
  rw [hx]
  refine ⟨a, t, rfl, upd_same, ht, fun d hd nd => ⟨rfl, d, _, upd_same, ?_, ?_, k d _ (s2.trans (same_kp (same_raise ha hd nd))) upd_same⟩⟩
  · rw [upd_ne nd]
    exact upd_same
  · rw [upd_ne nd] at hd
    exact hd
theorem scCheck : FnScope ["alphabet", "sign"] ["alphabet", "sign"] (defScope sCheck) := ⟨rfl, rfl, rfl, by decide +kernel, rfl, by decide +kernel, by decide +kernel⟩
theorem ok_checkX {f fB : Addr} {fd fdB : FuncData} (F : Fun K "_check_sign" "_check_sign" sCheck f fd) (T : ATxt K mg C) (hn : mg "len" = none) (BX : BadS P w K mg base B fB fdB) : FnOk P w K mg base (L2N.CX P w) 3 f fd ["alphabet", "sign"] (spCheckX C B) := by
  refine Sx.okN F scCheck (fun vs H Q E h => ?_) (fun cdv A outer s H vs Q E hr h => ?_)
  · obtain ⟨p, l, v, t, rfl, _⟩ := h
    rfl
  · obtain ⟨p, l, v, t, rfl, ⟨dp, hp⟩, ht, kS, kE⟩ := h
    refine ⟨_, pss_one (ps_if (PW.pt (pw_or (pt_cmpR op_ne (pe_callB call_len_str (by rfl) hn PySem.boot_len (pa_cons (pv 1) pa_nil)) pe_int (nomark _)) (pw_or1 (pt_cmpR op_notInS (pv 1) (pe_fld (pv 0) rfl) rfl)))) (pss_one (L2N.ps_raise (W := fun cls d _ H => E cls d H) rfl (L2N.takes_of rfl rfl rfl rfl) (Sx.pmk_oexC BX.T BX.iC BX.tI BX.ok hr BX.bd .nil pass0 rfl BX.gl (pa_cons pe_str pa_nil)))) pss_nil), ?_⟩
    refine ⟨_, rfl, _, rfl, le_S ht, rfl, _, rfl, ?_⟩
    by_cases h1 : t.length = 1
    · obtain ⟨c, rfl⟩ : ∃ c, t = [c] := List.length_eq_one_iff.mp h1
      rw [show decide (V.int (((S [c]).length : Nat) : Int) = V.int 1) = true from decide_eq_true rfl]
      refine iteF ?_
      refine ⟨_, rfl, _, rfl, p, C, dp, _, .str (S (45 :: l)), rfl, hp, T.cl, T.nS, af_signs l v, c, _, rfl, rfl, _, rfl, ?_⟩
      rw [S_cps]
      by_cases hc : c ∈ 45 :: l
      · rw [decide_eq_true hc]
        exact iteF (kS (decide_eq_true hc) _ (Same.refl _))
      · rw [decide_eq_false hc]
        exact iteT (raiseW (by decide) eSign (Same.refl _) (kE (decide_eq_false hc)))
    · have e1 : decide (V.int (((S t).length : Nat) : Int) = V.int 1) = false := decide_eq_false fun z => h1 (by
        rw [S_len] at z
        injection z with z
        omega)
      rw [e1]
      refine iteT (raiseW (by decide) eSign (Same.refl _) (kE ?_))
      unfold isSg
      split
      · exact absurd rfl h1
      · rfl
end
section
variable {P : Program} {w : World} {K : PySem.W.Frag} {mg : Str → Option Value} {base : Heap} {C B W D f c cc g : Addr} {fd gd : FuncData} {tk : Tok}
theorem ok_dropX {fM fB : Addr} {fdM fdB : FuncData} (F : Sx.FunS K P.main.file "__init__" "Drop.__init__" sDropI D f c cc fd) (T : ATxt K mg C) (X0 : StageX P w K mg base C W D g gd)
    (GM : FnOk P w K mg base (L2N.CX P w) 3 fM fdM ["self", "name"] (spMemX C B)) (bM : Binds K fdM ["self", "name"] []) (mM : Meth K C "members" fM) (hMA : mg "_MOST_AFTER" = some (.int 3 tk)) (BX : BadS P w K mg base B fB fdB)
    (htop : (P.main.scope.names.lookup ("super" : Str)).isSome = false) (hs : mg "super" = none) : FnOk P w K mg base (L2N.CX P w) 7 f fd ["self", "alphabet", "name", "after", "each"] (spDropX C B W) := by
  refine Sx.fn_supP (k := 6) (n := Sx.nf "__init__" "Drop.__init__" sDropI cc c) (N := ["self", "alphabet", "name", "after", "each", "__class__"]) F rfl (NdefX.nscope_by (by decide +kernel)) rfl rfl rfl rfl htop hs (fun vs H Q E h => ?_) (fun A outer s H vs Q E hr h => ?_)
  · obtain ⟨a, dx, p, l, v, n, af, e, rfl, _⟩ := h
    rfl
  · obtain ⟨a, dx, p, l, v, n, af, e, rfl, ha, hp, hL, hv, hn, k1, k2, k3⟩ := h
    have hr3 : Room 3 _ := hr.mono (by decide)
    have hr1 : Room (1 + 1) _ := hr.mono (by decide)
    refine ⟨_, _, pa_cons (pv 1) pa_nil, pss_cons (ps_fld (pv 0) (pv 2) rfl) (pss_cons (ps_fld (pv 0) (pe_meth (pe_fld (pv 0) rfl) T.cl mM GM hr3 bM .nil (L2N.passes_call (W := fun cls d _ H => E cls d H) (L2N.takes_of rfl rfl rfl rfl) (fun _ _ _ _ h => h)) (pa_cons (pv 2) pa_nil)) rfl)
      (pss_cons (ps_if (pt_not (pt_chain op_le op_le pe_int (pv 3) (pe_glob (v := .int 3) rfl hMA ⟨_, rfl⟩))) (pss_one (L2N.ps_raise (W := fun cls d _ H => E cls d H) rfl (L2N.takes_of rfl rfl rfl rfl) (Sx.pmk_oexC BX.T BX.iC BX.tI BX.ok hr1 BX.bd .nil pass0 rfl BX.gl (pa_cons pe_str pa_nil)))) pss_nil)
      (pss_cons (ps_fld (pv 0) (pv 3) rfl) (pss_one (ps_fld (pv 0) (pv 4) rfl))))), a, W, dx, g, [], _, 6, _, E0, CX0, rfl, ha, X0.z, X0.ok.raw X0.bd .nil, hr, pass0, ?_⟩
    obtain ⟨dp, hp'⟩ := hp
    refine ⟨_, rfl, W, a, dx, p, l, v, rfl, ha, X0.s.cl, X0.s.nA, ⟨dp, hp'⟩, hL, hv, fun q H1 k1' nq h1 al => ?_⟩
    obtain ⟨dq, hq⟩ := al
    have nqa : q ≠ a := fun z => by
      rw [z, ha] at nq
      cases nq
    refine ⟨_, rfl, _, rfl, a, W, dx, _, rfl, h1, X0.s.cl, X0.s.nN, (by show 1 < 1000; decide), ?_⟩
    refine ⟨_, rfl, a, W, dx, _, .ref q, rfl, upd_same, X0.s.cl, X0.s.nA, rfl, q, dq, _, rfl, (by rw [upd_ne nqa]; exact hq), rfl, _, rfl, q, l, v, n, rfl, ⟨dq, by rw [upd_ne nqa]; exact hq⟩, hn, fun m hm H2 s2 => ?_, fun hm => ?_⟩
    · refine ⟨_, rfl, a, W, dx, _, rfl, s2 _ _ upd_same, X0.s.cl, X0.s.nT, (by show 2 < 1000; decide), ?_⟩
      refine ⟨_, rfl, _, _, rfl, rfl, _, rfl, ?_⟩
      have kk : ∀ o, Kp a H (upd H2 a o) := fun o b o' nb e => by
        rw [upd_ne nb]
        refine s2 _ _ ?_
        rw [upd_ne nb]
        exact k1' _ _ nb e
      by_cases h0 : (0 : Int) ≤ af
      · rw [decide_eq_true h0]
        refine iteT ⟨_, _, rfl, rfl, _, rfl, ?_⟩
        by_cases h3 : af ≤ 3
        · rw [decide_eq_true h3]
          refine iteF ?_
          refine ⟨_, rfl, _, rfl, a, W, dx, _, rfl, upd_same, X0.s.cl, X0.s.nF, (by show 3 < 1000; decide), ?_⟩
          refine ⟨_, rfl, _, rfl, a, W, dx, _, rfl, upd_same, X0.s.cl, X0.s.nE, (by show 4 < 1000; decide), ?_⟩
          refine k3 m hm (by unfold okAf; rw [decide_eq_true h0, decide_eq_true h3] <;> rfl) q _ ?_ ?_ ⟨dq, by rw [upd_ne nqa, upd_ne nqa, upd_ne nqa]; exact s2 _ _ (by rw [upd_ne nqa]; exact hq)⟩
          · rw [upd_upd, upd_upd]
            exact kk _
          · rw [upd_same]
            have ea : ((af.toNat : Nat) : Int) = af := Int.toNat_of_nonneg h0
            show some (HO.ins W dx [("alphabet", V.ref q), ("name", V.str (S n)), ("taken", V.str (S m)), ("after", V.int af), ("each", V.bl e)]) = some (HO.ins W dx [("alphabet", V.ref q), ("name", V.str (S n)), ("taken", V.str (S m)), ("after", V.int (af.toNat : Int)), ("each", V.bl e)])
            rw [ea]
        · rw [decide_eq_false h3]
          exact iteT (raiseK (by decide) eAft (kk _) (k2 m hm (by unfold okAf; rw [decide_eq_false h3, Bool.and_false])))
      · rw [decide_eq_false h0]
        refine iteF ⟨_, rfl, ?_⟩
        exact iteT (raiseK (by decide) eAft (kk _) (k2 m hm (by unfold okAf; rw [decide_eq_false h0, Bool.false_and])))
    · exact fun d H' s' hd => k1 hm d H' (fun b o nb e => s' _ _ (by rw [upd_ne nb]; exact k1' _ _ nb e)) hd
/-- what super().__init__ and the attributes of a stage want -/
structure StageX5 (P : Program) (w : World) (K : PySem.W.Frag) (mg : Str → Option Value) (base : Heap) (C D g : Addr) (gd : FuncData) : Prop where
  z : Sx.SupP K D D g "__init__"
  ok : FnOk P w K mg base CX0 6 g gd ["self", "alphabet"] (spStageI K C)
  bd : Binds K gd ["self", "alphabet"] []
  s : SCls K D
theorem ok_addX {fC : Addr} {fdC : FuncData} (F : Sx.FunS K P.main.file "__init__" "Add.__init__" sAddI D f c cc fd) (T : ATxt K mg C) (X0 : StageX5 P w K mg base C D g gd)
    (GC : FnOk P w K mg base (L2N.CX P w) 3 fC fdC ["alphabet", "sign"] (spCheckX C B)) (bC : Binds K fdC ["alphabet", "sign"] []) (gC : mg "_check_sign" = some (.ref fC)) (kC : PySem.W.keepIn K (.ref fC) = true)
    (htop : (P.main.scope.names.lookup ("super" : Str)).isSome = false) (hs : mg "super" = none) : FnOk P w K mg base (L2N.CX P w) 7 f fd ["self", "alphabet", "sign"] (spAddX C B D) := by
  refine Sx.fn_supP (k := 6) (n := Sx.nf "__init__" "Add.__init__" sAddI cc c) (N := ["self", "alphabet", "sign", "__class__"]) F rfl (NdefX.nscope_by (by decide +kernel)) rfl rfl rfl rfl htop hs (fun vs H Q E h => ?_) (fun A outer s H vs Q E hr h => ?_)
  · obtain ⟨a, dx, p, l, v, t, rfl, _⟩ := h
    rfl
  · obtain ⟨a, dx, p, l, v, t, rfl, ha, hp, hL, hv, ht, k1, k2⟩ := h
    have hr3 : Room 3 _ := hr.mono (by decide)
    refine ⟨_, _, pa_cons (pv 1) pa_nil, pss_cons (ps_expr (pe_call GC hr3 rfl gC kC bC .nil (L2N.passes_call (W := fun cls d _ H => E cls d H) (L2N.takes_of rfl rfl rfl rfl) (fun _ _ _ _ h => h)) (pa_cons (pe_fld (pv 0) rfl) (pa_cons (pv 2) pa_nil)))) (pss_one (ps_fld (pv 0) (pv 2) rfl)), a, D, dx, g, [], _, 6, _, E0, CX0, rfl, ha, X0.z, X0.ok.raw X0.bd .nil, hr, pass0, ?_⟩
    obtain ⟨dp, hp'⟩ := hp
    refine ⟨_, rfl, D, a, dx, p, l, v, rfl, ha, X0.s.cl, X0.s.nA, ⟨dp, hp'⟩, hL, hv, fun q H1 k1' nq h1 al => ?_⟩
    obtain ⟨dq, hq⟩ := al
    refine ⟨_, rfl, a, D, dx, _, .ref q, rfl, h1, X0.s.cl, X0.s.nA, rfl, _, rfl, q, l, v, t, rfl, ⟨dq, hq⟩, ht, fun eg H2 s2 => ?_, fun eg => ?_⟩
    · refine ⟨_, rfl, _, rfl, a, D, dx, _, rfl, s2 _ _ h1, X0.s.cl, X0.s.nS, (by show 1 < 1000; decide), ?_⟩
      obtain ⟨ch, rfl⟩ := isSg_one eg
      have nqa : q ≠ a := fun z => by
        rw [z, ha] at nq
        cases nq
      refine k2 ch rfl eg q _ (fun b o nb e => ?_) upd_same ⟨dq, by rw [upd_ne nqa]; exact s2 _ _ hq⟩
      rw [upd_ne nb]
      exact s2 _ _ (k1' _ _ nb e)
    · exact fun d H' s' hd => k1 eg d H' (fun b o nb e => s' _ _ (k1' _ _ nb e)) hd
theorem ok_onceX {fM : Addr} {fdM : FuncData} (F : Sx.FunS K P.main.file "__init__" "Once.__init__" sOnceI D f c cc fd) (T : ATxt K mg C) (X0 : StageX5 P w K mg base C D g gd)
    (GM : FnOk P w K mg base (L2N.CX P w) 3 fM fdM ["self", "name"] (spMemX C B)) (bM : Binds K fdM ["self", "name"] []) (mM : Meth K C "members" fM)
    (htop : (P.main.scope.names.lookup ("super" : Str)).isSome = false) (hs : mg "super" = none) : FnOk P w K mg base (L2N.CX P w) 7 f fd ["self", "alphabet", "name"] (spOnceX C B D) := by
  refine Sx.fn_supP (k := 6) (n := Sx.nf "__init__" "Once.__init__" sOnceI cc c) (N := ["self", "alphabet", "name", "__class__"]) F rfl (NdefX.nscope_by (by decide +kernel)) rfl rfl rfl rfl htop hs (fun vs H Q E h => ?_) (fun A outer s H vs Q E hr h => ?_)
  · obtain ⟨a, dx, p, l, v, n, rfl, _⟩ := h
    rfl
  · obtain ⟨a, dx, p, l, v, n, rfl, ha, hp, hL, hv, hn, k1, k2⟩ := h
    have hr3 : Room 3 _ := hr.mono (by decide)
    refine ⟨_, _, pa_cons (pv 1) pa_nil, pss_cons (ps_fld (pv 0) (pv 2) rfl) (pss_one (ps_fld (pv 0) (pe_meth (pe_fld (pv 0) rfl) T.cl mM GM hr3 bM .nil (L2N.passes_call (W := fun cls d _ H => E cls d H) (L2N.takes_of rfl rfl rfl rfl) (fun _ _ _ _ h => h)) (pa_cons (pv 2) pa_nil)) rfl)), a, D, dx, g, [], _, 6, _, E0, CX0, rfl, ha, X0.z, X0.ok.raw X0.bd .nil, hr, pass0, ?_⟩
    obtain ⟨dp, hp'⟩ := hp
    refine ⟨_, rfl, D, a, dx, p, l, v, rfl, ha, X0.s.cl, X0.s.nA, ⟨dp, hp'⟩, hL, hv, fun q H1 k1' nq h1 al => ?_⟩
    obtain ⟨dq, hq⟩ := al
    have nqa : q ≠ a := fun z => by
      rw [z, ha] at nq
      cases nq
    refine ⟨_, rfl, _, rfl, a, D, dx, _, rfl, h1, X0.s.cl, X0.s.nN, (by show 1 < 1000; decide), ?_⟩
    refine ⟨_, rfl, a, D, dx, _, .ref q, rfl, upd_same, X0.s.cl, X0.s.nA, rfl, q, dq, _, rfl, (by rw [upd_ne nqa]; exact hq), rfl, _, rfl, q, l, v, n, rfl, ⟨dq, by rw [upd_ne nqa]; exact hq⟩, hn, fun m hm H2 s2 => ?_, fun hm => ?_⟩
    · refine ⟨_, rfl, a, D, dx, _, rfl, s2 _ _ upd_same, X0.s.cl, X0.s.nT, (by show 2 < 1000; decide), ?_⟩
      refine k2 m hm q _ (fun b o nb e => ?_) upd_same ⟨dq, by rw [upd_ne nqa]; exact s2 _ _ (by rw [upd_ne nqa]; exact hq)⟩
      rw [upd_ne nb]
      refine s2 _ _ ?_
      rw [upd_ne nb]
      exact k1' _ _ nb e
    · exact fun d H' s' hd => k1 hm d H' (fun b o nb e => s' _ _ (by rw [upd_ne nb]; exact k1' _ _ nb e)) hd
theorem ok_writeX {fM fC : Addr} {fdM fdC : FuncData} (F : Sx.FunS K P.main.file "__init__" "Write.__init__" sWriteI D f c cc fd) (T : ATxt K mg C) (X0 : StageX5 P w K mg base C D g gd)
    (GM : FnOk P w K mg base (L2N.CX P w) 3 fM fdM ["self", "name"] (spMemX C B)) (bM : Binds K fdM ["self", "name"] []) (mM : Meth K C "members" fM)
    (GC : FnOk P w K mg base (L2N.CX P w) 3 fC fdC ["alphabet", "sign"] (spCheckX C B)) (bC : Binds K fdC ["alphabet", "sign"] []) (gC : mg "_check_sign" = some (.ref fC)) (kC : PySem.W.keepIn K (.ref fC) = true)
    (htop : (P.main.scope.names.lookup ("super" : Str)).isSome = false) (hs : mg "super" = none) : FnOk P w K mg base (L2N.CX P w) 7 f fd ["self", "alphabet", "sign", "name"] (spWriteX C B D) := by
  refine Sx.fn_supP (k := 6) (n := Sx.nf "__init__" "Write.__init__" sWriteI cc c) (N := ["self", "alphabet", "sign", "name", "__class__"]) F rfl (NdefX.nscope_by (by decide +kernel)) rfl rfl rfl rfl htop hs (fun vs H Q E h => ?_) (fun A outer s H vs Q E hr h => ?_)
  · obtain ⟨a, dx, p, l, v, t, n, rfl, _⟩ := h
    rfl
  · obtain ⟨a, dx, p, l, v, t, n, rfl, ha, hp, hL, hv, ht, hn, k1, k2, k3⟩ := h
    have hr3 : Room 3 _ := hr.mono (by decide)
    refine ⟨_, _, pa_cons (pv 1) pa_nil, pss_cons (ps_expr (pe_call GC hr3 rfl gC kC bC .nil (L2N.passes_call (W := fun cls d _ H => E cls d H) (L2N.takes_of rfl rfl rfl rfl) (fun _ _ _ _ h => h)) (pa_cons (pe_fld (pv 0) rfl) (pa_cons (pv 2) pa_nil)))) (pss_cons (ps_fld (pv 0) (pv 2) rfl) (pss_cons (ps_fld (pv 0) (pv 3) rfl)
      (pss_one (ps_fld (pv 0) (pe_meth (pe_fld (pv 0) rfl) T.cl mM GM hr3 bM .nil (L2N.passes_call (W := fun cls d _ H => E cls d H) (L2N.takes_of rfl rfl rfl rfl) (fun _ _ _ _ h => h)) (pa_cons (pv 3) pa_nil)) rfl)))), a, D, dx, g, [], _, 6, _, E0, CX0, rfl, ha, X0.z, X0.ok.raw X0.bd .nil, hr, pass0, ?_⟩
    obtain ⟨dp, hp'⟩ := hp
    refine ⟨_, rfl, D, a, dx, p, l, v, rfl, ha, X0.s.cl, X0.s.nA, ⟨dp, hp'⟩, hL, hv, fun q H1 k1' nq h1 al => ?_⟩
    obtain ⟨dq, hq⟩ := al
    have nqa : q ≠ a := fun z => by
      rw [z, ha] at nq
      cases nq
    refine ⟨_, rfl, a, D, dx, _, .ref q, rfl, h1, X0.s.cl, X0.s.nA, rfl, _, rfl, q, l, v, t, rfl, ⟨dq, hq⟩, ht, fun eg H2 s2 => ?_, fun eg => ?_⟩
    · have h2 := s2 _ _ h1
      have hq2 := s2 _ _ hq
      refine ⟨_, rfl, _, rfl, a, D, dx, _, rfl, h2, X0.s.cl, X0.s.nS, (by show 1 < 1000; decide), ?_⟩
      refine ⟨_, rfl, _, rfl, a, D, dx, _, rfl, upd_same, X0.s.cl, X0.s.nN, (by show 2 < 1000; decide), ?_⟩
      rw [upd_upd]
      have kk : ∀ o, Kp a H (upd H2 a o) := fun o b o' nb e => by
        rw [upd_ne nb]
        exact s2 _ _ (k1' _ _ nb e)
      refine ⟨_, rfl, a, D, dx, _, .ref q, rfl, upd_same, X0.s.cl, X0.s.nA, rfl, q, dq, _, rfl, (by rw [upd_ne nqa]; exact hq2), rfl, _, rfl, q, l, v, n, rfl, ⟨dq, by rw [upd_ne nqa]; exact hq2⟩, hn, fun m hm H3 s3 => ?_, fun hm => ?_⟩
      · refine ⟨_, rfl, a, D, dx, _, rfl, s3 _ _ upd_same, X0.s.cl, X0.s.nT, (by show 3 < 1000; decide), ?_⟩
        obtain ⟨ch, rfl⟩ := isSg_one eg
        refine k3 m ch rfl eg hm q _ (fun b o nb e => ?_) upd_same ⟨dq, by rw [upd_ne nqa]; exact s3 _ _ (by rw [upd_ne nqa]; exact hq2)⟩
        rw [upd_ne nb]
        exact s3 _ _ (kk _ _ _ nb e)
      · exact fun d H' s' hd => k2 eg hm d H' (fun b o nb e => s' _ _ (kk _ _ _ nb e)) hd
    · exact fun d H' s' hd => k1 eg d H' (fun b o nb e => s' _ _ (k1' _ _ nb e)) hd
end
end Cl.K54
set_option Elab.async false
set_option linter.all false
set_option maxRecDepth 100000
set_option maxHeartbeats 4000000
namespace Cl
open PySem PySem.Spec L2 PyProof.Rows
def spText (W : Addr) (fs : List (Str × V)) (x : Str) : Sp := fun vs H Q _ => ∃ a dx : Addr, vs = [.ref a] ∧ H a = some (.ins W dx fs) ∧ Q (.str x) H
def cDropS : List Nat := [100, 114, 111, 112, 32]
def cAfter : List Nat := [32, 97, 102, 116, 101, 114, 32]
def cEach : List Nat := [32, 101, 97, 99, 104]
def afT (af : Nat) : List Nat := if 0 < af then cAfter ++ [48 + af] else []
def eaT (e : Bool) : List Nat := if e = true then cEach else []
def dropT (n : List Nat) (af : Nat) (e : Bool) : List Nat := ((cDropS ++ n) ++ afT af) ++ eaT e
theorem eDropS : (Str.empty ++ ("drop " : Str)) = S cDropS := by decide +kernel
theorem eAfter : (Str.empty ++ (" after " : Str)) = S cAfter := by decide +kernel
theorem eEach : (" each" : Str) = S cEach := by decide +kernel
theorem dig {af : Nat} (h0 : 0 < af) (h3 : af ≤ 3) : ((toString (af : Int) : String) : Str) = S [48 + af] := by
  match af, h0, h3 with
  | 1, _, _ => decide +kernel
  | 2, _, _ => decide +kernel
  | 3, _, _ => decide +kernel
  | n + 4, _, h => exact absurd h (by omega)
theorem afT_len {af : Nat} : (afT af).length ≤ 8 := by
  unfold afT
  split
  · show 8 ≤ 8; decide
  · decide
theorem eaT_len {e : Bool} : (eaT e).length ≤ 5 := by
  cases e
  · decide
  · decide
end Cl
namespace Cl.K54
open PySem PySem.Spec L2 PyProof.Rows
section
variable {P : Program} {w : World} {K : PySem.W.Frag} {mg : Str → Option Value} {base : Heap} {C D f : Addr} {fd : FuncData}
theorem scDText : FnScope ["self", "after", "each"] ["self"] (defScope (inClass (top 19) 1)) := ⟨rfl, rfl, rfl, by decide +kernel, rfl, by decide +kernel, by decide +kernel⟩
theorem ok_dText {q : Nat} {n m : List Nat} {af : Nat} {e : Bool} (F : Fun K "text" "Drop.text" (inClass (top 19) 1) f fd) (Z : DCls K D) (hn : n.length ≤ 60) (h3 : af ≤ 3) : FnOk P w K mg base CX0 1 f fd ["self"] (spText D (df q n m af e) (S (dropT n af e))) := by
  refine F.ok scDText (fun vs H Q E h => ?_) (fun cdv A outer s H vs Q E hr h => ?_)
  · obtain ⟨a, dx, rfl, _⟩ := h
    rfl
  · obtain ⟨a, dx, rfl, ha, k⟩ := h
    refine ⟨_, C8.pss_cut (ps_set (i := 1) scDText.nd rfl (.inl rfl) (pe_ifExp (pt_cmpR op_gt (pe_fld (pv 0) rfl) pe_int (nomark _)) (pe_joined (.cons pe_str (.cons (pe_fmt (pe_fld (pv 0) rfl)) .nil))) pe_str))
      (C8.pss_cut (ps_set (i := 2) scDText.nd rfl (.inl rfl) (pe_ifExp (pt_val (pe_fld (pv 0) rfl)) pe_str pe_str))
      (pss_one (ps_ret (pe_joined (.cons pe_str (.cons (pe_fmt (pe_fld (pv 0) rfl)) (.cons (pe_fmt (pv 1)) (.cons (pe_fmt (pv 2)) .nil)))))))), ?_⟩
    refine ⟨fun σ' H' => σ' = [some (.ref a), some (.str (S (afT af))), none] ∧ H' = H, ?_, ?_⟩
    · refine ⟨_, rfl, a, D, dx, _, .int (af : Int), rfl, ha, Z.cl, Z.nF, rfl, _, _, rfl, rfl, _, rfl, ?_⟩
      refine ite2 (fun h1 => ?_) (fun h1 => ?_)
      · have h1' : 0 < af := by
          have z := of_decide_eq_true h1
          omega
        refine ⟨_, rfl, ?_, _, rfl, a, D, dx, _, .int (af : Int), rfl, ha, Z.cl, Z.nF, rfl, .inr ⟨_, rfl, ?_, _, rfl, ?_, ?_⟩⟩
        · rw [eAfter]
          exact le_S (by decide : _ ≤ 7)
        · show af.log2 < 1920
          exact Nat.lt_of_le_of_lt (Nat.le_trans (Nat.log2_le_self af) h3) (by decide)
        · rw [eAfter, dig h1' h3, S_app]
          exact le_S (by show 8 ≤ 8; decide : _ ≤ 8)
        · rw [eAfter, dig h1' h3, S_app]
          refine ⟨?_, rfl⟩
          unfold afT
          rw [if_pos h1']
          rfl
      · have h1' : ¬ 0 < af := fun y => h1 (decide_eq_true (by omega))
        refine ⟨?_, rfl⟩
        unfold afT
        rw [if_neg h1']
        rfl
    rintro σ' H' ⟨rfl, rfl⟩
    refine ⟨fun σ' H'' => σ' = [some (.ref a), some (.str (S (afT af))), some (.str (S (eaT e)))] ∧ H'' = H', ?_, ?_⟩
    · refine ⟨_, rfl, a, D, dx, _, .bl e, rfl, ha, Z.cl, Z.nE, rfl, _, rfl, ?_⟩
      cases e
      · exact iteF ⟨rfl, rfl⟩
      · exact iteT ⟨by rw [eEach]; rfl, rfl⟩
    rintro σ' H'' ⟨rfl, rfl⟩
    have l1 : (afT af).length ≤ 8 := afT_len
    have l2 : (eaT e).length ≤ 5 := eaT_len
    refine ⟨_, rfl, ?_, _, rfl, a, D, dx, _, .str (S n), rfl, ha, Z.cl, Z.nN, rfl, .inl ⟨_, rfl, le_S hn, _, rfl, ?_, _, rfl, .inl ⟨_, rfl, le_S (by omega : _ ≤ 8), _, rfl, ?_, _, rfl, .inl ⟨_, rfl, le_S (by omega : _ ≤ 5), _, rfl, ?_, ?_⟩⟩⟩⟩
    · rw [eDropS]
      exact le_S (by decide : _ ≤ 5)
    · rw [eDropS, S_app]
      exact le_S (by rw [List.length_append]; show 5 + _ ≤ 65; omega : _ ≤ 65)
    · rw [eDropS, S_app, S_app]
      exact le_S (by rw [List.length_append, List.length_append]; show 5 + _ + _ ≤ 73; omega : _ ≤ 73)
    · rw [eDropS, S_app, S_app, S_app]
      exact le_S (by rw [List.length_append, List.length_append, List.length_append]; show 5 + _ + _ + _ ≤ 78; omega : _ ≤ 78)
    · rw [eDropS, S_app, S_app, S_app]
      exact k
end
end Cl.K54
set_option Elab.async false
set_option linter.all false
set_option maxRecDepth 100000
set_option maxHeartbeats 4000000
namespace Cl
open PySem PySem.Spec L2 PyProof.Rows
def cDrop : List Nat := [100, 114, 111, 112]
def cFor : List Nat := [32, 102, 111, 114, 32]
def cBut : List Nat := [32, 98, 117, 116, 32, 108, 97, 115, 116]
def blT (b : Bool) : List Nat := if b = true then cBut else []
theorem eDrop : ("drop" : Str) = S cDrop := by decide +kernel
theorem eSp : (" " : Str) = S [32] := by decide +kernel
theorem eFor : (" for " : Str) = S cFor := by decide +kernel
theorem eDropS2 : ("drop " : Str) = S cDropS := by decide +kernel
theorem eAfter2 : (" after " : Str) = S cAfter := by decide +kernel
theorem eBut : (" but last" : Str) = S cBut := by decide +kernel
theorem dig0 {af : Nat} (h3 : af ≤ 3) : ((toString (af : Int) : String) : Str) = S [48 + af] := by
  match af, h3 with
  | 0, _ => decide +kernel
  | 1, _ => decide +kernel
  | 2, _ => decide +kernel
  | 3, _ => decide +kernel
  | n + 4, h => exact absurd h (by omega)
theorem blT_len {b : Bool} : (blT b).length ≤ 9 := by
  cases b
  · decide
  · decide
/-- a law's tuple of a drop -/
def dropV (n : List Nat) (af : Nat) (e b : Bool) : List V := [.str (S cDrop), .str (S n), .int (af : Int), .bl e, .bl b]
/-- the law's text of a stage's tuple: h its word, ys its parts; or a drop -/
def spStageText (K : PySem.W.Frag) : Sp := fun vs H Q _ =>
  (∃ (p : Addr) (h : List Nat) (ys : List (List Nat)), vs = [.ref p] ∧ SqT K H p (.str (S h) :: txs ys) ∧ h ≠ cDrop ∧ h.length ≤ 10 ∧ ys.length ≤ 4 ∧ ys.flatten.length ≤ 200 ∧ ∀ H', Same H H' → Q (.str (S ((h ++ [32]) ++ TL.joinL cFor ys))) H') ∨
  ∃ (p : Addr) (n : List Nat) (af : Nat) (e b : Bool), vs = [.ref p] ∧ SqT K H p (dropV n af e b) ∧ n.length ≤ 60 ∧ af ≤ 3 ∧ ∀ H', Same H H' → Q (.str (S (dropT n af e ++ blT b))) H'
theorem joinL_len (s : List Nat) : ∀ ys : List (List Nat), (TL.joinL s ys).length ≤ ys.flatten.length + ys.length * s.length
  | [] => by simp [TL.joinL]
  | [p] => by simp [TL.joinL]
  | p :: q :: r => by
    have ih := joinL_len s (q :: r)
    have e : TL.joinL s (p :: q :: r) = p ++ s ++ TL.joinL s (q :: r) := by simp [TL.joinL]
    rw [e, List.length_append, List.length_append, List.flatten_cons, List.length_append]
    have e2 : (p :: q :: r).length * s.length = (q :: r).length * s.length + s.length := by
      rw [List.length_cons, Nat.add_mul, Nat.one_mul]
    rw [e2]
    omega
theorem join_for (ys : List (List Nat)) : Txt.join (S cFor) (ys.map S) = S (TL.joinL cFor ys) := by
  rw [join_tl, S_cps, List.map_map]
  have e : ((fun z : Str => z.cps.toList) ∘ S) = id := by
    funext l
    exact S_cps l
  rw [e, List.map_id]
theorem b2_at (b : Bool) (x y : V) : atI [x, y] (if b = true then 1 else 0) = some (if b = true then y else x) := by
  cases b <;> rfl
end Cl
namespace Cl.K54
open PySem PySem.Spec L2 PyProof.Rows
abbrev sStageText : Stmt := top 45
section
variable {P : Program} {w : World} {K : PySem.W.Frag} {mg : Str → Option Value} {base : Heap}
theorem scStageText : FnScope ["_law_stage_here", "_law_text"] ["_law_stage_here"] (defScope sStageText) := ⟨rfl, rfl, rfl, by decide +kernel, rfl, by decide +kernel, by decide +kernel⟩
theorem ok_stagetext {f : Addr} {fd : FuncData} (F : Fun K "_law_stage_text" "_law_stage_text" sStageText f fd) (hS : mg "str" = none) (hI : mg "int" = none) : FnOk P w K mg base CX0 1 f fd ["_law_stage_here"] (spStageText K) := by
  refine F.ok scStageText (fun vs H Q E h => ?_) (fun cdv A outer s H vs Q E hr h => ?_)
  · rcases h with ⟨p, h, ys, rfl, _⟩ | ⟨p, n, af, e, b, rfl, _⟩ <;> rfl
  · refine ⟨_, pss_cons (ps_if (pt_cmpR op_ne (pe_ix ix_tup (pv 0) pe_int (fun _ _ => rfl)) pe_str (nomark _)) (pss_one (ps_ret (pe_op op_add_str (pe_op op_add_str (pe_ix ix_tup (pv 0) pe_int (fun _ _ => rfl)) pe_str) (pe_join pe_str (pe_slice sl_tup (pv 0) (po_some pe_int) po_none))))) pss_nil)
      (pss_cons (ps_set (i := 1) scStageText.nd rfl (.inl rfl) (pe_op op_add_str (pe_op op_add_str pe_str (pe_ix ix_tup (pv 0) pe_int (fun _ _ => rfl))) (pe_ix ix_list (pe_lst (pa_cons pe_str (pa_cons (pe_op op_add_str pe_str (pe_callTy call_str_int (by rfl) hS (by decide +kernel) (pa_cons (pe_ix ix_tup (pv 0) pe_int (fun _ _ => rfl)) pa_nil))) pa_nil)))
          (pe_callTy call_int1 (by rfl) hI (by decide +kernel) (pa_cons (pe_cmpR op_gt (pe_ix ix_tup (pv 0) pe_int (fun _ _ => rfl)) pe_int (nomark _)) pa_nil)) (fun _ _ => rfl))))
      (pss_one (ps_ret (pe_op op_add_str (pe_op op_add_str (pv 1) (pe_ix ix_list (pe_lst (pa_cons pe_str (pa_cons pe_str pa_nil))) (pe_callTy call_int1 (by rfl) hI (by decide +kernel) (pa_cons (pe_ix ix_tup (pv 0) pe_int (fun _ _ => rfl)) pa_nil)) (fun _ _ => rfl)))
        (pe_ix ix_list (pe_lst (pa_cons pe_str (pa_cons pe_str pa_nil))) (pe_callTy call_int1 (by rfl) hI (by decide +kernel) (pa_cons (pe_ix ix_tup (pv 0) pe_int (fun _ _ => rfl)) pa_nil)) (fun _ _ => rfl)))))), ?_⟩
    rcases h with ⟨p, h, ys, rfl, hp, hd, hl, ly, lf, k⟩ | ⟨p, n, af, e, b, rfl, hp, hn, h3, k⟩
    · refine ⟨_, rfl, p, _, 0, .str (S h), rfl, rfl, hp, atI_pos (by decide) rfl, rfl, _, rfl, ?_⟩
      rw [eDrop, vs_eq, decide_eq_false hd]
      refine iteT ?_
      refine ⟨_, rfl, p, _, 0, .str (S h), rfl, rfl, hp, atI_pos (by decide) rfl, _, _, rfl, rfl, ?_, ⟨_, rfl⟩, _, rfl, 1, rfl, p, _, rfl, hp, ?_, fun q hq => ?_⟩
      · rw [eSp, S_len, S_len, sizeLine_eq]
        show _ + 1 ≤ _
        omega
      · intro z
        have z1 := z.1
        have e1 : HT.sIx ((V.str (S h) :: txs ys).length) 0 (some 1) = min 1 (V.str (S h) :: txs ys).length := HT.sIx_nat _ 0 1
        rw [e1, List.length_cons] at z1
        omega
      have ec : cutV (V.str (S h) :: txs ys) (some 1) none = txs ys := by
        unfold cutV
        rw [show HT.sIx ((V.str (S h) :: txs ys).length) 0 (some 1) = min 1 (V.str (S h) :: txs ys).length from HT.sIx_nat _ 0 1, List.length_cons, Nat.min_eq_left (by omega)]
        show ((txs ys).take _) = txs ys
        exact List.take_of_length_le (by show (txs ys).length ≤ (txs ys).length + 1 - 1; omega)
      rw [ec, eFor]
      have jl := joinL_len cFor ys
      have j5 : ys.length * cFor.length ≤ 20 := by
        show ys.length * 5 ≤ 20
        omega
      refine ⟨S cFor, q, ys.map S, rfl, rfl, .inr ?_, join_room ys _ 0 (by rw [S_len]; decide) (by omega) (by omega), ?_⟩
      · rw [strs_map]
        exact SqT.of upd_same
      rw [join_for, eSp, S_app]
      refine ⟨_, _, rfl, rfl, ?_, ?_⟩
      · rw [S_len, S_len, sizeLine_eq, List.length_append]
        show _ + 1 + _ ≤ _
        omega
      rw [S_app]
      exact k _ (same_new hq)
    · refine ⟨_, rfl, p, _, 0, .str (S cDrop), rfl, rfl, hp, rfl, rfl, _, rfl, ?_⟩
      rw [eDrop, vs_eq, decide_eq_true rfl]
      refine iteF ?_
      refine ⟨_, rfl, p, _, 1, .str (S n), rfl, rfl, hp, rfl, _, _, rfl, rfl, ?_, ?_⟩
      · rw [eDropS2, S_len, S_len, sizeLine_eq]
        show 5 + _ ≤ _
        omega
      rw [eDropS2, S_app]
      refine ⟨_, rfl, p, _, 2, .int (af : Int), rfl, rfl, hp, rfl, _, rfl, Nat.lt_of_le_of_lt (Nat.le_trans (Nat.log2_le_self af) h3) (by decide), _, _, rfl, rfl, ?_, (by show 2 ≤ sizeLine; decide), fun D hD => ?_⟩
      · rw [eAfter2, dig0 h3, S_len, S_len, sizeLine_eq]
        show 7 + 1 ≤ 16777216
        decide
      rw [eAfter2, dig0 h3, S_app]
      have s1 : Same H (upd H D (.lst [V.str ("" : Str), V.str (S (cAfter ++ [48 + af]))])) := same_new hD
      refine ⟨_, rfl, p, _, 2, .int (af : Int), rfl, rfl, SqT.ext hp s1, rfl, _, _, rfl, rfl, .inr ⟨_, rfl, D, _, _, _, rfl, rfl, SqL.of upd_same, b2_at _ _ _, ?_⟩⟩
      have ea : (if decide ((af : Int) > 0) = true then V.str (S (cAfter ++ [48 + af])) else V.str ("" : Str)) = V.str (S (afT af)) := by
        unfold afT
        by_cases h0 : 0 < af
        · rw [if_pos h0, if_pos (decide_eq_true (by omega))]
        · rw [if_neg h0, if_neg (fun y => h0 (by have := of_decide_eq_true y; omega))] <;> rfl
      rw [ea]
      have la := afT_len (af := af)
      refine ⟨_, _, rfl, rfl, ?_, ?_⟩
      · rw [S_len, S_len, sizeLine_eq, List.length_append]
        show 5 + _ + _ ≤ _
        omega
      rw [S_app]
      generalize upd H D (.lst [V.str ("" : Str), V.str (S (cAfter ++ [48 + af]))]) = H1 at s1
      refine ⟨_, rfl, (by show 2 ≤ sizeLine; decide), fun D2 hD2 => ?_⟩
      have s2 : Same H1 (upd H1 D2 (.lst [V.str ("" : Str), V.str (" each" : Str)])) := same_new hD2
      refine ⟨_, rfl, p, _, 3, .bl e, rfl, rfl, SqT.ext hp (s1.trans s2), rfl, .inr ⟨_, rfl, D2, _, _, _, rfl, rfl, SqL.of upd_same, b2_at _ _ _, ?_⟩⟩
      have ee : (if e = true then V.str (" each" : Str) else V.str ("" : Str)) = V.str (S (eaT e)) := by
        cases e
        · rfl
        · rw [eEach] <;> rfl
      rw [ee]
      have le := eaT_len (e := e)
      refine ⟨_, _, rfl, rfl, ?_, ?_⟩
      · rw [S_len, S_len, sizeLine_eq, List.length_append, List.length_append]
        show 5 + _ + _ + _ ≤ _
        omega
      rw [S_app]
      generalize upd H1 D2 (.lst [V.str ("" : Str), V.str (" each" : Str)]) = H2 at s2
      refine ⟨(by show 2 ≤ sizeLine; decide), fun D3 hD3 => ?_⟩
      have s3 : Same H2 (upd H2 D3 (.lst [V.str ("" : Str), V.str (" but last" : Str)])) := same_new hD3
      refine ⟨_, rfl, p, _, 4, .bl b, rfl, rfl, SqT.ext hp ((s1.trans s2).trans s3), rfl, .inr ⟨_, rfl, D3, _, _, _, rfl, rfl, SqL.of upd_same, b2_at _ _ _, ?_⟩⟩
      have eb : (if b = true then V.str (" but last" : Str) else V.str ("" : Str)) = V.str (S (blT b)) := by
        cases b
        · rfl
        · rw [eBut] <;> rfl
      rw [eb]
      have lb := blT_len (b := b)
      refine ⟨_, _, rfl, rfl, ?_, ?_⟩
      · rw [S_len, S_len, sizeLine_eq, List.length_append, List.length_append, List.length_append]
        show 5 + _ + _ + _ + _ ≤ _
        omega
      rw [S_app]
      exact k _ ((s1.trans s2).trans s3)
end
end Cl.K54
set_option Elab.async false
set_option linter.all false
set_option maxRecDepth 100000
set_option maxHeartbeats 4000000
namespace Cl
open PySem PySem.Spec L2 PyProof.Rows
theorem passN {X : Cx} : Passes (L2.CX X.prog X.w) X E0 := fun _ _ _ _ _ _ _ h => by
  obtain ⟨_, _, _, _, _, _, _, _, _, _, _, _, z⟩ := h
  exact z.elim
theorem passNAt {X : Cx} {σ : L2.St} : PassesAt (L2.CX X.prog X.w) X σ E0 := fun _ _ _ _ _ _ h => by
  obtain ⟨_, _, _, _, _, _, _, _, _, _, _, _, z⟩ := h
  exact z.elim
theorem fnR_of {P : Program} {w : World} {K : PySem.W.Frag} {mg : Str → Option Value} {base : Heap} {CX : CXT} {k : Nat} {f : Addr} {sp : Sp} (h : ∀ vs H Q E, sp vs H Q E → ∃ sp', FnR P w K mg base CX k f sp' ∧ sp' vs H Q E) : FnR P w K mg base CX k f sp :=
  fun A outer s H us vs Q E hr e0 r hs => let ⟨_, F, q⟩ := h _ _ _ _ hs; F A outer s H us vs Q E hr e0 r q
def spDropT (W : Addr) : Sp := fun vs H Q _ => ∃ (a dx q : Addr) (n m : List Nat) (af : Nat) (e : Bool), vs = [.ref a] ∧ H a = some (.ins W dx (df q n m af e)) ∧ n.length ≤ 60 ∧ af ≤ 3 ∧ Q (.str (S (dropT n af e))) H
/-- the methods of the drop that keeps the last -/
def spLText (W : Addr) : Sp := fun vs H Q _ => ∃ (a dx q : Addr) (n m : List Nat) (af : Nat) (e : Bool), vs = [.ref a] ∧ H a = some (.ins W dx (df q n m af e)) ∧ n.length ≤ 60 ∧ af ≤ 3 ∧ Q (.str (S (dropT n af e ++ cBut))) H
end Cl
namespace Cl.K54
open PySem PySem.Spec L2 PyProof.Rows
abbrev sLText : Stmt := inClass (top 20) 1
theorem nsT : NdefX.NScope ["self", "__class__"] ["self"] ["__class__"] (defScope sLText) := NdefX.nscope_by (by decide +kernel)
section
variable {P : Program} {w : World} {K : PySem.W.Frag} {mg : Str → Option Value} {base : Heap} {C L f c cc g : Addr} {fd gd : FuncData}
theorem ok_lText (F : Sx.FunS K P.main.file "text" "LastDrop.text" sLText L f c cc fd) (z : Sx.SupP K L L g "text") (FT : FnR P w K mg base CX0 1 g (spDropT L)) (htop : (P.main.scope.names.lookup ("super" : Str)).isSome = false) (hs : mg "super" = none) :
    FnOk P w K mg base CX0 2 f fd ["self"] (spLText L) := by
  refine Sx.fn_at (k := 1) (n := Sx.nf "text" "LastDrop.text" sLText cc c) (N := ["self", "__class__"]) F rfl nsT (fun vs H Q E h => ?_) (fun A outer s H vs Q E hr h => ?_)
  · obtain ⟨a, dx, q, n, m, af, e, rfl, _⟩ := h
    rfl
  · obtain ⟨a, dx, q, n, m, af, e, rfl, ha, hn, h3, k⟩ := h
    refine ⟨_, Sx.pssa_one (Sx.psa_ret (Sx.pea_op op_add_str (Sx.pea_sup0 (i := 1) (E := E0) (Sx.supCx_of F nsT rfl rfl rfl rfl rfl rfl htop hs) z FT hr pass0) pe_str)), ?_⟩
    have l1 := afT_len (af := af)
    have l2 := eaT_len (e := e)
    refine ⟨a, dx, _, rfl, rfl, ha, a, dx, q, n, m, af, e, rfl, ha, hn, h3, _, _, rfl, rfl, ?_, ?_⟩
    · rw [eBut, S_len, S_len, sizeLine_eq]
      unfold dropT
      rw [List.length_append, List.length_append, List.length_append]
      show 5 + _ + _ + _ + 9 ≤ _
      omega
    · rw [eBut, S_app]
      exact k
end
end Cl.K54
set_option Elab.async false
set_option linter.all false
set_option maxRecDepth 100000
set_option maxHeartbeats 4000000
namespace Cl
open PySem PySem.Spec L2 PyProof.Rows
end Cl
namespace Cl.K54
open PySem PySem.Spec L2 PyProof.Rows
section
variable {P : Program} {w : World} {K : PySem.W.Frag} {mg : Str → Option Value} {base : Heap} {C : Addr}
end
end Cl.K54
namespace Cl.K54
open PySem PySem.Spec L2 PyProof.Rows
section
variable {P : Program} {w : World} {K : PySem.W.Frag} {mg : Str → Option Value} {base : Heap} {C D f c cc g : Addr} {fd gd : FuncData}
end
end Cl.K54
namespace Cl
open PySem PySem.Spec L2 PyProof.Rows
end Cl
namespace Cl.K54
open PySem PySem.Spec L2 PyProof.Rows
section
variable {P : Program} {w : World} {K : PySem.W.Frag} {mg : Str → Option Value} {base : Heap} {D f : Addr} {fd : FuncData}
theorem sc1 {N ps : List Str} {st : Stmt} (h : FnScope N ps (defScope st)) : FnScope N ps (defScope st) := h
theorem scWText : FnScope ["self"] ["self"] (defScope (inClass (top 21) 1)) := ⟨rfl, rfl, rfl, by decide +kernel, rfl, by decide +kernel, by decide +kernel⟩
theorem scOText : FnScope ["self"] ["self"] (defScope (inClass (top 22) 1)) := ⟨rfl, rfl, rfl, by decide +kernel, rfl, by decide +kernel, by decide +kernel⟩
theorem scAText : FnScope ["self"] ["self"] (defScope (inClass (top 23) 1)) := ⟨rfl, rfl, rfl, by decide +kernel, rfl, by decide +kernel, by decide +kernel⟩
end
end Cl.K54
set_option Elab.async false
set_option linter.all false
set_option maxRecDepth 100000
set_option maxHeartbeats 4000000
namespace Sx
open PySem PySem.Spec L2 PyProof.Rows
section
variable {X : Cx} {ι : Type} {k : Nat} {D g : ι → Addr} {sp : ι → Sp} {o a0 : Expr} {as : List Expr} {m : Str} {pos apos : Pos} {to : TE} {ta : TA}
/-- o.m(..), o's class one of a family -/
def tMethFA (D : ι → Addr) (m : Str) (sp : ι → Sp) (E : XK) (to : TE) (ta : TA) : TE := fun σ H Q => to σ H fun x H1 => ∃ (j : ι) (a dx : Addr) (fs : List (Str × V)), x = .ref a ∧ H1 a = some (.ins (D j) dx fs) ∧ fs.lookup m = none ∧ ta σ H1 fun vs H2 => sp j (x :: vs) H2 Q E
theorem pe_methF {pl : Sem Bool} {CXa : CXT} {E : XK} (ho : PE X o to) (c : ∀ j, Cls X.K (D j)) (hm : ∀ j, Meth X.K (D j) m (g j)) (F : ∀ j, FnR X.prog X.w X.K X.mg X.base CXa k (g j) (sp j)) (hr : Room k X.A) (hx : Passes CXa X E) (ha : PA X (a0 :: as) ta)
    (ht : eval (.Call (.Attribute o m apos) (a0 :: as) [] pos) X.env = (do
      let ov ← eval o X.env
      standAt apos.atName
      let (f, first) ← holding [ov] (getMethod ov m pl)
      callWith pos f first (backTo pos (starEach (a0 :: as) X.env)) (backToKw pos (keywordEach [] X.env))) := by rfl)
    (he : starEach (a0 :: as) X.env = (false, eval a0 X.env) :: starEach as X.env := by rfl) (hpl : (backTo pos (starEach as X.env)).any (·.1) = false := by rfl) :
    PE X (.Call (.Attribute o m apos) (a0 :: as) [] pos) (tMethFA D m sp E to ta) := by
  refine ⟨fun pins s σ H Q I h => PySem.W.methodCall_KW (pl := pl) (thn (ho.run pins s σ H _ I h) fun u s1 hh => ?_) ht⟩
  obtain ⟨x, H1, J, rx, j, a, dx, fs, rfl, hi, hl, q⟩ := hh
  obtain rfl : u = Value.ref a := rx
  refine getmeth_ok J hi (c j) (hm j) hl ?_
  refine PySem.W.callWith_K (first := [.ref a]) J.kIn (hm j).kp (thn (ha.run pos pins s1 σ H1 _ J q) fun us s2 hh => ?_) he hpl
  obtain ⟨vs, H2, I2, r, q⟩ := hh
  exact ⟨I2.kIn, wpAny_call (run_fnR (us := .ref a :: us) (vs := .ref a :: vs) (F j) hr hx I2 (.cons rfl r) q)⟩
end
end Sx
set_option Elab.async false
set_option linter.all false
set_option maxRecDepth 100000
set_option maxHeartbeats 4000000
namespace Cl
open PySem PySem.Spec L2 PyProof.Rows
def kAdd : List Nat := [97, 100, 100]
def kWrite : List Nat := [119, 114, 105, 116, 101]
def kOnce : List Nat := [111, 110, 99, 101]
theorem eKAdd : ("add" : Str) = S kAdd := by decide +kernel
theorem eKWrite : ("write" : Str) = S kWrite := by decide +kernel
theorem eKOnce : ("once" : Str) = S kOnce := by decide +kernel
end Cl
namespace Cl
open PySem PySem.Spec L2 PyProof.Rows
inductive Kd where
  | d | l | w | o | a
  deriving DecidableEq
/-- a stage's data -/
structure StD where
  k : Kd
  q : Nat
  c : Nat
  n : List Nat
  m : List Nat
  af : Nat
  e : Bool
def StD.fs (d : StD) : List (Str × V) := match d.k with
  | .d => df d.q d.n d.m d.af d.e
  | .l => df d.q d.n d.m d.af d.e
  | .w => wf d.q d.c d.n d.m
  | .o => nf d.q d.n d.m
  | .a => gf d.q d.c
/-! what the law says -/
def TupAt (d : StD) : List V := match d.k with
  | .d => dropV d.n d.af d.e false
  | .l => dropV d.n d.af d.e true
  | .w => [.str (S kWrite), sg d.c, .str (S d.n)]
  | .o => [.str (S kOnce), .str (S d.n)]
  | .a => [.str (S kAdd), sg d.c]
end Cl
set_option Elab.async false
set_option linter.all false
set_option maxRecDepth 100000
set_option maxHeartbeats 4000000
namespace Cl
open PySem PySem.Spec L2 PyProof.Rows
/-- a method of a class, as a promise -/
structure MetG (P : Program) (w : World) (K : PySem.W.Frag) (mg : Str → Option Value) (base : Heap) (n : Nat) (ps : List Str) (sp : Sp) (f : Addr) (fd : FuncData) : Prop where
  ok : FnOk P w K mg base CX0 n f fd ps sp
  bd : Binds K fd ps []
theorem MetG.r {P : Program} {w : World} {K : PySem.W.Frag} {mg : Str → Option Value} {base : Heap} {n : Nat} {ps : List Str} {sp : Sp} {f : Addr} {fd : FuncData} (g : MetG P w K mg base n ps sp f fd) (h : n ≤ 2) : FnR P w K mg base CX0 2 f sp :=
  ((g.ok.raw g.bd .nil).imp fun vs H Q E h => by rw [List.append_nil]; exact h).mono h
end Cl
namespace Cl.K54
open PySem PySem.Spec L2 PyProof.Rows
section
variable {P : Program} {w : World} {K : PySem.W.Frag} {mg : Str → Option Value} {base : Heap} {Wc gS gP gE : Kd → Addr} {fS fP fE : Kd → FuncData}
end
end Cl.K54
set_option Elab.async false
set_option linter.all false
set_option maxRecDepth 100000
set_option maxHeartbeats 4000000
namespace Cl
open PySem PySem.Spec L2 PyProof.Rows
theorem cut_lo (l : List Nat) {v : Int} (h : 0 ≤ v) : cutS (S l) (some v) none = S (l.drop v.toNat) := by
  unfold cutS
  rw [S_cps, S_len]
  have e1 : HT.sIx l.length 0 (some v) = min v.toNat l.length := by
    have z := HT.sIx_nat l.length 0 v.toNat
    rwa [Int.toNat_of_nonneg h] at z
  have e2 : HT.sIx l.length l.length none = l.length := rfl
  rw [e1, e2]
  show Str.mk _ = Str.mk _
  congr 2
  by_cases c : v.toNat ≤ l.length
  · rw [Nat.min_eq_left c]
    exact List.take_of_length_le (by rw [List.length_drop]; omega)
  · rw [Nat.min_eq_right (by omega), List.drop_length, List.drop_of_length_le (by omega)]
    simp
theorem cut_hi (l : List Nat) {v : Int} (h : 0 ≤ v) : cutS (S l) none (some v) = S (l.take v.toNat) := by
  unfold cutS
  rw [S_cps, S_len]
  have e1 : HT.sIx l.length l.length (some v) = min v.toNat l.length := by
    have z := HT.sIx_nat l.length l.length v.toNat
    rwa [Int.toNat_of_nonneg h] at z
  have e2 : HT.sIx l.length 0 none = 0 := rfl
  rw [e1, e2]
  show Str.mk _ = Str.mk _
  congr 2
  rw [List.drop_zero, Nat.sub_zero]
  by_cases c : v.toNat ≤ l.length
  · rw [Nat.min_eq_left c]
  · rw [Nat.min_eq_right (by omega), List.take_length, List.take_of_length_le (by omega)]
theorem cut_mid (l : List Nat) (m n : Nat) (h : m ≤ n) : cutS (S l) (some (m : Int)) (some (n : Int)) = S ((l.drop m).take (n - m)) := by
  unfold cutS
  rw [S_cps, S_len, HT.sIx_nat, HT.sIx_nat]
  show Str.mk _ = Str.mk _
  congr 2
  by_cases c : m ≤ l.length
  · rw [Nat.min_eq_left c]
    by_cases d : n ≤ l.length
    · rw [Nat.min_eq_left d]
    · rw [Nat.min_eq_right (by omega), List.take_of_length_le (by rw [List.length_drop]; omega), List.take_of_length_le (by rw [List.length_drop]; omega)]
  · rw [Nat.min_eq_right (by omega), Nat.min_eq_right (by omega), List.drop_of_length_le (by omega : l.length ≤ m)]
    simp
theorem same_made {H H' : Hp} {p dx C : Addr} (hp : H p = none) (hd : H dx = none) (k : Kp p (upd (upd H dx (.own p)) p (.ins C dx [])) H') : Same H H' := fun a o e => by
  have n := ne_of_none e hp
  refine k a o n ?_
  rw [upd_ne n, upd_ne (ne_of_none e hd)]
  exact e
section
variable {P : Program} {w : World} {K : PySem.W.Frag} {mg : Str → Option Value} {base : Heap}
structure LawG (P : Program) (w : World) (K : PySem.W.Frag) (mg : Str → Option Value) (base : Heap) (n : Nat) (x : Str) (ps : List Str) (sp : Sp) (f : Addr) (fd : FuncData) : Prop where
  ok : FnOk P w K mg base CX0 n f fd ps sp
  bd : Binds K fd ps []
  gl : mg x = some (.ref f)
  kp : PySem.W.keepIn K (.ref f) = true
end
end Cl
set_option Elab.async false
set_option linter.all false
set_option maxRecDepth 100000
set_option maxHeartbeats 4000000
namespace Cl
open PySem PySem.Spec L2 PyProof.Rows
theorem same_mk {H : Hp} {p dx C : Addr} (hp : H p = none) (hd : H dx = none) : Same H (upd (upd H dx (.own p)) p (.ins C dx [])) := fun a o e => by
  have n := ne_of_none e hp
  rw [upd_ne n, upd_ne (ne_of_none e hd)]
  exact e
/-- a drawn stage -/
def GoodD (l : List Nat) (d : StD) : Prop := GoodName l d.n ∧ d.c ∈ 45 :: l ∧ d.af ≤ 3
def spLawStage : Sp := fun vs H Q _ => ∃ (b lb : Addr) (l : List Nat), vs = [.ref b, .str (S l)] ∧ Lets l 8 ∧ Bag H b lb ∧
  ∀ (d : StD) (p : Addr) (H' : Hp), Kp b H H' → Bag H' b lb → p ≠ b → H' p = some (.tup (TupAt d)) → GoodD l d → Q (.ref p) H'
theorem goodAll (l : List Nat) : GoodName l cAll := ⟨by decide, .inl rfl⟩
end Cl
namespace Cl.K54
open PySem PySem.Spec L2 PyProof.Rows
abbrev sStage : Stmt := top 44
theorem scStage : FnScope ["_law_bag_here", "_law_letters_here", "_law_way", "_law_signs", "_law_name_here", "_law_bound", "_law_sign"] ["_law_bag_here", "_law_letters_here"] (defScope sStage) := ⟨rfl, rfl, rfl, by decide +kernel, rfl, by decide +kernel, by decide +kernel⟩
section
variable {P : Program} {w : World} {K : PySem.W.Frag} {mg : Str → Option Value} {base : Heap} {C : Addr} {Wc gS gP gE : Kd → Addr}
theorem ok_stage {f fT fN : Addr} {fd fdT fdN : FuncData} (F : Fun K "_law_stage" "_law_stage" sStage f fd) (GT : LawG P w K mg base 1 "_law_take" ["_law_bag_here", "_law_size"] spTake fT fdT)
    (GN : LawG P w K mg base 2 "_law_name" ["_law_bag_here", "_law_letters_here"] spLawName fN fdN) (hn : mg "len" = none) : FnOk P w K mg base CX0 3 f fd ["_law_bag_here", "_law_letters_here"] spLawStage := by
  refine F.ok scStage (fun vs H Q E h => ?_) (fun cdv A outer s H vs Q E hr h => ?_)
  · obtain ⟨b, lb, l, rfl, _⟩ := h
    rfl
  · obtain ⟨b, lb, l, rfl, hL, hb, k⟩ := h
    have l8 := hL.most
    have hr2 : Room 2 _ := hr
    have hr1 : Room 1 _ := hr.mono (by decide)
    refine ⟨_, pss_cons (ps_set (i := 2) scStage.nd rfl (.inl rfl) (pe_call GT.ok hr1 rfl GT.gl GT.kp GT.bd .nil pass0 (pa_cons (pv 0) (pa_cons pe_int pa_nil))))
      (pss_cons (ps_set (i := 3) scStage.nd rfl (.inl rfl) (pe_op op_add_str pe_str (pv 1)))
      (pss_cons (ps_if (pt_cmpR op_lt (pv 2) pe_int (nomark _))
        (pss_cons (ps_set (i := 4) scStage.nd rfl (.inl rfl) (pe_call GN.ok hr2 rfl GN.gl GN.kp GN.bd .nil pass0 (pa_cons (pv 0) (pa_cons (pv 1) pa_nil))))
        (pss_cons (ps_set (i := 5) scStage.nd rfl (.inl rfl) (pe_call GT.ok hr1 rfl GT.gl GT.kp GT.bd .nil pass0 (pa_cons (pv 0) (pa_cons pe_int pa_nil))))
        (pss_one (ps_ret (pe_tup (pa_cons pe_str (pa_cons (pv 4) (pa_cons (pv 5) (pa_cons (pe_cmpR op_eq (pe_call GT.ok hr1 rfl GT.gl GT.kp GT.bd .nil pass0 (pa_cons (pv 0) (pa_cons pe_int pa_nil))) pe_int (nomark _)) (pa_cons (pe_cmpR op_gt (pv 2) pe_int (nomark _)) pa_nil))))))))))
        pss_nil)
      (pss_cons (ps_if (pt_cmpR op_eq (pv 2) pe_int (nomark _)) (pss_one (ps_ret (pe_tup (pa_cons pe_str (pa_cons (pe_call GN.ok hr2 rfl GN.gl GN.kp GN.bd .nil pass0 (pa_cons (pv 0) (pa_cons (pv 1) pa_nil))) pa_nil))))) pss_nil)
      (pss_cons (ps_set (i := 6) scStage.nd rfl (.inl rfl) (pe_ix ix_str (pv 3) (pe_call GT.ok hr1 rfl GT.gl GT.kp GT.bd .nil pass0 (pa_cons (pv 0) (pa_cons (pe_callB call_len_str (by rfl) hn PySem.boot_len (pa_cons (pv 3) pa_nil)) pa_nil))) (fun _ _ => rfl)))
      (pss_one (ps_ret (pe_ifExp (pt_cmpR op_eq (pv 2) pe_int (nomark _)) (pe_tup (pa_cons pe_str (pa_cons (pv 6) pa_nil))) (pe_tup (pa_cons pe_str (pa_cons (pv 6) (pa_cons (pe_call GN.ok hr2 rfl GN.gl GN.kp GN.bd .nil pass0 (pa_cons (pv 0) (pa_cons (pv 1) pa_nil))) pa_nil))))))))))), ?_⟩
    refine ⟨_, rfl, b, lb, 8, rfl, by decide, by decide, hb, fun way H1 y0 y1 kp1 hb1 => ?_⟩
    refine ⟨_, rfl, _, _, rfl, rfl, dash_len l (by omega), ?_⟩
    rw [dash_app]
    refine ⟨_, rfl, _, _, rfl, rfl, _, rfl, ?_⟩
    refine ite2 (fun h1 => ?_) (fun h1 => ?_)
    · refine ⟨_, rfl, _, rfl, b, lb, l, rfl, hL, hb1, fun n H2 kp2 hb2 gn => ?_⟩
      refine ⟨_, rfl, b, lb, 4, rfl, by decide, by decide, hb2, fun af0 H3 a0 a1 kp3 hb3 => ?_⟩
      obtain ⟨af, rfl⟩ := Int.eq_ofNat_of_zero_le a0
      refine ⟨_, rfl, _, rfl, _, rfl, b, lb, 2, rfl, by decide, by decide, hb3, fun ev H4 _ _ kp4 hb4 => ⟨rfl, _, rfl, _, _, rfl, rfl, (by show 5 ≤ sizeLine; decide), fun p hp => ?_⟩⟩
      generalize decide (V.int ev = V.int 1) = e
      refine k ⟨if decide (way > 2) = true then .l else .d, 0, 45, n, [], af, e⟩ p _ (((kp1.trans kp2).trans kp3).trans (kp4.trans (Kp.new hp))) (hb4.new hp) (hb4.nb hp) ?_ ⟨gn, List.mem_cons_self .., by show af ≤ 3; omega⟩
      rw [upd_same, eDrop]
      show some (HO.tup [V.str (S cDrop), V.str (S n), V.int (af : Int), V.bl e, V.bl (decide (way > 2))]) = _
      cases decide (way > 2) <;> rfl
    · refine ⟨_, rfl, rfl, _, rfl, ?_⟩
      refine ite2 (fun h2 => ?_) (fun h2 => ?_)
      · refine ⟨_, rfl, _, rfl, b, lb, l, rfl, hL, hb1, fun n H2 kp2 hb2 gn => ⟨(by show 2 ≤ sizeLine; decide), fun p hp => ?_⟩⟩
        refine k ⟨.o, 0, 45, n, [], 0, false⟩ p _ (kp1.trans (kp2.trans (Kp.new hp))) (hb2.new hp) (hb2.nb hp) ?_ ⟨gn, List.mem_cons_self .., Nat.zero_le 3⟩
        rw [upd_same, eKOnce]
        rfl
      · refine ⟨_, rfl, _, rfl, _, rfl, _, rfl, le_S (by rw [List.length_cons]; omega : _ ≤ 9), b, lb, _, rfl, ?_, ?_, hb1, fun iv H2 i0 i1 kp2 hb2 => ?_⟩
        · rw [S_len, List.length_cons]
          omega
        · rw [S_len, List.length_cons]
          omega
        rw [S_len] at i1
        refine ⟨S (45 :: l), iv, (45 :: l)[iv.toNat]'(by omega), rfl, rfl, le_S (by rw [List.length_cons]; omega : _ ≤ 9), atS i0 i1, ?_⟩
        have hc : (45 :: l)[iv.toNat]'(by omega) ∈ 45 :: l := List.getElem_mem _
        generalize (45 :: l)[iv.toNat]'(by omega) = c at hc
        refine ⟨_, rfl, rfl, _, rfl, ?_⟩
        refine ite2 (fun h3 => ?_) (fun h3 => ?_)
        · refine ⟨_, rfl, (by show 2 ≤ sizeLine; decide), fun p hp => ?_⟩
          refine k ⟨.a, 0, c, cAll, [], 0, false⟩ p _ (kp1.trans (kp2.trans (Kp.new hp))) (hb2.new hp) (hb2.nb hp) ?_ ⟨goodAll l, hc, Nat.zero_le 3⟩
          rw [upd_same, eKAdd]
          rfl
        · refine ⟨_, rfl, _, rfl, _, rfl, b, lb, l, rfl, hL, hb2, fun n H3 kp3 hb3 gn => ⟨(by show 3 ≤ sizeLine; decide), fun p hp => ?_⟩⟩
          refine k ⟨.w, 0, c, n, [], 0, false⟩ p _ (kp1.trans (kp2.trans (kp3.trans (Kp.new hp)))) (hb3.new hp) (hb3.nb hp) ?_ ⟨gn, hc, Nat.zero_le 3⟩
          rw [upd_same, eKWrite]
          rfl
end
end Cl.K54
set_option Elab.async false
set_option linter.all false
set_option maxRecDepth 100000
set_option maxHeartbeats 4000000
namespace Sx
open PySem PySem.Spec L2 PyProof.Rows
theorem vals_rev : ∀ {zs : List V} {ws : List Value}, Vals zs ws → Vals zs.reverse ws.reverse
  | _, _, .nil => .nil
  | _, _, .cons r t => by
    rw [List.reverse_cons, List.reverse_cons]
    exact (vals_rev t).append (.cons r .nil)
/-- the keyword-only parameters are written in the other order -/
theorem FunS.kbindsR {K : PySem.W.Frag} {file x qual : Str} {st : Stmt} {D f c cc : Addr} {fd : FuncData} {ps ks : List Str} {n : Nat} (F : FunS K file x qual st D f c cc fd)
    (h : ∀ (kV doc pm : Value) (an : Option Addr) (ct : Value) (us ws : List Value), us.length = n → ws.length = ks.length → bindArgs (PySem.W.fnX x qual (defArgs st) (defBody st) (defScope st) [("__class__", cc)] .none kV doc pm an (.ref c) ct) ⟨us, ks.zip ws⟩ = pure (ps.zip (us ++ ws.reverse))) :
    KBn K fd ps n ks (fun us ws => us ++ ws.reverse) (fun vs zs => vs ++ zs.reverse) := by
  obtain ⟨oc, od, an, kV, doc, pm, ct, osl, rfl, lk⟩ := F.ex
  exact ⟨fun s us ws _ h1 h2 => BindsTo.of_eq (h kV doc pm an ct us ws h1 h2), fun r1 r2 => r1.append (vals_rev r2)⟩
end Sx
set_option Elab.async false
set_option linter.all false
set_option maxRecDepth 100000
set_option maxHeartbeats 4000000
namespace Cl
open PySem PySem.Spec L2 PyProof.Rows
def cWrite : List Nat := [119, 114, 105, 116, 101, 32]
def cOnce : List Nat := [111, 110, 99, 101, 32]
def cAdd : List Nat := [97, 100, 100, 32]
theorem eWrite : (Str.empty ++ ("write " : Str)) = S cWrite := by decide +kernel
theorem eOnce : (Str.empty ++ ("once " : Str)) = S cOnce := by decide +kernel
theorem eAdd : (Str.empty ++ ("add " : Str)) = S cAdd := by decide +kernel
end Cl
namespace Cl
open PySem PySem.Spec L2 PyProof.Rows
/-- the written form -/
def textD (d : StD) : List Nat := match d.k with
  | .d => dropT d.n d.af d.e
  | .l => dropT d.n d.af d.e ++ cBut
  | .w => ((cWrite ++ [d.c]) ++ cFor) ++ d.n
  | .o => cOnce ++ d.n
  | .a => cAdd ++ [d.c]
def sp5T (Wc : Kd → Addr) (j : Kd) : Sp := fun vs H Q _ => ∃ (d : StD) (a dx : Addr), d.k = j ∧ vs = [.ref a] ∧ H a = some (.ins (Wc j) dx d.fs) ∧ d.n.length ≤ 60 ∧ d.af ≤ 3 ∧ Q (.str (S (textD d))) H
/-- the law's text of a drawn stage's tuple is the written form -/
theorem stage_text {K : PySem.W.Frag} {H : Hp} {p : Addr} {Q : VK} {E : XK} (d : StD) (hp : H p = some (.tup (TupAt d))) (hn : d.n.length ≤ 60) (h3 : d.af ≤ 3) (k : ∀ H', Same H H' → Q (.str (S (textD d))) H') : spStageText K [.ref p] H Q E := by
  obtain ⟨kk, q, c, n, m, af, e⟩ := d
  have hn : n.length ≤ 60 := hn
  cases kk
  · refine .inr ⟨p, n, af, e, false, rfl, SqT.of hp, hn, h3, fun H' s => ?_⟩
    have z := k H' s
    have e1 : dropT n af e ++ blT false = dropT n af e := List.append_nil _
    rw [e1]
    exact z
  · exact .inr ⟨p, n, af, e, true, rfl, SqT.of hp, hn, h3, fun H' s => k H' s⟩
  · refine .inl ⟨p, kWrite, [[c], n], rfl, SqT.of hp, by decide, by decide, (by show 2 ≤ 4; decide), by simp; omega, fun H' s => ?_⟩
    have z := k H' s
    have e1 : (kWrite ++ [32]) ++ TL.joinL cFor [[c], n] = ((cWrite ++ [c]) ++ cFor) ++ n := by
      have e2 : TL.joinL cFor [[c], n] = [c] ++ cFor ++ n := by simp [TL.joinL]
      rw [e2]
      simp [kWrite, cWrite]
    rw [e1]
    exact z
  · refine .inl ⟨p, kOnce, [n], rfl, SqT.of hp, by decide, by decide, (by show 1 ≤ 4; decide), by simp; omega, fun H' s => ?_⟩
    have z := k H' s
    have e1 : (kOnce ++ [32]) ++ TL.joinL cFor [n] = cOnce ++ n := by simp [TL.joinL, kOnce, cOnce]
    rw [e1]
    exact z
  · refine .inl ⟨p, kAdd, [[c]], rfl, SqT.of hp, by decide, by decide, (by show 1 ≤ 4; decide), by simp, fun H' s => ?_⟩
    have z := k H' s
    have e1 : (kAdd ++ [32]) ++ TL.joinL cFor [[c]] = cAdd ++ [c] := by simp [TL.joinL, kAdd, cAdd]
    rw [e1]
    exact z
/-! the words of the written form -/
def wAfter : List Nat := [97, 102, 116, 101, 114]
def wEach : List Nat := [101, 97, 99, 104]
def wBut : List Nat := [98, 117, 116]
def wLast : List Nat := [108, 97, 115, 116]
def wFor : List Nat := [102, 111, 114]
def aftW (af : Nat) : List (List Nat) := if 0 < af then [wAfter, [48 + af]] else []
def eachW (e : Bool) : List (List Nat) := if e = true then [wEach] else []
def lastW (b : Bool) : List (List Nat) := if b = true then [wBut, wLast] else []
def wordsD (d : StD) : List (List Nat) := match d.k with
  | .d => cDrop :: d.n :: (aftW d.af ++ (eachW d.e ++ lastW false))
  | .l => cDrop :: d.n :: (aftW d.af ++ (eachW d.e ++ lastW true))
  | .w => [kWrite, [d.c], wFor, d.n]
  | .o => [kOnce, d.n]
  | .a => [kAdd, [d.c]]
theorem words_text (d : StD) : TL.joinL [32] (wordsD d) = textD d := by
  obtain ⟨kk, q, c, n, m, af, e⟩ := d
  cases kk
  · show TL.joinL [32] (cDrop :: n :: (aftW af ++ (eachW e ++ lastW false))) = ((cDropS ++ n) ++ afT af) ++ eaT e
    unfold aftW eachW lastW afT eaT
    by_cases h : 0 < af <;> cases e <;> simp [h, TL.joinL, cDrop, cDropS, cAfter, cEach, wAfter, wEach]
  · show TL.joinL [32] (cDrop :: n :: (aftW af ++ (eachW e ++ lastW true))) = (((cDropS ++ n) ++ afT af) ++ eaT e) ++ cBut
    unfold aftW eachW lastW afT eaT
    by_cases h : 0 < af <;> cases e <;> simp [h, TL.joinL, cDrop, cDropS, cAfter, cEach, wAfter, wEach, wBut, wLast, cBut]
  · show TL.joinL [32] [kWrite, [c], wFor, n] = ((cWrite ++ [c]) ++ cFor) ++ n
    simp [TL.joinL, kWrite, cWrite, wFor, cFor]
  · show TL.joinL [32] [kOnce, n] = cOnce ++ n
    simp [TL.joinL, kOnce, cOnce]
  · show TL.joinL [32] [kAdd, [c]] = cAdd ++ [c]
    simp [TL.joinL, kAdd, cAdd]
theorem name_nosp {l n : List Nat} {k : Nat} (hL : Lets l k) (h : GoodName l n) : 32 ∉ n := by
  rcases h.2 with rfl | rfl | rfl | rfl | rfl | ⟨x, rfl, hx⟩
  · decide
  · decide
  · decide
  · decide
  · decide
  · intro z
    unfold isList at hx
    simp only [Bool.and_eq_true, decide_eq_true_eq, List.all_eq_true] at hx
    have hx2 : ∀ c ∈ x, c ∈ 45 :: l := by
      intro c hc
      have := hx.1.2 c hc
      simpa using this
    rcases List.mem_cons.mp z with z | z
    · omega
    rcases List.mem_append.mp z with z | z
    · rcases List.mem_cons.mp (hx2 _ z) with y | y
      · omega
      · have := (hL.az _ y).1
        omega
    · have := List.mem_singleton.mp z
      omega
theorem words_nosp {l : List Nat} {k : Nat} (hL : Lets l k) {d : StD} (gd : GoodD l d) : ∀ w ∈ wordsD d, 32 ∉ w := by
  have hn := name_nosp hL gd.1
  have hc : 32 ∉ [d.c] := fun z => by
    have e := List.mem_singleton.mp z
    have hc := gd.2.1
    rw [← e] at hc
    rcases List.mem_cons.mp hc with y | y
    · omega
    · have := (hL.az _ y).1
      omega
  have ha : ∀ w ∈ aftW d.af, 32 ∉ w := by
    unfold aftW
    intro w hw
    split at hw
    · rcases List.mem_cons.mp hw with rfl | hw
      · decide
      · rw [List.mem_singleton.mp hw]
        intro z
        have := List.mem_singleton.mp z
        omega
    · cases hw
  have he : ∀ w ∈ eachW d.e, 32 ∉ w := by
    unfold eachW
    intro w hw
    split at hw
    · rw [List.mem_singleton.mp hw]
      decide
    · cases hw
  have hb : ∀ (b : Bool), ∀ w ∈ lastW b, 32 ∉ w := by
    unfold lastW
    intro b w hw
    split at hw
    · rcases List.mem_cons.mp hw with rfl | hw
      · decide
      · rw [List.mem_singleton.mp hw]
        decide
    · cases hw
  obtain ⟨kk, q, c, n, m, af, e⟩ := d
  intro w hw
  cases kk
  · rcases List.mem_cons.mp hw with rfl | hw
    · decide
    rcases List.mem_cons.mp hw with rfl | hw
    · exact hn
    rcases List.mem_append.mp hw with hw | hw
    · exact ha _ hw
    rcases List.mem_append.mp hw with hw | hw
    · exact he _ hw
    · exact hb _ _ hw
  · rcases List.mem_cons.mp hw with rfl | hw
    · decide
    rcases List.mem_cons.mp hw with rfl | hw
    · exact hn
    rcases List.mem_append.mp hw with hw | hw
    · exact ha _ hw
    rcases List.mem_append.mp hw with hw | hw
    · exact he _ hw
    · exact hb _ _ hw
  · simp only [wordsD, List.mem_cons, List.not_mem_nil, or_false] at hw
    rcases hw with rfl | rfl | rfl | rfl
    · decide
    · exact hc
    · decide
    · exact hn
  · simp only [wordsD, List.mem_cons, List.not_mem_nil, or_false] at hw
    rcases hw with rfl | rfl
    · decide
    · exact hn
  · simp only [wordsD, List.mem_cons, List.not_mem_nil, or_false] at hw
    rcases hw with rfl | rfl
    · decide
    · exact hc
theorem split_text {l : List Nat} {k : Nat} (hL : Lets l k) {d : StD} (gd : GoodD l d) : Txt.split (S (textD d)) (S [32]) = (wordsD d).map S := by
  have e0 : Txt.split (S (textD d)) (S [32]) = (TL.spl [32] 0 [] (textD d)).map S := SX.split_S (by simp) (by decide)
  rw [e0, ← words_text, TL.spl_join ?_ (fun p hp => words_nosp hL gd p hp)]
  obtain ⟨kk, q, c, n, m, af, e⟩ := d
  cases kk <;> exact List.cons_ne_nil _ _
theorem text_len {l : List Nat} {d : StD} (gd : GoodD l d) : (textD d).length ≤ 100 := by
  have h12 := gd.1.1
  obtain ⟨kk, q, c, n, m, af, e⟩ := d
  have h12 : n.length ≤ 12 := h12
  have l1 := afT_len (af := af)
  have l2 := eaT_len (e := e)
  cases kk
  · show (((cDropS ++ n) ++ afT af) ++ eaT e).length ≤ 100
    rw [List.length_append, List.length_append, List.length_append]
    show 5 + _ + _ + _ ≤ 100
    omega
  · show ((((cDropS ++ n) ++ afT af) ++ eaT e) ++ cBut).length ≤ 100
    rw [List.length_append, List.length_append, List.length_append, List.length_append]
    show 5 + _ + _ + _ + 9 ≤ 100
    omega
  · show (((cWrite ++ [c]) ++ cFor) ++ n).length ≤ 100
    rw [List.length_append, List.length_append, List.length_append]
    show 6 + 1 + 5 + _ ≤ 100
    omega
  · show (cOnce ++ n).length ≤ 100
    rw [List.length_append]
    show 5 + _ ≤ 100
    omega
  · show 4 + 1 ≤ 100
    decide
end Cl
namespace Cl.K54
open PySem PySem.Spec L2 PyProof.Rows
section
variable {P : Program} {w : World} {K : PySem.W.Frag} {mg : Str → Option Value} {base : Heap} {D f : Addr} {fd : FuncData}
theorem ok_aText {q c : Nat} (F : Fun K "text" "Add.text" (inClass (top 23) 1) f fd) (Z : SCls K D) : FnOk P w K mg base CX0 1 f fd ["self"] (spText D (gf q c) (S (cAdd ++ [c]))) := by
  refine F.ok scAText (fun vs H Q E h => ?_) (fun cdv A outer s H vs Q E hr h => ?_)
  · obtain ⟨a, dx, rfl, _⟩ := h
    rfl
  · obtain ⟨a, dx, rfl, ha, k⟩ := h
    refine ⟨_, pss_one (ps_ret (pe_joined (.cons pe_str (.cons (pe_fmt (pe_fld (pv 0) rfl)) .nil)))), ?_⟩
    refine ⟨_, rfl, ?_, _, rfl, a, D, dx, _, sg c, rfl, ha, Z.cl, Z.nS, rfl, .inl ⟨_, rfl, (by show 1 ≤ sizeLine; decide), _, rfl, ?_, ?_⟩⟩
    · rw [eAdd]
      exact le_S (by decide : _ ≤ 4)
    · rw [eAdd, show S cAdd ++ (⟨#[c]⟩ : Str) = S (cAdd ++ [c]) from S_app _ [c]]
      exact le_S (by rw [List.length_append]; show 4 + 1 ≤ 60; decide : _ ≤ 60)
    · rw [eAdd, show S cAdd ++ (⟨#[c]⟩ : Str) = S (cAdd ++ [c]) from S_app _ [c]]
      exact k
theorem ok_oText {q : Nat} {n m : List Nat} (F : Fun K "text" "Once.text" (inClass (top 22) 1) f fd) (Z : SCls K D) (hn : n.length ≤ 60) : FnOk P w K mg base CX0 1 f fd ["self"] (spText D (nf q n m) (S (cOnce ++ n))) := by
  refine F.ok scOText (fun vs H Q E h => ?_) (fun cdv A outer s H vs Q E hr h => ?_)
  · obtain ⟨a, dx, rfl, _⟩ := h
    rfl
  · obtain ⟨a, dx, rfl, ha, k⟩ := h
    refine ⟨_, pss_one (ps_ret (pe_joined (.cons pe_str (.cons (pe_fmt (pe_fld (pv 0) rfl)) .nil)))), ?_⟩
    refine ⟨_, rfl, ?_, _, rfl, a, D, dx, _, .str (S n), rfl, ha, Z.cl, Z.nN, rfl, .inl ⟨_, rfl, le_S hn, _, rfl, ?_, ?_⟩⟩
    · rw [eOnce]
      exact le_S (by decide : _ ≤ 5)
    · rw [eOnce, S_app]
      exact le_S (by rw [List.length_append]; show 5 + _ ≤ 65; omega : _ ≤ 65)
    · rw [eOnce, S_app]
      exact k
theorem ok_wText {q c : Nat} {n m : List Nat} (F : Fun K "text" "Write.text" (inClass (top 21) 1) f fd) (Z : SCls K D) (hn : n.length ≤ 60) : FnOk P w K mg base CX0 1 f fd ["self"] (spText D (wf q c n m) (S (((cWrite ++ [c]) ++ cFor) ++ n))) := by
  refine F.ok scWText (fun vs H Q E h => ?_) (fun cdv A outer s H vs Q E hr h => ?_)
  · obtain ⟨a, dx, rfl, _⟩ := h
    rfl
  · obtain ⟨a, dx, rfl, ha, k⟩ := h
    refine ⟨_, pss_one (ps_ret (pe_joined (.cons pe_str (.cons (pe_fmt (pe_fld (pv 0) rfl)) (.cons pe_str (.cons (pe_fmt (pe_fld (pv 0) rfl)) .nil)))))), ?_⟩
    refine ⟨_, rfl, ?_, _, rfl, a, D, dx, _, sg c, rfl, ha, Z.cl, Z.nS, rfl, .inl ⟨_, rfl, (by show 1 ≤ sizeLine; decide), _, rfl, ?_, _, rfl, ?_, _, rfl, a, D, dx, _, .str (S n), rfl, ha, Z.cl, Z.nN, rfl, .inl ⟨_, rfl, le_S hn, _, rfl, ?_, ?_⟩⟩⟩
    · rw [eWrite]
      exact le_S (by decide : _ ≤ 6)
    · rw [eWrite, show S cWrite ++ (⟨#[c]⟩ : Str) = S (cWrite ++ [c]) from S_app _ [c]]
      exact le_S (by rw [List.length_append]; show 6 + 1 ≤ 60; decide : _ ≤ 60)
    · rw [eWrite, show S cWrite ++ (⟨#[c]⟩ : Str) = S (cWrite ++ [c]) from S_app _ [c], eFor, S_app]
      exact le_S (by rw [List.length_append, List.length_append]; show 6 + 1 + 5 ≤ 60; decide : _ ≤ 60)
    · rw [eWrite, show S cWrite ++ (⟨#[c]⟩ : Str) = S (cWrite ++ [c]) from S_app _ [c], eFor, S_app, S_app]
      exact le_S (by rw [List.length_append, List.length_append, List.length_append]; show 6 + 1 + 5 + _ ≤ 72; omega : _ ≤ 72)
    · rw [eWrite, show S cWrite ++ (⟨#[c]⟩ : Str) = S (cWrite ++ [c]) from S_app _ [c], eFor, S_app, S_app]
      exact k
end
end Cl.K54
set_option Elab.async false
set_option linter.all false
set_option maxRecDepth 100000
set_option maxHeartbeats 4000000
namespace Cl
open PySem PySem.Spec L2 PyProof.Rows
theorem cutV_1 (x : V) (r : List V) : cutV (x :: r) (some 1) none = r := by
  unfold cutV
  rw [show HT.sIx ((x :: r).length) 0 (some 1) = min 1 (x :: r).length from HT.sIx_nat _ 0 1, List.length_cons, Nat.min_eq_left (by omega)]
  show (r.take _) = r
  exact List.take_of_length_le (by show r.length ≤ r.length + 1 - 1; omega)
theorem cutV_2 (x y : V) (r : List V) : cutV (x :: y :: r) (some 2) none = r := by
  unfold cutV
  rw [show HT.sIx ((x :: y :: r).length) 0 (some 2) = min 2 (x :: y :: r).length from HT.sIx_nat _ 0 2, List.length_cons, List.length_cons, Nat.min_eq_left (by omega)]
  show (r.take _) = r
  exact List.take_of_length_le (by show r.length ≤ r.length + 1 + 1 - 2; omega)
theorem eWAfter : ("after" : Str) = S wAfter := by decide +kernel
theorem eWEach : ("each" : Str) = S wEach := by decide +kernel
theorem eWBut : ("but" : Str) = S wBut := by decide +kernel
theorem eWLast : ("last" : Str) = S wLast := by decide +kernel
theorem eWFor : ("for" : Str) = S wFor := by decide +kernel
end Cl
namespace Cl.K54
open PySem PySem.Spec L2 PyProof.Rows
abbrev sRead : Stmt := top 25
abbrev sReadDrop : Stmt := top 26
abbrev sAfter : Stmt := top 27
theorem scAfter : FnScope ["word"] ["word"] (defScope sAfter) := ⟨rfl, rfl, rfl, by decide +kernel, rfl, by decide +kernel, by decide +kernel⟩
theorem scReadDrop : FnScope ["alphabet", "name", "parts", "after", "each"] ["alphabet", "name", "parts"] (defScope sReadDrop) := ⟨rfl, rfl, rfl, by decide +kernel, rfl, by decide +kernel, by decide +kernel⟩
theorem scRead : FnScope ["alphabet", "text", "words", "verb", "parts"] ["alphabet", "text"] (defScope sRead) := ⟨rfl, rfl, rfl, by decide +kernel, rfl, by decide +kernel, by decide +kernel⟩
section
variable {P : Program} {w : World} {K : PySem.W.Frag} {mg : Str → Option Value} {base : Heap} {C : Addr} {Wc gT : Kd → Addr} {fT : Kd → FuncData}
theorem famT (sd : ∀ (q : Nat) (n m : List Nat) (af : Nat) (e : Bool), n.length ≤ 60 → af ≤ 3 → MetG P w K mg base 1 ["self"] (spText (Wc .d) (df q n m af e) (S (dropT n af e))) (gT .d) (fT .d)) (sl : MetG P w K mg base 2 ["self"] (spLText (Wc .l)) (gT .l) (fT .l))
    (sw : ∀ (q c : Nat) (n m : List Nat), n.length ≤ 60 → MetG P w K mg base 1 ["self"] (spText (Wc .w) (wf q c n m) (S (((cWrite ++ [c]) ++ cFor) ++ n))) (gT .w) (fT .w))
    (so : ∀ (q : Nat) (n m : List Nat), n.length ≤ 60 → MetG P w K mg base 1 ["self"] (spText (Wc .o) (nf q n m) (S (cOnce ++ n))) (gT .o) (fT .o)) (sa : ∀ (q c : Nat), MetG P w K mg base 1 ["self"] (spText (Wc .a) (gf q c) (S (cAdd ++ [c]))) (gT .a) (fT .a)) :
    ∀ j, FnR P w K mg base CX0 2 (gT j) (sp5T Wc j) := by
  intro j
  refine fnR_of fun vs H Q E h => ?_
  obtain ⟨⟨kk, q, c, n, m, af, e⟩, a, dx, hk, rfl, ha, hn, h3, k⟩ := h
  have hk : kk = j := hk
  subst hk
  cases kk
  · exact ⟨_, (sd q n m af e hn h3).r (by decide), ⟨a, dx, rfl, ha, k⟩⟩
  · exact ⟨_, sl.r (by decide), ⟨a, dx, q, n, m, af, e, rfl, ha, hn, h3, k⟩⟩
  · exact ⟨_, (sw q c n m hn).r (by decide), ⟨a, dx, rfl, ha, k⟩⟩
  · exact ⟨_, (so q n m hn).r (by decide), ⟨a, dx, rfl, ha, k⟩⟩
  · exact ⟨_, (sa q c).r (by decide), ⟨a, dx, rfl, ha, k⟩⟩
end
end Cl.K54
set_option Elab.async false
set_option linter.all false
set_option maxRecDepth 100000
set_option maxHeartbeats 4000000
namespace Cl
open PySem PySem.Spec L2 PyProof.Rows
theorem shape_iff (n : List Nat) : (3 ≤ n.length ∧ n[0]? = some 91 ∧ n[n.length - 1]? = some 93) ↔ (n = 91 :: (inner n ++ [93]) ∧ inner n ≠ []) := by
  constructor
  · rintro ⟨h3, h0, h1⟩
    match n, h3, h0, h1 with
    | c :: r, h3, h0, h1 =>
      have e0 : c = 91 := by simpa using h0
      have hr : r ≠ [] := fun z => by
        rw [z] at h3
        simp at h3
      have hl : r.getLast hr = 93 := by
        have e : (c :: r)[(c :: r).length - 1]? = some (r.getLast hr) := by
          rw [List.length_cons, Nat.add_sub_cancel]
          cases hlen : r.length with
          | zero => exact absurd (List.length_eq_zero_iff.mp hlen) hr
          | succ k =>
            rw [List.getElem?_cons_succ, List.getLast_eq_getElem, ← List.getElem?_eq_getElem]
            rw [hlen]
            rfl
        rw [e] at h1
        exact Option.some.inj h1
      have ei : inner (c :: r) = r.dropLast := rfl
      refine ⟨?_, ?_⟩
      · rw [ei, e0, ← hl, List.dropLast_concat_getLast]
      · rw [ei]
        intro z
        have := congrArg List.length z
        rw [List.length_dropLast] at this
        rw [List.length_cons] at h3
        simp at this
        omega
  · rintro ⟨h, hi⟩
    have hlen : 1 ≤ (inner n).length := List.length_pos_iff.mpr hi
    generalize inner n = x at h hlen
    rw [h]
    refine ⟨by rw [List.length_cons, List.length_append]; show 3 ≤ _ + 1 + 1; omega, rfl, ?_⟩
    rw [List.length_cons, Nat.add_sub_cancel, List.length_append]
    show (91 :: (x ++ [93]))[x.length + 1]? = some 93
    rw [List.getElem?_cons_succ, List.getElem?_append_right (Nat.le_refl _), Nat.sub_self]
    rfl
/-- the sign before -/
def bef (y : List Nat) : List Nat := match y.getLast? with
  | some c => [c]
  | none => []
theorem bef_snoc (y : List Nat) (c : Nat) : bef (y ++ [c]) = [c] := by
  unfold bef
  rw [List.getLast?_concat]
def ascG (l x : List Nat) : Prop := (∀ c ∈ x, c ∈ 45 :: l) ∧ x.Pairwise (· < ·)
instance (l x : List Nat) : Decidable (ascG l x) := by
  unfold ascG
  infer_instance
theorem bef_lt (y : List Nat) (c : Nat) (h : y.Pairwise (· < ·)) : (decide (bef y < [c])) = true ↔ ∀ d ∈ y, d < c := by
  rw [decide_eq_true_iff]
  rcases List.eq_nil_or_concat y with rfl | ⟨z, d, rfl⟩
  · exact ⟨fun _ d hd => (by cases hd), fun _ => by show ([] : List Nat) < [c]; simp⟩
  · rw [List.concat_eq_append] at h ⊢
    rw [bef_snoc]
    have h2 := (List.pairwise_append.mp h).2.2
    constructor
    · intro hlt e he
      have hdc : d < c := by
        rw [List.cons_lt_cons_iff] at hlt
        rcases hlt with h | ⟨_, h⟩
        · exact h
        · exact absurd h (by simp)
      rcases List.mem_append.mp he with q | q
      · exact Nat.lt_trans (h2 e q d (List.mem_singleton.mpr rfl)) hdc
      · rw [List.mem_singleton.mp q]
        exact hdc
    · intro ha
      rw [List.cons_lt_cons_iff]
      exact .inl (ha d (by simp))
theorem ascG_snoc {l y : List Nat} {c : Nat} : ascG l (y ++ [c]) ↔ ascG l y ∧ c ∈ 45 :: l ∧ ∀ d ∈ y, d < c := by
  unfold ascG
  rw [List.pairwise_append]
  constructor
  · rintro ⟨h1, h2, _, h3⟩
    exact ⟨⟨fun d hd => h1 d (List.mem_append_left _ hd), h2⟩, h1 c (by simp), fun d hd => h3 d hd c (List.mem_singleton.mpr rfl)⟩
  · rintro ⟨⟨h1, h2⟩, h3, h4⟩
    refine ⟨fun d hd => ?_, h2, List.pairwise_singleton .., fun a ha b hb => ?_⟩
    · rcases List.mem_append.mp hd with q | q
      · exact h1 d q
      · rw [List.mem_singleton.mp q]
        exact h3
    · rw [List.mem_singleton.mp hb]
      exact h4 a ha
theorem isList_iff {l x : List Nat} : isList l x = true ↔ x ≠ [] ∧ ascG l x := by
  unfold isList ascG
  rw [Bool.and_eq_true, Bool.and_eq_true, decide_eq_true_iff, decide_eq_true_iff, List.all_eq_true]
  constructor
  · rintro ⟨⟨h1, h2⟩, h3⟩
    exact ⟨h1, fun c hc => of_decide_eq_true (h2 c hc), h3⟩
  · rintro ⟨h1, h2, h3⟩
    exact ⟨⟨h1, fun c hc => decide_eq_true (h2 c hc)⟩, h3⟩
theorem ascG_take {l x : List Nat} {i : Nat} (h : ascG l x) : ascG l (x.take i) := ⟨fun c hc => h.1 c (List.mem_of_mem_take hc), h.2.sublist (List.take_sublist ..)⟩
/-- a name that is none of the five -/
theorem set_else {l v n : List Nat} (h : namedSet l v n = none) : (setOf l v n).isSome = decide (3 ≤ n.length ∧ n[0]? = some 91 ∧ n[n.length - 1]? = some 93 ∧ ascG l (inner n)) := by
  rw [named_none h]
  by_cases c : n = 91 :: (inner n ++ [93]) ∧ isList l (inner n) = true
  · rw [if_pos c]
    have c2 := isList_iff.mp c.2
    have z := (shape_iff n).mpr ⟨c.1, c2.1⟩
    exact (decide_eq_true ⟨z.1, z.2.1, z.2.2, c2.2⟩).symm
  · rw [if_neg c]
    refine (decide_eq_false fun z => c ?_).symm
    have s := (shape_iff n).mp ⟨z.1, z.2.1, z.2.2.1⟩
    exact ⟨s.1, isList_iff.mpr ⟨s.2, z.2.2.2⟩⟩
theorem named_in {l v n : List Nat} : inV (.str (S n)) [.str ("all" : Str), .str ("letters" : Str), .str ("vowels" : Str), .str ("consonants" : Str), .str ("joints" : Str)] = (namedSet l v n).isSome := by
  unfold namedSet
  rw [eAll, eLetters, eVowels, eCons, eJoints]
  have e : ∀ a : List Nat, eqV (.str (S a)) (.str (S n)) = decide (a = n) := fun a => by
    show decide (S a = S n) = decide (a = n)
    exact decide_eq_decide.mpr ⟨fun h => S_inj h, fun h => by rw [h]⟩
  unfold inV
  rw [List.any_cons, List.any_cons, List.any_cons, List.any_cons, List.any_cons, List.any_nil, e, e, e, e, e]
  by_cases h1 : cAll = n
  · simp [h1]
  · by_cases h2 : cLetters = n
    · simp [h1, h2]
    · by_cases h3 : cVowels = n
      · simp [h1, h2, h3]
      · by_cases h4 : cCons = n
        · simp [h1, h2, h3, h4]
        · by_cases h5 : cJoints = n
          · simp [h1, h2, h3, h4, h5]
          · simp [h1, h2, h3, h4, h5]
theorem set_named {l v n : List Nat} (h : (namedSet l v n).isSome = true) : (setOf l v n).isSome = true := by
  unfold setOf
  cases e : namedSet l v n with
  | some m => rfl
  | none =>
    rw [e] at h
    cases h
theorem at_last {α : Type} {xs : List α} (h : 1 ≤ xs.length) : atI xs (-1) = xs[xs.length - 1]? := by
  unfold atI ixN
  rw [if_neg (by decide), if_pos (by omega)]
  show xs[((-1 : Int) + (xs.length : Int)).toNat]? = _
  congr 1
  omega
def spIsSet : Sp := fun vs H Q _ => ∃ (l v n : List Nat), vs = [.str (S l), .str (S n)] ∧ l.length ≤ 8 ∧ n.length ≤ 60 ∧ ∀ H', Same H H' → Q (.bl (setOf l v n).isSome) H'
end Cl
namespace Cl.K54
open PySem PySem.Spec L2 PyProof.Rows
abbrev sIsSet : Stmt := top 47
theorem scIsSet : FnScope ["_law_letters_here", "_law_name_here", "_law_before", "_law_sign"] ["_law_letters_here", "_law_name_here"] (defScope sIsSet) := ⟨rfl, rfl, rfl, by decide +kernel, rfl, by decide +kernel, by decide +kernel⟩
section
variable {P : Program} {w : World} {K : PySem.W.Frag} {mg : Str → Option Value} {base : Heap}
theorem ok_isset {f : Addr} {fd : FuncData} (F : Fun K "_law_is_set" "_law_is_set" sIsSet f fd) (hn : mg "len" = none) : FnOk P w K mg base CX0 1 f fd ["_law_letters_here", "_law_name_here"] spIsSet := by
  refine F.ok scIsSet (fun vs H Q E h => ?_) (fun cdv A outer s H vs Q E hr h => ?_)
  · obtain ⟨l, v, n, rfl, _⟩ := h
    rfl
  · obtain ⟨l, v, n, rfl, l8, n60, k⟩ := h
    refine ⟨_, pss_cons (ps_if (pt_cmpR op_in_seq (pv 1) (pe_lst (pa_cons pe_str (pa_cons pe_str (pa_cons pe_str (pa_cons pe_str (pa_cons pe_str pa_nil)))))) rfl) (pss_one (ps_ret pe_bl)) pss_nil)
      (pss_cons (ps_if (PW.pt (pw_or (pt_cmpR op_lt (pe_callB call_len_str (by rfl) hn PySem.boot_len (pa_cons (pv 1) pa_nil)) pe_int (nomark _)) (pw_or (pt_cmpR op_ne (pe_ix ix_str (pv 1) pe_int (fun _ _ => rfl)) pe_str (nomark _)) (pw_or1 (pt_cmpR op_ne (pe_ix ix_str (pv 1) (pe_un un_neg pe_int) (fun _ _ => rfl)) pe_str (nomark _)))))) (pss_one (ps_ret pe_bl)) pss_nil)
      (pss_cons (ps_set (i := 2) scIsSet.nd rfl (.inl rfl) pe_str)
      (pss_cons (ps_for PassesOwn.never rfl (pi_str (pe_slice sl_str (pv 1) (po_some pe_int) (po_some (pe_un un_neg pe_int)))) (pg_name (i := 3) scIsSet.nd rfl (.inl rfl))
        (pss_cons (ps_if (PW.pt (pw_or (pt_cmpR op_notInS (pv 3) (pe_op op_add_str pe_str (pv 0)) rfl) (pw_or1 (pt_cmpR op_le_str (pv 3) (pv 2) (nomark _))))) (pss_one (ps_ret pe_bl)) pss_nil)
        (pss_one (ps_set (i := 2) scIsSet.nd rfl (.inl rfl) (pv 3)))))
      (pss_one (ps_ret pe_bl))))), ?_⟩
    refine ⟨_, rfl, (by show 5 ≤ sizeLine; decide), fun D hD => ⟨D, _, rfl, .inl (SqL.of upd_same), rfl, rfl, _, rfl, ?_⟩⟩
    have s1 : Same H (upd H D (.lst [.str ("all" : Str), .str ("letters" : Str), .str ("vowels" : Str), .str ("consonants" : Str), .str ("joints" : Str)])) := same_new hD
    generalize upd H D (.lst [.str ("all" : Str), .str ("letters" : Str), .str ("vowels" : Str), .str ("consonants" : Str), .str ("joints" : Str)]) = H1 at s1
    show (if inV (.str (S n)) [.str ("all" : Str), .str ("letters" : Str), .str ("vowels" : Str), .str ("consonants" : Str), .str ("joints" : Str)] = true then _ else _)
    rw [named_in (l := l) (v := v)]
    cases eN : (namedSet l v n).isSome with
    | true =>
      have z := k _ s1
      rw [set_named eN] at z
      exact iteT z
    | false =>
    have eN' : namedSet l v n = none := by
      cases e : namedSet l v n with
      | none => rfl
      | some m =>
        rw [e] at eN
        cases eN
    have z0 := set_else eN'
    rw [z0] at k
    refine iteF ⟨_, rfl, _, rfl, le_S n60, _, _, rfl, rfl, _, rfl, ?_⟩
    by_cases h3 : n.length < 3
    · rw [decide_eq_true (by rw [S_len]; omega : ((S n).length : Int) < 3)]
      have z := k _ s1
      rw [decide_eq_false (fun y => by omega)] at z
      exact iteT z
    rw [decide_eq_false (by rw [S_len]; omega : ¬ ((S n).length : Int) < 3)]
    obtain ⟨c0, h0⟩ : ∃ c, n[0]? = some c := ⟨_, List.getElem?_eq_getElem (by omega)⟩
    obtain ⟨c1, h1⟩ : ∃ c, n[n.length - 1]? = some c := ⟨_, List.getElem?_eq_getElem (by omega)⟩
    refine iteF ⟨_, rfl, S n, 0, c0, rfl, rfl, le_S n60, by rw [S_cps]; exact atI_pos (by decide) h0, rfl, _, rfl, ?_⟩
    have e91 : V.str ("[" : Str) = V.str (S [91]) := by decide +kernel
    have e93 : V.str ("]" : Str) = V.str (S [93]) := by decide +kernel
    rw [e91, show V.str (⟨#[c0]⟩ : Str) = V.str (S [c0]) from rfl, vs_eq]
    by_cases q0 : c0 = 91
    case neg =>
      rw [decide_eq_false (by simpa using q0)]
      have z := k _ s1
      rw [decide_eq_false (fun y => q0 (by have := y.2.1; rw [h0] at this; exact Option.some.inj this))] at z
      exact iteT z
    rw [decide_eq_true (by rw [q0])]
    refine iteF ⟨_, rfl, 1, rfl, S n, -1, c1, rfl, rfl, le_S n60, by rw [S_cps, at_last (by omega)]; exact h1, rfl, _, rfl, ?_⟩
    rw [e93, show V.str (⟨#[c1]⟩ : Str) = V.str (S [c1]) from rfl, vs_eq]
    by_cases q1 : c1 = 93
    case neg =>
      rw [decide_eq_false (by simpa using q1)]
      have z := k _ s1
      rw [decide_eq_false (fun y => q1 (by have := y.2.2.1; rw [h1] at this; exact Option.some.inj this))] at z
      exact iteT z
    rw [decide_eq_true (by rw [q1])]
    refine iteF ?_
    have hk : ∀ H', Same H H' → Q (.bl (decide (ascG l (inner n)))) H' := fun H' s' => by
      have z := k H' s'
      have e : decide (3 ≤ n.length ∧ n[0]? = some 91 ∧ n[n.length - 1]? = some 93 ∧ ascG l (inner n)) = decide (ascG l (inner n)) :=
        decide_eq_decide.mpr ⟨fun y => y.2.2.2, fun y => ⟨by omega, by rw [h0, q0], by rw [h1, q1], y⟩⟩
      rw [e] at z
      exact z
    have li := inner_le n
    refine ⟨_, rfl, 1, rfl, 1, rfl, -1, rfl, S n, rfl, le_S n60, ?_⟩
    rw [cut_inner]
    refine ⟨_, rfl, for_it walk_str (fun i σ H' => ∃ v3 : Option V, σ = [some (.str (S l)), some (.str (S n)), some (.str (S (bef ((inner n).take i)))), v3] ∧ H' = H1 ∧ ascG l ((inner n).take i))
      ⟨none, rfl, rfl, (fun c hc => (by cases hc)), List.Pairwise.nil⟩ (fun _ _ _ _ _ => trivial) ?_ ?_⟩
    · rintro i x σ H3 H4 hi ⟨v3, rfl, rfl, ag⟩ ⟨rfl, c, hc', rfl⟩
      have hti := S_get hc'
      have ts := take_snoc hti
      have bad : ¬ ascG l ((inner n).take (i + 1)) → Q (.bl false) H4 := fun no => by
        have z := hk _ s1
        rw [decide_eq_false (fun y => no (ascG_take y))] at z
        exact z
      refine ⟨_, rfl, _, rfl, _, _, rfl, rfl, dash_len l (by omega), ?_⟩
      rw [dash_app]
      refine ⟨c, _, rfl, rfl, _, rfl, ?_⟩
      rw [S_cps]
      by_cases hc : c ∈ 45 :: l
      case neg =>
        rw [decide_eq_false hc]
        exact iteT (bad fun y => hc (y.1 c (by rw [ts]; simp)))
      rw [decide_eq_true hc]
      refine iteF ⟨_, rfl, _, rfl, _, _, rfl, rfl, _, rfl, ?_⟩
      rw [S_cps]
      show (if (!decide (bef ((inner n).take i) < [c])) = true then _ else _)
      cases hb : decide (bef ((inner n).take i) < [c]) with
      | false =>
        refine iteT (bad fun y => ?_)
        rw [ts] at y
        have z := (bef_lt _ c ag.2).mpr (ascG_snoc.mp y).2.2
        rw [hb] at z
        cases z
      | true =>
        refine iteF ⟨_, rfl, some (sg c), ?_, rfl, ?_⟩
        · rw [ts, bef_snoc]
          rfl
        · rw [ts]
          exact ascG_snoc.mpr ⟨ag, hc, (bef_lt _ c ag.2).mp hb⟩
    · rintro σ H3 ⟨v3, rfl, rfl, ag⟩
      rw [S_size, List.take_length] at ag
      have z := hk _ s1
      rw [decide_eq_true ag] at z
      exact z
end
end Cl.K54
set_option Elab.async false
set_option linter.all false
set_option maxRecDepth 100000
set_option maxHeartbeats 4000000
/-! C(e, .., k = v) whose refusal is told at the slots; keyword-only parameters of which some are written. -/
namespace Sx
open PySem PySem.Spec L2 PyProof.Rows
section
variable {K : PySem.W.Frag} {file x qual : Str} {st : Stmt} {D f c cc : Addr} {fd : FuncData} {ps ks : List Str} {n : Nat} {kws : List (Str × V)}
/-- some keyword-only parameters are written, the others have their defaults -/
theorem FunS.kbindsK (F : FunS K file x qual st D f c cc fd) (kd : KwdV K fd.kwdefaults kws) (hk : kws ≠ [])
    (h : ∀ (M : Addr) (doc pm : Value) (an : Option Addr) (ct : Value) (us ws its : List Value), us.length = n → ws.length = ks.length → its.length = kws.length →
      KwChain M ((kws.map (·.1)).zip its) (bindArgs (PySem.W.fnX x qual (defArgs st) (defBody st) (defScope st) [("__class__", cc)] .none (.ref M) doc pm an (.ref c) ct) ⟨us, ks.zip ws⟩) (ps.zip (us ++ ws ++ its))) :
    ∃ its, KBn K fd ps n ks (fun us ws => us ++ ws ++ its) (fun vs zs => vs ++ zs ++ kws.map (·.2)) := by
  obtain ⟨oc, od, an, kV, doc, pm, ct, osl, rfl, lk⟩ := F.ex
  rcases (show KwdV K kV kws from kd) with e | ⟨M, rfl, hq⟩
  · exact absurd e hk
  · obtain ⟨its, hl, rk, hks⟩ := kwd_vals hq
    exact ⟨its, fun s us ws X h1 h2 => BindsTo.of_looks fun M' => KwChain.looks X hks (h M doc pm an ct us ws its h1 h2 hl), fun r1 r2 => (r1.append r2).append rk⟩
end
section
variable {X : Cx} {CXa : CXT} {k n : Nat} {f C : Addr} {fd : FuncData} {ps ks : List Str} {sp : Sp} {Eo : L2.St → XK} {x : Str} {p pos : Pos} {e : Expr} {es : List Expr} {kws : List Keyword} {t tk : TA} {g : List Value → List Value → List Value} {gV : List V → List V → List V}
def tMakeNS (C : Addr) (n m : Nat) (sp : Sp) (gV : List V → List V → List V) (Eo : L2.St → XK) (t tk : TA) : TE := fun σ H Q => t σ H fun vs H1 => tk σ H1 fun zs H2 => vs.length = n ∧ zs.length = m ∧
  ∀ x dx, H2 x = none → H2 dx = none → dx ≠ x → sp (gV (.ref x :: vs) zs) (upd (upd H2 dx (.own x)) x (.ins C dx [])) (fun v H3 => v = .non ∧ Q (.ref x) H3) (Eo σ)
theorem pe_makeNS (M : Mk X.K C f) (F : FnOk X.prog X.w X.K X.mg X.base CXa k f fd ps sp) (hr : Room (k + 1) X.A) (hg : Gl X x) (hm : X.mg x = some (.ref C)) (hb : KBn X.K fd ps (n + 1) ks g gV)
    (out : ∀ (σ : L2.St) (pins : List (Addr × Obj)) (H : Hp) (o dx : Addr) (s : Shared) (e : Value) (s' : Shared), Inv X pins σ (upd (upd H dx (.own o)) o (.ins C dx [])) s → CXa X.stack (upd (upd H dx (.own o)) o (.ins C dx [])) s (Eo σ) e s' → X.xe e s')
    (ha : PA X (e :: es) t) (hkw : PK X kws tk) (hall : (backToKw pos (keywordEach kws X.env)).all (·.1.isSome) = true := by rfl) (hks : (backToKw pos (keywordEach kws X.env)).filterMap (·.1) = ks := by rfl)
    (hdb : (x == ("__debug__" : Str)) = false := by decide) (he : starEach (e :: es) X.env = (false, eval e X.env) :: starEach es X.env := by rfl)
    (hpl : ((backTo pos (starEach (e :: es) X.env)).any (·.1) || (backToKw pos (keywordEach kws X.env)).any (·.1.isNone)) = false := by rfl) :
    PE X (.Call (.Name x p) (e :: es) kws pos) (tMakeNS C n ks.length sp gV Eo t tk) := by
  refine ⟨fun pins s σ H Q I h => ?_⟩
  refine wpAny_Call_Name_kw (ld_glob I hg hm ?_ hdb)
  refine PySem.W.callWith_KW (h₀ := X.base) I.ok.mod.kin M.kp hall (thn (ha.run pos pins s σ H _ I h) fun us s1 ⟨vs, H1, I1, r, q⟩ => ?_) hpl he
  refine thn (hkw.run pos pins s1 σ H1 _ I1 q) fun ws s2 ⟨zs, H2, I2, rz, l1, l2, q2⟩ => ⟨I2.kIn, ?_⟩
  rw [hks]
  have hq := q2 (s2.heap.objs.size + 1) s2.heap.objs.size (I2.hok.fresh (Nat.le_succ _)) (I2.hok.fresh (Nat.le_refl _)) (Nat.ne_of_lt (Nat.lt_succ_self _))
  have I3 := Inv.made (C := C) I2
  have r1 : Vals (V.ref (s2.heap.objs.size + 1) :: vs) (Value.ref (s2.heap.objs.size + 1) :: us) := .cons rfl r
  have r2 := hb.rel r1 rz
  have e1 : (Value.ref (s2.heap.objs.size + 1) :: us).length = n + 1 := r1.length.symm.trans (congrArg Nat.succ l1)
  have e2 : ws.length = ks.length := rz.length.symm.trans l2
  refine wpAny_call (make_map (f := f) I2.kIn M.makes M.init (beq_iff_eq.mp M.fn) (codeAny_mono (F.run _ X.stack _ _ ⟨Value.ref (s2.heap.objs.size + 1) :: us, ks.zip ws⟩ (g (Value.ref (s2.heap.objs.size + 1) :: us) ws) _ _ _ (hr.make C us (ks.zip ws))
    (I3.env0.make C us (ks.zip ws)) (hb.to _ (Value.ref (s2.heap.objs.size + 1) :: us) ws I3.kIn e1 e2) r2 hq) fun r s' hq' => ?_))
  cases r with
  | error e => exact out σ pins _ _ _ _ e s' I3 hq'
  | ok fl =>
    cases fl with
    | ret u =>
      obtain ⟨v, H', I4, rv, ev, q3⟩ := I3.after hq'
      subst ev
      exact ⟨rv, ⟨V.ref (s2.heap.objs.size + 1), H', I4, rfl, q3⟩⟩
    | next => exact False.elim hq'
    | brk => exact False.elim hq'
    | cont => exact False.elim hq'
end
end Sx
set_option Elab.async false
set_option linter.all false
set_option maxRecDepth 100000
set_option maxHeartbeats 4000000
/-! o.m(..), whose refusal is told at the slots. -/
namespace Sx
open PySem PySem.Spec L2 PyProof.Rows
section
variable {X : Cx} {ι : Type} {k : Nat} {D g : ι → Addr} {sp : ι → Sp} {o a0 : Expr} {as : List Expr} {m : Str} {pos apos : Pos} {to : TE} {ta : TA}
def tMethFS (D : ι → Addr) (m : Str) (sp : ι → Sp) (Eo : L2.St → XK) (to : TE) (ta : TA) : TE := fun σ H Q => to σ H fun x H1 => ∃ (j : ι) (a dx : Addr) (fs : List (Str × V)), x = .ref a ∧ H1 a = some (.ins (D j) dx fs) ∧ fs.lookup m = none ∧ ta σ H1 fun vs H2 => sp j (x :: vs) H2 Q (Eo σ)
theorem run_fnRS {pins : List (Addr × Obj)} {σ : L2.St} {H : Hp} {s : Shared} {CX : CXT} {f : Addr} {sp : Sp} {Eo : L2.St → XK} {Q : VK} {us : List Value} {vs : List V} (F : FnR X.prog X.w X.K X.mg X.base CX k f sp) (hr : Room k X.A) (hx : PassesAt CX X σ (Eo σ)) (I : Inv X pins σ H s) (r : Vals vs us) (h : sp vs H Q (Eo σ)) :
    codeAny (model X.prog X.w) X.A (.call (.ref f) ⟨us, []⟩) (fun r s' => match r with | .ok (.ret v) => EP X pins σ Q v s' | .ok _ => False | .error e => X.xe e s') s := by
  refine codeAny_mono (F X.A X.stack s H us vs Q (Eo σ) hr I.env0 r h) fun r s' hq => ?_
  cases r with
  | error e => exact hx pins H s e s' I hq
  | ok fl =>
    cases fl with
    | ret u => exact I.after hq
    | next => exact False.elim hq
    | brk => exact False.elim hq
    | cont => exact False.elim hq
theorem pe_methFS {pl : Sem Bool} {CXa : CXT} {Eo : L2.St → XK} (ho : PE X o to) (c : ∀ j, Cls X.K (D j)) (hm : ∀ j, Meth X.K (D j) m (g j)) (F : ∀ j, FnR X.prog X.w X.K X.mg X.base CXa k (g j) (sp j)) (hr : Room k X.A) (hx : ∀ σ, PassesAt CXa X σ (Eo σ)) (ha : PA X (a0 :: as) ta)
    (ht : eval (.Call (.Attribute o m apos) (a0 :: as) [] pos) X.env = (do
      let ov ← eval o X.env
      standAt apos.atName
      let (f, first) ← holding [ov] (getMethod ov m pl)
      callWith pos f first (backTo pos (starEach (a0 :: as) X.env)) (backToKw pos (keywordEach [] X.env))) := by rfl)
    (he : starEach (a0 :: as) X.env = (false, eval a0 X.env) :: starEach as X.env := by rfl) (hpl : (backTo pos (starEach as X.env)).any (·.1) = false := by rfl) :
    PE X (.Call (.Attribute o m apos) (a0 :: as) [] pos) (tMethFS D m sp Eo to ta) := by
  refine ⟨fun pins s σ H Q I h => PySem.W.methodCall_KW (pl := pl) (thn (ho.run pins s σ H _ I h) fun u s1 hh => ?_) ht⟩
  obtain ⟨x, H1, J, rx, j, a, dx, fs, rfl, hi, hl, q⟩ := hh
  obtain rfl : u = Value.ref a := rx
  refine getmeth_ok J hi (c j) (hm j) hl ?_
  refine PySem.W.callWith_K (first := [.ref a]) J.kIn (hm j).kp (thn (ha.run pos pins s1 σ H1 _ J q) fun us s2 hh => ?_) he hpl
  obtain ⟨vs, H2, I2, r, q⟩ := hh
  exact ⟨I2.kIn, wpAny_call (run_fnRS (us := .ref a :: us) (vs := .ref a :: vs) (F j) hr (hx σ) I2 (.cons rfl r) q)⟩
end
end Sx
set_option Elab.async false
set_option linter.all false
set_option maxRecDepth 100000
set_option maxHeartbeats 4000000
namespace Cl
open PySem PySem.Spec L2 PyProof.Rows
def cText : List Nat := [116, 101, 120, 116]
theorem eText : ("text" : Str) = S cText := by decide +kernel
def oV : Option (List Nat) → V
  | none => .non
  | some t => .str (S t)
/-- what is wrong -/
def dSet (l v n : List Nat) : Option (List Nat) := if (setOf l v n).isSome = true then none else some cSet
def dSign (l t : List Nat) : Option (List Nat) := if isSg l t = true then none else some cSign
def dDrop (l v n : List Nat) (af : Int) : Option (List Nat) := if (setOf l v n).isSome = true then (if okAf af = true then none else some cAft) else some cSet
def dWrite (l v t n : List Nat) : Option (List Nat) := if isSg l t = true then dSet l v n else some cSign
theorem some_isSome {α : Type} {o : Option α} {m : α} (h : o = some m) : o.isSome = true := by rw [h] <;> rfl
theorem none_isSome {α : Type} {o : Option α} (h : o = none) : ¬ o.isSome = true := by
  rw [h]
  exact Bool.false_ne_true
theorem fls {b : Bool} (h : b = false) : ¬ b = true := by
  rw [h]
  exact Bool.false_ne_true
/-- the number behind after -/
def afOf (w : List Nat) : Int := if w = [49] then 1 else if w = [50] then 2 else if w = [51] then 3 else -1
def step1 : List (List Nat) → Int × List (List Nat)
  | a :: w :: r => if a = wAfter then (afOf w, r) else (0, a :: w :: r)
  | r => (0, r)
def step2 : List (List Nat) → Bool × List (List Nat)
  | e :: r => if e = wEach then (true, r) else (false, e :: r)
  | [] => (false, [])
def whatDrop (l v n : List Nat) (parts : List (List Nat)) : Option (List Nat) :=
  if (step2 (step1 parts).2).2 = [] ∨ (step2 (step1 parts).2).2 = [wBut, wLast] then dDrop l v n (step1 parts).1 else some cText
def wDropP (l v : List Nat) : List (List Nat) → Option (List Nat)
  | [] => some cText
  | n :: r => whatDrop l v n r
def wWrite (l v : List Nat) : List (List Nat) → Option (List Nat)
  | [s, f, n] => if f = wFor then dWrite l v s n else some cText
  | _ => some cText
def wOnce (l v : List Nat) : List (List Nat) → Option (List Nat)
  | [n] => dSet l v n
  | _ => some cText
def wAdd (l : List Nat) : List (List Nat) → Option (List Nat)
  | [s] => dSign l s
  | _ => some cText
def whatW (l v : List Nat) : List (List Nat) → Option (List Nat)
  | [] => some cText
  | verb :: parts => if verb = cDrop then wDropP l v parts else if verb = kWrite then wWrite l v parts else if verb = kOnce then wOnce l v parts else if verb = kAdd then wAdd l parts else some cText
theorem whatW_cons (l v verb : List Nat) (parts : List (List Nat)) : whatW l v (verb :: parts) = if verb = cDrop then wDropP l v parts else if verb = kWrite then wWrite l v parts else if verb = kOnce then wOnce l v parts else if verb = kAdd then wAdd l parts else some cText := rfl
/-! the words are the written form's -/
theorem okAf_pos {w : List Nat} (h : okAf (afOf w) = true) : 0 < (afOf w).toNat ∧ (afOf w).toNat ≤ 3 ∧ w = [48 + (afOf w).toNat] := by
  unfold afOf at h ⊢
  by_cases h1 : w = [49]
  · rw [if_pos h1]
    exact ⟨by decide, by decide, h1⟩
  · rw [if_neg h1] at h ⊢
    by_cases h2 : w = [50]
    · rw [if_pos h2]
      exact ⟨by decide, by decide, h2⟩
    · rw [if_neg h2] at h ⊢
      by_cases h3 : w = [51]
      · rw [if_pos h3]
        exact ⟨by decide, by decide, h3⟩
      · rw [if_neg h3] at h
        exact absurd h (by decide)
theorem step1_words : ∀ {parts : List (List Nat)}, okAf (step1 parts).1 = true → (step1 parts).1.toNat ≤ 3 ∧ parts = aftW (step1 parts).1.toNat ++ (step1 parts).2
  | [], _ => ⟨Nat.zero_le 3, rfl⟩
  | [x], _ => ⟨Nat.zero_le 3, rfl⟩
  | a :: w :: r, h => by
    by_cases ha : a = wAfter
    · have e : step1 (a :: w :: r) = (afOf w, r) := if_pos ha
      rw [e] at h ⊢
      obtain ⟨h1, h2, h3⟩ := okAf_pos h
      refine ⟨h2, ?_⟩
      show a :: w :: r = aftW (afOf w).toNat ++ r
      unfold aftW
      rw [if_pos h1, ← h3, ha]
      rfl
    · have e : step1 (a :: w :: r) = (0, a :: w :: r) := if_neg ha
      rw [e]
      exact ⟨Nat.zero_le 3, rfl⟩
theorem step2_words (r : List (List Nat)) : r = eachW (step2 r).1 ++ (step2 r).2 := by
  unfold step2
  split
  · next e t =>
    by_cases he : e = wEach
    · rw [if_pos he, he]
      rfl
    · rw [if_neg he]
      rfl
  · rfl
theorem dDrop_none {l v n : List Nat} {af : Int} (h : dDrop l v n af = none) : ∃ m, setOf l v n = some m ∧ okAf af = true := by
  unfold dDrop at h
  cases e : setOf l v n with
  | none =>
    rw [e] at h
    exact absurd h (by simp)
  | some m =>
    rw [e, if_pos (show (some m).isSome = true from rfl)] at h
    refine ⟨m, rfl, ?_⟩
    cases eo : okAf af with
    | true => rfl
    | false =>
      rw [eo] at h
      exact absurd h (by simp)
/-! texts in lists, compared -/
def dW (ws : List (List Nat)) : List PyData := ws.map fun w => .str (S w)
theorem dW_lay {ws : List (List Nat)} (h : ∀ w ∈ ws, ∀ c ∈ w, c < 1000) : PyData.canLayAll0 (dW ws) = true := by
  induction ws with
  | nil => rfl
  | cons w r ih =>
    show (PyData.canLay0 (.str (S w)) && PyData.canLayAll0 (dW r)) = true
    rw [ih fun x hx => h x (List.mem_cons_of_mem _ hx), Bool.and_true]
    show PyData.strOk (S w) = true
    unfold PyData.strOk
    rw [Array.all_eq_true']
    intro c hc
    have hm : c ∈ w := by
      have z : c ∈ (S w).cps.toList := Array.mem_toList_iff.mpr hc
      rw [S_cps] at z
      exact z
    have := h w (List.mem_cons_self ..) c hm
    exact decide_eq_true (by omega)
theorem dW_depth (ws : List (List Nat)) : PyData.depthAll (dW ws) = 0 := by
  induction ws with
  | nil => rfl
  | cons w r ih =>
    show max (PyData.depth (.str (S w))) (PyData.depthAll (dW r)) = 0
    rw [ih]
    rfl
theorem dW_shaped {ws : List (List Nat)} (h : ∀ w ∈ ws, ∀ c ∈ w, c < 1000) : SeqAt.shaped (.list (dW ws)) = true := by
  unfold SeqAt.shaped
  have e1 : PyData.canLay0 (.list (dW ws)) = true := dW_lay h
  have e2 : PyData.depth (.list (dW ws)) = 1 := by
    show PyData.depthAll (dW ws) + 1 = 1
    rw [dW_depth]
  rw [e1, e2]
  rfl
theorem dW_eqv : ∀ a b : List (List Nat), PyData.eqv (.list (dW a)) (.list (dW b)) = decide (a = b)
  | [], [] => rfl
  | [], y :: ys => rfl
  | x :: xs, [] => rfl
  | x :: xs, y :: ys => by
    have ih := dW_eqv xs ys
    show (PyData.eqv (.str (S x)) (.str (S y)) && PyData.eqvAll (dW xs) (dW ys)) = _
    have ih' : PyData.eqvAll (dW xs) (dW ys) = decide (xs = ys) := ih
    rw [ih']
    have e1 : PyData.eqv (.str (S x)) (.str (S y)) = decide (x = y) := by
      show (S x == S y) = decide (x = y)
      by_cases h : x = y
      · rw [h]
        simp
      · rw [decide_eq_false h]
        exact beq_eq_false_iff_ne.mpr fun z => h (S_inj z)
    rw [e1]
    by_cases h : x = y <;> by_cases h2 : xs = ys <;> simp [h, h2]
theorem dW_all {K : PySem.W.Frag} {H : Hp} : ∀ ws : List (List Nat), DpAll K H (txs ws) (dW ws)
  | [] => .nil
  | w :: r => .cons (.str _) (dW_all r)
def spAfterX : Sp := fun vs H Q _ => ∃ w : List Nat, vs = [.str (S w)] ∧ w.length ≤ 60 ∧ ∀ H', Same H H' → Q (.int (afOf w)) H'
/-- the stage of these words, or its refusal -/
def ReadOut (C B : Addr) (Wc : Kd → Addr) (l v : List Nat) (H : Hp) (Q : VK) (E : XK) (ws : List (List Nat)) (o : Option (List Nat)) : Prop :=
  (o = none → ∀ (d : StD) (a dx : Addr) H', Same H H' → H' a = some (.ins (Wc d.k) dx d.fs) → wordsD d = ws → d.n.length ≤ 60 → d.af ≤ 3 → AlphaAt C H' d.q l v → Q (.ref a) H') ∧ ∀ t, o = some t → RaisesW B H E t
theorem ReadOut.same {C B : Addr} {Wc : Kd → Addr} {l v : List Nat} {H H1 : Hp} {Q : VK} {E : XK} {ws : List (List Nat)} {o : Option (List Nat)} (r : ReadOut C B Wc l v H Q E ws o) (s : Same H H1) : ReadOut C B Wc l v H1 Q E ws o :=
  ⟨fun e d a dx H' s' => r.1 e d a dx H' (s.trans s'), fun t e d H' s' => r.2 t e d H' (s.trans s')⟩
def Words (ws : List (List Nat)) : Prop := ws.length ≤ 3000 ∧ ∀ w ∈ ws, w.length ≤ 60 ∧ ∀ c ∈ w, c < 1000
def spReadDropX (C B : Addr) (Wc : Kd → Addr) : Sp := fun vs H Q E => ∃ (p pp : Addr) (l v n : List Nat) (parts : List (List Nat)), vs = [.ref p, .str (S n), .ref pp] ∧ AlphaAt C H p l v ∧ Lets l 8 ∧ v.Sublist l ∧ n.length ≤ 60 ∧ Words parts ∧
  H pp = some (.lst (txs parts)) ∧ ReadOut C B Wc l v H Q E (cDrop :: n :: parts) (whatDrop l v n parts)
def spReadX (C B : Addr) (Wc : Kd → Addr) : Sp := fun vs H Q E => ∃ (p : Addr) (l v : List Nat) (ws : List (List Nat)), vs = [.ref p, .str (S (TL.joinL [32] ws))] ∧ AlphaAt C H p l v ∧ Lets l 8 ∧ v.Sublist l ∧ ws ≠ [] ∧ Words ws ∧ (∀ w ∈ ws, 32 ∉ w) ∧
  ReadOut C B Wc l v H Q E ws (whatW l v ws)
end Cl
namespace Cl.K54
open PySem PySem.Spec L2 PyProof.Rows
abbrev sLI : Stmt := inClass (top 20) 0
theorem nsI : NdefX.NScope ["self", "alphabet", "name", "after", "each", "__class__"] ["self", "alphabet", "name", "after", "each"] ["__class__"] (defScope sLI) := NdefX.nscope_by (by decide +kernel)
section
variable {P : Program} {w : World} {K : PySem.W.Frag} {mg : Str → Option Value} {base : Heap} {C B L f c cc g : Addr} {fd gd : FuncData}
theorem ok_lastX (F : Sx.FunS K P.main.file "__init__" "LastDrop.__init__" sLI L f c cc fd) (z : Sx.SupP K L L g "__init__") (GD : FnOk P w K mg base (L2N.CX P w) 7 g gd ["self", "alphabet", "name", "after", "each"] (spDropX C B L))
    (kb : KBn K gd ["self", "alphabet", "name", "after", "each"] 3 ["after", "each"] (fun us ws => us ++ ws) (fun vs zs => vs ++ zs)) (htop : (P.main.scope.names.lookup ("super" : Str)).isSome = false) (hs : mg "super" = none) :
    FnOk P w K mg base (L2N.CX P w) 8 f fd ["self", "alphabet", "name", "after", "each"] (spDropX C B L) := by
  refine Sx.fn_at (k := 7) (n := Sx.nf "__init__" "LastDrop.__init__" sLI cc c) (N := ["self", "alphabet", "name", "after", "each", "__class__"]) F rfl nsI (fun vs H Q E h => ?_) (fun A outer s H vs Q E hr h => ?_)
  · obtain ⟨a, dx, p, l, v, n, af, e, rfl, _⟩ := h
    rfl
  · obtain ⟨a, dx, p, l, v, n, af, e, rfl, ha, hp, hL, hv, hn, k1, k2, k3⟩ := h
    refine ⟨_, Sx.pssa_one (Sx.psa_expr (Sx.pea_supK (i := 5) (E := E) (Sx.supCx_of F nsI rfl rfl rfl rfl rfl rfl htop hs) z GD hr kb (L2N.passes_call (W := fun cls d _ H => E cls d H) (L2N.takes_of rfl rfl rfl rfl) (fun _ _ _ _ h => h)) (pa_cons (pv 1) (pa_cons (pv 2) pa_nil)) (pk_cons (pv 3) (pk_cons (pv 4) pk_nil)))), ?_⟩
    exact ⟨a, dx, [], rfl, rfl, ha, _, rfl, _, rfl, _, rfl, _, rfl, rfl, rfl, a, dx, p, l, v, n, af, e, rfl, ha, hp, hL, hv, hn, k1, k2, k3⟩
end
/-- what making something wants -/
structure MkG (P : Program) (w : World) (K : PySem.W.Frag) (mg : Str → Option Value) (base : Heap) (W : Addr) (x : Str) (k : Nat) (ps : List Str) (sp : Sp) (f : Addr) (fd : FuncData) : Prop where
  ctor : Mk K W f
  ok : FnOk P w K mg base (L2N.CX P w) k f fd ps sp
  gl : mg x = some (.ref W)
section
variable {P : Program} {w : World} {K : PySem.W.Frag} {mg : Str → Option Value} {base : Heap} {C B : Addr} {Wc : Kd → Addr}
theorem ok_after {f : Addr} {fd : FuncData} (F : Fun K "_read_after" "_read_after" sAfter f fd) (hI : mg "int" = none) : FnOk P w K mg base CX0 1 f fd ["word"] spAfterX := by
  refine F.ok scAfter (fun vs H Q E h => ?_) (fun cdv A outer s H vs Q E hr h => ?_)
  · obtain ⟨w, rfl, _⟩ := h
    rfl
  · obtain ⟨w, rfl, hw, k⟩ := h
    refine ⟨_, pss_cons (ps_if (pt_cmpR op_in_seq (pv 0) (pe_tup (pa_cons pe_str (pa_cons pe_str (pa_cons pe_str pa_nil)))) rfl) (pss_one (ps_ret (pe_callTy call_int_str (by rfl) hI (by decide +kernel) (pa_cons (pv 0) pa_nil)))) pss_nil) (pss_one (ps_ret (pe_un un_neg pe_int))), ?_⟩
    refine ⟨_, rfl, (by show 3 ≤ sizeLine; decide), fun p hp => ⟨p, _, rfl, .inr (SqT.of upd_same), rfl, rfl, _, rfl, ?_⟩⟩
    show (if inV (.str (S w)) [.str ("1" : Str), .str ("2" : Str), .str ("3" : Str)] = true then _ else _)
    have e1 : ("1" : Str) = S [49] := by decide +kernel
    have e2 : ("2" : Str) = S [50] := by decide +kernel
    have e3 : ("3" : Str) = S [51] := by decide +kernel
    have z := k _ (same_new (o := .tup [V.str ("1" : Str), V.str ("2" : Str), V.str ("3" : Str)]) hp)
    unfold afOf at z
    by_cases h1 : w = [49]
    · subst h1
      rw [show inV (.str (S [49])) [.str ("1" : Str), .str ("2" : Str), .str ("3" : Str)] = true by decide +kernel]
      rw [if_pos rfl] at z
      exact iteT ⟨_, rfl, S [49], _, rfl, (by decide +kernel : PySem.intText? (S [49]) = some 1), by rw [S_len]; show 1 ≤ 640; decide, z⟩
    rw [if_neg h1] at z
    by_cases h2 : w = [50]
    · subst h2
      rw [show inV (.str (S [50])) [.str ("1" : Str), .str ("2" : Str), .str ("3" : Str)] = true by decide +kernel]
      rw [if_pos rfl] at z
      exact iteT ⟨_, rfl, S [50], _, rfl, (by decide +kernel : PySem.intText? (S [50]) = some 2), by rw [S_len]; show 1 ≤ 640; decide, z⟩
    rw [if_neg h2] at z
    by_cases h3 : w = [51]
    · subst h3
      rw [show inV (.str (S [51])) [.str ("1" : Str), .str ("2" : Str), .str ("3" : Str)] = true by decide +kernel]
      rw [if_pos rfl] at z
      exact iteT ⟨_, rfl, S [51], _, rfl, (by decide +kernel : PySem.intText? (S [51]) = some 3), by rw [S_len]; show 1 ≤ 640; decide, z⟩
    rw [if_neg h3] at z
    have ei : inV (.str (S w)) [.str ("1" : Str), .str ("2" : Str), .str ("3" : Str)] = false := by
      rw [e1, e2, e3]
      have e : ∀ a : List Nat, eqV (.str (S a)) (.str (S w)) = decide (a = w) := fun a => by
        show decide (S a = S w) = decide (a = w)
        exact decide_eq_decide.mpr ⟨fun h => S_inj h, fun h => by rw [h]⟩
      unfold inV
      rw [List.any_cons, List.any_cons, List.any_cons, List.any_nil, e, e, e, decide_eq_false fun y => h1 y.symm, decide_eq_false fun y => h2 y.symm, decide_eq_false fun y => h3 y.symm]
      rfl
    rw [ei]
    exact iteF ⟨1, rfl, z⟩
end
end Cl.K54
set_option Elab.async false
set_option linter.all false
set_option maxRecDepth 100000
set_option maxHeartbeats 4000000
namespace Cl
open PySem PySem.Spec L2 PyProof.Rows
theorem step1_sub : ∀ {parts : List (List Nat)}, ∀ w ∈ (step1 parts).2, w ∈ parts
  | [], w, h => h
  | [x], w, h => h
  | a :: b :: r, w, h => by
    by_cases ha : a = wAfter
    · have e : step1 (a :: b :: r) = (afOf b, r) := if_pos ha
      rw [e] at h
      exact List.mem_cons_of_mem _ (List.mem_cons_of_mem _ h)
    · have e : step1 (a :: b :: r) = (0, a :: b :: r) := if_neg ha
      rw [e] at h
      exact h
theorem step2_sub : ∀ {r : List (List Nat)}, ∀ w ∈ (step2 r).2, w ∈ r
  | [], w, h => h
  | e :: t, w, h => by
    by_cases he : e = wEach
    · have e2 : step2 (e :: t) = (true, t) := if_pos he
      rw [e2] at h
      exact List.mem_cons_of_mem _ h
    · have e2 : step2 (e :: t) = (false, e :: t) := if_neg he
      rw [e2] at h
      exact h
end Cl
namespace Cl.K54
open PySem PySem.Spec L2 PyProof.Rows
section
variable {P : Program} {w : World} {K : PySem.W.Frag} {mg : Str → Option Value} {base : Heap} {C B : Addr} {Wc : Kd → Addr}
theorem same_mk' {H : Hp} {p dx C : Addr} (hp : H p = none) (hd : H dx = none) : Same H (upd (upd H dx (.own p)) p (.ins C dx [])) := same_mk hp hd
theorem ok_readDrop {f fA fD fL fB : Addr} {fd fdA dD dL fdB : FuncData} (F : Fun K "_read_drop" "_read_drop" sReadDrop f fd) (GA : LawG P w K mg base 1 "_read_after" ["word"] spAfterX fA fdA)
    (MD : MkG P w K mg base (Wc .d) "Drop" 7 ["self", "alphabet", "name", "after", "each"] (spDropX C B (Wc .d)) fD dD) (kD : KBn K dD ["self", "alphabet", "name", "after", "each"] 3 ["after", "each"] (fun us ws => us ++ ws) (fun vs zs => vs ++ zs))
    (ML : MkG P w K mg base (Wc .l) "LastDrop" 8 ["self", "alphabet", "name", "after", "each"] (spDropX C B (Wc .l)) fL dL) (kL : KBn K dL ["self", "alphabet", "name", "after", "each"] 3 ["after", "each"] (fun us ws => us ++ ws) (fun vs zs => vs ++ zs))
    (BX : BadS P w K mg base B fB fdB) (hn : mg "len" = none) :
    FnOk P w K mg base (L2N.CX P w) 10 f fd ["alphabet", "name", "parts"] (spReadDropX C B Wc) := by
  refine Sx.okN F scReadDrop (fun vs H Q E h => ?_) (fun cdv A outer s H vs Q E hr h => ?_)
  · obtain ⟨p, pp, l, v, n, parts, rfl, _⟩ := h
    rfl
  · obtain ⟨p, pp, l, v, n, parts, rfl, al, hL, hv, hnl, hw, hpp, out⟩ := h
    have hr8 : Room (8 + 1) _ := hr
    have hr7 : Room (7 + 1) _ := hr.mono (by decide)
    have hr1 : Room 1 _ := hr.mono (by decide)
    have hrB : Room (1 + 1) _ := hr.mono (by decide)
    refine ⟨_, pss_cons (ps_set (i := 3) scReadDrop.nd rfl (.inl rfl) pe_int)
      (C8.pss_cut (ps_if (PW.pt (pw_and (pt_cmpR op_gt (pe_callB call_len_seq (by rfl) hn PySem.boot_len (pa_cons (pv 2) pa_nil)) pe_int (nomark _)) (pw_and1 (pt_cmpR op_eq (pe_ix ix_list (pv 2) pe_int (fun _ _ => rfl)) pe_str (nomark _)))))
        (pss_cons (ps_set (i := 3) scReadDrop.nd rfl (.inl rfl) (pe_call GA.ok hr1 rfl GA.gl GA.kp GA.bd .nil pass0 (pa_cons (pe_ix ix_list (pv 2) pe_int (fun _ _ => rfl)) pa_nil))) (pss_one (ps_set (i := 2) scReadDrop.nd rfl (.inl rfl) (pe_slice sl_list (pv 2) (po_some pe_int) po_none)))) pss_nil)
      (C8.pss_cut (ps_set (i := 4) scReadDrop.nd rfl (.inl rfl) (pe_and (pe_cmpR op_gt (pe_callB call_len_seq (by rfl) hn PySem.boot_len (pa_cons (pv 2) pa_nil)) pe_int (nomark _)) (pe_one (pe_cmpR op_eq (pe_ix ix_list (pv 2) pe_int (fun _ _ => rfl)) pe_str (nomark _)))))
      (C8.pss_cut (ps_if (pt_val (pv 4)) (pss_one (ps_set (i := 2) scReadDrop.nd rfl (.inl rfl) (pe_slice sl_list (pv 2) (po_some pe_int) po_none))) pss_nil)
      (pss_cons (ps_if (pt_cmpR (op_eqD hr.units) (pv 2) (pe_lst pa_nil) (nomark _)) (pss_one (ps_ret (pe_makeN (E := E) MD.ctor MD.ok hr7 rfl MD.gl kD (L2N.passes_call (W := fun cls d _ H => E cls d H) (L2N.takes_of rfl rfl rfl rfl) (fun _ _ _ _ h => h)) (pa_cons (pv 0) (pa_cons (pv 1) pa_nil)) (pk_cons (pv 3) (pk_cons (pv 4) pk_nil))))) pss_nil)
      (pss_cons (ps_if (pt_cmpR (op_eqD hr.units) (pv 2) (pe_lst (pa_cons pe_str (pa_cons pe_str pa_nil))) (nomark _)) (pss_one (ps_ret (pe_makeN (E := E) ML.ctor ML.ok hr8 rfl ML.gl kL (L2N.passes_call (W := fun cls d _ H => E cls d H) (L2N.takes_of rfl rfl rfl rfl) (fun _ _ _ _ h => h)) (pa_cons (pv 0) (pa_cons (pv 1) pa_nil)) (pk_cons (pv 3) (pk_cons (pv 4) pk_nil))))) pss_nil)
      (pss_one (L2N.ps_raise (W := fun cls d _ H => E cls d H) rfl (L2N.takes_of rfl rfl rfl rfl) (Sx.pmk_oexC BX.T BX.iC BX.tI BX.ok hrB BX.bd .nil pass0 rfl BX.gl (pa_cons pe_str pa_nil))))))))), ?_⟩
    refine ⟨fun σ' H' => ∃ pp' : Addr, σ' = [some (.ref p), some (.str (S n)), some (.ref pp'), some (.int (step1 parts).1), none] ∧ H' pp' = some (.lst (txs (step1 parts).2)) ∧ Same H H', ?_, ?_⟩
    · refine ⟨_, rfl, pp, _, rfl, .inl (SqL.of hpp), _, _, rfl, rfl, _, rfl, ?_⟩
      match parts, hw, hpp with
      | [], hw, hpp => exact iteF ⟨pp, rfl, hpp, Same.refl _⟩
      | [x], hw, hpp => exact iteF ⟨pp, rfl, hpp, Same.refl _⟩
      | x :: y :: r, hw, hpp =>
        have hpp : H pp = some (.lst (V.str (S x) :: V.str (S y) :: txs r)) := hpp
        rw [decide_eq_true (by show (((txs (x :: y :: r)).length : Nat) : Int) > 1; unfold txs; rw [List.length_map, List.length_cons, List.length_cons]; omega)]
        refine iteT ⟨_, rfl, pp, _, 0, .str (S x), rfl, rfl, SqL.of hpp, atI_pos (by decide) rfl, rfl, _, rfl, ?_⟩
        rw [eWAfter, vs_eq]
        by_cases hx : x = wAfter
        · have e : step1 (x :: y :: r) = (afOf y, r) := if_pos hx
          rw [decide_eq_true hx, e]
          refine iteT ⟨_, rfl, pp, _, 1, .str (S y), rfl, rfl, SqL.of hpp, atI_pos (by decide) rfl, y, rfl, (hw.2 y (by simp)).1, fun H1 s1 => ?_⟩
          refine ⟨_, rfl, 2, rfl, pp, _, rfl, SqL.of (s1 _ _ hpp), fun q hq => ?_⟩
          rw [cutV_2]
          exact ⟨q, rfl, upd_same, s1.trans (same_new hq)⟩
        · have e : step1 (x :: y :: r) = (0, x :: y :: r) := if_neg hx
          rw [decide_eq_false hx, e]
          exact iteF ⟨pp, rfl, hpp, Same.refl _⟩
    have hsub1 : ∀ w ∈ (step1 parts).2, w ∈ parts := step1_sub
    have hw1 := @step1_words parts
    unfold whatDrop at out
    generalize (step1 parts).1 = af at hw1 out ⊢
    generalize (step1 parts).2 = r1 at hsub1 hw1 out ⊢
    rintro σ' H1 ⟨pp1, rfl, hpp1, s1⟩
    have hpp1 : H1 pp1 = some (.lst (txs r1)) := hpp1
    refine ⟨fun σ' H' => σ' = [some (.ref p), some (.str (S n)), some (.ref pp1), some (.int af), some (.bl (step2 r1).1)] ∧ H' = H1, ?_, ?_⟩
    · refine ⟨_, rfl, pp1, _, rfl, .inl (SqL.of hpp1), _, _, rfl, rfl, _, rfl, ?_⟩
      match r1, hpp1 with
      | [], hpp1 => exact iteF ⟨rfl, rfl⟩
      | x :: r, hpp1 =>
        have hpp1 : H1 pp1 = some (.lst (V.str (S x) :: txs r)) := hpp1
        rw [decide_eq_true (by show (((txs (x :: r)).length : Nat) : Int) > 0; unfold txs; rw [List.length_map, List.length_cons]; omega)]
        refine iteT ⟨_, rfl, pp1, _, 0, .str (S x), rfl, rfl, SqL.of hpp1, atI_pos (by decide) rfl, rfl, ?_⟩
        rw [eWEach, vs_eq]
        by_cases hx : x = wEach
        · have e : step2 (x :: r) = (true, r) := if_pos hx
          rw [decide_eq_true hx, e]
          exact ⟨rfl, rfl⟩
        · have e : step2 (x :: r) = (false, x :: r) := if_neg hx
          rw [decide_eq_false hx, e]
          exact ⟨rfl, rfl⟩
    rintro σ' H' ⟨rfl, rfl⟩
    have hsub2 : ∀ w ∈ (step2 r1).2, w ∈ r1 := step2_sub
    have hw2 := step2_words r1
    refine ⟨fun σ' H2 => ∃ pp' : Addr, σ' = [some (.ref p), some (.str (S n)), some (.ref pp'), some (.int af), some (.bl (step2 r1).1)] ∧ H2 pp' = some (.lst (txs (step2 r1).2)) ∧ Same H H2, ?_, ?_⟩
    · refine ⟨_, rfl, _, rfl, ?_⟩
      match r1, hpp1 with
      | [], hpp1 => exact iteF ⟨pp1, rfl, hpp1, s1⟩
      | x :: r, hpp1 =>
        by_cases hx : x = wEach
        · have e : step2 (x :: r) = (true, r) := if_pos hx
          rw [e]
          refine iteT ⟨_, rfl, 1, rfl, pp1, _, rfl, SqL.of hpp1, fun q hq => ?_⟩
          rw [show txs (x :: r) = V.str (S x) :: txs r from rfl, cutV_1]
          exact ⟨q, rfl, upd_same, s1.trans (same_new hq)⟩
        · have e : step2 (x :: r) = (false, x :: r) := if_neg hx
          rw [e]
          exact iteF ⟨pp1, rfl, hpp1, s1⟩
    generalize (step2 r1).1 = e at hw2 ⊢
    generalize (step2 r1).2 = r2 at hw2 hsub2 out ⊢
    rintro σ' H2 ⟨pp2, rfl, hpp2, s2⟩
    have hpp2 : H2 pp2 = some (.lst (txs r2)) := hpp2
    have ch2 : ∀ w ∈ r2, ∀ c ∈ w, c < 1000 := fun w h => (hw.2 w (hsub1 w (hsub2 w h))).2
    have sh2 := dW_shaped ch2
    refine ⟨_, rfl, (by show 0 ≤ sizeLine; decide), fun r hr0 => ?_⟩
    have nr : pp2 ≠ r := ne_of_none hpp2 hr0
    refine ⟨.list (dW r2), .list (dW []), .lst (SqL.of (by rw [upd_ne nr]; exact hpp2)) (dW_all r2), .lst (SqL.of upd_same) .nil, sh2, dW_shaped (fun w h => by cases h), _, rfl, ?_⟩
    rw [dW_eqv]
    have s3 : Same H (upd H2 r (.lst [])) := s2.trans (same_new hr0)
    have hpp3 : (upd H2 r (.lst [])) pp2 = some (.lst (txs r2)) := by rw [upd_ne nr]; exact hpp2
    generalize upd H2 r (.lst []) = H3 at s3 hpp3
    have mk : ∀ {w0 dw0 W : Addr} {G H' : Hp}, Same H G → G w0 = none → G dw0 = none → Kp w0 (upd (upd G dw0 (.own w0)) w0 (.ins W dw0 [])) H' → Same H H' := fun {w0 dw0 W G H'} s n1 n2 k1 => s.trans (made_same n1 n2 k1)
    by_cases q1 : r2 = []
    · rw [decide_eq_true q1]
      rw [if_pos (.inl q1)] at out
      refine iteT ⟨_, rfl, _, rfl, _, rfl, _, rfl, rfl, rfl, ?_⟩
      intro w0 dw0 nw0 ndw0 nex0
      refine ⟨w0, dw0, p, l, v, n, af, e, rfl, upd_same, (al.same s3).same (same_mk nw0 ndw0), hL, hv, hnl, fun en d' H' k1 hd => ?_, fun m em eo d' H' k1 hd => ?_, fun m em eo q H' k1 hw0 alq => ⟨rfl, ?_⟩⟩
      · exact out.2 cSet (by unfold dDrop; rw [if_neg (none_isSome en)]) d' H' (mk s3 nw0 ndw0 k1) hd
      · exact out.2 cAft (by unfold dDrop; rw [if_pos (some_isSome em), if_neg (fls eo)]) d' H' (mk s3 nw0 ndw0 k1) hd
      · obtain ⟨h3, hp⟩ := hw1 eo
        refine out.1 (by unfold dDrop; rw [if_pos (some_isSome em), if_pos eo]) ⟨.d, q, 45, n, m, af.toNat, e⟩ w0 dw0 H' (mk s3 nw0 ndw0 k1) hw0 ?_ hnl h3 alq
        rw [hp, hw2, q1]
        rfl
    rw [decide_eq_false q1]
    refine iteF ⟨_, rfl, (by show 2 ≤ sizeLine; decide), fun r' hr1' => ?_⟩
    have nr2 : pp2 ≠ r' := ne_of_none hpp3 hr1'
    have eBL : [V.str ("but" : Str), V.str ("last" : Str)] = txs [wBut, wLast] := by
      rw [eWBut, eWLast]
      rfl
    rw [eBL]
    refine ⟨.list (dW r2), .list (dW [wBut, wLast]), .lst (SqL.of (by rw [upd_ne nr2]; exact hpp3)) (dW_all r2), .lst (SqL.of upd_same) (dW_all _), sh2, dW_shaped (by decide), _, rfl, ?_⟩
    rw [dW_eqv]
    have s4 : Same H (upd H3 r' (.lst (txs [wBut, wLast]))) := s3.trans (same_new hr1')
    generalize upd H3 r' (.lst (txs [wBut, wLast])) = H4 at s4
    by_cases q2 : r2 = [wBut, wLast]
    · rw [decide_eq_true q2]
      rw [if_pos (.inr q2)] at out
      refine iteT ⟨_, rfl, _, rfl, _, rfl, _, rfl, rfl, rfl, ?_⟩
      intro w0 dw0 nw0 ndw0 nex0
      refine ⟨w0, dw0, p, l, v, n, af, e, rfl, upd_same, (al.same s4).same (same_mk nw0 ndw0), hL, hv, hnl, fun en d' H' k1 hd => ?_, fun m em eo d' H' k1 hd => ?_, fun m em eo q H' k1 hw0 alq => ⟨rfl, ?_⟩⟩
      · exact out.2 cSet (by unfold dDrop; rw [if_neg (none_isSome en)]) d' H' (mk s4 nw0 ndw0 k1) hd
      · exact out.2 cAft (by unfold dDrop; rw [if_pos (some_isSome em), if_neg (fls eo)]) d' H' (mk s4 nw0 ndw0 k1) hd
      · obtain ⟨h3, hp⟩ := hw1 eo
        refine out.1 (by unfold dDrop; rw [if_pos (some_isSome em), if_pos eo]) ⟨.l, q, 45, n, m, af.toNat, e⟩ w0 dw0 H' (mk s4 nw0 ndw0 k1) hw0 ?_ hnl h3 alq
        rw [hp, hw2, q2]
        rfl
    rw [decide_eq_false q2]
    rw [if_neg (fun z => z.elim q1 q2)] at out
    exact iteF (raiseW (by decide) eText s4 (out.2 cText rfl))
end
end Cl.K54
set_option Elab.async false
set_option linter.all false
set_option maxRecDepth 100000
set_option maxHeartbeats 4000000
namespace Cl
open PySem PySem.Spec L2 PyProof.Rows
theorem flat_len {ws : List (List Nat)} (h : ∀ w ∈ ws, w.length ≤ 60) : ws.flatten.length ≤ 60 * ws.length := by
  induction ws with
  | nil => exact Nat.le_refl 0
  | cons w r ih =>
    rw [List.flatten_cons, List.length_append, List.length_cons]
    have h1 := h w (List.mem_cons_self ..)
    have h2 := ih fun x hx => h x (List.mem_cons_of_mem _ hx)
    omega
theorem words_len {ws : List (List Nat)} (h : Words ws) : (TL.joinL [32] ws).length ≤ 183000 := by
  have h1 := joinL_len [32] ws
  have h2 := flat_len fun w hw => (h.2 w hw).1
  have h3 := h.1
  have e : ws.length * [32].length = ws.length := by show ws.length * 1 = ws.length; omega
  rw [e] at h1
  omega
theorem split_words {ws : List (List Nat)} (h0 : ws ≠ []) (h : ∀ w ∈ ws, 32 ∉ w) : Txt.split (S (TL.joinL [32] ws)) (S [32]) = ws.map S := by
  have e0 : Txt.split (S (TL.joinL [32] ws)) (S [32]) = (TL.spl [32] 0 [] (TL.joinL [32] ws)).map S := SX.split_S (by simp) (by decide)
  rw [e0, TL.spl_join h0 h]
theorem whatW_w (l v : List Nat) (parts : List (List Nat)) : whatW l v (kWrite :: parts) = wWrite l v parts := by
  rw [whatW_cons, if_neg (by decide), if_pos rfl]
theorem whatW_o (l v : List Nat) (parts : List (List Nat)) : whatW l v (kOnce :: parts) = wOnce l v parts := by
  rw [whatW_cons, if_neg (by decide), if_neg (by decide), if_pos rfl]
theorem whatW_a (l v : List Nat) (parts : List (List Nat)) : whatW l v (kAdd :: parts) = wAdd l parts := by
  rw [whatW_cons, if_neg (by decide), if_neg (by decide), if_neg (by decide), if_pos rfl]
theorem wWrite_no (l v : List Nat) : ∀ parts : List (List Nat), ¬ parts.length = 3 → wWrite l v parts = some cText
  | [], _ => rfl
  | [_], _ => rfl
  | [_, _], _ => rfl
  | [_, _, _], h => absurd rfl h
  | _ :: _ :: _ :: _ :: _, _ => rfl
theorem wOnce_no (l v : List Nat) : ∀ parts : List (List Nat), ¬ parts.length = 1 → wOnce l v parts = some cText
  | [], _ => rfl
  | [_], h => absurd rfl h
  | _ :: _ :: _, _ => rfl
theorem wAdd_no (l : List Nat) : ∀ parts : List (List Nat), ¬ parts.length = 1 → wAdd l parts = some cText
  | [], _ => rfl
  | [_], h => absurd rfl h
  | _ :: _ :: _, _ => rfl
theorem whatW_else (l v verb : List Nat) (parts : List (List Nat)) (v1 : verb ≠ cDrop) (v2 : verb ≠ kWrite) (v3 : verb ≠ kOnce) (v4 : verb ≠ kAdd) : whatW l v (verb :: parts) = some cText := by
  rw [whatW_cons, if_neg v1, if_neg v2, if_neg v3, if_neg v4]
/-- a def that may raise -/
structure LawX (P : Program) (w : World) (K : PySem.W.Frag) (mg : Str → Option Value) (base : Heap) (k : Nat) (x : Str) (ps : List Str) (sp : Sp) (f : Addr) (fd : FuncData) : Prop where
  ok : FnOk P w K mg base (L2N.CX P w) k f fd ps sp
  bd : Binds K fd ps []
  gl : mg x = some (.ref f)
  kp : PySem.W.keepIn K (.ref f) = true
theorem txs_len (ws : List (List Nat)) : (txs ws).length = ws.length := by
  unfold txs
  rw [List.length_map]
theorem txs_at {ws : List (List Nat)} {i : Nat} {w : List Nat} (h : ws[i]? = some w) : atI (txs ws) (i : Int) = some (.str (S w)) := by
  refine atI_pos (by omega) ?_
  unfold txs
  rw [List.getElem?_map, Int.toNat_natCast, h]
  rfl
end Cl
namespace Cl.K54
open PySem PySem.Spec L2 PyProof.Rows
section
variable {P : Program} {w : World} {K : PySem.W.Frag} {mg : Str → Option Value} {base : Heap} {C B : Addr} {Wc : Kd → Addr}
theorem ok_read {f fR fW fO fA fB : Addr} {fd fdR dW dO dA fdB : FuncData} (F : Fun K "read_stage" "read_stage" sRead f fd) (GR : LawX P w K mg base 10 "_read_drop" ["alphabet", "name", "parts"] (spReadDropX C B Wc) fR fdR)
    (MW : MkG P w K mg base (Wc .w) "Write" 7 ["self", "alphabet", "sign", "name"] (spWriteX C B (Wc .w)) fW dW) (bW : Binds K dW ["self", "alphabet", "sign", "name"] [])
    (MO : MkG P w K mg base (Wc .o) "Once" 7 ["self", "alphabet", "name"] (spOnceX C B (Wc .o)) fO dO) (bO : Binds K dO ["self", "alphabet", "name"] [])
    (MA : MkG P w K mg base (Wc .a) "Add" 7 ["self", "alphabet", "sign"] (spAddX C B (Wc .a)) fA dA) (bA : Binds K dA ["self", "alphabet", "sign"] [])
    (BX : BadS P w K mg base B fB fdB) (hn : mg "len" = none) :
    FnOk P w K mg base (L2N.CX P w) 11 f fd ["alphabet", "text"] (spReadX C B Wc) := by
  refine Sx.okN F scRead (fun vs H Q E h => ?_) (fun cdv A outer s H vs Q E hr h => ?_)
  · obtain ⟨p, l, v, ws, rfl, _⟩ := h
    rfl
  · obtain ⟨p, l, v, ws, rfl, al, hL, hv, w0, hw, hsp, out⟩ := h
    have hr10 : Room 10 _ := hr
    have hr7 : Room (7 + 1) _ := hr.mono (by decide)
    have hrB : Room (1 + 1) _ := hr.mono (by decide)
    refine ⟨_, pss_cons (ps_set (i := 2) scRead.nd rfl (.inl rfl) (pe_split (pv 1) pe_str))
      (pss_cons (ps_set (i := 3) scRead.nd rfl (.inl rfl) (pe_ix ix_list (pv 2) pe_int (fun _ _ => rfl)))
      (pss_cons (ps_set (i := 4) scRead.nd rfl (.inl rfl) (pe_slice sl_list (pv 2) (po_some pe_int) po_none))
      (pss_cons (ps_if (PW.pt (pw_and (pt_cmpR op_eq (pv 3) pe_str (nomark _)) (pw_and1 (pt_cmpR op_gt (pe_callB call_len_seq (by rfl) hn PySem.boot_len (pa_cons (pv 4) pa_nil)) pe_int (nomark _)))))
        (pss_one (ps_ret (pe_call (E := E) GR.ok hr10 rfl GR.gl GR.kp GR.bd .nil (L2N.passes_call (W := fun cls d _ H => E cls d H) (L2N.takes_of rfl rfl rfl rfl) (fun _ _ _ _ h => h)) (pa_cons (pv 0) (pa_cons (pe_ix ix_list (pv 4) pe_int (fun _ _ => rfl)) (pa_cons (pe_slice sl_list (pv 4) (po_some pe_int) po_none) pa_nil)))))) pss_nil)
      (pss_cons (ps_if (PW.pt (pw_and (pt_cmpR op_eq (pv 3) pe_str (nomark _)) (pw_and (pt_cmpR op_eq (pe_callB call_len_seq (by rfl) hn PySem.boot_len (pa_cons (pv 4) pa_nil)) pe_int (nomark _)) (pw_and1 (pt_cmpR op_eq (pe_ix ix_list (pv 4) pe_int (fun _ _ => rfl)) pe_str (nomark _))))))
        (pss_one (ps_ret (pe_make (E := E) MW.ctor MW.ok hr7 rfl MW.gl bW .nil (L2N.passes_call (W := fun cls d _ H => E cls d H) (L2N.takes_of rfl rfl rfl rfl) (fun _ _ _ _ h => h)) (pa_cons (pv 0) (pa_cons (pe_ix ix_list (pv 4) pe_int (fun _ _ => rfl)) (pa_cons (pe_ix ix_list (pv 4) pe_int (fun _ _ => rfl)) pa_nil)))))) pss_nil)
      (pss_cons (ps_if (PW.pt (pw_and (pt_cmpR op_eq (pv 3) pe_str (nomark _)) (pw_and1 (pt_cmpR op_eq (pe_callB call_len_seq (by rfl) hn PySem.boot_len (pa_cons (pv 4) pa_nil)) pe_int (nomark _)))))
        (pss_one (ps_ret (pe_make (E := E) MO.ctor MO.ok hr7 rfl MO.gl bO .nil (L2N.passes_call (W := fun cls d _ H => E cls d H) (L2N.takes_of rfl rfl rfl rfl) (fun _ _ _ _ h => h)) (pa_cons (pv 0) (pa_cons (pe_ix ix_list (pv 4) pe_int (fun _ _ => rfl)) pa_nil))))) pss_nil)
      (pss_cons (ps_if (PW.pt (pw_and (pt_cmpR op_eq (pv 3) pe_str (nomark _)) (pw_and1 (pt_cmpR op_eq (pe_callB call_len_seq (by rfl) hn PySem.boot_len (pa_cons (pv 4) pa_nil)) pe_int (nomark _)))))
        (pss_one (ps_ret (pe_make (E := E) MA.ctor MA.ok hr7 rfl MA.gl bA .nil (L2N.passes_call (W := fun cls d _ H => E cls d H) (L2N.takes_of rfl rfl rfl rfl) (fun _ _ _ _ h => h)) (pa_cons (pv 0) (pa_cons (pe_ix ix_list (pv 4) pe_int (fun _ _ => rfl)) pa_nil))))) pss_nil)
      (pss_one (L2N.ps_raise (W := fun cls d _ H => E cls d H) rfl (L2N.takes_of rfl rfl rfl rfl) (Sx.pmk_oexC BX.T BX.iC BX.tI BX.ok hrB BX.bd .nil pass0 rfl BX.gl (pa_cons pe_str pa_nil)))))))))), ?_⟩
    have tl := words_len hw
    have st := split_words w0 hsp
    refine ⟨_, rfl, ⟨_, rfl⟩, _, _, rfl, rfl, rfl, by rw [S_len, sizeLine_eq]; omega, fun r hr0 => ?_⟩
    rw [eSp, st, strs_map]
    have ne : ∀ {a b : List Nat}, a ≠ b → decide (V.str (S a) = V.str (S b)) = false := fun {a b} h => by
      rw [vs_eq]
      exact decide_eq_false h
    have eq : ∀ a : List Nat, decide (V.str (S a) = V.str (S a)) = true := fun a => decide_eq_true rfl
    have s1 : Same H (upd H r (.lst (txs ws))) := same_new hr0
    have hr1 : (upd H r (.lst (txs ws))) r = some (.lst (txs ws)) := upd_same
    generalize upd H r (.lst (txs ws)) = H1 at s1 hr1
    match ws, w0, hw, out, hr1 with
    | [], w0, _, _, _ => exact absurd rfl w0
    | verb :: parts, _, hw, out, hr1 =>
    have hr1 : H1 r = some (.lst (V.str (S verb) :: txs parts)) := hr1
    refine ⟨_, rfl, r, _, 0, .str (S verb), rfl, rfl, SqL.of hr1, atI_pos (by decide) rfl, ?_⟩
    refine ⟨_, rfl, 1, rfl, r, _, rfl, SqL.of hr1, fun p2 hp2 => ?_⟩
    rw [cutV_1]
    have s2 : Same H (upd H1 p2 (.lst (txs parts))) := s1.trans (same_new hp2)
    have h2 : (upd H1 p2 (.lst (txs parts))) p2 = some (.lst (txs parts)) := upd_same
    generalize upd H1 p2 (.lst (txs parts)) = H2 at s2 h2
    have wp : ∀ x ∈ parts, x.length ≤ 60 ∧ ∀ c ∈ x, c < 1000 := fun x hx => hw.2 x (List.mem_cons_of_mem _ hx)
    have fail : whatW l v (verb :: parts) = some cText → _ := fun e => raiseW (B := B) (E := E) (by decide) eText s2 (out.2 cText e)
    have al2 := al.same s2
    have mk : ∀ {w0 dw0 W : Addr} {H' : Hp}, H2 w0 = none → H2 dw0 = none → Kp w0 (upd (upd H2 dw0 (.own w0)) w0 (.ins W dw0 [])) H' → Same H H' := fun {w0 dw0 W H'} n1 n2 k1 => s2.trans (made_same n1 n2 k1)
    have nDW : ¬ kWrite = cDrop := by decide
    have nDO : ¬ kOnce = cDrop := by decide
    have nWO : ¬ kOnce = kWrite := by decide
    have nDA : ¬ kAdd = cDrop := by decide
    have nWA : ¬ kAdd = kWrite := by decide
    have nOA : ¬ kAdd = kOnce := by decide
    refine ⟨_, rfl, rfl, _, rfl, ?_⟩
    rw [eDrop]
    by_cases v1 : verb = cDrop
    · subst v1
      rw [eq]
      refine iteT ⟨_, rfl, p2, _, rfl, .inl (SqL.of h2), _, _, rfl, rfl, _, rfl, ?_⟩
      match parts, h2, wp, out, fail with
      | [], h2, wp, out, fail =>
        refine iteF ⟨_, rfl, rfl, _, rfl, ?_⟩
        rw [eKWrite, ne (by decide)]
        refine iteF ⟨_, rfl, rfl, _, rfl, ?_⟩
        rw [eKOnce, ne (by decide)]
        refine iteF ⟨_, rfl, rfl, _, rfl, ?_⟩
        rw [eKAdd, ne (by decide)]
        exact iteF (fail rfl)
      | n :: t, h2, wp, out, fail =>
        have h2' : H2 p2 = some (.lst (V.str (S n) :: txs t)) := h2
        rw [decide_eq_true (by show (((txs (n :: t)).length : Nat) : Int) > 0; rw [txs_len, List.length_cons]; omega)]
        refine iteT ⟨_, rfl, _, rfl, p2, _, 0, .str (S n), rfl, rfl, SqL.of h2', atI_pos (by decide) rfl, _, rfl, 1, rfl, p2, _, rfl, SqL.of h2', fun p3 hp3 => ?_⟩
        rw [cutV_1]
        have s3 : Same H2 (upd H2 p3 (.lst (txs t))) := same_new hp3
        have o3 : ReadOut C B Wc l v H Q E (cDrop :: n :: t) (whatDrop l v n t) := out
        have hn20 := (wp n (List.mem_cons_self ..)).1
        have hwl := hw.1
        rw [List.length_cons, List.length_cons] at hwl
        exact ⟨p, p3, l, v, n, t, rfl, al2.same s3, hL, hv, by omega, ⟨by omega, fun x hx => wp x (List.mem_cons_of_mem _ hx)⟩, upd_same, o3.same (s2.trans s3)⟩
    rw [ne v1]
    refine iteF ⟨_, rfl, rfl, _, rfl, ?_⟩
    rw [eKWrite]
    by_cases v2 : verb = kWrite
    · subst v2
      rw [eq]
      refine iteT ⟨_, rfl, p2, _, rfl, .inl (SqL.of h2), rfl, _, rfl, ?_⟩
      have wW := whatW_w l v parts
      by_cases h3 : parts.length = 3
      · obtain ⟨s, f, n, rfl⟩ : ∃ s f n, parts = [s, f, n] := by
          match parts, h3 with
          | [s, f, n], _ => exact ⟨s, f, n, rfl⟩
        rw [decide_eq_true (show V.int (((txs [s, f, n]).length : Nat) : Int) = V.int 3 from rfl)]
        have h2' : H2 p2 = some (.lst [V.str (S s), V.str (S f), V.str (S n)]) := h2
        refine iteT ⟨_, rfl, p2, _, 1, .str (S f), rfl, rfl, SqL.of h2', rfl, rfl, _, rfl, ?_⟩
        rw [eWFor]
        by_cases hf : f = wFor
        · subst hf
          rw [eq]
          rw [wW] at out
          have out : ReadOut C B Wc l v H Q E [kWrite, s, wFor, n] (if wFor = wFor then dWrite l v s n else some cText) := out
          rw [if_pos rfl] at out
          refine iteT ⟨_, rfl, _, rfl, p2, _, 0, .str (S s), rfl, rfl, SqL.of h2', rfl, _, rfl, p2, _, 2, .str (S n), rfl, rfl, SqL.of h2', rfl, ?_⟩
          intro w0 dw0 nw0 ndw0 nex0
          have hs20 := (wp s (by simp)).1
          have hn20 := (wp n (by simp)).1
          refine ⟨w0, dw0, p, l, v, s, n, rfl, upd_same, al2.same (same_mk nw0 ndw0), hL, hv, hs20, by omega, fun en d' H' k1 hd => ?_, fun eg en d' H' k1 hd => ?_, fun m c ec eg em q H' k1 hw0 alq => ⟨rfl, ?_⟩⟩
          · exact out.2 cSign (by unfold dWrite; rw [if_neg (fls en)]) d' H' (mk nw0 ndw0 k1) hd
          · exact out.2 cSet (by unfold dWrite dSet; rw [if_pos eg, if_neg (none_isSome en)]) d' H' (mk nw0 ndw0 k1) hd
          · exact out.1 (by unfold dWrite dSet; rw [if_pos eg, if_pos (some_isSome em)]) ⟨.w, q, c, n, m, 0, false⟩ w0 dw0 H' (mk nw0 ndw0 k1) hw0 (by rw [ec]; rfl) (by show n.length ≤ 60; omega) (Nat.zero_le 3) alq
        · rw [ne hf]
          refine iteF ⟨_, rfl, rfl, _, rfl, ?_⟩
          rw [eKOnce, ne (by decide)]
          refine iteF ⟨_, rfl, rfl, _, rfl, ?_⟩
          rw [eKAdd, ne (by decide)]
          refine iteF (fail ?_)
          rw [wW]
          exact if_neg hf
      · rw [decide_eq_false (show ¬ V.int (((txs parts).length : Nat) : Int) = V.int 3 from fun z => h3 (by rw [txs_len] at z; injection z with z; omega))]
        refine iteF ⟨_, rfl, rfl, _, rfl, ?_⟩
        rw [eKOnce, ne (by decide)]
        refine iteF ⟨_, rfl, rfl, _, rfl, ?_⟩
        rw [eKAdd, ne (by decide)]
        refine iteF (fail ?_)
        rw [wW, wWrite_no l v parts h3]
    rw [ne v2]
    refine iteF ⟨_, rfl, rfl, _, rfl, ?_⟩
    rw [eKOnce]
    by_cases v3 : verb = kOnce
    · subst v3
      rw [eq]
      refine iteT ⟨_, rfl, p2, _, rfl, .inl (SqL.of h2), rfl, _, rfl, ?_⟩
      have wW := whatW_o l v parts
      by_cases h3 : parts.length = 1
      · obtain ⟨n, rfl⟩ := List.length_eq_one_iff.mp h3
        rw [decide_eq_true (show V.int (((txs [n]).length : Nat) : Int) = V.int 1 from rfl)]
        have h2' : H2 p2 = some (.lst [V.str (S n)]) := h2
        rw [wW] at out
        have out : ReadOut C B Wc l v H Q E [kOnce, n] (dSet l v n) := out
        refine iteT ⟨_, rfl, _, rfl, p2, _, 0, .str (S n), rfl, rfl, SqL.of h2', rfl, ?_⟩
        intro w0 dw0 nw0 ndw0 nex0
        have hn20 := (wp n (by simp)).1
        refine ⟨w0, dw0, p, l, v, n, rfl, upd_same, al2.same (same_mk nw0 ndw0), hL, hv, by omega, fun en d' H' k1 hd => ?_, fun m em q H' k1 hw0 alq => ⟨rfl, ?_⟩⟩
        · exact out.2 cSet (by unfold dSet; rw [if_neg (none_isSome en)]) d' H' (mk nw0 ndw0 k1) hd
        · exact out.1 (by unfold dSet; rw [if_pos (some_isSome em)]) ⟨.o, q, 45, n, m, 0, false⟩ w0 dw0 H' (mk nw0 ndw0 k1) hw0 rfl (by show n.length ≤ 60; omega) (Nat.zero_le 3) alq
      · rw [decide_eq_false (show ¬ V.int (((txs parts).length : Nat) : Int) = V.int 1 from fun z => h3 (by rw [txs_len] at z; injection z with z; omega))]
        refine iteF ⟨_, rfl, rfl, _, rfl, ?_⟩
        rw [eKAdd, ne (by decide)]
        refine iteF (fail ?_)
        rw [wW, wOnce_no l v parts h3]
    rw [ne v3]
    refine iteF ⟨_, rfl, rfl, _, rfl, ?_⟩
    rw [eKAdd]
    by_cases v4 : verb = kAdd
    · subst v4
      rw [eq]
      refine iteT ⟨_, rfl, p2, _, rfl, .inl (SqL.of h2), rfl, _, rfl, ?_⟩
      have wW := whatW_a l v parts
      by_cases h3 : parts.length = 1
      · obtain ⟨s, rfl⟩ := List.length_eq_one_iff.mp h3
        rw [decide_eq_true (show V.int (((txs [s]).length : Nat) : Int) = V.int 1 from rfl)]
        have h2' : H2 p2 = some (.lst [V.str (S s)]) := h2
        rw [wW] at out
        have out : ReadOut C B Wc l v H Q E [kAdd, s] (dSign l s) := out
        refine iteT ⟨_, rfl, _, rfl, p2, _, 0, .str (S s), rfl, rfl, SqL.of h2', rfl, ?_⟩
        intro w0 dw0 nw0 ndw0 nex0
        have hs20 := (wp s (by simp)).1
        refine ⟨w0, dw0, p, l, v, s, rfl, upd_same, al2.same (same_mk nw0 ndw0), hL, hv, hs20, fun en d' H' k1 hd => ?_, fun c ec eg q H' k1 hw0 alq => ⟨rfl, ?_⟩⟩
        · exact out.2 cSign (by unfold dSign; rw [if_neg (fls en)]) d' H' (mk nw0 ndw0 k1) hd
        · exact out.1 (by unfold dSign; rw [if_pos eg]) ⟨.a, q, c, [], [], 0, false⟩ w0 dw0 H' (mk nw0 ndw0 k1) hw0 (by rw [ec]; rfl) (Nat.zero_le 60) (Nat.zero_le 3) alq
      · rw [decide_eq_false (show ¬ V.int (((txs parts).length : Nat) : Int) = V.int 1 from fun z => h3 (by rw [txs_len] at z; injection z with z; omega))]
        refine iteF (fail ?_)
        rw [wW, wAdd_no l parts h3]
    rw [ne v4]
    exact iteF (fail (whatW_else l v verb parts v1 v2 v3 v4))
end
end Cl.K54
set_option Elab.async false
set_option linter.all false
set_option maxRecDepth 100000
set_option maxHeartbeats 4000000
namespace Cl
open PySem PySem.Spec L2 PyProof.Rows
theorem cutV_to {α : Type} (xs : List V) (k : Nat) : cutV xs none (some (k : Int)) = xs.take k := by
  unfold cutV
  rw [HT.sIx_none, HT.sIx_nat, List.drop_zero, Nat.sub_zero]
  by_cases h : k ≤ xs.length
  · rw [Nat.min_eq_left h]
  · rw [Nat.min_eq_right (by omega), List.take_of_length_le (Nat.le_refl _), List.take_of_length_le (by omega)]
theorem cutV_from (xs : List V) (k : Nat) : cutV xs (some (k : Int)) none = xs.drop k := by
  unfold cutV
  rw [HT.sIx_none, HT.sIx_nat]
  by_cases h : k ≤ xs.length
  · rw [Nat.min_eq_left h, List.take_of_length_le (by rw [List.length_drop]; omega)]
  · rw [Nat.min_eq_right (by omega), List.drop_of_length_le (Nat.le_refl _), List.drop_of_length_le (by omega), List.take_nil]
theorem cutT_to (ws : List (List Nat)) (k : Nat) : cutV (txs ws) none (some (k : Int)) = txs (ws.take k) := by
  rw [cutV_to (α := Nat)]
  unfold txs
  rw [List.map_take]
theorem cutT_from (ws : List (List Nat)) (k : Nat) : cutV (txs ws) (some (k : Int)) none = txs (ws.drop k) := by
  rw [cutV_from]
  unfold txs
  rw [List.map_drop]
def okN (w : List Nat) : Bool := decide (w = [49]) || (decide (w = [50]) || decide (w = [51]))
theorem okN_af (w : List Nat) : okAf (afOf w) = okN w := by
  unfold afOf okN
  by_cases h1 : w = [49]
  · rw [if_pos h1, decide_eq_true h1]
    rfl
  · rw [if_neg h1, decide_eq_false h1]
    by_cases h2 : w = [50]
    · rw [if_pos h2, decide_eq_true h2]
      rfl
    · rw [if_neg h2, decide_eq_false h2]
      by_cases h3 : w = [51]
      · rw [if_pos h3, decide_eq_true h3]
        rfl
      · rw [if_neg h3, decide_eq_false h3]
        rfl
theorem okN_in (w : List Nat) : inV (.str (S w)) [.str ("1" : Str), .str ("2" : Str), .str ("3" : Str)] = okN w := by
  have e1 : ("1" : Str) = S [49] := by decide +kernel
  have e2 : ("2" : Str) = S [50] := by decide +kernel
  have e3 : ("3" : Str) = S [51] := by decide +kernel
  rw [e1, e2, e3]
  have e : ∀ a : List Nat, eqV (.str (S a)) (.str (S w)) = decide (w = a) := fun a => by
    show decide (S a = S w) = decide (w = a)
    exact decide_eq_decide.mpr ⟨fun h => (S_inj h).symm, fun h => by rw [h]⟩
  unfold inV okN
  rw [List.any_cons, List.any_cons, List.any_cons, List.any_nil, e, e, e, Bool.or_false]
theorem isSg_in {l t : List Nat} : inV (.str (S t)) ((45 :: l).map sg) = isSg l t := by
  have e : ∀ a : List Nat, eqV (.str (S a)) (.str (S t)) = decide (a = t) := fun a => by
    show decide (S a = S t) = decide (a = t)
    exact decide_eq_decide.mpr ⟨fun h => S_inj h, fun h => by rw [h]⟩
  unfold inV
  rw [List.any_map]
  have e2 : (fun c => eqV (.str (S [c])) (.str (S t))) = fun c => decide ([c] = t) := funext fun c => e [c]
  show (45 :: l).any (fun c => eqV (.str (S [c])) (.str (S t))) = _
  rw [e2]
  unfold isSg
  split
  · next c =>
    rw [Bool.eq_iff_iff, List.any_eq_true, decide_eq_true_iff]
    exact ⟨fun ⟨x, hx, h⟩ => by have := of_decide_eq_true h; simp at this; rw [← this]; exact hx, fun h => ⟨c, h, decide_eq_true rfl⟩⟩
  · next h =>
    rw [Bool.eq_false_iff]
    intro z
    obtain ⟨x, _, hx⟩ := List.any_eq_true.mp z
    exact h x (of_decide_eq_true hx).symm
theorem flat_sg (l : List Nat) : (l.map sg).all flatV = true := by
  rw [List.all_eq_true]
  intro x hx
  obtain ⟨c, _, rfl⟩ := List.mem_map.mp hx
  rfl
theorem ch_sub {a b : List (List Nat)} (h : ∀ w ∈ a, ∀ c ∈ w, c < 1000) (s : ∀ w ∈ b, w ∈ a) : ∀ w ∈ b, ∀ c ∈ w, c < 1000 := fun w hw => h w (s w hw)
def spDropWhat : Sp := fun vs H Q _ => ∃ (pw : Addr) (l v verb n : List Nat) (parts : List (List Nat)), vs = [.str (S l), .ref pw] ∧ l.length ≤ 8 ∧ Words (verb :: n :: parts) ∧ H pw = some (.lst (txs (verb :: n :: parts))) ∧ ∀ H', Same H H' → Q (oV (whatDrop l v n parts)) H'
def spWhat : Sp := fun vs H Q _ => ∃ (l v : List Nat) (ws : List (List Nat)), vs = [.str (S l), .str (S (TL.joinL [32] ws))] ∧ l.length ≤ 8 ∧ ws ≠ [] ∧ Words ws ∧ (∀ w ∈ ws, 32 ∉ w) ∧ ∀ H', Same H H' → Q (oV (whatW l v ws)) H'
end Cl
namespace Cl.K54
open PySem PySem.Spec L2 PyProof.Rows
abbrev sDropWhat : Stmt := top 48
abbrev sWhat : Stmt := top 49
theorem scDropWhat : FnScope ["_law_letters_here", "_law_words", "_law_rest", "_law_number"] ["_law_letters_here", "_law_words"] (defScope sDropWhat) := ⟨rfl, rfl, rfl, by decide +kernel, rfl, by decide +kernel, by decide +kernel⟩
theorem scWhat : FnScope ["_law_letters_here", "_law_text", "_law_words", "_law_signs"] ["_law_letters_here", "_law_text"] (defScope sWhat) := ⟨rfl, rfl, rfl, by decide +kernel, rfl, by decide +kernel, by decide +kernel⟩
section
variable {P : Program} {w : World} {K : PySem.W.Frag} {mg : Str → Option Value} {base : Heap}
theorem ok_dropwhat {f fS : Addr} {fd fdS : FuncData} (F : Fun K "_law_drop_what" "_law_drop_what" sDropWhat f fd) (GS : LawG P w K mg base 1 "_law_is_set" ["_law_letters_here", "_law_name_here"] spIsSet fS fdS) (hn : mg "len" = none) :
    FnOk P w K mg base CX0 2 f fd ["_law_letters_here", "_law_words"] spDropWhat := by
  refine F.ok scDropWhat (fun vs H Q E h => ?_) (fun cdv A outer s H vs Q E hr h => ?_)
  · obtain ⟨pw, l, v, verb, n, parts, rfl, _⟩ := h
    rfl
  · obtain ⟨pw, l, v, verb, n, parts, rfl, l8, hw, hpw, k⟩ := h
    have hr1 : Room 1 _ := hr
    refine ⟨_, pss_cons (ps_set (i := 2) scDropWhat.nd rfl (.inl rfl) (pe_slice sl_list (pv 1) (po_some pe_int) po_none))
      (pss_cons (ps_set (i := 3) scDropWhat.nd rfl (.inl rfl) pe_str)
      (C8.pss_cut (ps_if (PW.pt (pw_and (pt_cmpR (op_eqD hr.units) (pe_slice sl_list (pv 2) po_none (po_some pe_int)) (pe_lst (pa_cons pe_str pa_nil)) (nomark _)) (pw_and1 (pt_cmpR op_gt (pe_callB call_len_seq (by rfl) hn PySem.boot_len (pa_cons (pv 2) pa_nil)) pe_int (nomark _)))))
        (pss_cons (ps_set (i := 3) scDropWhat.nd rfl (.inl rfl) (pe_ix ix_list (pv 2) pe_int (fun _ _ => rfl))) (pss_one (ps_set (i := 2) scDropWhat.nd rfl (.inl rfl) (pe_slice sl_list (pv 2) (po_some pe_int) po_none)))) pss_nil)
      (C8.pss_cut (ps_if (pt_cmpR (op_eqD hr.units) (pe_slice sl_list (pv 2) po_none (po_some pe_int)) (pe_lst (pa_cons pe_str pa_nil)) (nomark _)) (pss_one (ps_set (i := 2) scDropWhat.nd rfl (.inl rfl) (pe_slice sl_list (pv 2) (po_some pe_int) po_none))) pss_nil)
      (pss_cons (ps_if (PW.pt (pw_and (pt_cmpR (op_neD hr.units) (pv 2) (pe_lst pa_nil) (nomark _)) (pw_and1 (pt_cmpR (op_neD hr.units) (pv 2) (pe_lst (pa_cons pe_str (pa_cons pe_str pa_nil))) (nomark _))))) (pss_one (ps_ret pe_str)) pss_nil)
      (pss_cons (ps_if (pt_not (pt_val (pe_call GS.ok hr1 rfl GS.gl GS.kp GS.bd .nil pass0 (pa_cons (pv 0) (pa_cons (pe_ix ix_list (pv 1) pe_int (fun _ _ => rfl)) pa_nil))))) (pss_one (ps_ret pe_str)) pss_nil)
      (pss_one (ps_ret (pe_ifExp (pt_cmpR op_in_seq (pv 3) (pe_lst (pa_cons pe_str (pa_cons pe_str (pa_cons pe_str pa_nil)))) rfl) pe_non pe_str)))))))), ?_⟩
    have hn20 := (hw.2 n (by simp)).1
    have chp : ∀ x ∈ parts, ∀ c ∈ x, c < 1000 := fun x hx => (hw.2 x (by simp [hx])).2
    refine ⟨_, rfl, 2, rfl, pw, _, rfl, SqL.of hpw, fun r0 hr0 => ?_⟩
    rw [show (2 : Int) = ((2 : Nat) : Int) from rfl, cutT_from]
    have s1 : Same H (upd H r0 (.lst (txs parts))) := same_new hr0
    have h1 : (upd H r0 (.lst (txs parts))) r0 = some (.lst (txs parts)) := upd_same
    show _
    rw [show (verb :: n :: parts).drop 2 = parts from rfl]
    generalize upd H r0 (.lst (txs parts)) = H1 at s1 h1
    have one : ("1" : Str) = S [49] := by decide +kernel
    rw [one]
    refine ⟨fun σ' H' => ∃ (r' : Addr) (nw : List Nat), σ' = [some (.str (S l)), some (.ref pw), some (.ref r'), some (.str (S nw))] ∧ H' r' = some (.lst (txs (step1 parts).2)) ∧ okN nw = okAf (step1 parts).1 ∧ Same H H', ?_, ?_⟩
    · refine ⟨_, rfl, 1, rfl, r0, _, rfl, SqL.of h1, fun r1 hr1' => ?_⟩
      rw [show (1 : Int) = ((1 : Nat) : Int) from rfl, cutT_to]
      have s2 : Same H (upd H1 r1 (.lst (txs (parts.take 1)))) := s1.trans (same_new hr1')
      have h2 : (upd H1 r1 (.lst (txs (parts.take 1)))) r1 = some (.lst (txs (parts.take 1))) := upd_same
      have h1' : (upd H1 r1 (.lst (txs (parts.take 1)))) r0 = some (.lst (txs parts)) := by rw [upd_ne (ne_of_none h1 hr1')]; exact h1
      generalize upd H1 r1 (.lst (txs (parts.take 1))) = H2 at s2 h2 h1'
      refine ⟨(by show 1 ≤ sizeLine; decide), fun r2 hr2 => ?_⟩
      rw [eWAfter, show [V.str (S wAfter)] = txs [wAfter] from rfl]
      have h2' : (upd H2 r2 (.lst (txs [wAfter]))) r1 = some (.lst (txs (parts.take 1))) := by rw [upd_ne (ne_of_none h2 hr2)]; exact h2
      have h1'' : (upd H2 r2 (.lst (txs [wAfter]))) r0 = some (.lst (txs parts)) := by rw [upd_ne (ne_of_none h1' hr2)]; exact h1'
      refine ⟨.list (dW (parts.take 1)), .list (dW [wAfter]), .lst (SqL.of h2') (dW_all _), .lst (SqL.of upd_same) (dW_all _), dW_shaped (ch_sub chp fun x hx => List.mem_of_mem_take hx), dW_shaped (by decide), _, rfl, ?_⟩
      rw [dW_eqv]
      have s3 : Same H (upd H2 r2 (.lst (txs [wAfter]))) := s2.trans (same_new hr2)
      generalize upd H2 r2 (.lst (txs [wAfter])) = H3 at s3 h1''
      match parts, h1'', chp with
      | [], h1'', _ => exact iteF ⟨r0, [49], rfl, h1'', (by show okN [49] = okAf 0; decide), s3⟩
      | [x], h1'', _ =>
        by_cases hx : x = wAfter
        · rw [decide_eq_true (by rw [hx]; rfl)]
          refine iteT ⟨_, rfl, r0, _, rfl, .inl (SqL.of h1''), _, _, rfl, rfl, _, rfl, ?_⟩
          exact iteF ⟨r0, [49], rfl, h1'', (by show okN [49] = okAf 0; decide), s3⟩
        · rw [decide_eq_false (fun z => hx (by simpa using z))]
          exact iteF ⟨r0, [49], rfl, h1'', (by show okN [49] = okAf 0; decide), s3⟩
      | x :: y :: t, h1'', _ =>
        have h1x : H3 r0 = some (.lst (V.str (S x) :: V.str (S y) :: txs t)) := h1''
        by_cases hx : x = wAfter
        · have e : step1 (x :: y :: t) = (afOf y, t) := if_pos hx
          rw [decide_eq_true (by rw [hx]; rfl), e]
          refine iteT ⟨_, rfl, r0, _, rfl, .inl (SqL.of h1''), _, _, rfl, rfl, _, rfl, ?_⟩
          rw [decide_eq_true (by show (((txs (x :: y :: t)).length : Nat) : Int) > 1; rw [txs_len, List.length_cons, List.length_cons]; omega)]
          refine iteT ⟨_, rfl, r0, _, 1, .str (S y), rfl, rfl, SqL.of h1x, atI_pos (by decide) rfl, ?_⟩
          refine ⟨_, rfl, 2, rfl, r0, _, rfl, SqL.of h1'', fun r3 hr3 => ?_⟩
          rw [show (2 : Int) = ((2 : Nat) : Int) from rfl, cutT_from]
          exact ⟨r3, y, rfl, upd_same, (okN_af y).symm, s3.trans (same_new hr3)⟩
        · have e : step1 (x :: y :: t) = (0, x :: y :: t) := if_neg hx
          rw [decide_eq_false (fun z => hx (by simpa using z)), e]
          exact iteF ⟨r0, [49], rfl, h1'', (by show okN [49] = okAf 0; decide), s3⟩
    have hsub1 : ∀ w ∈ (step1 parts).2, w ∈ parts := step1_sub
    unfold whatDrop at k
    generalize (step1 parts).1 = af at k ⊢
    generalize (step1 parts).2 = r1 at hsub1 k ⊢
    rintro σ' H3 ⟨ra, nw, rfl, hra, hnw, s3⟩
    have ch1 := ch_sub chp hsub1
    refine ⟨fun σ' H' => ∃ r' : Addr, σ' = [some (.str (S l)), some (.ref pw), some (.ref r'), some (.str (S nw))] ∧ H' r' = some (.lst (txs (step2 r1).2)) ∧ Same H H', ?_, ?_⟩
    · refine ⟨_, rfl, 1, rfl, ra, _, rfl, SqL.of hra, fun rb hrb => ?_⟩
      rw [show (1 : Int) = ((1 : Nat) : Int) from rfl, cutT_to]
      have s2 : Same H (upd H3 rb (.lst (txs (r1.take 1)))) := s3.trans (same_new hrb)
      have h2 : (upd H3 rb (.lst (txs (r1.take 1)))) rb = some (.lst (txs (r1.take 1))) := upd_same
      have h1' : (upd H3 rb (.lst (txs (r1.take 1)))) ra = some (.lst (txs r1)) := by rw [upd_ne (ne_of_none hra hrb)]; exact hra
      generalize upd H3 rb (.lst (txs (r1.take 1))) = H2 at s2 h2 h1'
      refine ⟨(by show 1 ≤ sizeLine; decide), fun r2 hr2 => ?_⟩
      rw [eWEach, show [V.str (S wEach)] = txs [wEach] from rfl]
      have h2' : (upd H2 r2 (.lst (txs [wEach]))) rb = some (.lst (txs (r1.take 1))) := by rw [upd_ne (ne_of_none h2 hr2)]; exact h2
      have h1'' : (upd H2 r2 (.lst (txs [wEach]))) ra = some (.lst (txs r1)) := by rw [upd_ne (ne_of_none h1' hr2)]; exact h1'
      refine ⟨.list (dW (r1.take 1)), .list (dW [wEach]), .lst (SqL.of h2') (dW_all _), .lst (SqL.of upd_same) (dW_all _), dW_shaped (ch_sub ch1 fun x hx => List.mem_of_mem_take hx), dW_shaped (by decide), _, rfl, ?_⟩
      rw [dW_eqv]
      have s5 : Same H (upd H2 r2 (.lst (txs [wEach]))) := s2.trans (same_new hr2)
      generalize upd H2 r2 (.lst (txs [wEach])) = H5 at s5 h1''
      match r1, h1'' with
      | [], h1'' => exact iteF ⟨ra, rfl, h1'', s5⟩
      | x :: t, h1'' =>
        by_cases hx : x = wEach
        · have e : step2 (x :: t) = (true, t) := if_pos hx
          rw [decide_eq_true (by rw [hx]; rfl), e]
          refine iteT ⟨_, rfl, 1, rfl, ra, _, rfl, SqL.of h1'', fun r3 hr3 => ?_⟩
          rw [show (1 : Int) = ((1 : Nat) : Int) from rfl, cutT_from]
          exact ⟨r3, rfl, upd_same, s5.trans (same_new hr3)⟩
        · have e : step2 (x :: t) = (false, x :: t) := if_neg hx
          rw [decide_eq_false (fun z => hx (by simpa using z)), e]
          exact iteF ⟨ra, rfl, h1'', s5⟩
    have hsub2 : ∀ w ∈ (step2 r1).2, w ∈ r1 := step2_sub
    generalize (step2 r1).2 = r2 at hsub2 k ⊢
    rintro σ' H4 ⟨rc, rfl, hrc, s4⟩
    have ch2 := ch_sub ch1 hsub2
    have sh2 := dW_shaped ch2
    refine ⟨_, rfl, (by show 0 ≤ sizeLine; decide), fun rd hrd => ?_⟩
    have hrc' : (upd H4 rd (.lst [])) rc = some (.lst (txs r2)) := by rw [upd_ne (ne_of_none hrc hrd)]; exact hrc
    refine ⟨.list (dW r2), .list (dW []), .lst (SqL.of hrc') (dW_all _), .lst (SqL.of upd_same) .nil, sh2, dW_shaped (fun w h => by cases h), _, rfl, ?_⟩
    rw [dW_eqv]
    have s5 : Same H (upd H4 rd (.lst [])) := s4.trans (same_new hrd)
    generalize upd H4 rd (.lst []) = H5 at s5 hrc'
    -- the rest, once the words are well formed
    have fin : ∀ H6, Same H H6 → (r2 = [] ∨ r2 = [wBut, wLast]) → ∀ Qz : VK, (∀ H', Same H H' → Qz (oV (dDrop l v n af)) H') → True := fun _ _ _ _ _ => trivial
    by_cases q1 : r2 = []
    · rw [decide_eq_true q1]
      rw [if_pos (.inl q1)] at k
      refine iteF ⟨_, rfl, _, rfl, pw, _, 1, .str (S n), rfl, rfl, SqL.of (s5 _ _ hpw), atI_pos (by decide) rfl, l, v, n, rfl, l8, by omega, fun H6 s6 => ⟨_, rfl, ?_⟩⟩
      unfold dDrop at k
      by_cases hs : (setOf l v n).isSome = true
      · rw [hs]
        rw [if_pos hs] at k
        refine iteF ⟨_, rfl, (by show 3 ≤ sizeLine; decide), fun re hre => ⟨re, _, rfl, .inl (SqL.of upd_same), rfl, rfl, _, rfl, ?_⟩⟩
        show (if inV (.str (S nw)) [.str ("1" : Str), .str ("2" : Str), .str ("3" : Str)] = true then _ else _)
        rw [okN_in, hnw]
        have z := k _ ((s5.trans s6).trans (same_new (o := .lst [V.str ("1" : Str), V.str ("2" : Str), V.str ("3" : Str)]) hre))
        cases eo : okAf af with
        | true =>
          rw [eo, if_pos rfl] at z
          exact iteT z
        | false =>
          rw [eo, if_neg (by decide)] at z
          refine iteF ?_
          rw [eAft]
          exact z
      · rw [if_neg hs] at k
        rw [Bool.not_eq_true] at hs
        rw [hs]
        refine iteT ?_
        rw [eSet]
        exact k _ (s5.trans s6)
    rw [decide_eq_false q1]
    refine iteT ⟨_, rfl, (by show 2 ≤ sizeLine; decide), fun rf hrf => ?_⟩
    have eBL : [V.str ("but" : Str), V.str ("last" : Str)] = txs [wBut, wLast] := by
      rw [eWBut, eWLast]
      rfl
    rw [eBL]
    have hrc2 : (upd H5 rf (.lst (txs [wBut, wLast]))) rc = some (.lst (txs r2)) := by rw [upd_ne (ne_of_none hrc' hrf)]; exact hrc'
    refine ⟨.list (dW r2), .list (dW [wBut, wLast]), .lst (SqL.of hrc2) (dW_all _), .lst (SqL.of upd_same) (dW_all _), sh2, dW_shaped (by decide), _, rfl, ?_⟩
    rw [dW_eqv]
    have s6' : Same H (upd H5 rf (.lst (txs [wBut, wLast]))) := s5.trans (same_new hrf)
    generalize upd H5 rf (.lst (txs [wBut, wLast])) = H6' at s6' hrc2
    by_cases q2 : r2 = [wBut, wLast]
    · rw [decide_eq_true q2]
      rw [if_pos (.inr q2)] at k
      refine iteF ⟨_, rfl, _, rfl, pw, _, 1, .str (S n), rfl, rfl, SqL.of (s6' _ _ hpw), atI_pos (by decide) rfl, l, v, n, rfl, l8, by omega, fun H6 s6 => ⟨_, rfl, ?_⟩⟩
      unfold dDrop at k
      by_cases hs : (setOf l v n).isSome = true
      · rw [hs]
        rw [if_pos hs] at k
        refine iteF ⟨_, rfl, (by show 3 ≤ sizeLine; decide), fun re hre => ⟨re, _, rfl, .inl (SqL.of upd_same), rfl, rfl, _, rfl, ?_⟩⟩
        show (if inV (.str (S nw)) [.str ("1" : Str), .str ("2" : Str), .str ("3" : Str)] = true then _ else _)
        rw [okN_in, hnw]
        have z := k _ ((s6'.trans s6).trans (same_new (o := .lst [V.str ("1" : Str), V.str ("2" : Str), V.str ("3" : Str)]) hre))
        cases eo : okAf af with
        | true =>
          rw [eo, if_pos rfl] at z
          exact iteT z
        | false =>
          rw [eo, if_neg (by decide)] at z
          refine iteF ?_
          rw [eAft]
          exact z
      · rw [if_neg hs] at k
        rw [Bool.not_eq_true] at hs
        rw [hs]
        refine iteT ?_
        rw [eSet]
        exact k _ (s6'.trans s6)
    rw [decide_eq_false q2]
    rw [if_neg (fun z => z.elim q1 q2)] at k
    refine iteT ?_
    rw [eText]
    exact k _ s6'
end
end Cl.K54
set_option Elab.async false
set_option linter.all false
set_option maxRecDepth 100000
set_option maxHeartbeats 4000000
namespace Cl.K54
open PySem PySem.Spec L2 PyProof.Rows
section
variable {P : Program} {w : World} {K : PySem.W.Frag} {mg : Str → Option Value} {base : Heap}
theorem ok_what {f fS fD : Addr} {fd fdS fdD : FuncData} (F : Fun K "_law_what" "_law_what" sWhat f fd) (GS : LawG P w K mg base 1 "_law_is_set" ["_law_letters_here", "_law_name_here"] spIsSet fS fdS)
    (GD : LawG P w K mg base 2 "_law_drop_what" ["_law_letters_here", "_law_words"] spDropWhat fD fdD) (hn : mg "len" = none) (hl : mg "list" = none) :
    FnOk P w K mg base CX0 3 f fd ["_law_letters_here", "_law_text"] spWhat := by
  refine F.ok scWhat (fun vs H Q E h => ?_) (fun cdv A outer s H vs Q E hr h => ?_)
  · obtain ⟨l, v, ws, rfl, _⟩ := h
    rfl
  · obtain ⟨l, v, ws, rfl, l8, w0, hw, hsp, k⟩ := h
    have hr1 : Room 1 _ := hr.mono (by decide)
    have hr2 : Room 2 _ := hr
    refine ⟨_, pss_cons (ps_set (i := 2) scWhat.nd rfl (.inl rfl) (pe_split (pv 1) pe_str))
      (pss_cons (ps_set (i := 3) scWhat.nd rfl (.inl rfl) (pe_callTy (cr_listT rfl) (by rfl) hl (by decide +kernel) (pa_cons (pe_op op_add_str pe_str (pv 0)) pa_nil)))
      (pss_cons (ps_if (PW.pt (pw_and (pt_cmpR op_eq (pe_ix ix_list (pv 2) pe_int (fun _ _ => rfl)) pe_str (nomark _)) (pw_and1 (pt_cmpR op_gt (pe_callB call_len_seq (by rfl) hn PySem.boot_len (pa_cons (pv 2) pa_nil)) pe_int (nomark _)))))
        (pss_one (ps_ret (pe_call GD.ok hr2 rfl GD.gl GD.kp GD.bd .nil pass0 (pa_cons (pv 0) (pa_cons (pv 2) pa_nil))))) pss_nil)
      (pss_cons (ps_if (PW.pt (pw_and (pt_cmpR op_eq (pe_ix ix_list (pv 2) pe_int (fun _ _ => rfl)) pe_str (nomark _)) (pw_and (pt_cmpR op_eq (pe_callB call_len_seq (by rfl) hn PySem.boot_len (pa_cons (pv 2) pa_nil)) pe_int (nomark _)) (pw_and1 (pt_cmpR op_eq (pe_ix ix_list (pv 2) pe_int (fun _ _ => rfl)) pe_str (nomark _))))))
        (pss_cons (ps_if (pt_cmpR op_notIn_seq (pe_ix ix_list (pv 2) pe_int (fun _ _ => rfl)) (pv 3) rfl) (pss_one (ps_ret pe_str)) pss_nil)
        (pss_one (ps_ret (pe_ifExp (pt_val (pe_call GS.ok hr1 rfl GS.gl GS.kp GS.bd .nil pass0 (pa_cons (pv 0) (pa_cons (pe_ix ix_list (pv 2) pe_int (fun _ _ => rfl)) pa_nil)))) pe_non pe_str)))) pss_nil)
      (pss_cons (ps_if (PW.pt (pw_and (pt_cmpR op_eq (pe_ix ix_list (pv 2) pe_int (fun _ _ => rfl)) pe_str (nomark _)) (pw_and1 (pt_cmpR op_eq (pe_callB call_len_seq (by rfl) hn PySem.boot_len (pa_cons (pv 2) pa_nil)) pe_int (nomark _)))))
        (pss_one (ps_ret (pe_ifExp (pt_val (pe_call GS.ok hr1 rfl GS.gl GS.kp GS.bd .nil pass0 (pa_cons (pv 0) (pa_cons (pe_ix ix_list (pv 2) pe_int (fun _ _ => rfl)) pa_nil)))) pe_non pe_str))) pss_nil)
      (pss_cons (ps_if (PW.pt (pw_and (pt_cmpR op_eq (pe_ix ix_list (pv 2) pe_int (fun _ _ => rfl)) pe_str (nomark _)) (pw_and1 (pt_cmpR op_eq (pe_callB call_len_seq (by rfl) hn PySem.boot_len (pa_cons (pv 2) pa_nil)) pe_int (nomark _)))))
        (pss_one (ps_ret (pe_ifExp (pt_cmpR op_in_seq (pe_ix ix_list (pv 2) pe_int (fun _ _ => rfl)) (pv 3) rfl) pe_non pe_str))) pss_nil)
      (pss_one (ps_ret pe_str))))))), ?_⟩
    have tl := words_len hw
    have st := split_words w0 hsp
    refine ⟨_, rfl, ⟨_, rfl⟩, _, _, rfl, rfl, rfl, by rw [S_len, sizeLine_eq]; omega, fun r hr0 => ?_⟩
    rw [eSp, st, strs_map]
    have ne : ∀ {a b : List Nat}, a ≠ b → decide (V.str (S a) = V.str (S b)) = false := fun {a b} h => by
      rw [vs_eq]
      exact decide_eq_false h
    have eq : ∀ a : List Nat, decide (V.str (S a) = V.str (S a)) = true := fun a => decide_eq_true rfl
    have s1 : Same H (upd H r (.lst (txs ws))) := same_new hr0
    have h1 : (upd H r (.lst (txs ws))) r = some (.lst (txs ws)) := upd_same
    generalize upd H r (.lst (txs ws)) = H1 at s1 h1
    refine ⟨_, rfl, _, _, rfl, rfl, dash_len l (by omega), ?_⟩
    rw [dash_app]
    refine ⟨45 :: l, rfl, by rw [List.length_cons, sizeLine_eq]; omega, fun r2 hr2 => ?_⟩
    have s2 : Same H (upd H1 r2 (.lst ((45 :: l).map sg))) := s1.trans (same_new hr2)
    have hs2 : (upd H1 r2 (.lst ((45 :: l).map sg))) r2 = some (.lst ((45 :: l).map sg)) := upd_same
    have h2 : (upd H1 r2 (.lst ((45 :: l).map sg))) r = some (.lst (txs ws)) := by rw [upd_ne (ne_of_none h1 hr2)]; exact h1
    generalize upd H1 r2 (.lst ((45 :: l).map sg)) = H2 at s2 hs2 h2
    match ws, w0, hw, k, h2 with
    | [], w0, _, _, _ => exact absurd rfl w0
    | verb :: parts, _, hw, k, h2 =>
    have h2' : H2 r = some (.lst (V.str (S verb) :: txs parts)) := h2
    have wp : ∀ x ∈ parts, x.length ≤ 60 := fun x hx => (hw.2 x (List.mem_cons_of_mem _ hx)).1
    have fail : whatW l v (verb :: parts) = some cText → ∀ H', Same H2 H' → Q (.str ("text" : Str)) H' := fun e H' s' => by
      have z := k H' (s2.trans s')
      rw [e] at z
      rw [eText]
      exact z
    have len4 : (V.int (((txs (verb :: parts)).length : Nat) : Int) = V.int 4) ↔ parts.length = 3 := by
      rw [txs_len, List.length_cons]
      constructor
      · intro z
        injection z with z
        omega
      · intro z
        rw [z]
        rfl
    have len2 : (V.int (((txs (verb :: parts)).length : Nat) : Int) = V.int 2) ↔ parts.length = 1 := by
      rw [txs_len, List.length_cons]
      constructor
      · intro z
        injection z with z
        omega
      · intro z
        rw [z]
        rfl
    refine ⟨_, rfl, r, _, 0, .str (S verb), rfl, rfl, SqL.of h2', atI_pos (by decide) rfl, rfl, _, rfl, ?_⟩
    rw [eDrop]
    by_cases v1 : verb = cDrop
    · subst v1
      rw [eq]
      refine iteT ⟨_, rfl, r, _, rfl, .inl (SqL.of h2), _, _, rfl, rfl, _, rfl, ?_⟩
      match parts, h2, h2', hw, k, fail with
      | [], h2, h2', hw, k, fail =>
        refine iteF ⟨_, rfl, r, _, 0, .str (S cDrop), rfl, rfl, SqL.of h2', rfl, rfl, _, rfl, ?_⟩
        rw [eKWrite, ne (by decide)]
        refine iteF ⟨_, rfl, r, _, 0, .str (S cDrop), rfl, rfl, SqL.of h2', rfl, rfl, _, rfl, ?_⟩
        rw [eKOnce, ne (by decide)]
        refine iteF ⟨_, rfl, r, _, 0, .str (S cDrop), rfl, rfl, SqL.of h2', rfl, rfl, _, rfl, ?_⟩
        rw [eKAdd, ne (by decide)]
        exact iteF (fail rfl _ (Same.refl _))
      | n :: t, h2, h2', hw, k, fail =>
        rw [decide_eq_true (by show (((txs (cDrop :: n :: t)).length : Nat) : Int) > 1; rw [txs_len, List.length_cons, List.length_cons]; omega)]
        exact iteT ⟨_, rfl, _, rfl, r, l, v, cDrop, n, t, rfl, l8, hw, h2, fun H' s' => k H' (s2.trans s')⟩
    rw [ne v1]
    refine iteF ⟨_, rfl, r, _, 0, .str (S verb), rfl, rfl, SqL.of h2', atI_pos (by decide) rfl, rfl, _, rfl, ?_⟩
    rw [eKWrite]
    by_cases v2 : verb = kWrite
    · subst v2
      rw [eq]
      have wW := whatW_w l v parts
      refine iteT ⟨_, rfl, r, _, rfl, .inl (SqL.of h2), rfl, _, rfl, ?_⟩
      have pass : ¬ (parts.length = 3 ∧ parts[1]? = some wFor) → whatW l v (kWrite :: parts) = some cText := fun no => by
        rw [wW]
        by_cases h3 : parts.length = 3
        · match parts, h3 with
          | [s, f, n], _ =>
            have hf : f ≠ wFor := fun z => no ⟨rfl, by rw [z]; rfl⟩
            exact if_neg hf
        · exact wWrite_no l v parts h3
      by_cases h3 : parts.length = 3
      · rw [decide_eq_true (len4.mpr h3)]
        match parts, h3, h2, h2', wp, k, wW, pass, fail with
        | [s, f, n], _, h2, h2', wp, k, wW, pass, fail =>
          have h2w : H2 r = some (.lst [V.str (S kWrite), V.str (S s), V.str (S f), V.str (S n)]) := h2
          refine iteT ⟨_, rfl, r, _, 2, .str (S f), rfl, rfl, SqL.of h2w, rfl, rfl, _, rfl, ?_⟩
          rw [eWFor]
          by_cases hf : f = wFor
          · subst hf
            rw [eq]
            rw [wW] at k
            have k : ∀ H', Same H H' → Q (oV (if wFor = wFor then dWrite l v s n else some cText)) H' := k
            rw [if_pos rfl] at k
            refine iteT ⟨_, rfl, r, _, 1, .str (S s), rfl, rfl, SqL.of h2w, rfl, _, rfl, r2, _, rfl, .inl (SqL.of hs2), rfl, flat_sg _, _, rfl, ?_⟩
            show (if (!inV (.str (S s)) ((45 :: l).map sg)) = true then _ else _)
            rw [isSg_in]
            unfold dWrite at k
            cases eg : isSg l s with
            | false =>
              rw [eg, if_neg (by decide)] at k
              refine iteT ?_
              rw [eSign]
              exact k _ s2
            | true =>
              rw [eg, if_pos rfl] at k
              refine iteF ⟨_, rfl, _, rfl, r, _, 3, .str (S n), rfl, rfl, SqL.of h2w, rfl, l, v, n, rfl, l8, by have := wp n (by simp); omega, fun H3 s3 => ⟨_, rfl, ?_⟩⟩
              unfold dSet at k
              by_cases hs : (setOf l v n).isSome = true
              · rw [if_pos hs] at k
                rw [hs]
                exact iteT (k _ (s2.trans s3))
              · rw [if_neg hs] at k
                rw [Bool.not_eq_true] at hs
                rw [hs]
                refine iteF ?_
                rw [eSet]
                exact k _ (s2.trans s3)
          · rw [ne hf]
            refine iteF ⟨_, rfl, r, _, 0, .str (S kWrite), rfl, rfl, SqL.of h2', atI_pos (by decide) rfl, rfl, _, rfl, ?_⟩
            rw [eKOnce, ne (by decide)]
            refine iteF ⟨_, rfl, r, _, 0, .str (S kWrite), rfl, rfl, SqL.of h2', atI_pos (by decide) rfl, rfl, _, rfl, ?_⟩
            rw [eKAdd, ne (by decide)]
            exact iteF (fail (pass fun z => hf (Option.some.inj z.2)) _ (Same.refl _))
      · rw [decide_eq_false fun z => h3 (len4.mp z)]
        refine iteF ⟨_, rfl, r, _, 0, .str (S kWrite), rfl, rfl, SqL.of h2', atI_pos (by decide) rfl, rfl, _, rfl, ?_⟩
        rw [eKOnce, ne (by decide)]
        refine iteF ⟨_, rfl, r, _, 0, .str (S kWrite), rfl, rfl, SqL.of h2', atI_pos (by decide) rfl, rfl, _, rfl, ?_⟩
        rw [eKAdd, ne (by decide)]
        exact iteF (fail (pass fun z => h3 z.1) _ (Same.refl _))
    rw [ne v2]
    refine iteF ⟨_, rfl, r, _, 0, .str (S verb), rfl, rfl, SqL.of h2', atI_pos (by decide) rfl, rfl, _, rfl, ?_⟩
    rw [eKOnce]
    by_cases v3 : verb = kOnce
    · subst v3
      rw [eq]
      have wW := whatW_o l v parts
      refine iteT ⟨_, rfl, r, _, rfl, .inl (SqL.of h2), rfl, _, rfl, ?_⟩
      by_cases h3 : parts.length = 1
      · rw [decide_eq_true (len2.mpr h3)]
        obtain ⟨n, rfl⟩ := List.length_eq_one_iff.mp h3
        have h2w : H2 r = some (.lst [V.str (S kOnce), V.str (S n)]) := h2
        rw [wW] at k
        have k : ∀ H', Same H H' → Q (oV (dSet l v n)) H' := k
        refine iteT ⟨_, rfl, _, rfl, r, _, 1, .str (S n), rfl, rfl, SqL.of h2w, rfl, l, v, n, rfl, l8, by have := wp n (by simp); omega, fun H3 s3 => ⟨_, rfl, ?_⟩⟩
        unfold dSet at k
        by_cases hs : (setOf l v n).isSome = true
        · rw [if_pos hs] at k
          rw [hs]
          exact iteT (k _ (s2.trans s3))
        · rw [if_neg hs] at k
          rw [Bool.not_eq_true] at hs
          rw [hs]
          refine iteF ?_
          rw [eSet]
          exact k _ (s2.trans s3)
      · rw [decide_eq_false fun z => h3 (len2.mp z)]
        refine iteF ⟨_, rfl, r, _, 0, .str (S kOnce), rfl, rfl, SqL.of h2', atI_pos (by decide) rfl, rfl, _, rfl, ?_⟩
        rw [eKAdd, ne (by decide)]
        exact iteF (fail (by rw [wW, wOnce_no l v parts h3]) _ (Same.refl _))
    rw [ne v3]
    refine iteF ⟨_, rfl, r, _, 0, .str (S verb), rfl, rfl, SqL.of h2', atI_pos (by decide) rfl, rfl, _, rfl, ?_⟩
    rw [eKAdd]
    by_cases v4 : verb = kAdd
    · subst v4
      rw [eq]
      have wW := whatW_a l v parts
      refine iteT ⟨_, rfl, r, _, rfl, .inl (SqL.of h2), rfl, _, rfl, ?_⟩
      by_cases h3 : parts.length = 1
      · rw [decide_eq_true (len2.mpr h3)]
        obtain ⟨s, rfl⟩ := List.length_eq_one_iff.mp h3
        have h2w : H2 r = some (.lst [V.str (S kAdd), V.str (S s)]) := h2
        rw [wW] at k
        have k : ∀ H', Same H H' → Q (oV (dSign l s)) H' := k
        refine iteT ⟨_, rfl, r, _, 1, .str (S s), rfl, rfl, SqL.of h2w, rfl, _, rfl, r2, _, rfl, .inl (SqL.of hs2), rfl, flat_sg _, _, rfl, ?_⟩
        show (if inV (.str (S s)) ((45 :: l).map sg) = true then _ else _)
        rw [isSg_in]
        unfold dSign at k
        cases eg : isSg l s with
        | true =>
          rw [eg, if_pos rfl] at k
          exact iteT (k _ s2)
        | false =>
          rw [eg, if_neg (by decide)] at k
          refine iteF ?_
          rw [eSign]
          exact k _ s2
      · rw [decide_eq_false fun z => h3 (len2.mp z)]
        exact iteF (fail (by rw [wW, wAdd_no l parts h3]) _ (Same.refl _))
    rw [ne v4]
    exact iteF (fail (whatW_else l v verb parts v1 v2 v3 v4) _ (Same.refl _))
end
end Cl.K54
set_option Elab.async false
set_option linter.all false
set_option maxRecDepth 100000
set_option maxHeartbeats 8000000
namespace Cl
open PySem PySem.Spec L2 PyProof.Rows
/-- a word of the texts -/
def gw (y : List Nat) : Bool := decide (y.length ≤ 20) && y.all fun c => decide (c < 1000) && decide (c ≠ 32)
theorem gw_ok {y : List Nat} (h : gw y = true) : y.length ≤ 20 ∧ (∀ c ∈ y, c < 1000) ∧ 32 ∉ y := by
  unfold gw at h
  rw [Bool.and_eq_true, decide_eq_true_iff, List.all_eq_true] at h
  refine ⟨h.1, fun c hc => ?_, fun z => ?_⟩
  · have := h.2 c hc
    rw [Bool.and_eq_true, decide_eq_true_iff, decide_eq_true_iff] at this
    exact this.1
  · have := h.2 32 z
    rw [Bool.and_eq_true, decide_eq_true_iff, decide_eq_true_iff] at this
    exact this.2 rfl
theorem gw_of {y : List Nat} (h1 : y.length ≤ 20) (h2 : ∀ c ∈ y, c < 1000) (h3 : 32 ∉ y) : gw y = true := by
  unfold gw
  rw [Bool.and_eq_true, decide_eq_true_iff, List.all_eq_true]
  refine ⟨h1, fun c hc => ?_⟩
  rw [Bool.and_eq_true, decide_eq_true_iff, decide_eq_true_iff]
  exact ⟨h2 c hc, fun z => h3 (by rw [← z]; exact hc)⟩
def Goods (xs : List V) : Prop := ∀ x ∈ xs, ∃ y : List Nat, x = .str (S y) ∧ gw y = true
theorem gd_cons {z : Str} {xs : List V} (h : gw z.cps.toList = true) (r : Goods xs) : Goods (.str z :: xs) := fun x hx => by
  rcases List.mem_cons.mp hx with e | hx
  · exact ⟨z.cps.toList, by rw [e, S_of], h⟩
  · exact r x hx
theorem gd_nil : Goods [] := fun x hx => by cases hx
theorem gd_app {xs ys : List V} (h : Goods xs) (r : Goods ys) : Goods (xs ++ ys) := fun x hx => (List.mem_append.mp hx).elim (h x) (r x)
theorem gd_at {xs : List V} (h : Goods xs) {i : Int} (h0 : 0 ≤ i) (h1 : i < xs.length) : ∃ y : List Nat, atI xs i = some (.str (S y)) ∧ gw y = true := by
  obtain ⟨y, e, hy⟩ := h (xs[i.toNat]'(by omega)) (List.getElem_mem _)
  exact ⟨y, by rw [← e]; exact atI_pos h0 (List.getElem?_eq_getElem _), hy⟩
/-- words of which at most k -/
def Wd (k : Nat) (ws : List (List Nat)) : Prop := ws ≠ [] ∧ ws.length ≤ k ∧ ∀ w ∈ ws, gw w = true
theorem Wd.words {k : Nat} {ws : List (List Nat)} (h : Wd k ws) (hk : k ≤ 20) : Words ws := ⟨Nat.le_trans (Nat.le_trans h.2.1 hk) (by decide), fun w hw => let z := gw_ok (h.2.2 w hw); ⟨Nat.le_trans z.1 (by decide), z.2.1⟩⟩
theorem Wd.nosp {k : Nat} {ws : List (List Nat)} (h : Wd k ws) : ∀ w ∈ ws, 32 ∉ w := fun w hw => (gw_ok (h.2.2 w hw)).2.2
theorem Wd.mono {k m : Nat} {ws : List (List Nat)} (h : Wd k ws) (l : k ≤ m) : Wd m ws := ⟨h.1, Nat.le_trans h.2.1 l, h.2.2⟩
theorem wd0 {k : Nat} {ws : List (List Nat)} {x : List Nat} (h : Wd k ws) (hx : gw x = true) (i : Nat) : Wd (k + 1) ((ws.take i ++ [x]) ++ ws.drop (i + 1)) := by
  refine ⟨by simp, ?_, fun w hw => ?_⟩
  · have := h.2.1
    rw [List.length_append, List.length_append, List.length_take, List.length_drop]
    show min i ws.length + 1 + (ws.length - (i + 1)) ≤ k + 1
    omega
  · rcases List.mem_append.mp hw with q | q
    · rcases List.mem_append.mp q with q | q
      · exact h.2.2 w (List.mem_of_mem_take q)
      · rw [List.mem_singleton.mp q]
        exact hx
    · exact h.2.2 w (List.mem_of_mem_drop q)
theorem wd1 {k : Nat} {ws : List (List Nat)} {x : List Nat} (h : Wd k ws) (hx : gw x = true) (i : Nat) : Wd (k + 1) ((ws.take i ++ [x]) ++ ws.drop i) := by
  refine ⟨by simp, ?_, fun w hw => ?_⟩
  · have := h.2.1
    rw [List.length_append, List.length_append, List.length_take, List.length_drop]
    show min i ws.length + 1 + (ws.length - i) ≤ k + 1
    omega
  · rcases List.mem_append.mp hw with q | q
    · rcases List.mem_append.mp q with q | q
      · exact h.2.2 w (List.mem_of_mem_take q)
      · rw [List.mem_singleton.mp q]
        exact hx
    · exact h.2.2 w (List.mem_of_mem_drop q)
theorem wd2 {k : Nat} {ws : List (List Nat)} (h : Wd k ws) (h1 : 1 < ws.length) (i : Nat) : Wd (k + 1) (ws.take i ++ ws.drop (i + 1)) := by
  have hl : (ws.take i ++ ws.drop (i + 1)).length = min i ws.length + (ws.length - (i + 1)) := by
    rw [List.length_append, List.length_take, List.length_drop]
  refine ⟨fun z => ?_, ?_, fun w hw => ?_⟩
  · rw [z] at hl
    simp at hl
    omega
  · have := h.2.1
    rw [hl]
    omega
  · rcases List.mem_append.mp hw with q | q
    · exact h.2.2 w (List.mem_of_mem_take q)
    · exact h.2.2 w (List.mem_of_mem_drop q)
theorem wd3 {k : Nat} {ws : List (List Nat)} {x : List Nat} (h : Wd k ws) (hx : gw x = true) : Wd (k + 1) (ws ++ [x]) := by
  refine ⟨by simp, ?_, fun w hw => ?_⟩
  · have := h.2.1
    rw [List.length_append]
    show _ + 1 ≤ _
    omega
  · rcases List.mem_append.mp hw with q | q
    · exact h.2.2 w q
    · rw [List.mem_singleton.mp q]
      exact hx
theorem txs_app (a b : List (List Nat)) : txs a ++ txs b = txs (a ++ b) := by
  unfold txs
  rw [List.map_append]
theorem name_gw {l n : List Nat} {k : Nat} (hL : Lets l k) (h : GoodName l n) : gw n = true := by
  have hsp := name_nosp hL h
  refine gw_of (by have := h.1; omega) ?_ hsp
  rcases h.2 with rfl | rfl | rfl | rfl | rfl | ⟨x, rfl, hx⟩
  · decide
  · decide
  · decide
  · decide
  · decide
  · intro c hc
    have hx2 := (isList_iff.mp hx).2.1
    rcases List.mem_cons.mp hc with z | z
    · omega
    rcases List.mem_append.mp z with z | z
    · rcases List.mem_cons.mp (hx2 c z) with y | y
      · omega
      · have := (hL.az c y).2
        omega
    · have := List.mem_singleton.mp z
      omega
theorem sign_gw {l : List Nat} {c k : Nat} (hL : Lets l k) (h : c ∈ 45 :: l) : gw [c] = true := by
  have hc : c < 1000 ∧ c ≠ 32 := by
    rcases List.mem_cons.mp h with y | y
    · omega
    · have := hL.az c y
      omega
  refine gw_of (by show 1 ≤ 20; decide) (fun d hd => ?_) (fun z => ?_)
  · rw [List.mem_singleton.mp hd]
    exact hc.1
  · exact hc.2 (List.mem_singleton.mp z).symm
theorem wordsD_wd {l : List Nat} {k : Nat} (hL : Lets l k) {d : StD} (gd : GoodD l d) : Wd 8 (wordsD d) := by
  have hn := name_gw hL gd.1
  have hc := sign_gw hL gd.2.1
  obtain ⟨kk, q, c, n, m, af, e⟩ := d
  have h3 : af ≤ 3 := gd.2.2
  have ha : (aftW af).length ≤ 2 ∧ ∀ w ∈ aftW af, gw w = true := by
    match af, h3 with
    | 0, _ => exact ⟨by decide, by decide⟩
    | 1, _ => exact ⟨by decide, by decide⟩
    | 2, _ => exact ⟨by decide, by decide⟩
    | 3, _ => exact ⟨by decide, by decide⟩
    | j + 4, h => exact absurd h (by omega)
  have he : (eachW e).length ≤ 1 ∧ ∀ w ∈ eachW e, gw w = true := by
    cases e
    · exact ⟨by decide, by decide⟩
    · exact ⟨by decide, by decide⟩
  have hb : ∀ b : Bool, (lastW b).length ≤ 2 ∧ ∀ w ∈ lastW b, gw w = true := fun b => by
    cases b
    · exact ⟨by decide, by decide⟩
    · exact ⟨by decide, by decide⟩
  have drop : ∀ b : Bool, Wd 8 (cDrop :: n :: (aftW af ++ (eachW e ++ lastW b))) := fun b => by
    refine ⟨List.cons_ne_nil _ _, ?_, fun w hw => ?_⟩
    · rw [List.length_cons, List.length_cons, List.length_append, List.length_append]
      have := ha.1
      have := he.1
      have := (hb b).1
      omega
    · rcases List.mem_cons.mp hw with rfl | hw
      · decide
      rcases List.mem_cons.mp hw with rfl | hw
      · exact hn
      rcases List.mem_append.mp hw with hw | hw
      · exact ha.2 w hw
      rcases List.mem_append.mp hw with hw | hw
      · exact he.2 w hw
      · exact (hb b).2 w hw
  cases kk
  · exact drop false
  · exact drop true
  · refine ⟨List.cons_ne_nil _ _, by show 4 ≤ 8; decide, fun w hw => ?_⟩
    simp only [wordsD, List.mem_cons, List.not_mem_nil, or_false] at hw
    rcases hw with rfl | rfl | rfl | rfl
    · decide
    · exact hc
    · decide
    · exact hn
  · refine ⟨List.cons_ne_nil _ _, by show 2 ≤ 8; decide, fun w hw => ?_⟩
    simp only [wordsD, List.mem_cons, List.not_mem_nil, or_false] at hw
    rcases hw with rfl | rfl
    · decide
    · exact hn
  · refine ⟨List.cons_ne_nil _ _, by show 2 ≤ 8; decide, fun w hw => ?_⟩
    simp only [wordsD, List.mem_cons, List.not_mem_nil, or_false] at hw
    rcases hw with rfl | rfl
    · decide
    · exact hc
theorem gd_S {y : List Nat} {xs : List V} (h : gw y = true) (r : Goods xs) : Goods (.str (S y) :: xs) := fun x hx => by
  rcases List.mem_cons.mp hx with e | hx
  · exact ⟨y, e, h⟩
  · exact r x hx
theorem join_sp (ys : List (List Nat)) : Txt.join (S [32]) (ys.map S) = S (TL.joinL [32] ys) := by
  rw [join_tl, S_cps, List.map_map]
  have e : ((fun z : Str => z.cps.toList) ∘ S) = id := by
    funext l
    exact S_cps l
  rw [e, List.map_id]
theorem gw4 {c : Nat} (h : 97 ≤ c ∧ c ≤ 122) : gw [91, c, 45, 93] = true := by
  refine gw_of (by show 4 ≤ 20; decide) (fun d hd => ?_) (fun hd => ?_)
  · simp only [List.mem_cons, List.not_mem_nil, or_false] at hd
    omega
  · simp only [List.mem_cons, List.not_mem_nil, or_false] at hd
    omega
theorem gw4b {c : Nat} (h : 97 ≤ c ∧ c ≤ 122) : gw [91, c, c, 93] = true := by
  refine gw_of (by show 4 ≤ 20; decide) (fun d hd => ?_) (fun hd => ?_)
  · simp only [List.mem_cons, List.not_mem_nil, or_false] at hd
    omega
  · simp only [List.mem_cons, List.not_mem_nil, or_false] at hd
    omega
theorem gw2 {c : Nat} (h : 97 ≤ c ∧ c ≤ 122) : gw [c, c] = true := by
  refine gw_of (by show 2 ≤ 20; decide) (fun d hd => ?_) (fun hd => ?_)
  · simp only [List.mem_cons, List.not_mem_nil, or_false] at hd
    omega
  · simp only [List.mem_cons, List.not_mem_nil, or_false] at hd
    omega
theorem gw1 {c : Nat} (h : 97 ≤ c ∧ c ≤ 122) : gw [c] = true := by
  refine gw_of (by show 1 ≤ 20; decide) (fun d hd => ?_) (fun hd => ?_)
  · rw [List.mem_singleton.mp hd]
    omega
  · have := List.mem_singleton.mp hd
    omega
/-- the state of the loop -/
def BentSt (b lb : Addr) (l : List Nat) (H : Hp) (D : Addr) (od : List V) (t : List (Option V)) (m : Nat) : List (Option V) → Hp → Prop := fun σ' H' => ∃ (rw : Addr) (ws : List (List Nat)), σ' = some (.ref b) :: some (.str (S l)) :: some (.ref rw) :: some (.ref D) :: t ∧ Kp b H H' ∧ Bag H' b lb ∧ H' D = some (.lst od) ∧ H' rw = some (.lst (txs ws)) ∧ rw ≠ b ∧ Wd m ws
theorem bent_new {b lb : Addr} {l : List Nat} {H H1 H2 : Hp} {D : Addr} {od : List V} {t : List (Option V)} {m : Nat} (kp : Kp b H H1) (hb : Bag H1 b lb) (hD : H1 D = some (.lst od)) (s : Same H1 H2) {r : Addr} (hr : H2 r = none) {ws : List (List Nat)} (hw : Wd m ws) :
    BentSt b lb l H D od t m (some (.ref b) :: some (.str (S l)) :: some (.ref r) :: some (.ref D) :: t) (upd H2 r (.lst (txs ws))) :=
  have s2 : Same H1 (upd H2 r (.lst (txs ws))) := s.trans (same_new hr)
  ⟨r, ws, rfl, kp.trans (Kp.same s2), hb.same s2, s2 _ _ hD, upd_same, (hb.same s).nb hr, hw⟩
def spBent : Sp := fun vs H Q _ => ∃ (b lb : Addr) (l : List Nat), vs = [.ref b, .str (S l)] ∧ Lets l 8 ∧ Bag H b lb ∧
  ∀ (ws : List (List Nat)) (H' : Hp), Kp b H H' → Bag H' b lb → Wd 20 ws → Q (.str (S (TL.joinL [32] ws))) H'
end Cl
namespace Cl.K54
open PySem PySem.Spec L2 PyProof.Rows
abbrev sBent : Stmt := top 46
abbrev nBent : List Str := ["_law_bag_here", "_law_letters_here", "_law_words", "_law_odd", "_law_k", "_law_way", "_law_at", "_law_extra"]
theorem scBent : FnScope nBent ["_law_bag_here", "_law_letters_here"] (defScope sBent) := ⟨rfl, rfl, rfl, by decide +kernel, rfl, by decide +kernel, by decide +kernel⟩
section
variable {P : Program} {w : World} {K : PySem.W.Frag} {mg : Str → Option Value} {base : Heap}
theorem ok_bent {f fT fS fX : Addr} {fd fdT fdS fdX : FuncData} (F : Fun K "_law_bent" "_law_bent" sBent f fd)
    (GT : LawG P w K mg base 1 "_law_take" ["_law_bag_here", "_law_size"] spTake fT fdT)
    (GS : LawG P w K mg base 3 "_law_stage" ["_law_bag_here", "_law_letters_here"] spLawStage fS fdS)
    (GX : LawG P w K mg base 1 "_law_stage_text" ["_law_stage_here"] (spStageText K) fX fdX) (hn : mg "len" = none) (hR : mg "range" = none) :
    FnOk P w K mg base CX0 4 f fd ["_law_bag_here", "_law_letters_here"] spBent := by
  refine F.ok scBent (fun vs H Q E h => ?_) (fun cdv A outer s H vs Q E hr h => ?_)
  · obtain ⟨b, lb, l, rfl, _⟩ := h
    rfl
  · obtain ⟨b, lb, l, rfl, hL, hb, k⟩ := h
    have l8 := hL.most
    have hr3 : Room 3 _ := hr
    have hr1 : Room 1 _ := hr.mono (by decide)
    refine ⟨_, pss_cons (ps_set (i := 2) scBent.nd rfl (.inl rfl) (pe_split (pe_call GX.ok hr1 rfl GX.gl GX.kp GX.bd .nil pass0 (pa_cons (pe_call GS.ok hr3 rfl GS.gl GS.kp GS.bd .nil pass0 (pa_cons (pv 0) (pa_cons (pv 1) pa_nil))) pa_nil)) pe_str))
      (pss_cons (ps_set (i := 3) scBent.nd rfl (.inl rfl) (pe_lst (pa_cons pe_str (pa_cons pe_str (pa_cons pe_str (pa_cons pe_str (pa_cons pe_str (pa_cons pe_str (pa_cons pe_str (pa_cons pe_str (pa_cons pe_str (pa_cons pe_str (pa_cons pe_str
          (pa_cons (pe_op op_add_str (pe_op op_add_str pe_str (pe_ix ix_str (pv 1) (pe_un un_neg pe_int) (fun _ _ => rfl))) pe_str) (pa_cons pe_str (pa_cons pe_str pa_nil))))))))))))))))
      (pss_cons (ps_set (i := 3) scBent.nd rfl (.inl rfl) (pe_op op_cat (pv 3) (pe_lst (pa_cons pe_str (pa_cons pe_str (pa_cons pe_str (pa_cons pe_str (pa_cons pe_str
          (pa_cons (pe_op op_add_str (pe_op op_add_str pe_str (pe_op op_mulT (pe_ix ix_str (pv 1) pe_int (fun _ _ => rfl)) pe_int)) pe_str) (pa_cons (pe_ix ix_str (pv 1) pe_int (fun _ _ => rfl)) (pa_cons (pe_op op_mulT (pe_ix ix_str (pv 1) pe_int (fun _ _ => rfl)) pe_int) (pa_cons pe_str pa_nil))))))))))))
      (pss_cons (ps_for PassesOwn.never rfl (pi_range1 rfl hR (pa_cons (pe_call GT.ok hr1 rfl GT.gl GT.kp GT.bd .nil pass0 (pa_cons (pv 0) (pa_cons pe_int pa_nil))) pa_nil)) (pg_name (i := 4) scBent.nd rfl (.inl rfl))
        (pss_cons (ps_set (i := 5) scBent.nd rfl (.inl rfl) (pe_call GT.ok hr1 rfl GT.gl GT.kp GT.bd .nil pass0 (pa_cons (pv 0) (pa_cons pe_int pa_nil))))
        (pss_cons (ps_set (i := 6) scBent.nd rfl (.inl rfl) (pe_call GT.ok hr1 rfl GT.gl GT.kp GT.bd .nil pass0 (pa_cons (pv 0) (pa_cons (pe_callB call_len_seq (by rfl) hn PySem.boot_len (pa_cons (pv 2) pa_nil)) pa_nil))))
        (pss_cons (ps_set (i := 7) scBent.nd rfl (.inl rfl) (pe_ix ix_list (pv 3) (pe_call GT.ok hr1 rfl GT.gl GT.kp GT.bd .nil pass0 (pa_cons (pv 0) (pa_cons (pe_callB call_len_seq (by rfl) hn PySem.boot_len (pa_cons (pv 3) pa_nil)) pa_nil))) (fun _ _ => rfl)))
        (C8.pss_cut (ps_if (pt_cmpR op_eq (pv 5) pe_int (nomark _)) (pss_one (ps_set (i := 2) scBent.nd rfl (.inl rfl) (pe_op op_cat (pe_op op_cat (pe_slice sl_list (pv 2) po_none (po_some (pv 6))) (pe_lst (pa_cons (pv 7) pa_nil))) (pe_slice sl_list (pv 2) (po_some (pe_op op_add (pv 6) pe_int)) po_none)))) pss_nil)
        (C8.pss_cut (ps_if (pt_cmpR op_eq (pv 5) pe_int (nomark _)) (pss_one (ps_set (i := 2) scBent.nd rfl (.inl rfl) (pe_op op_cat (pe_op op_cat (pe_slice sl_list (pv 2) po_none (po_some (pv 6))) (pe_lst (pa_cons (pv 7) pa_nil))) (pe_slice sl_list (pv 2) (po_some (pv 6)) po_none)))) pss_nil)
        (C8.pss_cut (ps_if (PW.pt (pw_and (pt_cmpR op_eq (pv 5) pe_int (nomark _)) (pw_and1 (pt_cmpR op_gt (pe_callB call_len_seq (by rfl) hn PySem.boot_len (pa_cons (pv 2) pa_nil)) pe_int (nomark _))))) (pss_one (ps_set (i := 2) scBent.nd rfl (.inl rfl) (pe_op op_cat (pe_slice sl_list (pv 2) po_none (po_some (pv 6))) (pe_slice sl_list (pv 2) (po_some (pe_op op_add (pv 6) pe_int)) po_none)))) pss_nil)
        (pss_one (ps_if (pt_cmpR op_eq (pv 5) pe_int (nomark _)) (pss_one (ps_set (i := 2) scBent.nd rfl (.inl rfl) (pe_op op_cat (pv 2) (pe_lst (pa_cons (pv 7) pa_nil))))) pss_nil)))))))))
      (pss_one (ps_ret (pe_join pe_str (pv 2))))))), ?_⟩
    have l1 : 1 ≤ l.length := hL.one
    obtain ⟨c0, h0⟩ : ∃ c, l[0]? = some c := ⟨_, List.getElem?_eq_getElem (by omega)⟩
    obtain ⟨c1, h1⟩ : ∃ c, l[l.length - 1]? = some c := ⟨_, List.getElem?_eq_getElem (by omega)⟩
    have a0 : atI (S l).cps.toList 0 = some c0 := by rw [S_cps]; exact atI_pos (by decide) h0
    have a1 : atI (S l).cps.toList (-1) = some c1 := by rw [S_cps, at_last l1]; exact h1
    have ll : (S l).length ≤ sizeLine := le_S (by omega : _ ≤ 8)
    have b0 := hL.az c0 (List.mem_of_getElem? h0)
    have b1 := hL.az c1 (List.mem_of_getElem? h1)
    refine ⟨_, rfl, _, rfl, b, lb, l, rfl, hL, hb, fun d ts H1 kp1 hb1 tsb ht1 gd => ?_⟩
    have n12 : d.n.length ≤ 12 := gd.1.1
    dsimp only [tNil]
    refine stage_text d ht1 (by omega) gd.2.2 fun H2 s2 => ?_
    have hb2 := hb1.same s2
    have tl := text_len gd
    have st := split_text hL gd
    refine ⟨⟨_, rfl⟩, _, _, rfl, rfl, rfl, by rw [S_len, sizeLine_eq]; omega, fun rw0 hrw0 => ?_⟩
    rw [eSp, st, strs_map]
    have hw0 : Wd 8 (wordsD d) := wordsD_wd hL gd
    generalize wordsD d = ws0 at hw0 st
    have s3 : Same H1 (upd H2 rw0 (.lst (txs ws0))) := s2.trans (same_new hrw0)
    have hb3 := hb2.new (o := .lst (txs ws0)) hrw0
    have nrw := hb2.nb hrw0
    have h3 : (upd H2 rw0 (.lst (txs ws0))) rw0 = some (.lst (txs ws0)) := upd_same
    generalize upd H2 rw0 (.lst (txs ws0)) = H3 at s3 hb3 h3
    have len1 : ∀ c : Nat, (⟨#[c]⟩ : Str).length = 1 := fun _ => rfl
    have sl2 : ∀ a b : Str, (a ++ b).length = a.length + b.length := fun a b => by
      rw [← S_of a, ← S_of b, S_app, S_len, S_len, S_len, List.length_append]
    -- the odd words
    refine ⟨_, rfl, 1, rfl, S l, -1, c1, rfl, rfl, ll, a1, _, _, rfl, rfl, ?_, _, _, rfl, rfl, ?_, (by show 14 ≤ sizeLine; decide), fun D1 hD1 => ?_⟩
    · rw [len1]; decide
    · rw [sl2, len1]; decide
    have e4 : V.str ((("[" : Str) ++ (⟨#[c1]⟩ : Str)) ++ ("-]" : Str)) = V.str (S [91, c1, 45, 93]) := by
      have q1 : ("[" : Str) = S [91] := by decide +kernel
      have q2 : ("-]" : Str) = S [45, 93] := by decide +kernel
      rw [q1, q2, show (⟨#[c1]⟩ : Str) = S [c1] from rfl, S_app, S_app]
      rfl
    rw [e4]
    have hG1 : Goods [V.str ("" : Str), V.str ("but" : Str), V.str ("last" : Str), V.str ("each" : Str), V.str ("after" : Str), V.str ("0" : Str), V.str ("4" : Str), V.str ("01" : Str), V.str ("2" : Str), V.str ("all" : Str), V.str ("[]" : Str), V.str (S [91, c1, 45, 93]), V.str ("-" : Str), V.str ("for" : Str)] :=
      gd_cons (by decide +kernel) (gd_cons (by decide +kernel) (gd_cons (by decide +kernel) (gd_cons (by decide +kernel) (gd_cons (by decide +kernel) (gd_cons (by decide +kernel) (gd_cons (by decide +kernel) (gd_cons (by decide +kernel) (gd_cons (by decide +kernel) (gd_cons (by decide +kernel) (gd_cons (by decide +kernel) (gd_S (gw4 b1) (gd_cons (by decide +kernel) (gd_cons (by decide +kernel) gd_nil)))))))))))))
    have hN1 : [V.str ("" : Str), V.str ("but" : Str), V.str ("last" : Str), V.str ("each" : Str), V.str ("after" : Str), V.str ("0" : Str), V.str ("4" : Str), V.str ("01" : Str), V.str ("2" : Str), V.str ("all" : Str), V.str ("[]" : Str), V.str (S [91, c1, 45, 93]), V.str ("-" : Str), V.str ("for" : Str)].length = 14 := rfl
    generalize [V.str ("" : Str), V.str ("but" : Str), V.str ("last" : Str), V.str ("each" : Str), V.str ("after" : Str), V.str ("0" : Str), V.str ("4" : Str), V.str ("01" : Str), V.str ("2" : Str), V.str ("all" : Str), V.str ("[]" : Str), V.str (S [91, c1, 45, 93]), V.str ("-" : Str), V.str ("for" : Str)] = xs1 at hG1 hN1
    have s4 : Same H3 (upd H3 D1 (.lst xs1)) := same_new hD1
    have hx4 : (upd H3 D1 (.lst xs1)) D1 = some (.lst xs1) := upd_same
    generalize upd H3 D1 (.lst xs1) = H4 at s4 hx4
    have rp : S (List.replicate (Int.toNat 2) [c0]).flatten = S [c0, c0] := rfl
    refine ⟨_, rfl, _, rfl, S l, 0, c0, rfl, rfl, ll, a0, [c0], 2, rfl, rfl, by decide, by decide, (by show 1 ≤ 1000; decide), _, _, rfl, rfl, ?_, _, _, rfl, rfl, ?_, _, rfl, S l, 0, c0, rfl, rfl, ll, a0, _, rfl, S l, 0, c0, rfl, rfl, ll, a0, [c0], 2, rfl, rfl, by decide, by decide, (by show 1 ≤ 1000; decide), (by show 9 ≤ sizeLine; decide), fun D2 hD2 => ?_⟩
    · rw [rp, S_len, sizeLine_eq]; show 1 + 2 ≤ 16777216; decide
    · rw [sl2, rp, S_len, sizeLine_eq]; show 1 + 2 + 1 ≤ 16777216; decide
    rw [rp]
    have e5 : V.str ((("[" : Str) ++ S [c0, c0]) ++ ("]" : Str)) = V.str (S [91, c0, c0, 93]) := by
      have q1 : ("[" : Str) = S [91] := by decide +kernel
      have q2 : ("]" : Str) = S [93] := by decide +kernel
      rw [q1, q2, S_app, S_app]
      rfl
    rw [e5, show V.str (⟨#[c0]⟩ : Str) = V.str (S [c0]) from rfl]
    have hG2 : Goods [V.str ("drop" : Str), V.str ("write" : Str), V.str ("once" : Str), V.str ("add" : Str), V.str ("vowel" : Str), V.str (S [91, c0, c0, 93]), V.str (S [c0]), V.str (S [c0, c0]), V.str ("A" : Str)] :=
      gd_cons (by decide +kernel) (gd_cons (by decide +kernel) (gd_cons (by decide +kernel) (gd_cons (by decide +kernel) (gd_cons (by decide +kernel) (gd_S (gw4b b0) (gd_S (gw1 b0) (gd_S (gw2 b0) (gd_cons (by decide +kernel) gd_nil))))))))
    have hN2 : [V.str ("drop" : Str), V.str ("write" : Str), V.str ("once" : Str), V.str ("add" : Str), V.str ("vowel" : Str), V.str (S [91, c0, c0, 93]), V.str (S [c0]), V.str (S [c0, c0]), V.str ("A" : Str)].length = 9 := rfl
    generalize [V.str ("drop" : Str), V.str ("write" : Str), V.str ("once" : Str), V.str ("add" : Str), V.str ("vowel" : Str), V.str (S [91, c0, c0, 93]), V.str (S [c0]), V.str (S [c0, c0]), V.str ("A" : Str)] = ys1 at hG2 hN2
    have s5 : Same H4 (upd H4 D2 (.lst ys1)) := same_new hD2
    have hy5 : (upd H4 D2 (.lst ys1)) D2 = some (.lst ys1) := upd_same
    generalize upd H4 D2 (.lst ys1) = H5 at s5 hy5
    refine ⟨D1, D2, xs1, ys1, rfl, rfl, s5 _ _ hx4, hy5, by rw [hN1, hN2]; decide, fun D3 hD3 => ?_⟩
    have hGo := gd_app hG1 hG2
    have hNo : (xs1 ++ ys1).length = 23 := by rw [List.length_append, hN1, hN2]
    generalize xs1 ++ ys1 = od at hGo hNo
    have s6 : Same H3 (upd H5 D3 (.lst od)) := (s4.trans s5).trans (same_new hD3)
    have hb6 := hb3.same s6
    have ho6 : (upd H5 D3 (.lst od)) D3 = some (.lst od) := upd_same
    have n3b : D3 ≠ b := (hb3.same (s4.trans s5)).nb hD3
    generalize upd H5 D3 (.lst od) = H6 at s6 hb6 ho6
    have kp6 : Kp b H H6 := kp1.trans ((Kp.same s3).trans (Kp.same s6))
    have h6 := s6 _ _ h3
    -- the loop
    refine ⟨_, rfl, b, lb, 3, rfl, by decide, by decide, hb6, fun m H7 m0 m1 kp7 hb7 => ⟨_, rfl, by omega, by omega, ?_⟩⟩
    refine for_range (n := m.toNat) (fun i σ H' => ∃ v4 v5 v6 v7 : Option V, BentSt b lb l H D3 od [v4, v5, v6, v7] (8 + 4 * i) σ H') ?_ ?_ ?_
    · exact ⟨none, none, none, none, rw0, ws0, rfl, kp6.trans kp7, hb7, kp7 _ _ n3b ho6, kp7 _ _ nrw h6, nrw, hw0⟩
    · rintro i σ H8 hi ⟨v4, v5, v6, v7, r0, ws, rfl, kp8, hb8, ho8, hr8, nr8, hw8⟩
      have wpos : 0 < ws.length := List.length_pos_iff.mpr hw8.1
      have wl := hw8.2.1
      have i3 : i < 3 := by omega
      refine ⟨_, rfl, b, lb, 4, rfl, by decide, by decide, hb8, fun way H9 y0 y1 kp9 hb9 => ?_⟩
      have hr9 := kp9 _ _ nr8 hr8
      have ho9 := kp9 _ _ n3b ho8
      refine ⟨_, rfl, _, rfl, r0, _, rfl, .inl (SqL.of hr9), b, lb, _, rfl, ?_, ?_, hb9, fun iv H10 i0 i1 kp10 hb10 => ?_⟩
      · rw [txs_len]; omega
      · rw [txs_len]; omega
      have hr10 := kp10 _ _ nr8 hr9
      have ho10 := kp10 _ _ n3b ho9
      obtain ⟨at', rfl⟩ := Int.eq_ofNat_of_zero_le i0
      refine ⟨_, rfl, _, rfl, _, rfl, D3, _, rfl, .inl (SqL.of ho10), b, lb, _, rfl, ?_, ?_, hb10, fun jv H11 j0 j1 kp11 hb11 => ?_⟩
      · rw [hNo]; decide
      · rw [hNo]; decide
      obtain ⟨x, ex, hx⟩ := gd_at hGo j0 j1
      have hr11 := kp11 _ _ nr8 hr10
      have ho11 := kp11 _ _ n3b ho10
      refine ⟨D3, _, jv, _, rfl, rfl, SqL.of ho11, ex, ?_⟩
      have kp12 : Kp b H H11 := ((kp8.trans kp9).trans kp10).trans kp11
      -- a word put in another's place
      refine ⟨BentSt b lb l H D3 od [some (.int (0 + (i : Int))), some (.int way), some (.int (at' : Int)), some (.str (S x))] (8 + 4 * i + 1), ?_, ?_⟩
      · refine ⟨_, rfl, rfl, _, rfl, ?_⟩
        refine ite2 (fun _ => ?_) (fun _ => ⟨r0, ws, rfl, kp12, hb11, ho11, hr11, nr8, hw8.mono (by omega)⟩)
        refine ⟨_, rfl, _, rfl, (at' : Int), rfl, r0, _, rfl, SqL.of hr11, fun p1 hp1 => ?_⟩
        rw [cutT_to]
        have t1 : Same H11 (upd H11 p1 (.lst (txs (ws.take at')))) := same_new hp1
        have g1 : (upd H11 p1 (.lst (txs (ws.take at')))) p1 = some (.lst (txs (ws.take at'))) := upd_same
        generalize upd H11 p1 (.lst (txs (ws.take at'))) = J1 at t1 g1
        refine ⟨_, rfl, (by show 1 ≤ sizeLine; decide), fun p2 hp2 => ?_⟩
        rw [show [V.str (S x)] = txs [x] from rfl]
        have t2 : Same J1 (upd J1 p2 (.lst (txs [x]))) := same_new hp2
        have g2 : (upd J1 p2 (.lst (txs [x]))) p2 = some (.lst (txs [x])) := upd_same
        generalize upd J1 p2 (.lst (txs [x])) = J2 at t2 g2
        refine ⟨p1, p2, _, _, rfl, rfl, t2 _ _ g1, g2, by rw [txs_len, txs_len, List.length_take, sizeLine_eq]; show _ + 1 ≤ _; omega, fun p3 hp3 => ?_⟩
        rw [txs_app]
        have t3 : Same J2 (upd J2 p3 (.lst (txs (ws.take at' ++ [x])))) := same_new hp3
        have g3 : (upd J2 p3 (.lst (txs (ws.take at' ++ [x])))) p3 = some (.lst (txs (ws.take at' ++ [x]))) := upd_same
        generalize upd J2 p3 (.lst (txs (ws.take at' ++ [x]))) = J3 at t3 g3
        have t123 := (t1.trans t2).trans t3
        refine ⟨_, rfl, _, rfl, _, _, rfl, rfl, _, rfl, r0, _, rfl, SqL.of (t123 _ _ hr11), fun p4 hp4 => ?_⟩
        rw [show ((at' : Int) + 1) = ((at' + 1 : Nat) : Int) from rfl, cutT_from]
        have t4 : Same H11 (upd J3 p4 (.lst (txs (ws.drop (at' + 1))))) := t123.trans (same_new hp4)
        have g4 : (upd J3 p4 (.lst (txs (ws.drop (at' + 1))))) p4 = some (.lst (txs (ws.drop (at' + 1)))) := upd_same
        have g3' : (upd J3 p4 (.lst (txs (ws.drop (at' + 1))))) p3 = some (.lst (txs (ws.take at' ++ [x]))) := same_new hp4 _ _ g3
        generalize upd J3 p4 (.lst (txs (ws.drop (at' + 1)))) = J4 at t4 g4 g3'
        refine ⟨p3, p4, _, _, rfl, rfl, g3', g4, by rw [txs_len, txs_len, List.length_append, List.length_take, List.length_drop, sizeLine_eq]; show _ + 1 + _ ≤ _; omega, fun p5 hp5 => ?_⟩
        rw [txs_app]
        exact bent_new kp12 hb11 ho11 t4 hp5 (wd0 hw8 hx at')
      rintro σ' H12 ⟨r1, ws1, rfl, kp13, hb12, ho12, hr12, nr12, hw12⟩
      clear hr8 hr9 hr10 hr11 ho8 ho9 ho10 ho11 hb8 hb9 hb10 hb11 kp8 kp9 kp10 kp11 kp12
      have wl1 := hw12.2.1
      -- a word put in
      refine ⟨BentSt b lb l H D3 od [some (.int (0 + (i : Int))), some (.int way), some (.int (at' : Int)), some (.str (S x))] (8 + 4 * i + 2), ?_, ?_⟩
      · refine ⟨_, rfl, rfl, _, rfl, ?_⟩
        refine ite2 (fun _ => ?_) (fun _ => ⟨r1, ws1, rfl, kp13, hb12, ho12, hr12, nr12, hw12.mono (by omega)⟩)
        refine ⟨_, rfl, _, rfl, (at' : Int), rfl, r1, _, rfl, SqL.of hr12, fun p1 hp1 => ?_⟩
        rw [cutT_to]
        have t1 : Same H12 (upd H12 p1 (.lst (txs (ws1.take at')))) := same_new hp1
        have g1 : (upd H12 p1 (.lst (txs (ws1.take at')))) p1 = some (.lst (txs (ws1.take at'))) := upd_same
        generalize upd H12 p1 (.lst (txs (ws1.take at'))) = J1 at t1 g1
        refine ⟨_, rfl, (by show 1 ≤ sizeLine; decide), fun p2 hp2 => ?_⟩
        rw [show [V.str (S x)] = txs [x] from rfl]
        have t2 : Same J1 (upd J1 p2 (.lst (txs [x]))) := same_new hp2
        have g2 : (upd J1 p2 (.lst (txs [x]))) p2 = some (.lst (txs [x])) := upd_same
        generalize upd J1 p2 (.lst (txs [x])) = J2 at t2 g2
        refine ⟨p1, p2, _, _, rfl, rfl, t2 _ _ g1, g2, by rw [txs_len, txs_len, List.length_take, sizeLine_eq]; show _ + 1 ≤ _; omega, fun p3 hp3 => ?_⟩
        rw [txs_app]
        have t3 : Same J2 (upd J2 p3 (.lst (txs (ws1.take at' ++ [x])))) := same_new hp3
        have g3 : (upd J2 p3 (.lst (txs (ws1.take at' ++ [x])))) p3 = some (.lst (txs (ws1.take at' ++ [x]))) := upd_same
        generalize upd J2 p3 (.lst (txs (ws1.take at' ++ [x]))) = J3 at t3 g3
        have t123 := (t1.trans t2).trans t3
        refine ⟨_, rfl, _, rfl, (at' : Int), rfl, r1, _, rfl, SqL.of (t123 _ _ hr12), fun p4 hp4 => ?_⟩
        rw [cutT_from]
        have t4 : Same H12 (upd J3 p4 (.lst (txs (ws1.drop at')))) := t123.trans (same_new hp4)
        have g4 : (upd J3 p4 (.lst (txs (ws1.drop at')))) p4 = some (.lst (txs (ws1.drop at'))) := upd_same
        have g3' : (upd J3 p4 (.lst (txs (ws1.drop at')))) p3 = some (.lst (txs (ws1.take at' ++ [x]))) := same_new hp4 _ _ g3
        generalize upd J3 p4 (.lst (txs (ws1.drop at'))) = J4 at t4 g4 g3'
        refine ⟨p3, p4, _, _, rfl, rfl, g3', g4, by rw [txs_len, txs_len, List.length_append, List.length_take, List.length_drop, sizeLine_eq]; show _ + 1 + _ ≤ _; omega, fun p5 hp5 => ?_⟩
        rw [txs_app]
        exact bent_new kp13 hb12 ho12 t4 hp5 (wd1 hw12 hx at')
      rintro σ' H13 ⟨r2, ws2, rfl, kp14, hb13, ho13, hr13, nr13, hw13⟩
      clear hr12 ho12 hb12 kp13
      have wl2 := hw13.2.1
      -- a word left out
      refine ⟨BentSt b lb l H D3 od [some (.int (0 + (i : Int))), some (.int way), some (.int (at' : Int)), some (.str (S x))] (8 + 4 * i + 3), ?_, ?_⟩
      · have same : BentSt b lb l H D3 od [some (.int (0 + (i : Int))), some (.int way), some (.int (at' : Int)), some (.str (S x))] (8 + 4 * i + 3) [some (.ref b), some (.str (S l)), some (.ref r2), some (.ref D3), some (.int (0 + (i : Int))), some (.int way), some (.int (at' : Int)), some (.str (S x))] H13 := ⟨r2, ws2, rfl, kp14, hb13, ho13, hr13, nr13, hw13.mono (by omega)⟩
        refine ⟨_, rfl, rfl, _, rfl, ?_⟩
        refine ite2 (fun _ => ?_) (fun _ => same)
        refine ⟨_, rfl, r2, _, rfl, .inl (SqL.of hr13), _, _, rfl, rfl, _, rfl, ?_⟩
        refine ite2 (fun q2 => ?_) (fun _ => same)
        have two : 1 < ws2.length := by
          have z := of_decide_eq_true q2
          rw [txs_len] at z
          omega
        refine ⟨_, rfl, _, rfl, (at' : Int), rfl, r2, _, rfl, SqL.of hr13, fun p1 hp1 => ?_⟩
        rw [cutT_to]
        have t1 : Same H13 (upd H13 p1 (.lst (txs (ws2.take at')))) := same_new hp1
        have g1 : (upd H13 p1 (.lst (txs (ws2.take at')))) p1 = some (.lst (txs (ws2.take at'))) := upd_same
        generalize upd H13 p1 (.lst (txs (ws2.take at'))) = J1 at t1 g1
        refine ⟨_, rfl, _, rfl, _, _, rfl, rfl, _, rfl, r2, _, rfl, SqL.of (t1 _ _ hr13), fun p4 hp4 => ?_⟩
        rw [show ((at' : Int) + 1) = ((at' + 1 : Nat) : Int) from rfl, cutT_from]
        have t4 : Same H13 (upd J1 p4 (.lst (txs (ws2.drop (at' + 1))))) := t1.trans (same_new hp4)
        have g4 : (upd J1 p4 (.lst (txs (ws2.drop (at' + 1))))) p4 = some (.lst (txs (ws2.drop (at' + 1)))) := upd_same
        have g1' : (upd J1 p4 (.lst (txs (ws2.drop (at' + 1))))) p1 = some (.lst (txs (ws2.take at'))) := same_new hp4 _ _ g1
        generalize upd J1 p4 (.lst (txs (ws2.drop (at' + 1)))) = J4 at t4 g4 g1'
        refine ⟨p1, p4, _, _, rfl, rfl, g1', g4, by rw [txs_len, txs_len, List.length_take, List.length_drop, sizeLine_eq]; omega, fun p5 hp5 => ?_⟩
        rw [txs_app]
        exact bent_new kp14 hb13 ho13 t4 hp5 (wd2 hw13 two at')
      rintro σ' H14 ⟨r3, ws3, rfl, kp15, hb14, ho14, hr14, nr14, hw14⟩
      clear hr13 ho13 hb13 kp14
      have wl3 := hw14.2.1
      -- a word behind
      refine ⟨_, rfl, rfl, _, rfl, ?_⟩
      refine ite2 (fun _ => ?_) (fun _ => ⟨_, _, _, _, r3, ws3, rfl, kp15, hb14, ho14, hr14, nr14, hw14.mono (by omega)⟩)
      refine ⟨_, rfl, _, rfl, (by show 1 ≤ sizeLine; decide), fun p2 hp2 => ?_⟩
      rw [show [V.str (S x)] = txs [x] from rfl]
      have t2 : Same H14 (upd H14 p2 (.lst (txs [x]))) := same_new hp2
      have g2 : (upd H14 p2 (.lst (txs [x]))) p2 = some (.lst (txs [x])) := upd_same
      generalize upd H14 p2 (.lst (txs [x])) = J2 at t2 g2
      refine ⟨r3, p2, _, _, rfl, rfl, t2 _ _ hr14, g2, by rw [txs_len, txs_len, sizeLine_eq]; show _ + 1 ≤ _; omega, fun p3 hp3 => ?_⟩
      rw [txs_app]
      exact ⟨_, _, _, _, bent_new kp15 hb14 ho14 t2 hp3 (wd3 hw14 hx)⟩
    · rintro σ H8 ⟨v4, v5, v6, v7, r0, ws, rfl, kp8, hb8, ho8, hr8, nr8, hw8⟩
      have hw20 : Wd 20 ws := hw8.mono (by omega)
      have wds := hw20.words (Nat.le_refl 20)
      have fl := flat_len fun w hw => (wds.2 w hw).1
      have wl := hw20.2.1
      refine ⟨⟨_, rfl⟩, _, rfl, S [32], r0, ws.map S, rfl, rfl, .inl ?_, join_room ws _ 0 (by rw [S_len]; decide) (by omega) (by omega), ?_⟩
      · rw [strs_map]
        exact SqL.of hr8
      · rw [join_sp]
        exact k ws H8 kp8 hb8 hw20
end
end Cl.K54
set_option Elab.async false
set_option linter.all false
set_option maxRecDepth 100000
set_option maxHeartbeats 4000000
/-! len(o), o of a class of one's own with its own __len__. -/
namespace Sx
open PySem PySem.Spec L2 PyProof.Rows NwS
section
variable {prog : Program} {w : World} {A : Around} {E : Value → Shared → Prop} {s : Shared} {K : PySem.W.Frag} {C x f : Addr} {ox od : Obj}
theorem len_own {Q : Value → Shared → Prop} (X : K.In s.heap) (I : PySem.W.InstAt s.heap x ox C od) (hs : PySem.W.findIn K (.ref C) "__len__" = some (some (.ref f))) (hf : PySem.W.isFn K (.ref f) = true)
    (h : wpAny (model prog w) A.in1 (call (.ref f) [.ref x]) (fun v s' => ∃ (n : Nat) (t : Tok), v = .int n t ∧ (n : Int) < 2 ^ 63 ∧ Q (.int n s'.toks) { s' with toks := s'.toks + 1 }) E s) : wpAny (model prog w) A (call (.builtin "len") [.ref x]) Q E s := by
  refine Calls.call_function_entry kind_len plain_len entry_len (args_len1 _) ?_
  unfold Builtin.«len»
  refine wpAny_bind (m := oneArg "len" _) (wpAny_pure ?_)
  refine wpAny_bind (m := callSpecial? (.ref x) (PySem.Str.ofString "__len__")) (PySem.W.special_fn X I hs (beq_iff_eq.mp hf) (wpAny_mono h (fun v s' hv => ?_) fun _ _ z => z))
  obtain ⟨n, t, rfl, hn, q⟩ := hv
  refine wpAny_bind (wpAny_holding (wpAny_pure ?_))
  refine wpAny_bind (wpAny_letGo ?_)
  show wpAny _ _ (if ((n : Nat) : Int) < 0 then _ else _) _ _ _
  rw [if_neg (by omega)]
  show wpAny _ _ (if ((n : Nat) : Int) ≥ 2 ^ 63 then _ else _) _ _ _
  rw [if_neg (by omega)]
  exact wpAny_bind (wpAny_mkInt (wpAny_pure ⟨_, rfl, q⟩))
end
section
variable {X : Cx} {CX : CXT} {n : Nat} {C f : Addr} {fd : FuncData} {ps : List Str} {sp : Sp} {E : XK}
def rLenO (C : Addr) (sp : Sp) (E : XK) : List V → Hp → VK → Prop := fun xs H Q => ∃ a dx fs, xs = [.ref a] ∧ H a = some (.ins C dx fs) ∧ sp [.ref a] H (fun v H' => ∃ n : Nat, v = .int n ∧ (n : Int) < 2 ^ 63 ∧ Q (.int n) H') E
theorem call_lenO (F : FnOk X.prog X.w X.K X.mg X.base CX n f fd ps sp) (hr : Room (n + 1) X.A)
    (hs : PySem.W.findIn X.K (.ref C) "__len__" = some (some (.ref f))) (hf : PySem.W.isFn X.K (.ref f) = true) (hb : Binds X.K fd ps []) (hx : Passes CX X E) : CallR X (.builtin "len") (rLenO C sp E) := by
  intro pins s σ H xs us Q I r h
  obtain ⟨a, dx, fs, rfl, ha, hsp⟩ := h
  obtain ⟨u, rfl, ru⟩ := vals1 r
  obtain rfl : u = Value.ref a := ru
  obtain ⟨mA, J, _⟩ := ins_get I.hok ha
  obtain ⟨od, J, _⟩ := J.look
  refine len_own I.kIn J hs hf ?_
  have bt := hb s [Value.ref a] I.kIn (by rw [List.append_nil]; exact (F.len _ _ _ _ hsp).symm ▸ rfl)
  rw [List.append_nil] at bt
  refine wpAny_call (codeAny_mono (F.run X.A.in1 X.stack s H ⟨[Value.ref a], []⟩ [Value.ref a] [.ref a] _ E hr.in1 I.env0.in1 bt (.cons rfl .nil) hsp) fun r s' hq => ?_)
  match r, hq with
  | .error e, hq => exact hx pins σ H s e s' I hq
  | .ok (.ret u), hq =>
    have z := I.after hq
    obtain ⟨z, H', I', rz, k, ez, hk, q'⟩ := z
    subst ez
    obtain ⟨t, rfl⟩ := rz
    exact ⟨k, t, rfl, hk, .int k, H', I'.tok _, ⟨_, rfl⟩, q'⟩
  | .ok .next, hq => exact False.elim hq
  | .ok .brk, hq => exact False.elim hq
  | .ok .cont, hq => exact False.elim hq
end
end Sx
set_option Elab.async false
set_option linter.all false
set_option maxRecDepth 100000
set_option maxHeartbeats 4000000
/-! x != y by an own __eq__, where the class has no __ne__ of its own. -/
namespace Sx
open PySem PySem.Spec L2 PyProof.Rows
section
variable {prog : Program} {w : World} {A : Around} {E : Value → Shared → Prop} {s : Shared} {K : PySem.W.Frag} {C x f y : Addr} {ox oy : Obj} {od od2 : Option Obj}
theorem ne_own {Q : Value → Shared → Prop} (hu : A.units + 1 < cLine) (X : K.In s.heap) (I : PySem.W.InstAt s.heap x ox C od) (J : PySem.W.InstAt s.heap y oy C od2) (hs : PySem.W.findIn K (.ref C) "__eq__" = some (some (.ref f))) (hf : PySem.W.isFn K (.ref f) = true)
    (hn : PySem.W.findIn K (.ref C) "__ne__" = some (some (.builtin "object.__ne__"))) (hm : PySem.W.mroIn K C (.type "object") = some true)
    (h : wpAny (model prog w) A.in1 (call (.ref f) [.ref x, .ref y]) (fun v s' => ∃ b, v = .bool b ∧ Q (.bool (!b)) s') E s) : wpAny (model prog w) A (richCompare .NotEq (.ref x) (.ref y)) Q E s := by
  have sp : PySem.W.Looks (model prog w) s.heap (specialOf (.ref x) (cmpInfo .NotEq).2.1) (some (.builtin "object.__ne__")) := I.type.andThen (PySem.W.looks_findIn X hn)
  have one : wpAny (model prog w) A (tryCompare (.ref x) (cmpInfo .NotEq).2.1 (.ref y)) (fun r s' => ∃ v, r = some v ∧ Q v s') E s := by
    unfold tryCompare
    refine wpAny_bind (NtL.csib (args := [.ref y]) sp (PySem.F.slot_object_ne.bind _) (wpAny_call (codeAny_call_builtin PySem.F.slot_object_ne.plain F.cmpEntry_ne
      (PySem.W.check_slot (i := "object.__ne__") (owner := "object") (n := "__ne__") (by decide +kernel) (by decide +kernel) (I.type.andThen (PySem.W.looks_mroIn X hm)) (F.cmpArgs_ne _ _) ?_))))
    unfold Builtin.«object.__ne__»
    refine wpAny_bind (m := slotArgs "__ne__" 1 _) (wpAny_pure ?_)
    refine wpAny_bind (m := cRoomFor _ _) (wpAny_cRoomFor hu ?_)
    refine wpAny_bind (m := callSpecialIfBound? (.ref x) (Str.ofString "__eq__") [.ref y]) (PySem.W.ifBound_K X I hs hf (wpAny_mono h (fun v s' hv => ?_) fun _ _ z => z))
    obtain ⟨b, rfl, q⟩ := hv
    refine wpAny_bind (m := truthy (.bool b)) (wpAny_truthy_bool ?_)
    first | exact wpAny_pure (wpAny_pure ⟨_, rfl, q⟩) | exact wpAny_pure ⟨_, rfl, wpAny_pure q⟩ | exact wpAny_pure ⟨_, rfl, q⟩
  unfold richCompare
  simp only [oneThing_ref]
  refine wpAny_holding (wpAny_bind (wpAny_cRoomFor (Nat.lt_of_succ_lt hu) ?_))
  refine wpAny_bind (I.type.here (wpAny_bind (J.type.here ?_)))
  rw [show (Value.ref C != Value.ref C) = false from by simp]
  refine wpAny_bind (wpAny_pure ?_)
  simp only [Bool.false_eq_true, if_false]
  refine wpAny_bind (wpAny_mono one (fun r s' z => ?_) fun _ _ e => e)
  obtain ⟨v, rfl, hq⟩ := z
  exact wpAny_pure hq
end
end Sx
namespace Cl
open PySem PySem.Spec L2 PyProof.Rows
def rNeI (C : Addr) (sp : Sp) (E : XK) : R2 := fun x y H Q => ∃ a b dx dy fs gs, x = .ref a ∧ y = .ref b ∧ H a = some (.ins C dx fs) ∧ H b = some (.ins C dy gs) ∧ sp [.ref a, .ref b] H (fun v H' => ∃ k, v = .bl k ∧ Q (.bl (!k)) H') E
theorem op_neI {X : Cx} {CX : CXT} {n : Nat} {C f : Addr} {fd : FuncData} {ps : List Str} {sp : Sp} {E : XK} (F : FnOk X.prog X.w X.K X.mg X.base CX n f fd ps sp) (hr : Room (n + 1) X.A)
    (hs : PySem.W.findIn X.K (.ref C) "__eq__" = some (some (.ref f))) (hf : PySem.W.isFn X.K (.ref f) = true) (hn : PySem.W.findIn X.K (.ref C) "__ne__" = some (some (.builtin "object.__ne__"))) (hm : PySem.W.mroIn X.K C (.type "object") = some true)
    (hb : Binds X.K fd ps []) (hx : Passes CX X E) : OpR X (compareOp .NotEq) (rNeI C sp E) := by
  intro pins s σ H x y v u Q I rx ry h
  obtain ⟨a, b, dx, dy, fs, gs, rfl, rfl, ha, hb', hsp⟩ := h
  cases rx
  cases ry
  obtain ⟨mA, J, _⟩ := ins_get I.hok ha
  obtain ⟨mB, J', _⟩ := ins_get I.hok hb'
  obtain ⟨od, J, _⟩ := J.look
  obtain ⟨od', J', _⟩ := J'.look
  show wpAny (model X.prog X.w) X.A (richCompare .NotEq (.ref a) (.ref b)) (EP X pins σ Q) X.xe s
  refine Sx.ne_own (by have := hr.un; omega) I.kIn J J' hs hf hn hm ?_
  have bt := hb s [Value.ref a, Value.ref b] I.kIn (by rw [List.append_nil]; exact (F.len _ _ _ _ hsp).symm ▸ rfl)
  rw [List.append_nil] at bt
  refine wpAny_call (codeAny_mono (F.run X.A.in1 X.stack s H ⟨[Value.ref a, Value.ref b], []⟩ [Value.ref a, Value.ref b] [.ref a, .ref b] _ E hr.in1 I.env0.in1 bt (.cons rfl (.cons rfl .nil)) hsp) fun r s' hq => ?_)
  match r, hq with
  | .error e, hq => exact hx pins σ H s e s' I hq
  | .ok (.ret u), hq =>
    have z := I.after hq
    obtain ⟨z, H', I', rz, k, ez, q'⟩ := z
    subst ez
    cases rz
    exact ⟨k, rfl, .bl (!k), H', I', rfl, q'⟩
  | .ok .next, hq => exact False.elim hq
  | .ok .brk, hq => exact False.elim hq
  | .ok .cont, hq => exact False.elim hq
end Cl
set_option Elab.async false
set_option linter.all false
set_option maxRecDepth 100000
set_option maxHeartbeats 4000000
/-! x + y by an own __add__; C(a, .., *b). -/
namespace Cl
open PySem PySem.Spec L2 PyProof.Rows
def rAddO (C : Addr) (sp : Sp) (E : XK) : R2 := fun x y H Q => ∃ a b dx dy fs gs, x = .ref a ∧ y = .ref b ∧ H a = some (.ins C dx fs) ∧ H b = some (.ins C dy gs) ∧ sp [.ref a, .ref b] H (fun v H' => ∃ c, v = .ref c ∧ Q (.ref c) H') E
theorem add_name : PySem.dunder Operator.Add.info.2 = ("__add__" : Str) := by decide +kernel
theorem op_addO {X : Cx} {CX : CXT} {n : Nat} {C f : Addr} {fd : FuncData} {ps : List Str} {sp : Sp} {E : XK} (F : FnOk X.prog X.w X.K X.mg X.base CX n f fd ps sp) (hr : Room n X.A) (hc : PySem.W.selfFirst X.K C = true)
    (hs : PySem.W.findIn X.K (.ref C) "__add__" = some (some (.ref f))) (hf : PySem.W.isFn X.K (.ref f) = true) (hb : Binds X.K fd ps []) (hx : Passes CX X E) : OpR X (binaryOp .Add) (rAddO C sp E) := by
  intro pins s σ H x y v u Q I rx ry h
  obtain ⟨a, b, dx, dy, fs, gs, rfl, rfl, ha, hb', hsp⟩ := h
  cases rx
  cases ry
  obtain ⟨mA, J, _⟩ := ins_get I.hok ha
  obtain ⟨mB, J', _⟩ := ins_get I.hok hb'
  obtain ⟨od, J, _⟩ := J.look
  obtain ⟨od', J', _⟩ := J'.look
  obtain ⟨m, fr⟩ := I.fr
  refine PySem.W.binop_K fr I.ok.mod.kin J J'.type hc (by rw [add_name]; exact hs) hf ?_
  have bt := hb s [Value.ref a, Value.ref b] I.kIn (by rw [List.append_nil]; exact (F.len _ _ _ _ hsp).symm ▸ rfl)
  rw [List.append_nil] at bt
  refine wpAny_call (codeAny_mono (F.run X.A X.stack s H ⟨[Value.ref a, Value.ref b], []⟩ [Value.ref a, Value.ref b] [.ref a, .ref b] _ E hr I.env0 bt (.cons rfl (.cons rfl .nil)) hsp) fun r s' hq => ?_)
  match r, hq with
  | .error e, hq => exact hx pins σ H s e s' I hq
  | .ok (.ret u), hq =>
    have z := I.after hq
    obtain ⟨z, H', I', rz, c, ez, q'⟩ := z
    subst ez
    cases rz
    exact ⟨.ref c, H', I', rfl, q'⟩
  | .ok .next, hq => exact False.elim hq
  | .ok .brk, hq => exact False.elim hq
  | .ok .cont, hq => exact False.elim hq
theorem pe_makeRS {X : Cx} {CX : CXT} {n : Nat} {g D : Addr} {sp : Sp} {E : XK} {nm : Str} {a0 : Expr} {as : List Expr} {ta : TA} {q po : Pos} (M : Mk X.K D g) (F : FnR X.prog X.w X.K X.mg X.base CX n g sp) (room : Room (n + 1) X.A) (gl : Gl X nm)
    (gm : X.mg nm = some (.ref D)) (px : Passes CX X E) (pas : PA X (a0 :: as) ta) (nd : (nm == ("__debug__" : Str)) = false := by decide) (e1 : starEach (a0 :: as) X.env = (false, eval a0 X.env) :: starEach as X.env := by rfl)
    (e2 : (backTo po (starEach as X.env)).any (·.1) = true := by rfl) : PE X (.Call (.Name nm q) (a0 :: as) [] po) (StX.tMakeR D sp E ta) := by
  constructor
  intro pins s σ H Q I h
  have step := pas.run po pins s σ H _ I h
  refine wpAny_Call_Name_kw (ld_glob I gl gm ?_ nd)
  refine PySem.W.callWith_S2 (h₀ := X.base) I.ok.mod.kin M.kp (thn step ?_) e1 e2
  rintro us s1 ⟨vs, H1, I1, r, made⟩
  exact ⟨I1.kIn, StX.run_makeR M F room px I1 r made⟩
end Cl
set_option Elab.async false
set_option linter.all false
set_option maxRecDepth 100000
set_option maxHeartbeats 4000000
/-! for i, x in enumerate(a list, start=k). -/
namespace Sx
open PySem PySem.Spec L2 PyProof.Rows
/-- the list at a, each item in a new pair with its number, the first one's k -/
def EnumK (K : PySem.W.Frag) (a : Addr) (k : Int) : It where
  go n H := ∃ (items : List V) (one : V), SqL K H a items ∧ items[n]? = some one
  yld n H v H' := ∃ (T : Addr) (one : V), v = .ref T ∧ H T = none ∧ H' = upd H T (.tup [.int (k + (n : Int)), one]) ∧ ∀ items, SqL K H a items → items[n]? = some one
  stop n H := ∃ items : List V, SqL K H a items ∧ items.length = n
theorem walk_enumK {K : PySem.W.Frag} {a : Addr} {k : Int} {xs : List V} : Walk (EnumK K a k) xs.length (fun H => SqL K H a xs) (fun i H v H' => ∃ T x, v = .ref T ∧ H T = none ∧ H' = upd H T (.tup [.int (k + (i : Int)), x]) ∧ xs[i]? = some x) := by
  constructor
  · intro i H hi q
    exact ⟨xs, xs[i], q, by simp [hi]⟩
  · intro H q
    exact ⟨xs, q, rfl⟩
  · rintro i H v H' hi q ⟨T, one, ev, hT, eH, all⟩
    exact ⟨T, one, ev, hT, eH, all xs q⟩
/-- the iterator's state: its counter, the list's own iterator behind it -/
def AtEnum (a e it : Addr) (k : Int) (n : Nat) (h : Heap) : Prop := (∃ old, IsEnum h e it (k + (n : Int)) old) ∧ h.IsListIter it a n ∧ e ≠ it
theorem apart_list {h : Heap} {a it : Addr} {n : Nat} {items : Array Value} (hl : h.IsList a items) (hi : h.IsListIter it a n) : a ≠ it := fun z => by
  obtain ⟨o1, e1, c1, _⟩ := hl
  obtain ⟨o2, e2, c2, _⟩ := hi
  rw [z, e2] at e1
  cases e1
  rw [c1] at c2
  injection c2 with c2
  exact absurd c2 (by decide)
theorem apart_enum {h : Heap} {a e it : Addr} {i : Int} {old : Value} {items : Array Value} (hl : h.IsList a items) (he : IsEnum h e it i old) : a ≠ e := fun z => by
  obtain ⟨o1, e1, c1, _⟩ := hl
  have e2 : h.get? e = some _ := he
  rw [z, e2] at e1
  cases e1
  injection c1 with c1
  exact absurd c1 (by decide)
theorem turn_enumK {P : Program} {w : World} {K : PySem.W.Frag} {elts : List Expr} {kk : Nat} {tpos : Pos} (a e it : Addr) (k : Int) : Turn P w K (.Tuple elts kk tpos) (EnumK K a k) [e, it] e (AtEnum a e it k) := by
  constructor
  · simp
  · rintro n h ⟨⟨old, he⟩, ⟨o, ho, _, hd⟩, _⟩ b hb
    rcases (by simpa using hb : b = e ∨ b = it) with rfl | rfl
    · exact ⟨_, he, fun _ q => nomatch q⟩
    · refine ⟨o, ho, fun _ q => ?_⟩
      rw [hd] at q
      cases q
  · rintro n h h' ⟨⟨old, he⟩, hi, ne⟩ same
    exact ⟨⟨old, same e (by simp) _ he⟩, hi.at fun o q => same it (by simp) o q, ne⟩
  · intro X eP eW eK calm n pins s σ H E I fp st ⟨items, one, hq, hx⟩
    subst eP eW eK
    obtain ⟨⟨old, he⟩, hi, ne⟩ := st
    obtain ⟨its, rel, plain, size⟩ := I.list hq
    obtain ⟨u, hu, ru⟩ := rel.get hx
    have ne1 := apart_list plain.isList hi
    have ne2 := apart_enum plain.isList he
    have D := Draws.list (prog := X.prog) (w := X.w) (A := X.A.in1) (I.ok.hd calm) it a ne1 its.toArray
    have W := WalksT.enumFrom (A := X.A) k D e ne (by simp [ne, Ne.symm ne2]) (by simp)
    have lt : n < its.toArray.size := by
      have := (List.getElem?_eq_some_iff.mp hu).1
      simpa using this
    refine W.item n s _ E lt ⟨⟨old, he⟩, hi, plain.isList⟩ fun T vals h1 tk ⟨t, x, px, ev⟩ above tup mid keep1 => ⟨.ref T, rfl, ?_⟩
    have apart := W.apart n T h1 mid
    refine W.go elts kk tpos n T _ _ E mid fun h2 st2 keep2 => ?_
    obtain ⟨⟨old2, he2⟩, hi2, _⟩ := st2
    have ex : x = u := by
      have hu' : its.toArray[n]? = some u := by simpa using hu
      rw [hu'] at px
      exact (Option.some.inj px).symm
    subst ex
    obtain ⟨ot, hot, cot, nt, dot⟩ := tup
    have new : ObjOk X.prog X.w (upd H T (.tup [.int (k + (n : Int)), one])) h2 T (.tup [.int (k + (n : Int)), one]) :=
      ⟨(by show 2 ≤ sizeLine; decide), [.int (k + (n : Int)) t, x], .cons ⟨_, rfl⟩ (.cons ru .nil), ⟨ot, keep2 T ot apart hot, cot, nt, by rw [dot, ev]⟩⟩
    have I2 := I.turnedNew (t' := tk) (ch := [e, it]) (h' := h2) (fun b o hb q => keep2 b o hb (keep1 b o hb q)) fp above new
    refine ⟨.ref T, _, I2, rfl, ⟨T, one, rfl, I.hok.fresh above, rfl, fun ys hy => ?_⟩, ⟨⟨old2, he2⟩, hi2, ne⟩, fun b hb => ?_⟩
    · rw [I.list_inj hy hq]
      exact hx
    · rw [upd_ne fun z => apart (by rw [← z]; exact hb)]
      exact (fp b hb).1
  · intro X eP eW eK calm n pins s σ H E I fp st ⟨items, hq, hx⟩
    subst eP eW eK
    obtain ⟨⟨old, he⟩, hi, ne⟩ := st
    obtain ⟨its, rel, plain, size⟩ := I.list hq
    have ne1 := apart_list plain.isList hi
    have ne2 := apart_enum plain.isList he
    have D := Draws.list (prog := X.prog) (w := X.w) (A := X.A.in1) (I.ok.hd calm) it a ne1 its.toArray
    have W := WalksT.enumFrom (A := X.A) k D e ne (by simp [ne, Ne.symm ne2]) (by simp)
    have ln : its.toArray.size = n := by
      have := rel.length
      simp
      omega
    rw [ln] at W
    refine W.done s _ E ⟨⟨old, he⟩, hi, plain.isList⟩ fun h1 tk keep => ⟨rfl, ?_⟩
    exact I.turnedL (t' := tk) (ch := [e, it]) (h' := h1) keep fp
  · rintro A n s Q E ⟨⟨old, he⟩, _⟩ q
    exact wpAny_pyIter_enum he q
/-- enumerate(a list, start=k) -/
def iEnumK (K : PySem.W.Frag) (ta tk : TA) : TI := fun σ H R => ta σ H fun vs H1 => tk σ H1 fun zs H2 => ∃ (a : Addr) (xs : List V) (k : Int), vs = [.ref a] ∧ zs = [.int k] ∧ SqL K H2 a xs ∧ -(2 ^ 63) ≤ k ∧ k < 2 ^ 63 ∧ R (EnumK K a k) H2
theorem pi_enumK {X : Cx} {e : Expr} {kws : List Keyword} {ta tk : TA} {p pos tpos : Pos} {elts : List Expr} {kk : Nat} (gl : Gl X "enumerate") (gm : X.mg "enumerate" = none) (ha : PA X [e] ta) (hk : PK X kws tk)
    (he : starEach [e] X.env = (false, eval e X.env) :: starEach [] X.env := by rfl) (allN : (backToKw pos (keywordEach kws X.env)).all (·.1.isSome) = true := by rfl)
    (noS : ((backTo pos (starEach [e] X.env)).any (·.1) || (backToKw pos (keywordEach kws X.env)).any (·.1.isNone)) = false := by rfl) (names : (backToKw pos (keywordEach kws X.env)).filterMap (·.1) = [Str.ofString "start"] := by rfl) :
    PI X (.Tuple elts kk tpos) (.Call (.Name "enumerate" p) [e] kws pos) (iEnumK X.K ta tk) := by
  constructor
  intro pins s σ H R I h
  refine wpAny_Call_Name_kw (ld_blt I gl gm boot_enumerate ?_)
  have machine : ∀ (hp : Heap), True → ∃ m, (m = Keeper.frame ∨ m = Keeper.machine ∨ m = Keeper.boundFrame) ∧ PySem.W.Looks (model X.prog X.w) hp (keeperOf (.type "enumerate")) m := fun hp _ => ⟨.machine, .inr (.inl rfl), PySem.W.Looks.of_pure rfl⟩
  refine PySem.W.callWith_of (P := fun _ => True) noS machine (evalArgs_kw2 allN ?_ he)
  refine thn (ha.run pos pins s σ H _ I h) ?_
  rintro us s1 ⟨vs, H1, I1, r1, q1⟩
  refine thn (hk.run pos pins s1 σ H1 _ I1 q1) ?_
  rintro ws s2 ⟨zs, H2, I2, r2, a, xs, k, rfl, rfl, hq, k0, k1, q2⟩
  refine ⟨trivial, ?_⟩
  obtain ⟨u, rfl, ru⟩ := vals1 r1
  obtain ⟨z, rfl, rz⟩ := vals1 r2
  obtain rfl : u = Value.ref a := ru
  obtain ⟨t, rfl⟩ := rz
  rw [names]
  obtain ⟨its, rel, plain, size⟩ := I2.list hq
  refine enum_begins_start (begins_list a its.toArray) plain.isList k0 k1 fun h' he hi sz keep => ?_
  refine wpAny_pyIter_enum he ?_
  have I3 : Inv X pins σ H2 { s2 with heap := h' } := I2.kept (t' := s2.toks) keep
  refine ⟨_, [s2.heap.objs.size + 1, s2.heap.objs.size], _, _, H2, rfl, I3, turn_enumK a _ s2.heap.objs.size k, ⟨⟨.none, by simpa using he⟩, ⟨_, hi, rfl, ?_⟩, Nat.succ_ne_self _⟩, fun b hb => ?_, q2⟩
  · rfl
  · have le : s2.heap.objs.size ≤ b := by
      rcases (by simpa using hb : b = s2.heap.objs.size + 1 ∨ b = s2.heap.objs.size) with z | z
      · rw [z]
        exact Nat.le_succ _
      · rw [z]
        exact Nat.le_refl _
    exact I2.fpOk le (I2.hok.fresh le)
end Sx
set_option Elab.async false
set_option linter.all false
set_option maxRecDepth 100000
set_option maxHeartbeats 4000000
/-! c(a, ..), c(a, .., *b), where a local name holds a class of one's own. -/
namespace Cl
open PySem PySem.Spec L2 PyProof.Rows
/-- the i-th slot holds the class at D, an instance of which is made -/
def tMakeL (i : Nat) (D : Addr) (sp : Sp) (E : XK) (t : TA) : TE := fun σ H Q => σ[i]? = some (some (.ref D)) ∧ StX.tMakeR D sp E t σ H Q
section
variable {X : Cx} {CX : CXT} {n i : Nat} {g D : Addr} {sp : Sp} {E : XK} {nm : Str} {a0 : Expr} {as : List Expr} {ta : TA} {q po : Pos}
theorem local_cls {pins : List (Addr × Obj)} {σ : L2.St} {H : Hp} {s : Shared} {G : Value → Shared → Prop} (slot : X.N[i]? = some nm) (vis : Vis X.env.scope nm) (d1 : (nm == ("__debug__" : Str)) = false) (d2 : (nm == ("__classdict__" : Str)) = false) (I : Inv X pins σ H s)
    (hs : σ[i]? = some (some (.ref D))) (k : ∀ s', Inv X pins σ H s' → G (.ref D) s') : wpAny (model X.prog X.w) X.A (eval (.Name nm q) X.env) G X.xe s := by
  refine thn ((pe_var (pos := q) slot vis d1 d2).run pins s σ H (fun y H1 => y = .ref D ∧ H1 = H) I ⟨_, hs, rfl, rfl⟩) ?_
  rintro u s1 ⟨y, H1, J, rel, rfl, rfl⟩
  cases rel
  exact k s1 J
theorem pe_makeL (M : Mk X.K D g) (F : FnR X.prog X.w X.K X.mg X.base CX n g sp) (room : Room (n + 1) X.A) (slot : X.N[i]? = some nm) (vis : Vis X.env.scope nm) (px : Passes CX X E) (pas : PA X (a0 :: as) ta)
    (d1 : (nm == ("__debug__" : Str)) = false := by decide) (d2 : (nm == ("__classdict__" : Str)) = false := by decide) (e1 : starEach (a0 :: as) X.env = (false, eval a0 X.env) :: starEach as X.env := by rfl)
    (e2 : (backTo po (starEach as X.env)).any (·.1) = false := by rfl) : PE X (.Call (.Name nm q) (a0 :: as) [] po) (tMakeL i D sp E ta) := by
  constructor
  rintro pins s σ H Q I ⟨hs, h⟩
  refine wpAny_Call_Name_kw (local_cls slot vis d1 d2 I hs fun s0 I0 => ?_)
  refine PySem.W.callWith_K (h₀ := X.base) I0.ok.mod.kin M.kp (thn (pas.run po pins s0 σ H _ I0 h) ?_) e1 e2
  rintro us s1 ⟨vs, H1, I1, r, made⟩
  exact ⟨I1.kIn, StX.run_makeR M F room px I1 r made⟩
theorem pe_makeLS (M : Mk X.K D g) (F : FnR X.prog X.w X.K X.mg X.base CX n g sp) (room : Room (n + 1) X.A) (slot : X.N[i]? = some nm) (vis : Vis X.env.scope nm) (px : Passes CX X E) (pas : PA X (a0 :: as) ta)
    (d1 : (nm == ("__debug__" : Str)) = false := by decide) (d2 : (nm == ("__classdict__" : Str)) = false := by decide) (e1 : starEach (a0 :: as) X.env = (false, eval a0 X.env) :: starEach as X.env := by rfl)
    (e2 : (backTo po (starEach as X.env)).any (·.1) = true := by rfl) : PE X (.Call (.Name nm q) (a0 :: as) [] po) (tMakeL i D sp E ta) := by
  constructor
  rintro pins s σ H Q I ⟨hs, h⟩
  refine wpAny_Call_Name_kw (local_cls slot vis d1 d2 I hs fun s0 I0 => ?_)
  refine PySem.W.callWith_S2 (h₀ := X.base) I0.ok.mod.kin M.kp (thn (pas.run po pins s0 σ H _ I0 h) ?_) e1 e2
  rintro us s1 ⟨vs, H1, I1, r, made⟩
  exact ⟨I1.kIn, StX.run_makeR M F room px I1 r made⟩
end
end Cl
set_option Elab.async false
set_option linter.all false
set_option maxRecDepth 100000
set_option maxHeartbeats 4000000
/-! str(o), repr(o) by own __str__, __repr__; repr(text). -/
namespace Sx
open PySem PySem.Spec L2 PyProof.Rows
section
variable {X : Cx} {CX : CXT} {n : Nat} {C f : Addr} {fd : FuncData} {ps : List Str} {sp : Sp} {E : XK}
/-- a text is what the own method gives -/
def rTextO (C : Addr) (sp : Sp) (E : XK) : List V → Hp → VK → Prop := fun xs H Q => ∃ (a dx : Addr) (fs : List (Str × V)), xs = [.ref a] ∧ H a = some (.ins C dx fs) ∧ sp [.ref a] H (fun v H' => ∃ y : Str, v = .str y ∧ Q (.str y) H') E
theorem own_text {A : Around} {pins : List (Addr × Obj)} {σ : L2.St} {H : Hp} {s : Shared} {a : Addr} {Q : VK} (F : FnOk X.prog X.w X.K X.mg X.base CX n f fd ps sp) (hr : Room n A) (ev : Env0 X.prog X.w X.K X.mg X.base A X.stack s H) (hb : Binds X.K fd ps []) (hx : Passes CX X E)
    (I : Inv X pins σ H s) (h : sp [.ref a] H (fun v H' => ∃ y : Str, v = .str y ∧ Q (.str y) H') E) : wpAny (model X.prog X.w) A (call (.ref f) [.ref a]) (PySem.W.StrBack fun v s' => EP X pins σ Q v s') X.xe s := by
  have bt := hb s [Value.ref a] I.kIn (by rw [List.append_nil]; exact (F.len _ _ _ _ h).symm ▸ rfl)
  rw [List.append_nil] at bt
  refine wpAny_call (codeAny_mono (F.run A X.stack s H ⟨[Value.ref a], []⟩ [Value.ref a] [.ref a] _ E hr ev bt (.cons rfl .nil) h) fun r s' hq => ?_)
  match r, hq with
  | .error e, hq => exact hx pins σ H s e s' I hq
  | .ok (.ret u), hq =>
    obtain ⟨z, H', I', rz, y, ez, q'⟩ := I.after hq
    subst ez
    obtain ⟨t, rfl⟩ := rz
    exact ⟨.str y, H', I', ⟨t, rfl⟩, q'⟩
  | .ok .next, hq => exact False.elim hq
  | .ok .brk, hq => exact False.elim hq
  | .ok .cont, hq => exact False.elim hq
theorem call_strO (F : FnOk X.prog X.w X.K X.mg X.base CX n f fd ps sp) (hr : Room (n + 2) X.A) (hs : PySem.W.findIn X.K (.ref C) "__str__" = some (some (.ref f))) (hf : PySem.W.isFn X.K (.ref f) = true) (hb : Binds X.K fd ps []) (hx : Passes CX X E) : CallR X (.type "str") (rTextO C sp E) := by
  intro pins s σ H xs us Q I r h
  obtain ⟨a, dx, fs, rfl, ha, hsp⟩ := h
  obtain ⟨u, rfl, ru⟩ := vals1 r
  obtain rfl : u = Value.ref a := ru
  obtain ⟨mA, J, _⟩ := ins_get I.hok ha
  obtain ⟨od, J, _⟩ := J.look
  have hr1 : Room (n + 1) X.A.in1 := hr.in1
  have hr2 : Room n X.A.in1.in1 := hr1.in1
  exact PySem.W.kso_call hr2.units0 I.kIn J hs hf (own_text F hr2 I.env0.in1.in1 hb hx I hsp)
theorem call_reprO (F : FnOk X.prog X.w X.K X.mg X.base CX n f fd ps sp) (hr : Room (n + 1) X.A) (hs : PySem.W.findIn X.K (.ref C) "__repr__" = some (some (.ref f))) (hf : PySem.W.isFn X.K (.ref f) = true) (hb : Binds X.K fd ps []) (hx : Passes CX X E) : CallR X (.builtin "repr") (rTextO C sp E) := by
  intro pins s σ H xs us Q I r h
  obtain ⟨a, dx, fs, rfl, ha, hsp⟩ := h
  obtain ⟨u, rfl, ru⟩ := vals1 r
  obtain rfl : u = Value.ref a := ru
  obtain ⟨mA, J, _⟩ := ins_get I.hok ha
  obtain ⟨od, J, _⟩ := J.look
  obtain ⟨m, fr⟩ := I.fr
  have hr1 : Room n X.A.in1 := hr.in1
  exact PySem.W.repr_K hr1.units0 fr I.ok.mod.kin J hs hf (own_text F hr1 I.env0.in1 hb hx I hsp)
theorem call_reprS : CallR X (.builtin "repr") (fun xs H Q => ∃ y : Str, xs = [.str y] ∧ (reprText y).length ≤ sizeLine ∧ Q (.str (reprText y)) H) := by
  intro pins s σ H xs us Q I r h
  obtain ⟨y, rfl, hz, q⟩ := h
  obtain ⟨u, rfl, t, rfl⟩ := vals1 r
  exact PySem.P.repr_of_str ⟨.str _, H, I.tok _, ⟨_, rfl⟩, q⟩ hz
end
end Sx
set_option Elab.async false
set_option linter.all false
set_option maxRecDepth 100000
set_option maxHeartbeats 8000000
namespace Cl.K54
open PySem PySem.Spec L2 PyProof.Rows
section
variable {P : Program} {w : World} {K : PySem.W.Frag} {mg : Str → Option Value} {base : Heap} {C : Addr}
theorem scEqA : FnScope ["self", "other"] ["self", "other"] (defScope sEqA) := ⟨rfl, rfl, rfl, by decide +kernel, rfl, by decide +kernel, by decide +kernel⟩
theorem ok_eqA {f : Addr} {fd : FuncData} (F : Fun K "__eq__" "Alphabet.__eq__" sEqA f fd) (T : ATxt K mg C) (J : IsTxt K C) (hi : mg "isinstance" = none) : FnOk P w K mg base CX0 1 f fd ["self", "other"] (spEqA C) := by
  refine F.ok scEqA (fun vs H Q E h => ?_) (fun cdv A outer s H vs Q E hr h => ?_)
  · obtain ⟨p, q, l, v, l', v', rfl, _⟩ := h
    rfl
  · obtain ⟨p, q, l, v, l', v', rfl, ⟨dx, hp⟩, ⟨dy, hq⟩, k⟩ := h
    refine ⟨_, pss_one (ps_ret (pe_and (pe_callB call_isi (by rfl) hi (by decide +kernel) (pa_cons (pv 1) (pa_cons (pe_glob (v := .ref C) rfl T.mgC rfl) pa_nil))) (pe_and (pe_cmpR op_eq (pe_fld (pv 0) rfl) (pe_fld (pv 1) rfl) (nomark _)) (pe_one (pe_cmpR op_eq (pe_fld (pv 0) rfl) (pe_fld (pv 1) rfl) (nomark _)))))), ?_⟩
    refine ⟨_, rfl, _, _, _, _, true, rfl, .own C, .base (.ins hq T.cl J.ha J.hn J.htk J.hm), kit_self, true, rfl, ?_⟩
    refine ⟨_, rfl, p, C, dx, _, _, rfl, hp, T.cl, T.nL, af_letters l v, _, rfl, q, C, dy, _, _, rfl, hq, T.cl, T.nL, af_letters l' v', rfl, _, rfl, ?_⟩
    rw [vs_eq]
    refine ite2 (fun h1 => ?_) (fun h1 => ?_)
    · refine ⟨_, rfl, p, C, dx, _, _, rfl, hp, T.cl, T.nV, af_vowels l v, _, rfl, q, C, dy, _, _, rfl, hq, T.cl, T.nV, af_vowels l' v', rfl, ?_⟩
      rw [vs_eq]
      rw [h1, Bool.true_and] at k
      exact k
    · rw [Bool.not_eq_true] at h1
      rw [h1, Bool.false_and] at k
      exact k
end
end Cl.K54
namespace Cl
open PySem PySem.Spec L2 PyProof.Rows
theorem StD.no_m (d : StD) : d.fs.lookup ("start" : Str) = none ∧ d.fs.lookup ("step" : Str) = none ∧ d.fs.lookup ("end" : Str) = none ∧ d.fs.lookup ("text" : Str) = none ∧ d.fs.lookup ("alphabet" : Str) = some (.ref d.q) := by
  obtain ⟨k, q, c, n, m, af, e⟩ := d
  cases k <;> exact ⟨rfl, rfl, rfl, rfl, rfl⟩
end Cl
namespace Cl
open PySem PySem.Spec L2 PyProof.Rows
structure Cl5 (K : PySem.W.Frag) (W : Addr) : Prop where
  cl : Cls K W
  nA : NoAttr K W "alphabet"
end Cl
namespace Cl
open PySem PySem.Spec L2 PyProof.Rows
theorem cxUp0 : StX.CXUp CX0 := StX.cxUp_none
theorem p_mono {α β : Type} {F G : α → β → Prop} (h : ∀ a b, F a b → G a b) : ∀ {xs : List α} {ys : List β}, Paired F xs ys → Paired G xs ys
  | _, _, .nil => .nil
  | _, _, .cons r t => .cons (h _ _ r) (p_mono h t)
theorem p_get {α β : Type} {F : α → β → Prop} : ∀ {xs : List α} {ys : List β} {i : Nat} {x : α}, Paired F xs ys → xs[i]? = some x → ∃ y, ys[i]? = some y ∧ F x y
  | _, _, _, _, .nil, e => by simp at e
  | _, _, 0, _, .cons r _, e => by simp at e; subst e; exact ⟨_, rfl, r⟩
  | _, _, i + 1, x, .cons _ t, e => by
    obtain ⟨u, h1, h2⟩ := p_get (i := i) (x := x) t (by simpa using e)
    exact ⟨u, by simpa using h1, h2⟩
theorem take_snocG {α : Type} {l : List α} {i : Nat} {c : α} (h : l[i]? = some c) : l.take (i + 1) = l.take i ++ [c] := by
  rw [List.take_succ, h]
  rfl
def StageAt (C : Addr) (Wc : Kd → Addr) (l v : List Nat) (H : Hp) (a : Addr) (d : StD) : Prop := ∃ dx, H a = some (.ins (Wc d.k) dx d.fs) ∧ AlphaAt C H d.q l v
theorem StageAt.same {C : Addr} {Wc : Kd → Addr} {l v : List Nat} {H H' : Hp} {a : Addr} {d : StD} (h : StageAt C Wc l v H a d) (s : Same H H') : StageAt C Wc l v H' a d := let ⟨dx, e, al⟩ := h; ⟨dx, s _ _ e, al.same s⟩
def rF (q st : Addr) : List (Str × V) := [("alphabet", .ref q), ("stages", .ref st)]
def RuleAt (C RC : Addr) (Wc : Kd → Addr) (H : Hp) (a : Addr) (l v : List Nat) (ds : List StD) : Prop := ∃ (dx q st : Addr) (as : List Addr), H a = some (.ins RC dx (rF q st)) ∧ AlphaAt C H q l v ∧ H st = some (.tup (as.map V.ref)) ∧ Paired (StageAt C Wc l v H) as ds
theorem RuleAt.same {C RC : Addr} {Wc : Kd → Addr} {H H' : Hp} {a : Addr} {l v : List Nat} {ds : List StD} (h : RuleAt C RC Wc H a l v ds) (s : Same H H') : RuleAt C RC Wc H' a l v ds :=
  let ⟨dx, q, st, as, h1, h2, h3, h4⟩ := h
  ⟨dx, q, st, as, s _ _ h1, h2.same s, s _ _ h3, p_mono (fun _ _ z => StageAt.same z s) h4⟩
structure RCls (K : PySem.W.Frag) (RC : Addr) : Prop where
  cl : Cls K RC
  nA : NoAttr K RC "alphabet"
  nS : NoAttr K RC "stages"
  cM : ∃ u, Con K RC "MOST" (.int 4) u
def spRuleI (C RC : Addr) (Wc : Kd → Addr) : Sp := fun vs H Q _ => ∃ (a dx p st : Addr) (l v : List Nat) (as : List Addr) (ds : List StD), vs = [.ref a, .ref p, .ref st] ∧ H a = some (.ins RC dx []) ∧ AlphaAt C H p l v ∧ Lets l 8 ∧ v.Sublist l ∧ H st = some (.tup (as.map V.ref)) ∧ Paired (StageAt C Wc l v H) as ds ∧ ds.length ≤ 4 ∧
  ∀ H', Kp a H H' → RuleAt C RC Wc H' a l v ds → Q .non H'
end Cl
namespace Cl.K54
open PySem PySem.Spec L2 PyProof.Rows
abbrev sRuleI : Stmt := inClass (top 30) 1
abbrev nRuleI : List Str := ["self", "alphabet", "stages", "stage"]
theorem scRuleI : FnScope nRuleI ((["self", "alphabet"] : List Str) ++ (["stages"] : List Str)) (defScope sRuleI) := ⟨rfl, rfl, rfl, by decide +kernel, rfl, by decide +kernel, by decide +kernel⟩
end Cl.K54
namespace Cl.K54
open PySem PySem.Spec L2 PyProof.Rows
section
variable {P : Program} {w : World} {K : PySem.W.Frag} {mg : Str → Option Value} {base : Heap} {C RC : Addr} {Wc gS gP gE : Kd → Addr}
theorem ok_ruleI {f fC fE : Addr} {fd fdC fdE : FuncData} (F : Fun K "__init__" "Rule.__init__" sRuleI f fd) (Z : ∀ j, Cl5 K (Wc j)) (ZR : RCls K RC)
    (GC : FnOk P w K mg base CX0 5 fC fdC ["alphabet"] (spCopy C)) (bC : Binds K fdC ["alphabet"] []) (gC : mg "copy_of" = some (.ref fC)) (kC : PySem.W.keepIn K (.ref fC) = true)
    (GE : FnOk P w K mg base CX0 1 fE fdE ["self", "other"] (spEqA C)) (bE : Binds K fdE ["self", "other"] []) (sE : PySem.W.findIn K (.ref C) "__eq__" = some (some (.ref fE))) (iE : PySem.W.isFn K (.ref fE) = true)
    (nE : PySem.W.findIn K (.ref C) "__ne__" = some (some (.builtin "object.__ne__"))) (mE : PySem.W.mroIn K C (.type "object") = some true) (hn : mg "len" = none) (ha : mg "any" = none) :
    FnR P w K mg base CX0 6 f (fun vs H Q E => ∃ ws rest, vs = ws ++ rest ∧ ws.length = ["self", "alphabet"].length ∧ rest.length ≤ sizeLine ∧ ∀ p, H p = Option.none → spRuleI C RC Wc (ws ++ [V.ref p]) (upd H p (.tup rest)) Q E) := by
  obtain ⟨oc, od, kV, doc, pm, an, cdv, ct, osl, rfl, lk, hcd⟩ := F.ex
  refine StX.fn_star (ps := ["self", "alphabet"]) (pv := "stages") (N := nRuleI) (k := 5) lk hcd scRuleI cxUp0 (StX.bind_star2 (B := fun us => bindArgs (PySem.W.fnOf "__init__" "Rule.__init__" (defArgs sRuleI) (defBody sRuleI) (defScope sRuleI) .none kV doc pm an cdv ct) ⟨us, []⟩) (p1 := "self") (p2 := "alphabet") (pv := "stages") (fun a b => by rfl) (fun a b r rs => by rfl)) (fun A outer s H vs Q E hr h => ?_)
  obtain ⟨a, dx, p, st, l, v, as, ds, rfl, hA, al, hL, hv, hst, pst, d4, k⟩ := h
  have hr5 : Room 5 _ := hr
  have hr2 : Room 2 _ := hr.mono (by decide)
  refine ⟨_, pss_cons (ps_if (pt_cmpR op_gt (pe_callB call_len_seq (by rfl) hn PySem.boot_len (pa_cons (pv 2) pa_nil)) (pe_con (pv 0) rfl) (nomark _)) (pss_one ps_never) pss_nil)
    (pss_cons (ps_if (pt_val (pe_callB (cr_any rfl) (by rfl) ha (by decide +kernel) (pa_cons (pe_lc (own := [("stage", 3)]) (g := gName 3) (tt := tYes) (te := tOp (rNeI C (spEqA C) E0) (tFld K (tVar 3) "alphabet") (tVar 1)) rfl scRuleI.nd (pi_tup (pv 2)) (blkOk_by (N := nRuleI) (sc := defScope sRuleI) (by decide +kernel))
        (fun _ _ _ _ _ => pg_name (i := 3) scRuleI.nd rfl (Or.inl rfl)) (fun _ _ _ _ _ => pts_nil) (fun _ _ _ _ _ => pe_cmpR (op_neI GE hr2 sE iE nE mE bE pass0) (pe_fld (pv 3) rfl) (pv 1) (nomark _))) pa_nil))) (pss_one ps_never) pss_nil)
    (pss_cons (ps_fld (pv 0) (pe_call GC hr5 rfl gC kC bC .nil pass0 (pa_cons (pv 1) pa_nil)) rfl)
    (pss_one (ps_fld (pv 0) (pv 2) rfl)))), ?_⟩
  obtain ⟨uM, cM⟩ := ZR.cM
  have al4 : (as.map V.ref).length ≤ 4 := by
    rw [List.length_map, pst.length]
    exact d4
  refine ⟨_, rfl, st, _, rfl, .inr (SqT.of hst), _, rfl, a, RC, dx, _, .int 4, uM, rfl, hA, ZR.cl, cM, rfl, _, _, rfl, rfl, _, rfl, ?_⟩
  rw [decide_eq_false (by omega)]
  refine iteF ?_
  obtain ⟨dp, hp⟩ := al
  refine ⟨_, rfl, st, rfl, ⟨_, SqT.of hst⟩, fun D hD => ?_⟩
  have sD : ∀ xs, Same H (upd H D (.lst xs)) := fun xs => same_new hD
  refine lc_it walk_tup (fun i H' => H' = upd H D (.lst (List.replicate i (V.bl false)))) rfl (fun i H' _ e => by rw [e]; exact SqT.of (sD _ _ _ hst)) ?_ ?_
  · rintro i x H3 H4 hi rfl ⟨rfl, ex⟩
    have hi4 : i < 4 := by omega
    rw [List.getElem?_map] at ex
    obtain ⟨ai, eai, rfl⟩ : ∃ ai, as[i]? = some ai ∧ x = .ref ai := by
      cases e : as[i]? with
      | none => rw [e] at ex; cases ex
      | some ai =>
        rw [e] at ex
        injection ex with ex
        exact ⟨ai, rfl, ex.symm⟩
    obtain ⟨d, _, dxi, hi', dqi, hqi⟩ := p_get pst eai
    have nm := StD.no_m d
    have s4 := sD (List.replicate i (V.bl false))
    refine ⟨rfl, _, rfl, ai, Wc d.k, dxi, d.fs, .ref d.q, rfl, s4 _ _ hi', (Z d.k).cl, (Z d.k).nA, nm.2.2.2.2, _, rfl, d.q, p, dqi, dp, _, _, rfl, rfl, s4 _ _ hqi, s4 _ _ hp, d.q, p, l, v, l, v, rfl, ⟨dqi, s4 _ _ hqi⟩, ⟨dp, s4 _ _ hp⟩, _, rfl, ?_⟩
    rw [decide_eq_true rfl, decide_eq_true rfl]
    refine ⟨_, upd_same, by rw [List.length_replicate, sizeLine_eq]; omega, ?_⟩
    rw [upd_upd, List.replicate_succ']
    rfl
  rintro H3 rfl
  have s3 := sD (List.replicate (as.map V.ref).length (V.bl false))
  refine ⟨D, List.replicate (as.map V.ref).length false, rfl, ?_, _, rfl, ?_⟩
  · rw [List.map_replicate]
    exact SqL.of upd_same
  have eany : ∀ n : Nat, (List.replicate n false).any id = false := fun n => by
    rw [List.any_eq_false]
    intro x hx
    rw [List.eq_of_mem_replicate hx]
    simp
  rw [eany]
  refine iteF ?_
  generalize upd H D (.lst (List.replicate (as.map V.ref).length (V.bl false))) = H3 at s3
  refine ⟨_, rfl, p, l, v, rfl, ⟨dp, s3 _ _ hp⟩, hL, hv, fun q H4 s4 nq alq => ?_⟩
  have s34 := s3.trans s4
  refine ⟨_, rfl, a, RC, dx, [], rfl, s34 _ _ hA, ZR.cl, ZR.nA, (by show 0 < 1000; decide), ?_⟩
  refine ⟨_, rfl, _, rfl, a, RC, dx, _, rfl, upd_same, ZR.cl, ZR.nS, (by show 1 < 1000; decide), ?_⟩
  rw [upd_upd]
  have kf : ∀ o, Kp a H (upd H4 a o) := fun o b o' nb e => by
    rw [upd_ne nb]
    exact s34 _ _ e
  have qa : q ≠ a := fun z => by
    rw [z, s3 _ _ hA] at nq
    cases nq
  refine k _ (kf _) ⟨dx, q, st, as, upd_same, ?_, kf _ _ _ (ne_of hst hA fun z => nomatch z) hst, p_mono (fun ai d h => ?_) pst⟩
  · obtain ⟨dq, hq⟩ := alq
    exact ⟨dq, by rw [upd_ne qa]; exact hq⟩
  · obtain ⟨dxi, hi', dqi, hqi⟩ := h
    have nm := (StD.no_m d).2.2.2.2
    refine ⟨dxi, kf _ _ _ (ne_of hi' hA fun z => ?_) hi', dqi, kf _ _ _ (ne_of hqi hA fun z => ?_) hqi⟩
    · injection z with _ _ z3
      rw [z3] at nm
      cases nm
    · injection z with _ _ z3
      cases z3
end
end Cl.K54
namespace Cl
open PySem PySem.Spec L2 PyProof.Rows
theorem ref_at {as : List Addr} {i : Nat} {x : V} (ex : (as.map V.ref)[i]? = some x) : ∃ ai, as[i]? = some ai ∧ x = .ref ai := by
  rw [List.getElem?_map] at ex
  cases e : as[i]? with
  | none => rw [e] at ex; cases ex
  | some ai =>
    rw [e] at ex
    injection ex with ex
    exact ⟨ai, rfl, ex.symm⟩
theorem lt_of_get {α : Type} {l : List α} {i : Nat} {a : α} (h : l[i]? = some a) : i < l.length := (List.getElem?_eq_some_iff.mp h).1
end Cl
namespace Cl
open PySem PySem.Spec L2 PyProof.Rows
def cKeep : List Nat := [107, 101, 101, 112]
def cSemi : List Nat := [59, 32]
theorem eKeep : ("keep" : Str) = S cKeep := by decide +kernel
theorem eSemi : ("; " : Str) = S cSemi := by decide +kernel
def textR (ds : List StD) : List Nat := if ds.length = 0 then cKeep else TL.joinL cSemi (ds.map textD)
def OkD (d : StD) : Prop := d.n.length ≤ 60 ∧ d.af ≤ 3
theorem textD_len {d : StD} (h : OkD d) : (textD d).length ≤ 100 := by
  obtain ⟨k, q, c, n, m, af, e⟩ := d
  have hn : n.length ≤ 60 := h.1
  have l1 := afT_len (af := af)
  have l2 := eaT_len (e := e)
  cases k
  · show (((cDropS ++ n) ++ afT af) ++ eaT e).length ≤ 100
    rw [List.length_append, List.length_append, List.length_append]
    show 5 + _ + _ + _ ≤ _
    omega
  · show ((((cDropS ++ n) ++ afT af) ++ eaT e) ++ cBut).length ≤ 100
    rw [List.length_append, List.length_append, List.length_append, List.length_append]
    show 5 + _ + _ + _ + 9 ≤ _
    omega
  · show (((cWrite ++ [c]) ++ cFor) ++ n).length ≤ 100
    rw [List.length_append, List.length_append, List.length_append]
    show 6 + 1 + 5 + _ ≤ _
    omega
  · show (cOnce ++ n).length ≤ 100
    rw [List.length_append]
    show 5 + _ ≤ _
    omega
  · show (cAdd ++ [c]).length ≤ 100
    rw [List.length_append]
    show 4 + 1 ≤ 100
    omega
theorem join_semi (ys : List (List Nat)) : Txt.join (S cSemi) (ys.map S) = S (TL.joinL cSemi ys) := by
  rw [join_tl, S_cps, List.map_map]
  have e : ((fun z : Str => z.cps.toList) ∘ S) = id := by
    funext l
    exact S_cps l
  rw [e, List.map_id]
theorem flat_lenB {b : Nat} : ∀ {ys : List (List Nat)}, (∀ y ∈ ys, y.length ≤ b) → ys.flatten.length ≤ ys.length * b
  | [], _ => by simp
  | y :: r, h => by
    have h1 := h y (List.mem_cons_self ..)
    have h2 := flat_lenB (ys := r) fun z hz => h z (List.mem_cons_of_mem _ hz)
    rw [List.flatten_cons, List.length_append, List.length_cons, Nat.succ_mul]
    omega
def spRText (C RC : Addr) (Wc : Kd → Addr) : Sp := fun vs H Q _ => ∃ (a : Addr) (l v : List Nat) (ds : List StD), vs = [.ref a] ∧ RuleAt C RC Wc H a l v ds ∧ ds.length ≤ 4 ∧ (∀ d ∈ ds, OkD d) ∧
  ∀ H', Same H H' → Q (.str (S (textR ds))) H'
end Cl
namespace Cl.K54
open PySem PySem.Spec L2 PyProof.Rows
abbrev sRText : Stmt := inClass (top 30) 9
theorem scRText : FnScope ["self", "stage"] ["self"] (defScope sRText) := ⟨rfl, rfl, rfl, by decide +kernel, rfl, by decide +kernel, by decide +kernel⟩
end Cl.K54
namespace Cl.K54
open PySem PySem.Spec L2 PyProof.Rows
section
variable {P : Program} {w : World} {K : PySem.W.Frag} {mg : Str → Option Value} {base : Heap} {C RC : Addr} {Wc gT : Kd → Addr}
theorem ok_rtext {f : Addr} {fd : FuncData} (F : Fun K "text" "Rule.text" sRText f fd) (Z : ∀ j, Cl5 K (Wc j)) (ZR : RCls K RC) (mT : ∀ j, Meth K (Wc j) "text" (gT j)) (FT : ∀ j, FnR P w K mg base CX0 2 (gT j) (sp5T Wc j))
    (gK : ∃ u, mg "_KEEP" = some u ∧ RelV (.str ("keep" : Str)) u) (hn : mg "len" = none) : FnOk P w K mg base CX0 3 f fd ["self"] (spRText C RC Wc) := by
  refine F.ok scRText (fun vs H Q E h => ?_) (fun cdv A outer s H vs Q E hr h => ?_)
  · obtain ⟨a, l, v, ds, rfl, _⟩ := h
    rfl
  · obtain ⟨a, l, v, ds, rfl, ⟨dx, q, st, as, ha, aq, hst, pst⟩, d4, od, k⟩ := h
    refine ⟨_, pss_cons (ps_if (pt_cmpR op_eq (pe_callB call_len_seq (by rfl) hn PySem.boot_len (pa_cons (pe_fld (pv 0) rfl) pa_nil)) pe_int (nomark _)) (pss_one (ps_ret (C8.pe_gc (v := .str ("keep" : Str)) rfl gK))) pss_nil)
      (pss_one (ps_ret (pe_join pe_str (pe_lc (own := [("stage", 1)]) (g := gName 1) (tt := tYes) (te := Sx.tMethF Wc "text" (sp5T Wc) E0 (tVar 1)) rfl scRText.nd (pi_tup (pe_fld (pv 0) rfl)) (blkOk_by (N := ["self", "stage"]) (sc := defScope sRText) (by decide +kernel))
      (fun _ _ _ _ _ => pg_name (i := 1) scRText.nd rfl (Or.inl rfl)) (fun _ _ _ _ _ => pts_nil) (fun _ _ _ _ _ => Sx.pe_methF0 (pv 1) (fun j => (Z j).cl) mT FT hr pass0))))), ?_⟩
    have pl := pst.length
    refine ⟨_, rfl, a, RC, dx, _, _, rfl, ha, ZR.cl, ZR.nS, rfl, st, _, rfl, .inr (SqT.of hst), rfl, _, rfl, ?_⟩
    have e0 : decide (V.int (((as.map V.ref).length : Nat) : Int) = V.int 0) = decide (ds.length = 0) := by
      rw [List.length_map, pl]
      exact decide_eq_decide.mpr ⟨fun z => by injection z with z; omega, fun z => by rw [z]; rfl⟩
    rw [e0]
    by_cases h0 : ds.length = 0
    · rw [decide_eq_true h0]
      refine iteT ?_
      have z := k H (Same.refl H)
      unfold textR at z
      rw [if_pos h0, ← eKeep] at z
      exact z
    · rw [decide_eq_false h0]
      refine iteF ?_
      refine ⟨⟨_, rfl⟩, _, rfl, a, RC, dx, _, _, rfl, ha, ZR.cl, ZR.nS, rfl, st, rfl, ⟨_, SqT.of hst⟩, fun D hD => ?_⟩
      refine lc_it walk_tup (fun i H' => Same H H' ∧ H' D = some (.lst (txs ((ds.take i).map textD)))) ⟨same_new hD, upd_same⟩ (fun i H' _ ⟨s, _⟩ => SqT.of (s _ _ hst)) ?_ ?_
      · rintro i x H3 H4 hi ⟨s3, hD3⟩ ⟨rfl, ex⟩
        obtain ⟨ai, eai, rfl⟩ := ref_at ex
        obtain ⟨d, ed, dxi, hi', _⟩ := p_get pst eai
        have nm := (StD.no_m d).2.2.2.1
        have ilt := lt_of_get ed
        have hod := od d (List.mem_of_getElem? ed)
        refine ⟨rfl, _, rfl, d.k, ai, dxi, d.fs, rfl, s3 _ _ hi', nm, d, ai, dxi, rfl, rfl, s3 _ _ hi', hod.1, hod.2, _, hD3, ?_, ?_, ?_⟩
        · unfold txs
          rw [List.length_map, List.length_map, List.length_take, sizeLine_eq]
          omega
        · intro b o e
          rw [upd_ne (ne_of_none e hD)]
          exact s3 _ _ e
        · rw [upd_same, take_snocG ed, List.map_append]
          unfold txs
          rw [List.map_append]
          rfl
      · rintro H3 ⟨s3, hD3⟩
        rw [List.length_map, pl, List.take_length] at hD3
        have fl := flat_lenB (ys := ds.map textD) (b := 100) (fun y hy => by obtain ⟨d, hd, e⟩ := List.mem_map.mp hy; rw [← e]; exact textD_len (od d hd))
        rw [List.length_map] at fl
        rw [eSemi]
        refine ⟨S cSemi, D, (ds.map textD).map S, rfl, rfl, .inl ?_, join_room (ds.map textD) _ 0 (by rw [S_len]; decide) (by rw [List.length_map]; omega) (by omega), ?_⟩
        · rw [strs_map]
          exact SqL.of hD3
        · rw [join_semi]
          have z := k H3 s3
          unfold textR at z
          rw [if_neg h0] at z
          exact z
end
end Cl.K54
namespace Cl
open PySem PySem.Spec L2 PyProof.Rows
theorem joinL_size (s : List Nat) : ∀ ys : List (List Nat), (TL.joinL s ys).length ≤ ys.flatten.length + ys.length * s.length
  | [] => by simp [TL.joinL]
  | [p] => by simp [TL.joinL]
  | p :: q :: r => by
    have ih := joinL_size s (q :: r)
    have e : TL.joinL s (p :: q :: r) = p ++ s ++ TL.joinL s (q :: r) := by simp [TL.joinL]
    rw [e, List.length_append, List.length_append, List.flatten_cons, List.length_append]
    have e2 : (p :: q :: r).length * s.length = (q :: r).length * s.length + s.length := by
      rw [List.length_cons, Nat.add_mul, Nat.one_mul]
    rw [e2]
    omega
theorem textR_len {ds : List StD} (h8 : ds.length ≤ 8) (od : ∀ d ∈ ds, OkD d) : (textR ds).length ≤ 820 := by
  unfold textR
  split
  · decide
  · have fl := flat_lenB (ys := ds.map textD) (b := 100) (fun y hy => by obtain ⟨d, hd, e⟩ := List.mem_map.mp hy; rw [← e]; exact textD_len (od d hd))
    have jl := joinL_size cSemi (ds.map textD)
    rw [List.length_map] at fl jl
    have e2 : cSemi.length = 2 := rfl
    rw [e2] at jl
    omega
end Cl
set_option Elab.async false
set_option linter.all false
set_option maxRecDepth 100000
set_option maxHeartbeats 4000000
/-! isinstance(e, c), e the error that a suite holds, with a dict of its own. -/
namespace Sx
open PySem PySem.Spec L2 PyProof.Rows
def rIsX (K : PySem.W.Frag) (a : Addr) (cls : Value) (d : Option Addr) : List V → Hp → VK → Prop := fun xs H Q => ∃ (D dd : Addr) (c : V) (cv : Value) (b : Bool) (fs : List (Str × V)), cls = .ref D ∧ d = some dd ∧ ExcC K D ∧
  xs = [.ref a, c] ∧ (∀ u, RelV c u → u = cv) ∧ H dd = some (.xd fs) ∧ PySem.W.kitOne K (.ref D) cv = some b ∧ Q (.bl b) H
theorem call_isX {X : Cx} {a : Addr} {cls : Value} {d : Option Addr} {oe : Obj} {pn : List (Addr × Obj)} (hz : Zc cls d oe) (hf : ∃ vs, oe.data = .fields vs) : CallR (X.suite a ((a, oe) :: pn)) (.builtin "isinstance") (rIsX X.K a cls d) := by
  rintro pins s σ H xs us Q I r ⟨D, dd, c, cv, b, fs, rfl, rfl, C, rfl, hcv, hd, hk, q⟩
  obtain ⟨u1, u2, rfl, ra, rc⟩ : ∃ u1 u2, us = [u1, u2] ∧ RelV (.ref a) u1 ∧ RelV c u2 := by
    cases r with
    | cons ra rr => cases rr with
      | cons rc rn => cases rn; exact ⟨_, _, rfl, ra, rc⟩
  obtain rfl : u1 = Value.ref a := ra
  obtain rfl := hcv _ rc
  have pin := (I.pin (a, oe) (List.mem_append.mpr (.inl List.mem_cons_self))).1
  obtain ⟨vs, hv⟩ := hf
  obtain ⟨mA, hns, _⟩ : ObjOk X.prog X.w H s.heap dd (.xd fs) := I.hok dd _ hd
  obtain ⟨od, ho, _⟩ := lookIn_ns hns
  have J : PySem.W.InstAt s.heap a oe D (some od) := ⟨pin, hz.1, by unfold PySem.W.notCls; rw [hv], by rw [hz.2]; exact ho⟩
  have hcl : (PySem.W.clsIn X.K D).isSome = true := by
    obtain ⟨cd, hc, _⟩ := PySem.W.any_some C.hd
    rw [hc]
    rfl
  exact PySem.W.kia_one (PySem.W.kitx_exc hcl C.hg C.hk C.hs C.ha C.hn C.ht C.hm) I.kIn J hk (fun z => nomatch z) fun tk => ⟨.bl b, H, I.kept (t' := tk) fun _ _ y => y, rfl, q⟩
end Sx
set_option Elab.async false
set_option linter.all false
set_option maxRecDepth 100000
set_option maxHeartbeats 4000000
/-! Errors of one's own as values: made, their fields, isinstance. -/
namespace Sx
open PySem PySem.Spec L2 PyProof.Rows
/-- C(..) as a value -/
def tMkX (C : Addr) (sp : Sp) (ta : TA) : TE := fun σ H Q => ta σ H fun vs H1 => vs.length ≤ 1000 ∧ ∀ a, H1 a = none → sp (.ref a :: vs) (upd H1 a (exo a C none)) (fun v H2 => v = .non ∧ Q (.ref a) H2) (fun _ _ _ => False)
section
variable {X : Cx} {CXa : CXT} {k : Nat} {g C : Addr} {gd : FuncData} {ns : List Str} {sp : Sp} {x : Str} {p pos : Pos} {a0 : Expr} {as : List Expr} {ta : TA} {pins : List (Addr × Obj)} {σ : L2.St} {H : Hp} {s : Shared} {Q : VK}
theorem make_x {us : List Value} {vs : List V} (T : OexC X.K C) (iC : PySem.W.findIn X.K (.ref C) "__init__" = some (some (.ref g))) (tI : PySem.W.typeIn X.K (.ref g) = some (.type "function")) (FG : FnOk X.prog X.w X.K X.mg X.base CXa k g gd ns sp) (hr : Room (k + 1) X.A) (hb : Binds X.K gd ns [])
    (hx : Passes CXa X (fun _ _ _ => False)) (I : Inv X pins σ H s) (r : Vals vs us) (hz : vs.length ≤ 1000) (h : ∀ a, H a = none → sp (.ref a :: vs) (upd H a (exo a C none)) (fun v H2 => v = .non ∧ Q (.ref a) H2) (fun _ _ _ => False)) :
    wpAny (model X.prog X.w) X.A (call (.ref C) us) (EP X pins σ Q) X.xe s := by
  obtain ⟨nm, q, N, bs, bm, sn, sub, ab, col, dd, k0, k1, k2, k3, k5, hC, hbm⟩ := T.cls
  obtain ⟨hp, gs, dr, tk, os⟩ := s
  have up : ∀ b o, hp.get? b = some o → ((hp.push (PySem.W.kdv_tup us)).push (PySem.HandSPX.excO C hp.objs.size)).get? b = some o := fun b o e => Heap.get?_push_of_some _ (Heap.get?_push_of_some _ e)
  have new : ((hp.push (PySem.W.kdv_tup us)).push (PySem.HandSPX.excO C hp.objs.size)).get? (hp.objs.size + 1) = some (PySem.HandSPX.excO C hp.objs.size) := by heap_get
  have J := I.laid (t' := tk) (a := hp.objs.size + 1) (o := exo (hp.objs.size + 1) C none) (h' := (hp.push (PySem.W.kdv_tup us)).push (PySem.HandSPX.excO C hp.objs.size)) up (Nat.le_succ _) (exo_ok new)
  have q1 := h (hp.objs.size + 1) (I.hok.fresh (Nat.le_succ _))
  have r2 : Vals (V.ref (hp.objs.size + 1) :: vs) (Value.ref (hp.objs.size + 1) :: us) := .cons rfl r
  have hlen : (Value.ref (hp.objs.size + 1) :: us).length = ns.length := r2.length.symm.trans (FG.len _ _ _ _ q1)
  have hus : us.length ≤ sizeLine := by
    rw [← r.length, sizeLine_eq]
    omega
  have bt := hb _ (Value.ref (hp.objs.size + 1) :: us) J.kIn (by rw [List.append_nil]; exact hlen)
  rw [List.append_nil] at bt
  have body := FG.run _ X.stack _ _ ⟨Value.ref (hp.objs.size + 1) :: us, []⟩ _ _ _ _ (hr.make C us []) (J.env0.make C us []) bt r2 q1
  refine wpAny_call (PySem.HandSPX.call_own F.excBase_ValueError (fun Y => PySem.HandSPX.refsVE_contains Y bm hbm) (I.kIn _ _ hC) (PySem.W.looks_findIn I.kIn iC) (fun self => PySem.W.bind_fn I.kIn self tI) hus (codeAny_mono body fun res s' hres => ?_))
  match res, hres with
  | .error e, hres => exact hx pins σ _ _ e s' J hres
  | .ok (.ret u), hres =>
    obtain ⟨v, H3, J3, rw3, ev, q3⟩ := J.after hres
    subst ev
    exact ⟨rw3, V.ref (hp.objs.size + 1), H3, J3, rfl, q3⟩
  | .ok .next, hres => exact False.elim hres
  | .ok .brk, hres => exact False.elim hres
  | .ok .cont, hres => exact False.elim hres
theorem pe_mkX (T : OexC X.K C) (iC : PySem.W.findIn X.K (.ref C) "__init__" = some (some (.ref g))) (tI : PySem.W.typeIn X.K (.ref g) = some (.type "function")) (FG : FnOk X.prog X.w X.K X.mg X.base CXa k g gd ns sp) (hr : Room (k + 1) X.A) (hb : Binds X.K gd ns [])
    (hx : Passes CXa X (fun _ _ _ => False)) (hg : Gl X x) (hm : X.mg x = some (.ref C)) (ha : PA X (a0 :: as) ta)
    (hdb : (x == ("__debug__" : Str)) = false := by decide) (he : starEach (a0 :: as) X.env = (false, eval a0 X.env) :: starEach as X.env := by rfl) (hpl : (backTo pos (starEach as X.env)).any (·.1) = false := by rfl) :
    PE X (.Call (.Name x p) (a0 :: as) [] pos) (tMkX C sp ta) := by
  refine ⟨fun pins s σ H Q I h => wpAny_Call_Name_kw (ld_glob I hg hm ?_ hdb)⟩
  refine PySem.W.callWith_K (h₀ := X.base) I.ok.mod.kin T.kC (thn (ha.run pos pins s σ H _ I h) fun us s1 hh => ?_) he hpl
  obtain ⟨vs, H1, J, rv, hz, q⟩ := hh
  exact ⟨J.kIn, make_x T iC tI FG hr hb hx J rv hz q⟩
theorem pe_mkX0 (T : OexC X.K C) (iC : PySem.W.findIn X.K (.ref C) "__init__" = some (some (.ref g))) (tI : PySem.W.typeIn X.K (.ref g) = some (.type "function")) (FG : FnOk X.prog X.w X.K X.mg X.base CXa k g gd ns sp) (hr : Room (k + 1) X.A) (hb : Binds X.K gd ns [])
    (hx : Passes CXa X (fun _ _ _ => False)) (hg : Gl X x) (hm : X.mg x = some (.ref C)) (hdb : (x == ("__debug__" : Str)) = false := by decide) : PE X (.Call (.Name x p) [] [] pos) (tMkX C sp tNil) := by
  refine ⟨fun pins s σ H Q I h => wpAny_Call_Name_kw (ld_glob I hg hm ?_ hdb)⟩
  exact PySem.W.callWith_K0 I.kIn T.kC (make_x (us := []) (vs := []) T iC tI FG hr hb hx I .nil h.1 h.2)
/-- at a an error of the class at C with the fields fs -/
def ErrAt (H : Hp) (a C : Addr) (fs : List (Str × V)) : Prop := (fs = [] ∧ H a = some (exo a C none)) ∨ ∃ d, H a = some (exo a C (some d)) ∧ H d = some (exd d fs)
theorem err_inst {fs : List (Str × V)} {a : Addr} (I : Inv X pins σ H s) (e : ErrAt H a C fs) : ∃ (oe : Obj) (od : Option Obj), PySem.W.InstAt s.heap a oe C od ∧ (∀ f v, fs.lookup f = some v → ∃ o u, od = some o ∧ PySem.W.lookIn f o = some (some u) ∧ RelV v u) := by
  rcases e with ⟨rfl, ea⟩ | ⟨d, ea, ed⟩
  · obtain ⟨t, ho⟩ := exo_at I.hok ea
    exact ⟨_, none, ⟨ho, rfl, rfl, trivial⟩, fun f v h => by cases h⟩
  · obtain ⟨t, ho⟩ := exo_at I.hok ea
    obtain ⟨mA, hns, rel⟩ := exd_at I.hok ed
    obtain ⟨od, hod, hl⟩ := lookIn_ns hns
    refine ⟨_, some od, ⟨ho, rfl, rfl, hod⟩, fun f v h => ?_⟩
    obtain ⟨u, hu, ru⟩ := RelO.some_of (v := v) (o := mA f) (by rw [← h]; exact rel f)
    exact ⟨od, u, rfl, by rw [hl, hu], ru⟩
/-- e.f, e such a value -/
def tFldX (K : PySem.W.Frag) (f : Str) (te : TE) : TE := fun σ H Q => te σ H fun x H1 => ∃ (a C : Addr) (fs : List (Str × V)) (v : V), x = .ref a ∧ ErrAt H1 a C fs ∧ XfC K C ∧ PySem.W.findIn K (.ref C) f = some none ∧ fs.lookup f = some v ∧ Q v H1
theorem pe_fldX {e : Expr} {te : TE} {f : Str} (he : PE X e te) (hb : attributeBase e f X.env (eval e X.env) = eval e X.env := by rfl) : PE X (.Attribute e f pos) (tFldX X.K f te) := by
  refine ⟨fun pins s σ H Q I h => attr_of hb (thn (he.run pins s σ H _ I h) fun u s1 hh => ?_)⟩
  obtain ⟨x, H1, J, rx, a, C, fs, v, rfl, er, T, hno, hl, q⟩ := hh
  obtain rfl : u = Value.ref a := rx
  obtain ⟨oe, od, ins, look⟩ := err_inst J er
  obtain ⟨o, u, rfl, lk, ru⟩ := look f v hl
  exact HandSPX.exc_get J.kIn ins T.ga T.gg T.exC (PySem.W.findObj_own T.hdC hno rfl lk) (handed_of ru) ⟨v, H1, J.tok _, ru, q⟩
/-- isinstance(e, c), e such a value -/
def rIsV (K : PySem.W.Frag) : List V → Hp → VK → Prop := fun xs H Q => ∃ (a C : Addr) (fs : List (Str × V)) (c : V) (cv : Value) (b : Bool), xs = [.ref a, c] ∧ (∀ u, RelV c u → u = cv) ∧ ErrAt H a C fs ∧ ExcC K C ∧ PySem.W.kitOne K (.ref C) cv = some b ∧ Q (.bl b) H
theorem call_isV : CallR X (.builtin "isinstance") (rIsV X.K) := by
  rintro pins s σ H xs us Q I r ⟨a, C, fs, c, cv, b, rfl, hcv, er, E, hk, q⟩
  obtain ⟨u1, u2, rfl, ra, rc⟩ : ∃ u1 u2, us = [u1, u2] ∧ RelV (.ref a) u1 ∧ RelV c u2 := by
    cases r with
    | cons ra rr => cases rr with
      | cons rc rn => cases rn; exact ⟨_, _, rfl, ra, rc⟩
  obtain rfl : u1 = Value.ref a := ra
  obtain rfl := hcv _ rc
  obtain ⟨oe, od, ins, _⟩ := err_inst I er
  have hcl : (PySem.W.clsIn X.K C).isSome = true := by
    obtain ⟨cd, hc, _⟩ := PySem.W.any_some E.hd
    rw [hc]
    rfl
  exact PySem.W.kia_one (PySem.W.kitx_exc hcl E.hg E.hk E.hs E.ha E.hn E.ht E.hm) I.kIn ins hk (fun z => nomatch z) fun tk => ⟨.bl b, H, I.kept (t' := tk) fun _ _ y => y, rfl, q⟩
end
end Sx
set_option Elab.async false
set_option linter.all false
set_option maxRecDepth 100000
set_option maxHeartbeats 4000000
namespace Cl
open PySem PySem.Spec L2 PyProof.Rows
/-- what an error is given: a short text or a small int -/
def okArg (v : V) : Prop := (∃ t : List Nat, v = .str (S t) ∧ t.length ≤ 20 ∧ ∀ c ∈ t, c < 1000) ∨ ∃ i : Int, v = .int i ∧ i.natAbs < 10 ^ 9
theorem fmt_t {σ : L2.St} {v : V} {H : Hp} {Q : VK} {i : Nat} (hi : σ[i]? = some (some v)) (hv : okArg v) (h : ∀ y : Str, y.length ≤ 300 → Q (.str y) H) : tFmt (tVar i) σ H Q := by
  refine ⟨v, hi, ?_⟩
  rcases hv with ⟨t, rfl, ht, _⟩ | ⟨n, rfl, hn⟩
  · exact .inl ⟨_, rfl, le_S (by omega : _ ≤ 60), h _ (by rw [S_len]; omega)⟩
  · refine .inr ⟨n, rfl, ?_, h _ ?_⟩
    · by_cases z : n.natAbs = 0
      · rw [z]
        decide
      · exact Nat.lt_of_lt_of_le ((Nat.log2_lt z).mpr (Nat.lt_of_lt_of_le hn (by decide : 10 ^ 9 ≤ 2 ^ 64))) (by decide)
    · have e := int_text_length_le10 (a := n) (k := 9) (by decide) hn
      rw [PySem.ofString_length]
      omega
theorem fmtR_t {σ : L2.St} {t : List Nat} {H : Hp} {Q : VK} {i : Nat} (hi : σ[i]? = some (some (.str (S t)))) (ht : t.length ≤ 20) (hc : ∀ c ∈ t, c < 1000) (h : ∀ y : Str, y.length ≤ 300 → Q (.str y) H) : tFmtR (tVar i) σ H Q := by
  have z := StrLaws.reprText_len (S t) (fun c hm => by
    rw [S_cps] at hm
    exact Nat.lt_of_lt_of_le (hc c hm) (by decide))
  rw [S_len] at z
  exact ⟨_, hi, .inl ⟨_, rfl, by rw [sizeLine_eq]; omega, h _ (by omega)⟩⟩
/-- __init__ of an error with one field -/
def spE1 (B : Addr) (f : Str) : Sp := fun vs H Q _ => ∃ (a : Addr) (v : V), vs = [.ref a, v] ∧ H a = some (exo a B none) ∧ okArg v ∧
  ∀ d H', Kp a H H' → H' a = some (exo a B (some d)) → H' d = some (exd d [(f, v)]) → Q .non H'
/-- .. with one field, a text -/
def spET (B : Addr) (f : Str) : Sp := fun vs H Q _ => ∃ (a : Addr) (t : List Nat), vs = [.ref a, .str (S t)] ∧ H a = some (exo a B none) ∧ t.length ≤ 20 ∧ (∀ c ∈ t, c < 1000) ∧
  ∀ d H', Kp a H H' → H' a = some (exo a B (some d)) → H' d = some (exd d [(f, .str (S t))]) → Q .non H'
/-- .. with two -/
def spE2 (B : Addr) (f g : Str) : Sp := fun vs H Q _ => ∃ (a : Addr) (v u : V), vs = [.ref a, v, u] ∧ H a = some (exo a B none) ∧ okArg v ∧ okArg u ∧
  ∀ d H', Kp a H H' → H' a = some (exo a B (some d)) → H' d = some (exd d [(g, u), (f, v)]) → Q .non H'
/-- .. with none -/
def spE0 (B : Addr) : Sp := fun vs H Q _ => ∃ a : Addr, vs = [.ref a] ∧ H a = some (exo a B none) ∧ Q .non H
theorem kp_two {H : Hp} {a d : Addr} {o u : HO} (hd : H d = none) : Kp a H (upd (upd H d o) a u) := fun b x nb e => by
  rw [upd_ne nb, upd_ne (ne_of_none e hd)]
  exact e
theorem kp_three {H : Hp} {a d : Addr} {o u o' : HO} (hd : H d = none) : Kp a H (upd (upd (upd H d o) a u) d o') := fun b x nb e => by
  rw [upd_ne (ne_of_none e hd)]
  exact kp_two hd b x nb e
theorem empty_len : Str.empty.length = 0 := rfl
end Cl
set_option Elab.async false
set_option linter.all false
set_option maxRecDepth 100000
set_option maxHeartbeats 4000000
/-! raise C() where the own __init__ of C sets nothing; x + y by an own __add__ in a try. -/
namespace Sx
open PySem PySem.Spec L2 PyProof.Rows
section
variable {X : Cx}
/-- the end of C(): the exception is let go, it has no dict -/
theorem mk_endN {pins : List (Addr × Obj)} {σ : L2.St} {H1 H2 : Hp} {Q : XK} {hp hp2 h2 : Heap} {g1 g2 : Array GenState} {d1 d2 : Drawn} {t1 t2 : Nat} {os1 os2 : OsState} {a C : Addr} (T : Raises X (.ref C)) (I1 : Inv X pins σ H1 ⟨hp, g1, d1, t1, os1⟩)
    (ha : hp.objs.size ≤ a) (k : ∀ b o, hp.get? b = some o → hp2.get? b = some o) (un : Un (frs X.stack) [] (upd H1 a (exo a C none)) H2 hp2 h2) (hok : HOk X.prog X.w H2 h2) (ho : os2 = os1) (hb : AllBare g2)
    (ea : H2 a = some (exo a C none)) (q : Q (.ref C) none (del H2 a)) : MkP X pins σ Q (.ref a) ⟨h2, g2, d2, t2, os2⟩ := by
  obtain ⟨t0, hoe⟩ := exo_at hok ea
  have hn : H1 a = none := I1.hok.fresh ha
  obtain ⟨G, g1', g2'⟩ := restrict h2 fun b => decide (b ≠ a)
  have gk : ∀ b, b ≠ a → G.get? b = h2.get? b := fun b hb => g1' b (decide_eq_true hb)
  have ge : G.get? a = none := g2' a (by simp)
  have nha : ∀ {b : Addr} {o : Obj}, hp.get? b = some o → b ≠ a := fun {b o} z => Nat.ne_of_lt (Nat.lt_of_lt_of_le (Heap.lt_size z) ha)
  have up : ∀ {b : Addr}, b ≠ a → H1 b = none → upd H1 a (exo a C none) b = none := fun {b} hb n => by rw [upd_ne hb]; exact n
  have U : Un (frs X.stack) [] H1 (del H2 a) hp G := {
    keep := fun b o z n hf hx => by
      rw [gk b (nha z)]
      exact un.keep b o (k b o z) (up (nha z) n) hf hx
    slot := fun b o z n hf hx => by
      rw [gk b (nha z)]
      exact un.slot b o (k b o z) (up (nha z) n) hf hx
    free := fun b o z n hx => by
      rw [del_ne (nha z)]
      exact un.free b o (k b o z) (up (nha z) n) hx
    there := fun b o z hx => by
      rw [gk b (nha z)]
      exact un.there b o (k b o z) hx
    tups := fun b xs z => by
      rw [del_ne (ne_of_none z hn)]
      exact un.tups b xs (by rw [upd_ne (ne_of_none z hn)]; exact z)
    frzs := fun b o v z => by
      rw [del_ne (ne_of_none z hn)]
      exact un.frzs b o v (by rw [upd_ne (ne_of_none z hn)]; exact z)
    tbls := fun b ps z => by
      rw [del_ne (ne_of_none z hn)]
      exact un.tbls b ps (by rw [upd_ne (ne_of_none z hn)]; exact z) }
  have hok3 : HOk X.prog X.w (del H2 a) G := fun b o z => by
    have hba : b ≠ a := fun e => by
      rw [e, del_same] at z
      cases z
    rw [del_ne hba] at z
    have noa : ∀ {c : Addr}, H2 c = some (.own b) → c ≠ a := fun {c} hc => at_ne ea hc exo_own
    exact (hok b o z).stay (fun c v hc y => by
        have hca : c ≠ a := by
          rcases hc with hc | hc
          · rw [hc]
            exact hba
          · exact noa hc
        rw [gk c hca]
        exact y)
      (fun c hc => by rw [del_ne (noa hc)]; exact hc) (fun c xs hc => by rw [del_ne (at_ne ea hc exo_tup)]; exact hc)
  have J : Inv X pins σ (del H2 a) ⟨G, g2, d2, t2, os2⟩ := I1.call' (ch := []) ho U hok3 hb (fun b z => absurd z (by simp))
  refine ⟨a, _, _, ⟨G, g2, d2, t2, os2⟩, _, .ref C, none, rfl, J, fun b o z => ?_, ge, hoe, ⟨rfl, rfl⟩, rfl, rfl, del_same, rfl, hb, T, q⟩
  by_cases hba : b = a
  · rw [hba, ge] at z
    cases z
  · exact (gk b hba).symm.trans z
def tMkN (C : Addr) (sp : Sp) : L2.St → Hp → XK → Prop := fun σ H1 Q => ∀ a, H1 a = none → sp [.ref a] (upd H1 a (exo a C none)) (fun v H2 => v = .non ∧ H2 a = some (exo a C none) ∧ Q (.ref C) none (del H2 a)) (fun _ _ _ => False)
theorem pmk_oexN {CX : CXT} {x : Str} {C fI : Addr} {k : Nat} {fd : FuncData} {ps : List Str} {sp : Sp} {p pos : Pos} (T : OexC X.K C) (iC : PySem.W.findIn X.K (.ref C) "__init__" = some (some (.ref fI))) (tI : PySem.W.typeIn X.K (.ref fI) = some (.type "function"))
    (F1 : FnOk X.prog X.w X.K X.mg X.base CX k fI fd ps sp) (hr : Room (k + 1) X.A) (hb : Binds X.K fd ps []) (hx : Passes CX X (fun _ _ _ => False)) (hg : Gl X x) (hm : X.mg x = some (.ref C))
    (hdb : (x == ("__debug__" : Str)) = false := by decide) :
    PMk X (.Call (.Name x p) [] [] pos) (tMkN C sp) := by
  intro pins s σ H1 Q I1 q1
  obtain ⟨nm, q, N, bs, bm, sn, sub, ab, col, dd, k0, k1, k2, k3, k5, hC, hbm⟩ := T.cls
  refine wpAny_Call_Name_kw (ld_glob I1 hg hm ?_ hdb)
  refine PySem.W.callWith_K0 I1.kIn T.kC ?_
  show wpAny _ _ (call (.ref C) []) _ _ _
  obtain ⟨hp, g, dr, tk, os⟩ := s
  have hsz : hp.objs.size ≤ hp.objs.size + 1 := Nat.le_succ _
  have hn : H1 (hp.objs.size + 1) = none := I1.hok.fresh hsz
  have hq := q1 (hp.objs.size + 1) hn
  have kk : ∀ b o, hp.get? b = some o → ((hp.push (PySem.W.kdv_tup [])).push (PySem.HandSPX.excO C hp.objs.size)).get? b = some o := fun b o e => Heap.get?_push_of_some _ (Heap.get?_push_of_some _ e)
  have hget : ((hp.push (PySem.W.kdv_tup [])).push (PySem.HandSPX.excO C hp.objs.size)).get? (hp.objs.size + 1) = some (PySem.HandSPX.excO C hp.objs.size) := by heap_get
  have I2 : Inv X pins σ (upd H1 (hp.objs.size + 1) (exo (hp.objs.size + 1) C none)) ⟨(hp.push (PySem.W.kdv_tup [])).push (PySem.HandSPX.excO C hp.objs.size), g, dr, tk, os⟩ :=
    I1.laid (t' := tk) (a := hp.objs.size + 1) (o := exo (hp.objs.size + 1) C none) (h' := (hp.push (PySem.W.kdv_tup [])).push (PySem.HandSPX.excO C hp.objs.size)) kk hsz (exo_ok hget)
  have r2 : Vals [V.ref (hp.objs.size + 1)] [Value.ref (hp.objs.size + 1)] := .cons rfl .nil
  have hl : [Value.ref (hp.objs.size + 1)].length = ps.length := by
    have e := r2.length
    rw [F1.len _ _ _ _ hq] at e
    exact e.symm
  have bt := hb _ [Value.ref (hp.objs.size + 1)] I2.kIn (by rw [List.append_nil]; exact hl)
  rw [List.append_nil] at bt
  refine wpAny_call (PySem.HandSPX.call_own F.excBase_ValueError (fun Y => PySem.HandSPX.refsVE_contains Y bm hbm) (I1.kIn _ _ hC) (PySem.W.looks_findIn I1.kIn iC) (fun self => PySem.W.bind_fn I1.kIn self tI) (Nat.zero_le _)
    (codeAny_mono (F1.run _ X.stack _ _ ⟨[Value.ref (hp.objs.size + 1)], []⟩ [Value.ref (hp.objs.size + 1)] _ _ (fun _ _ _ => False) (hr.make C [] []) (I2.env0.make C [] []) bt r2 hq) fun r s' hq' => ?_))
  cases r with
  | error er => exact hx pins σ _ _ er s' I2 hq'
  | ok fl =>
    cases fl with
    | ret u =>
      obtain ⟨v, H2, os2, bare2, un2, hok2, rv, ev, ea, q2⟩ := hq'
      subst ev
      obtain ⟨h2, g2, d2, t2, os'⟩ := s'
      exact ⟨rv, mk_endN (raises_own T.exC T.tyC) I1 hsz kk un2 hok2 os2 bare2 ea q2⟩
    | next => exact False.elim hq'
    | brk => exact False.elim hq'
    | cont => exact False.elim hq'
end
/-- x + y by an own __add__, what it refuses told at the slots -/
def tAddS (C : Addr) (sp : Sp) (Eo : L2.St → XK) (ta tb : TE) : TE := fun σ H Q => ta σ H fun x H1 => tb σ H1 fun y H2 => ∃ a b dx dy fs gs, x = .ref a ∧ y = .ref b ∧ H2 a = some (.ins C dx fs) ∧ H2 b = some (.ins C dy gs) ∧ sp [.ref a, .ref b] H2 (fun v H' => ∃ c, v = .ref c ∧ Q (.ref c) H') (Eo σ)
theorem pe_addS {X : Cx} {CX : CXT} {n : Nat} {C f : Addr} {fd : FuncData} {ps : List Str} {sp : Sp} {Eo : L2.St → XK} {ta tb : TE} {ea eb : Expr} {pos : Pos} (F : FnOk X.prog X.w X.K X.mg X.base CX n f fd ps sp) (hr : Room n X.A) (hc : PySem.W.selfFirst X.K C = true)
    (hs : PySem.W.findIn X.K (.ref C) "__add__" = some (some (.ref f))) (hf : PySem.W.isFn X.K (.ref f) = true) (hb : Binds X.K fd ps []) (hx : ∀ σ, PassesAt CX X σ (Eo σ)) (he : PE X ea ta) (hg : PE X eb tb) : PE X (.BinOp ea .Add eb pos) (tAddS C sp Eo ta tb) := by
  refine ⟨fun pins s σ H Q I h => wpAny_BinOp (binT he hg I h fun v u s x y H I rx ry h => ?_)⟩
  obtain ⟨a, b, dx, dy, fs, gs, rfl, rfl, ha, hb', hsp⟩ := h
  cases rx
  cases ry
  obtain ⟨mA, J, _⟩ := ins_get I.hok ha
  obtain ⟨mB, J', _⟩ := ins_get I.hok hb'
  obtain ⟨od, J, _⟩ := J.look
  obtain ⟨od', J', _⟩ := J'.look
  obtain ⟨m, fr⟩ := I.fr
  refine PySem.W.binop_K fr I.ok.mod.kin J J'.type hc (by rw [Cl.add_name]; exact hs) hf ?_
  have bt := hb s [Value.ref a, Value.ref b] I.kIn (by rw [List.append_nil]; exact (F.len _ _ _ _ hsp).symm ▸ rfl)
  rw [List.append_nil] at bt
  refine wpAny_call (codeAny_mono (F.run X.A X.stack s H ⟨[Value.ref a, Value.ref b], []⟩ [Value.ref a, Value.ref b] [.ref a, .ref b] _ (Eo σ) hr I.env0 bt (.cons rfl (.cons rfl .nil)) hsp) fun r s' hq => ?_)
  match r, hq with
  | .error e, hq => exact hx σ pins H s e s' I hq
  | .ok (.ret u), hq =>
    have z := I.after hq
    obtain ⟨z, H', I', rz, c, ez, q'⟩ := z
    subst ez
    cases rz
    exact ⟨.ref c, H', I', rfl, q'⟩
  | .ok .next, hq => exact False.elim hq
  | .ok .brk, hq => exact False.elim hq
  | .ok .cont, hq => exact False.elim hq
/-- C(a, ..) of a class whose __init__ is told by FnR, what it refuses told at the slots -/
def tMakeRT (C : Addr) (sp : Sp) (Eo : L2.St → XK) (t : TA) : TE := fun σ H Q => t σ H fun vs H1 => ∀ x dx, H1 x = Option.none → H1 dx = Option.none → dx ≠ x →
  sp (V.ref x :: vs) (upd (upd H1 dx (.own x)) x (.ins C dx [])) (fun v H2 => v = .non ∧ Q (.ref x) H2) (Eo σ)
section
variable {X : Cx} {CX : CXT} {k : Nat} {f C : Addr} {sp : Sp} {Eo : L2.St → XK} {x : Str} {e : Expr} {es : List Expr} {t : TA} {p pos : Pos}
theorem run_makeRT {pins : List (Addr × Obj)} {σ : L2.St} {H : Hp} {s : Shared} {Q : VK} {us : List Value} {vs : List V} (M : Mk X.K C f) (F : FnR X.prog X.w X.K X.mg X.base CX k f sp) (hr : Room (k + 1) X.A) (hx : PassesAt CX X σ (Eo σ)) (I : Inv X pins σ H s) (r : Vals vs us)
    (h : ∀ x dx, H x = Option.none → H dx = Option.none → dx ≠ x → sp (V.ref x :: vs) (upd (upd H dx (.own x)) x (.ins C dx [])) (fun v H2 => v = .non ∧ Q (.ref x) H2) (Eo σ)) :
    wpAny (model X.prog X.w) X.A (call (.ref C) us) (EP X pins σ Q) X.xe s := by
  have hq := h (s.heap.objs.size + 1) s.heap.objs.size (I.hok.fresh (Nat.le_succ _)) (I.hok.fresh (Nat.le_refl _)) (Nat.ne_of_lt (Nat.lt_succ_self _))
  have I2 := Inv.made (C := C) I
  have r2 : Vals (V.ref (s.heap.objs.size + 1) :: vs) (Value.ref (s.heap.objs.size + 1) :: us) := .cons rfl r
  refine wpAny_call (make_map (f := f) I.kIn M.makes M.init (beq_iff_eq.mp M.fn) (codeAny_mono (F _ X.stack _ _ (Value.ref (s.heap.objs.size + 1) :: us) _ _ (Eo σ) (hr.make C us []) (I2.env0.make C us []) r2 hq) fun r s' hq' => ?_))
  cases r with
  | error e => exact hx pins _ _ e s' I2 hq'
  | ok fl =>
    cases fl with
    | ret u =>
      obtain ⟨v, H', I3, rv, ev, q3⟩ := I2.after hq'
      subst ev
      exact ⟨rv, ⟨V.ref (s.heap.objs.size + 1), H', I3, rfl, q3⟩⟩
    | next => exact False.elim hq'
    | brk => exact False.elim hq'
    | cont => exact False.elim hq'
theorem pe_makeRT (M : Mk X.K C f) (F : FnR X.prog X.w X.K X.mg X.base CX k f sp) (hr : Room (k + 1) X.A) (hg : Gl X x) (hm : X.mg x = some (.ref C)) (hx : ∀ σ, PassesAt CX X σ (Eo σ)) (ha : PA X (e :: es) t) (hdb : (x == ("__debug__" : Str)) = false := by decide)
    (he : starEach (e :: es) X.env = (false, eval e X.env) :: starEach es X.env := by rfl) (hpl : (backTo pos (starEach es X.env)).any (·.1) = false := by rfl) : PE X (.Call (.Name x p) (e :: es) [] pos) (tMakeRT C sp Eo t) := by
  refine ⟨fun pins s σ H Q I h => ?_⟩
  refine wpAny_Call_Name_kw (ld_glob I hg hm ?_ hdb)
  refine PySem.W.callWith_K (h₀ := X.base) I.ok.mod.kin M.kp (thn (ha.run pos pins s σ H _ I h) fun us s1 ⟨vs, H1, I1, r, q⟩ => ⟨I1.kIn, ?_⟩) he hpl
  exact run_makeRT M F hr (hx σ) I1 r q
end
end Sx
set_option Elab.async false
set_option linter.all false
set_option maxRecDepth 100000
set_option maxHeartbeats 4000000
namespace Cl
open PySem PySem.Spec L2 PyProof.Rows
/-- what an error is given: a text of at most 100 signs or an int -/
def okA (v : V) : Prop := (∃ t : List Nat, v = .str (S t) ∧ t.length ≤ 100 ∧ ∀ c ∈ t, c < 1000) ∨ ∃ i : Int, v = .int i ∧ i.natAbs < 10 ^ 9
theorem okA_int {i : Int} (h : i.natAbs < 10 ^ 9) : okA (.int i) := .inr ⟨i, rfl, h⟩
theorem okA_str {t : List Nat} (h : t.length ≤ 100) (hc : ∀ c ∈ t, c < 1000) : okA (.str (S t)) := .inl ⟨t, rfl, h, hc⟩
theorem fmt_a {σ : L2.St} {v : V} {H : Hp} {Q : VK} {i : Nat} (hi : σ[i]? = some (some v)) (hv : okA v) (h : ∀ y : Str, y.length ≤ 300 → Q (.str y) H) : tFmt (tVar i) σ H Q := by
  refine ⟨v, hi, ?_⟩
  rcases hv with ⟨t, rfl, ht, _⟩ | ⟨n, rfl, hn⟩
  · exact .inl ⟨_, rfl, le_S (by omega : _ ≤ 100), h _ (by rw [S_len]; omega)⟩
  · refine .inr ⟨n, rfl, ?_, h _ ?_⟩
    · by_cases z : n.natAbs = 0
      · rw [z]
        decide
      · exact Nat.lt_of_lt_of_le ((Nat.log2_lt z).mpr (Nat.lt_of_lt_of_le hn (by decide : 10 ^ 9 ≤ 2 ^ 64))) (by decide)
    · have e := int_text_length_le10 (a := n) (k := 9) (by decide) hn
      rw [PySem.ofString_length]
      omega
/-- __init__ of an error with one field, with two -/
def spX1 (B : Addr) (f : Str) : Sp := fun vs H Q _ => ∃ (a : Addr) (v : V), vs = [.ref a, v] ∧ H a = some (exo a B none) ∧ okA v ∧
  ∀ d H', H d = none → d ≠ a → Kp a H H' → H' a = some (exo a B (some d)) → H' d = some (exd d [(f, v)]) → Q .non H'
def spX2 (B : Addr) (f g : Str) : Sp := fun vs H Q _ => ∃ (a : Addr) (v u : V), vs = [.ref a, v, u] ∧ H a = some (exo a B none) ∧ okA v ∧ okA u ∧
  ∀ d H', H d = none → d ≠ a → Kp a H H' → H' a = some (exo a B (some d)) → H' d = some (exd d [(g, u), (f, v)]) → Q .non H'
/-- an error's class as the program raises it -/
structure RaiseX (P : Program) (w : World) (K : PySem.W.Frag) (mg : Str → Option Value) (base : Heap) (nm : Str) (ps : List Str) (sp : Sp) (B f : Addr) (fd : FuncData) : Prop where
  T : OexC K B
  iC : PySem.W.findIn K (.ref B) "__init__" = some (some (.ref f))
  tI : PySem.W.typeIn K (.ref f) = some (.type "function")
  ok : FnOk P w K mg base CX0 1 f fd ps sp
  bd : Binds K fd ps []
  gl : mg nm = some (.ref B)
theorem same_raised {H H2 : Hp} {a d B : Addr} {fs : List (Str × V)} (ha : H a = none) (hd : H d = none) (k : Kp a (upd H a (exo a B none)) H2) : Same H (upd (del H2 a) d (.xd fs)) := fun b o e => by
  have nb := ne_of_none e ha
  rw [upd_ne (ne_of_none e hd), del_ne nb]
  refine k _ _ nb ?_
  rw [upd_ne nb]
  exact e
theorem raise1 {B : Addr} {f : Str} {v : V} {H1 : Hp} {Q : XK} (hv : okA v) (q : ∀ d H', Same H1 H' → H' d = some (.xd [(f, v)]) → Q (.ref B) (some d) H') :
    [v].length ≤ 1000 ∧ ∀ a, H1 a = none → spX1 B f (.ref a :: ([v] ++ [])) (upd H1 a (exo a B none)) (fun u H2 => u = .non ∧ ∃ (d : Addr) (fs : List (Str × V)), H2 a = some (exo a B (some d)) ∧ H2 d = some (exd d fs) ∧ H1 d = none ∧ Q (.ref B) (some d) (upd (del H2 a) d (.xd fs))) (fun _ _ _ => False) := by
  refine ⟨(by show 1 ≤ 1000; decide), fun a ha => ⟨a, v, rfl, upd_same, hv, fun d H' hd nd k ea ed => ⟨rfl, d, _, ea, ed, ?_, ?_⟩⟩⟩
  · rw [upd_ne nd] at hd
    exact hd
  · rw [upd_ne nd] at hd
    exact q d _ (same_raised ha hd k) upd_same
theorem raise2 {B : Addr} {f g : Str} {v u : V} {H1 : Hp} {Q : XK} (hv : okA v) (hu : okA u) (q : ∀ d H', Same H1 H' → H' d = some (.xd [(g, u), (f, v)]) → Q (.ref B) (some d) H') :
    [v, u].length ≤ 1000 ∧ ∀ a, H1 a = none → spX2 B f g (.ref a :: ([v, u] ++ [])) (upd H1 a (exo a B none)) (fun u H2 => u = .non ∧ ∃ (d : Addr) (fs : List (Str × V)), H2 a = some (exo a B (some d)) ∧ H2 d = some (exd d fs) ∧ H1 d = none ∧ Q (.ref B) (some d) (upd (del H2 a) d (.xd fs))) (fun _ _ _ => False) := by
  refine ⟨(by show 2 ≤ 1000; decide), fun a ha => ⟨a, v, u, rfl, upd_same, hv, hu, fun d H' hd nd k ea ed => ⟨rfl, d, _, ea, ed, ?_, ?_⟩⟩⟩
  · rw [upd_ne nd] at hd
    exact hd
  · rw [upd_ne nd] at hd
    exact q d _ (same_raised ha hd k) upd_same
theorem raise0 {B : Addr} {H1 : Hp} {Q : XK} (q : ∀ H', Same H1 H' → Q (.ref B) none H') :
    ∀ a, H1 a = none → spE0 B [.ref a] (upd H1 a (exo a B none)) (fun v H2 => v = .non ∧ H2 a = some (exo a B none) ∧ Q (.ref B) none (del H2 a)) (fun _ _ _ => False) := fun a ha => by
  refine ⟨a, rfl, upd_same, rfl, upd_same, q _ fun b o e => ?_⟩
  have nb := ne_of_none e ha
  rw [del_ne nb, upd_ne nb]
  exact e
end Cl
set_option Elab.async false
set_option linter.all false
set_option maxRecDepth 100000
set_option maxHeartbeats 4000000
/-! raise X(..) from e, in the suite that handles e. -/
namespace HotX
open PySem PySem.Spec PyProof.Rows
/-- the heap behind «from u»: field 3 is u, field 4 is True -/
def causeFrom (u : Value) (h : Heap) (a : Addr) : Heap := (h.update a (Obj.mapFields (·.setIfInBounds 3 u))).update a (Obj.mapFields (·.setIfInBounds 4 (.bool true)))
theorem causeFrom_at {u : Value} {h : Heap} {a : Addr} {oe : Obj} {vs : Array Value} (ha : h.get? a = some oe) (hd : oe.data = .fields vs) :
    (causeFrom u h a).get? a = some ((oe.mapFields (·.setIfInBounds 3 u)).mapFields (·.setIfInBounds 4 (.bool true))) ∧ ((oe.mapFields (·.setIfInBounds 3 u)).mapFields (·.setIfInBounds 4 (.bool true))).data = .fields ((vs.setIfInBounds 3 u).setIfInBounds 4 (.bool true)) := by
  have hd3 := Obj.data_mapFields hd (·.setIfInBounds 3 u)
  have ha3 := Heap.get?_update_self (Obj.mapFields (·.setIfInBounds 3 u)) ha (Obj.isFreed_of_fields hd3)
  have hd4 := Obj.data_mapFields hd3 (·.setIfInBounds 4 (.bool true))
  exact ⟨Heap.get?_update_self (Obj.mapFields (·.setIfInBounds 4 (.bool true))) ha3 (Obj.isFreed_of_fields hd4), hd4⟩
theorem causeFrom_other {u : Value} {h : Heap} {a b : Addr} (hne : a ≠ b) : (causeFrom u h a).get? b = h.get? b := by
  unfold causeFrom
  rw [Heap.get?_update_other _ _ hne, Heap.get?_update_other _ _ hne]
theorem raise_made_hotF {prog : Program} {w : World} {A : Around} {E : Value → Shared → Prop} {env : Env} {s : Shared} {x c : Sem Value} {Q : Flow → Shared → Prop} {x1 : Addr}
        (h : wpAny (model prog w) A x (fun v s₁ => ∃ a oe vs cls, v = .ref a ∧ s₁.heap.get? a = some oe ∧ oe.cls = cls ∧ oe.data = .fields vs ∧ vs[1]? = some .none ∧ 4 < vs.size ∧ x1 ≠ a ∧ HotAt A x1 s₁.heap ∧ (∃ o1 vs1, s₁.heap.get? x1 = some o1 ∧ o1.data = .fields vs1 ∧ PySem.W.Looks (model prog w) s₁.heap (isSubtype o1.cls (.type "BaseException")) true) ∧ (∀ Q' : Value → Shared → Prop, Q' (.ref x1) s₁ → wpAny (model prog w) A c Q' E s₁) ∧
      PySem.W.Looks (model prog w) s₁.heap (isSubtype cls (.type "BaseException")) true ∧ PySem.W.Looks (model prog w) (causeFrom (.ref x1) s₁.heap a) (typeOf cls) (.type "type") ∧
      E (.ref a) { s₁ with heap := (causeFrom (.ref x1) s₁.heap a).update a (Obj.mapFields (·.setIfInBounds 2 (.ref x1))) }) E s) :
    wpAny (model prog w) A (raiseStmt env (some x) (some c)) Q E s := by
  unfold raiseStmt
  dsimp only
  refine wpAny_bind (wpAny_mono h (fun v s₁ h₁ => ?_) fun _ _ x => x)
  obtain ⟨a, oe, vs, cls, rfl, ha, hcls, hd, h1, hi, hne, hot, ⟨o1, vs1, hx1, hdx, L5⟩, hcs, L1, L3, hE⟩ := h₁
  have LTx : PySem.W.Looks (model prog w) s₁.heap (typeOf (.ref x1)) o1.cls := fun A Q E s k q => wpAny_typeOf_ref (k _ _ hx1) q
  have LIx : PySem.W.Looks (model prog w) s₁.heap (isInstance (.ref x1) (.type "BaseException")) true := LTx.andThen L5
  have hntx : ∀ {Q' : Bool → Shared → Prop}, Q' false s₁ → wpAny (model prog w) A (isType (.ref x1)) Q' E s₁ := by
    intro Q' hq
    simp only [isType, loadHead]
    refine wpAny_bind (wpAny_loadPart hx1 ?_)
    rw [hdx]; exact wpAny_pure hq
  have LT : PySem.W.Looks (model prog w) s₁.heap (typeOf (.ref a)) cls := fun A Q E s k q => wpAny_typeOf_ref (k _ _ ha) (by rw [hcls]; exact q)
  have LI : PySem.W.Looks (model prog w) s₁.heap (isInstance (.ref a) (.type "BaseException")) true := LT.andThen L1
  have hnt : ∀ {Q' : Bool → Shared → Prop}, Q' false s₁ → wpAny (model prog w) A (isType (.ref a)) Q' E s₁ := by
    intro Q' hq
    simp only [isType, loadHead]
    refine wpAny_bind (wpAny_loadPart ha ?_)
    rw [hd]; exact wpAny_pure hq
  have hd3 := Obj.data_mapFields hd (·.setIfInBounds 3 (.ref x1))
  have ha3 := Heap.get?_update_self (Obj.mapFields (·.setIfInBounds 3 (.ref x1))) ha (Obj.isFreed_of_fields hd3)
  obtain ⟨ha4, hd4⟩ := causeFrom_at (u := .ref x1) ha hd
  have s3 : 3 < vs.size := by omega
  have s4 : 4 < (vs.setIfInBounds 3 (Value.ref x1)).size := by rw [set_size]; exact hi
  have s2 : 2 < ((vs.setIfInBounds 3 (Value.ref x1)).setIfInBounds 4 (Value.bool true)).size := by rw [set_size, set_size]; omega
  have h14 : ((vs.setIfInBounds 3 (Value.ref x1)).setIfInBounds 4 (Value.bool true))[1]? = some Value.none := set_other (by decide) (set_other (by decide) h1)
  have hcls4 : ((oe.mapFields (·.setIfInBounds 3 (.ref x1))).mapFields (·.setIfInBounds 4 (.bool true))).cls = cls := by rw [Obj.cls_mapFields, Obj.cls_mapFields]; exact hcls
  have LT4 : PySem.W.Looks (model prog w) (causeFrom (.ref x1) s₁.heap a) (typeOf (.ref a)) cls := fun A Q E s k q => wpAny_typeOf_ref (k _ _ ha4) (by rw [hcls4]; exact q)
  have hnt4 : ∀ {Q' : Bool → Shared → Prop}, Q' false { s₁ with heap := causeFrom (.ref x1) s₁.heap a } → wpAny (model prog w) A (isType (.ref a)) Q' E { s₁ with heap := causeFrom (.ref x1) s₁.heap a } := by
    intro Q' hq
    simp only [isType, loadHead]
    refine wpAny_bind (wpAny_loadPart ha4 ?_)
    rw [hd4]; exact wpAny_pure hq
  have hot4 : HotAt A x1 (causeFrom (.ref x1) s₁.heap a) := by
    obtain ⟨q1, o, vs', q2, q3, q4⟩ := hot
    exact ⟨q1, o, vs', by rw [causeFrom_other (Ne.symm hne)]; exact q2, q3, q4⟩
  -- what stands behind the two stores
  have rest : wpAny (model prog w) A (do
      let b ← isType (.ref a)
      if b = true then do
        let e ← holding [.ref a] (raisedFor (.ref a) (.ref a))
        setFlight e none
        raiseNew e
      else do
        let e ← raisedInstance (.ref a)
        setFlight e none
        raiseNew e : Sem Flow) Q E { s₁ with heap := causeFrom (.ref x1) s₁.heap a } := by
    refine wpAny_bind (hnt4 ?_)
    simp only [Bool.false_eq_true, if_false]
    unfold raisedInstance
    refine wpAny_bind (wpAny_bind (LT4.here (wpAny_bind (L3.here ?_))))
    rw [if_pos (beq_self_eq_true _)]
    refine wpAny_pure ?_
    unfold setFlight
    refine wpAny_bind (wpAny_bind (wpAny_field ha4 hd4 h14 ?_))
    rw [if_neg (by decide)]
    refine wpAny_pure ?_
    exact raiseNew_hot hot4 hne ha4 hd4 s2 hE
  refine wpAny_bind (wpAny_holding (hcs _ (wpAny_bind (wpAny_pure ?_))))
  dsimp only
  refine wpAny_bind (wpAny_holding ?_)
  unfold excFromValue isExcClass
  refine wpAny_bind (wpAny_bind (hnt ?_))
  simp only [Bool.false_eq_true, if_false]
  refine wpAny_pure ?_
  simp only [Bool.false_eq_true, if_false]
  refine wpAny_bind (LI.here ?_)
  simp only [if_true]
  refine wpAny_pure ?_
  rw [if_neg (show ¬ ((Value.ref x1 == Value.none) = true) from Bool.false_ne_true)]
  refine wpAny_bind (wpAny_holding ?_)
  refine wpAny_bind (wpAny_bind (hntx ?_))
  simp only [Bool.false_eq_true, if_false]
  refine wpAny_pure ?_
  simp only [Bool.false_eq_true, if_false]
  refine wpAny_bind (LIx.here ?_)
  simp only [if_true]
  refine wpAny_pure ?_
  exact wpAny_bind (wpAny_setField ha hd s3 (wpAny_bind (wpAny_setField ha3 hd3 s4 rest)))
end HotX
namespace L2H
open PySem PySem.Spec PyProof.Rows L2 HotX
/-- raise X(..) from n, n the error that is handled -/
theorem ps_raiseHF {X : Cx} {W : WX} {e : Expr} {t : L2.St → Hp → XK → Prop} {i : Nat} {n : Str} {cpos pos : Pos} {a1 : Addr} {oe1 : Obj} {vs1 : Array Value} {cls1 : Value} (hN : X.N[i]? = some n) (hv : Vis X.env.scope n)
    (hh : X.A.handled = some (.ref a1)) (hp : (a1, oe1) ∈ X.pn) (hd1 : oe1.data = .fields vs1) (hc1 : vs1[2]? = some .none) (hcl : oe1.cls = cls1) {C1 : Addr} (r1 : Raises X (.ref C1)) (tk : L2.Takes X W) (he : PMk5 X e t) 
    (hdb : (n == ("__debug__" : Str)) = false := by decide) (hcd : (n == ("__classdict__" : Str)) = false := by decide) :
    PS X (.Raise (some e) (some (.Name n cpos)) pos) (fun _ σ H => (cls1 = .ref C1 ∧ σ[i]? = some (some (.ref a1))) ∧ t σ H fun cls d H' => W cls d σ H') := by
  refine ⟨fun pins s σ H D I h => ?_⟩
  obtain ⟨⟨ec1, hσ⟩, h⟩ := h
  subst ec1
  show wpAny _ _ (do standAt pos; raiseStmt X.env (some (do let v ← eval e X.env; standAt pos; pure v)) (some (do let v ← eval (.Name n cpos) X.env; standAt pos; pure v))) _ _ _
  refine wpAny_bind (wpAny_standAt (raise_made_hotF (x1 := a1) (wpAny_bind (wpAny_mono (he pins s σ H _ I h) (fun u s1 hu => wpAny_bind (wpAny_standAt (wpAny_pure ?_))) fun _ _ x => x))))
  obtain ⟨⟨a, oe, vs, sI, H', cls, d, rfl, J, k, hne, ha, hz, hd, h1, na, os, ag, r, q⟩, h5⟩ := hu
  have hi : 4 < vs.size := h5 a oe vs rfl ha hd
  have k4 : ∀ b u, sI.heap.get? b = some u → (causeFrom (.ref a1) s1.heap a).get? b = some u := fun b u z => by
    have nab : a ≠ b := fun y => by
      rw [← y, hne] at z
      cases z
    rw [causeFrom_other nab]
    exact k b u z
  obtain ⟨r1', _⟩ := r (model X.prog X.w) s1.heap (J.kIn.keeps k)
  obtain ⟨_, r2⟩ := r (model X.prog X.w) (causeFrom (.ref a1) s1.heap a) (J.kIn.keeps k4)
  have P1 := (J.pin (a1, oe1) (List.mem_append_left _ hp)).1
  have nap : a1 ≠ a := fun z => by
    rw [z, hne] at P1
    cases P1
  obtain ⟨ha4, hd4⟩ := causeFrom_at (u := .ref a1) ha hd
  have h12 : (((vs.setIfInBounds 3 (Value.ref a1)).setIfInBounds 4 (Value.bool true)).setIfInBounds 2 (Value.ref a1))[1]? = some Value.none := set_other (by decide) (set_other (by decide) (set_other (by decide) h1))
  refine ⟨a, oe, vs, cls, rfl, ha, hz.1, hd, h1, hi, nap, ⟨hh, oe1, vs1, k _ _ P1, hd1, hc1⟩, ⟨oe1, vs1, k _ _ P1, hd1, by rw [hcl]; exact (r1 (model X.prog X.w) s1.heap (J.kIn.keeps k)).1⟩, fun Q' hQ' => ?_, r1', r2, tk _ _ (XE.new J (fun b u z => ?_) hne (Heap.get?_update_self _ ha4 (Obj.isFreed_of_fields (Obj.data_mapFields hd4 _)))
    ⟨by rw [Obj.cls_mapFields, Obj.cls_mapFields, Obj.cls_mapFields]; exact hz.1, by rw [HandSPX.dict_mapFields, HandSPX.dict_mapFields, HandSPX.dict_mapFields]; exact hz.2.1⟩ (Obj.data_mapFields hd4 _) h12 na os ag q)⟩
  · obtain ⟨m, hn, hl⟩ := J.loc
    obtain ⟨u, ru, l⟩ := hl i n _ hN hσ hv
    obtain rfl : u = Value.ref a1 := ru
    refine wpAny_bind (m := eval (.Name n cpos) X.env) ?_
    have fin : wpAny (model X.prog X.w) X.A (do standAt pos; pure (Value.ref a1)) Q' X.xe s1 := wpAny_bind (wpAny_standAt (wpAny_pure hQ'))
    rcases l with ⟨hk, hm⟩ | ⟨hk, c, hc, hcell⟩
    · exact wpAny_Name (wpAny_loadName_local J.ok.kind hk (hn.keeps k) hm fin) hdb
    · rcases hk with hk | hk
      · exact wpAny_Name (wpAny_loadName_cell J.ok.kind hk hc (hcell.keeps k) fin) hdb
      · exact wpAny_Name (wpAny_loadName_free J.ok.kind hk hc (hcell.keeps k) fin hcd) hdb
  · have nab : a ≠ b := fun y => by
      rw [← y, hne] at z
      cases z
    show ((causeFrom (.ref a1) s1.heap a).update a (Obj.mapFields (·.setIfInBounds 2 (.ref a1)))).get? b = some u
    rw [Heap.get?_update_other _ _ nab]
    exact k4 b u z
end L2H
set_option Elab.async false
set_option linter.all false
set_option maxRecDepth 100000
set_option maxHeartbeats 4000000
/-! super().__init__(..) in the own __init__ of an exception, while another one is handled. -/
namespace Sx
open PySem PySem.Spec L2 PyProof.Rows
section
variable {CX : CXT} {P : Program} {w : World} {K : PySem.W.Frag} {mg : Str → Option Value} {base : Heap} {N : List Str} {D f c cc : Addr} {k : Nat} {sp : Sp} {x qual p1 : Str} {ps : List Str} {st : Stmt} {fd : FuncData} {e0 : Expr} {es : List Expr} {rest : List Stmt} {q0 q1 q2 q3 q4 : Pos} {ar : Arg} {n : NdefX.NF}
theorem fn_supH (F : FunS K P.main.file x qual st D f c cc fd) (hn : n = nf x qual st cc c) (S : NdefX.NScope N (p1 :: ps) ["__class__"] (defScope st))
    (hbd : defBody st = .Expr (.Call (.Attribute (.Call (.Name "super" q0) [] [] q1) "__init__" q2) (e0 :: es) [] q3) q4 :: rest)
    (hk : (defScope st).names.lookup ("super" : Str) = some .globalImplicit)
    (har : ((defArgs st).posonlyargs ++ (defArgs st).args).head? = some ar) (harn : ar.arg = p1) (htop : (P.main.scope.names.lookup ("super" : Str)).isSome = false) (hsu : mg "super" = none)
    (len : ∀ vs H Q E, sp vs H Q E → vs.length = (p1 :: ps).length)
    (hbody : ∀ (A : Around) (outer : List Env) (s : Shared) (H : Hp) (vs : List V) (Q : VK) (E : XK) (pp : Addr × Obj), L2H.Hot1 A pp → L2H.RoomH k (A.deeper (NdefX.envF n f s.heap.objs.size)) → sp vs H Q E →
      ∃ (ta : TA) (tr : TS), PA (NdefX.ncxH CX P w K mg base N n f A outer s H E pp) (e0 :: es) ta ∧ PSs (NdefX.ncxH CX P w K mg base N n f A outer s H E pp) rest tr ∧
        ∃ (a C : Addr) (vr : List V), vs = .ref a :: vr ∧ H a = some (exo a C none) ∧ OexC K C ∧ SupE K C D ∧
          ta (NdefX.startF N vs (wsOf D)) H fun ws H1 => ws.length ≤ 1000 ∧ H1 a = some (exo a C none) ∧ tr { nx := fun _ H' => Q .non H', rt := Q } (NdefX.startF N vs (wsOf D)) H1)
    (he : ∀ L, starEach (e0 :: es) (NdefX.envF n f L) = (false, eval e0 (NdefX.envF n f L)) :: starEach es (NdefX.envF n f L) := by intro _; rfl) (hpl : ∀ L, (backTo q3 (starEach es (NdefX.envF n f L))).any (·.1) = false := by intro _; rfl)
    (hi : ∀ L, interactive (NdefX.envF n f L) = false := by intro _; rfl) (hsw : ∀ L, swapsWith (.Call (.Attribute (.Call (.Name "super" q0) [] [] q1) "__init__" q2) (e0 :: es) [] q3) none q4.line (NdefX.envF n f L) = pure false := by intro _; rfl) {pl : Nat → Sem Bool}
    (hm : ∀ L, eval (.Call (.Attribute (.Call (.Name "super" q0) [] [] q1) "__init__" q2) (e0 :: es) [] q3) (NdefX.envF n f L) = (do
      let ov ← attributeBase (.Call (.Name "super" q0) [] [] q1) "__init__" (NdefX.envF n f L) (eval (.Call (.Name "super" q0) [] [] q1) (NdefX.envF n f L))
      standAt q2.atName
      let (g, first) ← holding [ov] (getMethod ov "__init__" (pl L))
      callWith q3 g first (backTo q3 (starEach (e0 :: es) (NdefX.envF n f L))) []) := by intro _; rfl) :
    L2H.FnH P w K mg base CX (k + 1) f fd (p1 :: ps) sp := by
  subst hn
  obtain ⟨oc, od, an, kV, doc, pm, ct, osl, rfl, lk⟩ := F.ex
  refine ⟨len, fun A outer s H args us vs Q E pp hr hot hpin e0' hb r hsp => ?_⟩
  have hl := len _ _ _ _ hsp
  have KX : K.In s.heap := e0'.mod.kin.keeps fun b o e => (e0'.bs b o e).1
  have lim : s.heap.NoLimit := e0'.mod.nolimit.keeps fun b o e => (e0'.bs b o e).1
  obtain ⟨oCl, hcl, hcd⟩ := F.cell
  obtain ⟨oCd, vsC, tf, hco, hcf, hc2⟩ := F.code
  have C : NdefX.CellsAt [("__class__", cc)] ["__class__"] (wsOf D) s.heap H := by
    have hc : H cc = none := (e0'.bs cc oCl (e0'.mod.kin _ _ hcl)).2
    have hcell : s.heap.IsCell cc (some (.ref D)) := ⟨oCl, KX _ _ hcl, hcd⟩
    have one : ∀ {y : Str} {b : Addr}, List.lookup y [(("__class__" : Str), cc)] = some b → y = "__class__" ∧ b = cc := fun {y b} h => by
      rw [List.lookup_cons] at h
      cases q : y == ("__class__" : Str) with
      | true =>
        rw [q] at h
        exact ⟨eq_of_beq q, (Option.some.inj h).symm⟩
      | false =>
        rw [q] at h
        cases h
    refine ⟨rfl, fun y b h => ?_, fun x y b h1 h2 => ?_, fun i y h => ?_⟩
    · obtain ⟨rfl, rfl⟩ := one h
      exact ⟨hc, _, hcell⟩
    · rw [(one h1).1, (one h2).1]
    · match i, h with
      | 0, h =>
        have h : some ("__class__" : Str) = some y := h
        cases h
        refine ⟨cc, by rw [List.lookup_cons_self], fun v hv => ?_⟩
        have hv : some (some (V.ref D)) = some (some v) := hv
        cases hv
        exact ⟨.ref D, rfl, hcell⟩
  refine codeAny_call_function hr.depth (KX _ _ lk) rfl S.co S.gen rfl (PySem.W.codeRec_of KX F.cd) (hb _ _ _ _ ?_)
  refine wpAny_newFunctionEnv S.nocell (fun ⟨n, _⟩ hy => S.par n (List.of_mem_zip hy).1) (fun h₁ hns hsb => ⟨lim.fresh _ hsb, ?_⟩) S.kind
  have kp : ∀ b o, s.heap.get? b = some o → h₁.get? b = some o := fun b o e => hsb.extBut b o (Nat.ne_of_lt (Heap.lt_size e)) (Heap.get?_push_of_some _ e)
  show codeAny _ _ (.func (defBody st) (NdefX.envF (nf x qual st cc c) f s.heap.objs.size)) _ _
  obtain ⟨ta, tr, hta, htr, a, C', vr, rfl, ha, T, z, hq⟩ := hbody A outer s H vs Q E pp hot (hr.deeper _) hsp
  have I : Inv (NdefX.ncxH CX P w K mg base N (nf x qual st cc c) f A outer s H E pp) [] (NdefX.startF N (.ref a :: vr) (wsOf D)) H { s with heap := h₁, toks := s.toks + ((p1 :: ps).zip us).length } := NdefX.inv_startNH S hpin e0' hl r C hns kp
  refine PySem.ks_codeAny_funcAt ?_
  rw [hbd]
  refine PySem.ks_wpAt_execs_cons (PySem.ks_wpAt_Expr_any (PySem.ks_wpAt_MethodCall (pl := pl s.heap.objs.size) ?_ (hm _)) (hi _) (hsw _))
  have hfree : (NdefX.envF (nf x qual st cc c) f s.heap.objs.size).kindOf "__class__" = some .free := S.frk _ (List.mem_singleton.mpr rfl)
  have hloc : (NdefX.envF (nf x qual st cc c) f s.heap.objs.size).kindOf ar.arg = some .local := by
    rw [harn]
    exact S.par _ (List.mem_cons_self ..)
  refine PySem.ks_wpAt_super_base (ar := ar) (f := f) (cc := c) hk hfree rfl rfl (kp _ _ (KX _ _ lk)) rfl har rfl (kp _ _ (KX _ _ hco)) hcf hc2 (by simp) htop ?_
  -- the three names
  have hsup : ∀ {R : Value → Shared → Prop} {E' : Value → Shared → Prop}, R (.type "super") { s with heap := h₁, toks := s.toks + ((p1 :: ps).zip us).length } → wpAny (model P w) (A.deeper (NdefX.envF (nf x qual st cc c) f s.heap.objs.size)) (loadName (NdefX.envF (nf x qual st cc c) f s.heap.objs.size) "super") R E' { s with heap := h₁, toks := s.toks + ((p1 :: ps).zip us).length } := fun {R E'} h => by
    unfold loadName
    have hk' : (NdefX.envF (nf x qual st cc c) f s.heap.objs.size).kindOf "super" = some .globalImplicit := hk
    simp only [Env.blockKind, S.kind, hk', ScopeKind.isAnnotationScope, Bool.false_and, Bool.false_eq_true, if_false]
    obtain ⟨mb, h1, h2⟩ := I.mod.blt
    exact Calls.loadGlobal_builtin (I.mod.glob.keeps I.bk) hsu (h1.keeps I.bk) ((h2 "super" (by decide)).trans PyProof.Rows.Boot.«super») h
  refine hsup ⟨rfl, ?_⟩
  obtain ⟨c0, hc0, hv0⟩ := C.has 0 "__class__" rfl
  obtain ⟨u0, ru0, ⟨oq, hq1, hq2⟩⟩ := hv0 (.ref D) rfl
  cases ru0
  refine wpAny_loadName_free (env := NdefX.envF (nf x qual st cc c) f s.heap.objs.size) S.kind hfree hc0 ⟨oq, kp _ _ hq1, hq2⟩ ?_
  cases r with
  | @cons _ ua _ ur ra rr =>
  obtain rfl : ua = Value.ref a := ra
  have hlk : ((p1 :: ps).zip (Value.ref a :: ur)).reverse.lookup ar.arg = some (.ref a) := by
    rw [harn]
    have ndP : (p1 :: ps).Nodup := by
      have q := S.nd.sublist (List.take_sublist ((p1 :: ps).length + [("__class__" : Str)].length) N)
      rw [S.pre] at q
      exact (List.nodup_append.mp q).1
    exact NdefX.zip_look (i := 0) ndP rfl rfl
  refine wpAny_loadName_local (env := NdefX.envF (nf x qual st cc c) f s.heap.objs.size) S.kind hloc hns hlk ?_
  refine sup_chain (X := NdefX.ncxH CX P w K mg base N (nf x qual st cc c) f A outer s H E pp) (Q := fun _ H1 => tr { nx := fun _ H' => Q .non H', rt := Q } (NdefX.startF N (.ref a :: vr) (wsOf D)) H1) T z I ha hta hq (fun v s' h => ?_) (he _) (hpl _)
  obtain ⟨y, H1, J, ry, q⟩ := h
  show PySem.wpAt _ _ _ (execs rest (NdefX.envF (nf x qual st cc c) f s.heap.objs.size)) _ _ _
  refine PySem.wpAt_of_wpAny (wpAny_mono (htr.run [] s' _ H1 _ J q) (fun fl s' hs => ?_) fun e s' hs => hs)
  have fin : ∀ {σ' : L2.St} {H' : Hp} {v : V} {u : Value}, Inv (NdefX.ncxH CX P w K mg base N (nf x qual st cc c) f A outer s H E pp) [] σ' H' s' → L2.RelV v u → Q v H' → CE outer P w H s Q u s' :=
    fun {σ' H' v u} J rv q => ⟨v, H', J.os, J.bare, J.base, J.hok, rv, q⟩
  cases fl with
  | ret u =>
    obtain ⟨v, σ', H', J, rv, q⟩ := hs
    exact fin J rv q
  | next =>
    obtain ⟨σ', H', J, q⟩ := hs
    exact fin (v := V.non) (u := Value.none) J rfl q
  | brk =>
    obtain ⟨_, _, _, q⟩ := hs
    exact False.elim q
  | cont =>
    obtain ⟨_, _, _, q⟩ := hs
    exact False.elim q
end
end Sx
set_option Elab.async false
set_option linter.all false
set_option maxRecDepth 100000
set_option maxHeartbeats 2000000
/-! try .. except X as n, where the suite itself raises: behind it the name is gone, and the exception flies on. -/
namespace L2H
open PySem PySem.Spec PyProof.Rows L2 HotX
section
variable {X : Cx} {pins : List (Addr × Obj)} {σ : L2.St} {H : Hp} {s : Shared}
/-- the name's slot goes: told of any heap that is the same but for the frame's names -/
theorem gone_inv {i : Nat} {n : Str} {m : Str → Option Value} {v : Option Value} {h' : Heap} (I : Inv X pins σ H s) (hN : X.N.Nodup) (hi : X.N[i]? = some n)
    (hlk : ∀ (j : Nat) (x : Str) (u : V), X.N[j]? = some x → σ[j]? = some (some u) → Vis X.env.scope x → ∃ u', RelV u u' ∧ Look X.env s.heap m x u')
    (hn' : h'.Ns X.env.locals (fun x => if x = n then v else m x)) (hs : Heap.SameBut X.env.locals s.heap h') (tk : Nat) : Inv X pins (σ.set i none) H { s with heap := h', toks := tk } := by
  obtain ⟨oL, _, _, hoL, _⟩ := id hn'
  have neL : ∀ b o, X.s_0.heap.get? b = some o → b ≠ X.env.locals := fun b o e => Nat.ne_of_lt (Nat.lt_of_lt_of_le (Heap.lt_size e) I.ok.above)
  refine ⟨I.ok, I.os, I.bare, ⟨fun b o e n hb hx => ?_, fun b o e n hb hx => ?_, I.base.free, fun b o e hx => ?_, I.base.tups, I.base.frzs, I.base.tbls⟩, ⟨_, hn', fun j y v' e1 e2 e3 => ?_⟩, fun y c e => ?_, I.free, I.freeC, fun p hp => ?_, fun b ob e => ?_, by simpa using I.len⟩
  · exact (hs.2 b (neL b o e)).trans (I.base.keep b o e n hb hx)
  · obtain ⟨sl, e1⟩ := I.base.slot b o e n hb hx
    exact ⟨sl, (hs.2 b (neL b o e)).trans e1⟩
  · obtain ⟨o', e1⟩ := I.base.there b o e hx
    exact ⟨o', (hs.2 b (neL b o e)).trans e1⟩
  · by_cases hj : j = i
    · subst hj
      by_cases hlt : j < σ.length
      · rw [List.getElem?_set_self hlt] at e2; cases e2
      · rw [List.getElem?_eq_none (by simpa using hlt)] at e2; cases e2
    · rw [List.getElem?_set_ne (Ne.symm hj)] at e2
      obtain ⟨u', r', q⟩ := hlk j y v' e1 e2 e3
      refine ⟨u', r', ?_⟩
      rcases q with ⟨k, e⟩ | ⟨k, c, e, z⟩
      · have ny : y ≠ n := fun e => hj (nodup_ix hN e1 (e ▸ hi))
        exact .inl ⟨k, (if_neg ny).trans e⟩
      · exact .inr ⟨k, c, e, z.sameBut hs (I.cne y c e)⟩
  · obtain ⟨w', z⟩ := I.cell y c e
    exact ⟨w', z.sameBut hs (I.cne y c e)⟩
  · obtain ⟨e, n, ne, nf, d⟩ := I.pin p hp
    exact ⟨(hs.2 p.1 ne).trans e, n, ne, nf, d⟩
  · refine (I.hok b ob e).stay (fun c w' hc q => (hs.2 c ?_).trans q) (fun _ q => q) fun _ _ q => q
    intro z
    subst z
    rcases hc with hc | hc
    · rw [← hc, I.free] at e; cases e
    · rw [I.free] at hc; cases hc
end
theorem tracedZ_sameBut {h h' B : Heap} {a L : Addr} {Z : Obj → Prop} {fl : Value} {m : Str → Option Value} (x : HandSPX.TracedZ h B a Z fl) (hn : h.Ns L m) (hs : Heap.SameBut L h h') : HandSPX.TracedZ h' B a Z fl := by
  obtain ⟨oe, vs, T, oT, ts, he, hz, hd, h1, hnT, hTe, hT, hdT, h3⟩ := x
  obtain ⟨o, es, ep, ho, hdo, _⟩ := hn
  have ne : a ≠ L := fun q => by
    rw [q, ho] at he; cases he
    rw [hdo] at hd; cases hd
  have nT : T ≠ L := fun q => by
    rw [q, ho] at hT; cases hT
    rw [hdo] at hdT; cases hdT
  exact ⟨oe, vs, T, oT, ts, (hs.2 a ne).trans he, hz, hd, h1, hnT, hTe, (hs.2 T nT).trans hT, hdT, h3⟩
/-- noted at the frame, wherever it was -/
theorem sky_note {M : Model} {A : Around} {E₁ : Value → Shared → Prop} {env : Env} {outer : List Env} {L a : Addr} {Z : Obj → Prop} {B : Heap} {s : Shared} {Q : Unit → Shared → Prop} (hZ : HandSPX.Steady Z) (hfr : A.frames = some (env :: outer)) (hf : env.frame = some L)
    (x : Sky B (env :: outer) a Z L s.heap) (hQ : ∀ h', HandSPX.HeldZ B (env :: outer) a Z L h' → s.heap.UpToSlots h' → Q () { s with heap := h' }) : wpAny M A (noteFrame (.ref a) env) Q E₁ s := by
  rcases x with ⟨hB, hn, hl, oe, vs, he, hz, hd, h1⟩ | fl | hh
  · exact HandSPX.look_newZ hZ hfr hl hf he hB hn hd h1 hz hQ
  · exact HandSPX.looks_onZ hZ hfr hf fl hQ
  · exact HandSPX.againZ hf hh.2.2.2 (hQ s.heap hh (Heap.UpToSlots.refl _))
/-- an exception leaves the suite of «except X as n» -/
theorem as_leaves {X : Cx} {Y : Cx} {pins : List (Addr × Obj)} {i : Nat} {n : Str} {pos : Pos} {W Wout : WX} {A' : Around} {u : Value} {s : Shared} (hs : X.stack = X.env :: X.outer) (hf : X.env.frame = some X.env.locals) (hN : X.N.Nodup) (hi : X.N[i]? = some n) (hln : X.env.kindOf n = some .local)
    (hA : A'.frames = X.A.frames) (ok : X.Ok) (ye : Y.env = X.env) (ys : Y.stack = X.stack) (hY : ∀ (pn : List (Addr × Obj)) (σ' : L2.St) (H' : Hp) (sI : Shared), Inv Y pn σ' H' sI → Inv X pins σ' H' sI) (hW : ∀ cls d σ' H', W cls d σ' H' → Wout cls d (σ'.set i none) H') (tk : L2.Takes X Wout) (x : L2.XE Y W u s) :
    wpAny (model X.prog X.w) A' (noteFrame u X.env) (fun _ s₃' =>
      wpAny (model X.prog X.w) A' (do bindName X.env n .none; unbindBehindTheSuite X.env n pos)
        (fun _ s₄ => wpAny (model X.prog X.w) A' (passOn "try.except-as" u X.env : Sem Flow) (fun _ _ => False) (notedBy (model X.prog X.w) A' X.env fun x s' => cameBackBy (model X.prog X.w) X.A X.env X.xe x s') s₄)
        (fun y s₄ => wpAny (model X.prog X.w) A' (setFlight u none) (fun _ s₅ => (notedBy (model X.prog X.w) A' X.env fun x s' => cameBackBy (model X.prog X.w) X.A X.env X.xe x s') y s₅) (notedBy (model X.prog X.w) A' X.env fun x s' => cameBackBy (model X.prog X.w) X.A X.env X.xe x s') s₄) s₃') (notedBy (model X.prog X.w) A' X.env fun x s' => cameBackBy (model X.prog X.w) X.A X.env X.xe x s') s := by
  obtain ⟨a, B, sI, pn, σ, H, cls, d, rfl, I', nb, up, sky, na, os, ag, w⟩ := x
  have I : Inv X pins σ H sI := hY _ _ _ _ I'
  rw [ys] at nb
  rw [ye, ys, hs] at sky
  have hfr : A'.frames = some (X.env :: X.outer) := by rw [hA, ok.frames, hs]
  have hcls : (X.env.scope.kind == .class || (X.env.scope.kind == .module && X.env.locals != X.env.globals)) = false := by rw [ok.kind]; rfl
  refine sky_note Zc.steady hfr hf sky fun h3 hh3 up3 => ?_
  obtain ⟨m, hn, hlk⟩ := I.loc
  have hn3 : h3.Ns X.env.locals m := (up.trans up3).ns hn
  refine wpAny_nameGoes_keeps hln hn3 hcls fun h4 v hn4 hs4 => ?_
  -- the state without the exception, the name gone there too
  obtain ⟨oL, es, ep, hoL, hdL, rL⟩ := id hn4
  obtain ⟨o0, es0, ep0, ho0, _⟩ := id hn
  have gL : (sI.heap.update X.env.locals fun _ => oL).get? X.env.locals = some oL := Heap.get?_update_self _ ho0 (Heap.get?_some_iff.mp hoL).2
  have sG : Heap.SameBut X.env.locals sI.heap (sI.heap.update X.env.locals fun _ => oL) := Heap.SameBut.update ..
  have nG : (sI.heap.update X.env.locals fun _ => oL).Ns X.env.locals (fun x => if x = n then v else m x) := ⟨oL, es, ep, gL, hdL, rL⟩
  have J : Inv X pins (σ.set i none) H { sI with heap := sI.heap.update X.env.locals fun _ => oL } := gone_inv I hN hi hlk nG sG sI.toks
  have bL : B.get? X.env.locals = none := by
    obtain ⟨_, ⟨L', _, hf', hb', _⟩, _⟩ := hh3.2.2.1
    rw [hf] at hf'
    rw [Option.some.inj hf']
    exact hb'
  have stk : X.env.locals ∈ frs X.stack := by rw [hs]; exact List.mem_filterMap.mpr ⟨X.env, List.mem_cons_self, hf⟩
  have nb' : ∀ b o, (sI.heap.update X.env.locals fun _ => oL).get? b = some o → b ∉ frs X.stack → B.get? b = some o := fun b o e hb => by
    have nb1 : b ≠ X.env.locals := fun q => hb (q ▸ stk)
    rw [sG.2 b nb1] at e
    exact nb b o e hb
  have up4 : (sI.heap.update X.env.locals fun _ => oL).UpToSlots h4 := fun b o e hnf => by
    by_cases q : b = X.env.locals
    · subst q
      rw [gL] at e; cases e
      exact ⟨oL.slots, hoL⟩
    · rw [sG.2 b q] at e
      obtain ⟨sl, e1⟩ := (up.trans up3) b o e hnf
      exact ⟨sl, (hs4.2 b q).trans e1⟩
  have b4 : B.StaysIn h4 := fun b o hb => (hs4.2 b fun q => by rw [q, bL] at hb; cases hb).trans (hh3.1 b o hb)
  have f4 : h4.FunFrames B (X.env :: X.outer) := Heap.FunFrames.sameBut hs4 hn4 hh3.2.2.1
  have t4 := tracedZ_sameBut hh3.2.2.2 hn3 hs4
  obtain ⟨oe, vs, T, oT, ts, he, hz, hd, h1, r⟩ := id t4
  unfold PySem.passOn
  refine wpAny_bind (wpAny_field he hd h1 ?_)
  rw [if_neg (show ¬ ((Value.ref T == Value.none) = true) from by simp)]
  rw [hf]
  have fin : wpAny (model X.prog X.w) A' (setFlight (.ref a) (some X.env.locals)) (fun _ s4 => wpAny (model X.prog X.w) A' (throw (.ref a) : Sem Flow) (fun _ _ => False) (notedBy (model X.prog X.w) A' X.env fun x s' => cameBackBy (model X.prog X.w) X.A X.env X.xe x s') s4) (notedBy (model X.prog X.w) A' X.env fun x s' => cameBackBy (model X.prog X.w) X.A X.env X.xe x s') { s with heap := h4, toks := s.toks + 1 } := by
    refine HandSPX.setFlight_anyZ (l := X.env :: X.outer) b4 f4 t4 fun h5 b5 f5 t5 up5 => wpAny_throw ?_
    show wpAny _ A' (noteFrame (.ref a) X.env) _ _ _
    refine HandSPX.againZ hf t5 ?_
    obtain ⟨oe', vs', T', oT', ts', he', hz', hd', h1', r'⟩ := id t5
    show wpAny _ X.A (do
      if (← field (.ref a) 1) == .none then unsupported "frame.own-activation:exception-without-traceback"
      setFlight (.ref a) X.env.frame) _ _ _
    refine wpAny_bind (wpAny_field he' hd' h1' ?_)
    rw [if_neg (show ¬ ((Value.ref T' == Value.none) = true) from by simp)]
    rw [hf]
    have fin2 : wpAny (model X.prog X.w) X.A (setFlight (.ref a) (some X.env.locals)) (fun _ s'' => X.xe (.ref a) s'') X.xe { s with heap := h5, toks := s.toks + 1 } := by
      refine HandSPX.setFlight_anyZ (l := X.env :: X.outer) b5 f5 t5 fun h6 b6 f6 t6 up6 => tk _ _ ?_
      exact ⟨a, B, _, pins, σ.set i none, H, cls, d, rfl, J, nb', (up4.trans up5).trans up6, .inr (.inr (by rw [hs]; exact ⟨b6, hh3.2.1, f6, t6⟩)), na, os, ag, hW _ _ _ _ w⟩
    first
      | exact fin2
      | exact wpAny_bind (wpAny_pure fin2)
  first
    | exact wpAny_bind (wpAny_pure (wpAny_bind fin))
    | exact wpAny_bind fin
/-- the context of a suite of «except X as n» that may raise: what it wishes stands with the slots -/
abbrev suiteA (X : Cx) (a : Addr) (pn : List (Addr × Obj)) (xe : Value → Shared → Prop) : Cx := { X with A := X.A.mark (some (.ref a)), calm := false, pn := pn, xe := xe }
section
variable {X : Cx} {x n : Str} {c : Value} {i : Nat} {body suite : List Stmt} {b₀ : Stmt} {np pos pos' : Pos} {tb : WX → TS} {ts : Addr → Value → Option Addr → TS} {Wout : WX}
theorem ps_try_asX (hs : X.stack = X.env :: X.outer) (hf : X.env.frame = some X.env.locals) (hN : X.N.Nodup) (hi : X.N[i]? = some n) (hln : X.env.kindOf n = some .local) (hc : Names X x c) (tk : L2.Takes X Wout)
    (hb : ∀ (W : WX) (pn : List (Addr × Obj)) (xe : Value → Shared → Prop), L2N.Takes (X.tr pn xe) W → PassesOwn (model X.prog X.w) X.A X.env xe → PSs (X.tr pn xe) body (tb W))
    (hsu : ∀ (a : Addr) (oe : Obj) (cls : Value) (d : Option Addr) (pn : List (Addr × Obj)) (xe : Value → Shared → Prop), L2N.Zn cls d oe → (∃ vs, oe.data = .fields vs) → L2.Takes (suiteA X a ((a, oe) :: pn) xe) (fun cls d σ H => Wout cls d (σ.set i none) H) → HotC (suiteA X a ((a, oe) :: pn) xe) →
      PSs (suiteA X a ((a, oe) :: pn) xe) (b₀ :: suite) (ts a cls d)) :
    PS X (.Try body [.ExceptHandler (some (.Name x np)) (some n) (b₀ :: suite) pos'] [] [] pos) (fun D σ H => tb (wAs X.K c i ts Wout D) D σ H) := by
  refine ⟨fun pins s σ H D I h => ?_⟩
  have ok := I.ok
  have hfr : X.A.frames = some (X.env :: X.outer) := by rw [ok.frames, hs]
  have hloc : Loc X.env.scope n := .inl hln
  refine wpAny_Try_except ?_
  refine wpAny_mono ((hb (wAs X.K c i ts Wout D) (X.pn ++ pins) (fun e s₁ => wpAny (model X.prog X.w) X.A (noteFrame e X.env) (fun _ s₂ => wpAny (model X.prog X.w) X.A (setFlight e none) (fun _ s₃ =>
    wpAny (model X.prog X.w) X.A (handleBy e X.env [.ExceptHandler (some (.Name x np)) (some n) (b₀ :: suite) pos']) (SP X pins D) X.xe s₃) X.xe s₂) X.xe s₁) (fun u s' xx => ?_) PassesOwn.looking).run [] s σ H D (I.toTry _) h) (fun f s1 hsp => ?_) (fun e s1 he => he)
  · obtain ⟨a, B, sI, pins', σ', H', cls, d, rfl, J', nb, up, sky, na, os, ag, b, hb1, hyes, hno⟩ := xx
    have J : Inv X pins σ' H' sI := J'.ofTry ok
    have sky' : Sky B (X.env :: X.outer) a (L2N.Zn cls d) X.env.locals s'.heap := by rw [← hs]; exact sky
    show wpAny (model X.prog X.w) X.A (noteFrame (.ref a) X.env) _ _ _
    refine L2N.Sky.land L2N.Zn.steady hfr hf sky' fun h3 fl3 up3 => ?_
    have J3 : Inv X pins σ' H' { s' with heap := h3 } := J.landed nb fl3.1 (up.trans up3) os ag
    obtain ⟨oe3, vs3, he3, hz3, hd3⟩ := fl3.there
    have notFr : ∀ {h : Heap} {o : Obj} {vs : Array Value}, h.FunFrames B (X.env :: X.outer) → h.get? a = some o → o.data = .fields vs → a ∉ frs (X.env :: X.outer) := fun {h o vs} ff e dd hm => by
      obtain ⟨_, o', e', hnf⟩ := ff.mem hm
      rw [e] at e'; cases e'
      exact hnf _ dd
    have nfr := notFr fl3.2.2.1 he3 hd3
    have nL : a ≠ X.env.locals := fun z => nfr (List.mem_filterMap.mpr ⟨X.env, List.mem_cons_self, by rw [hf, z]⟩)
    have nF : a ∉ X.fs := fun hm => by
      obtain ⟨e, he, q⟩ := List.mem_filterMap.mp hm
      exact nfr (List.mem_filterMap.mpr ⟨e, List.mem_cons_of_mem _ he, q⟩)
    have S3 := J3.suite he3 hd3 na nL nF
    refine wpAny_handleBy_cons (codeAny_handlers_test ?_) (by intro q; cases q)
    have LT : PySem.W.Looks (model X.prog X.w) h3 (typeOf (.ref a)) cls := fun A Q E s k q => wpAny_typeOf_ref (k _ _ he3) (by rw [hz3.1]; exact q)
    have LM := PySem.W.exm_one (M := model X.prog X.w) (J3.kIn) LT hb1
    have test : ∀ {Q : Value → Shared → Prop} {E : Value → Shared → Prop}, Q c { s' with heap := h3 } → wpAny (model X.prog X.w) (X.A.mark (some (.ref a))) (eval (.Name x np) X.env) Q E { s' with heap := h3 } := fun {Q E} q => by
      obtain ⟨hg, hdbg, hm | ⟨hm, hv, hnn⟩⟩ := hc
      · exact ld_glob (X := X.suite a ((a, oe3) :: (X.pn ++ pins))) S3 hg hm q hdbg
      · exact ld_blt (X := X.suite a ((a, oe3) :: (X.pn ++ pins))) S3 hg hm hv q hnn hdbg
    refine test (LM.here ?_)
    cases b with
    | true =>
      refine codeAny_handlers_suite_as ?_
      refine HandSPX.lands_againZ fl3 fun h4 fl4 up4 => ?_
      have J4 : Inv X pins σ' H' { s' with heap := h4 } := J.landed nb fl4.1 ((up.trans up3).trans up4) os ag
      obtain ⟨oe4, vs4, he4, hz4, hd4⟩ := fl4.there
      have S4 := J4.suite he4 hd4 na nL nF
      refine store_ok (X := X.suite a ((a, oe4) :: (X.pn ++ pins))) (v := .ref a) S4 hN hi hloc rfl (fun s5 S5 => ?_) (.inr hln)
      -- what the suite wishes of an exception
      have S5' : Inv (suiteA X a ((a, oe4) :: (X.pn ++ pins)) (L2.XE (suiteX X a ((a, oe4) :: (X.pn ++ pins))) (fun cls d σ H => Wout cls d (σ.set i none) H))) [] _ H' s5 := Inv.unwish (E := fun _ _ => False) S5
      have tkS : L2.Takes (suiteA X a ((a, oe4) :: (X.pn ++ pins)) (L2.XE (suiteX X a ((a, oe4) :: (X.pn ++ pins))) (fun cls d σ H => Wout cls d (σ.set i none) H))) (fun cls d σ H => Wout cls d (σ.set i none) H) := fun u2 s2 x2 => by
        obtain ⟨a2, B2, sI2, pn2, σ2, H2, cls2, d2, e2, I2, nb2, up2, sky2, na2, os2, ag2, w2⟩ := x2
        have I3 : Inv (X.suite a ((a, oe4) :: (X.pn ++ pins))) pn2 σ2 H2 sI2 := I2.wish fun _ _ => False
        exact ⟨a2, B2, sI2, pn2, σ2, H2, cls2, d2, e2, suiteX_of I3, nb2, up2, sky2, na2, os2, ag2, w2⟩
      have hot : HotC (suiteA X a ((a, oe4) :: (X.pn ++ pins)) (L2.XE (suiteX X a ((a, oe4) :: (X.pn ++ pins))) (fun cls d σ H => Wout cls d (σ.set i none) H))) := ⟨(a, oe4), ⟨rfl, vs4, hd4, hz4.2.2 vs4 hd4⟩, List.mem_cons_self⟩
      refine wpAny_mono ((hsu a oe4 cls d (X.pn ++ pins) _ hz4 ⟨_, hd4⟩ tkS hot).run [] s5 _ H' _ S5' (hyes rfl a na)) (fun f s6 hsp => ?_) (fun e6 s6 z => ?_)
      · have un : ∀ {pn6 : List (Addr × Obj)} {σ6 : L2.St} {H6 : Hp}, Inv (suiteA X a ((a, oe4) :: (X.pn ++ pins)) (L2.XE (suiteX X a ((a, oe4) :: (X.pn ++ pins))) (fun cls d σ H => Wout cls d (σ.set i none) H))) pn6 σ6 H6 s6 → Inv X pins σ6 H6 s6 := fun {pn6 σ6 H6} S6 => by
          have I3 : Inv (X.suite a ((a, oe4) :: (X.pn ++ pins))) pn6 σ6 H6 s6 := S6.wish fun _ _ => False
          exact I3.unsuite ok
        have end_ : ∀ {σ6 : L2.St} {H6 : Hp} {Q : Shared → Prop}, Inv X pins σ6 H6 s6 → (∀ s7, Inv X pins (σ6.set i none) H6 s7 → Q s7) →
            wpAny (model X.prog X.w) X.A (do bindName X.env n .none; unbindBehindTheSuite X.env n pos') (fun _ s7 => Q s7) X.xe s6 := fun {σ6 H6 Q} S6 hq => gone_ok S6 hN hi hln hq
        cases f with
        | next =>
          obtain ⟨σ6, H6, S6, q6⟩ := hsp
          exact end_ (un S6) fun s7 J7 => ⟨_, _, J7, q6⟩
        | brk =>
          obtain ⟨σ6, H6, S6, q6⟩ := hsp
          exact end_ (un S6) fun s7 J7 => ⟨_, _, J7, q6⟩
        | cont =>
          obtain ⟨σ6, H6, S6, q6⟩ := hsp
          exact end_ (un S6) fun s7 J7 => ⟨_, _, J7, q6⟩
        | ret u =>
          obtain ⟨v6, σ6, H6, S6, r6, q6⟩ := hsp
          exact end_ (un S6) fun s7 J7 => ⟨_, _, _, J7, r6, q6⟩
      · exact as_leaves (Y := suiteX X a ((a, oe4) :: (X.pn ++ pins))) (pins := pins) (W := fun cls d σ H => Wout cls d (σ.set i none) H) hs hf hN hi hln rfl ok rfl rfl (fun pn σ'' H'' sI'' I'' => unsuiteX I'' ok) (fun _ _ _ _ w => w) tk z
    | false =>
      show wpAny _ X.A (handleBy (.ref a) X.env []) _ _ _
      refine wpAny_handleBy_nil ?_
      obtain ⟨k1, k2, k3, oe, vs, T, oT, ts', he, hz, hd, h1, hr⟩ := id fl3
      unfold PySem.passOn
      refine wpAny_bind (wpAny_field he hd h1 ?_)
      rw [if_neg (show ¬ ((Value.ref T == Value.none) = true) from by simp)]
      have fin : wpAny (model X.prog X.w) X.A (setFlight (.ref a) X.env.frame) (fun _ s4 => wpAny (model X.prog X.w) X.A (throw (.ref a) : Sem Flow) (SP X pins D) X.xe s4) X.xe { s' with heap := h3 } := by
        rw [hf]
        refine HandSPX.setFlight_upZ (flyingZ_imp (fun o z => z.zc) fl3) fun h4 hh4 up4 => wpAny_throw (tk _ _ ?_)
        exact ⟨a, B, sI, pins, σ', H', cls, d, rfl, J, nb, (up.trans up3).trans up4, .inr (.inr (by rw [hs]; exact hh4)), na, os, ag, hno rfl⟩
      first
        | exact wpAny_bind (wpAny_pure (wpAny_bind fin))
        | exact wpAny_bind fin
  · cases f with
    | next =>
      obtain ⟨σ', H', J', q⟩ := hsp
      exact wpAny_execs_nil ⟨σ', H', J'.ofTry ok, q⟩
    | brk =>
      obtain ⟨σ', H', J', q⟩ := hsp
      exact ⟨σ', H', J'.ofTry ok, q⟩
    | cont =>
      obtain ⟨σ', H', J', q⟩ := hsp
      exact ⟨σ', H', J'.ofTry ok, q⟩
    | ret u =>
      obtain ⟨v, σ', H', J', r, q⟩ := hsp
      exact ⟨v, σ', H', J'.ofTry ok, r, q⟩
end
end L2H
set_option Elab.async false
set_option linter.all false
set_option maxRecDepth 100000
set_option maxHeartbeats 2000000
/-! a field of a caught error, in any context that holds the error. -/
namespace L2H
open PySem PySem.Spec PyProof.Rows L2 HotX
theorem pe_xfP {X : Cx} {a C : Addr} {oe : Obj} {cls : Value} {d : Option Addr} {e : Expr} {te : TE} {pos : Pos} {n : Str} (T : XfC X.K C) (hno : PySem.W.findIn X.K (.ref C) n = some none)
    (hz : Zc cls d oe) (hf : ∃ vs, oe.data = .fields vs) (hp : (a, oe) ∈ X.pn) (he : PE X e te) (hb : attributeBase e n X.env (eval e X.env) = eval e X.env := by rfl) :
    PE X (.Attribute e n pos) (tXf a cls d C n te) := by
  refine ⟨fun pins s σ H Q I h => ?_⟩
  refine attr_of hb (thn (he.run pins s σ H _ I h) fun u s1 hh => ?_)
  obtain ⟨x, H1, I1, rx, ex, ec, dd, fs, v, ed, ea, l, q⟩ := hh
  subst ex
  obtain rfl : u = Value.ref a := rx
  subst ec
  subst ed
  obtain ⟨ha, _⟩ := I1.pin (a, oe) (List.mem_append_left _ hp)
  obtain ⟨vs, hd⟩ := hf
  have hx : ObjOk X.prog X.w H1 s1.heap dd (.xd fs) := I1.hok dd _ ea
  obtain ⟨mA, hns, hr⟩ := hx
  obtain ⟨od, ho, hl⟩ := lookIn_ns hns
  obtain ⟨u, hu, ru⟩ := RelO.some_of (v := v) (o := mA n) (by rw [← l]; exact hr n)
  have J : PySem.W.InstAt s1.heap a oe C (some od) := ⟨ha, hz.1, by unfold PySem.W.notCls; rw [hd] <;> rfl, by rw [hz.2]; exact ho⟩
  exact HandSPX.exc_get I1.kIn J T.ga T.gg T.exC (PySem.W.findObj_own T.hdC hno rfl (by rw [hl, hu])) (handed_of ru) ⟨v, H1, I1.tok _, ru, q⟩
end L2H
set_option Elab.async false
set_option linter.all false
set_option maxRecDepth 100000
set_option maxHeartbeats 4000000
namespace Cl
open PySem PySem.Spec L2 PyProof.Rows
/-- read_piece -/
def spPieceX (C BR : Addr) (Wc : Kd → Addr) : Sp := fun vs H Q E => ∃ (p : Addr) (i : Int) (l v : List Nat) (ws : List (List Nat)), vs = [.ref p, .int i, .str (S (TL.joinL [32] ws))] ∧ i.natAbs < 100 ∧ AlphaAt C H p l v ∧ Lets l 8 ∧ v.Sublist l ∧ ws ≠ [] ∧ Words ws ∧ (∀ w ∈ ws, 32 ∉ w) ∧
  (whatW l v ws = none → ∀ (d : StD) (a dx : Addr) H', Same H H' → H' a = some (.ins (Wc d.k) dx d.fs) → wordsD d = ws → d.n.length ≤ 60 → d.af ≤ 3 → AlphaAt C H' d.q l v → Q (.ref a) H') ∧
  ∀ t, whatW l v ws = some t → (t.length ≤ 100 ∧ ∀ c ∈ t, c < 1000) ∧ ∀ d H', Same H H' → H' d = some (.xd [("what", .str (S t)), ("stage", .int i)]) → E (.ref BR) (some d) H'
theorem hot_suite {X : Cx} {a : Addr} {oe : Obj} {cls : Value} {d : Option Addr} {pn : List (Addr × Obj)} (hz : L2N.Zn cls d oe) (hf : ∃ vs, oe.data = .fields vs) : L2H.HotC (X.suite a ((a, oe) :: pn)) :=
  let ⟨vs, hv⟩ := hf
  ⟨(a, oe), ⟨rfl, vs, hv, hz.2.2 vs hv⟩, List.mem_cons_self ..⟩
theorem takesN0 {X : Cx} : L2N.Takes X (fun _ _ _ _ => False) := fun u s' x => by
  obtain ⟨_, _, _, _, _, _, _, _, _, _, _, _, _, _, _, _, z⟩ := x
  exact z.elim
theorem pass0At {X : Cx} {σ : L2.St} : PassesAt CX0 X σ E0 := fun pins H s e s' I h => pass0 pins σ H s e s' I h
end Cl
namespace Cl.K54
open PySem PySem.Spec L2 PyProof.Rows
abbrev sBadRule : Stmt := inClass (top 6) 0
section
variable {P : Program} {w : World} {K : PySem.W.Frag} {mg : Str → Option Value} {base : Heap} {B f c cc : Addr} {fd : FuncData}
theorem ok_BadRuleH (F : Sx.FunS K P.main.file "__init__" "BadRule.__init__" sBadRule B f c cc fd) (T : OexC K B) (z : Sx.SupE K B B) (hno0 : PySem.W.findIn K (.ref B) "stage" = some none) (hno1 : PySem.W.findIn K (.ref B) "what" = some none) (htop : (P.main.scope.names.lookup ("super" : Str)).isSome = false) (hs : mg "super" = none) :
    L2H.FnH P w K mg base CX0 1 f fd ["self", "stage", "what"] (spX2 B "stage" "what") := by
  refine Sx.fn_supH (k := 0) (n := Sx.nf "__init__" "BadRule.__init__" sBadRule cc c) (N := ["self", "stage", "what", "__class__"]) F rfl (NdefX.nscope_by (by decide +kernel)) rfl rfl rfl rfl htop hs (fun vs H Q E h => ?_) (fun A outer s H vs Q E pp hot hr h => ?_)
  · obtain ⟨a, v, u, rfl, _⟩ := h
    rfl
  · obtain ⟨a, v, u, rfl, ha, hv1, hv2, k⟩ := h
    have c1 : ("wrong stage " : Str).length ≤ 60 := by decide +kernel
    have c2 : (" of the rule: " : Str).length ≤ 60 := by decide +kernel
    refine ⟨_, _, pa_cons (pe_joined (.cons pe_str (.cons (pe_fmt (pv 1)) (.cons pe_str (.cons (pe_fmt (pv 2)) .nil))))) pa_nil, (pss_cons (ps_ost (pv 0) (pv 1)) (pss_one (ps_ost (pv 0) (pv 2)))), a, B, _, rfl, ha, T, z, ?_⟩
    refine ⟨_, rfl, ?_, ?_⟩
    · rw [sizeLine_eq]
      simp only [PySem.Str.length_append, empty_len]
      omega
    show tFmt (tVar 1) _ _ _
    refine fmt_a rfl hv1 fun y1 hy1 => ⟨_, rfl, ?_, ?_⟩
    · rw [sizeLine_eq]
      simp only [PySem.Str.length_append, empty_len]
      omega
    refine ⟨_, rfl, ?_, ?_⟩
    · rw [sizeLine_eq]
      simp only [PySem.Str.length_append, empty_len]
      omega
    show tFmt (tVar 2) _ _ _
    refine fmt_a rfl hv2 fun y2 hy2 => ⟨_, rfl, ?_, ?_⟩
    · rw [sizeLine_eq]
      simp only [PySem.Str.length_append, empty_len]
      omega
    exact ⟨(by show 1 ≤ 1000; decide), ha, _, rfl, _, rfl, a, B, rfl, T, hno0, .inl ⟨ha, fun d hd nd => ⟨_, rfl, _, rfl, a, B, rfl, T, hno1, .inr ⟨d, _, upd_same, (by rw [upd_ne nd]; exact upd_same), (by show 1 ≤ 900; decide), k d _ hd nd (kp_three hd) (by rw [upd_ne nd.symm]; exact upd_same) upd_same⟩⟩⟩⟩
end
abbrev sPiece : Stmt := top 32
theorem scPiece : FnScope ["alphabet", "number", "piece", "error"] ["alphabet", "number", "piece"] (defScope sPiece) := ⟨rfl, rfl, rfl, by decide +kernel, rfl, by decide +kernel, by decide +kernel⟩
section
variable {P : Program} {w : World} {K : PySem.W.Frag} {mg : Str → Option Value} {base : Heap} {C B BR : Addr} {Wc : Kd → Addr}
theorem ok_piece {f fR fB fBR : Addr} {fd fdR fdBR : FuncData} (F : Fun K "read_piece" "read_piece" sPiece f fd) (GR : LawX P w K mg base 11 "read_stage" ["alphabet", "text"] (spReadX C B Wc) fR fdR)
    (TB : OexC K B) (gB : mg "BadStage" = some (.ref B)) (xf : XfC K B) (hno : PySem.W.findIn K (.ref B) "what" = some none) (em : PySem.W.exmOne K (.ref B) (.ref B) = some true)
    (TR : OexC K BR) (iC : PySem.W.findIn K (.ref BR) "__init__" = some (some (.ref fBR))) (tI : PySem.W.typeIn K (.ref fBR) = some (.type "function")) (FH : L2H.FnH P w K mg base CX0 1 fBR fdBR ["self", "stage", "what"] (spX2 BR "stage" "what")) (bR : Binds K fdBR ["self", "stage", "what"] []) (gR : mg "BadRule" = some (.ref BR)) :
    FnOk P w K mg base (L2.CX P w) 12 f fd ["alphabet", "number", "piece"] (spPieceX C BR Wc) := by
  refine F.okX scPiece (fun vs H Q E h => ?_) (fun cdv A outer s H vs Q E hr h => ?_)
  · obtain ⟨p, i, l, v, ws, rfl, _⟩ := h
    rfl
  · obtain ⟨p, i, l, v, ws, rfl, hi, al, hL, hv, hws, hW, h32, kS, kE⟩ := h
    have hr11 : Room 11 _ := hr
    refine ⟨_, pss_one (L2H.ps_try_asX (i := 3) (tb := fun Wx => tRet (tCallS (spReadX C B Wc) (WE Wx) (tCons (tVar 0) (tCons (tVar 2) tNil))))
          (ts := fun a cls d => fun _ σ H => (cls = .ref B ∧ σ[3]? = some (some (.ref a))) ∧ tMkO BR (spX2 BR "stage" "what") [] (tCons (tVar 1) (tCons (tXf a cls d B "what" (tVar 3)) tNil)) σ H fun cls d H' => E cls d H') (Wout := fun cls d _ H => E cls d H) rfl rfl scPiece.nd rfl rfl ⟨rfl, by decide, .inl gB⟩ (takes_of rfl rfl rfl rfl)
          (fun Wx pn xe tk _ => pss_one (ps_ret (by exact (pe_callS GR.ok hr11 rfl GR.gl GR.kp GR.bd (fun σ => L2N.passAt tk σ) (pa_cons (pv 0) (pa_cons (pv 2) pa_nil))))))
          (fun a oe cls d pn xe hz hf tk hot => pss_one (by
            obtain ⟨vs1, hd1⟩ := id hf
            exact L2H.ps_raiseHF (i := 3) (W := fun cls d _ H => E cls d H) rfl (.inl rfl) rfl (List.mem_cons_self ..) hd1 (hz.2.2 vs1 hd1) hz.1 (raises_own TB.exC TB.tyC) tk
              (L2H.pmk5_oexH TR iC tI FH (L2H.roomH_mark (hr.mono (by decide)) _) hot bR pass0 rfl gR (pa_cons (pv 1) (pa_cons (L2H.pe_xfP xf hno hz.zc hf (List.mem_cons_self ..) (pv 3)) pa_nil)))))), ?_⟩
    refine ⟨_, rfl, _, rfl, p, l, v, ws, rfl, al, hL, hv, hws, hW, h32, fun e d a dx H' s' hd hw hn h3 alq => kS e d a dx H' s' hd hw hn h3 alq, fun t e d H' s' hd => ?_⟩
    obtain ⟨ht, kx⟩ := kE t e
    refine ⟨true, em, fun _ a na => ⟨⟨rfl, rfl⟩, ?_⟩, fun z => nomatch z⟩
    refine ⟨_, rfl, _, rfl, rfl, rfl, d, _, V.str (S t), rfl, hd, rfl, ?_⟩
    exact raise2 (okA_int (by omega)) (.inl ⟨t, rfl, ht.1, ht.2⟩) fun d' H2 s2 hd2 => kx d' H2 (s'.trans s2) hd2
end
end Cl.K54
set_option Elab.async false
set_option linter.all false
set_option maxRecDepth 100000
set_option maxHeartbeats 4000000
namespace Cl
open PySem PySem.Spec L2 PyProof.Rows
theorem spl_ne (S : List Nat) : ∀ (t : List Nat) (k : Nat) (acc : List Nat), TL.spl S k acc t ≠ []
  | [], k, acc => by rw [TL.spl_nil]; exact List.cons_ne_nil _ _
  | c :: r, 0, acc => by
    show (if TL.pre S (c :: r) = true then acc :: TL.spl S (S.length - 1) [] r else TL.spl S 0 (acc ++ [c]) r) ≠ []
    split
    · exact List.cons_ne_nil _ _
    · exact spl_ne S r 0 _
  | c :: r, k + 1, acc => spl_ne S r k acc
theorem joinL_cons2 (S p : List Nat) {r : List (List Nat)} (h : r ≠ []) : TL.joinL S (p :: r) = p ++ (S ++ TL.joinL S r) := by
  cases r with
  | nil => exact absurd rfl h
  | cons q r => rfl
theorem join_spl {S : List Nat} (hS : S ≠ []) : ∀ (t : List Nat) (k : Nat) (acc : List Nat), TL.joinL S (TL.spl S k acc t) = acc ++ t.drop k
  | [], k, acc => by rw [TL.spl_nil, List.drop_nil, List.append_nil]; rfl
  | c :: r, 0, acc => by
    show TL.joinL S (if TL.pre S (c :: r) = true then acc :: TL.spl S (S.length - 1) [] r else TL.spl S 0 (acc ++ [c]) r) = _
    split
    · next h =>
      rw [joinL_cons2 _ _ (spl_ne _ _ _ _), join_spl hS r, List.nil_append]
      have e : (c :: r).take S.length = S := eq_of_beq h
      cases S with
      | nil => exact absurd rfl hS
      | cons s S =>
        have e1 := List.take_append_drop (s :: S).length (c :: r)
        rw [e] at e1
        have e2 : (c :: r).drop (s :: S).length = r.drop ((s :: S).length - 1) := rfl
        rw [e2] at e1
        rw [List.drop_zero, e1]
    · rw [join_spl hS r, List.drop_zero, List.append_assoc]
      rfl
  | c :: r, k + 1, acc => join_spl hS r k acc
theorem joinL_infix (S : List Nat) : ∀ {ps : List (List Nat)} {p : List Nat}, p ∈ ps → p <:+: TL.joinL S ps
  | [], _, h => nomatch h
  | [q], p, h => by
    rw [List.mem_singleton.mp h]
    exact List.infix_rfl
  | q :: q2 :: r, p, h => by
    rw [joinL_cons2 _ _ (List.cons_ne_nil _ _)]
    rcases List.mem_cons.mp h with e | e
    · rw [e]
      exact (List.prefix_append _ _).isInfix
    · refine (joinL_infix S e).trans ?_
      rw [← List.append_assoc]
      exact (List.suffix_append _ _).isInfix
theorem spl_no {s : Nat} : ∀ (t : List Nat) (k : Nat) (acc : List Nat), s ∉ acc → ∀ p ∈ TL.spl [s] k acc t, s ∉ p
  | [], k, acc, ha, p, hp => by
    rw [TL.spl_nil] at hp
    rw [List.mem_singleton.mp hp]
    exact ha
  | c :: r, 0, acc, ha, p, hp => by
    have hp : p ∈ (if TL.pre [s] (c :: r) = true then acc :: TL.spl [s] 0 [] r else TL.spl [s] 0 (acc ++ [c]) r) := hp
    split at hp
    · rcases List.mem_cons.mp hp with e | e
      · rw [e]
        exact ha
      · exact spl_no r 0 [] (by simp) p e
    · next h =>
      refine spl_no r 0 _ (fun z => ?_) p hp
      rcases List.mem_append.mp z with z | z
      · exact ha z
      · refine h ?_
        rw [← List.mem_singleton.mp z]
        show ((s :: r).take 1 == [s]) = true
        rw [List.take_succ_cons, List.take_zero]
        exact beq_self_eq_true _
  | c :: r, k + 1, acc, ha, p, hp => spl_no r k acc ha p hp
theorem spl_len (S : List Nat) : ∀ (t : List Nat) (k : Nat) (acc : List Nat), (TL.spl S k acc t).length ≤ t.length + 1
  | [], k, acc => by rw [TL.spl_nil]; exact Nat.le_refl _
  | c :: r, 0, acc => by
    show (if TL.pre S (c :: r) = true then acc :: TL.spl S (S.length - 1) [] r else TL.spl S 0 (acc ++ [c]) r).length ≤ _
    split
    · have := spl_len S r (S.length - 1) []
      rw [List.length_cons, List.length_cons]
      omega
    · have := spl_len S r 0 (acc ++ [c])
      rw [List.length_cons]
      omega
  | c :: r, k + 1, acc => by
    have := spl_len S r k acc
    rw [List.length_cons]
    show (TL.spl S k acc r).length ≤ _
    omega
/-- no word (part without a blank) is longer than k -/
def NoLong (k : Nat) (t : List Nat) : Prop := ∀ b, b <:+: t → 32 ∉ b → b.length ≤ k
theorem NoLong.mono {j k : Nat} {t : List Nat} (h : NoLong j t) (hk : j ≤ k) : NoLong k t := fun b i n => Nat.le_trans (h b i n) hk
theorem NoLong.sub {k : Nat} {t u : List Nat} (h : NoLong k t) (i : u <:+: t) : NoLong k u := fun b j n => h b (j.trans i) n
theorem nl_len {k : Nat} {t : List Nat} (h : t.length ≤ k) : NoLong k t := fun b i _ => Nat.le_trans i.length_le h
theorem nl_nil (k : Nat) : NoLong k [] := nl_len (Nat.zero_le _)
theorem infix_split {a b c : List Nat} (h : c <:+: a ++ b) : c <:+: a ∨ c <:+: b ∨ ∃ x y, c = x ++ y ∧ x <:+: a ∧ y <+: b := by
  obtain ⟨x, y, e⟩ := h
  rw [List.append_assoc] at e
  rcases List.append_eq_append_iff.mp e with ⟨as, e1, e2⟩ | ⟨cs, e1, e2⟩
  · rcases List.append_eq_append_iff.mp e2 with ⟨ds, e3, e4⟩ | ⟨ds, e3, e4⟩
    · exact .inl ⟨x, ds, by rw [e1, e3, List.append_assoc]⟩
    · exact .inr (.inr ⟨as, ds, e3, ⟨x, [], by rw [e1, List.append_nil]⟩, ⟨y, e4.symm⟩⟩)
  · exact .inr (.inl ⟨cs, y, by rw [e2, List.append_assoc]⟩)
theorem nl_add {i j : Nat} {a b : List Nat} (ha : NoLong i a) (hb : NoLong j b) : NoLong (i + j) (a ++ b) := fun c h n => by
  rcases infix_split h with h | h | ⟨x, y, rfl, h1, h2⟩
  · have := ha c h n
    omega
  · have := hb c h n
    omega
  · have := ha x h1 fun z => n (List.mem_append_left _ z)
    have := hb y h2.isInfix fun z => n (List.mem_append_right _ z)
    rw [List.length_append]
    omega
theorem nl_blank {k : Nat} {b : List Nat} (hb : NoLong k b) : NoLong k (32 :: b) := fun c ⟨x, y, e⟩ n => by
  cases x with
  | nil =>
    cases c with
    | nil => exact Nat.zero_le _
    | cons c0 c =>
      rw [List.nil_append, List.cons_append] at e
      injection e with e1 e2
      exact absurd (e1 ▸ List.mem_cons_self ..) n
  | cons x0 x =>
    rw [List.cons_append, List.cons_append] at e
    injection e with e1 e2
    exact hb c ⟨x, y, e2⟩ n
theorem nl_sep {k : Nat} {a b : List Nat} (ha : NoLong k a) (hb : NoLong k b) : NoLong k (a ++ 32 :: b) := fun c h n => by
  rcases infix_split h with h | h | ⟨x, y, rfl, h1, h2⟩
  · exact ha c h n
  · exact nl_blank hb c h n
  · cases y with
    | nil =>
      rw [List.append_nil] at n ⊢
      exact ha x h1 n
    | cons y0 y =>
      obtain ⟨z, e⟩ := h2
      rw [List.cons_append] at e
      injection e with e1 e2
      exact absurd (List.mem_append_right _ (e1 ▸ List.mem_cons_self ..)) n
theorem nl_words {k : Nat} : ∀ {ws : List (List Nat)}, (∀ w ∈ ws, w.length ≤ k) → NoLong k (TL.joinL [32] ws)
  | [], _ => nl_nil k
  | [w], h => nl_len (h w (List.mem_singleton.mpr rfl))
  | w :: w2 :: r, h => by
    rw [joinL_cons2 _ _ (List.cons_ne_nil _ _)]
    exact nl_sep (nl_len (h w (List.mem_cons_self ..))) (nl_words fun x hx => h x (List.mem_cons_of_mem _ hx))
theorem nl_pieces {k : Nat} : ∀ {ps : List (List Nat)}, (∀ p ∈ ps, NoLong k p) → NoLong (k + 1) (TL.joinL cSemi ps)
  | [], _ => nl_nil _
  | [p], h => (h p (List.mem_singleton.mpr rfl)).mono (Nat.le_succ k)
  | p :: p2 :: r, h => by
    rw [joinL_cons2 _ _ (List.cons_ne_nil _ _)]
    have e : p ++ (cSemi ++ TL.joinL cSemi (p2 :: r)) = (p ++ [59]) ++ 32 :: TL.joinL cSemi (p2 :: r) := by
      show p ++ (59 :: 32 :: _) = _
      rw [List.append_assoc]
      rfl
    rw [e]
    exact nl_sep (nl_add (j := 1) (h p (List.mem_cons_self ..)) (nl_len (Nat.le_refl 1))) (nl_pieces fun x hx => h x (List.mem_cons_of_mem _ hx))
/-- a text that the law may ask of -/
def GoodT (t : List Nat) : Prop := t.length ≤ 2900 ∧ (∀ c ∈ t, c < 1000) ∧ NoLong 60 t
theorem GoodT.sub {t u : List Nat} (h : GoodT t) (i : u <:+: t) : GoodT u := ⟨Nat.le_trans i.length_le h.1, fun c hc => h.2.1 c (i.subset hc), h.2.2.sub i⟩
def wordsT (p : List Nat) : List (List Nat) := TL.spl [32] 0 [] p
theorem wordsT_join (p : List Nat) : TL.joinL [32] (wordsT p) = p := by
  unfold wordsT
  rw [join_spl (List.cons_ne_nil _ _)]
  rfl
theorem wordsT_ne (p : List Nat) : wordsT p ≠ [] := spl_ne _ _ _ _
theorem wordsT_no (p : List Nat) : ∀ w ∈ wordsT p, 32 ∉ w := spl_no p 0 [] (fun z => by cases z)
theorem wordsT_words {p : List Nat} (h : GoodT p) : Words (wordsT p) := by
  refine ⟨?_, fun w hw => ?_⟩
  · have := spl_len [32] p 0 []
    have := h.1
    show (TL.spl [32] 0 [] p).length ≤ 3000
    omega
  · have i : w <:+: p := by
      have z := joinL_infix [32] hw
      rw [wordsT_join] at z
      exact z
    exact ⟨h.2.2 w i (wordsT_no p w hw), fun c hc => h.2.1 c (i.subset hc)⟩
def piecesT (t : List Nat) : List (List Nat) := TL.spl cSemi 0 [] t
theorem piecesT_join (t : List Nat) : TL.joinL cSemi (piecesT t) = t := by
  exact join_spl (S := cSemi) (by decide) t 0 []
theorem piecesT_ne (t : List Nat) : piecesT t ≠ [] := spl_ne _ _ _ _
theorem piecesT_len {t : List Nat} (h : GoodT t) : (piecesT t).length ≤ 2901 := by
  have := spl_len cSemi t 0 []
  have := h.1
  show (TL.spl cSemi 0 [] t).length ≤ 2901
  omega
theorem piecesT_good {t : List Nat} (h : GoodT t) : ∀ p ∈ piecesT t, GoodT p := fun p hp => h.sub (by
  have z := joinL_infix cSemi hp
  rw [piecesT_join] at z
  exact z)
theorem split_pieces (t : List Nat) : Txt.split (S t) (S cSemi) = (piecesT t).map S := SX.split_S (by decide) (by decide)
def cCount : List Nat := [99, 111, 117, 110, 116]
theorem eCount : ("count" : Str) = S cCount := by decide +kernel
/-- what is due of these pieces, counted from i -/
def dueP (l v : List Nat) : Nat → List (List Nat) → Option (Nat × List Nat)
  | _, [] => none
  | i, p :: r => if i = 4 then some (5, cCount) else match whatW l v (wordsT p) with
    | some x => some (i + 1, x)
    | none => dueP l v (i + 1) r
def dueT (l v t : List Nat) : Option (Nat × List Nat) := if t = cKeep then none else dueP l v 0 (piecesT t)
theorem dueP_5 {l v p : List Nat} {r : List (List Nat)} : dueP l v 4 (p :: r) = some (5, cCount) := if_pos rfl
theorem dueP_some {l v p x : List Nat} {i : Nat} {r : List (List Nat)} (h : i ≠ 4) (e : whatW l v (wordsT p) = some x) : dueP l v i (p :: r) = some (i + 1, x) := by
  show (if i = 4 then _ else _) = _
  rw [if_neg h, e]
theorem dueP_none {l v p : List Nat} {i : Nat} {r : List (List Nat)} (h : i ≠ 4) (e : whatW l v (wordsT p) = none) : dueP l v i (p :: r) = dueP l v (i + 1) r := by
  show (if i = 4 then _ else _) = _
  rw [if_neg h, e]
def Told1 (x : List Nat) : Prop := x.length ≤ 20 ∧ ∀ c ∈ x, c < 1000
theorem dueP_small {l v : List Nat} (hw : ∀ ws x, whatW l v ws = some x → Told1 x) : ∀ (ps : List (List Nat)) (i n : Nat) (x : List Nat), i ≤ 4 → dueP l v i ps = some (n, x) → (1 ≤ n ∧ n ≤ 5) ∧ Told1 x
  | [], _, _, _, _, h => by cases h
  | p :: r, i, n, x, hi, h => by
    by_cases h4 : i = 4
    · subst h4
      rw [dueP_5] at h
      injection h with h
      injection h with h1 h2
      subst h1
      subst h2
      exact ⟨⟨by decide, by decide⟩, by decide, by decide⟩
    · cases e : whatW l v (wordsT p) with
      | some y =>
        rw [dueP_some h4 e] at h
        injection h with h
        injection h with h1 h2
        subst h1
        subst h2
        exact ⟨⟨by omega, by omega⟩, hw _ _ e⟩
      | none =>
        rw [dueP_none h4 e] at h
        exact dueP_small hw r (i + 1) n x (by omega) h
theorem t_set {l v n x : List Nat} (h : dSet l v n = some x) : Told1 x := by
  unfold dSet at h
  split at h
  · cases h
  · injection h with h
    subst h
    exact ⟨by decide, by decide⟩
theorem t_text {x : List Nat} (h : some cText = some x) : Told1 x := by
  injection h with h
  subst h
  exact ⟨by decide, by decide⟩
theorem t_sign {l t x : List Nat} (h : dSign l t = some x) : Told1 x := by
  unfold dSign at h
  split at h
  · cases h
  · injection h with h
    subst h
    exact ⟨by decide, by decide⟩
theorem t_drop {l v n x : List Nat} {af : Int} (h : dDrop l v n af = some x) : Told1 x := by
  unfold dDrop at h
  split at h
  · split at h
    · cases h
    · injection h with h
      subst h
      exact ⟨by decide, by decide⟩
  · injection h with h
    subst h
    exact ⟨by decide, by decide⟩
theorem t_write {l v t n x : List Nat} (h : dWrite l v t n = some x) : Told1 x := by
  unfold dWrite at h
  split at h
  · exact t_set h
  · injection h with h
    subst h
    exact ⟨by decide, by decide⟩
theorem what_told {l v : List Nat} : ∀ (ws : List (List Nat)) (x : List Nat), whatW l v ws = some x → Told1 x
  | [], x, h => t_text h
  | verb :: parts, x, h => by
    rw [whatW_cons] at h
    split at h
    · match parts, h with
      | [], h => exact t_text h
      | n :: r, h =>
        have h : whatDrop l v n r = some x := h
        unfold whatDrop at h
        split at h
        · exact t_drop h
        · exact t_text h
    · split at h
      · unfold wWrite at h
        split at h
        · split at h
          · exact t_write h
          · exact t_text h
        · exact t_text h
      · split at h
        · unfold wOnce at h
          split at h
          · exact t_set h
          · exact t_text h
        · split at h
          · unfold wAdd at h
            split at h
            · exact t_sign h
            · exact t_text h
          · exact t_text h
theorem dueT_small {l v t : List Nat} {n : Nat} {x : List Nat} (h : dueT l v t = some (n, x)) : (1 ≤ n ∧ n ≤ 5) ∧ Told1 x := by
  unfold dueT at h
  split at h
  · cases h
  · exact dueP_small what_told _ 0 n x (by decide) h
end Cl
set_option Elab.async false
set_option linter.all false
set_option maxRecDepth 100000
set_option maxHeartbeats 8000000
namespace Cl
open PySem PySem.Spec L2 PyProof.Rows
/-- due's value -/
def DueV (o : Option (Nat × List Nat)) (H : Hp) (v : V) : Prop := (o = none → v = .non) ∧ ∀ n x, o = some (n, x) → ∃ a, v = .ref a ∧ H a = some (.tup [.int (n : Nat), .str (S x)])
def spDue : Sp := fun vs H Q _ => ∃ (l v t : List Nat), vs = [.str (S l), .str (S t)] ∧ l.length ≤ 8 ∧ GoodT t ∧ ∀ H' u, Same H H' → DueV (dueT l v t) H' u → Q u H'
def spRReadX (C RC BR : Addr) (Wc : Kd → Addr) : Sp := fun vs H Q E => ∃ (p : Addr) (l v t : List Nat), vs = [.ref RC, .ref p, .str (S t)] ∧ AlphaAt C H p l v ∧ Lets l 8 ∧ v.Sublist l ∧ GoodT t ∧
  (dueT l v t = none → ∀ (a : Addr) (ds : List StD) H', Same H H' → RuleAt C RC Wc H' a l v ds → ds.length ≤ 4 → (∀ d ∈ ds, OkD d) → textR ds = t → Q (.ref a) H') ∧
  ∀ n x, dueT l v t = some (n, x) → ∀ d H', Same H H' → H' d = some (.xd [("what", .str (S x)), ("stage", .int (n : Nat))]) → E (.ref BR) (some d) H'
theorem ne4 {i : Nat} (h : ¬ (0 + (i : Int) = 4)) : i ≠ 4 := by omega
end Cl
set_option Elab.async false
set_option linter.all false
set_option maxRecDepth 100000
set_option maxHeartbeats 8000000
namespace Cl
open PySem PySem.Spec L2 PyProof.Rows
theorem okCount1 : okA (.str ("count" : Str)) := .inl ⟨cCount, by rw [eCount], by decide, by decide⟩
theorem textR_pieces {ds : List StD} {ps : List (List Nat)} (h : ds.map textD = ps) (hne : ps ≠ []) : textR ds = TL.joinL cSemi ps := by
  unfold textR
  rw [if_neg (fun z => hne (by rw [← h, List.length_eq_zero_iff.mp z]; rfl)), h]
end Cl
namespace Cl.K54
open PySem PySem.Spec L2 PyProof.Rows
abbrev sRRead : Stmt := inClass (top 30) 2
abbrev nRRead : List Str := ["cls", "alphabet", "text", "stages", "number", "piece"]
theorem scRRead : FnScope nRRead ["cls", "alphabet", "text"] (defScope sRRead) := ⟨rfl, rfl, rfl, by decide +kernel, rfl, by decide +kernel, by decide +kernel⟩
section
variable {P : Program} {w : World} {K : PySem.W.Frag} {mg : Str → Option Value} {base : Heap} {C RC BR : Addr} {Wc : Kd → Addr}
theorem ok_rread {f fP fR fX : Addr} {fd fdP fdX : FuncData} {mc : Value} (F : Fun K "read" "Rule.read" sRRead f fd) (CR : ClX.CRead K RC mc) (cM : ∃ u, ClX.CVal K RC mc "MOST" (.int 4) u) (gK : ∃ u, mg "_KEEP" = some u ∧ RelV (.str ("keep" : Str)) u) (hE : mg "enumerate" = none)
    (GP : FnOk P w K mg base (L2.CX P w) 12 fP fdP ["alphabet", "number", "piece"] (spPieceX C BR Wc)) (bP : Binds K fdP ["alphabet", "number", "piece"] []) (gP : mg "read_piece" = some (.ref fP)) (kP : PySem.W.keepIn K (.ref fP) = true)
    (XR : RaiseX P w K mg base "BadRule" ["self", "stage", "what"] (spX2 BR "stage" "what") BR fX fdX)
    (MR : Mk K RC fR) (FR : FnR P w K mg base CX0 6 fR (fun vs H Q E => ∃ ws rest, vs = ws ++ rest ∧ ws.length = ["self", "alphabet"].length ∧ rest.length ≤ sizeLine ∧ ∀ p, H p = Option.none → spRuleI C RC Wc (ws ++ [V.ref p]) (upd H p (.tup rest)) Q E)) :
    FnOk P w K mg base (L2.CX P w) 13 f fd ["cls", "alphabet", "text"] (spRReadX C RC BR Wc) := by
  refine F.okX scRRead (fun vs H Q E h => ?_) (fun cdv A outer s H vs Q E hr h => ?_)
  · obtain ⟨p, l, v, t, rfl, _⟩ := h
    rfl
  · obtain ⟨p, l, v, t, rfl, al, hL, hv, gt, kS, kE⟩ := h
    have hr12 : Room 12 _ := hr
    have hr7 : Room (6 + 1) _ := hr.mono (by decide)
    have hr2 : Room (1 + 1) _ := hr.mono (by decide)
    obtain ⟨u4, c4⟩ := cM
    refine ⟨_, pss_cons (ps_if (pt_cmpR op_eq (pv 2) (C8.pe_gc (v := .str ("keep" : Str)) rfl gK) (nomark _)) (pss_one (ps_ret (pe_makeL (i := 0) MR FR hr7 rfl (.inl rfl) pass0 (pa_cons (pv 1) pa_nil)))) pss_nil)
      (pss_cons (ps_set (i := 3) scRRead.nd rfl (.inl rfl) (pe_lst pa_nil))
      (pss_cons (ps_for (passes_of rfl) rfl (Sx.pi_enumK rfl hE (pa_cons (pe_split (pv 2) pe_str) pa_nil) (pk_cons pe_int pk_nil)) (pg_tup rfl (pgs_cons (pg_name (i := 4) scRRead.nd rfl (.inl rfl)) (pgs_cons (pg_name (i := 5) scRRead.nd rfl (.inl rfl)) pgs_nil)))
        (pss_cons (ps_if (pt_cmpR op_gt (pv 4) (ClX.pe_cval (pv 0)) (nomark _)) (pss_one (ps_raise (W := fun cls d _ H => E cls d H) rfl (takes_of rfl rfl rfl rfl) (pmk_oex XR.T XR.iC XR.tI XR.ok hr2 XR.bd .nil pass0 rfl XR.gl (pa_cons (pv 4) (pa_cons pe_str pa_nil))))) pss_nil)
        (pss_one (ps_expr (pe_bm PySem.F.plainAttrs_list PySem.F.slot_list_append PySem.F.type_list_append mt_append (pv 3) (pa_cons (pe_call (E := E) GP hr12 rfl gP kP bP .nil (passes_call (W := fun cls d _ H => E cls d H) (takes_of rfl rfl rfl rfl) (fun _ _ _ _ h => h)) (pa_cons (pv 1) (pa_cons (pv 4) (pa_cons (pv 5) pa_nil)))) pa_nil))))))
      (pss_one (ps_ret (pe_makeLS (i := 0) MR FR hr7 rfl (.inl rfl) pass0 (pa_cons (pv 1) (StX.pa_star (pv 3) pa_nil))))))), ?_⟩
    refine ⟨_, rfl, rfl, _, rfl, ?_⟩
    rw [eKeep, vs_eq]
    by_cases hk : t = cKeep
    · rw [decide_eq_true hk]
      refine iteT ?_
      refine ⟨rfl, _, rfl, ?_⟩
      intro x dx hx hdx nx
      refine ⟨[.ref x, .ref p], [], rfl, rfl, Nat.zero_le _, fun tp htp => ?_⟩
      have s2 : Same H (upd (upd (upd H dx (.own x)) x (.ins RC dx [])) tp (.tup [])) := (same_mk hx hdx).trans (same_new htp)
      refine ⟨x, dx, p, tp, l, v, [], [], rfl, same_new htp _ _ upd_same, al.same s2, hL, hv, upd_same, .nil, by decide, fun H' k' hR => ⟨rfl, ?_⟩⟩
      exact kS (if_pos hk) x [] H' (fun b o e => k' _ _ (ne_of_none e hx) (s2 _ _ e)) hR (by decide) (fun d hd => nomatch hd) (by rw [hk]; rfl)
    · rw [decide_eq_false hk]
      rw [show dueT l v t = dueP l v 0 (piecesT t) from if_neg hk] at kS kE
      refine iteF ?_
      refine ⟨(by show 0 ≤ sizeLine; decide), fun D hD => ?_⟩
      have s1 : Same H (upd H D (.lst [])) := same_new hD
      have hD1 : (upd H D (.lst [])) D = some (.lst []) := upd_same
      have fresh : ∀ {b : Addr} {o : HO}, H b = some o → b ≠ D := fun e => ne_of_none e hD
      show Ends.nx _ _ _
      generalize upd H D (.lst []) = H1 at s1 hD1 ⊢
      have gp := piecesT_good gt
      have pl := piecesT_len gt
      have pne := piecesT_ne t
      have pj := piecesT_join t
      refine ⟨_, rfl, ⟨_, rfl⟩, S t, "; ", rfl, rfl, by decide, by rw [S_len, sizeLine_eq]; have := gt.1; omega, ?_⟩
      rw [eSemi, split_pieces]
      intro T hT
      rw [strs_map]
      generalize piecesT t = ps at kS kE gp pl pne pj hT ⊢
      have nDT : D ≠ T := ne_of_none hD1 hT
      have frT : ∀ {b : Addr} {o : HO}, H b = some o → b ≠ T := fun e => ne_of_none (s1 _ _ e) hT
      have s2 : Same H (upd H1 T (.lst (txs ps))) := s1.trans (same_new hT)
      have hD2 : (upd H1 T (.lst (txs ps))) D = some (.lst []) := by
        rw [upd_ne nDT]
        exact hD1
      have hT2 : (upd H1 T (.lst (txs ps))) T = some (.lst (txs ps)) := upd_same
      generalize upd H1 T (.lst (txs ps)) = H2 at s2 hD2 hT2 ⊢
      refine ⟨T, _, 1, rfl, rfl, SqL.of hT2, by decide, by decide, ?_⟩
      refine for_it Sx.walk_enumK (fun i σ H' => ∃ (as : List Addr) (Ds : List StD) (v4 v5 : Option V), σ = [some (.ref RC), some (.ref p), some (.str (S t)), some (.ref D), v4, v5] ∧ H' D = some (.lst (as.map V.ref)) ∧ H' T = some (.lst (txs ps)) ∧ Paired (StageAt C Wc l v H') as Ds ∧ Ds.map textD = ps.take i ∧ (∀ d ∈ Ds, OkD d) ∧ as.length = i ∧ i ≤ 4 ∧ dueP l v 0 ps = dueP l v i (ps.drop i) ∧ Same H H')
        ⟨[], [], none, none, rfl, hD2, hT2, .nil, rfl, (fun d hd => nomatch hd), rfl, Nat.zero_le _, rfl, s2⟩ (fun i σ H' _ ⟨_, _, _, _, _, _, h', _⟩ => SqL.of h') ?_ ?_
      · rintro i x σ H3 H4 hi ⟨as, Ds, v4, v5, rfl, hD3, hT3, pas, pm, od, la, i4, e2, s3⟩ ⟨T2, y, rfl, hT2', rfl, ey⟩
        rw [txs_len] at hi
        have ed : ps.drop i = ps[i] :: ps.drop (i + 1) := List.drop_eq_getElem_cons hi
        have gi := gp _ (List.getElem_mem hi)
        have ei : ps[i]? = some ps[i] := List.getElem?_eq_getElem hi
        generalize ps[i] = q at ed gi ei
        rw [ed] at e2
        have ex : y = .str (S q) := by
          unfold txs at ey
          rw [List.getElem?_map, ei] at ey
          injection ey with ey
          exact ey.symm
        subst ex
        have s4 : Same H3 (upd H3 T2 (.tup [.int (1 + (i : Int)), .str (S q)])) := same_new hT2'
        refine ⟨T2, _, rfl, SqT.of upd_same, rfl, _, _, rfl, _, _, rfl, rfl, ?_⟩
        have hD4 := s4 _ _ hD3
        have hT4 := s4 _ _ hT3
        have pas4 := p_mono (fun _ _ h => StageAt.same h s4) pas
        have q4 := s3.trans s4
        generalize upd H3 T2 (.tup [.int (1 + (i : Int)), .str (S q)]) = H4 at q4 hD4 hT4 pas4 ⊢
        refine ⟨_, rfl, _, rfl, RC, mc, .int 4, u4, rfl, CR, c4, ?_⟩
        refine ⟨_, _, rfl, rfl, _, rfl, ?_⟩
        by_cases h4 : i = 4
        · subst h4
          rw [dueP_5] at e2
          rw [decide_eq_true (show (1 + ((4 : Nat) : Int) > 4) by decide)]
          refine iteT ⟨_, rfl, ?_⟩
          refine raise2 (okA_int (by decide)) okCount1 fun d H' s h => ?_
          rw [eCount] at h
          exact kE 5 cCount e2 d H' (q4.trans s) h
        · rw [decide_eq_false (show ¬ (1 + (i : Int) > 4) by omega)]
          refine iteF ?_
          refine ⟨_, rfl, .inl ⟨rfl, _, SqL.of hD4⟩, _, rfl, _, rfl, _, rfl, p, 1 + (i : Int), l, v, wordsT q, ?_, by omega, al.same q4, hL, hv, wordsT_ne q, wordsT_words gi, wordsT_no q, ?_, ?_⟩
          · rw [wordsT_join]
            rfl
          · intro ew d2 a2 dx2 H5 s5 ha2 hw2 hn2 h32 al2
            rw [dueP_none h4 ew] at e2
            have hD5 := s5 _ _ hD4
            have hT5 := s5 _ _ hT4
            have st2 : StageAt C Wc l v H5 a2 d2 := ⟨dx2, ha2, al2⟩
            have tx : textD d2 = q := by rw [← words_text, hw2, wordsT_join]
            refine ⟨D, _, _, rfl, rfl, hD5, ?_, as ++ [a2], Ds ++ [d2], _, _, rfl, ?_, ?_, ?_, ?_, ?_, by rw [List.length_append, la]; rfl, by omega, e2, ?_⟩
            · rw [List.length_map, la, sizeLine_eq]
              omega
            · rw [upd_same, List.map_append]
              rfl
            · rw [upd_ne fun z => ?_]
              · exact hT5
              · rw [z] at hT5
                rw [hT5] at hD5
                exact nDT z.symm
            · have mv : ∀ (x : Addr) (y : StD), StageAt C Wc l v H5 x y → StageAt C Wc l v (upd H5 D (.lst (as.map V.ref ++ [V.ref a2]))) x y := fun x y ⟨dx1, e1, dq1, e2⟩ => ⟨dx1, by rw [upd_ne (ne_of e1 hD5 fun z => nomatch z)]; exact e1, dq1, by rw [upd_ne (ne_of e2 hD5 fun z => nomatch z)]; exact e2⟩
              exact Paired.snoc (p_mono (fun x y h => mv x y (h.same s5)) pas4) (mv a2 _ st2)
            · rw [take_snocG ei, List.map_append, pm, List.map_cons, List.map_nil, tx]
            · intro d hd
              rcases List.mem_append.mp hd with hd | hd
              · exact od d hd
              · rw [List.mem_singleton.mp hd]
                exact ⟨hn2, h32⟩
            · intro b o e
              rw [upd_ne (fresh e)]
              exact s5 _ _ (q4 _ _ e)
          · intro x ew
            rw [dueP_some h4 ew] at e2
            refine ⟨?_, fun d H5 s5 hd => ?_⟩
            · have tt := what_told _ _ ew
              exact ⟨Nat.le_trans tt.1 (by decide), tt.2⟩
            · refine kE (i + 1) x e2 d H5 (q4.trans s5) ?_
              rw [hd]
              rw [show (1 + (i : Int)) = ((i + 1 : Nat) : Int) by omega]
      · rintro σ H3 ⟨as, Ds, v4, v5, rfl, hD3, hT3, pas, pm, od, la, i4, e2, s3⟩
        rw [txs_len] at pm la i4 e2
        rw [List.take_length] at pm
        rw [List.drop_length] at e2
        have pa := pas.length
        refine ⟨rfl, _, rfl, _, rfl, D, _, rfl, .inr (SqL.of hD3), ?_⟩
        intro x dx hx hdx nx
        refine ⟨[.ref x, .ref p], as.map V.ref ++ [], rfl, rfl, ?_, fun tp htp => ?_⟩
        · rw [List.append_nil, List.length_map, la, sizeLine_eq]
          omega
        · rw [List.append_nil]
          have s5 : Same H3 (upd (upd (upd H3 dx (.own x)) x (.ins RC dx [])) tp (.tup (as.map V.ref))) := (same_mk hx hdx).trans (same_new htp)
          refine ⟨x, dx, p, tp, l, v, as, Ds, rfl, same_new htp _ _ upd_same, (al.same s3).same s5, hL, hv, upd_same, p_mono (fun _ _ h => StageAt.same h s5) pas, by omega, fun H' k' hR => ⟨rfl, ?_⟩⟩
          exact kS e2 x Ds H' (fun b o e => k' _ _ (ne_of_none (s3 _ _ e) hx) (s5 _ _ (s3 _ _ e))) hR (by omega) od (by rw [textR_pieces pm pne, pj])
end
end Cl.K54
set_option Elab.async false
set_option linter.all false
set_option maxRecDepth 100000
set_option maxHeartbeats 8000000
namespace Cl
open PySem PySem.Spec L2 PyProof.Rows
def PieceOk (p : List Nat) : Prop := p.length ≤ 420 ∧ (∀ c ∈ p, c < 1000) ∧ NoLong 20 p
theorem joinL_chars {P : Nat → Prop} {s : List Nat} (hs : ∀ c ∈ s, P c) : ∀ {ys : List (List Nat)}, (∀ y ∈ ys, ∀ c ∈ y, P c) → ∀ c ∈ TL.joinL s ys, P c
  | [], _, c, hc => nomatch hc
  | [p], h, c, hc => h p (List.mem_singleton.mpr rfl) c hc
  | p :: q :: r, h, c, hc => by
    rw [joinL_cons2 _ _ (List.cons_ne_nil _ _)] at hc
    rcases List.mem_append.mp hc with hc | hc
    · exact h p (List.mem_cons_self ..) c hc
    · rcases List.mem_append.mp hc with hc | hc
      · exact hs c hc
      · exact joinL_chars hs (fun y hy => h y (List.mem_cons_of_mem _ hy)) c hc
theorem wd_piece {ws : List (List Nat)} (h : Wd 20 ws) : PieceOk (TL.joinL [32] ws) := by
  have g : ∀ w ∈ ws, w.length ≤ 20 ∧ (∀ c ∈ w, c < 1000) ∧ 32 ∉ w := fun w hw => gw_ok (h.2.2 w hw)
  refine ⟨?_, joinL_chars (fun c hc => by rw [List.mem_singleton.mp hc]; decide) (fun y hy => (g y hy).2.1), nl_words fun w hw => (g w hw).1⟩
  have l1 := joinL_size [32] ws
  have l2 := flat_lenB fun w hw => (g w hw).1
  have l3 := h.2.1
  have e : ws.length * [32].length = ws.length := Nat.mul_one _
  rw [e] at l1
  omega
theorem stage_piece {l : List Nat} {k : Nat} (hL : Lets l k) {d : StD} (gd : GoodD l d) : PieceOk (textD d) := by
  have z := wd_piece ((wordsD_wd hL gd).mono (by decide : 8 ≤ 20))
  rw [words_text] at z
  exact z
theorem short_piece {p : List Nat} (h : p.length ≤ 20) (hc : ∀ c ∈ p, c < 1000) : PieceOk p := ⟨by omega, hc, nl_len h⟩
theorem PieceOk.good {p : List Nat} (h : PieceOk p) : GoodT p := ⟨by have := h.1; omega, h.2.1, h.2.2.mono (by decide)⟩
theorem semi_c : ∀ c ∈ cSemi, c < 1000 := by decide
theorem good_join {k : Nat} {ps : List (List Nat)} (h : ∀ p ∈ ps, NoLong k p ∧ ∀ c ∈ p, c < 1000) (hk : k < 60) (hl : ps.flatten.length + ps.length * 2 ≤ 2900) : GoodT (TL.joinL cSemi ps) :=
  ⟨Nat.le_trans (joinL_size cSemi ps) hl, joinL_chars semi_c fun y hy => (h y hy).2, (nl_pieces fun p hp => (h p hp).1).mono hk⟩
theorem join_good {ps : List (List Nat)} (h : ∀ p ∈ ps, PieceOk p) (h6 : ps.length ≤ 6) : GoodT (TL.joinL cSemi ps) := by
  refine good_join (k := 20) (fun p hp => ⟨(h p hp).2.2, (h p hp).2.1⟩) (by decide) ?_
  have := flat_lenB fun p hp => (h p hp).1
  omega
/-- the text without the blank in one place -/
def varT (ps : List (List Nat)) (i : Nat) (q : List Nat) : List Nat := TL.joinL cSemi (ps.take i ++ [(q ++ [59]) ++ TL.joinL cSemi (ps.drop (i + 1))])
theorem var_good {ps : List (List Nat)} {i : Nat} {q : List Nat} (h : ∀ p ∈ ps, PieceOk p) (h6 : ps.length ≤ 6) (e : ps[i]? = some q) : GoodT (varT ps i q) := by
  have ht : ∀ p ∈ ps.take i, PieceOk p := fun p hp => h p (List.mem_of_mem_take hp)
  have hd : ∀ p ∈ ps.drop (i + 1), PieceOk p := fun p hp => h p (List.mem_of_mem_drop hp)
  have hq := h q (List.mem_of_getElem? e)
  have il := lt_of_get e
  have f1 := flat_lenB fun p hp => (ht p hp).1
  have f2 := flat_lenB fun p hp => (hd p hp).1
  have j2 := joinL_size cSemi (ps.drop (i + 1))
  have e2 : cSemi.length = 2 := rfl
  rw [List.length_take, Nat.min_eq_left (by omega)] at f1
  rw [e2] at j2
  rw [List.length_drop] at f2 j2
  have q1 := hq.1
  refine good_join (k := 42) (fun p hp => ?_) (by decide) ?_
  · rcases List.mem_append.mp hp with hp | hp
    · exact ⟨(ht p hp).2.2.mono (by decide), (ht p hp).2.1⟩
    · rw [List.mem_singleton.mp hp]
      refine ⟨nl_add (i := 21) (j := 21) (nl_add (i := 20) (j := 1) hq.2.2 (nl_len (Nat.le_refl 1))) (nl_pieces fun p hp => (hd p hp).2.2), fun c hc => ?_⟩
      rcases List.mem_append.mp hc with hc | hc
      · rcases List.mem_append.mp hc with hc | hc
        · exact hq.2.1 c hc
        · rw [List.mem_singleton.mp hc]
          decide
      · exact joinL_chars semi_c (fun y hy => (hd y hy).2.1) c hc
  · rw [List.flatten_append, List.length_append, List.flatten_cons, List.flatten_nil, List.append_nil, List.length_append, List.length_append, List.length_append, List.length_take, Nat.min_eq_left (by omega), List.length_singleton, List.length_singleton]
    omega
theorem three_at {j : Int} (h0 : 0 ≤ j) (h3 : j < 3) : ∃ q, atI [V.str ("keep" : Str), V.str ("" : Str), V.str (" " : Str)] j = some (.str (S q)) ∧ PieceOk q := by
  have e : j = 0 ∨ j = 1 ∨ j = 2 := by omega
  rcases e with rfl | rfl | rfl
  · exact ⟨cKeep, (by rw [← eKeep]; rfl), short_piece (by decide) (by decide)⟩
  · exact ⟨[], rfl, short_piece (by decide) (by decide)⟩
  · exact ⟨[32], (by rw [← eSp]; rfl), short_piece (by decide) (by decide)⟩
theorem flat_le (s : List Nat) : ∀ ys : List (List Nat), ys.flatten.length ≤ (TL.joinL s ys).length
  | [] => Nat.le_refl _
  | [p] => by rw [List.flatten_cons, List.flatten_nil, List.append_nil]; exact Nat.le_refl _
  | p :: q :: r => by
    have ih := flat_le s (q :: r)
    rw [joinL_cons2 _ _ (List.cons_ne_nil _ _), List.flatten_cons, List.length_append, List.length_append, List.length_append]
    omega
def cKeepS : List Nat := [107, 101, 101, 112, 32]
def cSKeep : List Nat := [32, 107, 101, 101, 112]
def cKeep2 : List Nat := [107, 101, 101, 112, 59, 32, 107, 101, 101, 112]
theorem eKeepS : ("keep " : Str) = S cKeepS := by decide +kernel
theorem eSKeep : (" keep" : Str) = S cSKeep := by decide +kernel
theorem eKeep2 : ("keep; keep" : Str) = S cKeep2 := by decide +kernel
theorem eSc : (";" : Str) = S [59] := by decide +kernel
theorem asked_good {t u : List Nat} (ht : GoodT t) (hu : GoodT u) : ∀ x ∈ [t, cKeep, [], cKeepS, cSKeep, cKeep2, u], GoodT x := fun x hx => by
  have sp : ∀ p : List Nat, p.length ≤ 20 → (∀ c ∈ p, c < 1000) → GoodT p := fun p h hc => (short_piece h hc).good
  simp only [List.mem_cons, List.not_mem_nil, or_false] at hx
  rcases hx with rfl | rfl | rfl | rfl | rfl | rfl | rfl
  · exact ht
  · exact sp _ (by decide) (by decide)
  · exact sp _ (by decide) (by decide)
  · exact sp _ (by decide) (by decide)
  · exact sp _ (by decide) (by decide)
  · exact sp _ (by decide) (by decide)
  · exact hu
/-- due as data -/
def dD : Option (Nat × List Nat) → PyData
  | none => .none
  | some (n, x) => .tuple [.int (n : Nat), .str (S x)]
theorem DueV.dp {K : PySem.W.Frag} {o : Option (Nat × List Nat)} {H : Hp} {v : V} (h : DueV o H v) : Dp K H v (dD o) := by
  cases o with
  | none =>
    rw [h.1 rfl]
    exact .non
  | some z =>
    obtain ⟨a, rfl, ha⟩ := h.2 z.1 z.2 rfl
    exact .tup (SqT.of ha) (.cons (.int _) (.cons (.str _) .nil))
theorem DueV.same {o : Option (Nat × List Nat)} {H H' : Hp} {v : V} (h : DueV o H v) (s : Same H H') : DueV o H' v := ⟨h.1, fun n x e => let ⟨a, e1, e2⟩ := h.2 n x e; ⟨a, e1, s _ _ e2⟩⟩
theorem dD_shaped {l v t : List Nat} : SeqAt.shaped (dD (dueT l v t)) = true := by
  cases e : dueT l v t with
  | none => rfl
  | some z =>
    obtain ⟨n, x⟩ := z
    have ht := (dueT_small e).2
    unfold SeqAt.shaped
    have e1 : PyData.canLay0 (dD (some (n, x))) = true := by
      show (true && PyData.canLayAll0 (dW [x])) = true
      rw [dW_lay (fun w hw => by rw [List.mem_singleton.mp hw]; exact ht.2)]
      rfl
    rw [e1]
    rfl
theorem dD_eqv (o : Option (Nat × List Nat)) : PyData.eqv (dD o) (dD o) = true := by
  cases o with
  | none => rfl
  | some z =>
    show (decide ((z.1 : Int) = (z.1 : Int)) && (decide (S z.2 = S z.2) && true)) = true
    rw [decide_eq_true rfl, decide_eq_true rfl]
    rfl
/-- what isinstance asks of the three classes -/
structure KindX (K : PySem.W.Frag) (B Cl Br : Addr) : Prop where
  c : ExcC K B
  em : PySem.W.exmOne K (.ref B) (.ref Cl) = some true
  kV : PySem.W.kitOne K (.ref B) (.type "ValueError") = some true
  kB : PySem.W.kitOne K (.ref B) (.ref B) = some true
  kR : PySem.W.kitOne K (.ref B) (.ref Br) = some false
end Cl
set_option Elab.async false
set_option linter.all false
set_option maxRecDepth 100000
set_option maxHeartbeats 4000000
namespace Cl.K54
open PySem PySem.Spec L2 PyProof.Rows
section
variable {P : Program} {w : World} {K : PySem.W.Frag} {mg : Str → Option Value} {base : Heap} {B f c cc : Addr} {fd : FuncData}
theorem ok_BadRule (F : Sx.FunS K P.main.file "__init__" "BadRule.__init__" sBadRule B f c cc fd) (T : OexC K B) (z : Sx.SupE K B B) (hno0 : PySem.W.findIn K (.ref B) "stage" = some none) (hno1 : PySem.W.findIn K (.ref B) "what" = some none) (htop : (P.main.scope.names.lookup ("super" : Str)).isSome = false) (hs : mg "super" = none) :
    FnOk P w K mg base CX0 1 f fd ["self", "stage", "what"] (spX2 B "stage" "what") := by
  refine Sx.fn_sup (k := 0) (n := Sx.nf "__init__" "BadRule.__init__" sBadRule cc c) (N := ["self", "stage", "what", "__class__"]) F rfl (NdefX.nscope_by (by decide +kernel)) rfl rfl rfl rfl htop hs (fun vs H Q E h => ?_) (fun A outer s H vs Q E hr h => ?_)
  · obtain ⟨a, v, u, rfl, _⟩ := h
    rfl
  · obtain ⟨a, v, u, rfl, ha, hv1, hv2, k⟩ := h
    have c1 : ("wrong stage " : Str).length ≤ 60 := by decide +kernel
    have c2 : (" of the rule: " : Str).length ≤ 60 := by decide +kernel
    refine ⟨_, _, pa_cons (pe_joined (.cons pe_str (.cons (pe_fmt (pv 1)) (.cons pe_str (.cons (pe_fmt (pv 2)) .nil))))) pa_nil, (pss_cons (ps_ost (pv 0) (pv 1)) (pss_one (ps_ost (pv 0) (pv 2)))), a, B, _, rfl, ha, T, z, ?_⟩
    refine ⟨_, rfl, ?_, ?_⟩
    · rw [sizeLine_eq]
      simp only [PySem.Str.length_append, empty_len]
      omega
    show tFmt (tVar 1) _ _ _
    refine fmt_a rfl hv1 fun y1 hy1 => ⟨_, rfl, ?_, ?_⟩
    · rw [sizeLine_eq]
      simp only [PySem.Str.length_append, empty_len]
      omega
    refine ⟨_, rfl, ?_, ?_⟩
    · rw [sizeLine_eq]
      simp only [PySem.Str.length_append, empty_len]
      omega
    show tFmt (tVar 2) _ _ _
    refine fmt_a rfl hv2 fun y2 hy2 => ⟨_, rfl, ?_, ?_⟩
    · rw [sizeLine_eq]
      simp only [PySem.Str.length_append, empty_len]
      omega
    exact ⟨(by show 1 ≤ 1000; decide), ha, _, rfl, _, rfl, a, B, rfl, T, hno0, .inl ⟨ha, fun d hd nd => ⟨_, rfl, _, rfl, a, B, rfl, T, hno1, .inr ⟨d, _, upd_same, (by rw [upd_ne nd]; exact upd_same), (by show 1 ≤ 900; decide), k d _ hd nd (kp_three hd) (by rw [upd_ne nd.symm]; exact upd_same) upd_same⟩⟩⟩⟩
end
end Cl.K54
set_option Elab.async false
set_option linter.all false
set_option maxRecDepth 100000
set_option maxHeartbeats 4000000
/-! C.m(..), m a classmethod, whose refusal is told at the slots. -/
namespace Sx
open PySem PySem.Spec L2 PyProof.Rows
section
variable {X : Cx} {CX : CXT} {k : Nat} {C p g : Addr} {mc : Value} {sp : Sp} {o e : Expr} {es : List Expr} {m : Str} {pos apos : Pos} {ta : TE} {t : TA} {pl : Sem Bool} {pins : List (Addr × Obj)} {σ : L2.St} {H : Hp} {s : Shared}
/-- C.m(..), the class at C -/
def tCMethS (C : Addr) (sp : Sp) (Eo : L2.St → XK) (ta : TE) (t : TA) : TE := fun σ H Q => ta σ H fun x H1 => x = .ref C ∧ t σ H1 fun vs H2 => sp (.ref C :: vs) H2 Q (Eo σ)
theorem run_cmS {q : Addr} {Eo : L2.St → XK} {Q : VK} {us : List Value} {vs : List V} (F : FnR X.prog X.w X.K X.mg X.base CX k g sp) (hr : Room k X.A) (hx : PassesAt CX X σ (Eo σ)) (I : Inv X ((q, PySem.W.methodObj (.ref g) (.ref C)) :: pins) σ H s)
    (r : Vals vs us) (h : sp (.ref C :: vs) H Q (Eo σ)) : wpAny (model X.prog X.w) X.A (call (.ref q) us) (EP X pins σ Q) X.xe s := by
  have z : wpAny (model X.prog X.w) X.A (call (.ref q) us) (EP X ((q, PySem.W.methodObj (.ref g) (.ref C)) :: pins) σ Q) X.xe s :=
    wpAny_call (PySem.W.method_call (ClX.pin_at I) (run_fnRS (us := .ref C :: us) (vs := .ref C :: vs) F hr hx I (.cons rfl r) h))
  exact thn z fun _ _ y => ClX.unpinE y
theorem pe_cmethS {Eo : L2.St → XK} (he : PE X o ta) (r : ClX.CRead X.K C mc) (c : ClX.CMet X.K C mc m p g) (F : FnR X.prog X.w X.K X.mg X.base CX k g sp) (hr : Room k X.A) (hx : ∀ σ, PassesAt CX X σ (Eo σ)) (ha : PA X (e :: es) t)
    (hst : starEach (e :: es) X.env = (false, eval e X.env) :: starEach es X.env := by rfl) (hpl : (backTo pos (starEach es X.env)).any (·.1) = false := by rfl)
    (ht : eval (.Call (.Attribute o m apos) (e :: es) [] pos) X.env = (do
      let ov ← eval o X.env
      standAt apos.atName
      let (f, first) ← holding [ov] (getMethod ov m pl)
      callWith pos f first (backTo pos (starEach (e :: es) X.env)) (backToKw pos (keywordEach [] X.env))) := by rfl) :
    PE X (.Call (.Attribute o m apos) (e :: es) [] pos) (tCMethS C sp Eo ta t) := by
  refine ⟨fun pins s σ H Q I h => ?_⟩
  refine PySem.W.methodCall_KW (pl := pl) (thn (he.run pins s σ H _ I h) fun u s1 ⟨x, H1, I1, rx, ex, q⟩ => ?_) ht
  subst ex
  obtain rfl : u = Value.ref C := rx
  refine ClX.getmethcm_ok I1 r c fun s2 I2 => ?_
  refine ClX.callwith_cm I2 (ClX.base_none I1 (Nat.le_refl _)) c.fi (thn (ha.run pos _ s2 σ H1 _ I2 q) fun us s3 ⟨vs, H2, I3, rv, q2⟩ => ⟨⟨ClX.pin_at I3, I3.kIn⟩, ?_⟩) hst hpl
  exact run_cmS F hr (hx σ) I3 rv q2
end
end Sx
set_option Elab.async false
set_option linter.all false
set_option maxRecDepth 100000
set_option maxHeartbeats 4000000
/-! C.m(e, .., k = v), m a classmethod of the form def m(cls, a, *v, k = d): its refusals are told at the slots. -/
namespace Sx
open PySem PySem.Spec L2 PyProof.Rows
/-- what a def does when it is called with values and keywords -/
def FnKw (P : Program) (w : World) (K : PySem.W.Frag) (mg : Str → Option Value) (base : Heap) (CX : CXT) (k : Nat) (f : Addr) (ks : List Str) (sp : List V → Sp) : Prop :=
  ∀ (A : Around) (outer : List Env) (s : Shared) (H : Hp) (us ws : List Value) (vs zs : List V) (Q : VK) (E : XK), Room k A → Env0 P w K mg base A outer s H → Vals vs us → Vals zs ws → zs.length = ks.length → sp zs vs H Q E →
    codeAny (model P w) A (.call (.ref f) ⟨us, ks.zip ws⟩) (CR CX outer P w H s Q E) s
section
variable {CX : CXT} {P : Program} {w : World} {K : PySem.W.Frag} {mg : Str → Option Value} {base : Heap} {k : Nat} {f : Addr} {name qual : Str} {params : Arguments} {body : List Stmt} {scope : Scope} {dV kV doc pm cdv ct oc : Value} {an od : Option Addr}
  {osl : Array (Option Value)} {N ps ks : List Str} {sp : Sp}
/-- def f(a, .., *v, k, ..) called with all its keywords -/
theorem fn_starK {pv : Str} (lk : K.lookup f = some ⟨oc, od, .func (PySem.W.fnOf name qual params body scope dV kV doc pm an cdv ct), osl⟩) (hcd : PySem.W.codeIn K cdv qual = true) (S : FnScope N (ps ++ ks ++ [pv]) scope) (hCX : StX.CXUp CX)
    (hb : ∀ us rest ws : List Value, us.length = ps.length → ws.length = ks.length → bindArgs (PySem.W.fnOf name qual params body scope dV kV doc pm an cdv ct) ⟨us ++ rest, ks.zip ws⟩ = (newTuple rest >>= fun t => pure (ps.zip us ++ ks.zip ws ++ [(pv, t)])))
    (hbody : ∀ (A : Around) (outer : List Env) (s : Shared) (H : Hp) (vs : List V) (Q : VK) (E : XK), Room k (A.deeper (envOfC qual scope s.heap.objs.size f cdv)) → sp vs H Q E →
      ∃ t, PSs (cxOf CX P w K mg base N qual scope f cdv A outer s H E) body t ∧ t { nx := fun _ H' => Q .non H', rt := Q } (start N vs) H) :
    FnKw P w K mg base CX (k + 1) f ks (fun zs vs H Q E => ∃ ws rest, vs = ws ++ rest ∧ ws.length = ps.length ∧ rest.length ≤ sizeLine ∧ ∀ p, H p = Option.none → sp (ws ++ zs ++ [V.ref p]) (upd H p (.tup rest)) Q E) := by
  intro A outer s H us ws vs zs Q E hr e0 r rz lz hsp
  obtain ⟨xs, rest, ev, hl, hz, hq⟩ := hsp
  subst ev
  obtain ⟨u1, u2, eu, r1, r2⟩ := StX.vals_split r
  subst eu
  have hn : H s.heap.objs.size = Option.none := e0.hok.fresh (Nat.le_refl _)
  have hl1 : u1.length = ps.length := by rw [← r1.length]; exact hl
  have hl2 : u2.length ≤ sizeLine := by rw [← r2.length]; exact hz
  have hlw : ws.length = ks.length := by rw [← rz.length]; exact lz
  refine StX.run_bnd lk hcd S hr e0 (G := fun ys H2 => ∃ p, H p = Option.none ∧ ys = xs ++ zs ++ [V.ref p] ∧ H2 = upd H p (.tup rest)) (fun A' Ex Q' h => ?_) fun s2 H2 ys ⟨p, hp, ex, eH⟩ hr' => ?_
  · rw [hb u1 u2 ws hl1 hlw]
    refine wpAny_bind (wpAny_newTuple (wpAny_pure ?_) hl2)
    have new : ObjOk P w (upd H s.heap.objs.size (.tup rest)) (s.heap.push ({ cls := .type "tuple", data := .seq u2.toArray } : Obj)) s.heap.objs.size (.tup rest) := ⟨hz, u2, r2, ⟨_, Heap.get?_push_size _ rfl, rfl, _, rfl⟩⟩
    have un := StX.un_laid (fs := frs outer) (s := s) (o := ({ cls := .type "tuple", data := .seq u2.toArray } : Obj)) (u := .tup rest) hn
    have z := h _ _ (xs ++ zs ++ [V.ref s.heap.objs.size]) (u1 ++ ws ++ [Value.ref s.heap.objs.size]) (StX.env0_laid e0 new) un rfl (fun e s' => hCX outer s H _ _ E e s' un (fun b o q => Heap.get?_push_of_some _ q) rfl) ((r1.append rz).append (.cons (show RelV (V.ref s.heap.objs.size) (Value.ref s.heap.objs.size) from rfl) .nil))
      (by rw [List.length_append, List.length_append, List.length_append, List.length_append, hl, lz] <;> rfl) ⟨_, hn, rfl, rfl⟩
    rw [List.zip_append (by rw [List.length_append, List.length_append, hl1, hlw]), List.zip_append hl1.symm] at z
    exact z
  · subst ex eH
    exact hbody A outer s2 _ _ Q E hr' (hq p hp)
end
section
variable {X : Cx} {CX : CXT} {k : Nat} {C p g : Addr} {mc : Value} {sp : List V → Sp} {o e : Expr} {es : List Expr} {m : Str} {pos apos : Pos} {ta : TE} {t tk : TA} {pl : Sem Bool} {ks : List Str} {kws : List Keyword}
/-- C.m(.., k = v), the class at C -/
def tCMethKS (C : Addr) (m : Nat) (sp : List V → Sp) (Eo : L2.St → XK) (ta : TE) (t tk : TA) : TE := fun σ H Q => ta σ H fun x H1 => x = .ref C ∧ t σ H1 fun vs H2 => tk σ H2 fun zs H3 => zs.length = m ∧ sp zs (.ref C :: vs) H3 Q (Eo σ)
theorem run_cmKS {pins : List (Addr × Obj)} {σ : L2.St} {H : Hp} {s : Shared} {q : Addr} {Eo : L2.St → XK} {Q : VK} {us ws : List Value} {vs zs : List V} (F : FnKw X.prog X.w X.K X.mg X.base CX k g ks sp) (hr : Room k X.A) (hx : PassesAt CX X σ (Eo σ)) (I : Inv X ((q, PySem.W.methodObj (.ref g) (.ref C)) :: pins) σ H s)
    (r : Vals vs us) (rz : Vals zs ws) (lz : zs.length = ks.length) (h : sp zs (.ref C :: vs) H Q (Eo σ)) : wpAny (model X.prog X.w) X.A (call (.ref q) us (ks.zip ws)) (EP X pins σ Q) X.xe s := by
  have z : wpAny (model X.prog X.w) X.A (call (.ref q) us (ks.zip ws)) (EP X ((q, PySem.W.methodObj (.ref g) (.ref C)) :: pins) σ Q) X.xe s := by
    refine wpAny_call (PySem.W.method_call (ClX.pin_at I) (codeAny_mono (F X.A X.stack s H (.ref C :: us) ws (.ref C :: vs) zs Q (Eo σ) hr I.env0 (.cons rfl r) rz lz h) fun r s' hq => ?_))
    cases r with
    | error e => exact hx _ H s e s' I hq
    | ok fl =>
      cases fl with
      | ret u => exact I.after hq
      | next => exact False.elim hq
      | brk => exact False.elim hq
      | cont => exact False.elim hq
  exact thn z fun _ _ y => ClX.unpinE y
theorem pe_cmethKS {Eo : L2.St → XK} (he : PE X o ta) (r : ClX.CRead X.K C mc) (c : ClX.CMet X.K C mc m p g) (F : FnKw X.prog X.w X.K X.mg X.base CX k g ks sp) (hr : Room k X.A) (hx : ∀ σ, PassesAt CX X σ (Eo σ)) (ha : PA X (e :: es) t) (hkw : PK X kws tk)
    (hall : (backToKw pos (keywordEach kws X.env)).all (·.1.isSome) = true := by rfl) (hks : (backToKw pos (keywordEach kws X.env)).filterMap (·.1) = ks := by rfl)
    (hst : starEach (e :: es) X.env = (false, eval e X.env) :: starEach es X.env := by rfl)
    (hpl : ((backTo pos (starEach (e :: es) X.env)).any (·.1) || (backToKw pos (keywordEach kws X.env)).any (·.1.isNone)) = false := by rfl)
    (ht : eval (.Call (.Attribute o m apos) (e :: es) kws pos) X.env = (do
      let ov ← eval o X.env
      standAt apos.atName
      let (f, first) ← holding [ov] (getMethod ov m pl)
      callWith pos f first (backTo pos (starEach (e :: es) X.env)) (backToKw pos (keywordEach kws X.env))) := by rfl) :
    PE X (.Call (.Attribute o m apos) (e :: es) kws pos) (tCMethKS C ks.length sp Eo ta t tk) := by
  refine ⟨fun pins s σ H Q I h => ?_⟩
  refine PySem.W.methodCall_KW (pl := pl) (thn (he.run pins s σ H _ I h) fun u s1 ⟨x, H1, I1, rx, ex, q⟩ => ?_) ht
  subst ex
  obtain rfl : u = Value.ref C := rx
  refine ClX.getmethcm_ok I1 r c fun s2 I2 => ?_
  refine PySem.W.callWith_of (P := PySem.W.MethP X.K _ g (.ref C)) hpl (PySem.W.keeps_M c.fi) (evalArgs_kw2 hall (thn (ha.run pos _ s2 σ H1 _ I2 q) fun us s3 ⟨vs, H2, I3, rv, q2⟩ => thn (hkw.run pos _ s3 σ H2 _ I3 q2) fun ws s4 ⟨zs, H4, I4, rz, l2, q3⟩ => ⟨⟨ClX.pin_at I4, I4.kIn⟩, ?_⟩) hst)
  rw [hks]
  exact run_cmKS F hr (hx σ) I4 rv rz l2 q3
end
end Sx
set_option Elab.async false
set_option linter.all false
set_option maxRecDepth 100000
set_option maxHeartbeats 4000000
/-! for i, x in enumerate(a tuple, start=k). -/
namespace Sx
open PySem PySem.Spec L2 PyProof.Rows
/-- the tuple at a, each item in a new pair with its number, the first one's k -/
def EnumTK (K : PySem.W.Frag) (a : Addr) (k : Int) : It where
  go n H := ∃ (items : List V) (one : V), SqT K H a items ∧ items[n]? = some one
  yld n H v H' := ∃ (T : Addr) (one : V), v = .ref T ∧ H T = none ∧ H' = upd H T (.tup [.int (k + (n : Int)), one]) ∧ ∀ items, SqT K H a items → items[n]? = some one
  stop n H := ∃ items : List V, SqT K H a items ∧ items.length = n
theorem walk_enumTK {K : PySem.W.Frag} {a : Addr} {k : Int} {xs : List V} : Walk (EnumTK K a k) xs.length (fun H => SqT K H a xs) (fun i H v H' => ∃ T x, v = .ref T ∧ H T = none ∧ H' = upd H T (.tup [.int (k + (i : Int)), x]) ∧ xs[i]? = some x) := by
  constructor
  · intro i H hi q
    exact ⟨xs, xs[i], q, by simp [hi]⟩
  · intro H q
    exact ⟨xs, q, rfl⟩
  · rintro i H v H' hi q ⟨T, one, ev, hT, eH, all⟩
    exact ⟨T, one, ev, hT, eH, all xs q⟩
/-- the iterator's state: its counter, the list's own iterator behind it -/
def AtEnumT (a e it : Addr) (k : Int) (n : Nat) (h : Heap) : Prop := (∃ old, IsEnum h e it (k + (n : Int)) old) ∧ h.IsTupleIter it a n ∧ e ≠ it
theorem apart_tupT {h : Heap} {a it : Addr} {n : Nat} {items : Array Value} (hl : h.IsTuple a items) (hi : h.IsTupleIter it a n) : a ≠ it := fun z => by
  obtain ⟨o1, e1, c1, _⟩ := hl
  obtain ⟨o2, e2, c2, _⟩ := hi
  rw [z, e2] at e1
  cases e1
  rw [c1] at c2
  injection c2 with c2
  exact absurd c2 (by decide)
theorem apart_enumT {h : Heap} {a e it : Addr} {i : Int} {old : Value} {items : Array Value} (hl : h.IsTuple a items) (he : IsEnum h e it i old) : a ≠ e := fun z => by
  obtain ⟨o1, e1, c1, _⟩ := hl
  have e2 : h.get? e = some _ := he
  rw [z, e2] at e1
  cases e1
  injection c1 with c1
  exact absurd c1 (by decide)
theorem turn_enumTK {P : Program} {w : World} {K : PySem.W.Frag} {elts : List Expr} {kk : Nat} {tpos : Pos} (a e it : Addr) (k : Int) : Turn P w K (.Tuple elts kk tpos) (EnumTK K a k) [e, it] e (AtEnumT a e it k) := by
  constructor
  · simp
  · rintro n h ⟨⟨old, he⟩, ⟨o, ho, _, hd⟩, _⟩ b hb
    rcases (by simpa using hb : b = e ∨ b = it) with rfl | rfl
    · exact ⟨_, he, fun _ q => nomatch q⟩
    · refine ⟨o, ho, fun _ q => ?_⟩
      rw [hd] at q
      cases q
  · rintro n h h' ⟨⟨old, he⟩, hi, ne⟩ same
    exact ⟨⟨old, same e (by simp) _ he⟩, hi.at fun o q => same it (by simp) o q, ne⟩
  · intro X eP eW eK calm n pins s σ H E I fp st ⟨items, one, hq, hx⟩
    subst eP eW eK
    obtain ⟨⟨old, he⟩, hi, ne⟩ := st
    obtain ⟨its, rel, plain, size⟩ := I.tuple hq
    obtain ⟨u, hu, ru⟩ := rel.get hx
    have ne1 := apart_tupT plain hi
    have ne2 := apart_enumT plain he
    have D := Draws.tuple (prog := X.prog) (w := X.w) (A := X.A.in1) (I.ok.hd calm) it a ne1 its.toArray
    have W := WalksT.enumFrom (A := X.A) k D e ne (by simp [ne, Ne.symm ne2]) (by simp)
    have lt : n < its.toArray.size := by
      have := (List.getElem?_eq_some_iff.mp hu).1
      simpa using this
    refine W.item n s _ E lt ⟨⟨old, he⟩, hi, plain⟩ fun T vals h1 tk ⟨t, x, px, ev⟩ above tup mid keep1 => ⟨.ref T, rfl, ?_⟩
    have apart := W.apart n T h1 mid
    refine W.go elts kk tpos n T _ _ E mid fun h2 st2 keep2 => ?_
    obtain ⟨⟨old2, he2⟩, hi2, _⟩ := st2
    have ex : x = u := by
      have hu' : its.toArray[n]? = some u := by simpa using hu
      rw [hu'] at px
      exact (Option.some.inj px).symm
    subst ex
    obtain ⟨ot, hot, cot, nt, dot⟩ := tup
    have new : ObjOk X.prog X.w (upd H T (.tup [.int (k + (n : Int)), one])) h2 T (.tup [.int (k + (n : Int)), one]) :=
      ⟨(by show 2 ≤ sizeLine; decide), [.int (k + (n : Int)) t, x], .cons ⟨_, rfl⟩ (.cons ru .nil), ⟨ot, keep2 T ot apart hot, cot, nt, by rw [dot, ev]⟩⟩
    have I2 := I.turnedNew (t' := tk) (ch := [e, it]) (h' := h2) (fun b o hb q => keep2 b o hb (keep1 b o hb q)) fp above new
    refine ⟨.ref T, _, I2, rfl, ⟨T, one, rfl, I.hok.fresh above, rfl, fun ys hy => ?_⟩, ⟨⟨old2, he2⟩, hi2, ne⟩, fun b hb => ?_⟩
    · rw [I.tuple_inj hy hq]
      exact hx
    · rw [upd_ne fun z => apart (by rw [← z]; exact hb)]
      exact (fp b hb).1
  · intro X eP eW eK calm n pins s σ H E I fp st ⟨items, hq, hx⟩
    subst eP eW eK
    obtain ⟨⟨old, he⟩, hi, ne⟩ := st
    obtain ⟨its, rel, plain, size⟩ := I.tuple hq
    have ne1 := apart_tupT plain hi
    have ne2 := apart_enumT plain he
    have D := Draws.tuple (prog := X.prog) (w := X.w) (A := X.A.in1) (I.ok.hd calm) it a ne1 its.toArray
    have W := WalksT.enumFrom (A := X.A) k D e ne (by simp [ne, Ne.symm ne2]) (by simp)
    have ln : its.toArray.size = n := by
      have := rel.length
      simp
      omega
    rw [ln] at W
    refine W.done s _ E ⟨⟨old, he⟩, hi, plain⟩ fun h1 tk keep => ⟨rfl, ?_⟩
    exact I.turnedL (t' := tk) (ch := [e, it]) (h' := h1) keep fp
  · rintro A n s Q E ⟨⟨old, he⟩, _⟩ q
    exact wpAny_pyIter_enum he q
/-- enumerate(a list, start=k) -/
def iEnumTK (K : PySem.W.Frag) (ta tk : TA) : TI := fun σ H R => ta σ H fun vs H1 => tk σ H1 fun zs H2 => ∃ (a : Addr) (xs : List V) (k : Int), vs = [.ref a] ∧ zs = [.int k] ∧ SqT K H2 a xs ∧ -(2 ^ 63) ≤ k ∧ k < 2 ^ 63 ∧ R (EnumTK K a k) H2
theorem pi_enumTK {X : Cx} {e : Expr} {kws : List Keyword} {ta tk : TA} {p pos tpos : Pos} {elts : List Expr} {kk : Nat} (gl : Gl X "enumerate") (gm : X.mg "enumerate" = none) (ha : PA X [e] ta) (hk : PK X kws tk)
    (he : starEach [e] X.env = (false, eval e X.env) :: starEach [] X.env := by rfl) (allN : (backToKw pos (keywordEach kws X.env)).all (·.1.isSome) = true := by rfl)
    (noS : ((backTo pos (starEach [e] X.env)).any (·.1) || (backToKw pos (keywordEach kws X.env)).any (·.1.isNone)) = false := by rfl) (names : (backToKw pos (keywordEach kws X.env)).filterMap (·.1) = [Str.ofString "start"] := by rfl) :
    PI X (.Tuple elts kk tpos) (.Call (.Name "enumerate" p) [e] kws pos) (iEnumTK X.K ta tk) := by
  constructor
  intro pins s σ H R I h
  refine wpAny_Call_Name_kw (ld_blt I gl gm boot_enumerate ?_)
  have machine : ∀ (hp : Heap), True → ∃ m, (m = Keeper.frame ∨ m = Keeper.machine ∨ m = Keeper.boundFrame) ∧ PySem.W.Looks (model X.prog X.w) hp (keeperOf (.type "enumerate")) m := fun hp _ => ⟨.machine, .inr (.inl rfl), PySem.W.Looks.of_pure rfl⟩
  refine PySem.W.callWith_of (P := fun _ => True) noS machine (evalArgs_kw2 allN ?_ he)
  refine thn (ha.run pos pins s σ H _ I h) ?_
  rintro us s1 ⟨vs, H1, I1, r1, q1⟩
  refine thn (hk.run pos pins s1 σ H1 _ I1 q1) ?_
  rintro ws s2 ⟨zs, H2, I2, r2, a, xs, k, rfl, rfl, hq, k0, k1, q2⟩
  refine ⟨trivial, ?_⟩
  obtain ⟨u, rfl, ru⟩ := vals1 r1
  obtain ⟨z, rfl, rz⟩ := vals1 r2
  obtain rfl : u = Value.ref a := ru
  obtain ⟨t, rfl⟩ := rz
  rw [names]
  obtain ⟨its, rel, plain, size⟩ := I2.tuple hq
  refine enum_begins_start (begins_tuple a its.toArray) plain k0 k1 fun h' he hi sz keep => ?_
  refine wpAny_pyIter_enum he ?_
  have I3 : Inv X pins σ H2 { s2 with heap := h' } := I2.kept (t' := s2.toks) keep
  refine ⟨_, [s2.heap.objs.size + 1, s2.heap.objs.size], _, _, H2, rfl, I3, turn_enumTK a _ s2.heap.objs.size k, ⟨⟨.none, by simpa using he⟩, ⟨_, hi, rfl, ?_⟩, Nat.succ_ne_self _⟩, fun b hb => ?_, q2⟩
  · rfl
  · have le : s2.heap.objs.size ≤ b := by
      rcases (by simpa using hb : b = s2.heap.objs.size + 1 ∨ b = s2.heap.objs.size) with z | z
      · rw [z]
        exact Nat.le_succ _
      · rw [z]
        exact Nat.le_refl _
    exact I2.fpOk le (I2.hok.fresh le)
end Sx
set_option Elab.async false
set_option linter.all false
set_option maxRecDepth 100000
set_option maxHeartbeats 4000000
/-! [[*c, p] for c in a list of lists for p in a list]. -/
namespace Sx
open PySem PySem.Spec L2 PyProof.Rows
theorem wipe_pair {σ : L2.St} {u v : Nat} (x : Option V) (huv : u ≠ v) : wipe ((wipe σ [u, v]).set u x) [u, v] = wipe σ [u, v] := by
  show (((((σ.set v none).set u none).set u x).set v none).set u none) = (σ.set v none).set u none
  apply List.ext_getElem?
  intro i
  by_cases h1 : i = u
  · subst h1
    simp [List.getElem?_set, huv, Ne.symm huv]
  · by_cases h2 : i = v
    · subst h2
      simp [List.getElem?_set, huv, Ne.symm huv]
    · simp [List.getElem?_set, Ne.symm h1, Ne.symm h2]
theorem wipe_sole {σ : L2.St} {v : Nat} (x : Option V) : wipe ((wipe σ [v]).set v x) [v] = wipe σ [v] := by
  show (((σ.set v none).set v x).set v none) = σ.set v none
  rw [List.set_set, List.set_set]
/-- at x a list of the objects c -/
def RowR (H : Hp) (x : Addr) (c : List Addr) : Prop := H x = some (.lst (c.map V.ref))
theorem paired_get {α β : Type} {F : α → β → Prop} : ∀ {xs : List α} {ys : List β} {i : Nat} {x : α}, Paired F xs ys → xs[i]? = some x → ∃ y, ys[i]? = some y ∧ F x y
  | _, _, _, _, .nil, e => by simp at e
  | _, _, 0, _, .cons r _, e => by simp at e; subst e; exact ⟨_, rfl, r⟩
  | _, _, i + 1, x, .cons _ t, e => by
    obtain ⟨u, h1, h2⟩ := paired_get (i := i) (x := x) t (by simpa using e)
    exact ⟨u, by simpa using h1, h2⟩
theorem paired_mono {α β : Type} {F G : α → β → Prop} (h : ∀ a b, F a b → G a b) : ∀ {xs : List α} {ys : List β}, Paired F xs ys → Paired G xs ys
  | _, _, .nil => .nil
  | _, _, .cons r t => .cons (h _ _ r) (paired_mono h t)
theorem paired_app {α β : Type} {F : α → β → Prop} : ∀ {xs xs' : List α} {ys ys' : List β}, Paired F xs ys → Paired F xs' ys' → Paired F (xs ++ xs') (ys ++ ys')
  | _, _, _, _, .nil, q => q
  | _, _, _, _, .cons r t, q => .cons r (paired_app t q)
theorem paired_snoc {α β : Type} {F : α → β → Prop} {xs : List α} {ys : List β} {x : α} {y : β} (p : Paired F xs ys) (h : F x y) : Paired F (xs ++ [x]) (ys ++ [y]) := paired_app p (.cons h .nil)
/-- what stands behind i whole rows and j of the next one -/
def upto (cs : List (List Addr)) (ps : List Addr) (i j : Nat) : List (List Addr) := ((cs.take i).flatMap fun c => ps.map fun p => c ++ [p]) ++ ((cs.drop i).head?.getD [] |> fun c => (ps.take j).map fun p => c ++ [p])
section
variable {K : PySem.W.Frag} {a b D : Addr} {as ps : List Addr} {cs : List (List Addr)} {σ : L2.St} {H1 : Hp} {Qd : Hp → Prop} {u v ip : Nat}
theorem lc2_prod (hD : H1 D = none) (ha : H1 a = some (.lst (as.map V.ref))) (hp : Paired (RowR H1) as cs) (hb : H1 b = some (.lst (ps.map V.ref))) (size : cs.length * ps.length ≤ 100000) (each : ∀ c ∈ cs, c.length ≤ 1000)
    (hu : u < σ.length) (hv : v < σ.length) (huv : u ≠ v) (hip : ∀ x : Option V, ((wipe σ [u, v]).set u x)[ip]? = some (some (.ref b)))
    (after : ∀ (H' : Hp) (Rs : List Addr), Same H1 H' → H' D = some (.lst (Rs.map V.ref)) → Paired (fun x c => H1 x = none ∧ RowR H' x c) Rs (cs.flatMap fun c => ps.map fun p => c ++ [p]) → Qd H') :
    ∃ W : Nat → Nat → Hp → Prop, (∃ m, W 0 m (upd H1 D (.lst []))) ∧ ∀ i m H, W i m H →
      ((Itl K a).stop i H ∧ Qd H) ∨ ((Itl K a).go i H ∧ ∃ Nx : Hp → Prop, (∀ H', Nx H' → ∃ m', m' < m ∧ W (i + 1) m' H') ∧ ∀ x H', (Itl K a).yld i H x H' → gName u x (wipe σ [u, v]) H' fun σ2 H2 => wipe σ2 [u, v] = wipe σ [u, v] ∧ tYes σ2 H2 fun b H3 =>
        if b = true then iList K (tVar ip) σ2 H3 fun J1 H4 => ∃ W1 : Nat → Nat → Hp → Prop, (∃ m, W1 0 m H4) ∧ ∀ j k H, W1 j k H →
          (J1.stop j H ∧ Nx H) ∨ (J1.go j H ∧ ∃ Nx1 : Hp → Prop, (∀ H', Nx1 H' → ∃ k', k' < k ∧ W1 (j + 1) k' H') ∧ ∀ x H', J1.yld j H x H' → gName v x (wipe σ2 [v]) H' fun σ3 H5 => wipe σ3 [v] = wipe σ2 [v] ∧ tYes σ3 H5 fun b H6 =>
            if b = true then tLst (StX.tStar K (tVar u) (tCons (tVar v) tNil)) σ3 H6 fun y H7 => ∃ acc, H7 D = some (.lst acc) ∧ acc.length < sizeLine ∧ Nx1 (upd H7 D (.lst (acc ++ [y]))) else Nx1 H6)
        else Nx H3) := by
  have wk := walk_list (K := K) (a := a) (xs := as.map V.ref)
  have wk1 := walk_list (K := K) (a := b) (xs := ps.map V.ref)
  have lac := hp.length
  have sD : ∀ {H : Hp} {o : HO}, Same H1 H → Same H1 (upd H D o) := fun s b o e => by
    rw [upd_ne (ne_of_none e hD)]
    exact s _ _ e
  let pre : Nat → List (List Addr) := fun i => (cs.take i).flatMap fun c => ps.map fun p => c ++ [p]
  have pre_len : ∀ i, (pre i).length = (cs.take i).length * ps.length := fun i => by
    show ((cs.take i).flatMap fun c => ps.map fun p => c ++ [p]).length = _
    rw [List.length_flatMap]
    have e : ∀ l : List (List Addr), (l.map fun c => (ps.map fun p => c ++ [p]).length).sum = l.length * ps.length := fun l => by
      induction l with
      | nil => simp
      | cons c r ih => rw [List.map_cons, List.sum_cons, ih, List.length_map, List.length_cons, Nat.succ_mul, Nat.add_comm]
    exact e _
  refine ⟨fun i m H => m = cs.length - i ∧ i ≤ cs.length ∧ Same H1 H ∧ ∃ Rs, H D = some (.lst (Rs.map V.ref)) ∧ Paired (fun x c => x ≠ D ∧ H1 x = none ∧ RowR H x c) Rs (pre i), ⟨_, rfl, Nat.zero_le _, Cl.same_new hD, [], upd_same, .nil⟩, ?_⟩
  rintro i m H ⟨rfl, hi, s, Rs, hd, pr⟩
  by_cases hlt : i < cs.length
  · have hlt' : i < (as.map V.ref).length := by rw [List.length_map, lac]; exact hlt
    refine .inr ⟨wk.goes i H hlt' (SqL.of (s _ _ ha)), fun H => Same H1 H ∧ ∃ Rs, H D = some (.lst (Rs.map V.ref)) ∧ Paired (fun x c => x ≠ D ∧ H1 x = none ∧ RowR H x c) Rs (pre (i + 1)), fun H' ⟨s', d'⟩ => ⟨_, by omega, rfl, hlt, s', d'⟩, fun x H' y => ?_⟩
    obtain ⟨rfl, ex⟩ := wk.yields i H x H' hlt' (SqL.of (s _ _ ha)) y
    refine ⟨wipe_pair _ huv, ?_⟩
    rw [List.getElem?_map] at ex
    obtain ⟨ai, eai, rfl⟩ : ∃ ai, as[i]? = some ai ∧ x = .ref ai := by
      cases e : as[i]? with
      | none => rw [e] at ex; cases ex
      | some z =>
        rw [e] at ex
        injection ex with ex
        exact ⟨z, rfl, ex.symm⟩
    obtain ⟨c, ec, hc⟩ := paired_get hp eai
    have cm := each c (List.mem_of_getElem? ec)
    have nxt : pre (i + 1) = pre i ++ ps.map fun p => c ++ [p] := by
      show (cs.take (i + 1)).flatMap _ = _
      rw [List.take_succ, ec, List.flatMap_append]
      show _ ++ List.flatMap _ [c] = _
      rw [List.flatMap_cons, List.flatMap_nil, List.append_nil]
    have bd : (pre (i + 1)).length ≤ 100000 := by
      rw [pre_len, List.length_take]
      exact Nat.le_trans (Nat.mul_le_mul_right _ (Nat.min_le_right _ _)) size
    rw [nxt, List.length_append, List.length_map] at bd
    refine ⟨_, hip _, b, rfl, ⟨_, SqL.of (s _ _ hb)⟩, ?_⟩
    refine ⟨fun j k H => k = ps.length - j ∧ j ≤ ps.length ∧ Same H1 H ∧ ∃ Rs, H D = some (.lst (Rs.map V.ref)) ∧ Paired (fun x c => x ≠ D ∧ H1 x = none ∧ RowR H x c) Rs (pre i ++ (ps.take j).map fun p => c ++ [p]), ⟨_, rfl, Nat.zero_le _, s, Rs, hd, by rw [List.take_zero, List.map_nil, List.append_nil]; exact pr⟩, ?_⟩
    rintro j k H ⟨rfl, hj, s2, Rs2, hd2, pr2⟩
    by_cases hlt2 : j < ps.length
    · have hlt2' : j < (ps.map V.ref).length := by rw [List.length_map]; exact hlt2
      refine .inr ⟨wk1.goes j H hlt2' (SqL.of (s2 _ _ hb)), fun H => Same H1 H ∧ ∃ Rs, H D = some (.lst (Rs.map V.ref)) ∧ Paired (fun x c => x ≠ D ∧ H1 x = none ∧ RowR H x c) Rs (pre i ++ (ps.take (j + 1)).map fun p => c ++ [p]), fun H' ⟨s', d'⟩ => ⟨_, by omega, rfl, hlt2, s', d'⟩, fun y H' yy => ?_⟩
      obtain ⟨rfl, ey⟩ := wk1.yields j H y H' hlt2' (SqL.of (s2 _ _ hb)) yy
      refine ⟨wipe_sole _, ?_⟩
      rw [List.getElem?_map] at ey
      obtain ⟨pj, ep, rfl⟩ : ∃ pj, ps[j]? = some pj ∧ y = .ref pj := by
        cases e : ps[j]? with
        | none => rw [e] at ey; cases ey
        | some z =>
          rw [e] at ey
          injection ey with ey
          exact ⟨z, rfl, ey.symm⟩
      have e1 : ((wipe ((wipe σ [u, v]).set u (some (.ref ai))) [v]).set v (some (.ref pj)))[u]? = some (some (.ref ai)) := by
        show ((((wipe σ [u, v]).set u (some (V.ref ai))).set v none).set v (some (.ref pj)))[u]? = _
        rw [List.set_set, List.getElem?_set_ne (Ne.symm huv), List.getElem?_set_self]
        rw [wipe_length]
        exact hu
      have e2 : ((wipe ((wipe σ [u, v]).set u (some (.ref ai))) [v]).set v (some (.ref pj)))[v]? = some (some (.ref pj)) := by
        rw [List.getElem?_set_self]
        rw [wipe_length, List.length_set, wipe_length]
        exact hv
      refine ⟨_, e1, ai, c.map V.ref, rfl, .inr (SqL.of (s2 _ _ hc)), _, e2, ?_, fun q hq => ?_⟩
      · rw [List.length_append, List.length_map, sizeLine_eq]
        show _ + 1 ≤ _
        omega
      have l2 := pr2.length
      rw [List.length_append, List.length_map, List.length_take, Nat.min_eq_left hj] at l2
      refine ⟨Rs2.map V.ref, by rw [upd_ne (ne_of_none hd2 hq)]; exact hd2, ?_, ?_, Rs2 ++ [q], ?_, ?_⟩
      · rw [List.length_map, l2, sizeLine_eq]
        omega
      · exact sD (s2.trans (Cl.same_new hq))
      · rw [upd_same, List.map_append]
        rfl
      · have ep' : ps.take (j + 1) = ps.take j ++ [pj] := by
          rw [List.take_succ, ep]
          rfl
        have nq : q ≠ D := (ne_of_none hd2 hq).symm
        rw [ep', List.map_append, ← List.append_assoc]
        have fq : H1 q = none := by
          cases e : H1 q with
          | none => rfl
          | some o => rw [s2 _ _ e] at hq; cases hq
        refine paired_snoc (paired_mono (fun x c hh => ⟨hh.1, hh.2.1, by
          unfold RowR
          rw [upd_ne hh.1, upd_ne (ne_of_none hh.2.2 hq)]
          exact hh.2.2⟩) pr2) ⟨nq, fq, ?_⟩
        unfold RowR
        rw [upd_ne nq, upd_same, List.map_append]
        rfl
    · have e : j = ps.length := by omega
      subst e
      rw [List.take_length] at pr2
      refine .inl ⟨(by have z := wk1.stops H (SqL.of (s2 _ _ hb)); rw [List.length_map] at z; exact z), s2, Rs2, hd2, ?_⟩
      rw [nxt]
      exact pr2
  · have e : i = cs.length := by omega
    subst e
    refine .inl ⟨(by have z := wk.stops H (SqL.of (s _ _ ha)); rw [List.length_map, lac] at z; exact z), after H Rs s hd ?_⟩
    have e3 : pre cs.length = cs.flatMap fun c => ps.map fun p => c ++ [p] := by
      show (cs.take cs.length).flatMap _ = _
      rw [List.take_length]
    rw [e3] at pr
    exact paired_mono (fun _ _ h => h.2) pr
end
end Sx
set_option Elab.async false
set_option linter.all false
set_option maxRecDepth 100000
set_option maxHeartbeats 4000000
/-! [e(x) for x in ..] whose element raises: what it lets out leaves the block, and is told at the slots of the def. -/
namespace Sx
open PySem PySem.Spec L2 PyProof.Rows
theorem noted_as {e : Value} {c d : Env} (h : c.frame = d.frame) : noteFrame e c = noteFrame e d := by
  unfold noteFrame PySem.frameOf
  rw [h]
theorem passed_as {α : Type} {what : String} {e : Value} {c d : Env} (h : c.frame = d.frame) : (PySem.passOn what e c : Sem α) = PySem.passOn what e d := by
  unfold PySem.passOn
  rw [h]
/-- the end of a block: what it made is used, or what it let out is passed on, its names let go -/
def BlkEnd (M : Model) (A : Around) (E : Value → Shared → Prop) (R : Shared → Prop) (env : Env) (C : Addr) (r : Result) (s' : Shared) : Prop :=
  match r with
  | .ok _ => R s'
  | .error x => ∃ m, s'.heap.Ns C m ∧ ∀ h', Heap.SameBut C s'.heap h' → ∀ c : Env, c.frame = env.frame → wpAny M A (PySem.passOn "comprehension.variables-let-go" x c : Sem Value) (fun _ _ => False) E { s' with heap := h' }
/-- the list is the value -/
def LcVal (Q : Value → Shared → Prop) (acc : Value) (C : Addr) (s' : Shared) : Prop := ∃ m, s'.heap.Ns C m ∧ ∀ h', Heap.SameBut C s'.heap h' → Q acc { s' with heap := h' }
/-- the list is stored -/
def LcUse (M : Model) (A : Around) (E : Value → Shared → Prop) (u : Value → Sem Unit) (Q : Value → Shared → Prop) (acc : Value) (C : Addr) (s' : Shared) : Prop := wpAny M A (u acc) (fun _ s'' => LcVal (fun _ => Q .none) .none C s'') E s'
section
variable {M : Model} {A : Around} {E : Value → Shared → Prop} {s : Shared} {env : Env}
/-- the way to a block -/
def ToBlk (M : Model) (A : Around) (E : Value → Shared → Prop) (env : Env) (e : Expr) (scope : Scope) (cl : List (Str × Addr)) (newAcc first : Sem Value) (R : Value → Addr → Shared → Prop) (s : Shared) : Prop :=
  wpAny M A first (fun x s1 => wpAny M A (pyIter x) (fun it s2 => wpAny M A newAcc (fun acc s3 => wpAny M A (newFunctionEnv scope env.globals cl [] env.qual none .none (some env)) (fun ce s4 =>
      ce.frame = env.frame ∧ codeAny M A (.compStart e 0 it acc { ce with scope := relabel scope env }) (BlkEnd M A E (R acc ce.locals) env ce.locals) s4) E s3) E s2) E s1) E s
theorem comp_raise {e : Expr} {scope : Scope} {pos : Pos} {newAcc first : Sem Value} {g : Comprehension} {gs : List Comprehension} {cl : List (Str × Addr)} {Q : Value → Shared → Prop}
    (hcl : clausesOf e = g :: gs) (hs : ∀ x, foldedSetIterable g.iter env x = pure x) (hclos : closureFor scope env = pure cl) (hkind : scope.kind = .function)
    (hn : ∀ x ∈ scope.names, x.2 = .local → scope.names.lookup x.1 = some .local)
    (h : ToBlk M A E env e scope cl newAcc first (LcVal Q) s) : wpAny M A (comprehension e scope env pos newAcc false first none) Q E s := by
  unfold comprehension
  rw [hclos, hcl]
  refine wpAny_bind (thn h fun x s1 h1 => ?_)
  refine wpAny_bind (wpAny_standAt ?_)
  refine wpAny_bind (wpAny_of_eq (hs x) ?_)
  refine wpAny_bind (wpAny_holding (thn h1 fun it s2 h2 => ?_))
  refine wpAny_standIf ?_
  refine wpAny_bind (thn h2 fun acc s3 h3 => ?_)
  refine wpAny_bind (wpAny_pure ?_)
  refine wpAny_bind (thn h3 fun ce s4 h4 => ?_)
  dsimp only
  obtain ⟨hf, h5⟩ := h4
  have hv : ∀ x ∈ (scope.names.filter fun x => (x.2 == .local || x.2 == .cell) && x.1 != (".0" : Str)).reverse, x.2 = .local → Env.kindOf { ce with scope := relabel scope env } x.1 = some .local := fun x hx =>
    fun hl => lookup_relabel_local (hn x (List.mem_filter.mp (List.mem_reverse.mp hx)).1 hl)
  refine wpAny_holding (wpAny_bind (wpAny_attempt (wpAny_holding (wpAny_run (codeAny_mono h5 fun r s' hr => ?_)))))
  cases r with
  | ok f =>
    obtain ⟨m, hns, hr⟩ := hr
    exact wpAny_bind (wpAny_holding (wpAny_comp_letGo (cenv := { ce with scope := relabel scope env }) hkind _ s' m hv hns fun h' _ _ sb => wpAny_pure (hr h' sb)))
  | error x =>
    obtain ⟨m, hns, hr⟩ := hr
    refine wpAny_bind (wpAny_holding (wpAny_comp_letGo (cenv := { ce with scope := relabel scope env }) hkind _ s' m hv hns fun h' _ _ sb => ?_))
    exact wpAny_mono (hr h' sb _ hf) (fun _ _ z => z.elim) fun _ _ z => z
theorem comp_raiseU {e : Expr} {scope : Scope} {pos : Pos} {newAcc first : Sem Value} {g : Comprehension} {gs : List Comprehension} {cl : List (Str × Addr)} {u : Value → Sem Unit} {Q : Value → Shared → Prop}
    (hcl : clausesOf e = g :: gs) (hs : ∀ x, foldedSetIterable g.iter env x = pure x) (hclos : closureFor scope env = pure cl) (hkind : scope.kind = .function)
    (hn : ∀ x ∈ scope.names, x.2 = .local → scope.names.lookup x.1 = some .local)
    (h : ToBlk M A E env e scope cl newAcc first (LcUse M A E u Q) s) : wpAny M A (comprehension e scope env pos newAcc false first (some u)) Q E s := by
  unfold comprehension
  rw [hclos, hcl]
  refine wpAny_bind (thn h fun x s1 h1 => ?_)
  refine wpAny_bind (wpAny_standAt ?_)
  refine wpAny_bind (wpAny_of_eq (hs x) ?_)
  refine wpAny_bind (wpAny_holding (thn h1 fun it s2 h2 => ?_))
  refine wpAny_standIf ?_
  refine wpAny_bind (thn h2 fun acc s3 h3 => ?_)
  refine wpAny_bind (wpAny_pure ?_)
  refine wpAny_bind (thn h3 fun ce s4 h4 => ?_)
  dsimp only
  obtain ⟨hf, h5⟩ := h4
  have hv : ∀ x ∈ (scope.names.filter fun x => (x.2 == .local || x.2 == .cell) && x.1 != (".0" : Str)).reverse, x.2 = .local → Env.kindOf { ce with scope := relabel scope env } x.1 = some .local := fun x hx =>
    fun hl => lookup_relabel_local (hn x (List.mem_filter.mp (List.mem_reverse.mp hx)).1 hl)
  refine wpAny_holding (wpAny_bind (wpAny_attempt (wpAny_holding (wpAny_run (codeAny_mono h5 fun r s' hr => ?_)))))
  cases r with
  | ok f =>
    refine wpAny_bind (wpAny_rule (wpAny_bind (wpAny_holding (thn hr fun _ s5 hz => ?_))))
    obtain ⟨m, hns, hz⟩ := hz
    refine wpAny_bind (wpAny_comp_letGo (cenv := { ce with scope := relabel scope env }) hkind _ s5 m (fun x hx hl => ?_) hns fun h' _ _ sb => wpAny_pure (hz h' sb))
    exact (List.mem_append.mp hx).elim (fun k => hv x (List.mem_of_mem_drop k) hl) fun k => hv x (List.mem_of_mem_take k) hl
  | error x =>
    obtain ⟨m, hns, hr⟩ := hr
    refine wpAny_bind (wpAny_holding (wpAny_comp_letGo (cenv := { ce with scope := relabel scope env }) hkind _ s' m hv hns fun h' _ _ sb => ?_))
    exact wpAny_mono (hr h' sb _ hf) (fun _ _ z => z.elim) fun _ _ z => z
end
theorem frames_but {C : Addr} {h h' B B' : Heap} (kh : ∀ b, b ≠ C → h'.get? b = h.get? b) (kb : ∀ b, B.get? b = none → B'.get? b = none) : ∀ {l : List Env}, C ∉ frs l → h.FunFrames B l → h'.FunFrames B' l
  | [], _, _ => trivial
  | e :: r, n, ⟨k, ⟨L, o, f, hb, ho, hd⟩, t⟩ => by
    have n1 : L ≠ C := fun z => n (List.mem_filterMap.mpr ⟨e, List.mem_cons_self, by rw [f, z]⟩)
    have n2 : C ∉ frs r := fun z => by
      obtain ⟨x, hx, ex⟩ := List.mem_filterMap.mp z
      exact n (List.mem_filterMap.mpr ⟨x, List.mem_cons_of_mem _ hx, ex⟩)
    exact ⟨k, ⟨L, o, f, kb L hb, (kh L n1).trans ho, hd⟩, frames_but kh kb n2 t⟩
theorem sky_note {M : Model} {A : Around} {E₁ : Value → Shared → Prop} {B : Heap} {s : Shared} {env : Env} {outer : List Env} {L a : Addr} {Z : Obj → Prop} {Q : Unit → Shared → Prop} (hZ : HandSPX.Steady Z)
    (hfr : A.frames = some (env :: outer)) (hf : env.frame = some L) (x : Sky B (env :: outer) a Z L s.heap)
    (fin : ∀ h1, HandSPX.HeldZ B (env :: outer) a Z L h1 → s.heap.UpToSlots h1 → Q () { s with heap := h1 }) : wpAny M A (noteFrame (.ref a) env) Q E₁ s := by
  rcases x with ⟨c1, c2, c3, oe, vs, c4, c5, c6, c7⟩ | fl | hh
  · exact HandSPX.look_newZ hZ hfr c3 hf c4 c1 c2 c6 c7 c5 fin
  · exact HandSPX.looks_onZ hZ hfr hf fl fin
  · exact HandSPX.againZ hf hh.2.2.2 (fin s.heap hh (Heap.UpToSlots.refl _))
section
variable {X : Cx}
theorem lcR_core {pins : List (Addr × Obj)} {s : Shared} {σ : L2.St} {H : Hp} {Q : VK} {elt tg iter : Expr} {ifs : List Expr} {scope : Scope} {own : List (Str × Nat)} {pos : Pos} {wi : TI} {g : TG} {tt : TT} {te : TE} {E : XK} {R : Value → Addr → Shared → Prop} (hc : X.calm = true) (hst : X.stack = X.env :: X.outer) (hfe : X.env.frame = some X.env.locals) (tk : Takes X (fun cls d _ H => E cls d H)) (hN : X.N.Nodup)
    (hi : PI X tg iter wi) (ok : BlkOk X.N X.env.scope scope own)
    (hg : ∀ (s : Shared) (H : Hp) (C : Addr) (cl : List (Str × Addr)) (fp : List Addr) (xe : Value → Shared → Prop), PG ((X.blk s H scope (compEnvC scope cl C X.env) fp).tr [] xe) tg g)
    (ht : ∀ (s : Shared) (H : Hp) (C : Addr) (cl : List (Str × Addr)) (fp : List Addr) (xe : Value → Shared → Prop), PTs ((X.blk s H scope (compEnvC scope cl C X.env) fp).tr [] xe) ifs tt)
    (he : ∀ (s : Shared) (H : Hp) (C : Addr) (cl : List (Str × Addr)) (fp : List Addr) (xe : Value → Shared → Prop), Passes (L2.CX X.prog X.w) ((X.blk s H scope (compEnvC scope cl C X.env) fp).tr [] xe) E → PE ((X.blk s H scope (compEnvC scope cl C X.env) fp).tr [] xe) elt te)
    (I : Inv X pins σ H s) (h : tLc wi g tt te (own.map (·.2)) σ H Q)
    (hRR : ∀ D C s' m H', Inv X pins σ H' s' → Q (.ref D) H' → s'.heap.Ns C m → FpOk X pins H' C → R (.ref D) C s') :
    ToBlk (model X.prog X.w) X.A X.xe X.env (.ListComp elt [⟨tg, iter, ifs, 0⟩] scope pos) scope (cloFrom X.env.cells scope.names []) (newList []) (eval iter X.env) R s := by
  refine thn (hi.run pins s σ H _ I h) fun v0 s1 a1 => thn a1 fun v1 s2 a2 => ?_
  clear h I s
  obtain ⟨it, fp, tn, J, H2, e1, I, T, t0, fF, q0⟩ := a2
  subst e1
  refine wpAny_newObj_type (newEnv_comp ⟨rfl, ?_⟩) (by show 0 ≤ sizeLine; decide)
  generalize hD : s2.heap.objs.size = D
  have nD : H2 D = none := I.hok.fresh (Nat.le_of_eq hD)
  obtain ⟨W, ⟨m0, w0⟩, go⟩ := q0 D nD
  generalize hs3 : ({ s2 with heap := s2.heap.push { cls := .type "list", data := .seq ([] : List Value).toArray } } : Shared) = s3
  have e3 : s3.heap = s2.heap.push { cls := .type "list", data := .seq ([] : List Value).toArray } := by rw [← hs3]
  have kp3 : ∀ b o, s2.heap.get? b = some o → s3.heap.get? b = some o := fun b o z => by rw [e3]; exact Heap.get?_push_of_some _ z
  have J3 : Inv X pins σ (upd H2 D (.lst [])) s3 := by
    subst hs3 hD
    exact I.laid (t' := s2.toks) (fun b o z => Heap.get?_push_of_some _ z) (Nat.le_refl _) ⟨Nat.zero_le _, [], 0, .nil, Heap.get?_push_size _ rfl⟩
  have old : ∀ b ∈ fp, b < s2.heap.objs.size := fun b hb => (T.obj _ _ t0 b hb).elim fun o z => Heap.lt_size z.1
  have F3 : ∀ b ∈ fp, FpOk X pins (upd H2 D (.lst [])) b ∧ b < s3.heap.objs.size := fun b hb => by
    have lt := old b hb
    have ne : b ≠ D := by rw [← hD]; exact Nat.ne_of_lt lt
    have z := fF b hb
    exact ⟨⟨by rw [upd_ne ne]; exact z.1, z.2⟩, by rw [e3, Heap.size_push]; exact Nat.lt_succ_of_lt lt⟩
  have t3 : tn 0 s3.heap := T.keep _ _ _ t0 fun b _ o z => kp3 b o z
  generalize upd H2 D (.lst []) = H3 at J3 F3 w0
  have J4 := block_start J3 ok hN F3
  generalize hcl : cellsFrom (s3.heap.objs.size + 1) scope.names (cloFrom X.env.cells scope.names []) = cl at J4 ⊢
  generalize hC : s3.heap.objs.size = C at J4 ⊢
  show codeAny _ _ (.compStart (.ListComp elt [⟨tg, iter, ifs, 0⟩] scope pos) 0 (.ref it) (.ref D) (compEnvC scope cl C X.env)) (BlkEnd (model X.prog X.w) X.A X.xe (R (.ref D) C) X.env C) _
  -- what is known of C
  have nC : H3 C = none := by rw [← hC]; exact J3.hok.fresh (Nat.le_refl _)
  have FC : FpOk X pins H3 C := J3.fpOk (Nat.le_of_eq hC) nC
  generalize hce : compEnvC scope cl C X.env = ce at J4 ⊢
  have cL : ce.locals = C := by subst hce; rfl
  have cF : ce.frame = X.env.frame := by subst hce; rfl
  have t4 : tn 0 ({ s3 with heap := pushCells (s3.heap.push { cls := .type "dict", data := .dict #[] }) scope.names } : Shared).heap := T.keep _ _ _ t3 fun b _ o z => pushCells_keeps _ _ _ _ (Heap.get?_push_of_some _ z)
  generalize ({ s3 with heap := pushCells (s3.heap.push { cls := .type "dict", data := .dict #[] }) scope.names } : Shared) = s4 at J4 t4 ⊢
  have fr : X.A.frames = some (X.env :: X.outer) := by rw [← hst]; exact J3.ok.frames
  have CF : C ∉ frs (X.env :: X.outer) := fun z => by
    obtain ⟨x, hx, ex⟩ := List.mem_filterMap.mp z
    rcases List.mem_cons.mp hx with rfl | hx
    · rw [hfe] at ex
      exact FC.2.1 (Option.some.inj ex).symm
    · exact FC.2.2.1 (List.mem_filterMap.mpr ⟨x, hx, ex⟩)
  obtain ⟨xb, hxb⟩ : ∃ xb : Value → Shared → Prop, xb = fun u s' => ∃ (oC : Obj) (es : _) (ep : _), oC.data = .dict es ep ∧ StrKeys es ∧ XE (X.tr ((C, oC) :: (X.pn ++ pins)) fun _ _ => False) (fun cls d _ H => E cls d H) u s' := ⟨_, rfl⟩
  have home : ∀ {pins' : List (Addr × Obj)} {σ' : L2.St} {H' : Hp} {s' : Shared}, Inv ((X.blk s3 H3 scope ce fp).tr [] xb) pins' σ' H' s' → Inv X pins σ H' s' := fun I' =>
    J3.call' (ch := fp) I'.os I'.base I'.hok I'.bare fun b hb => let z := (F3 b hb).1; ⟨z.2.2.2.1, z.2.1, z.2.2.2.2.1, z.2.2.2.2.2⟩
  have pas : Passes (L2.CX X.prog X.w) ((X.blk s3 H3 scope ce fp).tr [] xb) E := fun pins' σ' Hc sc u s' I' cx => by
    have I7 := home I'
    obtain ⟨m, ⟨oC, es, ep, g1, g2, g3, _⟩, _⟩ := I'.loc
    have g1 : sc.heap.get? ce.locals = some oC := g1
    have g5 : Hc ce.locals = none := I'.free
    rw [cL] at g1 g5
    show xb u s'
    rw [hxb]
    have I8 : Inv (X.tr ((C, oC) :: (X.pn ++ pins)) fun _ _ => False) [] σ Hc sc := ⟨I7.ok.toTry _ _, I7.os, I7.bare, I7.base, I7.loc, I7.cell, I7.free, I7.freeC, fun p hp => by
      rw [List.append_nil] at hp
      rcases List.mem_cons.mp hp with rfl | hp
      · exact ⟨g1, g5, FC.2.1, FC.2.2.1, fun v z => by rw [g2] at z; cases z⟩
      · exact I7.pin p hp, I7.hok, I7.len⟩
    exact ⟨oC, es, ep, g2, g3, XE.of_call (X := X.tr ((C, oC) :: (X.pn ++ pins)) fun _ _ => False) (E := E) I8 (fun _ _ _ z => z) cx⟩
  -- out of the block
  have fly : ∀ u s', xb u s' → notedBy (model X.prog X.w) X.A ce (fun e s' => BlkEnd (model X.prog X.w) X.A X.xe (R (.ref D) C) X.env C (.error e) s') u s' := fun u s' hx => by
    rw [hxb] at hx
    obtain ⟨oC, es, ep, d1, d2, a, B, sI, pins', σ', H', cls, d, rfl, IX, nb, up, sky, na, os, ag, hE⟩ := hx
    have pC := IX.pin (C, oC) (List.mem_append_left _ List.mem_cons_self)
    have I9 : Inv X pins σ' H' sI := ⟨J3.ok, IX.os, IX.bare, IX.base, IX.loc, IX.cell, IX.free, IX.freeC, fun p hp => IX.pin p (List.mem_append_left _ (List.mem_cons_of_mem _ hp)), IX.hok, IX.len⟩
    show wpAny (model X.prog X.w) X.A (noteFrame (.ref a) ce) _ _ _
    rw [noted_as cF]
    refine sky_note Zc.steady fr hfe (by rw [← hst]; exact sky) fun h1 held up1 => ?_
    have no : ∀ vs, oC.data ≠ .fields vs := fun vs z => by rw [d1] at z; cases z
    obtain ⟨sl, c1⟩ := (up.trans up1) C oC pC.1 no
    refine ⟨fun n => nsFind es n, ⟨_, es, ep, c1, d1, d2, fun _ => rfl⟩, fun h' sb c hcf => ?_⟩
    have kb : ∀ b, b ≠ C → h'.get? b = h1.get? b := fun b hb => sb.2 b hb
    obtain ⟨B', b1, b2⟩ := restrict B fun b => decide (b ≠ C)
    obtain ⟨G, g1, g2⟩ := restrict sI.heap fun b => decide (b ≠ C)
    have nB : ∀ b, B.get? b = none → B'.get? b = none := fun b hb => by
      by_cases z : b = C
      · exact b2 b (by simp [z])
      · rw [b1 b (by simp [z])]
        exact hb
    have inB : ∀ b o, B'.get? b = some o → b ≠ C ∧ B.get? b = some o := fun b o e => by
      by_cases z : b = C
      · rw [b2 b (by simp [z])] at e
        cases e
      · rw [b1 b (by simp [z])] at e
        exact ⟨z, e⟩
    have inG : ∀ b o, G.get? b = some o → b ≠ C ∧ sI.heap.get? b = some o := fun b o e => by
      by_cases z : b = C
      · rw [g2 b (by simp [z])] at e
        cases e
      · rw [g1 b (by simp [z])] at e
        exact ⟨z, e⟩
    obtain ⟨k1, k2, k3, oe, vs, Tb, oT, ts, f1, f2, f3, f4, f5, f6, f7, f8, f9⟩ := held
    have aC : a ≠ C := fun z => by
      rw [z, c1] at f1
      injection f1 with f1
      exact no vs (by rw [← f3, ← f1])
    have TC : Tb ≠ C := fun z => by
      rw [z, c1] at f7
      injection f7 with f7
      exact no ts (by rw [← f8, ← f7])
    have held' : HandSPX.HeldZ B' (X.env :: X.outer) a (Zc cls d) X.env.locals h' := ⟨fun b o e => by
      obtain ⟨z, e⟩ := inB b o e
      rw [kb b z]
      exact k1 b o e, nB _ k2, frames_but kb nB CF k3, oe, vs, Tb, oT, ts, by rw [kb a aC]; exact f1, f2, f3, f4, nB _ f5, f6, by rw [kb Tb TC]; exact f7, f8, f9⟩
    rw [passed_as hcf]
    unfold PySem.passOn
    refine wpAny_bind (wpAny_field (by show h'.get? a = some oe; rw [kb a aC]; exact f1) f3 f4 ?_)
    rw [if_neg (show ¬ (Value.ref Tb == Value.none) = true from nofun)]
    rw [hfe]
    refine wpAny_bind (HandSPX.setFlight_onZ held' fun h2 held2 up2 => wpAny_throw (tk _ _ ?_))
    refine ⟨a, B', { sI with heap := G }, pins, σ', H', cls, d, rfl, I9.turned (t' := sI.toks) (fun b o z e => by rw [g1 b (by simp [z])]; exact e) pC.2.1 FC.2.1 FC.2.2.2.1 FC.2.2.2.2.1 FC.2.2.2.2.2, fun b o e hb => ?_, fun b o e hn => ?_, ?_, na, os, ag, hE⟩
    · obtain ⟨z, e⟩ := inG b o e
      rw [b1 b (by simp [z])]
      exact nb b o e hb
    · obtain ⟨z, e⟩ := inG b o e
      obtain ⟨sl1, q1⟩ := (up.trans up1) b o e hn
      rw [← kb b z] at q1
      exact let ⟨sl2, q2⟩ := up2 b _ q1 hn; ⟨sl2, q2⟩
    · rw [hst]
      exact .inr (.inr held2)
  have pgY := hg s3 H3 C cl fp xb
  have ptY := ht s3 H3 C cl fp xb
  have peY := he s3 H3 C cl fp xb
  rw [hce] at pgY ptY peY
  have peY := peY pas
  have J4 : Inv ((X.blk s3 H3 scope ce fp).tr [] xb) [] (wipe σ (own.map (·.2))) H3 s4 := J4.toTry xb
  have nof : ∀ b ∈ fp, H3 b = none := fun b hb => (F3 b hb).1.1
  have stat : ∀ {σ' : L2.St} {H' : Hp} {s' : Shared}, Inv ((X.blk s3 H3 scope ce fp).tr [] xb) [] σ' H' s' → (∀ b ∈ fp, H' b = none) → ∀ b ∈ fp, FpOk ((X.blk s3 H3 scope ce fp).tr [] xb) [] H' b := fun I' hn b hb =>
    ⟨hn b hb, (I'.ok.exf b hb).1, I'.ok.exfs b hb, .inl hb, fun x c e => (I'.ok.exf b hb).2 x c e, fun p hp => nomatch hp⟩
  have run : codeAny (model X.prog X.w) X.A (.compLoop (.ListComp elt [⟨tg, iter, ifs, 0⟩] scope pos) 0 (.ref it) (.ref D) ce) (BlkEnd (model X.prog X.w) X.A X.xe (R (.ref D) C) X.env C) s4 := by
    refine compLoop_any (fun n sa => ∃ i Ha, Inv ((X.blk s3 H3 scope ce fp).tr [] xb) [] (wipe σ (own.map (·.2))) Ha sa ∧ tn i sa.heap ∧ (∀ b ∈ fp, Ha b = none) ∧ W i n Ha) (fun n sa hI => ?_) m0 ⟨0, H3, J4, t4, nof, w0⟩
    obtain ⟨i, Ha, Ia, ta, na, wa⟩ := hI
    rcases go i n Ha wa with ⟨stop, qq⟩ | ⟨on, Nx, hNx, step⟩
    · refine thnF (T.done ((X.blk s3 H3 scope ce fp).tr [] xb) rfl rfl rfl hc i [] sa _ Ha (fun _ _ => False) Ia (stat Ia na) ta stop) fun r sb ⟨hr, Ib⟩ => ?_
      subst hr
      obtain ⟨m, hn, _⟩ := Ib.loc
      have hn : sb.heap.Ns ce.locals m := hn
      have nb : Ha ce.locals = none := Ib.free
      rw [cL] at hn nb
      have z := J3.fpOk (H' := Ha) (Nat.le_of_eq hC) nb
      exact hRR D C sb m Ha (home Ib) qq hn z
    · refine thnF (T.item ((X.blk s3 H3 scope ce fp).tr [] xb) rfl rfl rfl hc i [] sa _ Ha (fun _ _ => False) Ia (stat Ia na) ta on) fun r sb ⟨u, hr, hb⟩ => ?_
      subst hr
      refine thnF hb fun _ sc ⟨x, Hc, Ic, rc, yc, tc, nc⟩ => ?_
      have Ic' := Ic.pinned (stat Ic nc) (T.obj _ _ tc)
      have fin : ∀ {σe : L2.St} {s' : Shared} {H' : Hp}, Inv ((X.blk s3 H3 scope ce fp).tr [] xb) ([] ++ pinsAt fp sc.heap) σe H' s' → wipe σe (own.map (·.2)) = wipe σ (own.map (·.2)) → Nx H' →
          ∃ m, m < n ∧ ∃ i Ha, Inv ((X.blk s3 H3 scope ce fp).tr [] xb) [] (wipe σ (own.map (·.2))) Ha s' ∧ tn i s'.heap ∧ (∀ b ∈ fp, Ha b = none) ∧ W i m Ha := fun {σe s' H'} I' ew nx => by
        obtain ⟨m', lm, w'⟩ := hNx H' nx
        have stay : ∀ b ∈ fp, ∀ o, sc.heap.get? b = some o → s'.heap.get? b = some o ∧ H' b = none := fun b hb o e =>
          let z := I'.pin (b, o) (List.mem_append_right _ (List.mem_append_right _ (mem_pinsAt hb e)))
          ⟨z.1, z.2.1⟩
        refine ⟨m', lm, i + 1, H', (I'.unpinned (pins := [])).weak (by rw [← ew, wipe_length]) (fun j v e => ?_), T.keep _ _ _ tc fun b hb o e => (stay b hb o e).1, fun b hb => ?_, w'⟩
        · rw [← ew] at e
          exact (wipe_some e).1
        · obtain ⟨o, e, _⟩ := T.obj _ _ tc b hb
          exact (stay b hb o e).2
      refine wpAny_mono (pgY.run _ sc _ Hc x u _ Ic' rc (step x Hc yc)) (fun _ sd ⟨σd, Hd, Id, ed, qd⟩ => ?_) fly
      refine wpAny_mono (ptY.run _ sd σd Hd _ Id qd) (fun b se ⟨He, Ie, qe⟩ => ?_) fly
      cases b with
      | false =>
        rw [if_neg Bool.false_ne_true] at qe
        rw [if_neg Bool.false_ne_true]
        exact fin Ie ed qe
      | true =>
        rw [if_pos rfl] at qe
        rw [if_pos rfl]
        refine wpAny_mono (peY.run _ se σd He _ Ie qe) (fun z sf ⟨yv, Hf, If, rf, acc, hDf, lf, nx⟩ => ?_) fly
        exact app_ok (X := (X.blk s3 H3 scope ce fp).tr [] xb) If hDf lf rf fun sg Ig => fin Ig ed nx
  exact codeAny_compStart_list run (T.self X.A 0 _ _ _ t4 run)
theorem pe_lcR {elt tg iter : Expr} {ifs : List Expr} {scope : Scope} {own : List (Str × Nat)} {pos : Pos} {wi : TI} {g : TG} {tt : TT} {te : TE} {E : XK} (hc : X.calm = true) (hst : X.stack = X.env :: X.outer) (hfe : X.env.frame = some X.env.locals) (tk : Takes X (fun cls d _ H => E cls d H)) (hN : X.N.Nodup)
    (hi : PI X tg iter wi) (ok : BlkOk X.N X.env.scope scope own)
    (hg : ∀ (s : Shared) (H : Hp) (C : Addr) (cl : List (Str × Addr)) (fp : List Addr) (xe : Value → Shared → Prop), PG ((X.blk s H scope (compEnvC scope cl C X.env) fp).tr [] xe) tg g)
    (ht : ∀ (s : Shared) (H : Hp) (C : Addr) (cl : List (Str × Addr)) (fp : List Addr) (xe : Value → Shared → Prop), PTs ((X.blk s H scope (compEnvC scope cl C X.env) fp).tr [] xe) ifs tt)
    (he : ∀ (s : Shared) (H : Hp) (C : Addr) (cl : List (Str × Addr)) (fp : List Addr) (xe : Value → Shared → Prop), Passes (L2.CX X.prog X.w) ((X.blk s H scope (compEnvC scope cl C X.env) fp).tr [] xe) E → PE ((X.blk s H scope (compEnvC scope cl C X.env) fp).tr [] xe) elt te)
    (hs : ∀ x, foldedSetIterable iter X.env x = pure x := by intro _; rfl) : PE X (.ListComp elt [⟨tg, iter, ifs, 0⟩] scope pos) (tLc wi g tt te (own.map (·.2))) := by
  refine ⟨fun pins s σ H Q I h => ?_⟩
  rw [eval_ListComp]
  have hf : ∀ y ∈ scope.names, y.2 = .free → ∃ c, X.env.cells.lookup y.1 = some c := fun y hy e => (ok.free y hy e).elim (fun k => I.ok.has _ (.inl k)) fun k => I.ok.has _ (.inr k)
  refine comp_raise rfl hs (closure_ok hf) ok.kind (fun y hy e => by rw [ok.uniq y hy, e]) (lcR_core hc hst hfe tk hN hi ok hg ht he I h fun D C s' m H' I' q hn f => ⟨m, hn, fun h2 sb => ?_⟩)
  exact ⟨.ref D, H', I'.turned (t' := s'.toks) (fun b o hb e => (sb.2 b hb).trans e) f.1 f.2.1 f.2.2.2.1 f.2.2.2.2.1 f.2.2.2.2.2, rfl, q⟩
/-- .. on one line with its name, a local -/
theorem ps_setLcR {i : Nat} {y : Str} {py : Pos} {elt tg iter : Expr} {ifs : List Expr} {scope : Scope} {own : List (Str × Nat)} {pos spos : Pos} {wi : TI} {g : TG} {tt : TT} {te : TE} {E : XK} (hy : X.N[i]? = some y) (hyl : X.env.scope.names.lookup y = some .local)
    (hsw : swapsWith (.ListComp elt [⟨tg, iter, ifs, 0⟩] scope pos) (some (.Name y py)) spos.line X.env = pure true) (hc : X.calm = true) (hst : X.stack = X.env :: X.outer) (hfe : X.env.frame = some X.env.locals) (tk : Takes X (fun cls d _ H => E cls d H)) (hN : X.N.Nodup)
    (hi : PI X tg iter wi) (ok : BlkOk X.N X.env.scope scope own)
    (hg : ∀ (s : Shared) (H : Hp) (C : Addr) (cl : List (Str × Addr)) (fp : List Addr) (xe : Value → Shared → Prop), PG ((X.blk s H scope (compEnvC scope cl C X.env) fp).tr [] xe) tg g)
    (ht : ∀ (s : Shared) (H : Hp) (C : Addr) (cl : List (Str × Addr)) (fp : List Addr) (xe : Value → Shared → Prop), PTs ((X.blk s H scope (compEnvC scope cl C X.env) fp).tr [] xe) ifs tt)
    (he : ∀ (s : Shared) (H : Hp) (C : Addr) (cl : List (Str × Addr)) (fp : List Addr) (xe : Value → Shared → Prop), Passes (L2.CX X.prog X.w) ((X.blk s H scope (compEnvC scope cl C X.env) fp).tr [] xe) E → PE ((X.blk s H scope (compEnvC scope cl C X.env) fp).tr [] xe) elt te)
    (hs : ∀ x, foldedSetIterable iter X.env x = pure x := by intro _; rfl) : PS X (.Assign [.Name y py] (.ListComp elt [⟨tg, iter, ifs, 0⟩] scope pos) spos) (tAsg (tLc wi g tt te (own.map (·.2))) (gName i)) := by
  refine ⟨fun pins s σ H D I h => ?_⟩
  rw [exec_Assign_Name_used _ _ _ _ hsw]
  refine wpAny_bind (wpAny_standAt (wpAny_bind ?_))
  have hf : ∀ y ∈ scope.names, y.2 = .free → ∃ c, X.env.cells.lookup y.1 = some c := fun y hy e => (ok.free y hy e).elim (fun k => I.ok.has _ (.inl k)) fun k => I.ok.has _ (.inr k)
  have h : tLc wi g tt te (own.map (·.2)) σ H (fun x H1 => gName i x σ H1 D.nx) := h
  refine wpAny_bind (thn (Q := fun _ s5 => SP X pins D .next s5) (comp_raiseU rfl hs (closure_ok hf) ok.kind (fun y hy e => by rw [ok.uniq y hy, e]) (lcR_core hc hst hfe tk hN hi ok hg ht he I h fun L C s' m H' I' q hn f => ?_)) fun _ s5 z => wpAny_pure (wpAny_pure z))
  refine wpAny_assign_Name (store_ok2 (v := V.ref L) I' hN hy (.inl hyl) rfl (fun s6 I6 ⟨a, sb, ha⟩ => ?_) (.inr hyl))
  have aC : C ≠ a := ha.elim (fun z => by rw [z]; exact f.2.1) fun z w => f.2.2.2.2.1 y a z w.symm
  refine ⟨m, hn.sameBut sb aC, fun h7 sc => ⟨_, H', I6.turned (t' := s6.toks) (fun b o hb e => (sc.2 b hb).trans e) f.1 f.2.1 f.2.2.2.1 f.2.2.2.2.1 f.2.2.2.2.2, q⟩⟩
end
end Sx
set_option Elab.async false
set_option linter.all false
set_option maxRecDepth 100000
set_option maxHeartbeats 4000000
namespace Cl
open PySem PySem.Spec L2 PyProof.Rows
/-- the lists of n of these; those of at most n, short ones first -/
def lvl {α : Type} (as : List α) : Nat → List (List α)
  | 0 => [[]]
  | n + 1 => (lvl as n).flatMap fun c => as.map fun p => c ++ [p]
def chs {α : Type} (as : List α) : Nat → List (List α)
  | 0 => [[]]
  | n + 1 => chs as n ++ lvl as (n + 1)
def cnt (m : Nat) : Nat → Nat
  | 0 => 1
  | n + 1 => cnt m n + m ^ (n + 1)
theorem paired_map2 {α β γ δ : Type} {F : α → β → Prop} {G : γ → δ → Prop} {f : α → γ} {g : β → δ} (h : ∀ a b, F a b → G (f a) (g b)) : ∀ {xs : List α} {ys : List β}, Paired F xs ys → Paired G (xs.map f) (ys.map g)
  | _, _, .nil => .nil
  | _, _, .cons r t => .cons (h _ _ r) (paired_map2 h t)
theorem paired_flat {α β γ δ : Type} {F : α → β → Prop} {G : γ → δ → Prop} {f : α → List γ} {g : β → List δ} (h : ∀ a b, F a b → Paired G (f a) (g b)) : ∀ {xs : List α} {ys : List β}, Paired F xs ys → Paired G (xs.flatMap f) (ys.flatMap g)
  | _, _, .nil => .nil
  | _, _, .cons r t => by
    rw [List.flatMap_cons, List.flatMap_cons]
    exact Sx.paired_app (h _ _ r) (paired_flat h t)
theorem lvl_paired {α β : Type} {F : α → β → Prop} {xs : List α} {ys : List β} (h : Paired F xs ys) : ∀ n, Paired (Paired F) (lvl xs n) (lvl ys n)
  | 0 => .cons .nil .nil
  | n + 1 => paired_flat (F := Paired F) (f := fun c => xs.map fun p => c ++ [p]) (g := fun c => ys.map fun p => c ++ [p]) (fun c d r => paired_map2 (F := F) (G := Paired F) (f := fun p => c ++ [p]) (g := fun p => d ++ [p]) (fun _ _ q => Sx.paired_snoc r q) h) (lvl_paired h n)
theorem chs_paired {α β : Type} {F : α → β → Prop} {xs : List α} {ys : List β} (h : Paired F xs ys) : ∀ n, Paired (Paired F) (chs xs n) (chs ys n)
  | 0 => .cons .nil .nil
  | n + 1 => Sx.paired_app (chs_paired h n) (lvl_paired h (n + 1))
theorem flat_const {α β : Type} {f : α → List β} {k : Nat} (h : ∀ a, (f a).length = k) : ∀ l : List α, (l.flatMap f).length = l.length * k
  | [] => by simp
  | a :: r => by rw [List.flatMap_cons, List.length_append, h, flat_const h r, List.length_cons, Nat.succ_mul, Nat.add_comm]
theorem lvl_length {α : Type} (as : List α) : ∀ n, (lvl as n).length = as.length ^ n
  | 0 => rfl
  | n + 1 => by
    show ((lvl as n).flatMap fun c => as.map fun p => c ++ [p]).length = _
    rw [flat_const (k := as.length) (fun a => List.length_map ..), lvl_length as n, Nat.pow_succ]
theorem chs_length {α : Type} (as : List α) : ∀ n, (chs as n).length = cnt as.length n
  | 0 => rfl
  | n + 1 => by
    show (chs as n ++ lvl as (n + 1)).length = cnt as.length n + _
    rw [List.length_append, chs_length as n, lvl_length]
theorem lvl_in {α : Type} {as : List α} : ∀ {n : Nat} {c : List α}, c ∈ lvl as n → c.length = n ∧ ∀ x ∈ c, x ∈ as
  | 0, c, h => by
    rw [List.mem_singleton.mp h]
    exact ⟨rfl, fun x hx => nomatch hx⟩
  | n + 1, c, h => by
    obtain ⟨d, hd, h2⟩ := List.mem_flatMap.mp h
    obtain ⟨p, hp, rfl⟩ := List.mem_map.mp h2
    obtain ⟨l1, l2⟩ := lvl_in hd
    refine ⟨by rw [List.length_append, l1]; rfl, fun x hx => ?_⟩
    rcases List.mem_append.mp hx with hx | hx
    · exact l2 x hx
    · rw [List.mem_singleton.mp hx]
      exact hp
theorem chs_in {α : Type} {as : List α} : ∀ {n : Nat} {c : List α}, c ∈ chs as n → c.length ≤ n ∧ ∀ x ∈ c, x ∈ as
  | 0, c, h => by
    rw [List.mem_singleton.mp h]
    exact ⟨Nat.le_refl 0, fun x hx => nomatch hx⟩
  | n + 1, c, h => by
    rcases List.mem_append.mp h with h | h
    · have z := chs_in h
      exact ⟨Nat.le_succ_of_le z.1, z.2⟩
    · have z := lvl_in h
      exact ⟨Nat.le_of_eq z.1, z.2⟩
theorem lvl_map {α β : Type} (f : α → β) (as : List α) : ∀ n, lvl (as.map f) n = (lvl as n).map (List.map f)
  | 0 => rfl
  | n + 1 => by
    show (lvl (as.map f) n).flatMap _ = ((lvl as n).flatMap _).map _
    rw [lvl_map f as n, List.flatMap_map, List.map_flatMap]
    congr 1
    funext c
    rw [List.map_map, List.map_map]
    congr 1
    funext p
    simp
theorem chs_map {α β : Type} (f : α → β) (as : List α) : ∀ n, chs (as.map f) n = (chs as n).map (List.map f)
  | 0 => rfl
  | n + 1 => by
    show chs (as.map f) n ++ lvl (as.map f) (n + 1) = (chs as n ++ lvl as (n + 1)).map _
    rw [chs_map f as n, lvl_map, List.map_append]
theorem snoc_inj {α : Type} {c d : List α} {p q : α} (h : c ++ [p] = d ++ [q]) : c = d ∧ p = q := by
  have := List.append_inj' h rfl
  exact ⟨this.1, by injection this.2⟩
theorem lvl_nodup {α : Type} {as : List α} (h : as.Nodup) : ∀ n, (lvl as n).Nodup
  | 0 => by simp [lvl]
  | n + 1 => by
    refine List.pairwise_flatMap.mpr ⟨fun c _ => ?_, (lvl_nodup h n).imp fun {c d} ne x hx y hy e => ?_⟩
    · refine List.pairwise_map.mpr (List.Pairwise.imp (fun {p q} ne e => ?_) h)
      exact ne (snoc_inj e).2
    · obtain ⟨p, _, rfl⟩ := List.mem_map.mp hx
      obtain ⟨q, _, rfl⟩ := List.mem_map.mp hy
      exact ne (snoc_inj e).1
theorem chs_nodup {α : Type} {as : List α} (h : as.Nodup) : ∀ n, (chs as n).Nodup
  | 0 => by simp [chs]
  | n + 1 => by
    refine List.nodup_append.mpr ⟨chs_nodup h n, lvl_nodup h (n + 1), fun x hx y hy e => ?_⟩
    subst e
    have a := (chs_in hx).1
    have b := (lvl_in hy).1
    omega
def rT (ts : List (List Nat)) : List Nat := if ts.length = 0 then cKeep else TL.joinL cSemi ts
theorem textR_rT (ds : List StD) : textR ds = rT (ds.map textD) := by
  unfold textR rT
  rw [List.length_map]
theorem rT_inj {ts us : List (List Nat)} (ht : ∀ p ∈ ts, 59 ∉ p ∧ p ≠ cKeep) (hu : ∀ p ∈ us, 59 ∉ p ∧ p ≠ cKeep) (e : rT ts = rT us) : ts = us := by
  have sp : ∀ {ts : List (List Nat)}, (∀ p ∈ ts, 59 ∉ p ∧ p ≠ cKeep) → ts ≠ [] → TL.spl cSemi 0 [] (TL.joinL cSemi ts) = ts := fun h n => TL.spl_join (s := 59) (S := [32]) n fun p hp => (h p hp).1
  have k1 : TL.spl cSemi 0 [] cKeep = [cKeep] := by decide
  have key : ∀ {us : List (List Nat)}, (∀ p ∈ us, 59 ∉ p ∧ p ≠ cKeep) → us ≠ [] → cKeep ≠ TL.joinL cSemi us := fun h n e => by
    have z := sp h n
    rw [← e, k1] at z
    exact (h cKeep (by rw [← z]; exact List.mem_singleton.mpr rfl)).2 rfl
  unfold rT at e
  by_cases h1 : ts.length = 0
  · by_cases h2 : us.length = 0
    · rw [List.length_eq_zero_iff.mp h1, List.length_eq_zero_iff.mp h2]
    · rw [if_pos h1, if_neg h2] at e
      exact absurd e (key hu fun z => h2 (by rw [z]; rfl))
  · by_cases h2 : us.length = 0
    · rw [if_neg h1, if_pos h2] at e
      exact absurd e.symm (key ht fun z => h1 (by rw [z]; rfl))
    · rw [if_neg h1, if_neg h2] at e
      rw [← sp ht fun z => h1 (by rw [z]; rfl), e, sp hu fun z => h2 (by rw [z]; rfl)]
/-! an accepted form has no semicolon -/
theorem set_no {l v n : List Nat} {k : Nat} (hL : Lets l k) (h : (setOf l v n).isSome = true) : 59 ∉ n := fun hc => by
  cases e : namedSet l v n with
  | some m =>
    unfold namedSet at e
    by_cases h1 : cAll = n
    · rw [← h1] at hc; exact absurd hc (by decide)
    by_cases h2 : cLetters = n
    · rw [← h2] at hc; exact absurd hc (by decide)
    by_cases h3 : cVowels = n
    · rw [← h3] at hc; exact absurd hc (by decide)
    by_cases h4 : cCons = n
    · rw [← h4] at hc; exact absurd hc (by decide)
    by_cases h5 : cJoints = n
    · rw [← h5] at hc; exact absurd hc (by decide)
    rw [if_neg h1, if_neg h2, if_neg h3, if_neg h4, if_neg h5] at e
    cases e
  | none =>
    rw [named_none e] at h
    by_cases hq : n = 91 :: (inner n ++ [93]) ∧ isList l (inner n) = true
    · obtain ⟨e1, e2⟩ := hq
      rw [e1] at hc
      rcases List.mem_cons.mp hc with z | hc
      · exact absurd z (by decide)
      rcases List.mem_append.mp hc with hc | z
      · unfold isList at e2
        rw [Bool.and_eq_true, Bool.and_eq_true, List.all_eq_true] at e2
        have z := of_decide_eq_true (e2.1.2 59 hc)
        rcases List.mem_cons.mp z with z | z
        · exact absurd z (by decide)
        · have := hL.az 59 z
          omega
      · exact absurd (List.mem_singleton.mp z) (by decide)
    · rw [if_neg hq] at h
      exact absurd h (by decide)
theorem sg_no {l t : List Nat} {k : Nat} (hL : Lets l k) (h : isSg l t = true) : 59 ∉ t := fun hc => by
  match t, h with
  | [c], h =>
    have z := of_decide_eq_true (show decide (c ∈ 45 :: l) = true from h)
    rw [← List.mem_singleton.mp hc] at z
    rcases List.mem_cons.mp z with z | z
    · exact absurd z (by decide)
    · have := hL.az 59 z
      omega
theorem dSet_none {l v n : List Nat} (h : dSet l v n = none) : (setOf l v n).isSome = true := by
  unfold dSet at h
  by_cases q : (setOf l v n).isSome = true
  · exact q
  · rw [if_neg q] at h
    cases h
theorem dSign_none {l t : List Nat} (h : dSign l t = none) : isSg l t = true := by
  unfold dSign at h
  by_cases q : isSg l t = true
  · exact q
  · rw [if_neg q] at h
    cases h
theorem what_words {l v : List Nat} {k : Nat} (hL : Lets l k) : ∀ {ws : List (List Nat)}, whatW l v ws = none → 2 ≤ ws.length ∧ ∀ w ∈ ws, 59 ∉ w
  | [], h => by cases h
  | verb :: parts, h => by
    rw [whatW_cons] at h
    by_cases h1 : verb = cDrop
    · rw [if_pos h1] at h
      match parts, h with
      | n :: r, h =>
        have h : whatDrop l v n r = none := h
        unfold whatDrop at h
        by_cases q : (step2 (step1 r).2).2 = [] ∨ (step2 (step1 r).2).2 = [wBut, wLast]
        · rw [if_pos q] at h
          obtain ⟨m, e1, e2⟩ := dDrop_none h
          obtain ⟨a3, ea⟩ := step1_words e2
          have eb := step2_words (step1 r).2
          refine ⟨by rw [List.length_cons, List.length_cons]; omega, fun w hw hc => ?_⟩
          rcases List.mem_cons.mp hw with rfl | hw
          · rw [h1] at hc; exact absurd hc (by decide)
          rcases List.mem_cons.mp hw with rfl | hw
          · exact set_no hL (some_isSome e1) hc
          rw [ea] at hw
          rcases List.mem_append.mp hw with hw | hw
          · generalize (step1 r).1.toNat = j at a3 hw
            have hj : ∀ j, j ≤ 3 → ∀ w ∈ aftW j, 59 ∉ w := by decide
            exact hj j a3 w hw hc
          rw [eb] at hw
          rcases List.mem_append.mp hw with hw | hw
          · generalize (step2 (step1 r).2).1 = e at hw
            have he : ∀ e : Bool, ∀ w ∈ eachW e, 59 ∉ w := by decide
            exact he e w hw hc
          · rcases q with q | q
            · rw [q] at hw; cases hw
            · rw [q] at hw
              have hb : ∀ w ∈ [wBut, wLast], 59 ∉ w := by decide
              exact hb w hw hc
        · rw [if_neg q] at h
          cases h
    rw [if_neg h1] at h
    by_cases h2 : verb = kWrite
    · rw [if_pos h2] at h
      match parts, h with
      | [], h => cases h
      | [_], h => cases h
      | [_, _], h => cases h
      | _ :: _ :: _ :: _ :: _, h => cases h
      | [s, f, n], h =>
        have h : (if f = wFor then dWrite l v s n else some cText) = none := h
        by_cases q : f = wFor
        · rw [if_pos q] at h
          unfold dWrite at h
          by_cases q2 : isSg l s = true
          · rw [if_pos q2] at h
            refine ⟨(by show 2 ≤ 4; decide), fun w hw hc => ?_⟩
            simp only [List.mem_cons, List.not_mem_nil, or_false] at hw
            rcases hw with rfl | rfl | rfl | rfl
            · rw [h2] at hc; exact absurd hc (by decide)
            · exact sg_no hL q2 hc
            · rw [q] at hc; exact absurd hc (by decide)
            · exact set_no hL (dSet_none h) hc
          · rw [if_neg q2] at h
            cases h
        · rw [if_neg q] at h
          cases h
    rw [if_neg h2] at h
    by_cases h3 : verb = kOnce
    · rw [if_pos h3] at h
      match parts, h with
      | [], h => cases h
      | _ :: _ :: _, h => cases h
      | [n], h =>
        refine ⟨(by show 2 ≤ 2; decide), fun w hw hc => ?_⟩
        simp only [List.mem_cons, List.not_mem_nil, or_false] at hw
        rcases hw with rfl | rfl
        · rw [h3] at hc; exact absurd hc (by decide)
        · exact set_no hL (dSet_none h) hc
    rw [if_neg h3] at h
    by_cases h4 : verb = kAdd
    · rw [if_pos h4] at h
      match parts, h with
      | [], h => cases h
      | _ :: _ :: _, h => cases h
      | [n], h =>
        refine ⟨(by show 2 ≤ 2; decide), fun w hw hc => ?_⟩
        simp only [List.mem_cons, List.not_mem_nil, or_false] at hw
        rcases hw with rfl | rfl
        · rw [h4] at hc; exact absurd hc (by decide)
        · exact sg_no hL (dSign_none h) hc
    rw [if_neg h4] at h
    cases h
theorem what_text {l v t : List Nat} {k : Nat} (hL : Lets l k) (h : whatW l v (wordsT t) = none) : 59 ∉ t ∧ t ≠ cKeep := by
  obtain ⟨h1, h2⟩ := what_words hL h
  have e := wordsT_join t
  generalize wordsT t = ws at h1 h2 e
  refine ⟨fun hc => ?_, fun z => ?_⟩
  · rw [← e] at hc
    exact joinL_chars (P := fun c => c ≠ 59) (fun c hc => by rw [List.mem_singleton.mp hc]; decide) (fun y hy c hc z => h2 y hy (by rw [← z]; exact hc)) 59 hc rfl
  · match ws, h1, e with
    | a :: b :: r, _, e =>
      rw [joinL_cons2 _ _ (List.cons_ne_nil _ _), z] at e
      have m : 32 ∈ cKeep := by
        rw [← e]
        exact List.mem_append_right _ (List.mem_append_left _ (List.mem_singleton.mpr rfl))
      exact absurd m (by decide)
theorem chs_texts {ts : List (List Nat)} {Ds : List StD} (e0 : Ds.map textD = ts) (g : ∀ t ∈ ts, 59 ∉ t ∧ t ≠ cKeep) (nd : ts.Nodup) (n : Nat) : ((chs Ds n).map textR).Nodup := by
  have e : (chs Ds n).map textR = (chs ts n).map rT := by
    rw [← e0, chs_map, List.map_map]
    congr 1
    funext c
    exact textR_rT c
  rw [e]
  refine List.pairwise_map.mpr (List.Pairwise.imp_of_mem (fun {a b} ha hb ne e => ne ?_) (chs_nodup nd n))
  exact rT_inj (fun p hp => g p ((chs_in ha).2 p hp)) (fun p hp => g p ((chs_in hb).2 p hp)) e
end Cl
set_option Elab.async false
set_option linter.all false
set_option maxRecDepth 100000
set_option maxHeartbeats 8000000
namespace Cl
open PySem PySem.Spec L2 PyProof.Rows
/-- the first rule, from 1, that has other vowels or an earlier one's text -/
def badL (v0 : List Nat) : Nat → List (List Nat) → List (List Nat × List Nat) → Option Nat
  | _, _, [] => none
  | i, seen, (v, t) :: r => if v = v0 ∧ t ∉ seen then badL v0 (i + 1) (seen ++ [t]) r else some (i + 1)
def badLot : List (List Nat × List Nat) → Option Nat
  | [] => some 0
  | (v, t) :: r => badL v 0 [] ((v, t) :: r)
def vT (rs : List (List Nat × List StD)) : List (List Nat × List Nat) := rs.map fun r => (r.1, textR r.2)
structure LCls (K : PySem.W.Frag) (LC : Addr) : Prop where
  cl : Cls K LC
  nA : NoAttr K LC "alphabet"
  nR : NoAttr K LC "rules"
def spLotX (C RC LC BL : Addr) (Wc : Kd → Addr) : Sp := fun vs H Q E => ∃ (a dx L : Addr) (l : List Nat) (as : List Addr) (rs : List (List Nat × List StD)), vs = [.ref a, .ref L] ∧ H a = some (.ins LC dx []) ∧ Lets l 8 ∧ (∀ r ∈ rs, r.1.Sublist l) ∧ H L = some (.lst (as.map V.ref)) ∧
  Paired (fun x r => RuleAt C RC Wc H x l r.1 r.2) as rs ∧ rs.length ≤ 300 ∧ (∀ r ∈ rs, r.2.length ≤ 4 ∧ ∀ d ∈ r.2, OkD d) ∧ (badLot (vT rs) = none → ∀ H', Kp a H H' → Q .non H') ∧
  ∀ n, badLot (vT rs) = some n → ∀ d H', Same H H' → H' d = some (.xd [("number", .int (n : Nat))]) → E (.ref BL) (some d) H'
def spHowMany : Sp := fun vs H Q _ => ∃ m d : Nat, vs = [.int (m : Nat), .int (d : Nat)] ∧ m ≤ 1000 ∧ d ≤ 3 ∧ Q (.int (cnt m d : Nat)) H
def spChoices : Sp := fun vs H Q _ => ∃ (P : Addr) (d : Nat) (ps : List Addr), vs = [.ref P, .int (d : Nat)] ∧ H P = some (.lst (ps.map V.ref)) ∧ d ≤ 3 ∧ cnt ps.length d ≤ 300 ∧
  ∀ (R : Addr) (cs : List Addr) H', Same H H' → H' R = some (.lst (cs.map V.ref)) → Paired (Sx.RowR H') cs (chs ps d) → Q (.ref R) H'
theorem u1 {n c : Nat} (h : n + 64 < c) : n + 1 < c := by omega
theorem nd_new {α β : Type} {f : α → β} : ∀ {l : List α} {i : Nat} {x : α}, (l.map f).Nodup → l[i]? = some x → f x ∉ (l.take i).map f
  | [], _, _, _, h, _ => by simp at h
  | y :: r, 0, x, _, _, m => by simp at m
  | y :: r, i + 1, x, nd, h, m => by
    have nd2 : f y ∉ r.map f ∧ (r.map f).Nodup := List.nodup_cons.mp nd
    have h2 : r[i]? = some x := by simpa using h
    rw [List.take_succ_cons, List.map_cons] at m
    rcases List.mem_cons.mp m with e | m
    · exact nd2.1 (by rw [← e]; exact List.mem_map.mpr ⟨x, List.mem_of_getElem? h2, rfl⟩)
    · exact nd_new nd2.2 h2 m
theorem ruleAt_kp {C RC D : Addr} {Wc : Kd → Addr} {H H' : Hp} {a x dx : Addr} {l v : List Nat} {ds : List StD} (h : RuleAt C RC Wc H x l v ds) (k : Kp a H H') (hA : H a = some (.ins D dx [])) : RuleAt C RC Wc H' x l v ds := by
  obtain ⟨dx1, q, st, as, h1, ⟨dq, h2⟩, h3, h4⟩ := h
  refine ⟨dx1, q, st, as, k _ _ (ne_of h1 hA fun z => ?_) h1, ⟨dq, k _ _ (ne_of h2 hA fun z => ?_) h2⟩, k _ _ (ne_of h3 hA fun z => nomatch z) h3, p_mono (fun ai d hh => ?_) h4⟩
  · injection z with _ _ z3
    cases z3
  · injection z with _ _ z3
    cases z3
  · obtain ⟨dxi, hi', dqi, hqi⟩ := hh
    have nm := (StD.no_m d).2.2.2.2
    refine ⟨dxi, k _ _ (ne_of hi' hA fun z => ?_) hi', dqi, k _ _ (ne_of hqi hA fun z => ?_) hqi⟩
    · injection z with _ _ z3
      rw [z3] at nm
      cases nm
    · injection z with _ _ z3
      cases z3
/-- a key of the texts told so far -/
def keyT (t : List Nat) : Key := .inr (S t)
theorem keyT_inj {t u : List Nat} (h : keyT t = keyT u) : t = u := by
  injection h with h
  exact S_inj h
theorem cnt_mono {m : Nat} : ∀ {d e : Nat}, d ≤ e → cnt m d ≤ cnt m e := by
  intro d e h
  induction h with
  | refl => exact Nat.le_refl _
  | step _ ih =>
    show _ ≤ cnt m _ + _
    omega
theorem lvl_le_cnt {m : Nat} : ∀ d : Nat, m ^ d ≤ cnt m d
  | 0 => Nat.le_refl 1
  | d + 1 => Nat.le_add_left _ _
end Cl
namespace Cl.K54
open PySem PySem.Spec L2 PyProof.Rows
abbrev sLotI : Stmt := inClass (top 35) 1
abbrev sLotLen : Stmt := inClass (top 35) 3
abbrev sLotTexts : Stmt := inClass (top 35) 4
abbrev sHowMany : Stmt := top 36
abbrev sChoices : Stmt := top 37
theorem scLotI : FnScope ["self", "rules", "texts", "number", "rule"] ["self", "rules"] (defScope sLotI) := ⟨rfl, rfl, rfl, by decide +kernel, rfl, by decide +kernel, by decide +kernel⟩
theorem scLotLen : FnScope ["self"] ["self"] (defScope sLotLen) := ⟨rfl, rfl, rfl, by decide +kernel, rfl, by decide +kernel, by decide +kernel⟩
theorem scLotTexts : FnScope ["self", "rule"] ["self"] (defScope sLotTexts) := ⟨rfl, rfl, rfl, by decide +kernel, rfl, by decide +kernel, by decide +kernel⟩
theorem scHowMany : FnScope ["pieces", "depth", "total", "power", "_"] ["pieces", "depth"] (defScope sHowMany) := ⟨rfl, rfl, rfl, by decide +kernel, rfl, by decide +kernel, by decide +kernel⟩
abbrev nChoices : List Str := ["pieces", "depth", "longest", "choices", "_", "chosen", "piece"]
theorem scChoices : FnScope nChoices ["pieces", "depth"] (defScope sChoices) := ⟨rfl, rfl, rfl, by decide +kernel, rfl, by decide +kernel, by decide +kernel⟩
section
variable {P : Program} {w : World} {K : PySem.W.Frag} {mg : Str → Option Value} {base : Heap} {C RC LC BL : Addr} {Wc : Kd → Addr}
theorem ok_lotX {f fC fE fT fX : Addr} {fd fdC fdE fdT fdX : FuncData} (F : Fun K "__init__" "Lot.__init__" sLotI f fd) (ZL : LCls K LC) (ZR : RCls K RC) (GC : FnOk P w K mg base CX0 5 fC fdC ["alphabet"] (spCopy C)) (bC : Binds K fdC ["alphabet"] []) (gC : mg "copy_of" = some (.ref fC)) (kC : PySem.W.keepIn K (.ref fC) = true)
    (GE : FnOk P w K mg base CX0 1 fE fdE ["self", "other"] (spEqA C)) (bE : Binds K fdE ["self", "other"] []) (sE : PySem.W.findIn K (.ref C) "__eq__" = some (some (.ref fE))) (iE : PySem.W.isFn K (.ref fE) = true)
    (nE : PySem.W.findIn K (.ref C) "__ne__" = some (some (.builtin "object.__ne__"))) (mE : PySem.W.mroIn K C (.type "object") = some true)
    (GT : FnOk P w K mg base CX0 3 fT fdT ["self"] (spRText C RC Wc)) (bT : Binds K fdT ["self"] []) (mT : Meth K RC "text" fT) (XB : RaiseX P w K mg base "BadLot" ["self", "number"] (spX1 BL "number") BL fX fdX) (hn : mg "len" = none) (hE : mg "enumerate" = none) (hl : mg "list" = none) :
    FnOk P w K mg base (L2.CX P w) 6 f fd ["self", "rules"] (spLotX C RC LC BL Wc) := by
  refine F.okX scLotI (fun vs H Q E h => ?_) (fun cdv A outer s H vs Q E hr h => ?_)
  · obtain ⟨a, dx, L, l, as, rs, rfl, _⟩ := h
    rfl
  · obtain ⟨a, dx, L, l, as, rs, rfl, hA, hL, hv, hLs, pr, n3, gr, kS, kE⟩ := h
    have hr5 : Room 5 _ := hr
    have hr3 : Room 3 _ := hr.mono (by decide)
    have hr2 : Room (1 + 1) _ := hr.mono (by decide)
    have hu := u1 hr.units
    refine ⟨_, pss_cons (ps_if (pt_cmpR op_eq (pe_callB call_len_seq (by rfl) hn PySem.boot_len (pa_cons (pv 1) pa_nil)) pe_int (nomark _)) (pss_one (ps_raise (W := fun cls d _ H => E cls d H) rfl (takes_of rfl rfl rfl rfl) (pmk_oex XB.T XB.iC XB.tI XB.ok hr2 XB.bd .nil pass0 rfl XB.gl (pa_cons pe_int pa_nil)))) pss_nil)
      (pss_cons (ps_set (i := 2) scLotI.nd rfl (.inl rfl) pe_dnewK)
      (pss_cons (ps_for (passes_of rfl) rfl (Sx.pi_enumK rfl hE (pa_cons (pv 1) pa_nil) (pk_cons pe_int pk_nil)) (pg_tup rfl (pgs_cons (pg_name (i := 3) scLotI.nd rfl (.inl rfl)) (pgs_cons (pg_name (i := 4) scLotI.nd rfl (.inl rfl)) pgs_nil)))
        (pss_cons (ps_if (PW.pt (pw_or (pt_cmpR (op_neI GE hr2 sE iE nE mE bE pass0) (pe_fld (pv 4) rfl) (pe_fld (pe_ix ix_list (pv 1) pe_int (fun _ _ => rfl)) rfl) (nomark _)) (pw_or1 (pt_cmp (pc_din hu (pe_meth0 (pv 4) ZR.cl mT GT hr3 bT .nil pass0) (pv 2)))))) (pss_one (ps_raise (W := fun cls d _ H => E cls d H) rfl (takes_of rfl rfl rfl rfl) (pmk_oex XB.T XB.iC XB.tI XB.ok hr2 XB.bd .nil pass0 rfl XB.gl (pa_cons (pv 3) pa_nil)))) pss_nil)
        (pss_one (ps_dput hu (pv 2) (pe_meth0 (pv 4) ZR.cl mT GT hr3 bT .nil pass0) pe_bl rfl))))
      (pss_cons (ps_fld (pv 0) (pe_call GC hr5 rfl gC kC bC .nil pass0 (pa_cons (pe_fld (pe_ix ix_list (pv 1) pe_int (fun _ _ => rfl)) rfl) pa_nil)) rfl)
      (pss_one (ps_fld (pv 0) (pe_callTy call_list_of (by rfl) hl (by decide +kernel) (pa_cons (pv 1) pa_nil)) rfl))))), ?_⟩
    have la : as.length = rs.length := pr.length
    have lm : (as.map V.ref).length = rs.length := by rw [List.length_map, la]
    refine ⟨_, rfl, L, _, rfl, .inl (SqL.of hLs), rfl, _, rfl, ?_⟩
    by_cases n0 : rs.length = 0
    · rw [decide_eq_true (by rw [lm, n0]; rfl)]
      refine iteT ?_
      have e0 : rs = [] := List.length_eq_zero_iff.mp n0
      exact raise1 (okA_int (by decide)) fun d H' s h => kE 0 (by rw [e0]; rfl) d H' s h
    rw [decide_eq_false (by rw [lm]; intro z; injection z with z; omega)]
    refine iteF ?_
    intro T hT
    have s1 : Same H (upd H T (.dK [])) := same_new hT
    have hT1 : (upd H T (.dK [])) T = some (.dK []) := upd_same
    show Ends.nx _ _ _
    generalize upd H T (.dK []) = H1 at s1 hT1 ⊢
    obtain ⟨a0, ea0⟩ : ∃ x, as[0]? = some x := ⟨_, List.getElem?_eq_getElem (by omega)⟩
    obtain ⟨r0, er0, dx0, q0, st0, as0, h0, al0, _⟩ := p_get pr ea0
    have eb : badLot (vT rs) = badL r0.1 0 [] (vT rs) := by
      match rs, er0 with
      | r :: rr, e =>
        injection e with e
        subst e
        rfl
    have at0 : atI (as.map V.ref) 0 = some (.ref a0) := atI_pos (by decide) (by rw [List.getElem?_map]; show Option.map _ as[0]? = _; rw [ea0]; rfl)
    refine ⟨_, rfl, L, _, 1, rfl, rfl, SqL.of (s1 _ _ hLs), by decide, by decide, ?_⟩
    refine for_it Sx.walk_enumK (fun i σ H' => ∃ (kvs : List (Key × V)) (v3 v4 : Option V), σ = [some (.ref a), some (.ref L), some (.ref T), v3, v4] ∧ H' T = some (.dK kvs) ∧ kvs.length ≤ i ∧ (∀ t, (valV kvs (keyT t)).isSome = true ↔ t ∈ (rs.take i).map fun r => textR r.2) ∧ Same H H' ∧ badLot (vT rs) = badL r0.1 i ((rs.take i).map fun r => textR r.2) (vT (rs.drop i)))
      ⟨[], none, none, rfl, hT1, Nat.zero_le _, (fun t => ⟨fun h => (nomatch h), fun h => (nomatch h)⟩), s1, eb⟩ (fun i σ H' _ ⟨_, _, _, _, _, _, _, s, _⟩ => SqL.of (s _ _ hLs)) ?_ ?_
    · rintro i x σ H3 H4 hi ⟨kvs, v3, v4, rfl, hT3, kl, kv, s3, e3⟩ ⟨T2, y, rfl, hT2', rfl, ey⟩
      obtain ⟨ai, eai, rfl⟩ := ref_at ey
      obtain ⟨⟨vi, ds⟩, er, hR⟩ := p_get pr eai
      have hR : RuleAt C RC Wc H ai l vi ds := hR
      have gd := gr _ (List.mem_of_getElem? er)
      have il := lt_of_get er
      have ed : rs.drop i = (vi, ds) :: rs.drop (i + 1) := by
        rw [List.drop_eq_getElem_cons il]
        rw [List.getElem?_eq_getElem il] at er
        injection er with er
        rw [er]
      rw [ed] at e3
      have e3 : badLot (vT rs) = if vi = r0.1 ∧ textR ds ∉ ((rs.take i).map fun r => textR r.2) then badL r0.1 (i + 1) (((rs.take i).map fun r => textR r.2) ++ [textR ds]) (vT (rs.drop (i + 1))) else some (i + 1) := e3
      have s4 : Same H (upd H3 T2 (.tup [.int (1 + (i : Int)), .ref ai])) := s3.trans (same_new hT2')
      have hT4 : (upd H3 T2 (.tup [.int (1 + (i : Int)), .ref ai])) T = some (.dK kvs) := same_new hT2' _ _ hT3
      refine ⟨T2, _, rfl, SqT.of upd_same, rfl, _, _, rfl, _, _, rfl, rfl, ?_⟩
      generalize upd H3 T2 (.tup [.int (1 + (i : Int)), .ref ai]) = H4 at s4 hT4 ⊢
      have hR4 := hR.same s4
      obtain ⟨dxi, qi, sti, asi, hai, ⟨dqi, hqi⟩, _⟩ := id hR4
      obtain ⟨dq0, hq0⟩ := al0.same s4
      refine ⟨_, rfl, ai, RC, dxi, _, .ref qi, rfl, hai, ZR.cl, ZR.nA, rfl, _, rfl, L, _, 0, .ref a0, rfl, rfl, SqL.of (s4 _ _ hLs), at0, a0, RC, dx0, _, .ref q0, rfl, s4 _ _ h0, ZR.cl, ZR.nA, rfl, qi, q0, dqi, dq0, _, _, rfl, rfl, hqi, hq0, qi, q0, l, vi, l, r0.1, rfl, ⟨dqi, hqi⟩, ⟨dq0, hq0⟩, _, rfl, _, rfl, ?_⟩
      rw [decide_eq_true rfl]
      by_cases hvv : vi = r0.1
      · rw [decide_eq_true hvv]
        refine iteF ?_
        refine ⟨_, rfl, ai, dxi, _, rfl, hai, rfl, ai, l, vi, ds, rfl, hR4, gd.1, gd.2, fun H5 s5 => ?_⟩
        have hT5 := s5 _ _ hT4
        refine ⟨_, rfl, T, _, rfl, DGet.k (k := keyT (textR ds)) hT5, _, rfl, ?_⟩
        cases en : valV kvs (keyT (textR ds)) with
        | some z =>
          refine iteT ?_
          have hin := (kv (textR ds)).mp (by rw [en]; rfl)
          rw [if_neg fun q => q.2 hin] at e3
          refine ⟨_, rfl, ?_⟩
          refine raise1 (okA_int (by omega)) fun d H' s h => kE (i + 1) e3 d H' ((s4.trans s5).trans s) ?_
          rw [h, show (1 + (i : Int)) = ((i + 1 : Nat) : Int) by omega]
        | none =>
          refine iteF ?_
          have hni : textR ds ∉ ((rs.take i).map fun r => textR r.2) := fun q => by
            have z := (kv (textR ds)).mpr q
            rw [en] at z
            cases z
          rw [if_pos ⟨hvv, hni⟩] at e3
          have hR5 := hR4.same s5
          refine ⟨_, rfl, _, rfl, ai, dxi, _, rfl, s5 _ _ hai, rfl, ai, l, vi, ds, rfl, hR5, gd.1, gd.2, fun H6 s6 => ?_⟩
          have hT6 := s6 _ _ hT5
          have et : ((rs.take (i + 1)).map fun r => textR r.2) = ((rs.take i).map fun r => textR r.2) ++ [textR ds] := by
            rw [take_snocG er, List.map_append]
            rfl
          refine ⟨T, _, rfl, DPut.k (k := keyT (textR ds)) hT6 (by rw [sizeLine_eq]; omega), putK kvs (keyT (textR ds)) (.bl true), _, _, rfl, upd_same, ?_, fun t => ?_, ?_, by rw [et]; exact e3⟩
          · rw [putK_new _ en, List.length_append]
            exact Nat.succ_le_succ kl
          · rw [et, valV_put]
            by_cases e : keyT t = keyT (textR ds)
            · rw [if_pos e, keyT_inj e]
              exact ⟨fun _ => List.mem_append_right _ (List.mem_singleton.mpr rfl), fun _ => rfl⟩
            · rw [if_neg e, kv t]
              exact ⟨fun h => List.mem_append_left _ h, fun h => (List.mem_append.mp h).elim id fun z => absurd (by rw [List.mem_singleton.mp z]) e⟩
          · intro b o e
            rw [upd_ne (ne_of_none e hT)]
            exact s6 _ _ (s5 _ _ (s4 _ _ e))
      · rw [decide_eq_false hvv]
        refine iteT ?_
        rw [if_neg fun q => hvv q.1] at e3
        refine ⟨_, rfl, ?_⟩
        refine raise1 (okA_int (by omega)) fun d H' s h => kE (i + 1) e3 d H' (s4.trans s) ?_
        rw [h, show (1 + (i : Int)) = ((i + 1 : Nat) : Int) by omega]
    · rintro σ H3 ⟨kvs, v3, v4, rfl, hT3, kl, kv, s3, e3⟩
      have e3 : badLot (vT rs) = none := by
        rw [lm, List.drop_length] at e3
        exact e3
      obtain ⟨dq0, hq0⟩ := al0.same s3
      refine ⟨_, rfl, L, _, 0, .ref a0, rfl, rfl, SqL.of (s3 _ _ hLs), at0, a0, RC, dx0, _, .ref q0, rfl, s3 _ _ h0, ZR.cl, ZR.nA, rfl, q0, l, r0.1, rfl, ⟨dq0, hq0⟩, hL, hv r0 (List.mem_of_getElem? er0), fun q H4 s4 nq alq => ?_⟩
      have s34 := s3.trans s4
      refine ⟨_, rfl, a, LC, dx, [], rfl, s34 _ _ hA, ZL.cl, ZL.nA, (by show 0 < 1000; decide), ?_⟩
      have nLa : L ≠ a := ne_of hLs hA fun z => nomatch z
      refine ⟨_, rfl, L, _, rfl, .inl (SqL.of (by rw [upd_ne nLa]; exact s34 _ _ hLs)), fun R hR => ?_⟩
      have aR : a ≠ R := fun z => by
        rw [← z, upd_same] at hR
        cases hR
      refine ⟨_, rfl, a, LC, dx, _, rfl, (by rw [upd_ne aR]; exact upd_same), ZL.cl, ZL.nR, (by show 1 < 1000; decide), ?_⟩
      refine kS e3 _ fun b o' nb e => ?_
      have nR : b ≠ R := fun z => by
        rw [← z, upd_ne nb, s34 _ _ e] at hR
        cases hR
      rw [upd_ne nb, upd_ne nR, upd_ne nb]
      exact s34 _ _ e
end
end Cl.K54
set_option Elab.async false
set_option linter.all false
set_option maxRecDepth 100000
set_option maxHeartbeats 8000000
namespace Cl
open PySem PySem.Spec L2 PyProof.Rows
/-- the sum of the first i powers -/
def sm (m : Nat) : Nat → Nat
  | 0 => 0
  | i + 1 => sm m i + m ^ i
theorem sm_cnt (m : Nat) : ∀ d, sm m (d + 1) = cnt m d
  | 0 => by simp [sm, cnt]
  | d + 1 => by
    show sm m (d + 1) + m ^ (d + 1) = cnt m d + m ^ (d + 1)
    rw [sm_cnt m d]
end Cl
namespace Cl.K54
open PySem PySem.Spec L2 PyProof.Rows
section
variable {P : Program} {w : World} {K : PySem.W.Frag} {mg : Str → Option Value} {base : Heap} {C RC LC : Addr} {Wc : Kd → Addr}
theorem ok_howmany {f : Addr} {fd : FuncData} (F : Fun K "_how_many_rules" "_how_many_rules" sHowMany f fd) (hR : mg "range" = none) : FnOk P w K mg base CX0 1 f fd ["pieces", "depth"] spHowMany := by
  refine F.ok scHowMany (fun vs H Q E h => ?_) (fun cdv A outer s H vs Q E hr h => ?_)
  · obtain ⟨m, d, rfl, _⟩ := h
    rfl
  · obtain ⟨m, d, rfl, m3, d3, k⟩ := h
    refine ⟨_, pss_cons (ps_set (i := 2) scHowMany.nd rfl (.inl rfl) pe_int)
      (pss_cons (ps_set (i := 3) scHowMany.nd rfl (.inl rfl) pe_int)
      (pss_cons (ps_for PassesOwn.never rfl (pi_range1 rfl hR (pa_cons (pe_op op_add (pv 1) pe_int) pa_nil)) (pg_name (i := 4) scHowMany.nd rfl (.inl rfl))
        (pss_cons (ps_set (i := 2) scHowMany.nd rfl (.inl rfl) (pe_op op_add (pv 2) (pv 3)))
        (pss_one (ps_set (i := 3) scHowMany.nd rfl (.inl rfl) (pe_op op_mul (pv 3) (pv 0))))))
      (pss_one (ps_ret (pv 2))))), ?_⟩
    refine ⟨_, rfl, _, _, rfl, rfl, _, rfl, by omega, by omega, ?_⟩
    refine for_range (n := ((d : Int) + 1).toNat) (fun i σ H' => ∃ v4 : Option V, σ = [some (.int (m : Nat)), some (.int (d : Nat)), some (.int (sm m i : Nat)), some (.int ((m ^ i : Nat) : Int)), v4] ∧ H' = H) ⟨none, rfl, rfl⟩ ?_ ?_
    · rintro i σ H' hi ⟨v4, rfl, rfl⟩
      refine ⟨_, rfl, _, rfl, _, _, rfl, rfl, ?_⟩
      refine ⟨_, rfl, _, rfl, _, _, rfl, rfl, .inr ⟨by omega, by omega⟩, ?_⟩
      refine ⟨some (V.int (0 + (i : Int))), ?_, rfl⟩
      have e1 : ((sm m i : Nat) : Int) + ((m ^ i : Nat) : Int) = ((sm m (i + 1) : Nat) : Int) := by
        show _ = ((sm m i + m ^ i : Nat) : Int)
        omega
      have e2 : ((m ^ i : Nat) : Int) * (m : Int) = ((m ^ (i + 1) : Nat) : Int) := by
        rw [Nat.pow_succ]
        exact (Int.natCast_mul _ _).symm
      show [some (V.int (m : Nat)), some (V.int (d : Nat)), some (V.int (((sm m i : Nat) : Int) + ((m ^ i : Nat) : Int))), some (V.int (((m ^ i : Nat) : Int) * (m : Int))), some (V.int (0 + (i : Int)))] = _
      rw [e1, e2]
    · rintro σ H' ⟨v4, rfl, rfl⟩
      have e : ((d : Int) + 1).toNat = d + 1 := by omega
      refine ⟨_, rfl, ?_⟩
      rw [e, sm_cnt]
      exact k
theorem ok_choices {f : Addr} {fd : FuncData} (F : Fun K "_choices" "_choices" sChoices f fd) (hR : mg "range" = none) : FnOk P w K mg base CX0 1 f fd ["pieces", "depth"] spChoices := by
  refine F.ok scChoices (fun vs H Q E h => ?_) (fun cdv A outer s H vs Q E hr h => ?_)
  · obtain ⟨P, d, ps, rfl, _⟩ := h
    rfl
  · obtain ⟨P, d, ps, rfl, hP, d3, c3, k⟩ := h
    refine ⟨_, pss_cons (ps_set (i := 2) scChoices.nd rfl (.inl rfl) (pe_lst (pa_cons (pe_lst pa_nil) pa_nil)))
      (pss_cons (ps_set (i := 3) scChoices.nd rfl (.inl rfl) (pe_lst (pa_cons (pe_lst pa_nil) pa_nil)))
      (pss_cons (ps_for PassesOwn.never rfl (pi_range1 rfl hR (pa_cons (pv 1) pa_nil)) (pg_name (i := 4) scChoices.nd rfl (.inl rfl))
        (pss_cons (ps_setLc2 (i := 2) (own := [("chosen", 5), ("piece", 6)]) (vs1 := [6]) (wi1 := iList K (tVar 0)) (g := gName 5) (g1 := gName 6) (tt := tYes) (tt1 := tYes) (te := tLst (StX.tStar K (tVar 5) (tCons (tVar 6) tNil))) rfl scChoices.nd rfl rfl (sw_true rfl rfl rfl (by decide +kernel)) (pi_list (pv 2)) (blkOk_by (N := nChoices) (sc := defScope sChoices) (by decide +kernel)) (by decide)
            (fun _ _ _ _ _ => pg_name (i := 5) scChoices.nd rfl (Or.inl rfl)) (fun _ _ _ _ _ => pts_nil) (fun _ _ _ _ _ => pi_list (pv 0)) (fun _ _ _ _ _ => pg_name (i := 6) scChoices.nd rfl (Or.inl rfl)) (fun _ _ _ _ _ => pts_nil) (fun _ _ _ _ _ => pe_lst (StX.pa_star (pv 5) (pa_cons (pv 6) pa_nil))))
        (pss_one (ps_expr (pe_bm PySem.F.plainAttrs_list PySem.F.slot_list_extend PySem.F.type_list_extend mt_extend (pv 3) (pa_cons (pv 2) pa_nil))))))
      (pss_one (ps_ret (pv 3))))), ?_⟩
    refine ⟨(by show 0 ≤ sizeLine; decide), fun e1 he1 => ⟨(by show 1 ≤ sizeLine; decide), fun LG hLG => ?_⟩⟩
    have sA : Same H (upd (upd H e1 (.lst [])) LG (.lst [V.ref e1])) := (same_new he1).trans (same_new hLG)
    have hL1 : (upd (upd H e1 (.lst [])) LG (.lst [V.ref e1])) LG = some (.lst ([e1].map V.ref)) := upd_same
    have hE1 : (upd (upd H e1 (.lst [])) LG (.lst [V.ref e1])) e1 = some (.lst (([] : List Addr).map V.ref)) := same_new hLG _ _ upd_same
    show Ends.nx _ _ _
    generalize upd (upd H e1 (.lst [])) LG (.lst [V.ref e1]) = H1 at sA hL1 hE1 ⊢
    refine ⟨(by show 0 ≤ sizeLine; decide), fun e2 he2 => ⟨(by show 1 ≤ sizeLine; decide), fun CH hCH => ?_⟩⟩
    have sB : Same H1 (upd (upd H1 e2 (.lst [])) CH (.lst [V.ref e2])) := (same_new he2).trans (same_new hCH)
    have hC2 : (upd (upd H1 e2 (.lst [])) CH (.lst [V.ref e2])) CH = some (.lst ([e2].map V.ref)) := upd_same
    have hE2 : (upd (upd H1 e2 (.lst [])) CH (.lst [V.ref e2])) e2 = some (.lst (([] : List Addr).map V.ref)) := same_new hCH _ _ upd_same
    have n1 : e1 ≠ CH := ne_of_none (same_new he2 _ _ hE1) hCH
    have n2 : e2 ≠ CH := ne_of_none (show (upd H1 e2 (.lst [])) e2 = _ from upd_same) hCH
    have n3 : LG ≠ CH := ne_of_none (same_new he2 _ _ hL1) hCH
    have fCH : H CH = none := by
      cases e : H CH with
      | none => rfl
      | some o => rw [same_new he2 _ _ (sA _ _ e)] at hCH; cases hCH
    have hL2 := sB _ _ hL1
    have hE12 := sB _ _ hE1
    have sC := sA.trans sB
    show Ends.nx _ _ _
    generalize upd (upd H1 e2 (.lst [])) CH (.lst [V.ref e2]) = H2 at sC hC2 hE2 hL2 hE12 ⊢
    have lc : ∀ i, i < d → (lvl ps i).length * ps.length ≤ 300 := fun i hi => by
      rw [lvl_length, ← Nat.pow_succ]
      exact Nat.le_trans (lvl_le_cnt (i + 1)) (Nat.le_trans (cnt_mono hi) c3)
    have cc : ∀ i, i ≤ d → (chs ps i).length ≤ 300 := fun i hi => by
      rw [chs_length]
      exact Nat.le_trans (cnt_mono hi) c3
    refine ⟨_, rfl, d, rfl, by omega, by omega, ?_⟩
    refine for_range (n := (d : Int).toNat) (fun i σ H' => ∃ (L2 : Addr) (ls cs : List Addr) (v4 : Option V), σ = [some (.ref P), some (.int (d : Nat)), some (.ref L2), some (.ref CH), v4, none, none] ∧ L2 ≠ CH ∧ H' L2 = some (.lst (ls.map V.ref)) ∧ Paired (fun x c => x ≠ CH ∧ Sx.RowR H' x c) ls (lvl ps i) ∧ H' CH = some (.lst (cs.map V.ref)) ∧ Paired (fun x c => x ≠ CH ∧ Sx.RowR H' x c) cs (chs ps i) ∧ Same H H')
      ⟨LG, [e1], [e2], none, rfl, n3, hL2, .cons ⟨n1, hE12⟩ .nil, hC2, .cons ⟨n2, hE2⟩ .nil, sC⟩ ?_ ?_
    · rintro i σ H3 hi ⟨L2, ls, cs, v4, rfl, nL, hL3, pl, hC3, pc, s3⟩
      rw [Int.toNat_natCast] at hi
      have hP3 := s3 _ _ hP
      refine ⟨_, rfl, L2, rfl, ⟨_, SqL.of hL3⟩, fun D hD => ?_⟩
      refine Sx.lc2_prod (a := L2) (b := P) (ip := 0) (u := 5) (v := 6) hD hL3 (Sx.paired_mono (fun _ _ h => h.2) pl) hP3 (Nat.le_trans (lc i hi) (by decide)) (fun c hc => by rw [(lvl_in hc).1]; omega) (by show 5 < 7; decide) (by show 6 < 7; decide) (by decide) (fun x => rfl) (fun H5 Rs s5 hD5 pr5 => ?_)
      have nD : D ≠ CH := (ne_of_none hC3 hD).symm
      have hC5 := s5 _ _ hC3
      have lR := pr5.length
      have lC := pc.length
      have e1 : ((lvl ps i).flatMap fun c => ps.map fun p => c ++ [p]).length = (lvl ps (i + 1)).length := rfl
      have h1 := cc (i + 1) (by omega)
      have h2 : (chs ps (i + 1)).length = (chs ps i).length + (lvl ps (i + 1)).length := List.length_append
      refine ⟨_, rfl, .inl ⟨rfl, _, SqL.of hC5⟩, _, rfl, CH, D, _, _, rfl, rfl, hC5, hD5, ?_, D, Rs, cs ++ Rs, _, rfl, nD, ?_, ?_, ?_, ?_, ?_⟩
      · rw [List.length_map, List.length_map, lC, lR, sizeLine_eq]
        omega
      · rw [upd_ne nD]
        exact hD5
      · refine Sx.paired_mono (fun x c hh => ?_) pr5
        have nx : x ≠ CH := fun z => by
          rw [z, hC3] at hh
          cases hh.1
        refine ⟨nx, ?_⟩
        unfold Sx.RowR
        rw [upd_ne nx]
        exact hh.2
      · rw [upd_same, List.map_append]
      · exact Sx.paired_app (Sx.paired_mono (fun x c (hh : x ≠ CH ∧ Sx.RowR H3 x c) => ⟨hh.1, by
          unfold Sx.RowR
          rw [upd_ne hh.1]
          exact s5 _ _ hh.2⟩) pc) (Sx.paired_mono (fun x c (hh : H3 x = none ∧ Sx.RowR H5 x c) => by
          have nx : x ≠ CH := fun z => by
            rw [z, hC3] at hh
            cases hh.1
          refine ⟨nx, ?_⟩
          unfold Sx.RowR
          rw [upd_ne nx]
          exact hh.2) pr5)
      · intro b o e
        rw [upd_ne (ne_of_none e fCH)]
        exact s5 _ _ (s3 _ _ e)
    · rintro σ H3 ⟨L2, ls, cs, v4, rfl, nL, hL3, pl, hC3, pc, s3⟩
      rw [Int.toNat_natCast] at pc
      exact ⟨_, rfl, k CH cs H3 s3 hC3 (Sx.paired_mono (fun _ _ h => h.2) pc)⟩
end
end Cl.K54
set_option Elab.async false
set_option linter.all false
set_option maxRecDepth 100000
set_option maxHeartbeats 4000000
/-! def f(a, .., *v, k = d) called without k. -/
namespace Sx
open PySem PySem.Spec L2 PyProof.Rows
section
variable {CX : CXT} {P : Program} {w : World} {K : PySem.W.Frag} {mg : Str → Option Value} {base : Heap} {k : Nat} {f : Addr} {name qual : Str} {params : Arguments} {body : List Stmt} {scope : Scope} {dV kV doc pm cdv ct oc : Value} {an od : Option Addr}
  {osl : Array (Option Value)} {N ps : List Str} {sp : Sp}
theorem fn_starD {pv kn : Str} {dv : V} {D : Addr} {u : Value} (lk : K.lookup f = some ⟨oc, od, .func (PySem.W.fnOf name qual params body scope dV kV doc pm an cdv ct), osl⟩) (hcd : PySem.W.codeIn K cdv qual = true) (S : FnScope N (ps ++ [kn] ++ [pv]) scope) (hCX : StX.CXUp CX)
    (hu : PySem.W.nsIn K D kn = some (some u)) (ru : RelV dv u)
    (hb : ∀ us rest : List Value, us.length = ps.length → ∃ (β γ : Type) (k1 : Option Value → Sem β) (k2 : β → Sem γ) (k3 : γ → Sem (List (Str × Value))) (a : β), bindArgs (PySem.W.fnOf name qual params body scope dV kV doc pm an cdv ct) ⟨us ++ rest, []⟩ = ((nsGet D kn >>= k1) >>= k2) >>= k3 ∧ k1 (some u) = pure a ∧
      (k2 a >>= k3) = (newTuple rest >>= fun t => pure (ps.zip us ++ [(kn, u)] ++ [(pv, t)])))
    (hbody : ∀ (A : Around) (outer : List Env) (s : Shared) (H : Hp) (vs : List V) (Q : VK) (E : XK), Room k (A.deeper (envOfC qual scope s.heap.objs.size f cdv)) → sp vs H Q E →
      ∃ t, PSs (cxOf CX P w K mg base N qual scope f cdv A outer s H E) body t ∧ t { nx := fun _ H' => Q .non H', rt := Q } (start N vs) H) :
    FnR P w K mg base CX (k + 1) f (fun vs H Q E => ∃ ws rest, vs = ws ++ rest ∧ ws.length = ps.length ∧ rest.length ≤ sizeLine ∧ ∀ p, H p = Option.none → sp (ws ++ [dv] ++ [V.ref p]) (upd H p (.tup rest)) Q E) := by
  intro A outer s H us vs Q E hr e0 r hsp
  obtain ⟨xs, rest, ev, hl, hz, hq⟩ := hsp
  subst ev
  obtain ⟨u1, u2, eu, r1, r2⟩ := StX.vals_split r
  subst eu
  have hn : H s.heap.objs.size = Option.none := e0.hok.fresh (Nat.le_refl _)
  have hl1 : u1.length = ps.length := by rw [← r1.length]; exact hl
  have hl2 : u2.length ≤ sizeLine := by rw [← r2.length]; exact hz
  refine StX.run_bnd lk hcd S hr e0 (G := fun ys H2 => ∃ p, H p = Option.none ∧ ys = xs ++ [dv] ++ [V.ref p] ∧ H2 = upd H p (.tup rest)) (fun A' Ex Q' h => ?_) fun s2 H2 ys ⟨p, hp, ex, eH⟩ hr' => ?_
  · obtain ⟨β, γ, k1, k2, k3, a, e1, e2, e3⟩ := hb u1 u2 hl1
    have KX : K.In s.heap := e0.mod.kin.keeps fun b o e => (e0.bs b o e).1
    have l1 : PySem.W.Looks (model P w) s.heap (nsGet D kn >>= k1) a := (PySem.W.looks_nsIn KX hu).andThen (PySem.W.Looks.of_pure e2)
    rw [e1, bind_assoc]
    refine wpAny_bind (l1.here ?_)
    rw [e3]
    refine wpAny_bind (wpAny_newTuple (wpAny_pure ?_) hl2)
    have new : ObjOk P w (upd H s.heap.objs.size (.tup rest)) (s.heap.push ({ cls := .type "tuple", data := .seq u2.toArray } : Obj)) s.heap.objs.size (.tup rest) := ⟨hz, u2, r2, ⟨_, Heap.get?_push_size _ rfl, rfl, _, rfl⟩⟩
    have un := StX.un_laid (fs := frs outer) (s := s) (o := ({ cls := .type "tuple", data := .seq u2.toArray } : Obj)) (u := .tup rest) hn
    have z := h _ _ (xs ++ [dv] ++ [V.ref s.heap.objs.size]) (u1 ++ [u] ++ [Value.ref s.heap.objs.size]) (StX.env0_laid e0 new) un rfl (fun e s' => hCX outer s H _ _ E e s' un (fun b o q => Heap.get?_push_of_some _ q) rfl) ((r1.append (.cons ru .nil)).append (.cons (show RelV (V.ref s.heap.objs.size) (Value.ref s.heap.objs.size) from rfl) .nil))
      (by rw [List.length_append, List.length_append, List.length_append, List.length_append, hl] <;> rfl) ⟨_, hn, rfl, rfl⟩
    rw [List.zip_append (by rw [List.length_append, List.length_append, hl1] <;> rfl), List.zip_append hl1.symm] at z
    exact z
  · subst ex eH
    exact hbody A outer s2 _ _ Q E hr' (hq p hp)
end
end Sx
set_option Elab.async false
set_option linter.all false
set_option maxRecDepth 100000
set_option maxHeartbeats 16000000
namespace Cl
open PySem PySem.Spec L2 PyProof.Rows
/-- the first refused form, from 1 -/
def dueR (l v : List Nat) : Nat → List (List Nat) → Option (Nat × List Nat)
  | _, [] => none
  | i, t :: r => match whatW l v (wordsT t) with
    | some x => some (i + 1, x)
    | none => dueR l v (i + 1) r
theorem dueR_some {l v t x : List Nat} {i : Nat} {r : List (List Nat)} (e : whatW l v (wordsT t) = some x) : dueR l v i (t :: r) = some (i + 1, x) := by
  show (match whatW l v (wordsT t) with | some x => some (i + 1, x) | none => dueR l v (i + 1) r) = _
  rw [e]
theorem dueR_none {l v t : List Nat} {i : Nat} {r : List (List Nat)} (e : whatW l v (wordsT t) = none) : dueR l v i (t :: r) = dueR l v (i + 1) r := by
  show (match whatW l v (wordsT t) with | some x => some (i + 1, x) | none => dueR l v (i + 1) r) = _
  rw [e]
/-- the first that came before, from 1 -/
def dupI : Nat → List (List Nat) → List (List Nat) → Option Nat
  | _, _, [] => none
  | i, seen, t :: r => if t ∈ seen then some (i + 1) else dupI (i + 1) (seen ++ [t]) r
theorem dup_nodup : ∀ {ts : List (List Nat)} {i : Nat} {seen : List (List Nat)}, dupI i seen ts = none → seen.Nodup → (seen ++ ts).Nodup
  | [], _, seen, _, h => by
    rw [List.append_nil]
    exact h
  | t :: r, i, seen, e, h => by
    have e : (if t ∈ seen then some (i + 1) else dupI (i + 1) (seen ++ [t]) r) = none := e
    by_cases q : t ∈ seen
    · rw [if_pos q] at e
      cases e
    · rw [if_neg q] at e
      have z := dup_nodup e (List.nodup_append.mpr ⟨h, List.pairwise_singleton _ _, fun x hx y hy w => q (by rw [← List.mem_singleton.mp hy, ← w]; exact hx)⟩)
      rwa [List.append_assoc] at z
def Made (C RC LC BM BR BL TM : Addr) (p : Addr) (l v : List Nat) (ts : List (List Nat)) (n : Int) (H : Hp) (Q : VK) (E : XK) : Prop :=
  AlphaAt C H p l v ∧ Lets l 8 ∧ v.Sublist l ∧ (∀ t ∈ ts, GoodT t) ∧ ts.length ≤ 12 ∧ n.natAbs < 10 ^ 9 ∧
  (¬ (0 ≤ n ∧ n ≤ 3) → ∀ d H', Same H H' → H' d = some (.xd [("asked", .int n)]) → E (.ref BM) (some d) H') ∧
  (0 ≤ n → n ≤ 3 → (∀ i x, dueR l v 0 ts = some (i, x) → ∀ d H', Same H H' → H' d = some (.xd [("what", .str (S x)), ("stage", .int (i : Nat))]) → E (.ref BR) (some d) H') ∧
    (dueR l v 0 ts = none → (∀ i, dupI 0 [] ts = some i → ∀ d H', Same H H' → H' d = some (.xd [("number", .int (i : Nat))]) → E (.ref BL) (some d) H') ∧
      (dupI 0 [] ts = none → (200 < cnt ts.length n.toNat → ∀ d H', Same H H' → H' d = some (.xd [("number", .int (cnt ts.length n.toNat : Nat))]) → E (.ref TM) (some d) H') ∧ (cnt ts.length n.toNat ≤ 200 → ∀ (a : Addr) H', Same H H' → Q (.ref a) H'))))
theorem Made.same {C RC LC BM BR BL TM : Addr} {p : Addr} {l v : List Nat} {ts : List (List Nat)} {n : Int} {H H1 : Hp} {Q : VK} {E : XK} (h : Made C RC LC BM BR BL TM p l v ts n H Q E) (s : Same H H1) : Made C RC LC BM BR BL TM p l v ts n H1 Q E := by
  obtain ⟨al, hL, hv, g, t12, n9, k0, k1⟩ := h
  refine ⟨al.same s, hL, hv, g, t12, n9, fun a d H' s' => k0 a d H' (s.trans s'), fun a b => ?_⟩
  obtain ⟨k2, k3⟩ := k1 a b
  refine ⟨fun i x e d H' s' => k2 i x e d H' (s.trans s'), fun e => ?_⟩
  obtain ⟨k4, k5⟩ := k3 e
  refine ⟨fun i e d H' s' => k4 i e d H' (s.trans s'), fun e => ?_⟩
  obtain ⟨k6, k7⟩ := k5 e
  exact ⟨fun c d H' s' => k6 c d H' (s.trans s'), fun c a H' s' => k7 c a H' (s.trans s')⟩
def spMade (C RC LC BM BR BL TM : Addr) : List V → Sp := fun zs vs H Q E => ∃ (p : Addr) (l v : List Nat) (ts : List (List Nat)) (n : Int), zs = [.int n] ∧ vs = .ref LC :: .ref p :: txs ts ∧ Made C RC LC BM BR BL TM p l v ts n H Q E
def spMadeI (C RC LC BM BR BL TM : Addr) : Sp := fun vs H Q E => ∃ (p st : Addr) (l v : List Nat) (ts : List (List Nat)) (n : Int), vs = [.ref LC, .ref p, .int n, .ref st] ∧ H st = some (.tup (txs ts)) ∧ Made C RC LC BM BR BL TM p l v ts n H Q E
theorem made_star {C RC LC BM BR BL TM : Addr} {zs vs : List V} {H : Hp} {Q : VK} {E : XK} (h : spMade C RC LC BM BR BL TM zs vs H Q E) :
    ∃ ws rest, vs = ws ++ rest ∧ ws.length = ["cls", "alphabet"].length ∧ rest.length ≤ sizeLine ∧ ∀ p, H p = Option.none → spMadeI C RC LC BM BR BL TM (ws ++ zs ++ [V.ref p]) (upd H p (.tup rest)) Q E := by
  obtain ⟨p, l, v, ts, n, rfl, rfl, m⟩ := h
  refine ⟨[.ref LC, .ref p], txs ts, rfl, rfl, ?_, fun q hq => ?_⟩
  · have := m.2.2.2.2.1
    unfold txs
    rw [List.length_map, sizeLine_eq]
    omega
  · exact ⟨p, q, l, v, ts, n, rfl, upd_same, m.same (same_new hq)⟩
theorem eqVS (w x : List Nat) : eqV (.str (S x)) (.str (S w)) = decide (x = w) := by
  show (S x == S w) = decide (x = w)
  by_cases h : x = w
  · rw [h]
    simp
  · rw [decide_eq_false h]
    exact beq_eq_false_iff_ne.mpr fun z => h (S_inj z)
theorem inVtxs (w : List Nat) (ws : List (List Nat)) : inV (.str (S w)) (txs ws) = decide (w ∈ ws) := by
  unfold inV txs
  rw [List.any_map]
  by_cases h : w ∈ ws
  · rw [decide_eq_true h]
    exact List.any_eq_true.mpr ⟨w, h, by show eqV (.str (S w)) (.str (S w)) = true; rw [eqVS]; exact decide_eq_true rfl⟩
  · rw [decide_eq_false h]
    refine List.any_eq_false.mpr fun x hx z => h ?_
    have z : eqV (.str (S x)) (.str (S w)) = true := z
    rw [eqVS] at z
    rw [← of_decide_eq_true z]
    exact hx
theorem flat_txs (ws : List (List Nat)) : (txs ws).all flatV = true := by
  unfold txs
  rw [List.all_map, List.all_eq_true]
  intro x hx
  rfl
theorem cut_to (xs : List V) {k : Nat} (h : k ≤ xs.length) : cutV xs none (some (k : Int)) = xs.take k := by
  unfold cutV
  rw [HT.sIx_none, HT.sIx_nat, List.drop_zero, Nat.sub_zero, Nat.min_eq_left h]
theorem ruleAt_lst {C RC D : Addr} {Wc : Kd → Addr} {H : Hp} {x : Addr} {l v : List Nat} {ds : List StD} {xs ys : List V} (h : RuleAt C RC Wc H x l v ds) (hD : H D = some (.lst xs)) : RuleAt C RC Wc (upd H D (.lst ys)) x l v ds := by
  obtain ⟨dx1, q, st, as, h1, ⟨dq, h2⟩, h3, h4⟩ := h
  have k : ∀ b o, H b = some o → o ≠ .lst xs → upd H D (.lst ys) b = some o := fun b o e n => by
    rw [upd_ne (fun z => n (by rw [z, hD] at e; injection e with e; exact e.symm))]
    exact e
  refine ⟨dx1, q, st, as, k _ _ h1 (fun z => nomatch z), ⟨dq, k _ _ h2 (fun z => nomatch z)⟩, k _ _ h3 (fun z => nomatch z), p_mono (fun ai d hh => ?_) h4⟩
  obtain ⟨dxi, hi', dqi, hqi⟩ := hh
  exact ⟨dxi, k _ _ hi' (fun z => nomatch z), dqi, k _ _ hqi (fun z => nomatch z)⟩
theorem cnt_bound {m n : Nat} (hm : m ≤ 250) (hn : n ≤ 3) : cnt m n < 10 ^ 9 := by
  have h1 : cnt m n ≤ cnt m 3 := cnt_mono hn
  have h2 : cnt m 3 ≤ 1 + 250 ^ 1 + 250 ^ 2 + 250 ^ 3 := by
    show 1 + m ^ (0 + 1) + m ^ (1 + 1) + m ^ (2 + 1) ≤ _
    have a1 := Nat.pow_le_pow_left hm 1
    have a2 := Nat.pow_le_pow_left hm 2
    have a3 := Nat.pow_le_pow_left hm 3
    show 1 + m ^ 1 + m ^ 2 + m ^ 3 ≤ 1 + 250 ^ 1 + 250 ^ 2 + 250 ^ 3
    omega
  have h3 : 1 + 250 ^ 1 + 250 ^ 2 + 250 ^ 3 < 10 ^ 9 := by decide
  omega
end Cl
namespace Cl.K54
open PySem PySem.Spec L2 PyProof.Rows
abbrev sBadLot : Stmt := inClass (top 8) 0
abbrev sBadLimit : Stmt := inClass (top 9) 0
abbrev sTooMany : Stmt := inClass (top 10) 0
abbrev sMade : Stmt := inClass (top 35) 2
abbrev nMade : List Str := ["cls", "alphabet", "depth", "stages", "pieces", "number", "text", "chosen"]
theorem scMade : FnScope nMade (([("cls" : Str), "alphabet"] ++ [("depth" : Str)]) ++ [("stages" : Str)]) (defScope sMade) := ⟨rfl, rfl, rfl, by decide +kernel, rfl, by decide +kernel, by decide +kernel⟩
section
variable {P : Program} {w : World} {K : PySem.W.Frag} {mg : Str → Option Value} {base : Heap} {B f c cc : Addr} {fd : FuncData}
theorem ok_BadLot (F : Sx.FunS K P.main.file "__init__" "BadLot.__init__" sBadLot B f c cc fd) (T : OexC K B) (z : Sx.SupE K B B) (hno0 : PySem.W.findIn K (.ref B) "number" = some none) (htop : (P.main.scope.names.lookup ("super" : Str)).isSome = false) (hs : mg "super" = none) :
    FnOk P w K mg base CX0 1 f fd ["self", "number"] (spX1 B "number") := by
  refine Sx.fn_sup (k := 0) (n := Sx.nf "__init__" "BadLot.__init__" sBadLot cc c) (N := ["self", "number", "__class__"]) F rfl (NdefX.nscope_by (by decide +kernel)) rfl rfl rfl rfl htop hs (fun vs H Q E h => ?_) (fun A outer s H vs Q E hr h => ?_)
  · obtain ⟨a, v, rfl, _⟩ := h
    rfl
  · obtain ⟨a, v, rfl, ha, hv1, k⟩ := h
    have c1 : ("wrong lot at number " : Str).length ≤ 60 := by decide +kernel
    refine ⟨_, _, pa_cons (pe_joined (.cons pe_str (.cons (pe_fmt (pv 1)) .nil))) pa_nil, (pss_one (ps_ost (pv 0) (pv 1))), a, B, _, rfl, ha, T, z, ?_⟩
    refine ⟨_, rfl, ?_, ?_⟩
    · rw [sizeLine_eq]
      simp only [PySem.Str.length_append, empty_len]
      omega
    show tFmt (tVar 1) _ _ _
    refine fmt_a rfl hv1 fun y1 hy1 => ⟨_, rfl, ?_, ?_⟩
    · rw [sizeLine_eq]
      simp only [PySem.Str.length_append, empty_len]
      omega
    exact ⟨(by show 1 ≤ 1000; decide), ha, _, rfl, _, rfl, a, B, rfl, T, hno0, .inl ⟨ha, fun d hd nd => k d _ hd nd (kp_two hd) upd_same (by rw [upd_ne nd]; exact upd_same)⟩⟩
theorem ok_BadLimit (F : Sx.FunS K P.main.file "__init__" "BadLimit.__init__" sBadLimit B f c cc fd) (T : OexC K B) (z : Sx.SupE K B B) (hno0 : PySem.W.findIn K (.ref B) "asked" = some none) (htop : (P.main.scope.names.lookup ("super" : Str)).isSome = false) (hs : mg "super" = none) :
    FnOk P w K mg base CX0 1 f fd ["self", "limit"] (spX1 B "asked") := by
  refine Sx.fn_sup (k := 0) (n := Sx.nf "__init__" "BadLimit.__init__" sBadLimit cc c) (N := ["self", "limit", "__class__"]) F rfl (NdefX.nscope_by (by decide +kernel)) rfl rfl rfl rfl htop hs (fun vs H Q E h => ?_) (fun A outer s H vs Q E hr h => ?_)
  · obtain ⟨a, v, rfl, _⟩ := h
    rfl
  · obtain ⟨a, v, rfl, ha, hv1, k⟩ := h
    have c1 : ("no such limit: " : Str).length ≤ 60 := by decide +kernel
    refine ⟨_, _, pa_cons (pe_joined (.cons pe_str (.cons (pe_fmt (pv 1)) .nil))) pa_nil, (pss_one (ps_ost (pv 0) (pv 1))), a, B, _, rfl, ha, T, z, ?_⟩
    refine ⟨_, rfl, ?_, ?_⟩
    · rw [sizeLine_eq]
      simp only [PySem.Str.length_append, empty_len]
      omega
    show tFmt (tVar 1) _ _ _
    refine fmt_a rfl hv1 fun y1 hy1 => ⟨_, rfl, ?_, ?_⟩
    · rw [sizeLine_eq]
      simp only [PySem.Str.length_append, empty_len]
      omega
    exact ⟨(by show 1 ≤ 1000; decide), ha, _, rfl, _, rfl, a, B, rfl, T, hno0, .inl ⟨ha, fun d hd nd => k d _ hd nd (kp_two hd) upd_same (by rw [upd_ne nd]; exact upd_same)⟩⟩
theorem ok_TooMany (F : Sx.FunS K P.main.file "__init__" "TooMany.__init__" sTooMany B f c cc fd) (T : OexC K B) (z : Sx.SupE K B B) (hno0 : PySem.W.findIn K (.ref B) "number" = some none) (htop : (P.main.scope.names.lookup ("super" : Str)).isSome = false) (hs : mg "super" = none) :
    FnOk P w K mg base CX0 1 f fd ["self", "number"] (spX1 B "number") := by
  refine Sx.fn_sup (k := 0) (n := Sx.nf "__init__" "TooMany.__init__" sTooMany cc c) (N := ["self", "number", "__class__"]) F rfl (NdefX.nscope_by (by decide +kernel)) rfl rfl rfl rfl htop hs (fun vs H Q E h => ?_) (fun A outer s H vs Q E hr h => ?_)
  · obtain ⟨a, v, rfl, _⟩ := h
    rfl
  · obtain ⟨a, v, rfl, ha, hv1, k⟩ := h
    have c1 : ("too many: " : Str).length ≤ 60 := by decide +kernel
    refine ⟨_, _, pa_cons (pe_joined (.cons pe_str (.cons (pe_fmt (pv 1)) .nil))) pa_nil, (pss_one (ps_ost (pv 0) (pv 1))), a, B, _, rfl, ha, T, z, ?_⟩
    refine ⟨_, rfl, ?_, ?_⟩
    · rw [sizeLine_eq]
      simp only [PySem.Str.length_append, empty_len]
      omega
    show tFmt (tVar 1) _ _ _
    refine fmt_a rfl hv1 fun y1 hy1 => ⟨_, rfl, ?_, ?_⟩
    · rw [sizeLine_eq]
      simp only [PySem.Str.length_append, empty_len]
      omega
    exact ⟨(by show 1 ≤ 1000; decide), ha, _, rfl, _, rfl, a, B, rfl, T, hno0, .inl ⟨ha, fun d hd nd => k d _ hd nd (kp_two hd) upd_same (by rw [upd_ne nd]; exact upd_same)⟩⟩
end
end Cl.K54
set_option Elab.async false
set_option linter.all false
set_option maxRecDepth 100000
set_option maxHeartbeats 16000000
namespace Cl
open PySem PySem.Spec L2 PyProof.Rows
theorem passNo {X : Cx} : Passes (L2.CX X.prog X.w) X E0 := fun pins σ H s e s' I c => by
  obtain ⟨_, _, _, _, _, _, _, _, _, _, _, _, z⟩ := c
  exact z.elim
theorem badL_same {v0 : List Nat} : ∀ {ds : List (List StD)} {i : Nat} {seen : List (List Nat)}, (seen ++ ds.map textR).Nodup → badL v0 i seen (vT (ds.map fun d => (v0, d))) = none
  | [], _, _, _ => rfl
  | d :: r, i, seen, h => by
    show (if v0 = v0 ∧ textR d ∉ seen then badL v0 (i + 1) (seen ++ [textR d]) (vT (r.map fun d => (v0, d))) else some (i + 1)) = none
    rw [List.map_cons] at h
    have n1 : textR d ∉ seen := fun q => (List.nodup_append.mp h).2.2 _ q _ (List.mem_cons_self ..) rfl
    rw [if_pos ⟨rfl, n1⟩]
    refine badL_same ?_
    rw [List.append_assoc]
    exact h
theorem badLot_same {v0 : List Nat} {ds : List (List StD)} (h0 : 0 < ds.length) (h : (ds.map textR).Nodup) : badLot (vT (ds.map fun d => (v0, d))) = none := by
  match ds, h0 with
  | d :: r, _ => exact badL_same (ds := d :: r) (seen := []) (by rw [List.nil_append]; exact h)
theorem cnt12 {m n : Nat} (hm : m ≤ 12) (hn : n ≤ 3) : cnt m n < 10 ^ 9 := by
  have h1 : cnt m n ≤ cnt m 3 := cnt_mono hn
  have h2 : cnt m 3 ≤ 1 + 12 ^ 1 + 12 ^ 2 + 12 ^ 3 := by
    show 1 + m ^ (0 + 1) + m ^ (1 + 1) + m ^ (2 + 1) ≤ _
    have a1 := Nat.pow_le_pow_left hm 1
    have a2 := Nat.pow_le_pow_left hm 2
    have a3 := Nat.pow_le_pow_left hm 3
    show 1 + m ^ 1 + m ^ 2 + m ^ 3 ≤ 1 + 12 ^ 1 + 12 ^ 2 + 12 ^ 3
    omega
  have h3 : 1 + 12 ^ 1 + 12 ^ 2 + 12 ^ 3 < 10 ^ 9 := by decide
  omega
end Cl
namespace Cl.K54
open PySem PySem.Spec L2 PyProof.Rows
section
variable {P : Program} {w : World} {K : PySem.W.Frag} {mg : Str → Option Value} {base : Heap} {C RC LC BM BR BL TM : Addr} {Wc : Kd → Addr}
theorem made_body {f fP fH fCh fR fL fX fB fM : Addr} {fdP fdH fdCh fdX fdB fdM : FuncData} {mc : Value} {tk : Tok} (CL : ClX.CRead K LC mc) (cM : ∃ u, ClX.CVal K LC mc "MOST" (.int 200) u) (gG : mg "_GREATEST_DEPTH" = some (.int 3 tk))
    (GP : FnOk P w K mg base (L2.CX P w) 12 fP fdP ["alphabet", "number", "piece"] (spPieceX C BR Wc)) (bP : Binds K fdP ["alphabet", "number", "piece"] []) (gP : mg "read_piece" = some (.ref fP)) (kP : PySem.W.keepIn K (.ref fP) = true)
    (GH : FnOk P w K mg base CX0 1 fH fdH ["pieces", "depth"] spHowMany) (bH : Binds K fdH ["pieces", "depth"] []) (gH : mg "_how_many_rules" = some (.ref fH)) (kH : PySem.W.keepIn K (.ref fH) = true)
    (GC : FnOk P w K mg base CX0 1 fCh fdCh ["pieces", "depth"] spChoices) (bC : Binds K fdCh ["pieces", "depth"] []) (gC : mg "_choices" = some (.ref fCh)) (kC : PySem.W.keepIn K (.ref fCh) = true)
    (MR : Mk K RC fR) (gR : mg "Rule" = some (.ref RC)) (FR : FnR P w K mg base CX0 6 fR (fun vs H Q E => ∃ ws rest, vs = ws ++ rest ∧ ws.length = ["self", "alphabet"].length ∧ rest.length ≤ sizeLine ∧ ∀ p, H p = Option.none → spRuleI C RC Wc (ws ++ [V.ref p]) (upd H p (.tup rest)) Q E))
    (ML : Mk K LC fL) (FL : FnR P w K mg base (L2.CX P w) 6 fL (spLotX C RC LC BL Wc)) (XT : RaiseX P w K mg base "TooMany" ["self", "number"] (spX1 TM "number") TM fX fdX) (XB : RaiseX P w K mg base "BadLot" ["self", "number"] (spX1 BL "number") BL fB fdB) (XM : RaiseX P w K mg base "BadLimit" ["self", "limit"] (spX1 BM "asked") BM fM fdM)
    (hn : mg "len" = none) (hE : mg "enumerate" = none) {cdv : Value} {A : Around} {outer : List Env} {s : Shared} {H : Hp} {vs : List V} {Q : VK} {E : XK}
    (hr : Room 13 (A.deeper (envOfC "Lot.made" (defScope sMade) s.heap.objs.size f cdv))) (h : spMadeI C RC LC BM BR BL TM vs H Q E) :
    ∃ t, PSs (cxOf (L2.CX P w) P w K mg base nMade "Lot.made" (defScope sMade) f cdv A outer s H E) (defBody sMade) t ∧ t { nx := fun _ H' => Q .non H', rt := Q } (L2.start nMade vs) H := by
  obtain ⟨p, st, l, v, ts, n, rfl, hst, al, hL, hv, gt, t12, n9, k0, k1⟩ := h
  have hr12 : Room 12 _ := hr.mono (by decide)
  have hr7 : Room (6 + 1) _ := hr.mono (by decide)
  have hr2 : Room (1 + 1) _ := hr.mono (by decide)
  have hr1 : Room 1 _ := hr.mono (by decide)
  obtain ⟨u200, c200⟩ := cM
  refine ⟨_, pss_cons (ps_if (pt_not (pt_chain op_le op_le pe_int (pv 2) (pe_glob (v := .int 3) rfl gG ⟨_, rfl⟩))) (pss_one (ps_raise (W := fun cls d _ H => E cls d H) rfl (takes_of rfl rfl rfl rfl) (pmk_oex XM.T XM.iC XM.tI XM.ok hr2 XM.bd .nil pass0 rfl XM.gl (pa_cons (pv 2) pa_nil)))) pss_nil)
    (pss_cons (Sx.ps_setLcR (i := 4) (E := E) (own := [("number", 5), ("text", 6)]) (g := gTup K 2 (gCons (gName 5) (gCons (gName 6) gNil))) (tt := tYes) (te := tCall (spPieceX C BR Wc) [] E (tCons (tVar 1) (tCons (tVar 5) (tCons (tVar 6) tNil)))) rfl rfl (sw_true rfl rfl rfl (by decide +kernel)) rfl rfl rfl (takes_of rfl rfl rfl rfl) scMade.nd (Sx.pi_enumTK rfl hE (pa_cons (pv 3) pa_nil) (pk_cons pe_int pk_nil)) (blkOk_by (N := nMade) (sc := defScope sMade) (by decide +kernel))
        (fun _ _ _ _ _ _ => pg_tup rfl (pgs_cons (pg_name (i := 5) scMade.nd rfl (Or.inl rfl)) (pgs_cons (pg_name (i := 6) scMade.nd rfl (Or.inl rfl)) pgs_nil))) (fun _ _ _ _ _ _ => pts_nil) (fun _ _ _ _ _ _ hp => pe_call (E := E) GP hr12 rfl gP kP bP .nil hp (pa_cons (pv 1) (pa_cons (pv 5) (pa_cons (pv 6) pa_nil)))))
    (pss_cons (ps_for (passes_of rfl) rfl (Sx.pi_enumTK rfl hE (pa_cons (pv 3) pa_nil) (pk_cons pe_int pk_nil)) (pg_tup rfl (pgs_cons (pg_name (i := 5) scMade.nd rfl (.inl rfl)) (pgs_cons (pg_name (i := 6) scMade.nd rfl (.inl rfl)) pgs_nil)))
      (pss_one (ps_if (pt_cmpR op_in_seq (pv 6) (pe_slice sl_tup (pv 3) po_none (po_some (pe_op op_sub (pv 5) pe_int))) rfl) (pss_one (ps_raise (W := fun cls d _ H => E cls d H) rfl (takes_of rfl rfl rfl rfl) (pmk_oex XB.T XB.iC XB.tI XB.ok hr2 XB.bd .nil pass0 rfl XB.gl (pa_cons (pv 5) pa_nil)))) pss_nil)))
    (pss_cons (ps_set (i := 5) scMade.nd rfl (.inl rfl) (pe_call GH hr1 rfl gH kH bH .nil pass0 (pa_cons (pe_callB call_len_seq (by rfl) hn PySem.boot_len (pa_cons (pv 4) pa_nil)) (pa_cons (pv 2) pa_nil))))
    (pss_cons (ps_if (pt_cmpR op_gt (pv 5) (ClX.pe_cval (pv 0)) (nomark _)) (pss_one (ps_raise (W := fun cls d _ H => E cls d H) rfl (takes_of rfl rfl rfl rfl) (pmk_oex XT.T XT.iC XT.tI XT.ok hr2 XT.bd .nil pass0 rfl XT.gl (pa_cons (pv 5) pa_nil)))) pss_nil)
    (pss_one (ps_ret (pe_makeL (i := 0) ML FL hr7 rfl (.inl rfl) passNo (pa_cons (pe_lc (own := [("chosen", 7)]) (g := gName 7) (tt := tYes) (te := StX.tMakeR RC (fun vs H Q E => ∃ ws rest, vs = ws ++ rest ∧ ws.length = ["self", "alphabet"].length ∧ rest.length ≤ sizeLine ∧ ∀ p, H p = Option.none → spRuleI C RC Wc (ws ++ [V.ref p]) (upd H p (.tup rest)) Q E) E0 (tCons (tVar 1) (StX.tStar K (tVar 7) tNil))) rfl scMade.nd (pi_list (pe_call GC hr1 rfl gC kC bC .nil pass0 (pa_cons (pv 4) (pa_cons (pv 2) pa_nil)))) (blkOk_by (N := nMade) (sc := defScope sMade) (by decide +kernel))
        (fun _ _ _ _ _ => pg_name (i := 7) scMade.nd rfl (Or.inl rfl)) (fun _ _ _ _ _ => pts_nil) (fun _ _ _ _ _ => pe_makeRS MR FR hr7 rfl gR pass0 (pa_cons (pv 1) (StX.pa_star (pv 7) pa_nil)))) pa_nil)))))))), ?_⟩
  have ld : (txs ts).length = ts.length := by
    unfold txs
    rw [List.length_map]
  refine ⟨_, rfl, _, _, rfl, rfl, _, rfl, ?_⟩
  by_cases hn3 : 0 ≤ n ∧ n ≤ 3
  case neg =>
    have K0 := k0 hn3
    by_cases n0 : (0 : Int) ≤ n
    · rw [decide_eq_true n0]
      refine iteT ⟨_, _, rfl, rfl, _, rfl, ?_⟩
      rw [decide_eq_false (fun q => hn3 ⟨n0, q⟩)]
      exact iteT ⟨_, rfl, raise1 (okA_int n9) fun d H' s h => K0 d H' s h⟩
    · rw [decide_eq_false n0]
      refine iteF ?_
      exact ⟨_, rfl, iteT ⟨_, rfl, raise1 (okA_int n9) fun d H' s h => K0 d H' s h⟩⟩
  obtain ⟨K1, K2⟩ := k1 hn3.1 hn3.2
  obtain ⟨m, rfl⟩ := Int.eq_ofNat_of_zero_le hn3.1
  have m3 : m ≤ 3 := by have := hn3.2; omega
  have em : ((m : Nat) : Int).toNat = m := Int.toNat_natCast m
  rw [em] at K2
  rw [decide_eq_true hn3.1]
  refine iteT ⟨_, _, rfl, rfl, _, rfl, ?_⟩
  rw [decide_eq_true hn3.2]
  refine iteF ?_
  -- the pieces
  refine ⟨_, rfl, st, _, 1, rfl, rfl, SqT.of hst, by decide, by decide, fun D hD => ?_⟩
  refine lc_it Sx.walk_enumTK (fun i H' => ∃ (as : List Addr) (Ds : List StD), H' D = some (.lst (as.map V.ref)) ∧ Paired (StageAt C Wc l v H') as Ds ∧ Ds.map textD = ts.take i ∧ (∀ d ∈ Ds, OkD d) ∧ (∀ t ∈ ts.take i, whatW l v (wordsT t) = none) ∧ as.length = i ∧ dueR l v 0 ts = dueR l v i (ts.drop i) ∧ Same H H') ⟨[], [], upd_same, .nil, rfl, (fun d hd => nomatch hd), (fun t ht => by rw [List.take_zero] at ht; cases ht), rfl, rfl, same_new hD⟩ (fun i H' _ ⟨_, _, _, _, _, _, _, _, _, s⟩ => SqT.of (s _ _ hst)) ?_ ?_
  · rintro i x H3 H4 hi ⟨as, Ds, hD3, pas, pm, od, aw, la, e2, s3⟩ ⟨T2, y, rfl, hT2', rfl, ey⟩
    obtain ⟨t, et, rfl⟩ : ∃ t, ts[i]? = some t ∧ y = .str (S t) := by
      unfold txs at ey
      rw [List.getElem?_map] at ey
      cases e : ts[i]? with
      | none => rw [e] at ey; cases ey
      | some d =>
        rw [e] at ey
        injection ey with ey
        exact ⟨d, rfl, ey.symm⟩
    have ilt := lt_of_get et
    have gi := gt t (List.mem_of_getElem? et)
    have ed : ts.drop i = t :: ts.drop (i + 1) := by
      rw [List.drop_eq_getElem_cons ilt]
      rw [List.getElem?_eq_getElem ilt] at et
      injection et with et
      rw [et]
    rw [ed] at e2
    have s4 : Same H3 (upd H3 T2 (.tup [.int (1 + (i : Int)), .str (S t)])) := same_new hT2'
    refine ⟨T2, _, rfl, SqT.of upd_same, rfl, _, _, rfl, _, _, rfl, rfl, rfl, ?_⟩
    have hD4 := s4 _ _ hD3
    have pas4 := p_mono (fun _ _ h => StageAt.same h s4) pas
    have q4 := s3.trans s4
    generalize upd H3 T2 (.tup [.int (1 + (i : Int)), .str (S t)]) = H4 at q4 hD4 pas4 ⊢
    refine ⟨_, rfl, _, rfl, _, rfl, p, 1 + (i : Int), l, v, wordsT t, by rw [wordsT_join]; rfl, by omega, al.same q4, hL, hv, wordsT_ne t, wordsT_words gi, wordsT_no t, ?_, ?_⟩
    · intro ew d2 a2 dx2 H5 s5 ha2 hw2 hn2 h32 al2
      rw [dueR_none ew] at e2
      have hD5 := s5 _ _ hD4
      have st2 : StageAt C Wc l v H5 a2 d2 := ⟨dx2, ha2, al2⟩
      have tx : textD d2 = t := by rw [← words_text, hw2, wordsT_join]
      refine ⟨_, hD5, ?_, as ++ [a2], Ds ++ [d2], ?_, ?_, ?_, ?_, ?_, by rw [List.length_append, la]; rfl, e2, ?_⟩
      · rw [List.length_map, la, sizeLine_eq]
        omega
      · rw [upd_same, List.map_append]
        rfl
      · have mv : ∀ (x : Addr) (y : StD), StageAt C Wc l v H5 x y → StageAt C Wc l v (upd H5 D (.lst (as.map V.ref ++ [V.ref a2]))) x y := fun x y ⟨dx1, e1, dq1, e2⟩ => ⟨dx1, by rw [upd_ne (ne_of e1 hD5 fun z => nomatch z)]; exact e1, dq1, by rw [upd_ne (ne_of e2 hD5 fun z => nomatch z)]; exact e2⟩
        exact Paired.snoc (p_mono (fun x y h => mv x y (h.same s5)) pas4) (mv a2 _ st2)
      · rw [take_snocG et, List.map_append, pm, List.map_cons, List.map_nil, tx]
      · intro d hd
        rcases List.mem_append.mp hd with hd | hd
        · exact od d hd
        · rw [List.mem_singleton.mp hd]
          exact ⟨hn2, h32⟩
      · intro u hu
        rw [take_snocG et] at hu
        rcases List.mem_append.mp hu with hu | hu
        · exact aw u hu
        · rw [List.mem_singleton.mp hu]
          exact ew
      · intro b o e
        rw [upd_ne (ne_of_none e hD)]
        exact s5 _ _ (q4 _ _ e)
    · intro x ew
      rw [dueR_some ew] at e2
      have tt := what_told _ _ ew
      refine ⟨⟨Nat.le_trans tt.1 (by decide), tt.2⟩, fun d H5 s5 hd => K1 (i + 1) x e2 d H5 (q4.trans s5) ?_⟩
      rw [hd, show (1 + (i : Int)) = ((i + 1 : Nat) : Int) by omega]
  rintro H2 ⟨as, Ds, hD2, pas, pm, od, aw, la, e2, s2⟩
  rw [ld] at pm la e2 aw
  rw [List.take_length] at pm aw
  rw [List.drop_length] at e2
  obtain ⟨K3, K4⟩ := K2 e2
  have pl : Ds.length = ts.length := by rw [← pm, List.length_map]
  -- a form that came before
  refine ⟨_, rfl, st, _, 1, rfl, rfl, SqT.of (s2 _ _ hst), by decide, by decide, ?_⟩
  refine for_it Sx.walk_enumTK (fun i σ H' => ∃ v5 v6 : Option V, σ = [some (.ref LC), some (.ref p), some (.int (m : Nat)), some (.ref st), some (.ref D), v5, v6, none] ∧ Same H2 H' ∧ dupI 0 [] ts = dupI i (ts.take i) (ts.drop i)) ⟨none, none, rfl, Same.refl _, rfl⟩ (fun i σ H' _ ⟨_, _, _, s, _⟩ => SqT.of (s _ _ (s2 _ _ hst))) ?_ ?_
  · rintro i x σ H3 H4 hi ⟨v5, v6, rfl, s3, e4⟩ ⟨T2, y, rfl, hT2', rfl, ey⟩
    obtain ⟨t, et, rfl⟩ : ∃ t, ts[i]? = some t ∧ y = .str (S t) := by
      unfold txs at ey
      rw [List.getElem?_map] at ey
      cases e : ts[i]? with
      | none => rw [e] at ey; cases ey
      | some d =>
        rw [e] at ey
        injection ey with ey
        exact ⟨d, rfl, ey.symm⟩
    have ilt := lt_of_get et
    have ed : ts.drop i = t :: ts.drop (i + 1) := by
      rw [List.drop_eq_getElem_cons ilt]
      rw [List.getElem?_eq_getElem ilt] at et
      injection et with et
      rw [et]
    rw [ed] at e4
    have e4 : dupI 0 [] ts = if t ∈ ts.take i then some (i + 1) else dupI (i + 1) (ts.take i ++ [t]) (ts.drop (i + 1)) := e4
    have s4 : Same H2 (upd H3 T2 (.tup [.int (1 + (i : Int)), .str (S t)])) := s3.trans (same_new hT2')
    refine ⟨T2, _, rfl, SqT.of upd_same, rfl, _, _, rfl, _, _, rfl, rfl, ?_⟩
    generalize upd H3 T2 (.tup [.int (1 + (i : Int)), .str (S t)]) = H4 at s4 ⊢
    refine ⟨_, rfl, _, rfl, _, rfl, _, _, rfl, rfl, (1 + (i : Int) - 1), rfl, st, _, rfl, SqT.of (s4 _ _ (s2 _ _ hst)), ?_, fun q hq => ?_⟩
    · rintro ⟨_, z⟩
      rw [show (1 + (i : Int) - 1) = (i : Int) by omega, HT.sIx_nat, ld] at z
      omega
    rw [show (1 + (i : Int) - 1) = (i : Int) by omega, cut_to _ (by rw [ld]; omega)]
    have et2 : (txs ts).take i = txs (ts.take i) := by
      unfold txs
      rw [List.map_take]
    rw [et2]
    refine ⟨q, _, rfl, .inr (SqT.of upd_same), rfl, flat_txs _, _, rfl, ?_⟩
    have ef : (if false = true then !inV (.str (S t)) (txs (ts.take i)) else inV (.str (S t)) (txs (ts.take i))) = decide (t ∈ ts.take i) := by
      rw [if_neg Bool.false_ne_true, inVtxs]
    rw [ef]
    by_cases hd : t ∈ ts.take i
    · rw [if_pos hd] at e4
      rw [decide_eq_true hd]
      refine iteT ⟨_, rfl, ?_⟩
      refine raise1 (okA_int (by omega)) fun d H' s h => K3 (i + 1) e4 d H' ((s2.trans (s4.trans (same_new hq))).trans s) ?_
      rw [h, show (1 + (i : Int)) = ((i + 1 : Nat) : Int) by omega]
    · rw [if_neg hd] at e4
      rw [decide_eq_false hd]
      exact iteF ⟨_, _, rfl, s4.trans (same_new hq), by rw [take_snocG et]; exact e4⟩
  rintro σ H3 ⟨v5, v6, rfl, s3, e4⟩
  rw [ld, List.drop_length] at e4
  obtain ⟨K5, K6⟩ := K4 e4
  have nd : ts.Nodup := dup_nodup (seen := []) e4 List.nodup_nil
  have hD3 := s3 _ _ hD2
  have lm : (as.map V.ref).length = ts.length := by rw [List.length_map, la]
  refine ⟨_, rfl, D, _, rfl, .inl (SqL.of hD3), _, rfl, ts.length, m, by rw [lm]; rfl, by omega, m3, ?_⟩
  show Ends.nx _ _ _
  refine ⟨_, rfl, _, rfl, LC, mc, .int 200, u200, rfl, CL, c200, _, _, rfl, rfl, _, rfl, ?_⟩
  have cb := cnt12 t12 m3
  refine ite2 (fun q => ?_) (fun q => ?_)
  · have hc : 200 < cnt ts.length m := by
      have z := of_decide_eq_true q
      omega
    refine ⟨_, rfl, ?_⟩
    exact raise1 (.inr ⟨_, rfl, by omega⟩) fun d' H4 s4 h => K5 hc d' H4 ((s2.trans s3).trans s4) h
  have hc : cnt ts.length m ≤ 200 := by
    have z : ¬ ((cnt ts.length m : Nat) : Int) > 200 := fun z => q (decide_eq_true z)
    omega
  -- the rules
  have s23 := s2.trans s3
  have pas3 := p_mono (fun _ _ h => StageAt.same h s3) pas
  have las : as.length = ts.length := la
  refine ⟨rfl, _, rfl, _, rfl, D, m, as, rfl, hD3, m3, by rw [las]; omega, fun R cs H5 s5 hR pr => ?_⟩
  have al5 := (al.same s23).same s5
  have pch := chs_paired pas3 m
  have lcs := pr.length
  have lch := pch.length
  refine ⟨R, rfl, ⟨_, SqL.of hR⟩, fun D2 hD2' => ?_⟩
  refine lc_it walk_list (fun i H' => ∃ (rA : List Addr), H' D2 = some (.lst (rA.map V.ref)) ∧ Paired (fun x c => RuleAt C RC Wc H' x l v c) rA ((chs Ds m).take i) ∧ rA.length = i ∧ Same H5 H') ⟨[], upd_same, .nil, rfl, same_new hD2'⟩ (fun i H' _ ⟨_, _, _, _, s⟩ => SqL.of (s _ _ hR)) ?_ ?_
  · rintro i x H6 H6' hi ⟨rA, hD6, pR, lR, s6⟩ ⟨rfl, ex⟩
    obtain ⟨ci, eci, rfl⟩ := ref_at ex
    obtain ⟨c, ec, hc2⟩ := p_get pr eci
    obtain ⟨C2, eC2, pc2⟩ := p_get pch ec
    have cin := chs_in (List.mem_of_getElem? ec)
    have c4 : c.length ≤ 3 := Nat.le_trans cin.1 m3
    refine ⟨rfl, _, rfl, _, rfl, ci, c.map V.ref, rfl, .inr (SqL.of (s6 _ _ hc2)), ?_⟩
    intro x dx hx hdx nx
    refine ⟨[.ref x, .ref p], c.map V.ref ++ [], rfl, rfl, ?_, fun tp htp => ?_⟩
    · rw [List.append_nil, List.length_map, sizeLine_eq]
      omega
    rw [List.append_nil]
    have s7 : Same H6' (upd (upd (upd H6' dx (.own x)) x (.ins RC dx [])) tp (.tup (c.map V.ref))) := (same_mk hx hdx).trans (same_new htp)
    have s57 := (s5.trans s6).trans s7
    refine ⟨x, dx, p, tp, l, v, c, C2, rfl, same_new htp _ _ upd_same, ((al5.same s6).same s7), hL, hv, upd_same, p_mono (fun _ _ h => StageAt.same h s57) pc2, by have := pc2.length; omega, fun H8 k8 hR8 => ⟨rfl, ?_⟩⟩
    have s8 : Same H6' H8 := fun b o e => k8 _ _ (ne_of_none e hx) (s7 _ _ e)
    have hD8 := s8 _ _ hD6
    refine ⟨_, hD8, ?_, rA ++ [x], ?_, ?_, by rw [List.length_append, lR]; rfl, ?_⟩
    · have lt := lt_of_get eC2
      rw [List.length_map, lR, sizeLine_eq]
      have : (chs Ds m).length ≤ 200 := by rw [chs_length, pl]; exact hc
      omega
    · rw [upd_same, List.map_append]
      rfl
    · rw [take_snocG eC2]
      exact Paired.snoc (p_mono (fun y d h => ruleAt_lst (h.same s8) hD8) pR) (ruleAt_lst hR8 hD8)
    · intro b o e
      rw [upd_ne (ne_of_none e hD2')]
      exact s8 _ _ (s6 _ _ e)
  rintro H6 ⟨rA, hD6, pR, lR, s6⟩
  have e6 : (cs.map V.ref).length = (chs Ds m).length := by rw [List.length_map, lcs, lch]
  rw [e6, List.take_length] at pR
  intro x dx hx hdx nx
  have s7 : Same H6 (upd (upd H6 dx (.own x)) x (.ins LC dx [])) := same_mk hx hdx
  have lC : (chs Ds m).length = cnt ts.length m := by rw [chs_length, pl]
  have pos : 0 < (chs Ds m).length := by
    rw [lC]
    exact Nat.lt_of_lt_of_le (show 0 < cnt ts.length 0 from Nat.one_pos) (cnt_mono (Nat.zero_le m))
  have prs : ∀ (Hx : Hp) {xs : List Addr} {cs : List (List StD)}, Paired (fun x c => RuleAt C RC Wc Hx x l v c) xs cs → Paired (fun x (r : List Nat × List StD) => RuleAt C RC Wc Hx x l r.1 r.2) xs (cs.map fun c => (v, c)) := fun Hx {xs cs} h => by
    induction h with
    | nil => exact .nil
    | cons a t ih => exact .cons a ih
  have bad := badLot_same (v0 := v) pos (chs_texts pm (fun t ht => what_text hL (aw t ht)) nd m)
  refine ⟨x, dx, D2, l, rA, (chs Ds m).map fun c => (v, c), rfl, upd_same, hL, fun r hr => ?_, s7 _ _ hD6, ?_, by rw [List.length_map, lC]; omega, fun r hr => ?_, fun _ H8 k8 => ⟨rfl, ?_⟩, fun n0 e d H' s' h => ?_⟩
  · obtain ⟨c, _, rfl⟩ := List.mem_map.mp hr
    exact hv
  · exact prs _ (p_mono (fun _ _ h => h.same s7) pR)
  · obtain ⟨c, hc', rfl⟩ := List.mem_map.mp hr
    have cin := chs_in hc'
    exact ⟨by show c.length ≤ 4; have := cin.1; omega, fun d hd => od d (cin.2 d hd)⟩
  · exact K6 hc x H8 fun b o e => k8 _ _ (ne_of_none ((s23.trans (s5.trans s6)) _ _ e) hx) (s7 _ _ ((s23.trans (s5.trans s6)) _ _ e))
  · rw [bad] at e
    cases e
theorem ok_made {f fP fH fCh fR fL fX fB fM : Addr} {fd fdP fdH fdCh fdX fdB fdM : FuncData} {mc : Value} {tk : Tok} (F : FunD K "made" "Lot.made" (defArgs sMade) (defBody sMade) (defScope sMade) [] [("depth", .int 2)] f fd) (CL : ClX.CRead K LC mc) (cM : ∃ u, ClX.CVal K LC mc "MOST" (.int 200) u) (gG : mg "_GREATEST_DEPTH" = some (.int 3 tk))
    (GP : FnOk P w K mg base (L2.CX P w) 12 fP fdP ["alphabet", "number", "piece"] (spPieceX C BR Wc)) (bP : Binds K fdP ["alphabet", "number", "piece"] []) (gP : mg "read_piece" = some (.ref fP)) (kP : PySem.W.keepIn K (.ref fP) = true)
    (GH : FnOk P w K mg base CX0 1 fH fdH ["pieces", "depth"] spHowMany) (bH : Binds K fdH ["pieces", "depth"] []) (gH : mg "_how_many_rules" = some (.ref fH)) (kH : PySem.W.keepIn K (.ref fH) = true)
    (GC : FnOk P w K mg base CX0 1 fCh fdCh ["pieces", "depth"] spChoices) (bC : Binds K fdCh ["pieces", "depth"] []) (gC : mg "_choices" = some (.ref fCh)) (kC : PySem.W.keepIn K (.ref fCh) = true)
    (MR : Mk K RC fR) (gR : mg "Rule" = some (.ref RC)) (FR : FnR P w K mg base CX0 6 fR (fun vs H Q E => ∃ ws rest, vs = ws ++ rest ∧ ws.length = ["self", "alphabet"].length ∧ rest.length ≤ sizeLine ∧ ∀ p, H p = Option.none → spRuleI C RC Wc (ws ++ [V.ref p]) (upd H p (.tup rest)) Q E))
    (ML : Mk K LC fL) (FL : FnR P w K mg base (L2.CX P w) 6 fL (spLotX C RC LC BL Wc)) (XT : RaiseX P w K mg base "TooMany" ["self", "number"] (spX1 TM "number") TM fX fdX) (XB : RaiseX P w K mg base "BadLot" ["self", "number"] (spX1 BL "number") BL fB fdB) (XM : RaiseX P w K mg base "BadLimit" ["self", "limit"] (spX1 BM "asked") BM fM fdM)
    (hn : mg "len" = none) (hE : mg "enumerate" = none) :
    Sx.FnKw P w K mg base (L2.CX P w) 14 f ["depth"] (spMade C RC LC BM BR BL TM) := by
  obtain ⟨oc, od, dV, kV, doc, pm, an, cdv, ct, osl, rfl, lk, hcd, hD, hK⟩ := F.ex
  obtain rfl : dV = .none := by
    rcases hD with ⟨_, e⟩ | ⟨n, _⟩
    · exact e
    · exact absurd rfl n
  have core := Sx.fn_starK (CX := L2.CX P w) (P := P) (w := w) (mg := mg) (base := base) (sp := spMadeI C RC LC BM BR BL TM) (ps := ["cls", "alphabet"]) (pv := "stages") (ks := ["depth"]) (N := nMade) (k := 13) lk hcd scMade StX.cxUp (fun us rest ws h1 h2 => match us, h1, rest, ws, h2 with | [a, b], _, [], [d], _ => by rfl | [a, b], _, r :: rs, [d], _ => by rfl)
    (fun A outer s H vs Q E hr h => made_body CL cM gG GP bP gP kP GH bH gH kH GC bC gC kC MR gR FR ML FL XT XB XM hn hE hr h)
  intro A outer s H us ws vs zs Q E hr e0 r rz lz h
  exact core A outer s H us ws vs zs Q E hr e0 r rz lz (made_star h)
end
end Cl.K54
set_option Elab.async false
set_option linter.all false
set_option maxRecDepth 100000
set_option maxHeartbeats 4000000
/-! try with several clauses, of which some name their error. -/
namespace Sx
open PySem PySem.Spec L2 PyProof.Rows
/-- an error at a, told of by (cls, d), that has come down in X's frame: s is the state with it, sI the one without -/
structure Landed (X : Cx) (pins : List (Addr × Obj)) (σ : L2.St) (H : Hp) (a : Addr) (cls : Value) (d : Option Addr) (B : Heap) (sI s : Shared) : Prop where
  inv : Inv X pins σ H sI
  near : ∀ b o, sI.heap.get? b = some o → b ∉ frs X.stack → B.get? b = some o
  up : sI.heap.UpToSlots s.heap
  fly : HandSPX.FlyingZ B (X.env :: X.outer) a (Zc cls d) s.heap
  na : H a = none
  os : s.os = sI.os
  ag : AllBare s.gens
section
variable {X : Cx} {pins : List (Addr × Obj)} {σ : L2.St} {H : Hp} {a : Addr} {cls : Value} {d : Option Addr} {B : Heap} {sI s : Shared}
theorem Landed.again (x : Landed X pins σ H a cls d B sI s) {h' : Heap} (fly : HandSPX.FlyingZ B (X.env :: X.outer) a (Zc cls d) h') (up : s.heap.UpToSlots h') : Landed X pins σ H a cls d B sI { s with heap := h' } :=
  { x with up := x.up.trans up, fly := fly, os := x.os, ag := x.ag }
theorem Landed.here (x : Landed X pins σ H a cls d B sI s) : Inv X pins σ H s := x.inv.landed x.near x.fly.1 x.up x.os x.ag
/-- the error's own object is no frame -/
theorem Landed.obj (x : Landed X pins σ H a cls d B sI s) (hs : X.stack = X.env :: X.outer) (hf : X.env.frame = some X.env.locals) : ∃ (oe : Obj) (vs : Array Value), s.heap.get? a = some oe ∧ Zc cls d oe ∧ oe.data = .fields vs ∧ a ≠ X.env.locals ∧ a ∉ X.fs := by
  obtain ⟨_, _, frames, oe, vs, T, oT, ts, at_, told, dat, _⟩ := x.fly
  have out : a ∉ frs (X.env :: X.outer) := by
    intro m
    obtain ⟨_, o, e, other⟩ := frames.mem m
    rw [at_] at e
    injection e with e
    subst e
    exact other _ dat
  refine ⟨oe, vs, at_, told, dat, fun z => out ?_, fun m => out ?_⟩
  · exact List.mem_filterMap.mpr ⟨X.env, List.mem_cons_self .., by rw [hf, z]⟩
  · obtain ⟨env, me, fe⟩ := List.mem_filterMap.mp m
    exact List.mem_filterMap.mpr ⟨env, List.mem_cons_of_mem _ me, fe⟩
/-- a clause's class is asked -/
theorem Landed.test (x : Landed X pins σ H a cls d B sI s) (hs : X.stack = X.env :: X.outer) (hf : X.env.frame = some X.env.locals) {nm : Str} {c : Value} {np : Pos} {b : Bool} (names : Names X nm c) (asked : PySem.W.exmOne X.K cls c = some b) {Q : Bool → Shared → Prop} {R R' : Value → Shared → Prop}
    (q : Q b s) : wpAny (model X.prog X.w) (X.A.mark (some (.ref a))) (eval (.Name nm np) X.env) (fun v s1 => wpAny (model X.prog X.w) (X.A.mark (some (.ref a))) (excMatches (.ref a) v) Q R s1) R' s := by
  obtain ⟨oe, vs, at_, told, dat, nL, nF⟩ := x.obj hs hf
  have I := x.here
  have inside := I.suite at_ dat x.na nL nF
  have kind : PySem.W.Looks (model X.prog X.w) s.heap (typeOf (.ref a)) cls := fun _ _ _ _ k z => wpAny_typeOf_ref (k a oe at_) (by rw [told.1]; exact z)
  have answer : wpAny (model X.prog X.w) (X.A.mark (some (.ref a))) (excMatches (.ref a) c) Q R s := (PySem.W.exm_one I.kIn kind asked).here q
  rcases names with ⟨gl, nd, here | ⟨free, boot, nn⟩⟩
  · exact ld_glob (X := X.suite a ((a, oe) :: (X.pn ++ pins))) inside gl here answer nd
  · exact ld_blt (X := X.suite a ((a, oe) :: (X.pn ++ pins))) inside gl free boot answer nn nd
/-- no clause is left: the error goes on -/
theorem Landed.on (x : Landed X pins σ H a cls d B sI s) (hs : X.stack = X.env :: X.outer) (hf : X.env.frame = some X.env.locals) {W : WX} (tk : Takes X W) (wish : W cls d σ H) {Q : Flow → Shared → Prop} : wpAny (model X.prog X.w) X.A (handleBy (.ref a) X.env []) Q X.xe s := by
  refine wpAny_handleBy_nil ?_
  obtain ⟨_, _, _, oe, vs, T, oT, ts, at_, _, dat, back, _⟩ := id x.fly
  have leave : wpAny (model X.prog X.w) X.A (setFlight (.ref a) X.env.frame) (fun _ s2 => wpAny (model X.prog X.w) X.A (throw (.ref a) : Sem Flow) Q X.xe s2) X.xe s := by
    rw [hf]
    refine HandSPX.setFlight_upZ x.fly fun h' held up => wpAny_throw (tk _ _ ?_)
    refine ⟨a, B, sI, pins, σ, H, cls, d, rfl, x.inv, x.near, x.up.trans up, ?_, x.na, x.os, x.ag, wish⟩
    rw [hs]
    exact .inr (.inr held)
  unfold PySem.passOn
  refine wpAny_bind (wpAny_field at_ dat back ?_)
  have some_ : (Value.ref T == Value.none) = false := by simp
  simp only [some_, Bool.false_eq_true, if_false]
  first
    | exact wpAny_bind leave
    | exact wpAny_bind (wpAny_pure (wpAny_bind leave))
end
/-- what the clauses wish, one behind the other: W0 where none of them takes the error -/
abbrev Wish := Ends → WX → WX
def wPlain (K : PySem.W.Frag) (c : Value) (ts : Addr → Value → Option Addr → TS) (rest : Wish) : Wish := fun D W0 cls d σ H =>
  ∃ b, PySem.W.exmOne K cls c = some b ∧ (b = true → ∀ a, H a = none → ts a cls d D σ H) ∧ (b = false → rest D W0 cls d σ H)
/-- the slot of a clause's name is emptied behind the suite -/
def emptied (i : Nat) (D : Ends) : Ends := { nx := fun σ H => D.nx (σ.set i none) H, rt := D.rt, bk := fun σ H => D.bk (σ.set i none) H, ct := fun σ H => D.ct (σ.set i none) H }
def wNamed (K : PySem.W.Frag) (c : Value) (i : Nat) (ts : Addr → Value → Option Addr → TS) (rest : Wish) : Wish := fun D W0 cls d σ H =>
  ∃ b, PySem.W.exmOne K cls c = some b ∧ (b = true → ∀ a, H a = none → ts a cls d (emptied i D) (σ.set i (some (.ref a))) H) ∧ (b = false → rest D W0 cls d σ H)
inductive Clauses (X : Cx) : List ExceptHandler → Wish → Prop
  | none : Clauses X [] fun _ W => W
  | plain {nm : Str} {c : Value} {ts : Addr → Value → Option Addr → TS} {b0 : Stmt} {suite : List Stmt} {np po : Pos} {hds : List ExceptHandler} {rest : Wish} (names : Names X nm c)
      (body : ∀ (a : Addr) (oe : Obj) (cls : Value) (d : Option Addr) (pn : List (Addr × Obj)), Zc cls d oe → (∃ vs, oe.data = .fields vs) → PSs (X.suite a ((a, oe) :: pn)) (b0 :: suite) (ts a cls d)) (r : Clauses X hds rest) :
      Clauses X (.ExceptHandler (some (.Name nm np)) Option.none (b0 :: suite) po :: hds) (wPlain X.K c ts rest)
  | named {nm n : Str} {c : Value} {i : Nat} {ts : Addr → Value → Option Addr → TS} {b0 : Stmt} {suite : List Stmt} {np po : Pos} {hds : List ExceptHandler} {rest : Wish} (names : Names X nm c) (nd : X.N.Nodup) (slot : X.N[i]? = some n) (loc : X.env.kindOf n = some .local)
      (body : ∀ (a : Addr) (oe : Obj) (cls : Value) (d : Option Addr) (pn : List (Addr × Obj)), Zc cls d oe → (∃ vs, oe.data = .fields vs) → PSs (X.suite a ((a, oe) :: pn)) (b0 :: suite) (ts a cls d)) (r : Clauses X hds rest) :
      Clauses X (.ExceptHandler (some (.Name nm np)) (some n) (b0 :: suite) po :: hds) (wNamed X.K c i ts rest)
section
variable {X : Cx} {pins : List (Addr × Obj)} {D : Ends} {W0 : WX}
theorem unmark {a : Addr} {q : Addr × Obj} {pn : List (Addr × Obj)} (ok : X.Ok) {f : Flow} {s : Shared} (h : SP (X.suite a (q :: (X.pn ++ pins))) pn D f s) : SP X pins D f s := by
  cases f with
  | ret u =>
    obtain ⟨v, σ, H, J, rel, wish⟩ := h
    exact ⟨v, σ, H, J.unsuite ok, rel, wish⟩
  | _ =>
    obtain ⟨σ, H, J, wish⟩ := h
    exact ⟨σ, H, J.unsuite ok, wish⟩
theorem handled {hds : List ExceptHandler} {wish : Wish} (cs : Clauses X hds wish) (hs : X.stack = X.env :: X.outer) (hf : X.env.frame = some X.env.locals) (tk : Takes X W0) {σ : L2.St} {H : Hp} {a : Addr} {cls : Value} {d : Option Addr} {B : Heap} {sI s : Shared}
    (x : Landed X pins σ H a cls d B sI s) (w : wish D W0 cls d σ H) : wpAny (model X.prog X.w) X.A (handleBy (.ref a) X.env hds) (SP X pins D) X.xe s := by
  induction cs with
  | none => exact x.on hs hf tk w
  | plain names body r ih =>
    obtain ⟨b, asked, yes, no⟩ := w
    refine wpAny_handleBy_cons (codeAny_handlers_test (x.test hs hf names asked ?_)) (fun q => nomatch q)
    cases b with
    | false => exact ih (no rfl)
    | true =>
      refine codeAny_handlers_suite (HandSPX.lands_againZ x.fly fun h' fly' up' => ?_)
      have x' := x.again fly' up'
      obtain ⟨oe, vs, at_, told, dat, nL, nF⟩ := x'.obj hs hf
      exact wpAny_mono ((body a oe cls d (X.pn ++ pins) told ⟨vs, dat⟩).run [] _ σ H D (x'.here.suite at_ dat x'.na nL nF) (yes rfl a x.na)) (fun f s2 q => unmark x.inv.ok q) fun _ _ q => q.elim
  | named names nd slot loc body r ih =>
    obtain ⟨b, asked, yes, no⟩ := w
    refine wpAny_handleBy_cons (codeAny_handlers_test (x.test hs hf names asked ?_)) (fun q => nomatch q)
    cases b with
    | false => exact ih (no rfl)
    | true =>
      refine codeAny_handlers_suite_as (HandSPX.lands_againZ x.fly fun h' fly' up' => ?_)
      have x' := x.again fly' up'
      obtain ⟨oe, vs, at_, told, dat, nL, nF⟩ := x'.obj hs hf
      refine store_ok (X := X.suite a ((a, oe) :: (X.pn ++ pins))) (v := .ref a) (x'.here.suite at_ dat x'.na nL nF) nd slot (.inl loc) rfl (fun s2 I2 => ?_) (.inr loc)
      refine wpAny_mono ((body a oe cls d (X.pn ++ pins) told ⟨vs, dat⟩).run [] s2 _ H _ I2 (yes rfl a x.na)) (fun f s3 q => ?_) fun _ _ q => q.elim
      cases f with
      | ret u =>
        obtain ⟨v, σ', H', J, rel, wish⟩ := q
        exact gone_ok (J.unsuite x.inv.ok) nd slot loc fun s4 J4 => ⟨v, _, H', J4, rel, wish⟩
      | next =>
        obtain ⟨σ', H', J, wish⟩ := q
        exact gone_ok (J.unsuite x.inv.ok) nd slot loc fun s4 J4 => ⟨_, H', J4, wish⟩
      | brk =>
        obtain ⟨σ', H', J, wish⟩ := q
        exact gone_ok (J.unsuite x.inv.ok) nd slot loc fun s4 J4 => ⟨_, H', J4, wish⟩
      | cont =>
        obtain ⟨σ', H', J, wish⟩ := q
        exact gone_ok (J.unsuite x.inv.ok) nd slot loc fun s4 J4 => ⟨_, H', J4, wish⟩
theorem untried {pn : List (Addr × Obj)} {xe : Value → Shared → Prop} (ok : X.Ok) {f : Flow} {s : Shared} (h : SP (X.tr (X.pn ++ pins) xe) pn D f s) : SP X pins D f s := by
  cases f with
  | ret u =>
    obtain ⟨v, σ, H, J, rel, wish⟩ := h
    exact ⟨v, σ, H, J.ofTry ok, rel, wish⟩
  | _ =>
    obtain ⟨σ, H, J, wish⟩ := h
    exact ⟨σ, H, J.ofTry ok, wish⟩
/-- THE RULE -/
theorem ps_try_cl {body : List Stmt} {h0 : ExceptHandler} {hds : List ExceptHandler} {po : Pos} {tb : WX → TS} {wish : Wish} (hs : X.stack = X.env :: X.outer) (hf : X.env.frame = some X.env.locals) (tk : Takes X W0)
    (hb : ∀ (W : WX) (pn : List (Addr × Obj)) (xe : Value → Shared → Prop), Takes (X.tr pn xe) W → PassesOwn (model X.prog X.w) X.A X.env xe → PSs (X.tr pn xe) body (tb W)) (cs : Clauses X (h0 :: hds) wish) :
    PS X (.Try body (h0 :: hds) [] [] po) fun D σ H => tb (wish D W0) D σ H := by
  constructor
  intro pins s σ H D I h
  have ok := I.ok
  have frames : X.A.frames = some (X.env :: X.outer) := by rw [ok.frames, hs]
  let caught : Value → Shared → Prop := fun e s1 => wpAny (model X.prog X.w) X.A (noteFrame e X.env) (fun _ s2 => wpAny (model X.prog X.w) X.A (setFlight e none) (fun _ s3 => wpAny (model X.prog X.w) X.A (handleBy e X.env (h0 :: hds)) (SP X pins D) X.xe s3) X.xe s2) X.xe s1
  have takes : Takes (X.tr (X.pn ++ pins) caught) (wish D W0) := by
    rintro u s' ⟨a, B, sI, pins', σ', H', cls, d, rfl, J, near, up, sky, na, os, ag, w⟩
    have sky' : Sky B (X.env :: X.outer) a (Zc cls d) X.env.locals s'.heap := by
      rw [← hs]
      exact sky
    refine Sky.land Zc.steady frames hf sky' fun h' fly up' => ?_
    exact handled cs hs hf tk ⟨J.ofTry ok, near, up.trans up', fly, na, os, ag⟩ w
  have run := (hb (wish D W0) (X.pn ++ pins) caught takes PassesOwn.looking).run [] s σ H D (I.toTry _) h
  refine wpAny_Try_except (wpAny_mono run (fun f s1 q => ?_) fun e s1 q => q)
  have q' := untried ok q
  cases f with
  | next => exact wpAny_execs_nil q'
  | ret u => exact q'
  | brk => exact q'
  | cont => exact q'
end
end Sx
set_option Elab.async false
set_option linter.all false
set_option maxRecDepth 100000
set_option maxHeartbeats 4000000
/-! Many arguments that are items of one list. -/
namespace Cl
open PySem PySem.Spec L2 PyProof.Rows
/-- x[j], x[j + 1], .. : n of them -/
inductive IxsP (x : Str) : Nat → Nat → List Expr → Prop
  | nil {j : Nat} : IxsP x j 0 []
  | cons {j n : Nat} {k : Int} {p q pos : Pos} {c : Nat} {r : List Expr} (e : k = (j : Int)) (h : IxsP x (j + 1) n r) : IxsP x j (n + 1) (.Subscript (.Name x p) (.Constant (.int k) c q) pos :: r)
def tIxs (K : PySem.W.Frag) (i : Nat) : Nat → Nat → TA
  | _, 0 => tNil
  | j, n + 1 => tCons (tOp (rIxL K) (tVar i) (tC (.int (j : Nat)))) (tIxs K i (j + 1) n)
section
variable {X : Cx} {x : Str} {i : Nat}
theorem pa_ixs (hx : X.N[i]? = some x) (hv : Vis X.env.scope x) (hd : (x == ("__debug__" : Str)) = false) (hcd : (x == ("__classdict__" : Str)) = false) : ∀ {j n : Nat} {es : List Expr}, IxsP x j n es → PA X es (tIxs X.K i j n)
  | _, _, _, .nil => pa_nil
  | j, _, _, .cons e h => by
    subst e
    exact pa_cons (pe_ix ix_list (pe_var hx hv hd hcd) pe_int (fun _ _ => rfl)) (pa_ixs hx hv hd hcd h)
end
theorem ixs_val {K : PySem.W.Frag} {i : Nat} {σ : L2.St} {H : Hp} {T : Addr} {xs : List V} (hσ : σ[i]? = some (some (.ref T))) (hT : H T = some (.lst xs)) : ∀ (n j : Nat) (Q : List V → Hp → Prop), j + n ≤ xs.length → Q ((xs.drop j).take n) H → tIxs K i j n σ H Q
  | 0, j, Q, _, h => by
    rw [List.take_zero] at h
    exact h
  | n + 1, j, Q, hl, h => by
    have e : xs.drop j = xs[j] :: xs.drop (j + 1) := List.drop_eq_getElem_cons (by omega)
    refine ⟨_, hσ, T, xs, (j : Int), xs[j], rfl, rfl, SqL.of hT, atI_pos (by omega) (by rw [Int.toNat_natCast]; exact List.getElem?_eq_getElem (by omega)), ?_⟩
    refine ixs_val hσ hT n (j + 1) _ (by omega) ?_
    rw [e, List.take_succ_cons] at h
    exact h
end Cl
set_option Elab.async false
set_option linter.all false
set_option maxRecDepth 100000
set_option maxHeartbeats 4000000
/-! C.m(e, .., k = v) with places that are not told: the name and the call begin on one line. -/
namespace Sx
open PySem PySem.Spec L2 PyProof.Rows
section
variable {X : Cx} {CX : CXT} {k : Nat} {C p g : Addr} {mc : Value} {sp : List V → Sp} {o e : Expr} {es : List Expr} {m : Str} {pos apos : Pos} {ta : TE} {t tk : TA} {ks : List Str} {kws : List Keyword}
theorem pe_cmethKB {Eo : L2.St → XK} (he : PE X o ta) (r : ClX.CRead X.K C mc) (c : ClX.CMet X.K C mc m p g) (F : FnKw X.prog X.w X.K X.mg X.base CX k g ks sp) (hr : Room k X.A) (hx : ∀ σ, PassesAt CX X σ (Eo σ)) (ha : PA X (e :: es) t) (hkw : PK X kws tk)
    (hline : (apos.endLine == pos.line) = true) (hfew : methodCallForm ((e :: es).length + kws.length) (backTo pos (starEach (e :: es) X.env)) (backToKw pos (keywordEach kws X.env)) = true)
    (hpl : ((backTo pos (starEach (e :: es) X.env)).any (·.1) || (backToKw pos (keywordEach kws X.env)).any (·.1.isNone)) = false)
    (hall : (backToKw pos (keywordEach kws X.env)).all (·.1.isSome) = true := by rfl) (hks : (backToKw pos (keywordEach kws X.env)).filterMap (·.1) = ks := by rfl)
    (hst : starEach (e :: es) X.env = (false, eval e X.env) :: starEach es X.env := by rfl)
    (ht : eval (.Call (.Attribute o m apos) (e :: es) kws pos) X.env = (do
      let ov ← eval o X.env
      standAt apos.atName
      methodCall o m apos pos X.env ov ((e :: es).length + kws.length) (backTo pos (starEach (e :: es) X.env)) (backToKw pos (keywordEach kws X.env))) := by rfl) :
    PE X (.Call (.Attribute o m apos) (e :: es) kws pos) (tCMethKS C ks.length sp Eo ta t tk) := by
  refine ⟨fun pins s σ H Q I h => ?_⟩
  rw [ht]
  refine wpAny_bind (thn (he.run pins s σ H _ I h) fun u s1 ⟨x, H1, I1, rx, ex, q⟩ => ?_)
  subst ex
  obtain rfl : u = Value.ref C := rx
  refine wpAny_bind (wpAny_standAt ?_)
  unfold methodCall
  rw [hfew]
  refine wpAny_bind (wpAny_holding ?_)
  show wpAny _ _ (getMethod (.ref C) m (do return (← importBound o X.env).getD true)) _ _ _
  refine ClX.getmethcm_ok I1 r c fun s2 I2 => ?_
  refine wpAny_bind ?_
  unfold methodCallPos
  rw [hline, Bool.or_true]
  refine wpAny_pure ?_
  refine PySem.W.callWith_of (P := PySem.W.MethP X.K _ g (.ref C)) hpl (PySem.W.keeps_M c.fi) (evalArgs_kw2 hall (thn (ha.run pos _ s2 σ H1 _ I2 q) fun us s3 ⟨vs, H2, I3, rv, q2⟩ => thn (hkw.run pos _ s3 σ H2 _ I3 q2) fun ws s4 ⟨zs, H4, I4, rz, l2, q3⟩ => ⟨⟨ClX.pin_at I4, I4.kIn⟩, ?_⟩) hst)
  rw [hks]
  exact run_cmKS F hr (hx σ) I4 rv rz l2 q3
end
end Sx
set_option Elab.async false
set_option linter.all false
set_option maxRecDepth 100000
set_option maxHeartbeats 16000000
namespace Cl
open PySem PySem.Spec L2 PyProof.Rows
section
variable {X : Cx} {CX : CXT} {k i : Nat} {C p g : Addr} {mc : Value} {sp : List V → Sp} {e : Expr} {m x y z kw : Str} {pos apos p1 p2 p3 q0 r0 u0 q1 r1 u1 q2 r2 u2 q3 r3 u3 q4 r4 u4 q5 r5 u5 : Pos} {c0 c1 c2 c3 c4 c5 : Nat} {ta : TE} {t0 tv : TE}
/-- Y.m(z, x[0], .., x[5], kw = e) -/
theorem pe_made6 {Eo : L2.St → XK} (he : PE X (.Name y p1) ta) (r : ClX.CRead X.K C mc) (c : ClX.CMet X.K C mc m p g) (F : Sx.FnKw X.prog X.w X.K X.mg X.base CX k g [kw] sp) (hr : Room k X.A) (hx : ∀ σ, PassesAt CX X σ (Eo σ)) (h0 : PE X (.Name z p2) t0)
    (hx' : X.N[i]? = some x) (hv : Vis X.env.scope x) (hd : (x == ("__debug__" : Str)) = false) (hcd : (x == ("__classdict__" : Str)) = false) (hk : PE X e tv) (hline : (apos.endLine == pos.line) = true) :
    PE X (.Call (.Attribute (.Name y p1) m apos) (.Name z p2 :: [.Subscript (.Name x q0) (.Constant (.int 0) c0 r0) u0, .Subscript (.Name x q1) (.Constant (.int 1) c1 r1) u1, .Subscript (.Name x q2) (.Constant (.int 2) c2 r2) u2, .Subscript (.Name x q3) (.Constant (.int 3) c3 r3) u3, .Subscript (.Name x q4) (.Constant (.int 4) c4 r4) u4, .Subscript (.Name x q5) (.Constant (.int 5) c5 r5) u5]) [⟨some kw, e, p3⟩] pos) (Sx.tCMethKS C 1 sp Eo ta (tCons t0 (tIxs X.K i 0 6)) (tCons tv tNil)) :=
  Sx.pe_cmethKB (ks := [kw]) he r c F hr hx (pa_cons h0 (pa_ixs hx' hv hd hcd (j := 0) (n := 6) (.cons rfl (.cons rfl (.cons rfl (.cons rfl (.cons rfl (.cons rfl .nil)))))))) (pk_cons hk pk_nil) hline rfl rfl
end
/-- what is due, as data -/
def dueMD (l v : List Nat) (ts : List (List Nat)) (n : Int) : PyData :=
  if 0 ≤ n ∧ n ≤ 3 then match dueR l v 0 ts with
    | some (i, x) => .tuple [.str ("rule" : Str), .int (i : Nat), .str (S x)]
    | none => match dupI 0 [] ts with
      | some i => .tuple [.str ("lot" : Str), .int (i : Nat)]
      | none => if 200 < cnt ts.length n.toNat then .tuple [.str ("many" : Str), .int (cnt ts.length n.toNat : Nat)] else .none
  else .tuple [.str ("depth" : Str), .int n]
def oN : Option Nat → V
  | none => .non
  | some n => .int (n : Nat)
def spTold (C RC : Addr) (Wc : Kd → Addr) : Sp := fun vs H Q _ => ∃ (L : Addr) (l : List Nat) (as : List Addr) (rs : List (List Nat × List StD)), vs = [.ref L] ∧ Lets l 8 ∧ (∀ r ∈ rs, r.1.Sublist l) ∧ H L = some (.lst (as.map V.ref)) ∧
  Paired (fun x r => RuleAt C RC Wc H x l r.1 r.2) as rs ∧ rs.length ≤ 300 ∧ (∀ r ∈ rs, r.2.length ≤ 4 ∧ ∀ d ∈ r.2, OkD d) ∧ ∀ H', Same H H' → Q (oN (badLot (vT rs))) H'
def spLMade (K : PySem.W.Frag) (C : Addr) : Sp := fun vs H Q _ => ∃ (p T : Addr) (l v : List Nat) (ts : List (List Nat)) (n : Int), vs = [.ref p, .ref T, .int n] ∧ AlphaAt C H p l v ∧ Lets l 8 ∧ v.Sublist l ∧ H T = some (.lst (txs ts)) ∧ (∀ t ∈ ts, GoodT t) ∧ ts.length = 6 ∧ n.natAbs < 10 ∧
  ∀ H' u, Same H H' → Dp K H' u (dueMD l v ts n) → Q u H'
def spLDue (K : PySem.W.Frag) : Sp := fun vs H Q _ => ∃ (T : Addr) (l v : List Nat) (ts : List (List Nat)) (n : Int), vs = [.str (S l), .ref T, .int n] ∧ l.length ≤ 8 ∧ H T = some (.lst (txs ts)) ∧ (∀ t ∈ ts, GoodT t) ∧ ts.length = 6 ∧
  ∀ H' u, Same H H' → Dp K H' u (dueMD l v ts n) → Q u H'
/-- which clause takes which error -/
structure Ems (K : PySem.W.Frag) (BM BR BL TM : Addr) : Prop where
  mm : PySem.W.exmOne K (.ref BM) (.ref BM) = some true
  rm : PySem.W.exmOne K (.ref BR) (.ref BM) = some false
  rr : PySem.W.exmOne K (.ref BR) (.ref BR) = some true
  lm : PySem.W.exmOne K (.ref BL) (.ref BM) = some false
  lr : PySem.W.exmOne K (.ref BL) (.ref BR) = some false
  ll : PySem.W.exmOne K (.ref BL) (.ref BL) = some true
  tm : PySem.W.exmOne K (.ref TM) (.ref BM) = some false
  tr : PySem.W.exmOne K (.ref TM) (.ref BR) = some false
  tl : PySem.W.exmOne K (.ref TM) (.ref BL) = some false
  tt : PySem.W.exmOne K (.ref TM) (.ref TM) = some true
/-- an error's class whose attribute is read -/
structure XRd (K : PySem.W.Frag) (mg : Str → Option Value) (B : Addr) (nm fld : Str) : Prop where
  gl : mg nm = some (.ref B)
  xf : XfC K B
  no : PySem.W.findIn K (.ref B) fld = some none
end Cl
namespace Cl.K54
open PySem PySem.Spec L2 PyProof.Rows
abbrev sTold : Stmt := top 50
abbrev sLMade : Stmt := top 51
abbrev sLDue : Stmt := top 52
theorem scTold : FnScope ["_law_rules", "e"] ["_law_rules"] (defScope sTold) := ⟨rfl, rfl, rfl, by decide +kernel, rfl, by decide +kernel, by decide +kernel⟩
theorem scLMade : FnScope ["_law_alphabet", "_law_texts", "_law_top", "e"] ["_law_alphabet", "_law_texts", "_law_top"] (defScope sLMade) := ⟨rfl, rfl, rfl, by decide +kernel, rfl, by decide +kernel, by decide +kernel⟩
abbrev nLDue : List Str := ["_law_letters_here", "_law_texts", "_law_top", "_law_at", "_law_what_here"]
theorem scLDue : FnScope nLDue ["_law_letters_here", "_law_texts", "_law_top"] (defScope sLDue) := ⟨rfl, rfl, rfl, by decide +kernel, rfl, by decide +kernel, by decide +kernel⟩
section
variable {P : Program} {w : World} {K : PySem.W.Frag} {mg : Str → Option Value} {base : Heap} {C RC LC BM BR BL TM : Addr} {Wc : Kd → Addr}
theorem ok_told {f fL : Addr} {fd fdL : FuncData} (F : Fun K "_law_told" "_law_told" sTold f fd) (gLC : mg "Lot" = some (.ref LC)) (ML : Mk K LC fL) (GL : FnOk P w K mg base (L2.CX P w) 6 fL fdL ["self", "rules"] (spLotX C RC LC BL Wc)) (bL : Binds K fdL ["self", "rules"] [])
    (XL : XRd K mg BL "BadLot" "number") (em : PySem.W.exmOne K (.ref BL) (.ref BL) = some true) : FnOk P w K mg base CX0 8 f fd ["_law_rules"] (spTold C RC Wc) := by
  refine F.ok scTold (fun vs H Q E h => ?_) (fun cdv A outer s H vs Q E hr h => ?_)
  · obtain ⟨L, l, as, rs, rfl, _⟩ := h
    rfl
  · obtain ⟨L, l, as, rs, rfl, hL, hv, hLs, pr, n3, gr, k⟩ := h
    have hr7 : Room (6 + 1) _ := hr
    refine ⟨_, pss_cons (ps_try_as (i := 1) (tb := fun W => tDrop (Sx.tMakeS LC (spLotX C RC LC BL Wc) [] (WE W) (tCons (tVar 0) tNil))) (ts := fun a cls d => tRet (tXf a cls d BL "number" (tVar 1))) (Wout := fun _ _ _ _ => False) rfl rfl scTold.nd rfl rfl ⟨rfl, by decide, .inl XL.gl⟩ takes0
        (fun W pn xe tk _ => pss_one (ps_expr (by exact (Sx.pe_makeS ML GL hr7 rfl gLC bL .nil (Sx.out_of tk) (pa_cons (pv 0) pa_nil)))))
        (fun a oe cls d pn hz hf => pss_one (ps_ret (by exact (pe_xf XL.xf XL.no hz hf (pv 1))))))
      (pss_one (ps_ret pe_non)), ?_⟩
    refine ⟨_, rfl, fun p dx np ndx nex => ?_⟩
    have sU : Same H (upd (upd H dx (.own p)) p (.ins LC dx [])) := (same_new ndx).trans (same_new (by rw [upd_ne nex.symm]; exact np))
    refine ⟨p, dx, L, l, as, rs, rfl, upd_same, hL, hv, sU _ _ hLs, p_mono (fun _ _ h => h.same sU) pr, n3, gr, fun e H' k' => ⟨rfl, ?_⟩, fun n e d H' s' hd => ?_⟩
    · have z := k H' (fun b o q => k' _ _ (ne_of_none q np) (sU _ _ q))
      rw [e] at z
      exact z
    · refine ⟨true, em, fun _ e0 he0 => ⟨_, rfl, rfl, rfl, d, _, _, rfl, hd, rfl, ?_⟩, fun q => Bool.noConfusion q⟩
      have z := k H' (sU.trans s')
      rw [e] at z
      exact z
theorem ok_lmade {f pL gL : Addr} {fd : FuncData} {mc : Value} (F : Fun K "_law_made" "_law_made" sLMade f fd) (gLC : mg "Lot" = some (.ref LC)) (CL : ClX.CRead K LC mc) (cL : ClX.CMet K LC mc "made" pL gL) (FK : Sx.FnKw P w K mg base (L2.CX P w) 14 gL ["depth"] (spMade C RC LC BM BR BL TM))
    (XM : XRd K mg BM "BadLimit" "asked") (XR : XRd K mg BR "BadRule" "stage") (hW : PySem.W.findIn K (.ref BR) "what" = some none) (XL : XRd K mg BL "BadLot" "number") (XT : XRd K mg TM "TooMany" "number") (M : Ems K BM BR BL TM) : FnOk P w K mg base CX0 15 f fd ["_law_alphabet", "_law_texts", "_law_top"] (spLMade K C) := by
  refine F.ok scLMade (fun vs H Q E h => ?_) (fun cdv A outer s H vs Q E hr h => ?_)
  · obtain ⟨p, T, l, v, ts, n, rfl, _⟩ := h
    rfl
  · obtain ⟨p, T, l, v, ts, n, rfl, al, hL, hv, hT, gt, t6, n10, k⟩ := h
    refine ⟨_, pss_cons (Sx.ps_try_cl (W0 := fun _ _ _ _ => False)
      (tb := fun W => tDrop (Sx.tCMethKS LC 1 (spMade C RC LC BM BR BL TM) (WE W) (tC (.ref LC)) (tCons (tVar 0) (tIxs K 1 0 6)) (tCons (tVar 2) tNil)))
      (wish := Sx.wNamed K (.ref BM) 3 (fun a cls d => tRet (tTup (tCons (tC (.str ("depth" : Str))) (tCons (tXf a cls d BM "asked" (tVar 3)) tNil))))
        (Sx.wNamed K (.ref BR) 3 (fun a cls d => tRet (tTup (tCons (tC (.str ("rule" : Str))) (tCons (tXf a cls d BR "stage" (tVar 3)) (tCons (tXf a cls d BR "what" (tVar 3)) tNil)))))
        (Sx.wNamed K (.ref BL) 3 (fun a cls d => tRet (tTup (tCons (tC (.str ("lot" : Str))) (tCons (tXf a cls d BL "number" (tVar 3)) tNil))))
        (Sx.wNamed K (.ref TM) 3 (fun a cls d => tRet (tTup (tCons (tC (.str ("many" : Str))) (tCons (tXf a cls d TM "number" (tVar 3)) tNil)))) fun _ W => W))))
      rfl rfl takes0
      (fun W pn xe tk _ => pss_one (ps_expr (by exact (pe_made6 (pe_glob (v := .ref LC) rfl gLC rfl) CL cL FK hr (fun σ => passAt tk σ) (pv 0) (i := 1) rfl (.inl rfl) (by decide) (by decide) (pv 2) rfl))))
      (.named ⟨rfl, by decide, .inl XM.gl⟩ scLMade.nd rfl rfl (fun a oe cls d pn hz hf => pss_one (ps_ret (by exact (pe_tup (pa_cons pe_str (pa_cons (pe_xf XM.xf XM.no hz hf (pv 3)) pa_nil))))))
      (.named ⟨rfl, by decide, .inl XR.gl⟩ scLMade.nd rfl rfl (fun a oe cls d pn hz hf => pss_one (ps_ret (by exact (pe_tup (pa_cons pe_str (pa_cons (pe_xf XR.xf XR.no hz hf (pv 3)) (pa_cons (pe_xf XR.xf hW hz hf (pv 3)) pa_nil)))))))
      (.named ⟨rfl, by decide, .inl XL.gl⟩ scLMade.nd rfl rfl (fun a oe cls d pn hz hf => pss_one (ps_ret (by exact (pe_tup (pa_cons pe_str (pa_cons (pe_xf XL.xf XL.no hz hf (pv 3)) pa_nil))))))
      (.named ⟨rfl, by decide, .inl XT.gl⟩ scLMade.nd rfl rfl (fun a oe cls d pn hz hf => pss_one (ps_ret (by exact (pe_tup (pa_cons pe_str (pa_cons (pe_xf XT.xf XT.no hz hf (pv 3)) pa_nil)))))) .none)))))
      (pss_one (ps_ret pe_non)), ?_⟩
    have lt : (txs ts).length = 6 := by
      unfold txs
      rw [List.length_map, t6]
    refine ⟨rfl, _, rfl, ixs_val rfl hT 6 0 _ (by omega) ⟨_, rfl, rfl, p, l, v, ts, n, rfl, ?_, al, hL, hv, gt, by omega, by omega, ?_, ?_⟩⟩
    · rw [List.drop_zero, List.take_of_length_le (by omega)]
    · intro hn d H' s' hd
      refine ⟨true, M.mm, fun _ a0 na => ?_, fun q => Bool.noConfusion q⟩
      refine ⟨_, rfl, rfl, rfl, d, _, _, rfl, hd, rfl, (by show 2 ≤ sizeLine; decide), fun q hq => ?_⟩
      refine k _ _ (s'.trans (same_new hq)) ?_
      unfold dueMD
      rw [if_neg hn]
      exact .tup (SqT.of upd_same) (.cons (.str _) (.cons (.int _) .nil))
    · intro h0 h3
      refine ⟨fun i x e d H' s' hd => ?_, fun e1 => ⟨fun i e d H' s' hd => ?_, fun e2 => ⟨fun hc d H' s' hd => ?_, fun hc a H' s' => ?_⟩⟩⟩
      · refine ⟨false, M.rm, fun q => Bool.noConfusion q, fun _ => ⟨true, M.rr, fun _ a0 na => ?_, fun q => Bool.noConfusion q⟩⟩
        refine ⟨_, rfl, rfl, rfl, d, _, _, rfl, hd, rfl, _, rfl, rfl, rfl, d, _, _, rfl, hd, rfl, (by show 3 ≤ sizeLine; decide), fun q hq => ?_⟩
        refine k _ _ (s'.trans (same_new hq)) ?_
        unfold dueMD
        rw [if_pos ⟨h0, h3⟩, e]
        exact .tup (SqT.of upd_same) (.cons (.str _) (.cons (.int _) (.cons (.str _) .nil)))
      · refine ⟨false, M.lm, fun q => Bool.noConfusion q, fun _ => ⟨false, M.lr, fun q => Bool.noConfusion q, fun _ => ⟨true, M.ll, fun _ a0 na => ?_, fun q => Bool.noConfusion q⟩⟩⟩
        refine ⟨_, rfl, rfl, rfl, d, _, _, rfl, hd, rfl, (by show 2 ≤ sizeLine; decide), fun q hq => ?_⟩
        refine k _ _ (s'.trans (same_new hq)) ?_
        unfold dueMD
        rw [if_pos ⟨h0, h3⟩, e1, e]
        exact .tup (SqT.of upd_same) (.cons (.str _) (.cons (.int _) .nil))
      · refine ⟨false, M.tm, fun q => Bool.noConfusion q, fun _ => ⟨false, M.tr, fun q => Bool.noConfusion q, fun _ => ⟨false, M.tl, fun q => Bool.noConfusion q, fun _ => ⟨true, M.tt, fun _ a0 na => ?_, fun q => Bool.noConfusion q⟩⟩⟩⟩
        refine ⟨_, rfl, rfl, rfl, d, _, _, rfl, hd, rfl, (by show 2 ≤ sizeLine; decide), fun q hq => ?_⟩
        refine k _ _ (s'.trans (same_new hq)) ?_
        unfold dueMD
        rw [if_pos ⟨h0, h3⟩, e1, e2, if_pos hc]
        exact .tup (SqT.of upd_same) (.cons (.str _) (.cons (.int _) .nil))
      · refine k _ _ s' ?_
        unfold dueMD
        rw [if_pos ⟨h0, h3⟩, e1, e2, if_neg (by omega)]
        exact .non
end
end Cl.K54
set_option Elab.async false
set_option linter.all false
set_option maxRecDepth 100000
set_option maxHeartbeats 16000000
namespace Cl
open PySem PySem.Spec L2 PyProof.Rows
theorem drop_at {α : Type} {xs : List α} {i : Nat} {x : α} (h : xs[i]? = some x) : xs.drop i = x :: xs.drop (i + 1) := by
  have il := lt_of_get h
  rw [List.drop_eq_getElem_cons il]
  rw [List.getElem?_eq_getElem il] at h
  injection h with h
  rw [h]
end Cl
namespace Cl.K54
open PySem PySem.Spec L2 PyProof.Rows
section
variable {P : Program} {w : World} {K : PySem.W.Frag} {mg : Str → Option Value} {base : Heap}
theorem ok_ldue {f fW : Addr} {fd fdW : FuncData} (F : Fun K "_law_due" "_law_due" sLDue f fd) (GW : LawG P w K mg base 3 "_law_what" ["_law_letters_here", "_law_text"] spWhat fW fdW) (hR : mg "range" = none) :
    FnOk P w K mg base CX0 4 f fd ["_law_letters_here", "_law_texts", "_law_top"] (spLDue K) := by
  refine F.ok scLDue (fun vs H Q E h => ?_) (fun cdv A outer s H vs Q E hr h => ?_)
  · obtain ⟨T, l, v, ts, n, rfl, _⟩ := h
    rfl
  · obtain ⟨T, l, v, ts, n, rfl, l8, hT, gt, t6, k⟩ := h
    have hr3 : Room 3 _ := hr
    have lt : (txs ts).length = 6 := by
      unfold txs
      rw [List.length_map, t6]
    refine ⟨_, pss_cons (ps_if (PW.pt (pw_or (pt_cmpR op_lt (pv 2) pe_int (nomark _)) (pw_or1 (pt_cmpR op_gt (pv 2) pe_int (nomark _))))) (pss_one (ps_ret (pe_tup (pa_cons pe_str (pa_cons (pv 2) pa_nil))))) pss_nil)
      (pss_cons (ps_for PassesOwn.never rfl (pi_range1 rfl hR (pa_cons pe_int pa_nil)) (pg_name (i := 3) scLDue.nd rfl (.inl rfl))
        (pss_cons (ps_set (i := 4) scLDue.nd rfl (.inl rfl) (pe_call GW.ok hr3 rfl GW.gl GW.kp GW.bd .nil pass0 (pa_cons (pv 0) (pa_cons (pe_ix ix_list (pv 1) (pv 3) (fun _ _ => rfl)) pa_nil))))
        (pss_one (ps_if (pt_cmpR op_notN (pv 4) pe_non (nomark _)) (pss_one (ps_ret (pe_tup (pa_cons pe_str (pa_cons (pe_op op_add (pv 3) pe_int) (pa_cons (pv 4) pa_nil)))))) pss_nil))))
      (pss_cons (ps_for PassesOwn.never rfl (pi_range1 rfl hR (pa_cons pe_int pa_nil)) (pg_name (i := 3) scLDue.nd rfl (.inl rfl))
        (pss_one (ps_if (pt_cmpR op_in_seq (pe_ix ix_list (pv 1) (pv 3) (fun _ _ => rfl)) (pe_slice sl_list (pv 1) po_none (po_some (pv 3))) rfl) (pss_one (ps_ret (pe_tup (pa_cons pe_str (pa_cons (pe_op op_add (pv 3) pe_int) pa_nil))))) pss_nil)))
      (pss_one (ps_ret (pe_ifExp (pt_cmpR op_eq (pv 2) pe_int (nomark _)) (pe_tup (pa_cons pe_str (pa_cons pe_int pa_nil))) pe_non))))), ?_⟩
    refine ⟨_, rfl, _, _, rfl, rfl, _, rfl, ?_⟩
    by_cases hn : 0 ≤ n ∧ n ≤ 3
    case neg =>
      have kd : ∀ {q : Addr}, H q = none → Dp K (upd H q (.tup [.str ("depth" : Str), .int n])) (.ref q) (dueMD l v ts n) := fun {q} hq => by
        unfold dueMD
        rw [if_neg hn]
        exact .tup (SqT.of upd_same) (.cons (.str _) (.cons (.int _) .nil))
      by_cases h0 : n < 0
      · rw [decide_eq_true h0]
        exact iteT ⟨_, rfl, (by show 2 ≤ sizeLine; decide), fun q hq => k _ _ (same_new hq) (kd hq)⟩
      · rw [decide_eq_false h0]
        refine iteF ⟨_, rfl, _, _, rfl, rfl, _, rfl, ?_⟩
        rw [decide_eq_true (show n > 3 by omega)]
        exact iteT ⟨_, rfl, (by show 2 ≤ sizeLine; decide), fun q hq => k _ _ (same_new hq) (kd hq)⟩
    rw [decide_eq_false (show ¬ n < 0 by omega)]
    refine iteF ⟨_, rfl, _, _, rfl, rfl, _, rfl, ?_⟩
    rw [decide_eq_false (show ¬ n > 3 by omega)]
    refine iteF ?_
    -- the forms
    refine ⟨6, rfl, by decide, by decide, ?_⟩
    refine for_range (n := 6) (fun i σ H' => ∃ (v3 v4 : Option V), σ = [some (.str (S l)), some (.ref T), some (.int n), v3, v4] ∧ Same H H' ∧ dueR l v 0 ts = dueR l v i (ts.drop i)) ⟨none, none, rfl, Same.refl _, rfl⟩ ?_ ?_
    · rintro i σ H2 hi ⟨v3, v4, rfl, s2, e2⟩
      obtain ⟨t, et⟩ : ∃ t, ts[i]? = some t := ⟨_, List.getElem?_eq_getElem (by omega)⟩
      have gi := gt t (List.mem_of_getElem? et)
      rw [drop_at et] at e2
      refine ⟨_, rfl, _, rfl, _, rfl, T, _, _, .str (S t), rfl, rfl, SqL.of (s2 _ _ hT), ?_, l, v, wordsT t, ?_, l8, wordsT_ne t, wordsT_words gi, wordsT_no t, fun H3 s3 => ?_⟩
      · rw [Int.zero_add]
        exact txs_at et
      · rw [wordsT_join]
        rfl
      · show Ends.nx _ _ _
        refine ⟨_, rfl, rfl, _, rfl, ?_⟩
        cases ew : whatW l v (wordsT t) with
        | none =>
          rw [dueR_none ew] at e2
          exact iteF ⟨_, _, rfl, s2.trans s3, e2⟩
        | some x =>
          rw [dueR_some ew] at e2
          refine iteT ⟨_, rfl, _, _, rfl, rfl, _, rfl, (by show 3 ≤ sizeLine; decide), fun a ha => k _ _ ((s2.trans s3).trans (same_new ha)) ?_⟩
          unfold dueMD
          rw [if_pos hn, e2]
          show Dp K (upd H3 a (.tup [V.str ("rule" : Str), V.int (0 + (i : Int) + 1), V.str (S x)])) (.ref a) (.tuple [.str ("rule" : Str), .int ((i + 1 : Nat) : Int), .str (S x)])
          rw [show (0 + (i : Int) + 1) = ((i + 1 : Nat) : Int) by omega]
          exact .tup (SqT.of upd_same) (.cons (.str _) (.cons (.int _) (.cons (.str _) .nil)))
    rintro σ H2 ⟨v3, v4, rfl, s2, e2⟩
    rw [List.drop_of_length_le (by omega)] at e2
    have e2 : dueR l v 0 ts = none := e2
    refine ⟨6, rfl, by decide, by decide, ?_⟩
    refine for_range (n := 6) (fun i σ H' => ∃ (v3 : Option V), σ = [some (.str (S l)), some (.ref T), some (.int n), v3, v4] ∧ Same H H' ∧ dupI 0 [] ts = dupI i (ts.take i) (ts.drop i)) ⟨_, rfl, s2, rfl⟩ ?_ ?_
    · rintro i σ H3 hi ⟨v3, rfl, s3, e3⟩
      obtain ⟨t, et⟩ : ∃ t, ts[i]? = some t := ⟨_, List.getElem?_eq_getElem (by omega)⟩
      rw [drop_at et] at e3
      have e3 : dupI 0 [] ts = if t ∈ ts.take i then some (i + 1) else dupI (i + 1) (ts.take i ++ [t]) (ts.drop (i + 1)) := e3
      have ea : atI (txs ts) (0 + (i : Int)) = some (.str (S t)) := by
        rw [Int.zero_add]
        exact txs_at et
      refine ⟨_, rfl, _, rfl, T, _, _, .str (S t), rfl, rfl, SqL.of (s3 _ _ hT), ea, _, rfl, _, rfl, (0 + (i : Int)), rfl, T, _, rfl, SqL.of (s3 _ _ hT), fun q hq => ?_⟩
      rw [show (0 + (i : Int)) = (i : Int) by omega, cutT_to]
      refine ⟨q, _, rfl, .inl (SqL.of upd_same), rfl, flat_txs _, _, rfl, ?_⟩
      have ef : (if false = true then !inV (.str (S t)) (txs (ts.take i)) else inV (.str (S t)) (txs (ts.take i))) = decide (t ∈ ts.take i) := by
        rw [if_neg Bool.false_ne_true, inVtxs]
      rw [ef]
      by_cases hd : t ∈ ts.take i
      · rw [if_pos hd] at e3
        rw [decide_eq_true hd]
        refine iteT ⟨_, rfl, _, _, rfl, rfl, (by show 2 ≤ sizeLine; decide), fun a ha => k _ _ ((s3.trans (same_new hq)).trans (same_new ha)) ?_⟩
        unfold dueMD
        rw [if_pos hn, e2, e3]
        have z : ∀ Hx : Hp, Dp K (upd Hx a (.tup [V.str ("lot" : Str), V.int ((i : Int) + 1)])) (.ref a) (.tuple [.str ("lot" : Str), .int ((i : Int) + 1)]) := fun Hx => .tup (SqT.of upd_same) (.cons (.str _) (.cons (.int _) .nil))
        exact z _
      · rw [if_neg hd] at e3
        rw [decide_eq_false hd]
        exact iteF ⟨_, rfl, s3.trans (same_new hq), by rw [take_snocG et]; exact e3⟩
    rintro σ H3 ⟨v3', rfl, s3, e3⟩
    rw [List.drop_of_length_le (by omega)] at e3
    have e3 : dupI 0 [] ts = none := e3
    refine ⟨_, rfl, rfl, _, rfl, ?_⟩
    by_cases h3 : n = 3
    · rw [h3, decide_eq_true rfl]
      refine iteT ⟨(by show 2 ≤ sizeLine; decide), fun q hq => k _ _ (s3.trans (same_new hq)) ?_⟩
      have e : dueMD l v ts n = .tuple [.str ("many" : Str), .int 259] := by
        unfold dueMD
        rw [if_pos hn, e2, e3, t6, h3]
        rfl
      rw [e]
      exact .tup (SqT.of upd_same) (.cons (.str _) (.cons (.int _) .nil))
    · rw [decide_eq_false (fun z => h3 (by injection z))]
      refine iteF (k _ _ s3 ?_)
      have e : dueMD l v ts n = .none := by
        unfold dueMD
        rw [if_pos hn, e2, e3, t6]
        have h : n = 0 ∨ n = 1 ∨ n = 2 := by omega
        rcases h with h | h | h <;> (rw [h]; rfl)
      rw [e]
      exact .non
end
end Cl.K54
set_option Elab.async false
set_option linter.all false
set_option maxRecDepth 100000
set_option maxHeartbeats 8000000
namespace Cl
open PySem PySem.Spec L2 PyProof.Rows
def offL (l v : List Nat) : List Nat := l.filter fun c => decide (c ∉ v)
theorem off_sub (l v : List Nat) : (offL l v).Sublist l := List.filter_sublist
theorem off_ne {l v : List Nat} (h : 0 < l.length) (s : v.Sublist l) : v ≠ offL l v := fun z => by
  cases l with
  | nil => cases h
  | cons a r =>
    by_cases y : a ∈ v
    · have : a ∈ offL (a :: r) v := by rw [← z]; exact y
      exact of_decide_eq_true (List.mem_filter.mp this).2 y
    · have : a ∈ offL (a :: r) v := List.mem_filter.mpr ⟨List.mem_cons_self .., decide_eq_true y⟩
      rw [← z] at this
      exact y this
/-- the good forms: once all; add -; drop vowels; drop vowels after 1; once letters; drop all but last; once joints -/
def gd6 : List (List Nat) := [[111, 110, 99, 101, 32, 97, 108, 108], [97, 100, 100, 32, 45], [100, 114, 111, 112, 32, 118, 111, 119, 101, 108, 115], [100, 114, 111, 112, 32, 118, 111, 119, 101, 108, 115, 32, 97, 102, 116, 101, 114, 32, 49], [111, 110, 99, 101, 32, 108, 101, 116, 116, 101, 114, 115], [100, 114, 111, 112, 32, 97, 108, 108, 32, 98, 117, 116, 32, 108, 97, 115, 116]]
def gJ : List Nat := [111, 110, 99, 101, 32, 106, 111, 105, 110, 116, 115]
def gd7 : List (List Nat) := gd6 ++ [gJ]
theorem gd6_txs : txs gd6 = [V.str ("once all" : Str), V.str ("add -" : Str), V.str ("drop vowels" : Str), V.str ("drop vowels after 1" : Str), V.str ("once letters" : Str), V.str ("drop all but last" : Str)] := by
  have e : gd6.map S = [("once all" : Str), ("add -" : Str), ("drop vowels" : Str), ("drop vowels after 1" : Str), ("once letters" : Str), ("drop all but last" : Str)] := by decide +kernel
  rw [← strs_map, e]
  rfl
theorem gJ_S : ("once joints" : Str) = S gJ := by decide +kernel
theorem gd7_txs : txs gd6 ++ [V.str ("once joints" : Str)] = txs gd7 := by
  rw [gJ_S]
  unfold gd7 txs
  rw [List.map_append]
  rfl
def od4 : List (List Nat) := [[107, 101, 101, 112], [111, 110, 99, 101, 32, 97, 108, 108, 59, 32, 97, 100, 100, 32, 45], [111, 110, 99, 101, 32, 97, 108, 108, 59], [111, 110, 99, 101, 32, 97, 108, 108, 59, 32, 111, 110, 99, 101, 32, 97, 108, 108]]
theorem od4_txs : txs od4 = [V.str ("keep" : Str), V.str ("once all; add -" : Str), V.str ("once all;" : Str), V.str ("once all; once all" : Str)] := by
  have e : od4.map S = [("keep" : Str), ("once all; add -" : Str), ("once all;" : Str), ("once all; once all" : Str)] := by decide +kernel
  rw [← strs_map, e]
  rfl
theorem small_good {t : List Nat} (h : t.length ≤ 20) (hc : ∀ c ∈ t, c < 1000) : GoodT t := (short_piece h hc).good
theorem gd7_good : ∀ t ∈ gd7, GoodT t := fun t ht => small_good ((by decide : ∀ t ∈ gd7, t.length ≤ 20) t ht) ((by decide : ∀ t ∈ gd7, ∀ c ∈ t, c < 1000) t ht)
theorem od4_good : ∀ t ∈ od4, GoodT t := fun t ht => small_good ((by decide : ∀ t ∈ od4, t.length ≤ 20) t ht) ((by decide : ∀ t ∈ od4, ∀ c ∈ t, c < 1000) t ht)
theorem gd7_nodup : gd7.Nodup := by decide
def gk (k : Nat) : List Nat := gd7.getD k []
theorem gk_at {k : Nat} (h : k < 7) : gd7[k]? = some (gk k) := by
  have e : ∀ k, k < 7 → gd7[k]? = some (gk k) := by decide
  exact e k h
theorem gk_inj {j k : Nat} (hj : j < 7) (hk : k < 7) (e : gk j = gk k) : j = k := by
  have h : ∀ j, j < 7 → ∀ k, k < 7 → gk j = gk k → j = k := by decide
  exact h j hj k hk e
theorem gk_due {l v : List Nat} {k : Nat} (h : k < 7) : dueT l v (gk k) = none := by
  have h : k = 0 ∨ k = 1 ∨ k = 2 ∨ k = 3 ∨ k = 4 ∨ k = 5 ∨ k = 6 := by omega
  have one : ∀ t ws, piecesT t = [t] → wordsT t = ws → t ≠ cKeep → whatW l v ws = none → dueT l v t = none := fun t ws e1 e2 e3 e4 => by
    unfold dueT
    rw [if_neg e3, e1, dueP_none (by decide) (by rw [e2]; exact e4)]
    rfl
  rcases h with h | h | h | h | h | h | h
  · subst h
    exact one _ [kOnce, cAll] (by decide) (by decide) (by decide) rfl
  · subst h
    refine one _ [kAdd, [45]] (by decide) (by decide) (by decide) ?_
    show (if isSg l [45] = true then none else some cSign) = none
    rw [if_pos]
    exact (show decide (45 ∈ 45 :: l) = true from decide_eq_true (List.mem_cons_self ..))
  · subst h
    exact one _ [cDrop, cVowels] (by decide) (by decide) (by decide) rfl
  · subst h
    exact one _ [cDrop, cVowels, wAfter, [49]] (by decide) (by decide) (by decide) rfl
  · subst h
    exact one _ [kOnce, cLetters] (by decide) (by decide) (by decide) rfl
  · subst h
    exact one _ [cDrop, cAll, wBut, wLast] (by decide) (by decide) (by decide) rfl
  · subst h
    exact one _ [kOnce, cJoints] (by decide) (by decide) (by decide) rfl
/-! marks -/
def dueK (b0 : Bool) : Nat → List (Bool × Nat) → List (Bool × Nat) → Option Nat
  | _, _, [] => none
  | i, seen, x :: r => if x.1 = b0 ∧ x ∉ seen then dueK b0 (i + 1) (seen ++ [x]) r else some (i + 1)
def dueKs : List (Bool × Nat) → Option Nat
  | [] => some 0
  | x :: r => dueK x.1 0 [] (x :: r)
def vv (l v : List Nat) (b : Bool) : List Nat := if b = true then offL l v else v
def RelM (l v : List Nat) (x : Bool × Nat) (r : List Nat × List StD) : Prop := x.2 < 7 ∧ r.1 = vv l v x.1 ∧ textR r.2 = gk x.2
theorem vv_inj {l v : List Nat} (h : 0 < l.length) (s : v.Sublist l) {a b : Bool} (e : vv l v a = vv l v b) : a = b := by
  cases a <;> cases b
  · rfl
  · exact absurd e (off_ne h s)
  · exact absurd e.symm (off_ne h s)
  · rfl
theorem bad_due {l v : List Nat} (h : 0 < l.length) (s : v.Sublist l) {b0 : Bool} : ∀ {xs : List (Bool × Nat)} {rs : List (List Nat × List StD)}, Paired (RelM l v) xs rs → ∀ (i : Nat) (seen : List (Bool × Nat)), (∀ x ∈ seen, x.1 = b0 ∧ x.2 < 7) →
    badL (vv l v b0) i (seen.map fun x => gk x.2) (vT rs) = dueK b0 i seen xs
  | _, _, .nil, _, _, _ => rfl
  | x :: xs, r :: rs, .cons ⟨x7, e1, e2⟩ t, i, seen, hs => by
    show (if r.1 = vv l v b0 ∧ textR r.2 ∉ (seen.map fun x => gk x.2) then badL (vv l v b0) (i + 1) ((seen.map fun x => gk x.2) ++ [textR r.2]) (vT rs) else some (i + 1)) = (if x.1 = b0 ∧ x ∉ seen then dueK b0 (i + 1) (seen ++ [x]) xs else some (i + 1))
    rw [e1, e2]
    by_cases hb : x.1 = b0
    · by_cases hm : x ∈ seen
      · rw [if_neg fun q => q.2 (List.mem_map.mpr ⟨x, hm, rfl⟩), if_neg fun q => q.2 hm]
      · have hn : gk x.2 ∉ (seen.map fun x => gk x.2) := fun q => by
          obtain ⟨y, hy, ey⟩ := List.mem_map.mp q
          have z := gk_inj (hs y hy).2 x7 ey
          exact hm (by
            have : y = x := Prod.ext ((hs y hy).1.trans hb.symm) z
            rw [← this]
            exact hy)
        rw [if_pos ⟨by rw [hb], hn⟩, if_pos ⟨hb, hm⟩]
        have z := bad_due h s t (i + 1) (seen ++ [x]) fun y hy => by
          rcases List.mem_append.mp hy with hy | hy
          · exact hs y hy
          · rw [List.mem_singleton.mp hy]
            exact ⟨hb, x7⟩
        rw [List.map_append] at z
        exact z
    · rw [if_neg fun q => hb (vv_inj h s q.1), if_neg fun q => hb q.1]
theorem bad_dues {l v : List Nat} (h : 0 < l.length) (s : v.Sublist l) {xs : List (Bool × Nat)} {rs : List (List Nat × List StD)} (p : Paired (RelM l v) xs rs) : badLot (vT rs) = dueKs xs := by
  match xs, rs, p with
  | [], [], .nil => rfl
  | x :: xs, r :: rs, .cons ⟨x7, e1, e2⟩ t =>
    have z := bad_due (b0 := x.1) h s (Paired.cons (F := RelM l v) ⟨x7, e1, e2⟩ t) 0 [] (fun y hy => nomatch hy)
    rw [← e1] at z
    exact z
/-! what is due, shaped and alike -/
theorem dueR_told {l v : List Nat} : ∀ (ts : List (List Nat)) (i n : Nat) (x : List Nat), dueR l v i ts = some (n, x) → Told1 x
  | [], _, _, _, h => by cases h
  | t :: r, i, n, x, h => by
    cases e : whatW l v (wordsT t) with
    | none =>
      rw [dueR_none e] at h
      exact dueR_told r (i + 1) n x h
    | some y =>
      rw [dueR_some e] at h
      injection h with h
      injection h with _ h
      rw [← h]
      exact what_told _ _ e
theorem tup2_shaped {t : Str} (h : PyData.strOk t = true) (i : Int) : SeqAt.shaped (.tuple [.str t, .int i]) = true := by
  unfold SeqAt.shaped
  have e1 : PyData.canLay0 (.tuple [.str t, .int i]) = true := by
    show (PyData.strOk t && true) = true
    rw [h]
    rfl
  rw [e1]
  rfl
theorem dueMD_shaped (l v : List Nat) (ts : List (List Nat)) (n : Int) : SeqAt.shaped (dueMD l v ts n) = true := by
  unfold dueMD
  split
  · split
    · next i x e =>
      have ht := dueR_told _ _ _ _ e
      unfold SeqAt.shaped
      have e1 : PyData.canLay0 (.tuple [.str ("rule" : Str), .int (i : Nat), .str (S x)]) = true := by
        show (PyData.strOk ("rule" : Str) && (true && PyData.canLayAll0 (dW [x]))) = true
        rw [dW_lay (fun w hw => by rw [List.mem_singleton.mp hw]; exact ht.2), show PyData.strOk ("rule" : Str) = true by decide +kernel]
        rfl
      rw [e1]
      rfl
    · split
      · exact tup2_shaped (by decide +kernel) _
      · split
        · exact tup2_shaped (by decide +kernel) _
        · rfl
  · exact tup2_shaped (by decide +kernel) _
theorem dueMD_eqv (l v : List Nat) (ts : List (List Nat)) (n : Int) : PyData.eqv (dueMD l v ts n) (dueMD l v ts n) = true := by
  have t2 : ∀ (t : Str) (i : Int), PyData.eqv (.tuple [.str t, .int i]) (.tuple [.str t, .int i]) = true := fun t i => by
    show (decide (t = t) && (decide (i = i) && true)) = true
    rw [decide_eq_true rfl, decide_eq_true rfl]
    rfl
  unfold dueMD
  split
  · split
    · next i x e =>
      show (decide (("rule" : Str) = "rule") && (decide (((i : Nat) : Int) = (i : Nat)) && (decide (S x = S x) && true))) = true
      rw [decide_eq_true rfl, decide_eq_true rfl, decide_eq_true rfl]
      rfl
    · split
      · exact t2 _ _
      · split
        · exact t2 _ _
        · rfl
  · exact t2 _ _
/-- a mark as data -/
def mkD (x : Bool × Nat) : PyData := .tuple [.bool x.1, .int (x.2 : Nat)]
theorem mk_at {K : PySem.W.Frag} {H : Hp} {a : Addr} {x : Bool × Nat} (h : H a = some (.tup [.bl x.1, .int (x.2 : Nat)])) : Dp K H (.ref a) (mkD x) := .tup (SqT.of h) (.cons (.bl _) (.cons (.int _) .nil))
theorem mk_eqv (x y : Bool × Nat) : PyData.eqv (mkD x) (mkD y) = decide (x = y) := by
  obtain ⟨a, i⟩ := x
  obtain ⟨b, j⟩ := y
  show (decide (a = b) && (decide ((i : Int) = (j : Int)) && true)) = decide ((a, i) = (b, j))
  by_cases h1 : a = b
  · by_cases h2 : i = j
    · rw [decide_eq_true h1, decide_eq_true (show (i : Int) = (j : Int) by rw [h2]), decide_eq_true (show (a, i) = (b, j) by rw [h1, h2])]
      rfl
    · rw [decide_eq_true h1, decide_eq_false (show ¬ (i : Int) = (j : Int) from fun z => h2 (by omega)), decide_eq_false (show ¬ (a, i) = (b, j) from fun z => h2 (congrArg Prod.snd z))]
      rfl
  · rw [decide_eq_false h1, decide_eq_false (show ¬ (a, i) = (b, j) from fun z => h1 (congrArg Prod.fst z))]
    rfl
theorem mks_any (x : Bool × Nat) : ∀ ys : List (Bool × Nat), ((ys.map mkD).any fun z => PyData.eqv z (mkD x)) = decide (x ∈ ys)
  | [] => rfl
  | y :: r => by
    rw [List.map_cons, List.any_cons, mks_any x r, mk_eqv]
    by_cases h : y = x
    · rw [decide_eq_true h, h, decide_eq_true (List.mem_cons_self ..)]
      rfl
    · rw [decide_eq_false h, Bool.false_or]
      exact decide_eq_decide.mpr ⟨fun m => List.mem_cons_of_mem _ m, fun m => (List.mem_cons.mp m).elim (fun e => absurd e.symm h) id⟩
theorem mks_all {K : PySem.W.Frag} {H : Hp} : ∀ {ms : List Addr} {xs : List (Bool × Nat)}, Paired (fun q (x : Bool × Nat) => H q = some (.tup [.bl x.1, .int (x.2 : Nat)])) ms xs → DpAll K H (ms.map V.ref) (xs.map mkD)
  | _, _, .nil => .nil
  | _, _, .cons h t => .cons (mk_at h) (mks_all t)
theorem mk_shaped (x : Bool × Nat) : SeqAt.shaped (mkD x) = true := rfl
theorem mks_shaped (xs : List (Bool × Nat)) : SeqAt.shaped (.list (xs.map mkD)) = true := by
  have e1 : ∀ xs : List (Bool × Nat), PyData.canLayAll0 (xs.map mkD) = true := fun xs => by
    induction xs with
    | nil => rfl
    | cons x r ih =>
      show (true && PyData.canLayAll0 (r.map mkD)) = true
      rw [ih]
      rfl
  have e2 : ∀ xs : List (Bool × Nat), PyData.depthAll (xs.map mkD) ≤ 1 := fun xs => by
    induction xs with
    | nil => decide
    | cons x r ih =>
      show max (PyData.depth (mkD x)) (PyData.depthAll (r.map mkD)) ≤ 1
      have : PyData.depth (mkD x) = 1 := rfl
      omega
  unfold SeqAt.shaped
  have e3 : PyData.canLay0 (.list (xs.map mkD)) = true := e1 xs
  have e4 : PyData.depth (.list (xs.map mkD)) = PyData.depthAll (xs.map mkD) + 1 := rfl
  rw [e3, e4]
  have := e2 xs
  rw [Bool.true_and]
  exact decide_eq_true (by omega)
end Cl
set_option Elab.async false
set_option linter.all false
set_option maxRecDepth 100000
set_option maxHeartbeats 4000000
/-! e(..), e an expression that gives an instance with its own __call__. -/
namespace Sx
open PySem PySem.Spec L2 PyProof.Rows
section
variable {X : Cx} {CXa : CXT} {k : Nat} {C g : Addr} {gd : FuncData} {ns : List Str} {sp : Sp} {Eo : L2.St → XK} {fe : Expr} {pos : Pos} {a0 : Expr} {as : List Expr} {te : TE} {ta : TA}
def tCallX (C : Addr) (sp : Sp) (Eo : L2.St → XK) (te : TE) (ta : TA) : TE := fun σ H Q => te σ H fun x H0 => ∃ a : Addr, x = .ref a ∧ ta σ H0 fun vs H1 => (∃ dx fs, H1 a = some (.ins C dx fs)) ∧ sp (.ref a :: vs) H1 Q (Eo σ)
theorem pe_callX (Z : CallC X.K C g) (FG : FnOk X.prog X.w X.K X.mg X.base CXa k g gd ns sp) (hr : Room k X.A) (hb : Binds X.K gd ns []) (hx : ∀ σ, PassesAt CXa X σ (Eo σ)) (hv : PE X fe te) (ha : PA X (a0 :: as) ta)
    (hc : eval (.Call fe (a0 :: as) [] pos) X.env = (do callWith pos (← eval fe X.env) [] (backTo pos (starEach (a0 :: as) X.env)) (backToKw pos (keywordEach [] X.env))) := by rfl)
    (he : starEach (a0 :: as) X.env = (false, eval a0 X.env) :: starEach as X.env := by rfl) (hpl : (backTo pos (starEach as X.env)).any (·.1) = false := by rfl) : PE X (.Call fe (a0 :: as) [] pos) (tCallX C sp Eo te ta) := by
  refine ⟨fun pins s σ H Q I h => ?_⟩
  refine Call_ (thn (hv.run pins s σ H _ I h) fun u s1 hh => ?_) hc
  obtain ⟨x, H1, J, ru, a, rfl, h⟩ := hh
  obtain rfl : u = Value.ref a := ru
  refine callWith_inst (C := C) (thn (ha.run pos pins s1 σ _ _ J h) fun us s2 hh => ?_) he hpl
  obtain ⟨vs, H2, J2, rv, ⟨dx, fs, hi⟩, q⟩ := hh
  obtain ⟨mA, O, _⟩ := ins_get J2.hok hi
  obtain ⟨od, O, _⟩ := O.look
  refine ⟨⟨_, _, O, rfl⟩, ?_⟩
  refine wpAny_call (PySem.W.kco_code (a := ⟨us, []⟩) J2.kIn O rfl Z.at_ Z.fn Z.fi ?_)
  have hl : (Value.ref a :: us).length = ns.length := by
    rw [← FG.len _ _ _ _ q, List.length_cons, List.length_cons, rv.length]
  have bt := hb s2 (Value.ref a :: us) J2.kIn (by rw [List.append_nil]; exact hl)
  rw [List.append_nil] at bt
  refine codeAny_mono (FG.run X.A X.stack s2 H2 ⟨Value.ref a :: us, []⟩ (Value.ref a :: us) (.ref a :: vs) Q (Eo σ) hr J2.env0 bt (.cons rfl rv) q) fun res s' hres => ?_
  match res, hres with
  | .error e, hres => exact hx σ pins H2 s2 e s' J2 hres
  | .ok (.ret u), hres => exact J2.after hres
  | .ok .next, hres => exact False.elim hres
  | .ok .brk, hres => exact False.elim hres
  | .ok .cont, hres => exact False.elim hres
end
/-- a call of a def that lets nothing out, in a context for which it might -/
theorem passNone {X : Cx} {σ : L2.St} : PassesAt (L2.CX X.prog X.w) X σ E0 := fun _ _ _ _ _ _ ⟨_, _, _, _, _, _, _, _, _, _, _, _, z⟩ => z.elim
theorem passZero {X : Cx} {σ : L2.St} : PassesAt CX0 X σ E0 := fun pins H s e s' I h => pass0 pins σ H s e s' I h
end Sx
set_option Elab.async false
set_option linter.all false
set_option maxRecDepth 100000
set_option maxHeartbeats 4000000
namespace Cl
open PySem PySem.Spec L2 PyProof.Rows
theorem sqL_same {K : PySem.W.Frag} {H H' : Hp} {a : Addr} {xs : List V} (h : SqL K H a xs) (s : Same H H') : SqL K H' a xs := by
  rcases h with (h | ⟨o, h⟩) | h
  · exact .inl (.inl (s _ _ h))
  · exact .inl (.inr ⟨o, s _ _ h⟩)
  · exact .inr h
theorem sqT_same {K : PySem.W.Frag} {H H' : Hp} {a : Addr} {xs : List V} (h : SqT K H a xs) (s : Same H H') : SqT K H' a xs := by
  rcases h with (h | ⟨o, h⟩) | h
  · exact .inl (.inl (s _ _ h))
  · exact .inl (.inr ⟨o, s _ _ h⟩)
  · exact .inr h
mutual
theorem dp_same {K : PySem.W.Frag} {H H' : Hp} (s : Same H H') : ∀ {v : V} {d : PyData}, Dp K H v d → Dp K H' v d
  | _, _, .non => .non
  | _, _, .bl b => .bl b
  | _, _, .int i => .int i
  | _, _, .str x => .str x
  | _, _, .lst h a => .lst (sqL_same h s) (dpA_same s a)
  | _, _, .tup h a => .tup (sqT_same h s) (dpA_same s a)
theorem dpA_same {K : PySem.W.Frag} {H H' : Hp} (s : Same H H') : ∀ {vs : List V} {ds : List PyData}, DpAll K H vs ds → DpAll K H' vs ds
  | _, _, .nil => .nil
  | _, _, .cons h t => .cons (dp_same s h) (dpA_same s t)
end
theorem kp_of {a b : Addr} {H H' : Hp} {o : HO} {z : List V} (k : Kp a H H') (ha : H a = some (.lst z)) (e : H b = some o) (n : o ≠ .lst z) : H' b = some o :=
  k _ _ (fun w => n (by rw [w, ha] at e; injection e with e; exact e.symm)) e
theorem al_kp {C p a : Addr} {H H' : Hp} {l v : List Nat} {z : List V} (h : AlphaAt C H p l v) (k : Kp a H H') (ha : H a = some (.lst z)) : AlphaAt C H' p l v :=
  let ⟨dx, e⟩ := h
  ⟨dx, kp_of k ha e nofun⟩
theorem ru_kp {C RC a : Addr} {Wc : Kd → Addr} {H H' : Hp} {x : Addr} {l v : List Nat} {ds : List StD} {z : List V} (h : RuleAt C RC Wc H x l v ds) (k : Kp a H H') (ha : H a = some (.lst z)) : RuleAt C RC Wc H' x l v ds := by
  obtain ⟨dx, q, st, as, h1, ⟨dq, h2⟩, h3, h4⟩ := h
  exact ⟨dx, q, st, as, kp_of k ha h1 nofun, ⟨dq, kp_of k ha h2 nofun⟩, kp_of k ha h3 nofun, p_mono (fun x y ⟨dx1, e1, dq1, e2⟩ => ⟨dx1, kp_of k ha e1 nofun, dq1, kp_of k ha e2 nofun⟩) h4⟩
theorem tIf_val {tA : TT} {ta tb : TE} {σ : L2.St} {H : Hp} {Q : VK} (b : Bool) {x y : V} (hA : ∀ K : Bool → Hp → Prop, K b H → tA σ H K) (ha : ∀ K : VK, K x H → ta σ H K) (hb : ∀ K : VK, K y H → tb σ H K) (q : Q (if b = true then x else y) H) : tIf tA ta tb σ H Q := by
  refine hA _ ?_
  cases b with
  | true => exact ha _ q
  | false => exact hb _ q
theorem p_take {α β : Type} {F : α → β → Prop} : ∀ {xs : List α} {ys : List β}, Paired F xs ys → ∀ i, Paired F (xs.take i) (ys.take i)
  | _, _, .nil, i => by
    rw [List.take_nil, List.take_nil]
    exact .nil
  | _, _, .cons h t, 0 => .nil
  | _, _, .cons h t, i + 1 => .cons h (p_take t i)
theorem p_right {α β : Type} {F : α → β → Prop} : ∀ {xs : List α} {ys : List β}, Paired F xs ys → ∀ y ∈ ys, ∃ x, F x y
  | _, _, .nil, y, hy => nomatch hy
  | _, _, .cons (a := a) h t, y, hy => (List.mem_cons.mp hy).elim (fun e => ⟨a, by rw [e]; exact h⟩) fun m => p_right t y m
/-- what the forms' loop keeps -/
def LawW (C b lb p G TX : Addr) (l v : List Nat) (ts : List (List Nat)) (H : Hp) : Prop := Bag H b lb ∧ AlphaAt C H p l v ∧ H G = some (.lst (txs gd7)) ∧ H TX = some (.lst (txs ts))
theorem LawW.same {C b lb p G TX : Addr} {l v : List Nat} {ts : List (List Nat)} {H H' : Hp} (h : LawW C b lb p G TX l v ts H) (s : Same H H') : LawW C b lb p G TX l v ts H' := ⟨h.1.same s, h.2.1.same s, s _ _ h.2.2.1, s _ _ h.2.2.2⟩
theorem LawW.kp {C b lb p G TX : Addr} {l v : List Nat} {ts : List (List Nat)} {H H' : Hp} (h : LawW C b lb p G TX l v ts H) (k : Kp b H H') (hb : Bag H' b lb) (nG : G ≠ b) (nT : TX ≠ b) : LawW C b lb p G TX l v ts H' := by
  obtain ⟨z, hz⟩ : ∃ xs, H b = some (.lst xs) := let ⟨_, _, _, _, h1, _⟩ := h.1; ⟨_, h1⟩
  exact ⟨hb, al_kp h.2.1 k hz, k _ _ nG h.2.2.1, k _ _ nT h.2.2.2⟩
theorem bag_l {H : Hp} {b lb : Addr} (h : Bag H b lb) : ∃ xs, H b = some (.lst xs) := let ⟨_, _, _, _, h1, _⟩ := h; ⟨_, h1⟩
theorem ne_oN {o : Option Nat} {H : Hp} {k : VK} (h : k (.bl false) H) : rNe (oN o) (oN o) H k := by
  cases o with
  | none => exact ⟨rfl, by rw [decide_eq_true rfl]; exact h⟩
  | some n => exact ⟨rfl, by rw [decide_eq_true rfl]; exact h⟩
theorem rel_texts {l v : List Nat} : ∀ {xs : List (Bool × Nat)} {rs : List (List Nat × List StD)}, Paired (RelM l v) xs rs → (rs.map fun r => textR r.2) = xs.map fun x => gk x.2
  | _, _, .nil => rfl
  | _, _, .cons h t => by rw [List.map_cons, List.map_cons, rel_texts t, h.2.2]
/-- the marks and their rules -/
def Mks (C RC : Addr) (Wc : Kd → Addr) (l v : List Nat) (H : Hp) (ms as : List Addr) (xs : List (Bool × Nat)) (rs : List (List Nat × List StD)) : Prop :=
  Paired (fun q (x : Bool × Nat) => H q = some (.tup [.bl x.1, .int (x.2 : Nat)])) ms xs ∧ Paired (fun x r => RuleAt C RC Wc H x l r.1 r.2) as rs ∧ Paired (RelM l v) xs rs ∧ ∀ r ∈ rs, r.2.length ≤ 4 ∧ ∀ d ∈ r.2, OkD d
theorem Mks.same {C RC : Addr} {Wc : Kd → Addr} {l v : List Nat} {H H' : Hp} {ms as : List Addr} {xs : List (Bool × Nat)} {rs : List (List Nat × List StD)} (h : Mks C RC Wc l v H ms as xs rs) (s : Same H H') : Mks C RC Wc l v H' ms as xs rs :=
  ⟨p_mono (fun _ _ e => s _ _ e) h.1, p_mono (fun _ _ e => e.same s) h.2.1, h.2.2⟩
theorem Mks.kp {C RC a : Addr} {Wc : Kd → Addr} {l v : List Nat} {H H' : Hp} {ms as : List Addr} {xs : List (Bool × Nat)} {rs : List (List Nat × List StD)} {z : List V} (h : Mks C RC Wc l v H ms as xs rs) (k : Kp a H H') (ha : H a = some (.lst z)) : Mks C RC Wc l v H' ms as xs rs :=
  ⟨p_mono (fun (x : Addr) (y : Bool × Nat) (e : H x = some (.tup [.bl y.1, .int (y.2 : Nat)])) => kp_of k ha e nofun) h.1, p_mono (fun _ _ e => ru_kp e k ha) h.2.1, h.2.2⟩
end Cl
namespace Cl.K54
open PySem PySem.Spec L2 PyProof.Rows
abbrev sLaw : Stmt := top 53
def spLaw (K : PySem.W.Frag) : Sp := fun vs H Q _ => ∃ (a : Addr) (ns : List Int), vs = [.ref a] ∧ SqL K H a (ns.map V.int) ∧ ∀ H', Q (.bl true) H'
abbrev nLaw : List Str := ["_law_script", "_law_bag_here", "_law_letters_here", "_law_vowels_here", "_law_alphabet", "_law_sign", "_law_turned", "_law_good", "_law_rules", "_law_marks", "_law_k", "_law_mark", "_law_due_here", "_law_at", "_law_passed", "_law_rule", "_law_texts", "_law_way", "_law_text", "_law_top"]
theorem scLaw : FnScope nLaw ["_law_script"] (defScope sLaw) := ⟨rfl, rfl, rfl, by decide +kernel, rfl, by decide +kernel, by decide +kernel⟩
section
variable {P : Program} {w : World} {K : PySem.W.Frag} {mg : Str → Option Value} {base : Heap} {C RC LC BR : Addr} {Wc : Kd → Addr}
theorem ok_law {f fB fT fL fV fI fBe fTo fM fDu pL gL fRT : Addr} {fd fdB fdT fdL fdV fdI fdBe fdTo fdM fdDu fdRT : FuncData} {mc : Value} (F : Fun K "law" "law" sLaw f fd)
    (GB : LawG P w K mg base 1 "_law_bag" ["_law_script"] (spBag K) fB fdB)
    (GT : LawG P w K mg base 1 "_law_take" ["_law_bag_here", "_law_size"] spTake fT fdT)
    (GL : LawG P w K mg base 2 "_law_letters" ["_law_bag_here", "_law_top"] spLetters fL fdL)
    (GV : LawG P w K mg base 2 "_law_vowels" ["_law_bag_here", "_law_letters_here"] spVowels fV fdV)
    (GBe : LawG P w K mg base 4 "_law_bent" ["_law_bag_here", "_law_letters_here"] spBent fBe fdBe)
    (GTo : LawG P w K mg base 8 "_law_told" ["_law_rules"] (spTold C RC Wc) fTo fdTo)
    (GM : LawG P w K mg base 15 "_law_made" ["_law_alphabet", "_law_texts", "_law_top"] (spLMade K C) fM fdM)
    (GDu : LawG P w K mg base 4 "_law_due" ["_law_letters_here", "_law_texts", "_law_top"] (spLDue K) fDu fdDu)
    (mC : Mk K C fI) (oC : FnOk P w K mg base CX0 3 fI fdI ["self", "letters", "vowels"] (spInitA C)) (gC : mg "Alphabet" = some (.ref C)) (bC : Binds K fdI ["self", "letters", "vowels"] [])
    (gRC : mg "Rule" = some (.ref RC)) (CR : ClX.CRead K RC mc) (cL : ClX.CMet K RC mc "read" pL gL) (FL : FnR P w K mg base (L2.CX P w) 13 gL (spRReadX C RC BR Wc))
    (ZR : RCls K RC) (mT : Meth K RC "text" fRT) (RT : FnOk P w K mg base CX0 3 fRT fdRT ["self"] (spRText C RC Wc)) (bT : Binds K fdRT ["self"] [])
    (hR : mg "range" = none) (hn : mg "len" = none) (hl : mg "list" = none) : FnOk P w K mg base CX0 16 f fd ["_law_script"] (spLaw K) := by
  refine F.ok scLaw (fun vs H Q E h => ?_) (fun cdv A outer s H vs Q E hr h => ?_)
  · obtain ⟨a, ns, rfl, _⟩ := h
    rfl
  · obtain ⟨a, ns, rfl, hA, k⟩ := h
    have hr15 : Room 15 _ := hr
    have hr13 : Room 13 _ := hr.mono (by decide)
    have hr8 : Room 8 _ := hr.mono (by decide)
    have hrC : Room (3 + 1) _ := hr.mono (by decide)
    have hr4 : Room 4 _ := hr.mono (by decide)
    have hr3 : Room 3 _ := hr.mono (by decide)
    have hr2 : Room 2 _ := hr.mono (by decide)
    have hr1 : Room 1 _ := hr.mono (by decide)
    have hu65 : (A.deeper (envOfC "law" (defScope sLaw) s.heap.objs.size f cdv)).units + 65 < cLine := by have := hr.un; omega
    refine ⟨_, pss_cons (ps_set (i := 1) scLaw.nd rfl (.inl rfl) (pe_call GB.ok hr1 rfl GB.gl GB.kp GB.bd .nil pass0 (pa_cons (pv 0) pa_nil)))
      (pss_cons (ps_set (i := 2) scLaw.nd rfl (.inl rfl) (pe_call GL.ok hr2 rfl GL.gl GL.kp GL.bd .nil pass0 (pa_cons (pv 1) (pa_cons pe_int pa_nil))))
      (pss_cons (ps_set (i := 3) scLaw.nd rfl (.inr rfl) (pe_call GV.ok hr2 rfl GV.gl GV.kp GV.bd .nil pass0 (pa_cons (pv 1) (pa_cons (pv 2) pa_nil))))
      (pss_cons (ps_set (i := 4) scLaw.nd rfl (.inl rfl) (pe_make mC oC hrC rfl gC bC .nil pass0 (pa_cons (pv 2) (pa_cons (pv 3) pa_nil))))
      (pss_cons (ps_set (i := 6) scLaw.nd rfl (.inl rfl) (pe_make mC oC hrC rfl gC bC .nil pass0 (pa_cons (pv 2) (pa_cons (pe_join pe_str (pe_lc (own := [("_law_sign", 5)]) (g := gName 5) (tt := tTest (tOp rNotInS (tVar 5) (tVar 3))) (te := tVar 5) rfl scLaw.nd (pi_str (pv 2)) (blkOk_by (N := nLaw) (sc := defScope sLaw) (by decide +kernel))
        (fun _ _ _ _ _ => pg_name (i := 5) scLaw.nd rfl (Or.inl rfl)) (fun _ _ _ _ _ => pts_one (pt_cmpR op_notInS (pv 5) (pv 3) rfl)) (fun _ _ _ _ _ => pv 5))) pa_nil))))
      (pss_cons (ps_set (i := 7) scLaw.nd rfl (.inr rfl) (pe_lst (pa_cons pe_str (pa_cons pe_str (pa_cons pe_str (pa_cons pe_str (pa_cons pe_str (pa_cons pe_str pa_nil))))))))
      (pss_cons (ps_expr (pe_bm PySem.F.plainAttrs_list PySem.F.slot_list_append PySem.F.type_list_append mt_append (pv 7) (pa_cons pe_str pa_nil)))
      (pss_cons (ps_set (i := 8) scLaw.nd rfl (.inl rfl) (pe_lst pa_nil))
      (pss_cons (ps_set (i := 9) scLaw.nd rfl (.inl rfl) (pe_lst pa_nil))
      (C8.pss_cut (ps_for PassesOwn.never rfl (pi_range1 rfl hR (pa_cons (pe_call GT.ok hr1 rfl GT.gl GT.kp GT.bd .nil pass0 (pa_cons (pv 1) (pa_cons pe_int pa_nil))) pa_nil)) (pg_name (i := 10) scLaw.nd rfl (.inl rfl))
        (pss_cons (ps_set (i := 11) scLaw.nd rfl (.inl rfl) (pe_tup (pa_cons (pe_cmpR op_eq (pe_call GT.ok hr1 rfl GT.gl GT.kp GT.bd .nil pass0 (pa_cons (pv 1) (pa_cons pe_int pa_nil))) pe_int (nomark _)) (pa_cons (pe_call GT.ok hr1 rfl GT.gl GT.kp GT.bd .nil pass0 (pa_cons (pv 1) (pa_cons pe_int pa_nil))) pa_nil))))
        (pss_cons (ps_expr (pe_bm PySem.F.plainAttrs_list PySem.F.slot_list_append PySem.F.type_list_append mt_append (pv 9) (pa_cons (pv 11) pa_nil)))
        (pss_one (ps_expr (pe_bm PySem.F.plainAttrs_list PySem.F.slot_list_append PySem.F.type_list_append mt_append (pv 8) (pa_cons (Sx.pe_cmethS (Eo := fun _ => E0) (pe_glob (v := .ref RC) rfl gRC rfl) CR cL FL hr13 (fun σ => Sx.passNone)
          (pa_cons (pe_ifExp (pt_val (pe_ix ix_tup (pv 11) pe_int (fun _ _ => rfl))) (pv 6) (pv 4)) (pa_cons (pe_ix ix_list (pv 7) (pe_ix ix_tup (pv 11) pe_int (fun _ _ => rfl)) (fun _ _ => rfl)) pa_nil))) pa_nil)))))))
      (C8.pss_cut (ps_set (i := 12) scLaw.nd rfl (.inl rfl) (pe_ifExp (pt_cmpR (op_eqD hr.units) (pv 9) (pe_lst pa_nil) (nomark _)) pe_int pe_non))
      (C8.pss_cut (ps_for PassesOwn.never rfl (pi_range1 rfl hR (pa_cons (pe_callB call_len_seq (by rfl) hn PySem.boot_len (pa_cons (pv 9) pa_nil)) pa_nil)) (pg_name (i := 13) scLaw.nd rfl (.inl rfl))
        (pss_one (ps_if (PW.pt (pw_and (pt_cmpR op_isN (pv 12) pe_non (nomark _)) (pw_and1 (PW.pt (pw_or (pt_cmpR (op_inD hu65) (pe_ix ix_list (pv 9) (pv 13) (fun _ _ => rfl)) (pe_slice sl_list (pv 9) po_none (po_some (pv 13))) rfl)
          (pw_or1 (pt_cmpR op_ne (pe_ix ix_tup (pe_ix ix_list (pv 9) (pv 13) (fun _ _ => rfl)) pe_int (fun _ _ => rfl)) (pe_ix ix_tup (pe_ix ix_list (pv 9) pe_int (fun _ _ => rfl)) pe_int (fun _ _ => rfl)) (nomark _)))))))) (pss_one (ps_set (i := 12) scLaw.nd rfl (.inl rfl) (pe_op op_add (pv 13) pe_int))) pss_nil)))
      (pss_cons (ps_set (i := 14) scLaw.nd rfl (.inl rfl) (pe_callTy call_list_of (by rfl) hl (by decide +kernel) (pa_cons (pv 8) pa_nil)))
      (pss_cons (ps_if (pt_cmpR op_ne (pe_call GTo.ok hr8 rfl GTo.gl GTo.kp GTo.bd .nil pass0 (pa_cons (pv 14) pa_nil)) (pv 12) (nomark _)) (pss_one (ps_ret pe_bl)) pss_nil)
      (pss_cons (ps_if (pt_cmpR (op_neD hr.units) (pe_lc (own := [("_law_rule", 15)]) (g := gName 15) (tt := tYes) (te := tMeth RC "text" (spRText C RC Wc) [] E0 (tVar 15) tNil) rfl scLaw.nd (pi_list (pv 14)) (blkOk_by (N := nLaw) (sc := defScope sLaw) (by decide +kernel))
          (fun _ _ _ _ _ => pg_name (i := 15) scLaw.nd rfl (Or.inl rfl)) (fun _ _ _ _ _ => pts_nil) (fun _ _ _ _ _ => pe_meth0 (pv 15) ZR.cl mT RT hr3 bT .nil pass0))
        (pe_lc (own := [("_law_mark", 11)]) (g := gName 11) (tt := tYes) (te := tOp (rIxL K) (tVar 7) (tOp (rIxT K) (tVar 11) (tC (.int 1)))) rfl scLaw.nd (pi_list (pv 9)) (blkOk_by (N := nLaw) (sc := defScope sLaw) (by decide +kernel))
          (fun _ _ _ _ _ => pg_name (i := 11) scLaw.nd rfl (Or.inl rfl)) (fun _ _ _ _ _ => pts_nil) (fun _ _ _ _ _ => pe_ix ix_list (pv 7) (pe_ix ix_tup (pv 11) pe_int (fun _ _ => rfl)) (fun _ _ => rfl))) (nomark _)) (pss_one (ps_ret pe_bl)) pss_nil)
      (pss_cons (ps_set (i := 16) scLaw.nd rfl (.inl rfl) (pe_lst pa_nil))
      (C8.pss_cut (ps_for PassesOwn.never rfl (pi_range1 rfl hR (pa_cons pe_int pa_nil)) (pg_name (i := 10) scLaw.nd rfl (.inl rfl))
        (pss_cons (ps_set (i := 17) scLaw.nd rfl (.inl rfl) (pe_call GT.ok hr1 rfl GT.gl GT.kp GT.bd .nil pass0 (pa_cons (pv 1) (pa_cons pe_int pa_nil))))
        (pss_cons (ps_set (i := 18) scLaw.nd rfl (.inl rfl) (pe_ix ix_list (pv 7) (pv 10) (fun _ _ => rfl)))
        (C8.pss_cut (ps_if (pt_cmpR op_eq (pv 17) pe_int (nomark _)) (pss_one (ps_set (i := 18) scLaw.nd rfl (.inl rfl) (pe_call GBe.ok hr4 rfl GBe.gl GBe.kp GBe.bd .nil pass0 (pa_cons (pv 1) (pa_cons (pv 2) pa_nil))))) pss_nil)
        (C8.pss_cut (ps_if (pt_cmpR op_eq (pv 17) pe_int (nomark _)) (pss_one (ps_set (i := 18) scLaw.nd rfl (.inl rfl) (pe_ix ix_list (pv 7) (pe_call GT.ok hr1 rfl GT.gl GT.kp GT.bd .nil pass0 (pa_cons (pv 1) (pa_cons pe_int pa_nil))) (fun _ _ => rfl)))) pss_nil)
        (C8.pss_cut (ps_if (pt_cmpR op_eq (pv 17) pe_int (nomark _)) (pss_one (ps_set (i := 18) scLaw.nd rfl (.inl rfl) (pe_ix ix_list (pe_lst (pa_cons pe_str (pa_cons pe_str (pa_cons pe_str (pa_cons pe_str pa_nil))))) (pe_call GT.ok hr1 rfl GT.gl GT.kp GT.bd .nil pass0 (pa_cons (pv 1) (pa_cons pe_int pa_nil))) (fun _ _ => rfl)))) pss_nil)
        (pss_one (ps_expr (pe_bm PySem.F.plainAttrs_list PySem.F.slot_list_append PySem.F.type_list_append mt_append (pv 16) (pa_cons (pv 18) pa_nil))))))))))
      (pss_cons (ps_set (i := 19) scLaw.nd rfl (.inl rfl) (pe_op op_sub (pe_call GT.ok hr1 rfl GT.gl GT.kp GT.bd .nil pass0 (pa_cons (pv 1) (pa_cons pe_int pa_nil))) pe_int))
      (pss_one (ps_ret (pe_cmpR (op_eqD hr.units) (pe_call GM.ok hr15 rfl GM.gl GM.kp GM.bd .nil pass0 (pa_cons (pv 4) (pa_cons (pv 16) (pa_cons (pv 19) pa_nil)))) (pe_call GDu.ok hr4 rfl GDu.gl GDu.kp GDu.bd .nil pass0 (pa_cons (pv 2) (pa_cons (pv 16) (pa_cons (pv 19) pa_nil)))) (nomark _))))))))))))))))))))), ?_⟩
    refine ⟨_, rfl, a, ns, rfl, hA, fun b lb H1 nb nl s1 hb1 => ?_⟩
    refine ⟨_, rfl, b, lb, 3, rfl, by decide, by decide, hb1, fun l H2 kp2 hb2 hL3 => ?_⟩
    have hL : Lets l 8 := { hL3 with most := Nat.le_trans hL3.most (by decide) }
    have l8 := hL.most
    have l0 := hL.one
    refine ⟨_, rfl, _, rfl, b, lb, l, rfl, l8, hb2, fun v H3 kp3 hb3 hv => ?_⟩
    refine ⟨_, rfl, _, rfl, ?_⟩
    intro p dx0 np ndx nex
    refine ⟨p, dx0, l, v, l, v, rfl, upd_same, hL, hv, List.Perm.refl _, List.Perm.refl _, fun H5 kp5 al5 => ⟨rfl, ?_⟩⟩
    have hb5 := hb3.same (made_same np ndx kp5)
    show Ends.nx _ _ _
    -- the other vowels
    refine ⟨_, rfl, ⟨_, rfl⟩, _, rfl, _, rfl, fun D2 hD2 => lc_textIf (p := fun c => decide (c ∉ v)) (f := sg) (by omega) hD2 (fun _ => rfl) (fun c hc H' e Q q => ?_) (fun c hc _ H' e Q q => ⟨_, rfl, q⟩) ?_⟩
    · refine ⟨_, rfl, _, rfl, c, _, rfl, rfl, _, rfl, ?_⟩
      rw [S_cps]
      have e3 : (!decide (c ∈ v)) = decide (c ∉ v) := by
        by_cases z : c ∈ v <;> simp [z]
      rw [e3]
      exact q
    have lf : (offL l v).length ≤ 8 := Nat.le_trans (List.length_filter_le ..) l8
    rw [show (l.filter fun c => decide (c ∉ v)) = offL l v from rfl]
    refine ⟨("" : Str), D2, (offL l v).map fun c => (⟨#[c]⟩ : Str), rfl, rfl, .inl ?_, join_size _ _ rfl (by omega), ?_⟩
    · rw [map_one]
      exact SqL.of upd_same
    rw [join_sg]
    have s6 : Same H5 (upd H5 D2 (.lst ((offL l v).map sg))) := same_new hD2
    generalize upd H5 D2 (.lst ((offL l v).map sg)) = H6 at s6 ⊢
    intro p5 dx6 np5 ndx6 nex5
    refine ⟨p5, dx6, l, offL l v, l, offL l v, rfl, upd_same, hL, off_sub l v, List.Perm.refl _, List.Perm.refl _, fun H7 k7 al7 => ⟨rfl, ?_⟩⟩
    have s7 : Same H5 H7 := s6.trans (made_same np5 ndx6 k7)
    have hb7 := hb5.same s7
    have alp := al5.same s7
    show Ends.nx _ _ _
    -- the good forms
    refine ⟨(by show 6 ≤ sizeLine; decide), fun G hG => ?_⟩
    rw [← gd6_txs]
    have nGb := hb7.nb hG
    have nGl := hb7.nl hG
    have s8 : Same H7 (upd H7 G (.lst (txs gd6))) := same_new hG
    have hG8 : (upd H7 G (.lst (txs gd6))) G = some (.lst (txs gd6)) := upd_same
    have hb8 := hb7.same s8
    have alp8 := alp.same s8
    have alt8 := al7.same s8
    show Ends.nx _ _ _
    generalize upd H7 G (.lst (txs gd6)) = H8 at hG8 hb8 alp8 alt8 ⊢
    refine ⟨_, rfl, .inl ⟨rfl, _, SqL.of hG8⟩, G, _, _, rfl, rfl, hG8, (by show 6 < sizeLine; decide), ?_⟩
    rw [gd7_txs]
    have hG9 : (upd H8 G (.lst (txs gd7))) G = some (.lst (txs gd7)) := upd_same
    have kp9 : Kp G H8 (upd H8 G (.lst (txs gd7))) := fun b' o nb' e => by rw [upd_ne nb']; exact e
    have hb9 := hb8.upd (p := G) (o := .lst (txs gd7)) nGb nGl
    have alp9 := al_kp alp8 kp9 hG8
    have alt9 := al_kp alt8 kp9 hG8
    show Ends.nx _ _ _
    generalize upd H8 G (.lst (txs gd7)) = H9 at hG9 hb9 alp9 alt9 ⊢
    refine ⟨(by show 0 ≤ sizeLine; decide), fun RL hRL => ?_⟩
    have sA : Same H9 (upd H9 RL (.lst [])) := same_new hRL
    have nRb := hb9.nb hRL
    have nRl := hb9.nl hRL
    have nGR := ne_of_none hG9 hRL
    have hRA : (upd H9 RL (.lst [])) RL = some (.lst []) := upd_same
    have hbA := hb9.same sA
    have hGA := sA _ _ hG9
    have alpA := alp9.same sA
    have altA := alt9.same sA
    show Ends.nx _ _ _
    generalize upd H9 RL (.lst []) = HA at hRA hbA hGA alpA altA ⊢
    refine ⟨(by show 0 ≤ sizeLine; decide), fun M hM => ?_⟩
    have sB : Same HA (upd HA M (.lst [])) := same_new hM
    have nMb := hbA.nb hM
    have nMl := hbA.nl hM
    have nGM := ne_of_none hGA hM
    have nRM := ne_of_none hRA hM
    have hMB : (upd HA M (.lst [])) M = some (.lst []) := upd_same
    have hbB := hbA.same sB
    have hGB := sB _ _ hGA
    have hRB := sB _ _ hRA
    have alpB := alpA.same sB
    have altB := altA.same sB
    show Ends.nx _ _ _
    generalize upd HA M (.lst []) = HB at hMB hbB hGB hRB alpB altB ⊢
    -- the marks and the rules
    refine ⟨fun σ' H' => ∃ (v10 v11 : Option V) (ms as : List Addr) (xs : List (Bool × Nat)) (rs : List (List Nat × List StD)), σ' = [some (.ref a), some (.ref b), some (.str (S l)), some (.str (S v)), some (.ref p), none, some (.ref p5), some (.ref G), some (.ref RL), some (.ref M), v10, v11, none, none, none, none, none, none, none, none] ∧ Bag H' b lb ∧ AlphaAt C H' p l v ∧ H' G = some (.lst (txs gd7)) ∧ H' RL = some (.lst (as.map V.ref)) ∧ H' M = some (.lst (ms.map V.ref)) ∧ Mks C RC Wc l v H' ms as xs rs ∧ xs.length ≤ 6, ?_, ?_⟩
    · refine ⟨_, rfl, b, lb, 6, rfl, by decide, by decide, hbB, fun m HC m0 m1 kpC hbC => ⟨_, rfl, by omega, by omega, ?_⟩⟩
      obtain ⟨zB, hzB⟩ := bag_l hbB
      refine for_range (n := m.toNat) (fun i σ H' => ∃ (v10 v11 : Option V) (ms as : List Addr) (xs : List (Bool × Nat)) (rs : List (List Nat × List StD)), σ = [some (.ref a), some (.ref b), some (.str (S l)), some (.str (S v)), some (.ref p), none, some (.ref p5), some (.ref G), some (.ref RL), some (.ref M), v10, v11, none, none, none, none, none, none, none, none] ∧ Bag H' b lb ∧ AlphaAt C H' p l v ∧ AlphaAt C H' p5 l (offL l v) ∧ H' G = some (.lst (txs gd7)) ∧ H' RL = some (.lst (as.map V.ref)) ∧ H' M = some (.lst (ms.map V.ref)) ∧ Mks C RC Wc l v H' ms as xs rs ∧ xs.length = i)
        ⟨none, none, [], [], [], [], rfl, hbC, al_kp alpB kpC hzB, al_kp altB kpC hzB, kpC _ _ nGb hGB, kpC _ _ nRb hRB, kpC _ _ nMb hMB, ⟨.nil, .nil, .nil, fun r hr => (nomatch hr)⟩, rfl⟩ ?_ ?_
      · rintro i σ H10 hi' ⟨v10, v11, ms, as, xs, rs, rfl, hb10, al10, at10, hG10, hR10, hM10, mk10, lx⟩
        have lms : ms.length = xs.length := mk10.1.length
        have las : as.length = rs.length := mk10.2.1.length
        have lxr : xs.length = rs.length := mk10.2.2.1.length
        obtain ⟨z10, hz10⟩ := bag_l hb10
        refine ⟨_, rfl, b, lb, 4, rfl, by decide, by decide, hb10, fun m H11 m0 m1 kp11 hb11 => ⟨rfl, ?_⟩⟩
        obtain ⟨z11, hz11⟩ := bag_l hb11
        refine ⟨_, rfl, b, lb, 7, rfl, by decide, by decide, hb11, fun j H12 j0 j1 kp12 hb12 => ?_⟩
        have al12 := al_kp (al_kp al10 kp11 hz10) kp12 hz11
        have at12 := al_kp (al_kp at10 kp11 hz10) kp12 hz11
        have hG12 := kp12 _ _ nGb (kp11 _ _ nGb hG10)
        have hR12 := kp12 _ _ nRb (kp11 _ _ nRb hR10)
        have hM12 := kp12 _ _ nMb (kp11 _ _ nMb hM10)
        have mk12 := (mk10.kp kp11 hz10).kp kp12 hz11
        obtain ⟨j, rfl⟩ := Int.eq_ofNat_of_zero_le j0
        have j7 : j < 7 := by omega
        refine ⟨(by show 2 ≤ sizeLine; decide), fun q hq => ?_⟩
        obtain ⟨bo, ebo⟩ : ∃ bo, bo = decide (V.int m = V.int 3) := ⟨_, rfl⟩
        rw [← ebo]
        have s13 : Same H12 (upd H12 q (.tup [.bl bo, .int (j : Nat)])) := same_new hq
        have hq13 : (upd H12 q (.tup [.bl bo, .int (j : Nat)])) q = some (.tup [.bl bo, .int (j : Nat)]) := upd_same
        have al13 := al12.same s13
        have at13 := at12.same s13
        have hG13 := s13 _ _ hG12
        have hR13 := s13 _ _ hR12
        have hM13 := s13 _ _ hM12
        have mk13 := mk12.same s13
        have hb13 := hb12.same s13
        show Ends.nx _ _ _
        generalize upd H12 q (.tup [.bl bo, .int (j : Nat)]) = H13 at hq13 al13 at13 hG13 hR13 hM13 mk13 hb13 ⊢
        -- the mark is kept
        refine ⟨_, rfl, .inl ⟨rfl, _, SqL.of hM13⟩, _, rfl, M, _, _, rfl, rfl, hM13, (by rw [List.length_map, sizeLine_eq]; omega), ?_⟩
        have kpM : Kp M H13 (upd H13 M (.lst (ms.map V.ref ++ [V.ref q]))) := fun b' o nb' e => by rw [upd_ne nb']; exact e
        have hM14 : (upd H13 M (.lst (ms.map V.ref ++ [V.ref q]))) M = some (.lst ((ms ++ [q]).map V.ref)) := by
          rw [upd_same, List.map_append]
          rfl
        have hb14 := hb13.upd (p := M) (o := .lst (ms.map V.ref ++ [V.ref q])) nMb nMl
        have al14 := al_kp al13 kpM hM13
        have at14 := al_kp at13 kpM hM13
        have hG14 := kpM _ _ nGM hG13
        have hR14 := kpM _ _ nRM hR13
        have mk14 := mk13.kp kpM hM13
        have hq14 := kp_of kpM hM13 hq13 nofun
        show Ends.nx _ _ _
        generalize upd H13 M (.lst (ms.map V.ref ++ [V.ref q])) = H14 at hM14 hb14 al14 at14 hG14 hR14 mk14 hq14 ⊢
        -- its rule
        refine ⟨_, rfl, .inl ⟨rfl, _, SqL.of hR14⟩, rfl, ?_⟩
        show tIf _ _ _ _ _ _
        refine tIf_val bo (x := .ref p5) (y := .ref p) (fun K' h => ⟨_, rfl, q, _, 0, .bl bo, rfl, rfl, SqT.of hq14, atI_pos (by decide) rfl, bo, rfl, h⟩) (fun K' h => ⟨_, rfl, h⟩) (fun K' h => ⟨_, rfl, h⟩) ?_
        obtain ⟨pp, epp, alpp⟩ : ∃ pp, (if bo = true then V.ref p5 else V.ref p) = V.ref pp ∧ AlphaAt C H14 pp l (vv l v bo) := by
          cases bo with
          | true => exact ⟨p5, rfl, at14⟩
          | false => exact ⟨p, rfl, al14⟩
        rw [epp]
        refine ⟨_, rfl, _, rfl, q, _, 1, .int (j : Nat), rfl, rfl, SqT.of hq14, atI_pos (by decide) rfl, G, _, (j : Nat), .str (S (gk j)), rfl, rfl, SqL.of hG14, txs_at (gk_at j7), ?_⟩
        have hvv : (vv l v bo).Sublist l := by
          cases bo with
          | true => exact off_sub l v
          | false => exact hv
        refine ⟨pp, l, vv l v bo, gk j, rfl, alpp, hL, hvv, gd7_good _ (List.mem_of_getElem? (gk_at j7)), fun _ r ds H15 s15 hr15 d4 od et => ?_, fun n x e => by rw [gk_due j7] at e; cases e⟩
        have hR15 := s15 _ _ hR14
        refine ⟨RL, _, _, rfl, rfl, hR15, (by rw [List.length_map, sizeLine_eq]; omega), ?_⟩
        have kpR : Kp RL H15 (upd H15 RL (.lst (as.map V.ref ++ [V.ref r]))) := fun b' o nb' e => by rw [upd_ne nb']; exact e
        have mk16 := (mk14.same s15).kp kpR hR15
        have hr16 := ru_kp hr15 kpR hR15
        refine ⟨_, _, ms ++ [q], as ++ [r], xs ++ [(bo, j)], rs ++ [(vv l v bo, ds)], rfl, (hb14.same s15).upd nRb nRl, al_kp (al14.same s15) kpR hR15, al_kp (at14.same s15) kpR hR15, kpR _ _ nGR (s15 _ _ hG14), ?_, kpR _ _ nRM.symm (s15 _ _ hM14), ⟨Paired.snoc mk16.1 (kp_of kpR hR15 (s15 _ _ hq14) nofun), Paired.snoc mk16.2.1 hr16, Paired.snoc mk16.2.2.1 ⟨j7, rfl, et⟩, fun r' hr' => ?_⟩, by rw [List.length_append, lx]; rfl⟩
        · rw [upd_same, List.map_append]
          rfl
        · rcases List.mem_append.mp hr' with hr' | hr'
          · exact mk16.2.2.2 r' hr'
          · rw [List.mem_singleton.mp hr']
            exact ⟨d4, od⟩
      · rintro σ H10 ⟨v10, v11, ms, as, xs, rs, rfl, hb10, al10, at10, hG10, hR10, hM10, mk10, lx⟩
        exact ⟨v10, v11, ms, as, xs, rs, rfl, hb10, al10, hG10, hR10, hM10, mk10, by omega⟩
    rintro σ' H10 ⟨v10, v11, ms, as, xs, rs, rfl, hb10, al10, hG10, hR10, hM10, mk10, lx⟩
    have pmk := mk10.1
    have lms : ms.length = xs.length := pmk.length
    refine ⟨fun σ' H' => ∃ o : Option Nat, σ' = [some (.ref a), some (.ref b), some (.str (S l)), some (.str (S v)), some (.ref p), none, some (.ref p5), some (.ref G), some (.ref RL), some (.ref M), v10, v11, some (oN o), none, none, none, none, none, none, none] ∧ Same H10 H' ∧ (o = some 0 ∧ xs = [] ∨ o = none ∧ xs ≠ []), ?_, ?_⟩
    · refine ⟨_, rfl, (by show 0 ≤ sizeLine; decide), fun e0 he0 => ⟨.list (xs.map mkD), .list [], .lst (SqL.of (same_new he0 _ _ hM10)) (mks_all (p_mono (fun _ _ h => same_new he0 _ _ h) pmk)), .lst (SqL.of upd_same) .nil, mks_shaped xs, rfl, _, rfl, ?_⟩⟩
      cases xs with
      | nil => exact iteT ⟨some 0, rfl, same_new he0, .inl ⟨rfl, rfl⟩⟩
      | cons x r => exact iteF ⟨none, rfl, same_new he0, .inr ⟨rfl, List.cons_ne_nil _ _⟩⟩
    rintro σ' HA ⟨o, rfl, sA, ho⟩
    have hMA := sA _ _ hM10
    have pmA := p_mono (fun (x : Addr) (y : Bool × Nat) (h : H10 x = some (.tup [.bl y.1, .int (y.2 : Nat)])) => sA _ _ h) pmk
    refine ⟨fun σ' H' => ∃ v13 : Option V, σ' = [some (.ref a), some (.ref b), some (.str (S l)), some (.str (S v)), some (.ref p), none, some (.ref p5), some (.ref G), some (.ref RL), some (.ref M), v10, v11, some (oN (dueKs xs)), v13, none, none, none, none, none, none] ∧ Same HA H', ?_, ?_⟩
    · refine ⟨_, rfl, M, _, rfl, .inl (SqL.of hMA), ms.length, by rw [List.length_map], by omega, by omega, ?_⟩
      refine for_range (n := ((ms.length : Nat) : Int).toNat) (fun i σ H' => ∃ (v13 : Option V) (o : Option Nat), σ = [some (.ref a), some (.ref b), some (.str (S l)), some (.str (S v)), some (.ref p), none, some (.ref p5), some (.ref G), some (.ref RL), some (.ref M), v10, v11, some (oN o), v13, none, none, none, none, none, none] ∧ Same HA H' ∧ (o = none → ∃ x0, xs[0]? = some x0 ∧ dueKs xs = dueK x0.1 i (xs.take i) (xs.drop i)) ∧ ∀ n, o = some n → dueKs xs = some n)
        ⟨none, o, rfl, Same.refl _, fun e => ?_, fun n e => ?_⟩ ?_ ?_
      · rcases ho with ⟨h1, h2⟩ | ⟨h1, h2⟩
        · rw [h1] at e
          cases e
        · match xs, h2 with
          | x :: r, _ => exact ⟨x, rfl, rfl⟩
      · rcases ho with ⟨h1, h2⟩ | ⟨h1, h2⟩
        · rw [h1] at e
          injection e with e
          rw [h2, ← e]
          rfl
        · rw [h1] at e
          cases e
      · rintro i σ H11 hi ⟨v13, o, rfl, s11, e1, e2⟩
        rw [Int.toNat_natCast] at hi
        refine ⟨_, rfl, rfl, _, rfl, ?_⟩
        cases o with
        | some n =>
          rw [show decide (oN (some n) = .non) = false from rfl]
          refine iteF ?_
          exact iteF ⟨_, some n, rfl, s11, fun e => (nomatch e), e2⟩
        | none =>
          rw [show decide (oN none = .non) = true from rfl]
          refine iteT ?_
          obtain ⟨x0, ex0, e3⟩ := e1 rfl
          obtain ⟨mi, emi⟩ : ∃ mi, ms[i]? = some mi := ⟨_, List.getElem?_eq_getElem hi⟩
          obtain ⟨x, ex, hmi⟩ := p_get pmA emi
          obtain ⟨m0, em0⟩ : ∃ m0, ms[0]? = some m0 := ⟨_, List.getElem?_eq_getElem (by omega)⟩
          obtain ⟨x0', ex0', hm0⟩ := p_get pmA em0
          obtain rfl : x0' = x0 := by rw [ex0] at ex0'; injection ex0' with z; exact z.symm
          rw [drop_at ex] at e3
          have e3 : dueKs xs = if x.1 = x0'.1 ∧ x ∉ xs.take i then dueK x0'.1 (i + 1) (xs.take i ++ [x]) (xs.drop (i + 1)) else some (i + 1) := e3
          have hM11 := s11 _ _ hMA
          have pm11 := p_mono (fun (x : Addr) (y : Bool × Nat) (h : HA x = some (.tup [.bl y.1, .int (y.2 : Nat)])) => s11 _ _ h) pmA
          have ati : atI (ms.map V.ref) (0 + (i : Int)) = some (.ref mi) := by
            rw [Int.zero_add]
            exact atI_pos (by omega) (by rw [List.getElem?_map, Int.toNat_natCast, emi]; rfl)
          have at0 : atI (ms.map V.ref) 0 = some (.ref m0) := atI_pos (by decide) (by rw [List.getElem?_map]; show Option.map _ ms[0]? = _; rw [em0]; rfl)
          refine ⟨_, rfl, _, rfl, M, _, _, .ref mi, rfl, rfl, SqL.of hM11, ati, _, rfl, _, rfl, (0 + (i : Int)), rfl, M, _, rfl, SqL.of hM11, fun q hq => ?_⟩
          rw [show (0 + (i : Int)) = (i : Int) by omega] at ati ⊢
          rw [cutV_to (α := Nat), ← List.map_take]
          have s12 : Same H11 (upd H11 q (.lst ((ms.take i).map V.ref))) := same_new hq
          have hq12 : (upd H11 q (.lst ((ms.take i).map V.ref))) q = some (.lst ((ms.take i).map V.ref)) := upd_same
          generalize upd H11 q (.lst ((ms.take i).map V.ref)) = H12 at s12 hq12 ⊢
          have ptk : Paired (fun q (x : Bool × Nat) => H12 q = some (.tup [.bl x.1, .int (x.2 : Nat)])) (ms.take i) (xs.take i) := p_take (p_mono (fun _ _ h => s12 _ _ h) pm11) i
          refine ⟨mkD x, (xs.take i).map mkD, mk_at (s12 _ _ (s11 _ _ hmi)), .lst (SqL.of hq12) (mks_all ptk), mk_shaped x, mks_shaped _, _, rfl, ?_⟩
          rw [mks_any]
          have z1 : V.int ((i : Int) + 1) = oN (some (i + 1)) := rfl
          by_cases hm : x ∈ xs.take i
          · rw [if_neg fun q => q.2 hm] at e3
            rw [decide_eq_true hm]
            refine iteT ?_
            refine iteT ⟨_, rfl, _, _, rfl, rfl, _, some (i + 1), rfl, s11.trans s12, fun e => (nomatch e), fun n e => ?_⟩
            injection e with e
            rw [← e]
            exact e3
          · rw [decide_eq_false hm]
            refine iteF ?_
            have hM12 := s12 _ _ hM11
            refine ⟨_, rfl, _, rfl, M, _, _, .ref mi, rfl, rfl, SqL.of hM12, ati, mi, _, 0, .bl x.1, rfl, rfl, SqT.of (s12 _ _ (s11 _ _ hmi)), atI_pos (by decide) rfl, _, rfl, M, _, 0, .ref m0, rfl, rfl, SqL.of hM12, at0, m0, _, 0, .bl x0'.1, rfl, rfl, SqT.of (s12 _ _ (s11 _ _ hm0)), atI_pos (by decide) rfl, rfl, _, rfl, ?_⟩
            by_cases hb0 : x.1 = x0'.1
            · rw [if_pos ⟨hb0, hm⟩] at e3
              rw [decide_eq_true (show V.bl x.1 = V.bl x0'.1 by rw [hb0])]
              refine iteF ⟨_, none, rfl, s11.trans s12, fun _ => ⟨x0', ex0, by rw [take_snocG ex]; exact e3⟩, fun n e => (nomatch e)⟩
            · rw [if_neg fun q => hb0 q.1] at e3
              rw [decide_eq_false (show ¬ V.bl x.1 = V.bl x0'.1 from fun z => hb0 (by injection z))]
              refine iteT ⟨_, rfl, _, _, rfl, rfl, _, some (i + 1), rfl, s11.trans s12, fun e => (nomatch e), fun n e => ?_⟩
              injection e with e
              rw [← e]
              exact e3
      · rintro σ H11 ⟨v13, o, rfl, s11, e1, e2⟩
        rw [Int.toNat_natCast, lms] at e1
        refine ⟨v13, ?_, s11⟩
        cases o with
        | some n => rw [e2 n rfl]
        | none =>
          obtain ⟨x0, _, e3⟩ := e1 rfl
          rw [List.drop_length] at e3
          rw [show dueKs xs = none from e3]
    rintro σ' HC ⟨v13, rfl, sC⟩
    have sAC := sA.trans sC
    have hRC := sAC _ _ hR10
    have mkC := mk10.same sAC
    have lxr : xs.length = rs.length := mkC.2.2.1.length
    have las : as.length = rs.length := mkC.2.1.length
    have hvs : ∀ r ∈ rs, r.1.Sublist l := fun r hr => by
      obtain ⟨x, hx⟩ := p_right mkC.2.2.1 r hr
      rw [hx.2.1]
      unfold vv
      split
      · exact off_sub l v
      · exact hv
    -- the rules in one list
    refine ⟨_, rfl, RL, _, rfl, .inl (SqL.of hRC), fun R hR => ?_⟩
    have sR : Same HC (upd HC R (.lst (as.map V.ref))) := same_new hR
    have hR1 : (upd HC R (.lst (as.map V.ref))) R = some (.lst (as.map V.ref)) := upd_same
    have sAR := sAC.trans sR
    have mkR := mkC.same sR
    show Ends.nx _ _ _
    generalize upd HC R (.lst (as.map V.ref)) = HD at sAR hR1 mkR ⊢
    refine ⟨_, rfl, R, l, as, rs, rfl, hL, hvs, hR1, mkR.2.1, by omega, mkR.2.2.2, fun HE sE => ?_⟩
    refine ⟨_, rfl, ?_⟩
    rw [bad_dues l0 hv mkR.2.2.1]
    refine ne_oN ⟨_, rfl, ?_⟩
    refine iteF ?_
    have sAE := sAR.trans sE
    have mkE := mkR.same sE
    have hRE := sE _ _ hR1
    have hME := sAE _ _ hM10
    have hGE := sAE _ _ hG10
    -- their written forms
    refine ⟨_, rfl, R, rfl, ⟨_, SqL.of hRE⟩, fun D1 hD1 => ?_⟩
    refine lc_it walk_list (fun i H' => Same HE H' ∧ H' D1 = some (.lst (txs ((rs.take i).map fun r => textR r.2)))) ⟨same_new hD1, upd_same⟩ (fun i H' _ ⟨s, _⟩ => SqL.of (s _ _ hRE)) ?_ ?_
    · rintro i x H13 H13' hi' ⟨s13, hD13⟩ ⟨rfl, ex⟩
      obtain ⟨ai, eai, rfl⟩ := ref_at ex
      obtain ⟨r, er, hr⟩ := p_get mkE.2.1 eai
      have il := lt_of_get er
      have gr := mkE.2.2.2 r (List.mem_of_getElem? er)
      have hr13 := RuleAt.same hr s13
      obtain ⟨dxi, qi, sti, asi, hai, _⟩ := id hr13
      refine ⟨rfl, _, rfl, ai, dxi, _, rfl, hai, rfl, ai, l, r.1, r.2, rfl, hr13, gr.1, gr.2, fun H14 s14 => ⟨_, s14 _ _ hD13, ?_, ?_, ?_⟩⟩
      · unfold txs
        rw [List.length_map, List.length_map, List.length_take, sizeLine_eq]
        omega
      · intro b' o e
        rw [upd_ne (ne_of_none e hD1)]
        exact s14 _ _ (s13 _ _ e)
      · rw [upd_same, take_snocG er, List.map_append]
        unfold txs
        rw [List.map_append]
        rfl
    rintro HF ⟨sF, hDF⟩
    have e13 : (as.map V.ref).length = rs.length := by rw [List.length_map, las]
    rw [e13, List.take_length, rel_texts mkE.2.2.1] at hDF
    have hMF := sF _ _ hME
    have hGF := sF _ _ hGE
    have mkF := mkE.same sF
    refine ⟨_, rfl, M, rfl, ⟨_, SqL.of hMF⟩, fun D2 hD2 => ?_⟩
    refine lc_it walk_list (fun i H' => Same HF H' ∧ H' D2 = some (.lst (txs ((xs.take i).map fun x => gk x.2)))) ⟨same_new hD2, upd_same⟩ (fun i H' _ ⟨s, _⟩ => SqL.of (s _ _ hMF)) ?_ ?_
    · rintro i x H13 H13' hi' ⟨s13, hD13⟩ ⟨rfl, ex⟩
      obtain ⟨mi, emi, rfl⟩ := ref_at ex
      obtain ⟨y, ey, hmi⟩ := p_get mkF.1 emi
      have il := lt_of_get ey
      obtain ⟨r, er, hyr⟩ := p_get mkF.2.2.1 ey
      have y7 := hyr.1
      refine ⟨rfl, _, rfl, _, rfl, mi, _, 1, .int (y.2 : Nat), rfl, rfl, SqT.of (s13 _ _ hmi), atI_pos (by decide) rfl, G, _, (y.2 : Nat), .str (S (gk y.2)), rfl, rfl, SqL.of (s13 _ _ hGF), txs_at (gk_at y7), _, hD13, ?_, ?_, ?_⟩
      · unfold txs
        rw [List.length_map, List.length_map, List.length_take, sizeLine_eq]
        omega
      · intro b' o e
        rw [upd_ne (ne_of_none e hD2)]
        exact s13 _ _ e
      · rw [upd_same, take_snocG ey, List.map_append]
        unfold txs
        rw [List.map_append]
        rfl
    rintro HG ⟨sG, hDG⟩
    have e14 : (ms.map V.ref).length = xs.length := by rw [List.length_map, lms]
    rw [e14, List.take_length] at hDG
    have chs : ∀ w ∈ xs.map (fun x => gk x.2), ∀ c ∈ w, c < 1000 := fun w hw => by
      obtain ⟨y, hy, rfl⟩ := List.mem_map.mp hw
      obtain ⟨i, ei⟩ := List.getElem?_of_mem hy
      obtain ⟨r, _, hyr⟩ := p_get mkF.2.2.1 ei
      exact (gd7_good _ (List.mem_of_getElem? (gk_at hyr.1))).2.1
    refine ⟨.list (dW (xs.map fun x => gk x.2)), .list (dW (xs.map fun x => gk x.2)), .lst (SqL.of (sG _ _ hDF)) (dW_all _), .lst (SqL.of hDG) (dW_all _), dW_shaped chs, dW_shaped chs, _, rfl, ?_⟩
    rw [dW_eqv, decide_eq_true rfl]
    refine iteF ?_
    have sAG := (sAE.trans sF).trans sG
    -- six forms
    refine ⟨(by show 0 ≤ sizeLine; decide), fun TX hTX => ?_⟩
    have sT : Same HG (upd HG TX (.lst [])) := same_new hTX
    have hT1 : (upd HG TX (.lst [])) TX = some (.lst []) := upd_same
    have hbG := hb10.same sAG
    have nTb := hbG.nb hTX
    have nTl := hbG.nl hTX
    have nGT := ne_of_none (sAG _ _ hG10) hTX
    have w0 : LawW C b lb p G TX l v [] (upd HG TX (.lst [])) := ⟨hbG.same sT, (al10.same sAG).same sT, sT _ _ (sAG _ _ hG10), hT1⟩
    show Ends.nx _ _ _
    generalize upd HG TX (.lst []) = HT at w0 ⊢
    refine ⟨fun σ' H' => ∃ (v10 v17 v18 : Option V) (ts : List (List Nat)), σ' = [some (.ref a), some (.ref b), some (.str (S l)), some (.str (S v)), some (.ref p), none, some (.ref p5), some (.ref G), some (.ref RL), some (.ref M), v10, v11, some (oN (dueKs xs)), v13, some (.ref R), none, some (.ref TX), v17, v18, none] ∧ LawW C b lb p G TX l v ts H' ∧ (∀ t ∈ ts, GoodT t) ∧ ts.length = 6, ?_, ?_⟩
    · refine ⟨6, rfl, by decide, by decide, ?_⟩
      refine for_range (n := 6) (fun i σ H' => ∃ (v10 v17 v18 : Option V) (ts : List (List Nat)), σ = [some (.ref a), some (.ref b), some (.str (S l)), some (.str (S v)), some (.ref p), none, some (.ref p5), some (.ref G), some (.ref RL), some (.ref M), v10, v11, some (oN (dueKs xs)), v13, some (.ref R), none, some (.ref TX), v17, v18, none] ∧ LawW C b lb p G TX l v ts H' ∧ (∀ t ∈ ts, GoodT t) ∧ ts.length = i) ⟨v10, none, none, [], rfl, w0, fun t ht => (nomatch ht), rfl⟩ ?_ ?_
      · rintro i σ H20 hi' ⟨v10', v17, v18, ts, rfl, w20, gts, lts⟩
        refine ⟨_, rfl, b, lb, 12, rfl, by decide, by decide, w20.1, fun wv H21 wv0 wv1 kp21 hb21 => ?_⟩
        have w21 := w20.kp kp21 hb21 nGb nTb
        refine ⟨_, rfl, _, rfl, G, _, (0 + (i : Int)), .str (S (gk i)), rfl, rfl, SqL.of w21.2.2.1, by rw [Int.zero_add]; exact txs_at (gk_at (by omega)), ?_⟩
        have g0 : GoodT (gk i) := gd7_good _ (List.mem_of_getElem? (gk_at (by omega)))
        -- a bent one
        refine ⟨fun σ' H' => ∃ t, σ' = [some (.ref a), some (.ref b), some (.str (S l)), some (.str (S v)), some (.ref p), none, some (.ref p5), some (.ref G), some (.ref RL), some (.ref M), some (.int (0 + (i : Int))), v11, some (oN (dueKs xs)), v13, some (.ref R), none, some (.ref TX), some (.int wv), some (.str (S t)), none] ∧ GoodT t ∧ LawW C b lb p G TX l v ts H', ?_, ?_⟩
        · refine ⟨_, rfl, rfl, _, rfl, ?_⟩
          refine ite2 (fun _ => ?_) (fun _ => ⟨_, rfl, g0, w21⟩)
          exact ⟨_, rfl, _, rfl, b, lb, l, rfl, hL, hb21, fun ws H22 kp22 hb22 wd => ⟨_, rfl, (wd_piece wd).good, w21.kp kp22 hb22 nGb nTb⟩⟩
        rintro σ' H22 ⟨t1, rfl, g1, w22⟩
        -- an earlier or later one
        refine ⟨fun σ' H' => ∃ t, σ' = [some (.ref a), some (.ref b), some (.str (S l)), some (.str (S v)), some (.ref p), none, some (.ref p5), some (.ref G), some (.ref RL), some (.ref M), some (.int (0 + (i : Int))), v11, some (oN (dueKs xs)), v13, some (.ref R), none, some (.ref TX), some (.int wv), some (.str (S t)), none] ∧ GoodT t ∧ LawW C b lb p G TX l v ts H', ?_, ?_⟩
        · refine ⟨_, rfl, rfl, _, rfl, ?_⟩
          refine ite2 (fun _ => ?_) (fun _ => ⟨_, rfl, g1, w22⟩)
          refine ⟨_, rfl, _, rfl, b, lb, 7, rfl, by decide, by decide, w22.1, fun j H23 j0 j1 kp23 hb23 => ?_⟩
          obtain ⟨j, rfl⟩ := Int.eq_ofNat_of_zero_le j0
          have w23 := w22.kp kp23 hb23 nGb nTb
          exact ⟨G, _, (j : Nat), .str (S (gk j)), rfl, rfl, SqL.of w23.2.2.1, txs_at (gk_at (by omega)), _, rfl, gd7_good _ (List.mem_of_getElem? (gk_at (k := j) (by omega))), w23⟩
        rintro σ' H23 ⟨t2, rfl, g2, w23⟩
        -- a whole rule's form
        refine ⟨fun σ' H' => ∃ t, σ' = [some (.ref a), some (.ref b), some (.str (S l)), some (.str (S v)), some (.ref p), none, some (.ref p5), some (.ref G), some (.ref RL), some (.ref M), some (.int (0 + (i : Int))), v11, some (oN (dueKs xs)), v13, some (.ref R), none, some (.ref TX), some (.int wv), some (.str (S t)), none] ∧ GoodT t ∧ LawW C b lb p G TX l v ts H', ?_, ?_⟩
        · refine ⟨_, rfl, rfl, _, rfl, ?_⟩
          refine ite2 (fun _ => ?_) (fun _ => ⟨_, rfl, g2, w23⟩)
          refine ⟨(by show 4 ≤ sizeLine; decide), fun q hq => ?_⟩
          rw [← od4_txs]
          have sq : Same H23 (upd H23 q (.lst (txs od4))) := same_new hq
          have hq24 : (upd H23 q (.lst (txs od4))) q = some (.lst (txs od4)) := upd_same
          have w24 := w23.same sq
          have nqb := w23.1.nb hq
          generalize upd H23 q (.lst (txs od4)) = H24 at hq24 w24 ⊢
          refine ⟨_, rfl, b, lb, 4, rfl, by decide, by decide, w24.1, fun j H25 j0 j1 kp25 hb25 => ?_⟩
          obtain ⟨j, rfl⟩ := Int.eq_ofNat_of_zero_le j0
          have j4 : j < od4.length := by
            have : j < 4 := by omega
            exact this
          exact ⟨q, _, (j : Nat), .str (S od4[j]), rfl, rfl, SqL.of (kp25 _ _ nqb hq24), txs_at (List.getElem?_eq_getElem j4), _, rfl, od4_good _ (List.getElem_mem j4), w24.kp kp25 hb25 nGb nTb⟩
        rintro σ' H24 ⟨t3, rfl, g3, w24⟩
        have hT24 := w24.2.2.2
        refine ⟨_, rfl, .inl ⟨rfl, _, SqL.of hT24⟩, _, rfl, TX, _, _, rfl, rfl, hT24, ?_, ?_⟩
        · unfold txs
          rw [List.length_map, sizeLine_eq]
          omega
        have kpT : Kp TX H24 (upd H24 TX (.lst (txs ts ++ [V.str (S t3)]))) := fun b' o nb' e => by rw [upd_ne nb']; exact e
        refine ⟨_, _, _, ts ++ [t3], rfl, ⟨w24.1.upd nTb nTl, al_kp w24.2.1 kpT hT24, kpT _ _ nGT w24.2.2.1, ?_⟩, fun t ht => ?_, by rw [List.length_append, lts]; rfl⟩
        · rw [upd_same]
          unfold txs
          rw [List.map_append]
          rfl
        · rcases List.mem_append.mp ht with ht | ht
          · exact gts t ht
          · rw [List.mem_singleton.mp ht]
            exact g3
      · rintro σ H20 ⟨v10', v17, v18, ts, rfl, w20, gts, lts⟩
        exact ⟨_, _, _, ts, rfl, w20, gts, lts⟩
    rintro σ' H20 ⟨v10', v17, v18, ts, rfl, w20, gts, lts⟩
    refine ⟨_, rfl, b, lb, 8, rfl, by decide, by decide, w20.1, fun tv H21 tv0 tv1 kp21 hb21 => ?_⟩
    have w21 := w20.kp kp21 hb21 nGb nTb
    refine ⟨_, _, rfl, rfl, ?_⟩
    show Ends.nx _ _ _
    refine ⟨_, rfl, _, rfl, _, rfl, p, TX, l, v, ts, tv - 2, rfl, w21.2.1, hL, hv, w21.2.2.2, gts, lts, by omega, fun H22 u1 s22 d1 => ?_⟩
    refine ⟨_, rfl, _, rfl, _, rfl, TX, l, v, ts, tv - 2, rfl, l8, s22 _ _ w21.2.2.2, gts, lts, fun H23 u2 s23 d2 => ?_⟩
    refine ⟨_, _, dp_same s23 d1, d2, dueMD_shaped l v ts (tv - 2), dueMD_shaped l v ts (tv - 2), ?_⟩
    rw [dueMD_eqv]
    exact k _
end
end Cl.K54
set_option Elab.async false
set_option linter.all false
set_option maxRecDepth 100000
set_option maxHeartbeats 4000000
/-! A head's facts with methods that say super(), errors of one's own, constants of classes, isinstance. -/
namespace Sx
open PySem PySem.Spec L2 PyProof.Rows
/-! ### methods with super() -/
structure DefS where
  cls : Str
  m : Str
  qual : Str
  st : Stmt
abbrev FnT : Type := Option (Str × Str × Arguments × FuncBody × Scope × Addr × List Str × Addr)
def fnT (K : PySem.W.Frag) (d : DefS) : FnT := match K.lookup (He.ma K (He.ga K d.cls) d.m) with
  | some ⟨_, _, .func fd, _⟩ => some (fd.name, fd.qualname, fd.params, fd.body, fd.scope, fd.globals, fd.closure.map (·.1), fd.builtins)
  | _ => none
def DefS.val (d : DefS) : FnT := some (d.m, d.qual, defArgs d.st, .stmts (defBody d.st), defScope d.st, mainGlobals, ["__class__"], builtinsNs)
def cellB (K : PySem.W.Frag) (cc D : Addr) : Bool := match K.lookup cc with
  | some ⟨_, _, .cell (some (.ref E)), _⟩ => decide (E = D)
  | _ => false
def fileB (K : PySem.W.Frag) (c : Addr) (file : Str) : Bool := match K.lookup c with
  | some ⟨_, _, .fields vs, _⟩ => (match (vs[2]? : Option Value) with
    | some (Value.str s _) => decide (s = file)
    | _ => false)
  | _ => false
def DefS.ok (file : Str) (K : PySem.W.Frag) (d : DefS) : Bool := match K.lookup (He.ma K (He.ga K d.cls) d.m) with
  | some ⟨_, _, .func fd, _⟩ => (match fd.defaults, fd.closure, fd.code with
    | .none, [(_, cc)], .ref c => PySem.W.codeIn K (.ref c) d.qual && (PySem.W.keepIn K (.ref (He.ma K (He.ga K d.cls) d.m)) && (cellB K cc (He.ga K d.cls) && fileB K c file))
    | _, _, _ => false)
  | _ => false
theorem DefS.funS {K : PySem.W.Frag} {file : Str} {d : DefS} (e : fnT K d = d.val) (h : d.ok file K = true) : ∃ c cc fd, FunS K file d.m d.qual d.st (He.ga K d.cls) (He.ma K (He.ga K d.cls) d.m) c cc fd := by
  unfold fnT at e
  unfold DefS.ok at h
  generalize hf : He.ma K (He.ga K d.cls) d.m = f at e h ⊢
  cases q : K.lookup f with
  | none =>
    rw [q] at h
    cases h
  | some o =>
    rw [q] at h e
    obtain ⟨oc, od, dt, osl⟩ := o
    cases dt with
    | func fd =>
      dsimp only at h e
      split at h
      · next y cc c h1 h2 h3 =>
        obtain ⟨a1, a2⟩ := He.ba h
        obtain ⟨a2, a3⟩ := He.ba a2
        obtain ⟨a3, a4⟩ := He.ba a3
        obtain ⟨nm, qn, pr, bd, sc, gl, clo, dfl, kw, doc, pm, an, cd, ct, bl⟩ := fd
        dsimp only at h1 h2 h3 e
        subst h1 h2 h3
        unfold DefS.val at e
        simp only [Option.some.injEq, Prod.mk.injEq, List.map_cons, List.map_nil, List.cons.injEq, and_true] at e
        obtain ⟨rfl, rfl, rfl, rfl, rfl, rfl, rfl, rfl⟩ := e
        refine ⟨c, cc, _, ⟨⟨oc, od, an, kw, doc, pm, ct, osl, rfl, q⟩, a1, ?_, ?_, a2⟩⟩
        · unfold cellB at a3
          split at a3
          · next E x1 x2 x3 z => exact ⟨_, z, by rw [of_decide_eq_true a3]⟩
          · cases a3
        · unfold fileB at a4
          split at a4
          · next x1 x2 vs x3 z =>
            split at a4
            · next s tk z2 =>
              rw [of_decide_eq_true a4] at z2
              exact ⟨_, vs, tk, z, rfl, z2⟩
            · cases a4
          · cases a4
      · cases h
    | _ => cases h
end Sx
set_option Elab.async false
set_option linter.all false
set_option maxRecDepth 100000
set_option maxHeartbeats 4000000
namespace Sx
open PySem PySem.Spec L2 PyProof.Rows
/-! ### an error of one's own over ValueError -/
def oexObjB (K : PySem.W.Frag) (C : Addr) : Bool := match K.lookup C with
  | some ⟨.type "type", _, .cls cd, sl⟩ => (match cd.mro, sl.toList with
    | .ref C' :: bm, [_, _, _, _, some (.builtin n), _] => decide (C' = C) && (decide (n = "ValueError.__new__") && (!cd.hasDel && (cd.hasDict && PySem.HandSPX.refsVE bm)))
    | _, _ => false)
  | _ => false
theorem oexObjB_ok {K : PySem.W.Frag} {C : Addr} (h : oexObjB K C = true) : ∃ nm q N bs bm sn sub ab col dd k0 k1 k2 k3 k5, K.lookup C = some (excClassObj nm q C N bs bm true sn sub ab col dd k0 k1 k2 k3 k5 "ValueError.__new__") ∧ PySem.HandSPX.refsVE bm = true := by
  unfold oexObjB at h
  split at h
  · next dd cd sl ho =>
    split at h
    · next C' bm k0 k1 k2 k3 n k5 hm hs =>
      obtain ⟨a1, h⟩ := He.ba h
      obtain ⟨a2, h⟩ := He.ba h
      obtain ⟨a3, h⟩ := He.ba h
      obtain ⟨a4, a5⟩ := He.ba h
      have e1 := of_decide_eq_true a1
      have e2 := of_decide_eq_true a2
      obtain ⟨nm, bs, mro, ns, qn, hd, sn, sb, ab, col, del⟩ := cd
      dsimp only at hm a3 a4
      rw [Bool.not_eq_true'] at a3
      subst hm e1 e2 a3 a4
      have e3 : sl = #[k0, k1, k2, k3, some (.builtin "ValueError.__new__"), k5] := by
        apply Array.ext'
        exact hs
      subst e3
      exact ⟨nm, qn, ns, bs, bm, sn, sb, ab, col, dd, k0, k1, k2, k3, k5, ho, a5⟩
    · cases h
  · cases h
def oexB (K : PySem.W.Frag) (C : Addr) : Bool := oexObjB K C && (He.eqO (PySem.W.findIn K (.ref C) "__setattr__") (some (some (.builtin "object.__setattr__"))) && (decide (PySem.W.subIn K (.ref C) (.type "BaseException") = some true) && (decide (PySem.W.typeIn K (.ref C) = some (.type "type")) && PySem.W.keepIn K (.ref C))))
theorem oexB_ok {K : PySem.W.Frag} {C : Addr} (h : oexB K C = true) : OexC K C := by
  obtain ⟨a1, h⟩ := He.ba h
  obtain ⟨a2, h⟩ := He.ba h
  obtain ⟨a3, h⟩ := He.ba h
  obtain ⟨a4, a5⟩ := He.ba h
  exact ⟨oexObjB_ok a1, He.eqO_ok a2, of_decide_eq_true a3, of_decide_eq_true a4, a5⟩
def supB (K : PySem.W.Frag) (C D : Addr) : Bool := oexObjB K D && (decide (PySem.W.subIn K (.ref C) (.ref D) = some true) && (He.eqO (PySem.W.nsIn K cStatics "thirdparty.any") (some none) && (He.eqO (PySem.W.ks_superIn K C D "__init__") (some (some (.builtin "ValueError.__init__"))) && decide (PySem.W.subIn K (.ref C) (.type "ValueError") = some true))))
theorem supB_ok {K : PySem.W.Frag} {C D : Addr} (h : supB K C D = true) : SupE K C D := by
  obtain ⟨a1, h⟩ := He.ba h
  obtain ⟨a2, h⟩ := He.ba h
  obtain ⟨a3, h⟩ := He.ba h
  obtain ⟨a4, a5⟩ := He.ba h
  obtain ⟨nm, q, N, bs, bm, sn, sub, ab, col, dd, k0, k1, k2, k3, k5, hC, _⟩ := oexObjB_ok a1
  exact ⟨⟨_, _, hC, rfl⟩, of_decide_eq_true a2, He.eqO_ok a3, He.eqO_ok a4, of_decide_eq_true a5⟩
def clsB (K : PySem.W.Frag) (C : Addr) : Bool := He.eqO (PySem.W.findIn K (.ref C) "__class__") (some (some (.builtin "object.__class__"))) &&
  (He.eqO (PySem.W.specialIn K (.builtin "object.__class__") "__get__") (some (some (.builtin "getset_descriptor.__get__"))) &&
  (decide (PySem.W.takesIn K (.builtin "object.__class__") = some true) && decide (PySem.W.mroIn K C (.type "object") = some true)))
def excB (K : PySem.W.Frag) (C : Addr) : Bool := xfB K C && clsB K C
theorem excB_ok {K : PySem.W.Frag} {C : Addr} (h : excB K C = true) : ExcC K C := by
  obtain ⟨a1, h⟩ := He.ba h
  obtain ⟨h1, h⟩ := He.ba h
  obtain ⟨h2, h⟩ := He.ba h
  obtain ⟨h3, h4⟩ := He.ba h
  have x := xfB_ok a1
  exact ⟨x.ga, x.gg, x.exC, x.hdC, He.eqO_ok h1, He.eqO_ok h2, of_decide_eq_true h3, of_decide_eq_true h4⟩
theorem excB_xf {K : PySem.W.Frag} {C : Addr} (h : excB K C = true) : XfC K C := xfB_ok (He.ba h).1
theorem clsB_ok {K : PySem.W.Frag} {C : Addr} (h : clsB K C = true) : Cl.IsTxt K C := by
  obtain ⟨h1, h⟩ := He.ba h
  obtain ⟨h2, h⟩ := He.ba h
  obtain ⟨h3, h4⟩ := He.ba h
  exact ⟨He.eqO_ok h1, He.eqO_ok h2, of_decide_eq_true h3, of_decide_eq_true h4⟩
/-! ### the Hook -/
def asX (g : Addr → Option Obj) (n : Nat) : List Addr := He.asD g n ++ [cStatics]
abbrev AlX : Type := He.AlD × List FnT × Bool
def obsX (file : Str) (n : Nat) (fa : List He.Fa) (fn : List He.DefD) (fs : List DefS) (ex : PySem.W.Frag → Bool) (K : PySem.W.Frag) : AlX := (He.obsD fa fn K, fs.map (fnT K), ex K && fs.all fun d => d.ok file K)
structure SaysX (file : Str) (fa : List He.Fa) (fn : List He.DefD) (fs : List DefS) (ex : PySem.W.Frag → Bool) (K : PySem.W.Frag) : Prop where
  c : He.SaysD fa fn K
  more : ex K = true
  sup : ∀ d ∈ fs, ∃ c cc fd, FunS K file d.m d.qual d.st (He.ga K d.cls) (He.ma K (He.ga K d.cls) d.m) c cc fd
theorem saysX_of {file : Str} {n : Nat} {fa : List He.Fa} {fn : List He.DefD} {fs : List DefS} {ex : PySem.W.Frag → Bool} {K : PySem.W.Frag} (e : obsX file n fa fn fs ex K = (He.valD fn, fs.map DefS.val, true)) : SaysX file fa fn fs ex K := by
  have e1 : He.obsD fa fn K = He.valD fn := congrArg (fun z : AlX => z.1) e
  have e2 : fs.map (fnT K) = fs.map DefS.val := congrArg (fun z : AlX => z.2.1) e
  have e3 : (ex K && fs.all fun d => d.ok file K) = true := congrArg (fun z : AlX => z.2.2) e
  obtain ⟨a1, a2⟩ := He.ba e3
  refine ⟨e1, a1, fun d hd => DefS.funS (List.map_inj_left.mp e2 d hd) (List.all_eq_true.mp a2 d hd)⟩
def hookX (file : Str) (n : Nat) (fa : List He.Fa) (fn : List He.DefD) (fs : List DefS) (ex : PySem.W.Frag → Bool) : PySem.W.Hook where
  α := AlX
  obs := fun s => obsX file n fa fn fs ex (He.frG s.heap.get? (asX s.heap.get? n))
  val := fun _ => (He.valD fn, fs.map DefS.val, true)
  says := fun _ h => ∃ K : PySem.W.Frag, K.In h ∧ SaysX file fa fn fs ex K
  of := fun _ _ e => ⟨_, He.frG_in, saysX_of (n := n) e⟩
  keeps := fun _ _ _ ⟨K, hK, c⟩ k => ⟨K, PySem.W.Frag.In.keeps hK k, c⟩
theorem obsX_eq {file : Str} {n : Nat} {fa : List He.Fa} {fn : List He.DefD} {fs : List DefS} {ex : PySem.W.Frag → Bool} {g : Addr → Option Obj} {s : Shared} (h : ∀ a, g a = s.heap.get? a) : obsX file n fa fn fs ex (He.frG g (asX g n)) = (hookX file n fa fn fs ex).obs s := by
  have e : g = s.heap.get? := funext h
  rw [e] <;> rfl
theorem toFun {K : PySem.W.Frag} {x qual : Str} {st : Stmt} {f : Addr} {fd : FuncData} (F : FunD K x qual (defArgs st) (defBody st) (defScope st) [] [] f fd) : Fun K x qual st f fd := by
  obtain ⟨oc, od, dV, kV, doc, pm, an, cdv, ct, osl, rfl, lk, hcd, hD, _⟩ := F.ex
  rcases hD with ⟨_, rfl⟩ | ⟨e, _⟩
  · exact ⟨⟨oc, od, kV, doc, pm, an, cdv, ct, osl, rfl, lk, hcd⟩, F.kp⟩
  · exact absurd rfl e
end Sx
set_option Elab.async false
set_option linter.all false
set_option maxRecDepth 100000
set_option maxHeartbeats 4000000
/-! The head's hook over addresses that are given: no growing in the kernel. -/
namespace Sx
open PySem PySem.Spec L2 PyProof.Rows
def hookL (file : Str) (ads : List Addr) (fa : List He.Fa) (fn : List He.DefD) (fs : List DefS) (ex : PySem.W.Frag → Bool) : PySem.W.Hook where
  α := AlX
  obs := fun s => obsX file 0 fa fn fs ex (He.frG s.heap.get? ads)
  val := fun _ => (He.valD fn, fs.map DefS.val, true)
  says := fun _ h => ∃ K : PySem.W.Frag, K.In h ∧ SaysX file fa fn fs ex K
  of := fun _ _ e => ⟨_, He.frG_in, saysX_of (n := 0) e⟩
  keeps := fun _ _ _ ⟨K, hK, c⟩ k => ⟨K, PySem.W.Frag.In.keeps hK k, c⟩
theorem obsL_eq {file : Str} {ads : List Addr} {fa : List He.Fa} {fn : List He.DefD} {fs : List DefS} {ex : PySem.W.Frag → Bool} {g : Addr → Option Obj} {s : Shared} (h : ∀ a, g a = s.heap.get? a) : obsX file 0 fa fn fs ex (He.frG g ads) = (hookL file ads fa fn fs ex).obs s := by
  have e : g = s.heap.get? := funext h
  rw [e] <;> rfl
end Sx
set_option Elab.async false
set_option linter.all false
set_option maxRecDepth 100000
set_option maxHeartbeats 4000000
/-! .. beside it defs that stand behind a record: classmethods. -/
namespace Sx
open PySem PySem.Spec L2 PyProof.Rows
abbrev AlC : Type := AlX × (Bool × List He.FnW)
def obsC (file : Str) (fa : List He.Fa) (fn : List He.DefD) (fs : List DefS) (ex : PySem.W.Frag → Bool) (fm : List He5.DefA) (K : PySem.W.Frag) : AlC := (obsX file 0 fa fn fs ex K, (fm.all fun d => d.ok K, fm.map fun d => He5.fnA K (d.at_ K)))
structure SaysC (file : Str) (fa : List He.Fa) (fn : List He.DefD) (fs : List DefS) (ex : PySem.W.Frag → Bool) (fm : List He5.DefA) (K : PySem.W.Frag) : Prop where
  x : SaysX file fa fn fs ex K
  m : ∀ d ∈ fm, ∃ fd, L2.FunD K d.name d.qual d.params d.body d.scope (d.dvs K) (d.kws K) (d.at_ K) fd
theorem saysC_of {file : Str} {fa : List He.Fa} {fn : List He.DefD} {fs : List DefS} {ex : PySem.W.Frag → Bool} {fm : List He5.DefA} {K : PySem.W.Frag} (e : obsC file fa fn fs ex fm K = ((He.valD fn, fs.map DefS.val, true), (true, fm.map He5.DefA.val))) : SaysC file fa fn fs ex fm K := by
  have e1 : obsX file 0 fa fn fs ex K = (He.valD fn, fs.map DefS.val, true) := congrArg (fun z : AlC => z.1) e
  have e2 : (fm.all fun d => d.ok K) = true := congrArg (fun z : AlC => z.2.1) e
  have e3 : (fm.map fun d => He5.fnA K (d.at_ K)) = fm.map He5.DefA.val := congrArg (fun z : AlC => z.2.2) e
  exact ⟨saysX_of (n := 0) e1, fun d hd => He5.DefA.funD (List.map_inj_left.mp e3 d hd) (List.all_eq_true.mp e2 d hd)⟩
def hookC (file : Str) (ads : List Addr) (fa : List He.Fa) (fn : List He.DefD) (fs : List DefS) (ex : PySem.W.Frag → Bool) (fm : List He5.DefA) : PySem.W.Hook where
  α := AlC
  obs := fun s => obsC file fa fn fs ex fm (He.frG s.heap.get? ads)
  val := fun _ => ((He.valD fn, fs.map DefS.val, true), (true, fm.map He5.DefA.val))
  says := fun _ h => ∃ K : PySem.W.Frag, K.In h ∧ SaysC file fa fn fs ex fm K
  of := fun _ _ e => ⟨_, He.frG_in, saysC_of e⟩
  keeps := fun _ _ _ ⟨K, hK, c⟩ k => ⟨K, PySem.W.Frag.In.keeps hK k, c⟩
theorem obsC_eq {file : Str} {ads : List Addr} {fa : List He.Fa} {fn : List He.DefD} {fs : List DefS} {ex : PySem.W.Frag → Bool} {fm : List He5.DefA} {g : Addr → Option Obj} {s : Shared} (h : ∀ a, g a = s.heap.get? a) : obsC file fa fn fs ex fm (He.frG g ads) = (hookC file ads fa fn fs ex fm).obs s := by
  have e : g = s.heap.get? := funext h
  rw [e] <;> rfl
end Sx
set_option Elab.async false
set_option linter.all false
set_option maxRecDepth 100000
set_option maxHeartbeats 0
namespace Cl.K54
open PySem PySem.Spec L2 PyProof.Rows
def supPB (K : PySem.W.Frag) (C D g : Addr) (m : Str) : Bool := (PySem.W.clsIn K C).isSome && ((match K.lookup D with | some ⟨_, _, .cls _, _⟩ => true | _ => false) && (decide (PySem.W.subIn K (.ref C) (.ref D) = some true) && (He.eqO (PySem.W.nsIn K cStatics "thirdparty.any") (some none) && (He.eqO (PySem.W.ks_superIn K C D m) (some (some (.ref g))) && (PySem.W.fnIn K g && (match K.lookup g with | some o => decide (o.cls = .type "function") | none => false))))))
theorem supPB_ok {K : PySem.W.Frag} {C D g : Addr} {m : Str} (h : supPB K C D g m = true) : Sx.SupP K C D g m := by
  obtain ⟨a1, h⟩ := He.ba h
  obtain ⟨a2, h⟩ := He.ba h
  obtain ⟨a3, h⟩ := He.ba h
  obtain ⟨a4, h⟩ := He.ba h
  obtain ⟨a5, h⟩ := He.ba h
  obtain ⟨a6, a7⟩ := He.ba h
  refine ⟨Option.isSome_iff_exists.mp a1, ?_, of_decide_eq_true a3, He.eqO_ok a4, He.eqO_ok a5, a6, ?_⟩
  · split at a2
    · next e => exact ⟨_, _, e, rfl⟩
    · cases a2
  · split at a7
    · next o e => exact ⟨o, e, of_decide_eq_true a7⟩
    · cases a7
def callB (K : PySem.W.Frag) (C g : Addr) : Bool := He.eqO (PySem.W.findIn K (.ref C) "__call__") (some (some (.ref g))) && (PySem.W.isFn K (.ref g) && PySem.W.fnIn K g)
theorem callB_ok {K : PySem.W.Frag} {C g : Addr} (h : callB K C g = true) : Sx.CallC K C g := by
  obtain ⟨a1, h⟩ := He.ba h
  exact ⟨He.eqO_ok a1, (He.ba h).1, (He.ba h).2⟩
def clsvB (K : PySem.W.Frag) (C f : Str) (v : He.Dv) : Bool := match PySem.W.findCls K (.ref (He.ga K C)) (.type "type") f with
  | some (.val u) => He.relB (v.v K) u
  | _ => false
theorem clsvB_ok {K : PySem.W.Frag} {C f : Str} {v : He.Dv} (h : clsvB K C f v = true) : ∃ u, ClX.CVal K (He.ga K C) (.type "type") f (v.v K) u := by
  unfold clsvB at h
  split at h
  · next u e => exact ⟨u, e, He.relB_ok h⟩
  · cases h
def creadB (K : PySem.W.Frag) (C : Str) : Bool := PySem.W.readsIn K (He.ga K C) (.type "type") && He.eqO (PySem.W.specialIn K (.ref (He.ga K C)) "__getattribute__") (some (some (.builtin "type.__getattribute__")))
theorem creadB_ok {K : PySem.W.Frag} {C : Str} (h : creadB K C = true) : ClX.CRead K (He.ga K C) (.type "type") := ⟨(He.ba h).1, He.eqO_ok (He.ba h).2⟩
def dF (x : Str) (st : Stmt) : He.DefD := ⟨(x, none), x, x, defArgs st, defBody st, defScope st, [], []⟩
def fn : List He.DefD := [⟨("Alphabet", some "__init__"), "__init__", "Alphabet.__init__", defArgs sInitA, defBody sInitA, defScope sInitA, [.str ""], []⟩,
  ⟨("Alphabet", some "__eq__"), "__eq__", "Alphabet.__eq__", defArgs sEqA, defBody sEqA, defScope sEqA, [], []⟩,
  ⟨("Alphabet", some "members"), "members", "Alphabet.members", defArgs sMembers, defBody sMembers, defScope sMembers, [], []⟩,
  ⟨("Alphabet", some "is_word"), "is_word", "Alphabet.is_word", defArgs sIsWord, defBody sIsWord, defScope sIsWord, [], []⟩,
  ⟨("Alphabet", some "_are_letters"), "_are_letters", "Alphabet._are_letters", defArgs sAreLetters, defBody sAreLetters, defScope sAreLetters, [], []⟩,
  ⟨("Alphabet", some "_can_be_listed"), "_can_be_listed", "Alphabet._can_be_listed", defArgs sListed, defBody sListed, defScope sListed, [], []⟩,
  ⟨("Stage", some "__init__"), "__init__", "Stage.__init__", defArgs sStageI, defBody sStageI, defScope sStageI, [], []⟩,
  ⟨("Drop", some "text"), "text", "Drop.text", defArgs (inClass (top 19) 1), defBody (inClass (top 19) 1), defScope (inClass (top 19) 1), [], []⟩,
  ⟨("Write", some "text"), "text", "Write.text", defArgs (inClass (top 21) 1), defBody (inClass (top 21) 1), defScope (inClass (top 21) 1), [], []⟩,
  ⟨("Once", some "text"), "text", "Once.text", defArgs (inClass (top 22) 1), defBody (inClass (top 22) 1), defScope (inClass (top 22) 1), [], []⟩,
  ⟨("Add", some "text"), "text", "Add.text", defArgs (inClass (top 23) 1), defBody (inClass (top 23) 1), defScope (inClass (top 23) 1), [], []⟩,
  ⟨("Rule", some "__init__"), "__init__", "Rule.__init__", defArgs sRuleI, defBody sRuleI, defScope sRuleI, [], []⟩,
  ⟨("Rule", some "text"), "text", "Rule.text", defArgs sRText, defBody sRText, defScope sRText, [], []⟩,
  dF "_has_twice" sTwice,
  dF "_in_order" sOrder,
  dF "_check_sign" sCheck,
  dF "copy_of" sCopy,
  dF "read_stage" sRead,
  dF "_read_drop" sReadDrop,
  dF "_read_after" sAfter,
  dF "read_piece" sPiece,
  dF "_law_bag" sBag,
  dF "_law_take" sTake,
  dF "_law_letters" sLetters,
  dF "_law_vowels" sVowels,
  dF "_law_name" sLawName,
  dF "_law_stage" sStage,
  dF "_law_stage_text" sStageText,
  dF "law" sLaw,
  dF "_law_is_set" sIsSet,
  dF "_law_drop_what" sDropWhat,
  dF "_law_what" sWhat,
  dF "_law_bent" sBent,
  dF "_law_told" sTold,
  dF "_law_made" sLMade,
  dF "_law_due" sLDue,
  dF "_how_many_rules" sHowMany,
  dF "_choices" sChoices,
  ⟨("Lot", some "__init__"), "__init__", "Lot.__init__", defArgs sLotI, defBody sLotI, defScope sLotI, [], []⟩]
def fa : List He.Fa := [.cls "Alphabet", .mkr "Alphabet", .cls "Add", .mkr "Add", .cls "Once", .mkr "Once", .cls "Write", .mkr "Write", .cls "LastDrop", .mkr "LastDrop", .cls "Drop", .mkr "Drop", .cls "Rule", .mkr "Rule", .cls "Lot", .mkr "Lot", .noat "Add" "alphabet", .noat "Add" "sign", .noat "Add" "name", .noat "Add" "taken", .noat "Once" "alphabet", .noat "Once" "sign", .noat "Once" "name", .noat "Once" "taken", .noat "Write" "alphabet", .noat "Write" "sign", .noat "Write" "name", .noat "Write" "taken", .noat "LastDrop" "alphabet", .noat "LastDrop" "name", .noat "LastDrop" "taken", .noat "LastDrop" "after", .noat "LastDrop" "each", .noat "Drop" "alphabet", .noat "Drop" "name", .noat "Drop" "taken", .noat "Drop" "after", .noat "Drop" "each", .noat "Rule" "alphabet", .noat "Rule" "stages", .noat "Alphabet" "letters", .noat "Alphabet" "vowels", .noat "Alphabet" "consonants", .noat "Alphabet" "signs", .noat "BadRule" "stage", .noat "BadRule" "what", .noat "BadStage" "what", .noat "TooMany" "number", .noat "BadLot" "number", .noat "BadLimit" "asked", .noat "Lot" "alphabet", .noat "Lot" "rules", .meth "Rule" "text", .meth "Drop" "text", .meth "LastDrop" "text", .meth "Write" "text", .meth "Once" "text", .meth "Add" "text", .meth "Alphabet" "__eq__", .meth "BadRule" "__init__", .meth "BadStage" "__init__", .meth "Alphabet" "members", .meth "Alphabet" "_can_be_listed", .meth "Alphabet" "is_word", .meth "Alphabet" "_are_letters", .meth "BadLimit" "__init__", .meth "BadLot" "__init__", .meth "TooMany" "__init__", .int "_MOST_AFTER" 3, .int "_GREATEST_DEPTH" 3, .str "_KEEP" "keep", .glo "Alphabet", .glo "BadRule", .glo "Drop", .glo "LastDrop", .glo "Write", .glo "Once", .glo "Add", .glo "Rule", .glo "BadStage", .glo "Lot", .glo "TooMany", .glo "BadLot", .glo "BadLimit", .glo "_has_twice", .glo "_in_order", .glo "_check_sign", .glo "copy_of", .glo "read_stage", .glo "_read_drop", .glo "_read_after", .glo "read_piece", .glo "_law_bag", .glo "_law_take", .glo "_law_letters", .glo "_law_vowels", .glo "_law_name", .glo "_law_stage", .glo "_law_stage_text", .glo "_law_is_set", .glo "_law_drop_what", .glo "_law_what", .glo "_law_bent", .glo "_law_told", .glo "_law_made", .glo "_law_due", .glo "_how_many_rules", .glo "_choices", .glo "law", .free "all", .free "any", .free "enumerate", .free "int", .free "isinstance", .free "len", .free "list", .free "range", .free "set", .free "sorted", .free "str", .free "super"]
def fs : List Sx.DefS := [⟨"BadRule", "__init__", "BadRule.__init__", sBadRule⟩, ⟨"Drop", "__init__", "Drop.__init__", sDropI⟩, ⟨"LastDrop", "__init__", "LastDrop.__init__", sLI⟩, ⟨"LastDrop", "text", "LastDrop.text", sLText⟩, ⟨"Write", "__init__", "Write.__init__", sWriteI⟩, ⟨"Once", "__init__", "Once.__init__", sOnceI⟩, ⟨"Add", "__init__", "Add.__init__", sAddI⟩, ⟨"BadStage", "__init__", "BadStage.__init__", sBadI⟩, ⟨"TooMany", "__init__", "TooMany.__init__", sTooMany⟩, ⟨"BadLot", "__init__", "BadLot.__init__", sBadLot⟩, ⟨"BadLimit", "__init__", "BadLimit.__init__", sBadLimit⟩]
def ex (K : PySem.W.Frag) : Bool := supPB K (He.ga K "LastDrop") (He.ga K "LastDrop") (He.ma K (He.ga K "Drop") "text") "text" && (He.conB K "Rule" "MOST" (.int 4) && (He.eqO (PySem.W.findIn K (.ref (He.ga K "Alphabet")) "__ne__") (some (some (.builtin "object.__ne__"))) && (Sx.clsB K (He.ga K "Alphabet") && (He.conB K "Alphabet" "JOINT" (.str "-") && (He.conB K "Alphabet" "MOST" (.int 8) && (Sx.oexB K (He.ga K "BadRule") && (Sx.supB K (He.ga K "BadRule") (He.ga K "BadRule") && (Sx.oexB K (He.ga K "BadStage") && (Sx.excB K (He.ga K "BadStage") && (decide (PySem.W.exmOne K (.ref (He.ga K "BadStage")) (.ref (He.ga K "BadStage")) = some true) && (Sx.supB K (He.ga K "BadStage") (He.ga K "BadStage") && (supPB K (He.ga K "Add") (He.ga K "Add") (He.ma K (He.ga K "Stage") "__init__") "__init__" && (supPB K (He.ga K "Once") (He.ga K "Once") (He.ma K (He.ga K "Stage") "__init__") "__init__" && (supPB K (He.ga K "Write") (He.ga K "Write") (He.ma K (He.ga K "Stage") "__init__") "__init__" && (supPB K (He.ga K "LastDrop") (He.ga K "LastDrop") (He.ma K (He.ga K "Drop") "__init__") "__init__" && (supPB K (He.ga K "LastDrop") (He.ga K "Drop") (He.ma K (He.ga K "Stage") "__init__") "__init__" && (supPB K (He.ga K "Drop") (He.ga K "Drop") (He.ma K (He.ga K "Stage") "__init__") "__init__" && (clsvB K "Rule" "MOST" (.int 4) && (He5.wrapB K (He.ga K "Rule") "classmethod" "classmethod.__get__" "read" && (PySem.W.fnIn K (He5.wf K (He.ga K "Rule") "classmethod" "read") && (creadB K "Rule" && (decide (PySem.W.exmOne K (.ref (He.ga K "BadLimit")) (.ref (He.ga K "BadLimit")) = some true) && (decide (PySem.W.exmOne K (.ref (He.ga K "BadRule")) (.ref (He.ga K "BadLimit")) = some false) && (decide (PySem.W.exmOne K (.ref (He.ga K "BadRule")) (.ref (He.ga K "BadRule")) = some true) && (decide (PySem.W.exmOne K (.ref (He.ga K "BadLot")) (.ref (He.ga K "BadLimit")) = some false) && (decide (PySem.W.exmOne K (.ref (He.ga K "BadLot")) (.ref (He.ga K "BadRule")) = some false) && (decide (PySem.W.exmOne K (.ref (He.ga K "BadLot")) (.ref (He.ga K "BadLot")) = some true) && (decide (PySem.W.exmOne K (.ref (He.ga K "TooMany")) (.ref (He.ga K "BadLimit")) = some false) && (decide (PySem.W.exmOne K (.ref (He.ga K "TooMany")) (.ref (He.ga K "BadRule")) = some false) && (decide (PySem.W.exmOne K (.ref (He.ga K "TooMany")) (.ref (He.ga K "BadLot")) = some false) && (decide (PySem.W.exmOne K (.ref (He.ga K "TooMany")) (.ref (He.ga K "TooMany")) = some true) && (Sx.excB K (He.ga K "TooMany") && (Sx.excB K (He.ga K "BadLot") && (Sx.excB K (He.ga K "BadRule") && (Sx.excB K (He.ga K "BadLimit") && (Sx.oexB K (He.ga K "BadLimit") && (Sx.supB K (He.ga K "BadLimit") (He.ga K "BadLimit") && (Sx.oexB K (He.ga K "BadLot") && (Sx.supB K (He.ga K "BadLot") (He.ga K "BadLot") && (Sx.oexB K (He.ga K "TooMany") && (Sx.supB K (He.ga K "TooMany") (He.ga K "TooMany") && (clsvB K "Lot" "MOST" (.int 200) && (He5.wrapB K (He.ga K "Lot") "classmethod" "classmethod.__get__" "made" && (PySem.W.fnIn K (He5.wf K (He.ga K "Lot") "classmethod" "made") && (creadB K "Lot")))))))))))))))))))))))))))))))))))))))))))))
abbrev R0 : PySem.W.OpenRow := PySem.W.OpenLaw.row PySem.Challenge.rw_cliplore_k54_lots_refused
abbrev file : Str := "/claim/cut.py"
def fm : List He5.DefA := [⟨fun K => He5.wf K (He.ga K "Rule") "classmethod" "read", "read", "Rule.read", defArgs sRRead, defBody sRRead, defScope sRRead, [], []⟩, ⟨fun K => He5.wf K (He.ga K "Lot") "classmethod" "made", "made", "Lot.made", defArgs sMade, defBody sMade, defScope sMade, [], [("depth", .int 2)]⟩]
def ads : List Addr := ([3, 6, 4, 21, 31, 53, 74, 95, 116, 137, 158, 179, 200, 209, 216, 263, 274, 298, 350, 404, 453, 502, 551, 560, 567, 574, 581, 679, 690, 697, 749, 760, 765, 772, 779, 786, 791, 796, 803, 810] : List Addr) ++ ([817, 824, 831, 838, 845, 852, 859, 864, 0, 20, 30, 52, 73, 94, 115, 136, 157, 178, 199, 208, 215, 262, 273, 297, 349, 403, 452, 501, 550, 559, 566, 573, 580, 678, 689, 696, 748, 759, 764, 771] : List Addr) ++ ([778, 785, 790, 795, 802, 809, 816, 823, 830, 837, 844, 851, 858, 863, 15, 16, 17, 18, 19, 29, 32, 50, 51, 71, 72, 92, 93, 113, 114, 134, 135, 155, 156, 176, 177, 197, 198, 203, 204, 205] : List Addr) ++ ([206, 207, 210, 211, 212, 213, 214, 229, 236, 243, 248, 253, 260, 261, 264, 265, 268, 269, 270, 271, 272, 288, 295, 296, 299, 300, 319, 326, 333, 340, 347, 348, 369, 377, 385, 393, 401, 402, 422, 429] : List Addr) ++ ([436, 443, 450, 451, 471, 478, 485, 492, 499, 500, 520, 527, 534, 541, 548, 549, 554, 555, 556, 557, 558, 561, 562, 563, 564, 565, 568, 569, 570, 571, 572, 575, 576, 577, 578, 579, 593, 602, 610, 617] : List Addr) ++ ([624, 631, 638, 645, 650, 657, 662, 669, 676, 677, 680, 681, 684, 685, 686, 687, 688, 691, 692, 693, 694, 695, 711, 719, 727, 732, 739, 746, 747, 750, 751, 754, 755, 756, 757, 758, 761, 762, 763, 766] : List Addr) ++ ([767, 768, 769, 770, 773, 774, 775, 776, 777, 780, 781, 782, 783, 784, 787, 788, 789, 792, 793, 794, 797, 798, 799, 800, 801, 804, 805, 806, 807, 808, 811, 812, 813, 814, 815, 818, 819, 820, 821, 822] : List Addr) ++ ([825, 826, 827, 828, 829, 832, 833, 834, 835, 836, 839, 840, 841, 842, 843, 846, 847, 848, 849, 850, 853, 854, 855, 856, 857, 860, 861, 862, 49, 38, 70, 59, 91, 80, 112, 101, 133, 122, 154, 143] : List Addr) ++ ([175, 164, 196, 185, 228, 224, 235, 242, 247, 252, 259, 287, 294, 318, 311, 306, 325, 332, 339, 346, 368, 361, 356, 376, 384, 392, 400, 421, 410, 428, 435, 442, 449, 470, 459, 477, 484, 491, 498, 519] : List Addr) ++ ([508, 526, 533, 540, 547, 592, 600, 601, 609, 616, 623, 630, 637, 644, 649, 656, 661, 668, 675, 710, 717, 718, 726, 731, 738, 745, 44, 45, 46, 47, 48, 65, 66, 67, 68, 69, 86, 87, 88, 89] : List Addr) ++ ([90, 107, 108, 109, 110, 111, 128, 129, 130, 131, 132, 149, 150, 151, 152, 153, 170, 171, 172, 173, 174, 191, 192, 193, 194, 195, 225, 226, 227, 230, 231, 232, 233, 234, 237, 238, 239, 240, 241, 244] : List Addr) ++ ([245, 246, 249, 250, 251, 254, 255, 256, 257, 258, 282, 283, 284, 285, 286, 289, 290, 291, 292, 293, 313, 314, 315, 316, 317, 320, 321, 322, 323, 324, 327, 328, 329, 330, 331, 334, 335, 336, 337, 338] : List Addr) ++ ([341, 342, 343, 344, 345, 363, 364, 365, 366, 367, 371, 372, 373, 374, 375, 379, 380, 381, 382, 383, 387, 388, 389, 390, 391, 395, 396, 397, 398, 399, 416, 417, 418, 419, 420, 423, 424, 425, 426, 427] : List Addr) ++ ([430, 431, 432, 433, 434, 437, 438, 439, 440, 441, 444, 445, 446, 447, 448, 465, 466, 467, 468, 469, 472, 473, 474, 475, 476, 479, 480, 481, 482, 483, 486, 487, 488, 489, 490, 493, 494, 495, 496, 497] : List Addr) ++ ([514, 515, 516, 517, 518, 521, 522, 523, 524, 525, 528, 529, 530, 531, 532, 535, 536, 537, 538, 539, 542, 543, 544, 545, 546, 589, 590, 591, 599, 603, 604, 605, 606, 607, 608, 611, 612, 613, 614, 615] : List Addr) ++ ([618, 619, 620, 621, 622, 625, 626, 627, 628, 629, 632, 633, 634, 635, 636, 639, 640, 641, 642, 643, 646, 647, 648, 651, 652, 653, 654, 655, 658, 659, 660, 663, 664, 665, 666, 667, 670, 671, 672, 673] : List Addr) ++ ([674, 705, 706, 707, 708, 709, 716, 712, 720, 721, 722, 723, 724, 725, 728, 729, 730, 733, 734, 735, 736, 737, 740, 741, 742, 743, 744, 594, 595, 596, 597, 598, 713, 714, 715, 2] : List Addr)
abbrev hk : PySem.W.Hook := Sx.hookC file ads fa fn fs ex fm
def ob (s : PySem.W.SharedT) : Sx.AlC := Sx.obsC file fa fn fs ex fm (He.frG (HandSHeadRun.getT s) ads)
theorem ob_eq (s : PySem.W.SharedT) : ob s = hk.obs s.abs := Sx.obsC_eq (HandSHeadRun.getT_eq s)
def loose : List Str := (["_wall", "__name__", "ClipError", "BadAlphabet", "BadWord", "BadStage", "BadRule", "Mixed", "BadLot", "BadLimit", "TooMany", "_has_twice", "_in_order", "Alphabet", "copy_of", "_MOST_AFTER", "Stage", "Drop", "LastDrop", "Write", "Once", "Add", "_check_sign", "read_stage"] : List Str) ++ (["_read_drop", "_read_after", "_KEEP", "Rule", "_feed", "read_piece", "_GREATEST_DEPTH", "Lot", "_how_many_rules", "_choices", "_law_bag", "_law_take", "_law_letters", "_law_vowels", "_law_name", "_law_stage", "_law_stage_text", "_law_bent", "_law_is_set", "_law_drop_what", "_law_what", "_law_told", "_law_made", "_law_due"] : List Str)
end Cl.K54
set_option Elab.async false
set_option linter.all false
set_option maxRecDepth 100000
set_option maxHeartbeats 0
namespace Cl.K54
open PySem PySem.Spec L2 PyProof.Rows
theorem run (w : World) : HandSHeadRun.RunEq R0 (PySem.W.view R0.prog [53]) hk ob 12000 loose w := by
  intro os
  kernel_rfl
end Cl.K54
set_option Elab.async false
set_option linter.all false
set_option maxRecDepth 100000
set_option maxHeartbeats 0
namespace Cl.K54
open PySem PySem.Spec L2 PyProof.Rows
abbrev prog : Program := PySem.Challenge.pw_cliplore_k54_lots_refused
theorem facts {w : World} {K : PySem.W.Frag} {h : Heap} {mg : Str → Option Value} {f : Addr} (X : K.In h) (G : h.Ns mainGlobals mg) (hfa : mg ("law" : Str) = some (.ref f)) (sc : Sx.SaysC file fa fn fs ex fm K) :
    ∃ fd : FuncData, (∀ (s : Shared) (v : Value), BindsTo s fd ⟨[v], []⟩ [("_law_script", v)]) ∧ ∀ base : Heap, K.In base → base.Ns mainGlobals mg → FnOk prog w K mg base CX0 16 f fd ["_law_script"] (spLaw K) := by
  have s := sc.x
  have c := s.c
  obtain ⟨fI, FI⟩ := c.def_ 0 rfl
  obtain ⟨fE, FE⟩ := c.def_ 1 rfl
  obtain ⟨fMe, FMe⟩ := c.def_ 2 rfl
  obtain ⟨fIs, FIs⟩ := c.def_ 3 rfl
  obtain ⟨fAr, FAr⟩ := c.def_ 4 rfl
  obtain ⟨fLi, FLi⟩ := c.def_ 5 rfl
  obtain ⟨fSt, FSt⟩ := c.def_ 6 rfl
  obtain ⟨fDt, FDt⟩ := c.def_ 7 rfl
  obtain ⟨fWt, FWt⟩ := c.def_ 8 rfl
  obtain ⟨fOt, FOt⟩ := c.def_ 9 rfl
  obtain ⟨fAt, FAt⟩ := c.def_ 10 rfl
  obtain ⟨fRi, FRi⟩ := c.def_ 11 rfl
  obtain ⟨fRx, FRx⟩ := c.def_ 12 rfl
  obtain ⟨fTw, FTw⟩ := c.def_ 13 rfl
  obtain ⟨fOr, FOr⟩ := c.def_ 14 rfl
  obtain ⟨fCk, FCk⟩ := c.def_ 15 rfl
  obtain ⟨fCp, FCp⟩ := c.def_ 16 rfl
  obtain ⟨fRd, FRd⟩ := c.def_ 17 rfl
  obtain ⟨fRD, FRD⟩ := c.def_ 18 rfl
  obtain ⟨fRA, FRA⟩ := c.def_ 19 rfl
  obtain ⟨fPc, FPc⟩ := c.def_ 20 rfl
  obtain ⟨fBa, FBa⟩ := c.def_ 21 rfl
  obtain ⟨fTa, FTa⟩ := c.def_ 22 rfl
  obtain ⟨fLe, FLe⟩ := c.def_ 23 rfl
  obtain ⟨fVo, FVo⟩ := c.def_ 24 rfl
  obtain ⟨fNa, FNa⟩ := c.def_ 25 rfl
  obtain ⟨fSg, FSg⟩ := c.def_ 26 rfl
  obtain ⟨fTx, FTx⟩ := c.def_ 27 rfl
  obtain ⟨fLa, FLa⟩ := c.def_ 28 rfl
  obtain ⟨fSe, FSe⟩ := c.def_ 29 rfl
  obtain ⟨fDw, FDw⟩ := c.def_ 30 rfl
  obtain ⟨fWh, FWh⟩ := c.def_ 31 rfl
  obtain ⟨fBe, FBe⟩ := c.def_ 32 rfl
  obtain ⟨fTo, FTo⟩ := c.def_ 33 rfl
  obtain ⟨fLm, FLm⟩ := c.def_ 34 rfl
  obtain ⟨fDu, FDu⟩ := c.def_ 35 rfl
  obtain ⟨fHm, FHm⟩ := c.def_ 36 rfl
  obtain ⟨fCh, FCh⟩ := c.def_ 37 rfl
  obtain ⟨fZi, FZi⟩ := c.def_ 38 rfl
  obtain ⟨fRrd, FRrd⟩ := sc.m (fm[0]'(by decide)) (List.getElem_mem _)
  have FRrd' := Sx.toFun (st := sRRead) FRrd
  obtain ⟨fMd, FMd⟩ := sc.m (fm[1]'(by decide)) (List.getElem_mem _)
  obtain ⟨cBR, ccBR, fBR, FBR⟩ := s.sup (fs[0]'(by decide)) (List.getElem_mem _)
  obtain ⟨cDI, ccDI, fDI, FDI⟩ := s.sup (fs[1]'(by decide)) (List.getElem_mem _)
  obtain ⟨cLI, ccLI, fLI, FLI⟩ := s.sup (fs[2]'(by decide)) (List.getElem_mem _)
  obtain ⟨cLT, ccLT, fLT, FLT⟩ := s.sup (fs[3]'(by decide)) (List.getElem_mem _)
  obtain ⟨cIW, ccIW, fIW, FIW⟩ := s.sup (fs[4]'(by decide)) (List.getElem_mem _)
  obtain ⟨cIO, ccIO, fIO, FIO⟩ := s.sup (fs[5]'(by decide)) (List.getElem_mem _)
  obtain ⟨cIA, ccIA, fIA, FIA⟩ := s.sup (fs[6]'(by decide)) (List.getElem_mem _)
  obtain ⟨cBS, ccBS, fBS, FBS⟩ := s.sup (fs[7]'(by decide)) (List.getElem_mem _)
  obtain ⟨cTM, ccTM, fTM, FTM⟩ := s.sup (fs[8]'(by decide)) (List.getElem_mem _)
  obtain ⟨cBL, ccBL, fBL, FBL⟩ := s.sup (fs[9]'(by decide)) (List.getElem_mem _)
  obtain ⟨cBM, ccBM, fBM, FBM⟩ := s.sup (fs[10]'(by decide)) (List.getElem_mem _)
  have FE' := Sx.toFun (st := sEqA) FE
  have FMe' := Sx.toFun (st := sMembers) FMe
  have FIs' := Sx.toFun (st := sIsWord) FIs
  have FAr' := Sx.toFun (st := sAreLetters) FAr
  have FLi' := Sx.toFun (st := sListed) FLi
  have FSt' := Sx.toFun (st := sStageI) FSt
  have FDt' := Sx.toFun (st := (inClass (top 19) 1)) FDt
  have FWt' := Sx.toFun (st := (inClass (top 21) 1)) FWt
  have FOt' := Sx.toFun (st := (inClass (top 22) 1)) FOt
  have FAt' := Sx.toFun (st := (inClass (top 23) 1)) FAt
  have FRi' := Sx.toFun (st := sRuleI) FRi
  have FRx' := Sx.toFun (st := sRText) FRx
  have FTw' := Sx.toFun (st := sTwice) FTw
  have FOr' := Sx.toFun (st := sOrder) FOr
  have FCk' := Sx.toFun (st := sCheck) FCk
  have FCp' := Sx.toFun (st := sCopy) FCp
  have FRd' := Sx.toFun (st := sRead) FRd
  have FRD' := Sx.toFun (st := sReadDrop) FRD
  have FRA' := Sx.toFun (st := sAfter) FRA
  have FPc' := Sx.toFun (st := sPiece) FPc
  have FBa' := Sx.toFun (st := sBag) FBa
  have FTa' := Sx.toFun (st := sTake) FTa
  have FLe' := Sx.toFun (st := sLetters) FLe
  have FVo' := Sx.toFun (st := sVowels) FVo
  have FNa' := Sx.toFun (st := sLawName) FNa
  have FSg' := Sx.toFun (st := sStage) FSg
  have FTx' := Sx.toFun (st := sStageText) FTx
  have FLa' := Sx.toFun (st := sLaw) FLa
  have FSe' := Sx.toFun (st := sIsSet) FSe
  have FDw' := Sx.toFun (st := sDropWhat) FDw
  have FWh' := Sx.toFun (st := sWhat) FWh
  have FBe' := Sx.toFun (st := sBent) FBe
  have FTo' := Sx.toFun (st := sTold) FTo
  have FLm' := Sx.toFun (st := sLMade) FLm
  have FDu' := Sx.toFun (st := sLDue) FDu
  have FHm' := Sx.toFun (st := sHowMany) FHm
  have FCh' := Sx.toFun (st := sChoices) FCh
  have FZi' := Sx.toFun (st := sLotI) FZi
  have e := hfa.symm.trans (He.glo_ok X G (c.fact 108 (f := .glo "law") rfl))
  cases e
  obtain ⟨e1, t1⟩ := He.ba s.more
  obtain ⟨e2, t2⟩ := He.ba t1
  obtain ⟨e3, t3⟩ := He.ba t2
  obtain ⟨e4, t4⟩ := He.ba t3
  obtain ⟨e5, t5⟩ := He.ba t4
  obtain ⟨e6, t6⟩ := He.ba t5
  obtain ⟨e7, t7⟩ := He.ba t6
  obtain ⟨e8, t8⟩ := He.ba t7
  obtain ⟨e9, t9⟩ := He.ba t8
  obtain ⟨e10, t10⟩ := He.ba t9
  obtain ⟨e11, t11⟩ := He.ba t10
  obtain ⟨e12, t12⟩ := He.ba t11
  obtain ⟨e13, t13⟩ := He.ba t12
  obtain ⟨e14, t14⟩ := He.ba t13
  obtain ⟨e15, t15⟩ := He.ba t14
  obtain ⟨e16, t16⟩ := He.ba t15
  obtain ⟨e17, t17⟩ := He.ba t16
  obtain ⟨e18, t18⟩ := He.ba t17
  obtain ⟨e19, t19⟩ := He.ba t18
  obtain ⟨e20, t20⟩ := He.ba t19
  obtain ⟨e21, t21⟩ := He.ba t20
  obtain ⟨e22, t22⟩ := He.ba t21
  obtain ⟨e23, t23⟩ := He.ba t22
  obtain ⟨e24, t24⟩ := He.ba t23
  obtain ⟨e25, t25⟩ := He.ba t24
  obtain ⟨e26, t26⟩ := He.ba t25
  obtain ⟨e27, t27⟩ := He.ba t26
  obtain ⟨e28, t28⟩ := He.ba t27
  obtain ⟨e29, t29⟩ := He.ba t28
  obtain ⟨e30, t30⟩ := He.ba t29
  obtain ⟨e31, t31⟩ := He.ba t30
  obtain ⟨e32, t32⟩ := He.ba t31
  obtain ⟨e33, t33⟩ := He.ba t32
  obtain ⟨e34, t34⟩ := He.ba t33
  obtain ⟨e35, t35⟩ := He.ba t34
  obtain ⟨e36, t36⟩ := He.ba t35
  obtain ⟨e37, t37⟩ := He.ba t36
  obtain ⟨e38, t38⟩ := He.ba t37
  obtain ⟨e39, t39⟩ := He.ba t38
  obtain ⟨e40, t40⟩ := He.ba t39
  obtain ⟨e41, t41⟩ := He.ba t40
  obtain ⟨e42, t42⟩ := He.ba t41
  obtain ⟨e43, t43⟩ := He.ba t42
  obtain ⟨e44, t44⟩ := He.ba t43
  obtain ⟨e45, t45⟩ := He.ba t44
  have e46 := t45
  have gC := He.glo_ok X G (c.fact 71 (f := .glo "Alphabet") rfl)
  have gBR := He.glo_ok X G (c.fact 72 (f := .glo "BadRule") rfl)
  have gDr := He.glo_ok X G (c.fact 73 (f := .glo "Drop") rfl)
  have gLs := He.glo_ok X G (c.fact 74 (f := .glo "LastDrop") rfl)
  have gW := He.glo_ok X G (c.fact 75 (f := .glo "Write") rfl)
  have gO := He.glo_ok X G (c.fact 76 (f := .glo "Once") rfl)
  have gA := He.glo_ok X G (c.fact 77 (f := .glo "Add") rfl)
  have gRR := He.glo_ok X G (c.fact 78 (f := .glo "Rule") rfl)
  have gBS := He.glo_ok X G (c.fact 79 (f := .glo "BadStage") rfl)
  have gLT := He.glo_ok X G (c.fact 80 (f := .glo "Lot") rfl)
  have gTM := He.glo_ok X G (c.fact 81 (f := .glo "TooMany") rfl)
  have gBL := He.glo_ok X G (c.fact 82 (f := .glo "BadLot") rfl)
  have gBM := He.glo_ok X G (c.fact 83 (f := .glo "BadLimit") rfl)
  have gTw := He.glo_ok X G (c.fact 84 (f := .glo "_has_twice") rfl)
  have gOr := He.glo_ok X G (c.fact 85 (f := .glo "_in_order") rfl)
  have gCk := He.glo_ok X G (c.fact 86 (f := .glo "_check_sign") rfl)
  have gCp := He.glo_ok X G (c.fact 87 (f := .glo "copy_of") rfl)
  have gRd := He.glo_ok X G (c.fact 88 (f := .glo "read_stage") rfl)
  have gRD := He.glo_ok X G (c.fact 89 (f := .glo "_read_drop") rfl)
  have gRA := He.glo_ok X G (c.fact 90 (f := .glo "_read_after") rfl)
  have gPc := He.glo_ok X G (c.fact 91 (f := .glo "read_piece") rfl)
  have gBa := He.glo_ok X G (c.fact 92 (f := .glo "_law_bag") rfl)
  have gTa := He.glo_ok X G (c.fact 93 (f := .glo "_law_take") rfl)
  have gLe := He.glo_ok X G (c.fact 94 (f := .glo "_law_letters") rfl)
  have gVo := He.glo_ok X G (c.fact 95 (f := .glo "_law_vowels") rfl)
  have gNa := He.glo_ok X G (c.fact 96 (f := .glo "_law_name") rfl)
  have gSg := He.glo_ok X G (c.fact 97 (f := .glo "_law_stage") rfl)
  have gTx := He.glo_ok X G (c.fact 98 (f := .glo "_law_stage_text") rfl)
  have gSe := He.glo_ok X G (c.fact 99 (f := .glo "_law_is_set") rfl)
  have gDw := He.glo_ok X G (c.fact 100 (f := .glo "_law_drop_what") rfl)
  have gWh := He.glo_ok X G (c.fact 101 (f := .glo "_law_what") rfl)
  have gBe := He.glo_ok X G (c.fact 102 (f := .glo "_law_bent") rfl)
  have gTo := He.glo_ok X G (c.fact 103 (f := .glo "_law_told") rfl)
  have gLm := He.glo_ok X G (c.fact 104 (f := .glo "_law_made") rfl)
  have gDu := He.glo_ok X G (c.fact 105 (f := .glo "_law_due") rfl)
  have gHm := He.glo_ok X G (c.fact 106 (f := .glo "_how_many_rules") rfl)
  have gCh := He.glo_ok X G (c.fact 107 (f := .glo "_choices") rfl)
  have z_all := He.free_ok X G (c.fact 109 (f := .free "all") rfl)
  have z_any := He.free_ok X G (c.fact 110 (f := .free "any") rfl)
  have z_enumerate := He.free_ok X G (c.fact 111 (f := .free "enumerate") rfl)
  have z_int := He.free_ok X G (c.fact 112 (f := .free "int") rfl)
  have z_isinstance := He.free_ok X G (c.fact 113 (f := .free "isinstance") rfl)
  have z_len := He.free_ok X G (c.fact 114 (f := .free "len") rfl)
  have z_list := He.free_ok X G (c.fact 115 (f := .free "list") rfl)
  have z_range := He.free_ok X G (c.fact 116 (f := .free "range") rfl)
  have z_set := He.free_ok X G (c.fact 117 (f := .free "set") rfl)
  have z_sorted := He.free_ok X G (c.fact 118 (f := .free "sorted") rfl)
  have z_str := He.free_ok X G (c.fact 119 (f := .free "str") rfl)
  have z_super := He.free_ok X G (c.fact 120 (f := .free "super") rfl)
  obtain ⟨tk_MOST_AFTER, h_MOST_AFTER⟩ := He.int_ok X G (c.fact 68 (f := .int "_MOST_AFTER" 3) rfl)
  obtain ⟨tk_GREATEST_DEPTH, h_GREATEST_DEPTH⟩ := He.int_ok X G (c.fact 69 (f := .int "_GREATEST_DEPTH" 3) rfl)
  have k_KEEP := He.str_ok X G (c.fact 70 (f := .str "_KEEP" "keep") rfl)
  have c_Alphabet : Cls K (He.ga K "Alphabet") := He.cls_ok (c.fact 0 (f := .cls "Alphabet") rfl)
  have M_Alphabet : Mk K (He.ga K "Alphabet") (He.ma K (He.ga K "Alphabet") "__init__") := He.mkr_ok (c.fact 1 (f := .mkr "Alphabet") rfl)
  have c_Add : Cls K (He.ga K "Add") := He.cls_ok (c.fact 2 (f := .cls "Add") rfl)
  have M_Add : Mk K (He.ga K "Add") (He.ma K (He.ga K "Add") "__init__") := He.mkr_ok (c.fact 3 (f := .mkr "Add") rfl)
  have c_Once : Cls K (He.ga K "Once") := He.cls_ok (c.fact 4 (f := .cls "Once") rfl)
  have M_Once : Mk K (He.ga K "Once") (He.ma K (He.ga K "Once") "__init__") := He.mkr_ok (c.fact 5 (f := .mkr "Once") rfl)
  have c_Write : Cls K (He.ga K "Write") := He.cls_ok (c.fact 6 (f := .cls "Write") rfl)
  have M_Write : Mk K (He.ga K "Write") (He.ma K (He.ga K "Write") "__init__") := He.mkr_ok (c.fact 7 (f := .mkr "Write") rfl)
  have c_LastDrop : Cls K (He.ga K "LastDrop") := He.cls_ok (c.fact 8 (f := .cls "LastDrop") rfl)
  have M_LastDrop : Mk K (He.ga K "LastDrop") (He.ma K (He.ga K "LastDrop") "__init__") := He.mkr_ok (c.fact 9 (f := .mkr "LastDrop") rfl)
  have c_Drop : Cls K (He.ga K "Drop") := He.cls_ok (c.fact 10 (f := .cls "Drop") rfl)
  have M_Drop : Mk K (He.ga K "Drop") (He.ma K (He.ga K "Drop") "__init__") := He.mkr_ok (c.fact 11 (f := .mkr "Drop") rfl)
  have c_Rule : Cls K (He.ga K "Rule") := He.cls_ok (c.fact 12 (f := .cls "Rule") rfl)
  have M_Rule : Mk K (He.ga K "Rule") (He.ma K (He.ga K "Rule") "__init__") := He.mkr_ok (c.fact 13 (f := .mkr "Rule") rfl)
  have c_Lot : Cls K (He.ga K "Lot") := He.cls_ok (c.fact 14 (f := .cls "Lot") rfl)
  have M_Lot : Mk K (He.ga K "Lot") (He.ma K (He.ga K "Lot") "__init__") := He.mkr_ok (c.fact 15 (f := .mkr "Lot") rfl)
  have n_Add_alphabet := He.noat_ok (K := K) (c.fact 16 (f := .noat "Add" "alphabet") rfl)
  have n_Add_sign := He.noat_ok (K := K) (c.fact 17 (f := .noat "Add" "sign") rfl)
  have n_Add_name := He.noat_ok (K := K) (c.fact 18 (f := .noat "Add" "name") rfl)
  have n_Add_taken := He.noat_ok (K := K) (c.fact 19 (f := .noat "Add" "taken") rfl)
  have n_Once_alphabet := He.noat_ok (K := K) (c.fact 20 (f := .noat "Once" "alphabet") rfl)
  have n_Once_sign := He.noat_ok (K := K) (c.fact 21 (f := .noat "Once" "sign") rfl)
  have n_Once_name := He.noat_ok (K := K) (c.fact 22 (f := .noat "Once" "name") rfl)
  have n_Once_taken := He.noat_ok (K := K) (c.fact 23 (f := .noat "Once" "taken") rfl)
  have n_Write_alphabet := He.noat_ok (K := K) (c.fact 24 (f := .noat "Write" "alphabet") rfl)
  have n_Write_sign := He.noat_ok (K := K) (c.fact 25 (f := .noat "Write" "sign") rfl)
  have n_Write_name := He.noat_ok (K := K) (c.fact 26 (f := .noat "Write" "name") rfl)
  have n_Write_taken := He.noat_ok (K := K) (c.fact 27 (f := .noat "Write" "taken") rfl)
  have n_LastDrop_alphabet := He.noat_ok (K := K) (c.fact 28 (f := .noat "LastDrop" "alphabet") rfl)
  have n_LastDrop_name := He.noat_ok (K := K) (c.fact 29 (f := .noat "LastDrop" "name") rfl)
  have n_LastDrop_taken := He.noat_ok (K := K) (c.fact 30 (f := .noat "LastDrop" "taken") rfl)
  have n_LastDrop_after := He.noat_ok (K := K) (c.fact 31 (f := .noat "LastDrop" "after") rfl)
  have n_LastDrop_each := He.noat_ok (K := K) (c.fact 32 (f := .noat "LastDrop" "each") rfl)
  have n_Drop_alphabet := He.noat_ok (K := K) (c.fact 33 (f := .noat "Drop" "alphabet") rfl)
  have n_Drop_name := He.noat_ok (K := K) (c.fact 34 (f := .noat "Drop" "name") rfl)
  have n_Drop_taken := He.noat_ok (K := K) (c.fact 35 (f := .noat "Drop" "taken") rfl)
  have n_Drop_after := He.noat_ok (K := K) (c.fact 36 (f := .noat "Drop" "after") rfl)
  have n_Drop_each := He.noat_ok (K := K) (c.fact 37 (f := .noat "Drop" "each") rfl)
  have n_Rule_alphabet := He.noat_ok (K := K) (c.fact 38 (f := .noat "Rule" "alphabet") rfl)
  have n_Rule_stages := He.noat_ok (K := K) (c.fact 39 (f := .noat "Rule" "stages") rfl)
  have n_Alphabet_letters := He.noat_ok (K := K) (c.fact 40 (f := .noat "Alphabet" "letters") rfl)
  have n_Alphabet_vowels := He.noat_ok (K := K) (c.fact 41 (f := .noat "Alphabet" "vowels") rfl)
  have n_Alphabet_consonants := He.noat_ok (K := K) (c.fact 42 (f := .noat "Alphabet" "consonants") rfl)
  have n_Alphabet_signs := He.noat_ok (K := K) (c.fact 43 (f := .noat "Alphabet" "signs") rfl)
  have n_BadRule_stage := He.noat_ok (K := K) (c.fact 44 (f := .noat "BadRule" "stage") rfl)
  have n_BadRule_what := He.noat_ok (K := K) (c.fact 45 (f := .noat "BadRule" "what") rfl)
  have n_BadStage_what := He.noat_ok (K := K) (c.fact 46 (f := .noat "BadStage" "what") rfl)
  have n_TooMany_number := He.noat_ok (K := K) (c.fact 47 (f := .noat "TooMany" "number") rfl)
  have n_BadLot_number := He.noat_ok (K := K) (c.fact 48 (f := .noat "BadLot" "number") rfl)
  have n_BadLimit_asked := He.noat_ok (K := K) (c.fact 49 (f := .noat "BadLimit" "asked") rfl)
  have n_Lot_alphabet := He.noat_ok (K := K) (c.fact 50 (f := .noat "Lot" "alphabet") rfl)
  have n_Lot_rules := He.noat_ok (K := K) (c.fact 51 (f := .noat "Lot" "rules") rfl)
  have m_Rule_text : Meth K (He.ga K "Rule") "text" (He.ma K (He.ga K "Rule") "text") := He.meth_ok (c.fact 52 (f := .meth "Rule" "text") rfl)
  have m_Drop_text : Meth K (He.ga K "Drop") "text" (He.ma K (He.ga K "Drop") "text") := He.meth_ok (c.fact 53 (f := .meth "Drop" "text") rfl)
  have m_LastDrop_text : Meth K (He.ga K "LastDrop") "text" (He.ma K (He.ga K "LastDrop") "text") := He.meth_ok (c.fact 54 (f := .meth "LastDrop" "text") rfl)
  have m_Write_text : Meth K (He.ga K "Write") "text" (He.ma K (He.ga K "Write") "text") := He.meth_ok (c.fact 55 (f := .meth "Write" "text") rfl)
  have m_Once_text : Meth K (He.ga K "Once") "text" (He.ma K (He.ga K "Once") "text") := He.meth_ok (c.fact 56 (f := .meth "Once" "text") rfl)
  have m_Add_text : Meth K (He.ga K "Add") "text" (He.ma K (He.ga K "Add") "text") := He.meth_ok (c.fact 57 (f := .meth "Add" "text") rfl)
  have m_Alphabet_eq : Meth K (He.ga K "Alphabet") "__eq__" (He.ma K (He.ga K "Alphabet") "__eq__") := He.meth_ok (c.fact 58 (f := .meth "Alphabet" "__eq__") rfl)
  have m_BadRule_init : Meth K (He.ga K "BadRule") "__init__" (He.ma K (He.ga K "BadRule") "__init__") := He.meth_ok (c.fact 59 (f := .meth "BadRule" "__init__") rfl)
  have m_BadStage_init : Meth K (He.ga K "BadStage") "__init__" (He.ma K (He.ga K "BadStage") "__init__") := He.meth_ok (c.fact 60 (f := .meth "BadStage" "__init__") rfl)
  have m_Alphabet_members : Meth K (He.ga K "Alphabet") "members" (He.ma K (He.ga K "Alphabet") "members") := He.meth_ok (c.fact 61 (f := .meth "Alphabet" "members") rfl)
  have m_Alphabet_can_be_listed : Meth K (He.ga K "Alphabet") "_can_be_listed" (He.ma K (He.ga K "Alphabet") "_can_be_listed") := He.meth_ok (c.fact 62 (f := .meth "Alphabet" "_can_be_listed") rfl)
  have m_Alphabet_is_word : Meth K (He.ga K "Alphabet") "is_word" (He.ma K (He.ga K "Alphabet") "is_word") := He.meth_ok (c.fact 63 (f := .meth "Alphabet" "is_word") rfl)
  have m_Alphabet_are_letters : Meth K (He.ga K "Alphabet") "_are_letters" (He.ma K (He.ga K "Alphabet") "_are_letters") := He.meth_ok (c.fact 64 (f := .meth "Alphabet" "_are_letters") rfl)
  have m_BadLimit_init : Meth K (He.ga K "BadLimit") "__init__" (He.ma K (He.ga K "BadLimit") "__init__") := He.meth_ok (c.fact 65 (f := .meth "BadLimit" "__init__") rfl)
  have m_BadLot_init : Meth K (He.ga K "BadLot") "__init__" (He.ma K (He.ga K "BadLot") "__init__") := He.meth_ok (c.fact 66 (f := .meth "BadLot" "__init__") rfl)
  have m_TooMany_init : Meth K (He.ga K "TooMany") "__init__" (He.ma K (He.ga K "TooMany") "__init__") := He.meth_ok (c.fact 67 (f := .meth "TooMany" "__init__") rfl)
  have bE := FE'.binds (ps := ["self", "other"]) fun _ _ _ _ _ _ us hl => match us, hl with | [_, _], _ => rfl
  have bMe := FMe'.binds (ps := ["self", "name"]) fun _ _ _ _ _ _ us hl => match us, hl with | [_, _], _ => rfl
  have bIs := FIs'.binds (ps := ["self", "text"]) fun _ _ _ _ _ _ us hl => match us, hl with | [_, _], _ => rfl
  have bAr := FAr'.binds (ps := ["self", "letters"]) fun _ _ _ _ _ _ us hl => match us, hl with | [_, _], _ => rfl
  have bLi := FLi'.binds (ps := ["self", "signs"]) fun _ _ _ _ _ _ us hl => match us, hl with | [_, _], _ => rfl
  have bSt := FSt'.binds (ps := ["self", "alphabet"]) fun _ _ _ _ _ _ us hl => match us, hl with | [_, _], _ => rfl
  have bDt := FDt'.binds (ps := ["self"]) fun _ _ _ _ _ _ us hl => match us, hl with | [_], _ => rfl
  have bWt := FWt'.binds (ps := ["self"]) fun _ _ _ _ _ _ us hl => match us, hl with | [_], _ => rfl
  have bOt := FOt'.binds (ps := ["self"]) fun _ _ _ _ _ _ us hl => match us, hl with | [_], _ => rfl
  have bAt := FAt'.binds (ps := ["self"]) fun _ _ _ _ _ _ us hl => match us, hl with | [_], _ => rfl
  have bRx := FRx'.binds (ps := ["self"]) fun _ _ _ _ _ _ us hl => match us, hl with | [_], _ => rfl
  have bTw := FTw'.binds (ps := ["text"]) fun _ _ _ _ _ _ us hl => match us, hl with | [_], _ => rfl
  have bOr := FOr'.binds (ps := ["text"]) fun _ _ _ _ _ _ us hl => match us, hl with | [_], _ => rfl
  have bCk := FCk'.binds (ps := ["alphabet", "sign"]) fun _ _ _ _ _ _ us hl => match us, hl with | [_, _], _ => rfl
  have bCp := FCp'.binds (ps := ["alphabet"]) fun _ _ _ _ _ _ us hl => match us, hl with | [_], _ => rfl
  have bRd := FRd'.binds (ps := ["alphabet", "text"]) fun _ _ _ _ _ _ us hl => match us, hl with | [_, _], _ => rfl
  have bRD := FRD'.binds (ps := ["alphabet", "name", "parts"]) fun _ _ _ _ _ _ us hl => match us, hl with | [_, _, _], _ => rfl
  have bRA := FRA'.binds (ps := ["word"]) fun _ _ _ _ _ _ us hl => match us, hl with | [_], _ => rfl
  have bPc := FPc'.binds (ps := ["alphabet", "number", "piece"]) fun _ _ _ _ _ _ us hl => match us, hl with | [_, _, _], _ => rfl
  have bBa := FBa'.binds (ps := ["_law_script"]) fun _ _ _ _ _ _ us hl => match us, hl with | [_], _ => rfl
  have bTa := FTa'.binds (ps := ["_law_bag_here", "_law_size"]) fun _ _ _ _ _ _ us hl => match us, hl with | [_, _], _ => rfl
  have bLe := FLe'.binds (ps := ["_law_bag_here", "_law_top"]) fun _ _ _ _ _ _ us hl => match us, hl with | [_, _], _ => rfl
  have bVo := FVo'.binds (ps := ["_law_bag_here", "_law_letters_here"]) fun _ _ _ _ _ _ us hl => match us, hl with | [_, _], _ => rfl
  have bNa := FNa'.binds (ps := ["_law_bag_here", "_law_letters_here"]) fun _ _ _ _ _ _ us hl => match us, hl with | [_, _], _ => rfl
  have bSg := FSg'.binds (ps := ["_law_bag_here", "_law_letters_here"]) fun _ _ _ _ _ _ us hl => match us, hl with | [_, _], _ => rfl
  have bTx := FTx'.binds (ps := ["_law_stage_here"]) fun _ _ _ _ _ _ us hl => match us, hl with | [_], _ => rfl
  have bSe := FSe'.binds (ps := ["_law_letters_here", "_law_name_here"]) fun _ _ _ _ _ _ us hl => match us, hl with | [_, _], _ => rfl
  have bDw := FDw'.binds (ps := ["_law_letters_here", "_law_words"]) fun _ _ _ _ _ _ us hl => match us, hl with | [_, _], _ => rfl
  have bWh := FWh'.binds (ps := ["_law_letters_here", "_law_text"]) fun _ _ _ _ _ _ us hl => match us, hl with | [_, _], _ => rfl
  have bBe := FBe'.binds (ps := ["_law_bag_here", "_law_letters_here"]) fun _ _ _ _ _ _ us hl => match us, hl with | [_, _], _ => rfl
  have bTo := FTo'.binds (ps := ["_law_rules"]) fun _ _ _ _ _ _ us hl => match us, hl with | [_], _ => rfl
  have bLm := FLm'.binds (ps := ["_law_alphabet", "_law_texts", "_law_top"]) fun _ _ _ _ _ _ us hl => match us, hl with | [_, _, _], _ => rfl
  have bDu := FDu'.binds (ps := ["_law_letters_here", "_law_texts", "_law_top"]) fun _ _ _ _ _ _ us hl => match us, hl with | [_, _, _], _ => rfl
  have bHm := FHm'.binds (ps := ["pieces", "depth"]) fun _ _ _ _ _ _ us hl => match us, hl with | [_, _], _ => rfl
  have bCh := FCh'.binds (ps := ["pieces", "depth"]) fun _ _ _ _ _ _ us hl => match us, hl with | [_, _], _ => rfl
  have bZi := FZi'.binds (ps := ["self", "rules"]) fun _ _ _ _ _ _ us hl => match us, hl with | [_, _], _ => rfl
  have bRrd := FRrd'.binds (ps := ["cls", "alphabet", "text"]) fun _ _ _ _ _ _ us hl => match us, hl with | [_, _, _], _ => rfl
  have bBR := FBR.binds (ps := ["self", "stage", "what"]) fun _ _ _ _ _ us hl => match us, hl with | [_, _, _], _ => rfl
  have bLT := FLT.binds (ps := ["self"]) fun _ _ _ _ _ us hl => match us, hl with | [_], _ => rfl
  have bIW := FIW.binds (ps := ["self", "alphabet", "sign", "name"]) fun _ _ _ _ _ us hl => match us, hl with | [_, _, _, _], _ => rfl
  have bIO := FIO.binds (ps := ["self", "alphabet", "name"]) fun _ _ _ _ _ us hl => match us, hl with | [_, _, _], _ => rfl
  have bIA := FIA.binds (ps := ["self", "alphabet", "sign"]) fun _ _ _ _ _ us hl => match us, hl with | [_, _, _], _ => rfl
  have bBS := FBS.binds (ps := ["self", "what"]) fun _ _ _ _ _ us hl => match us, hl with | [_, _], _ => rfl
  have bTM := FTM.binds (ps := ["self", "number"]) fun _ _ _ _ _ us hl => match us, hl with | [_, _], _ => rfl
  have bBL := FBL.binds (ps := ["self", "number"]) fun _ _ _ _ _ us hl => match us, hl with | [_, _], _ => rfl
  have bBM := FBM.binds (ps := ["self", "limit"]) fun _ _ _ _ _ us hl => match us, hl with | [_, _], _ => rfl
  have bLa := FunD.bindsA (ps := ["_law_script"]) FLa fun _ _ _ _ _ _ us hl => match us, hl with | [_], _ => rfl
  obtain ⟨d0, r0, bI0⟩ := FunD.binds1 (ps := ["self", "letters", "vowels"]) FI 3 1 (List.cons_ne_nil _ _) rfl fun _ _ _ _ _ _ _ us its hl hi => match us, hl, its, hi with | [_, _, _], _, [_], _ => ⟨_, rfl, rfl⟩
  cases (show Vals [] d0 from r0)
  refine ⟨fLa, fun s v => bLa s [v] rfl, fun base _ _ => ?_⟩
  have htop : (prog.main.scope.names.lookup ("super" : Str)).isSome = false := by decide +kernel
  have kbDI : KBn K fDI ["self", "alphabet", "name", "after", "each"] 3 ["after", "each"] (fun us ws => us ++ ws) (fun vs zs => vs ++ zs) := FDI.kbinds fun _ _ _ _ _ us ws h1 h2 => match us, h1, ws, h2 with | [_, _, _], _, [_, _], _ => rfl
  have kbLI : KBn K fLI ["self", "alphabet", "name", "after", "each"] 3 ["after", "each"] (fun us ws => us ++ ws) (fun vs zs => vs ++ zs) := FLI.kbinds fun _ _ _ _ _ us ws h1 h2 => match us, h1, ws, h2 with | [_, _, _], _, [_, _], _ => rfl
  have SD : DCls K (He.ga K "Drop") := ⟨c_Drop, n_Drop_alphabet, n_Drop_name, n_Drop_taken, n_Drop_after, n_Drop_each⟩
  have SL : DCls K (He.ga K "LastDrop") := ⟨c_LastDrop, n_LastDrop_alphabet, n_LastDrop_name, n_LastDrop_taken, n_LastDrop_after, n_LastDrop_each⟩
  have SW : SCls K (He.ga K "Write") := ⟨c_Write, n_Write_alphabet, n_Write_sign, n_Write_name, n_Write_taken⟩
  have SO : SCls K (He.ga K "Once") := ⟨c_Once, n_Once_alphabet, n_Once_sign, n_Once_name, n_Once_taken⟩
  have SA : SCls K (He.ga K "Add") := ⟨c_Add, n_Add_alphabet, n_Add_sign, n_Add_name, n_Add_taken⟩
  have T : ATxt K mg (He.ga K "Alphabet") := ⟨c_Alphabet, n_Alphabet_letters, n_Alphabet_vowels, n_Alphabet_consonants, n_Alphabet_signs, He.conB_ok e5, He.conB_ok e6, gC⟩
  have GTw : FnOk prog w K mg base CX0 1 _ fTw ["text"] spTwice := ok_twice FTw' z_len z_set
  have GOr : FnOk prog w K mg base CX0 1 _ fOr ["text"] spOrder := ok_order FOr' z_sorted
  have GIs : FnOk prog w K mg base CX0 1 _ fIs ["self", "text"] (spIsWord _) := ok_isword FIs' T z_all
  have GAr : FnOk prog w K mg base CX0 2 _ fAr ["self", "letters"] (spAreLetters _) := ok_are FAr' T GTw bTw gTw FTw'.kp z_isinstance z_str z_len z_all
  have GLi : FnOk prog w K mg base CX0 2 _ fLi ["self", "signs"] (spListed _) := ok_listed FLi' T GTw bTw gTw FTw'.kp GOr bOr gOr FOr'.kp GIs bIs m_Alphabet_is_word
  have GI : FnOk prog w K mg base CX0 3 _ fI ["self", "letters", "vowels"] (spInitA _) := ok_initA FI T GTw bTw gTw FTw'.kp GOr bOr gOr FOr'.kp GAr bAr m_Alphabet_are_letters z_all
  have GEq : FnOk prog w K mg base CX0 1 _ fE ["self", "other"] (spEqA (He.ga K "Alphabet")) := ok_eqA FE' T (Sx.clsB_ok e4) z_isinstance
  have GCp : FnOk prog w K mg base CX0 5 _ fCp ["alphabet"] (spCopy _) := ok_copy FCp' T M_Alphabet GI bI0
  have GSt : FnOk prog w K mg base CX0 6 _ fSt ["self", "alphabet"] (spStageI K _) := ok_stageI FSt' GCp bCp gCp FCp'.kp
  have XDD : StageX prog w K mg base (He.ga K "Alphabet") (He.ga K "Drop") (He.ga K "Drop") _ fSt := ⟨supPB_ok e18, GSt, bSt, SD⟩
  have XLD : StageX prog w K mg base (He.ga K "Alphabet") (He.ga K "LastDrop") (He.ga K "Drop") _ fSt := ⟨supPB_ok e17, GSt, bSt, SL⟩
  have XW : StageX5 prog w K mg base (He.ga K "Alphabet") (He.ga K "Write") _ fSt := ⟨supPB_ok e15, GSt, bSt, SW⟩
  have XO : StageX5 prog w K mg base (He.ga K "Alphabet") (He.ga K "Once") _ fSt := ⟨supPB_ok e14, GSt, bSt, SO⟩
  have XA : StageX5 prog w K mg base (He.ga K "Alphabet") (He.ga K "Add") _ fSt := ⟨supPB_ok e13, GSt, bSt, SA⟩
  have R1 : FnR prog w K mg base CX0 1 (He.ma K (He.ga K "Drop") "text") (spDropT (He.ga K "LastDrop")) := fnR_of fun vs H Q E h => by
    obtain ⟨a, dx, q, n, m, af, e, rfl, ha, hn, h3, k⟩ := h
    exact ⟨_, (ok_dText FDt' SL hn h3).raw bDt .nil, ⟨a, dx, rfl, ha, k⟩⟩
  have GLT : FnOk prog w K mg base CX0 2 _ fLT ["self"] (spLText (He.ga K "LastDrop")) := ok_lText FLT (supPB_ok e1) R1 htop z_super
  have GBR : FnOk prog w K mg base CX0 1 _ fBR ["self", "stage", "what"] (spX2 (He.ga K "BadRule") "stage" "what") := ok_BadRule FBR (Sx.oexB_ok e7) (Sx.supB_ok e8) n_BadRule_stage n_BadRule_what htop z_super
  have XBR : RaiseX prog w K mg base "BadRule" ["self", "stage", "what"] (spX2 (He.ga K "BadRule") "stage" "what") (He.ga K "BadRule") _ fBR := ⟨Sx.oexB_ok e7, m_BadRule_init.at_, beq_iff_eq.mp m_BadRule_init.fn, GBR, bBR, gBR⟩
  let Wc : Kd → Addr := fun j => match j with
    | .d => He.ga K "Drop"
    | .l => He.ga K "LastDrop"
    | .w => He.ga K "Write"
    | .o => He.ga K "Once"
    | .a => He.ga K "Add"
  let kT : Kd → Addr := fun j => match j with
    | .d => He.ma K (He.ga K "Drop") "text"
    | .l => He.ma K (He.ga K "LastDrop") "text"
    | .w => He.ma K (He.ga K "Write") "text"
    | .o => He.ma K (He.ga K "Once") "text"
    | .a => He.ma K (He.ga K "Add") "text"
  have Z5 : ∀ j, Cl5 K (Wc j) := fun j => match j with
    | .d => ⟨SD.cl, SD.nA⟩
    | .l => ⟨SL.cl, SL.nA⟩
    | .w => ⟨SW.cl, SW.nA⟩
    | .o => ⟨SO.cl, SO.nA⟩
    | .a => ⟨SA.cl, SA.nA⟩
  have mT : ∀ j, Meth K (Wc j) "text" (kT j) := fun j => match j with
    | .d => m_Drop_text
    | .l => m_LastDrop_text
    | .w => m_Write_text
    | .o => m_Once_text
    | .a => m_Add_text
  let uT : Kd → FuncData := fun j => match j with
    | .d => fDt
    | .l => fLT
    | .w => fWt
    | .o => fOt
    | .a => fAt
  have FamT : ∀ j, FnR prog w K mg base CX0 2 (kT j) (sp5T Wc j) := famT (Wc := Wc) (gT := kT) (fT := uT) (fun q n m af e hn h3 => ⟨ok_dText FDt' SD hn h3, bDt⟩) ⟨GLT, bLT⟩ (fun q c n m hn => ⟨ok_wText FWt' SW hn, bWt⟩) (fun q n m hn => ⟨ok_oText FOt' SO hn, bOt⟩) (fun q c => ⟨ok_aText FAt' SA, bAt⟩)
  have ZR : RCls K (He.ga K "Rule") := ⟨c_Rule, n_Rule_alphabet, n_Rule_stages, He.conB_ok e2⟩
  have FRI := ok_ruleI (P := prog) (w := w) (mg := mg) (base := base) (C := He.ga K "Alphabet") (RC := He.ga K "Rule") (Wc := Wc) FRi' Z5 ZR GCp bCp gCp FCp'.kp GEq bE m_Alphabet_eq.at_ m_Alphabet_eq.fn (He.eqO_ok e3) (Sx.clsB_ok e4).hm z_len z_any
  have gKeep : ∃ u, mg "_KEEP" = some u ∧ RelV (.str ("keep" : Str)) u := let ⟨t, e⟩ := k_KEEP; ⟨_, e, ⟨t, rfl⟩⟩
  have GRx : FnOk prog w K mg base CX0 3 _ fRx ["self"] (spRText (He.ga K "Alphabet") (He.ga K "Rule") Wc) := ok_rtext FRx' Z5 ZR mT FamT gKeep z_len
  have GTa : FnOk prog w K mg base CX0 1 _ fTa ["_law_bag_here", "_law_size"] spTake := ok_take FTa' z_int z_len
  have LTa : LawG prog w K mg base 1 "_law_take" ["_law_bag_here", "_law_size"] spTake _ fTa := ⟨GTa, bTa, gTa, FTa'.kp⟩
  have GBa : FnOk prog w K mg base CX0 1 _ fBa ["_law_script"] (spBag K) := ok_bag FBa' z_list
  have LBa : LawG prog w K mg base 1 "_law_bag" ["_law_script"] (spBag K) _ fBa := ⟨GBa, bBa, gBa, FBa'.kp⟩
  have GLe : FnOk prog w K mg base CX0 2 _ fLe ["_law_bag_here", "_law_top"] spLetters := ok_letters FLe' GTa bTa gTa FTa'.kp z_list z_len z_range z_sorted
  have LLe : LawG prog w K mg base 2 "_law_letters" ["_law_bag_here", "_law_top"] spLetters _ fLe := ⟨GLe, bLe, gLe, FLe'.kp⟩
  have GVo : FnOk prog w K mg base CX0 2 _ fVo ["_law_bag_here", "_law_letters_here"] spVowels := ok_vowels FVo' GTa bTa gTa FTa'.kp
  have LVo : LawG prog w K mg base 2 "_law_vowels" ["_law_bag_here", "_law_letters_here"] spVowels _ fVo := ⟨GVo, bVo, gVo, FVo'.kp⟩
  have GNa : FnOk prog w K mg base CX0 2 _ fNa ["_law_bag_here", "_law_letters_here"] spLawName := ok_lawname FNa' GTa bTa gTa FTa'.kp z_len
  have LNa : LawG prog w K mg base 2 "_law_name" ["_law_bag_here", "_law_letters_here"] spLawName _ fNa := ⟨GNa, bNa, gNa, FNa'.kp⟩
  have GSg : FnOk prog w K mg base CX0 3 _ fSg ["_law_bag_here", "_law_letters_here"] spLawStage := ok_stage FSg' LTa LNa z_len
  have LSg : LawG prog w K mg base 3 "_law_stage" ["_law_bag_here", "_law_letters_here"] spLawStage _ fSg := ⟨GSg, bSg, gSg, FSg'.kp⟩
  have GTx : FnOk prog w K mg base CX0 1 _ fTx ["_law_stage_here"] (spStageText K) := ok_stagetext FTx' z_str z_int
  have LTx : LawG prog w K mg base 1 "_law_stage_text" ["_law_stage_here"] (spStageText K) _ fTx := ⟨GTx, bTx, gTx, FTx'.kp⟩
  have CRd : ClX.CRead K (He.ga K "Rule") (.type "type") := creadB_ok e22
  have CMo : ∃ u, ClX.CVal K (He.ga K "Rule") (.type "type") "MOST" (.int 4) u := clsvB_ok e19
  have CTr := He5.cmet_of e20 e21
  have GBs : FnOk prog w K mg base CX0 1 _ fBS ["self", "what"] (spBS (He.ga K "BadStage")) := ok_bad FBS (Sx.oexB_ok e9) (Sx.supB_ok e12) n_BadStage_what htop z_super
  have BSx : BadS prog w K mg base (He.ga K "BadStage") _ fBS := ⟨Sx.oexB_ok e9, m_BadStage_init.at_, beq_iff_eq.mp m_BadStage_init.fn, GBs, bBS, gBS⟩
  have GMeX : FnOk prog w K mg base (L2N.CX prog w) 3 _ fMe ["self", "name"] (spMemX (He.ga K "Alphabet") (He.ga K "BadStage")) := ok_membersX FMe' T GLi bLi m_Alphabet_can_be_listed BSx
  have GCkX : FnOk prog w K mg base (L2N.CX prog w) 3 _ fCk ["alphabet", "sign"] (spCheckX (He.ga K "Alphabet") (He.ga K "BadStage")) := ok_checkX FCk' T z_len BSx
  have GDX : FnOk prog w K mg base (L2N.CX prog w) 7 _ fDI ["self", "alphabet", "name", "after", "each"] (spDropX (He.ga K "Alphabet") (He.ga K "BadStage") (He.ga K "Drop")) := ok_dropX FDI T XDD GMeX bMe m_Alphabet_members h_MOST_AFTER BSx htop z_super
  have GDLX : FnOk prog w K mg base (L2N.CX prog w) 7 _ fDI ["self", "alphabet", "name", "after", "each"] (spDropX (He.ga K "Alphabet") (He.ga K "BadStage") (He.ga K "LastDrop")) := ok_dropX FDI T XLD GMeX bMe m_Alphabet_members h_MOST_AFTER BSx htop z_super
  have GLIX : FnOk prog w K mg base (L2N.CX prog w) 8 _ fLI ["self", "alphabet", "name", "after", "each"] (spDropX (He.ga K "Alphabet") (He.ga K "BadStage") (He.ga K "LastDrop")) := ok_lastX FLI (supPB_ok e16) GDLX kbDI htop z_super
  have GIWX : FnOk prog w K mg base (L2N.CX prog w) 7 _ fIW ["self", "alphabet", "sign", "name"] (spWriteX (He.ga K "Alphabet") (He.ga K "BadStage") (He.ga K "Write")) := ok_writeX FIW T XW GMeX bMe m_Alphabet_members GCkX bCk gCk FCk'.kp htop z_super
  have GIOX : FnOk prog w K mg base (L2N.CX prog w) 7 _ fIO ["self", "alphabet", "name"] (spOnceX (He.ga K "Alphabet") (He.ga K "BadStage") (He.ga K "Once")) := ok_onceX FIO T XO GMeX bMe m_Alphabet_members htop z_super
  have GIAX : FnOk prog w K mg base (L2N.CX prog w) 7 _ fIA ["self", "alphabet", "sign"] (spAddX (He.ga K "Alphabet") (He.ga K "BadStage") (He.ga K "Add")) := ok_addX FIA T XA GCkX bCk gCk FCk'.kp htop z_super
  have GRAX : FnOk prog w K mg base CX0 1 _ fRA ["word"] spAfterX := ok_after FRA' z_int
  have GRDX : FnOk prog w K mg base (L2N.CX prog w) 10 _ fRD ["alphabet", "name", "parts"] (spReadDropX (He.ga K "Alphabet") (He.ga K "BadStage") Wc) := ok_readDrop (Wc := Wc) FRD' ⟨GRAX, bRA, gRA, FRA'.kp⟩ ⟨M_Drop, GDX, gDr⟩ kbDI ⟨M_LastDrop, GLIX, gLs⟩ kbLI BSx z_len
  have GRdX : FnOk prog w K mg base (L2N.CX prog w) 11 _ fRd ["alphabet", "text"] (spReadX (He.ga K "Alphabet") (He.ga K "BadStage") Wc) := ok_read (Wc := Wc) FRd' ⟨GRDX, bRD, gRD, FRD'.kp⟩ ⟨M_Write, GIWX, gW⟩ bIW ⟨M_Once, GIOX, gO⟩ bIO ⟨M_Add, GIAX, gA⟩ bIA BSx z_len
  have FBRH : L2H.FnH prog w K mg base CX0 1 _ fBR ["self", "stage", "what"] (spX2 (He.ga K "BadRule") "stage" "what") := ok_BadRuleH FBR (Sx.oexB_ok e7) (Sx.supB_ok e8) n_BadRule_stage n_BadRule_what htop z_super
  have GPcX : FnOk prog w K mg base (L2.CX prog w) 12 _ fPc ["alphabet", "number", "piece"] (spPieceX (He.ga K "Alphabet") (He.ga K "BadRule") Wc) := ok_piece (fB := He.ga K "BadRule") FPc' ⟨GRdX, bRd, gRd, FRd'.kp⟩ (Sx.oexB_ok e9) gBS (Sx.excB_xf e10) n_BadStage_what (of_decide_eq_true e11) (Sx.oexB_ok e7) m_BadRule_init.at_ (beq_iff_eq.mp m_BadRule_init.fn) FBRH bBR gBR
  have GRrdX : FnOk prog w K mg base (L2.CX prog w) 13 _ fRrd ["cls", "alphabet", "text"] (spRReadX (He.ga K "Alphabet") (He.ga K "Rule") (He.ga K "BadRule") Wc) := ok_rread FRrd' CRd CMo gKeep z_enumerate GPcX bPc gPc FPc'.kp XBR M_Rule FRI
  have FRrdX : FnR prog w K mg base (L2.CX prog w) 13 (He5.wf K (He.ga K "Rule") "classmethod" "read") (spRReadX (He.ga K "Alphabet") (He.ga K "Rule") (He.ga K "BadRule") Wc) := (GRrdX.raw bRrd .nil).imp fun vs H Q E h => by rw [List.append_nil]; exact h
  have GSe : FnOk prog w K mg base CX0 1 _ fSe ["_law_letters_here", "_law_name_here"] spIsSet := ok_isset FSe' z_len
  have LSe : LawG prog w K mg base 1 "_law_is_set" ["_law_letters_here", "_law_name_here"] spIsSet _ fSe := ⟨GSe, bSe, gSe, FSe'.kp⟩
  have LDw : LawG prog w K mg base 2 "_law_drop_what" ["_law_letters_here", "_law_words"] spDropWhat _ fDw := ⟨ok_dropwhat FDw' LSe z_len, bDw, gDw, FDw'.kp⟩
  have LWh : LawG prog w K mg base 3 "_law_what" ["_law_letters_here", "_law_text"] spWhat _ fWh := ⟨ok_what FWh' LSe LDw z_len z_list, bWh, gWh, FWh'.kp⟩
  have LBe : LawG prog w K mg base 4 "_law_bent" ["_law_bag_here", "_law_letters_here"] spBent _ fBe := ⟨ok_bent FBe' LTa LSg LTx z_len z_range, bBe, gBe, FBe'.kp⟩
  have GHm : FnOk prog w K mg base CX0 1 _ fHm ["pieces", "depth"] spHowMany := ok_howmany FHm' z_range
  have GCh : FnOk prog w K mg base CX0 1 _ fCh ["pieces", "depth"] spChoices := ok_choices FCh' z_range
  have ZLc : LCls K (He.ga K "Lot") := ⟨c_Lot, n_Lot_alphabet, n_Lot_rules⟩
  have GTm : FnOk prog w K mg base CX0 1 _ fTM ["self", "number"] (spX1 (He.ga K "TooMany") "number") := ok_TooMany FTM (Sx.oexB_ok e41) (Sx.supB_ok e42) n_TooMany_number htop z_super
  have XTm : RaiseX prog w K mg base "TooMany" ["self", "number"] (spX1 (He.ga K "TooMany") "number") (He.ga K "TooMany") _ fTM := ⟨Sx.oexB_ok e41, m_TooMany_init.at_, beq_iff_eq.mp m_TooMany_init.fn, GTm, bTM, gTM⟩
  have GBl : FnOk prog w K mg base CX0 1 _ fBL ["self", "number"] (spX1 (He.ga K "BadLot") "number") := ok_BadLot FBL (Sx.oexB_ok e39) (Sx.supB_ok e40) n_BadLot_number htop z_super
  have XBl : RaiseX prog w K mg base "BadLot" ["self", "number"] (spX1 (He.ga K "BadLot") "number") (He.ga K "BadLot") _ fBL := ⟨Sx.oexB_ok e39, m_BadLot_init.at_, beq_iff_eq.mp m_BadLot_init.fn, GBl, bBL, gBL⟩
  have GBm : FnOk prog w K mg base CX0 1 _ fBM ["self", "limit"] (spX1 (He.ga K "BadLimit") "asked") := ok_BadLimit FBM (Sx.oexB_ok e37) (Sx.supB_ok e38) n_BadLimit_asked htop z_super
  have XBm : RaiseX prog w K mg base "BadLimit" ["self", "limit"] (spX1 (He.ga K "BadLimit") "asked") (He.ga K "BadLimit") _ fBM := ⟨Sx.oexB_ok e37, m_BadLimit_init.at_, beq_iff_eq.mp m_BadLimit_init.fn, GBm, bBM, gBM⟩
  have GZx : FnOk prog w K mg base (L2.CX prog w) 6 _ fZi ["self", "rules"] (spLotX (He.ga K "Alphabet") (He.ga K "Rule") (He.ga K "Lot") (He.ga K "BadLot") Wc) := ok_lotX FZi' ZLc ZR GCp bCp gCp FCp'.kp GEq bE m_Alphabet_eq.at_ m_Alphabet_eq.fn (He.eqO_ok e3) (Sx.clsB_ok e4).hm GRx bRx m_Rule_text XBl z_len z_enumerate z_list
  have RZx : FnR prog w K mg base (L2.CX prog w) 6 (He.ma K (He.ga K "Lot") "__init__") (spLotX (He.ga K "Alphabet") (He.ga K "Rule") (He.ga K "Lot") (He.ga K "BadLot") Wc) := (GZx.raw bZi .nil).imp fun vs H Q E h => by rw [List.append_nil]; exact h
  have CLt : ClX.CRead K (He.ga K "Lot") (.type "type") := creadB_ok e46
  have CMl : ∃ u, ClX.CVal K (He.ga K "Lot") (.type "type") "MOST" (.int 200) u := clsvB_ok e43
  have CTl := He5.cmet_of e44 e45
  have GMd : Sx.FnKw prog w K mg base (L2.CX prog w) 14 (He5.wf K (He.ga K "Lot") "classmethod" "made") ["depth"] (spMade (He.ga K "Alphabet") (He.ga K "Rule") (He.ga K "Lot") (He.ga K "BadLimit") (He.ga K "BadRule") (He.ga K "BadLot") (He.ga K "TooMany")) := ok_made (Wc := Wc) FMd CLt CMl h_GREATEST_DEPTH GPcX bPc gPc FPc'.kp GHm bHm gHm FHm'.kp GCh bCh gCh FCh'.kp M_Rule gRR FRI M_Lot RZx XTm XBl XBm z_len z_enumerate
  have DBM : XRd K mg (He.ga K "BadLimit") "BadLimit" "asked" := ⟨gBM, Sx.excB_xf e36, n_BadLimit_asked⟩
  have DBR : XRd K mg (He.ga K "BadRule") "BadRule" "stage" := ⟨gBR, Sx.excB_xf e35, n_BadRule_stage⟩
  have DBL : XRd K mg (He.ga K "BadLot") "BadLot" "number" := ⟨gBL, Sx.excB_xf e34, n_BadLot_number⟩
  have DTM : XRd K mg (He.ga K "TooMany") "TooMany" "number" := ⟨gTM, Sx.excB_xf e33, n_TooMany_number⟩
  have MEms : Ems K (He.ga K "BadLimit") (He.ga K "BadRule") (He.ga K "BadLot") (He.ga K "TooMany") := ⟨of_decide_eq_true e23, of_decide_eq_true e24, of_decide_eq_true e25, of_decide_eq_true e26, of_decide_eq_true e27, of_decide_eq_true e28, of_decide_eq_true e29, of_decide_eq_true e30, of_decide_eq_true e31, of_decide_eq_true e32⟩
  have LTo : LawG prog w K mg base 8 "_law_told" ["_law_rules"] (spTold (He.ga K "Alphabet") (He.ga K "Rule") Wc) _ fTo := ⟨ok_told FTo' gLT M_Lot GZx bZi DBL MEms.ll, bTo, gTo, FTo'.kp⟩
  have LLm : LawG prog w K mg base 15 "_law_made" ["_law_alphabet", "_law_texts", "_law_top"] (spLMade K (He.ga K "Alphabet")) _ fLm := ⟨ok_lmade FLm' gLT CLt CTl GMd DBM DBR n_BadRule_what DBL DTM MEms, bLm, gLm, FLm'.kp⟩
  have LDu : LawG prog w K mg base 4 "_law_due" ["_law_letters_here", "_law_texts", "_law_top"] (spLDue K) _ fDu := ⟨ok_ldue FDu' LWh z_range, bDu, gDu, FDu'.kp⟩
  exact ok_law FLa' LBa LTa LLe LVo LBe LTo LLm LDu M_Alphabet GI gC bI0 gRR CRd CTr FRrdX ZR m_Rule_text GRx bRx z_range z_len z_list
end Cl.K54

open PySem PySem.W PySem.Calls PyProof.Rows in
theorem PySem.Challenge.cw_cliplore_k54_lots_refused_holds : PySem.Challenge.rw_cliplore_k54_lots_refused.Holds := by
  w_on; o_law
  refine HandSHeadRun.head_any (r := OpenLaw.row PySem.Challenge.rw_cliplore_k54_lots_refused) (q := view (OpenLaw.row PySem.Challenge.rw_cliplore_k54_lots_refused).prog [53]) (H := Cl.K54.hk) (ob := Cl.K54.ob) (M := 12000) (loose := Cl.K54.loose) (d := HandSHeadRun.topDef (OpenLaw.row PySem.Challenge.rw_cliplore_k54_lots_refused).prog 53) (kwd := []) Cl.K54.ob_eq
    (by kernel_rfl) (fun s => by kernel_rfl) Cl.K54.run (by kernel_rfl) (by kernel_rfl) (by kernel_rfl) (by rfl) (by first | assumption | decide +kernel) (by decide +kernel) ⟨rfl, rfl, rfl, rfl, rfl, by decide +kernel⟩ ?hw ?hc
  case hw => w_witness2
  case hc =>
    refine L2.walk_ofE (l := PySem.Challenge.rw_cliplore_k54_lots_refused) (n := 63) (k := 16) (x := "_law_script") (CX := L2.CX0) rfl (by decide) (by kernel_rfl) ⟨rfl, by decide, by decide⟩ ?F (fun _ _ _ _ z => z)
    intro w mg fa h Y G hmg0
    obtain ⟨K, KX, c⟩ := Y
    have hmg : mg ("law" : PySem.Str) = some (.ref fa) := by
      have e : (HandSHeadRun.topDef (OpenLaw.row PySem.Challenge.rw_cliplore_k54_lots_refused).prog 53).name = ("law" : PySem.Str) := by kernel_rfl
      rw [← e]
      exact hmg0
    obtain ⟨fd, hb, hF⟩ := Cl.K54.facts (w := w) KX G hmg c
    exact ⟨K, fd, Cl.K54.spLaw K, KX, hb, fun H a ns hl _ hS => ⟨a, ns, rfl, hS, fun _ => rfl⟩, hF⟩
