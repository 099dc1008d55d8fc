import PyProof.Rows.All
import Wide.All
import OpenK.AllK
import Wide.FinOn
import HandS.ForMost
import HandS.Wide
import HandS.Codes
import HandS.Strs
import HandS.SetKeys
import PyProof.ListStr
import HandS.Style
import HandS.FStr
import HandS.TupLe
import PyProof.Rows.StrRev
import PyProof.StrOps2
import PyProof.Rows.SetFrom
import HandS.Walk
import HandS.IsInst
import HandS.OwnEq
import HandS.Steps
import HandS.Defaults
import HandS.ClsMeth
import KE.KExcSuper
import HandS.Base
import HandS.Call
import HandS.Exc
import HandS.ExcInit
import HandS.TryOnly
import HandS.Lambda
import HandS.Nested
import HandS.Words
import HandS.WordsExc
import HandS.ExcOwn
import HandS.ExcField
import HandS.ExcIs
import KE.KExcIs
import KE.KStateDown
import HandS.Ends
import HandS.More
import HandS.Head0
import HandS.Head1
import HandS.Head2
import HandS.HeadEnd
import HandS.HeadHook1
import HandS.HeadHook2
import HandS.HeadHook3
import HandS.HeadHook4
import Lean
import PySem.Challenge.RW_cliplore_k81_errors_and_attributes
set_option Elab.async false
set_option linter.all false
set_option maxRecDepth 100000
set_option maxHeartbeats 4000000
/-! The law's draws: a bag of numbers, and what a draw promises. -/
namespace Cl
open PySem L2

/-- all that was known is as it was, but b -/
def Kp (b : Addr) (H H' : Hp) : Prop := ∀ a o, a ≠ b → H a = some o → H' a = some o
theorem Kp.refl (b : Addr) (H : Hp) : Kp b H H := fun _ _ _ h => h
theorem Kp.trans {b : Addr} {H H1 H2 : Hp} (p : Kp b H H1) (q : Kp b H1 H2) : Kp b H H2 := fun a o n h => q a o n (p a o n h)
theorem Kp.same {b : Addr} {H H' : Hp} (p : Same H H') : Kp b H H' := fun a o _ h => p a o h
theorem Kp.new {b p : Addr} {H : Hp} {o : HO} (h : H p = none) : Kp b H (upd H p o) := fun a u _ e => by
  rw [upd_ne (ne_of_none e h)]
  exact e
theorem Kp.put {b : Addr} {H : Hp} {o : HO} : Kp b H (upd H b o) := fun a u n e => by
  rw [upd_ne n]
  exact e
theorem same_new {p : Addr} {H : Hp} {o : HO} (h : H p = none) : Same H (upd H p o) := fun a u e => by
  rw [upd_ne (ne_of_none e h)]
  exact e
theorem Kp.seq {K : PySem.W.Frag} {b a : Addr} {H H' : Hp} {xs : List V} (e : Kp b H H') (n : a ≠ b) (h : SqL K H a xs) : SqL K H' a xs := by
  rcases h with (h | ⟨o, h⟩) | h
  · exact .inl (.inl (e _ _ n h))
  · exact .inl (.inr ⟨o, e _ _ n h⟩)
  · exact .inr h

theorem Kp.mut {b r : Addr} {H0 H : Hp} {o : HO} (p : Kp b H0 H) (n : H0 r = none) : Kp b H0 (upd H r o) := fun a u na e => by
  rw [upd_ne (ne_of_none e n)]
  exact p a u na e
theorem same_mut {r : Addr} {H0 H : Hp} {o : HO} (p : Same H0 H) (n : H0 r = none) : Same H0 (upd H r o) := fun a u e => by
  rw [upd_ne (ne_of_none e n)]
  exact p a u e

/-- at b a law's bag: its cells at l, the place, the rest, the seed -/
def Bag (H : Hp) (b l : Addr) : Prop := ∃ (ns : List Int) (i r x : Int), H b = some (.lst [.ref l, .int i, .int r, .int x]) ∧ l ≠ b ∧ H l = some (.lst (ns.map V.int)) ∧ 0 ≤ i
theorem Bag.put {H : Hp} {b l : Addr} {i r x : Int} (h : Bag H b l) (hi : 0 ≤ i) : Bag (upd H b (.lst [.ref l, .int i, .int r, .int x])) b l := by
  obtain ⟨ns, _, _, _, h1, h2, h3, _⟩ := h
  exact ⟨ns, i, r, x, upd_same, h2, by rw [upd_ne h2]; exact h3, hi⟩
theorem Bag.same {H H' : Hp} {b l : Addr} (h : Bag H b l) (s : Same H H') : Bag H' b l := by
  obtain ⟨ns, i, r, x, h1, h2, h3, h4⟩ := h
  exact ⟨ns, i, r, x, s _ _ h1, h2, s _ _ h3, h4⟩
theorem Bag.new {H : Hp} {b l p : Addr} {o : HO} (h : Bag H b l) (n : H p = none) : Bag (upd H p o) b l := h.same (same_new n)
theorem Bag.nb {H : Hp} {b l p : Addr} (h : Bag H b l) (n : H p = none) : p ≠ b := by
  obtain ⟨ns, i, r, x, h1, _⟩ := h
  exact (ne_of_none h1 n).symm
theorem Bag.nl {H : Hp} {b l p : Addr} (h : Bag H b l) (n : H p = none) : p ≠ l := by
  obtain ⟨ns, i, r, x, _, _, h1, _⟩ := h
  exact (ne_of_none h1 n).symm
theorem Bag.upd {H : Hp} {b l p : Addr} {o : HO} (h : Bag H b l) (nb : p ≠ b) (nl : p ≠ l) : Bag (upd H p o) b l := by
  obtain ⟨ns, i, r, x, h1, h2, h3, h4⟩ := h
  exact ⟨ns, i, r, x, by rw [upd_ne nb.symm]; exact h1, h2, by rw [upd_ne nl.symm]; exact h3, h4⟩

/-- a draw below n -/
def spTake : Sp := fun vs H Q _ => ∃ (b l : Addr) (n : Int), vs = [.ref b, .int n] ∧ 0 < n ∧ n < 2 ^ 64 ∧ Bag H b l ∧
  ∀ (v : Int) (H' : Hp), 0 ≤ v → v < n → Kp b H H' → Bag H' b l → Q (.int v) H'
/-- a new bag of the script -/
def spBag (K : PySem.W.Frag) : Sp := fun vs H Q _ => ∃ (a : Addr) (ns : List Int), vs = [.ref a] ∧ SqL K H a (ns.map V.int) ∧
  ∀ (b l : Addr) (H' : Hp), H b = none → H l = none → Same H H' → Bag H' b l → Q (.ref b) H'
theorem atI_pos {α : Type} {xs : List α} {i : Int} {v : α} (h0 : 0 ≤ i) (hx : xs[i.toNat]? = some v) : atI xs i = some v := by
  have e := atI_nat hx
  rwa [Int.toNat_of_nonneg h0] at e
theorem at0 {α : Type} {a b c d : α} : atI [a, b, c, d] 0 = some a := rfl
theorem at1 {α : Type} {a b c d : α} : atI [a, b, c, d] 1 = some b := rfl
theorem at2 {α : Type} {a b c d : α} : atI [a, b, c, d] 2 = some c := rfl
theorem at3 {α : Type} {a b c d : α} : atI [a, b, c, d] 3 = some d := rfl
end Cl
set_option Elab.async false
set_option linter.all false
set_option maxRecDepth 100000
set_option maxHeartbeats 4000000
namespace Cl.K81
open PySem L2
def top (i : Nat) : Stmt := PySem.Challenge.pw_cliplore_k81_errors_and_attributes.main.body.getD i (.Pass ⟨0, 0, 0, 0⟩)
abbrev sTake : Stmt := top 21
section
variable {P : Program} {w : World} {K : PySem.W.Frag} {mg : Str → Option Value} {base : Heap}
theorem scTake : FnScope ["_law_bag_here", "_law_size", "_law_rest", "_law_cell"] ["_law_bag_here", "_law_size"] (defScope sTake) := ⟨rfl, rfl, rfl, by decide +kernel, rfl, by decide +kernel, by decide +kernel⟩
theorem ok_take {f : Addr} {fd : FuncData} (F : Fun K "_law_take" "_law_take" sTake f fd) (hI : mg "int" = none) (hL : mg "len" = none) : FnOk P w K mg base CX0 1 f fd ["_law_bag_here", "_law_size"] spTake := by
  refine F.ok scTake (fun vs H Q E h => ?_) (fun cdv A outer s H vs Q E hr h => ?_)
  · obtain ⟨b, l, n, rfl, _⟩ := h
    rfl
  · obtain ⟨b, l, n, rfl, n0, n9, ⟨ns, i, r, x, hb, hlb, hl', hi⟩, k⟩ := h
    have hl : SqL K H l (ns.map V.int) := SqL.of hl'
    refine ⟨_, pss_cons (ps_if (pt_cmpR op_gt (pe_ix ix_list (pv 0) pe_int (fun _ _ => rfl)) pe_int (nomark _))
        (pss_cons (ps_set (i := 2) scTake.nd rfl (.inl rfl) (pe_callTy call_int1 (by rfl) hI (by decide +kernel) (pa_cons (pe_ix ix_list (pv 0) pe_int (fun _ _ => rfl)) pa_nil)))
          (pss_cons (ps_asg (pe_op op_fdivW (pv 2) (pv 1)) (pg_sub (pv 0) pe_int set_list))
            (pss_one (ps_ret (pe_op op_mod (pe_callTy call_int1 (by rfl) hI (by decide +kernel) (pa_cons (pv 2) pa_nil)) (pv 1))))))
        pss_nil)
      (pss_cons (ps_set (i := 3) scTake.nd rfl (.inl rfl) pe_int)
      (C8.pss_cut (ps_if (pt_cmpR op_lt (pe_ix ix_list (pv 0) pe_int (fun _ _ => rfl)) (pe_callB call_len_seq (by rfl) hL PySem.boot_len (pa_cons (pe_ix ix_list (pv 0) pe_int (fun _ _ => rfl)) pa_nil)) (nomark _))
        (pss_one (ps_set (i := 3) scTake.nd rfl (.inl rfl) (pe_ix ix_list (pe_ix ix_list (pv 0) pe_int (fun _ _ => rfl)) (pe_ix ix_list (pv 0) pe_int (fun _ _ => rfl)) (fun _ _ => rfl))))
        pss_nil)
      (pss_cons (ps_asg (pe_op op_add (pe_ix ix_list (pv 0) pe_int (fun _ _ => rfl)) pe_int) (pg_sub (pv 0) pe_int set_list))
      (pss_cons (ps_if (pt_cmpR op_ge (pv 3) (pe_op op_pow pe_int pe_int) (nomark _))
        (pss_cons (ps_asg (pe_op op_fdivW (pv 3) (pv 1)) (pg_sub (pv 0) pe_int set_list))
          (pss_one (ps_ret (pe_op op_mod (pe_callTy call_int1 (by rfl) hI (by decide +kernel) (pa_cons (pv 3) pa_nil)) (pv 1)))))
        pss_nil)
      (pss_cons (ps_asg (pe_op op_mod (pe_callTy call_int1 (by rfl) hI (by decide +kernel) (pa_cons (pe_op op_add (pe_op op_add (pe_op op_mul (pe_ix ix_list (pv 0) pe_int (fun _ _ => rfl)) pe_int) (pe_op op_mul (pv 3) pe_int)) (pe_op op_mul (pe_ix ix_list (pv 0) pe_int (fun _ _ => rfl)) pe_int)) pa_nil)) pe_int) (pg_sub (pv 0) pe_int set_list))
      (pss_one (ps_ret (pe_op op_mod (pe_op op_fdiv (pe_callTy call_int1 (by rfl) hI (by decide +kernel) (pa_cons (pe_ix ix_list (pv 0) pe_int (fun _ _ => rfl)) pa_nil)) pe_int) (pv 1))))))))), ?_⟩
    -- if bag[2] > 0
    have fin : ∀ (j r' x' v : Int), 0 ≤ j → 0 ≤ v → v < n → Q (.int v) (upd H b (.lst [.ref l, .int j, .int r', .int x'])) := fun j r' x' v hj h0 h1 =>
      k v _ h0 h1 Kp.put (Bag.put ⟨ns, i, r, x, hb, hlb, hl', hi⟩ hj)
    have md : ∀ m : Int, 0 ≤ m % n ∧ m % n < n := fun m => ⟨Int.emod_nonneg m (by omega), Int.emod_lt_of_pos m n0⟩
    have hc : CDivW 0 n := wide_div (b := 64) (i := 0) n0 (by omega) (by decide) (by decide)
    refine ⟨_, rfl, b, _, _, _, rfl, rfl, SqL.of hb, at2, _, _, rfl, rfl, _, rfl, ?_⟩
    refine ite2 (fun _ => ?_) (fun _ => ?_)
    · refine ⟨_, rfl, b, _, _, _, rfl, rfl, SqL.of hb, at2, .inl ⟨_, rfl, ?_⟩⟩
      refine ⟨_, rfl, _, rfl, _, _, rfl, rfl, hc, _, rfl, ?_⟩
      refine ⟨b, _, _, 2, rfl, rfl, hb, rfl, ?_⟩
      refine ⟨_, rfl, .inl ⟨_, rfl, _, rfl, _, _, rfl, rfl, n0, ?_⟩⟩
      exact fin i _ x _ hi (md r).1 (md r).2
    · refine ⟨fun σ' H' => ∃ c : Int, σ' = [some (.ref b), some (.int n), none, some (.int c)] ∧ H' = H, ?_, ?_⟩
      · refine ⟨_, rfl, b, _, _, _, rfl, rfl, SqL.of hb, at1, _, rfl, b, _, _, _, rfl, rfl, SqL.of hb, at0, l, _, rfl, .inl hl, _, _, rfl, rfl, _, rfl, ?_⟩
        refine ite2 (fun hlt => ?_) (fun _ => ⟨_, rfl, rfl⟩)
        have hlt' : i.toNat < ns.length := by
          have z := of_decide_eq_true hlt
          rw [List.length_map] at z
          omega
        refine ⟨_, rfl, b, _, _, _, rfl, rfl, SqL.of hb, at0, _, rfl, b, _, _, _, rfl, rfl, SqL.of hb, at1, l, _, _, .int (ns[i.toNat]), rfl, rfl, hl, ?_, ⟨_, rfl, rfl⟩⟩
        exact atI_pos hi (by rw [List.getElem?_map, List.getElem?_eq_getElem hlt'] <;> rfl)
      · rintro σ' H' ⟨c, rfl, rfl⟩
        refine ⟨_, rfl, b, _, _, _, rfl, rfl, SqL.of hb, at1, _, _, rfl, rfl, _, rfl, b, _, _, 1, rfl, rfl, hb, rfl, ?_⟩
        refine ⟨_, rfl, _, _, rfl, rfl, ⟨by decide, by decide, by decide⟩, _, _, rfl, rfl, _, rfl, ?_⟩
        refine ite2 (fun _ => ?_) (fun _ => ?_)
        · refine ⟨_, rfl, _, rfl, _, _, rfl, rfl, hc, _, rfl, b, _, _, 2, rfl, rfl, upd_same, rfl, ?_⟩
          refine ⟨_, rfl, .inl ⟨_, rfl, _, rfl, _, _, rfl, rfl, n0, ?_⟩⟩
          rw [upd_upd]
          exact fin (i + 1) _ x _ (by omega) (md c).1 (md c).2
        · refine ⟨_, rfl, b, _, _, _, rfl, rfl, SqL.of upd_same, at3, _, _, rfl, rfl, .inr (by decide), ?_⟩
          refine ⟨_, rfl, _, _, rfl, rfl, .inr (by decide), _, _, rfl, rfl, _, rfl, b, _, _, _, rfl, rfl, SqL.of upd_same, at1, _, _, rfl, rfl, .inr (by decide), _, _, rfl, rfl, .inl ⟨_, rfl, ?_⟩⟩
          refine ⟨_, _, rfl, rfl, (by show (0 : Int) < 2147483647; decide), _, rfl, b, _, _, 3, rfl, rfl, upd_same, rfl, ?_⟩
          refine ⟨_, rfl, b, _, _, _, rfl, rfl, SqL.of upd_same, at3, .inl ⟨_, rfl, _, _, rfl, rfl, ⟨by decide, by decide⟩, _, rfl, _, _, rfl, rfl, n0, ?_⟩⟩
          rw [upd_upd]
          exact fin (i + 1) r _ _ (by omega) (md _).1 (md _).2

end
end Cl.K81
set_option Elab.async false
set_option linter.all false
set_option maxRecDepth 100000
set_option maxHeartbeats 4000000
/-! Texts by their codes; list, sorted, set of a text. -/
namespace Cl
open PySem PySem.Spec L2 PyProof.Rows

/-! ### texts by their codes -/
def S (l : List Nat) : Str := ⟨l.toArray⟩
def sg (c : Nat) : V := .str ⟨#[c]⟩
theorem S_cps (l : List Nat) : (S l).cps.toList = l := by simp [S]
theorem S_len (l : List Nat) : (S l).length = l.length := by simp [S, Str.length]
theorem S_of (z : Str) : S z.cps.toList = z := by
  obtain ⟨a⟩ := z
  simp [S]
theorem S_inj {a b : List Nat} (h : S a = S b) : a = b := by
  have e := congrArg (fun z : Str => z.cps.toList) h
  simpa [S_cps] using e
theorem S_one (c : Nat) : (⟨#[c]⟩ : Str) = S [c] := rfl
theorem S_app (a b : List Nat) : S a ++ S b = S (a ++ b) := by
  show Str.mk _ = Str.mk _
  simp [S]

theorem strs_of_items {x : Str} {acc : Array Value} (h : ItemsOf (SignAt x) acc x.cps.size) : StrsAre acc.toList (x.cps.toList.map fun c => (⟨#[c]⟩ : Str)) := by
  obtain ⟨h1, h2⟩ := h
  have key : ∀ (vs : List Value) (cs : List Nat), vs.length = cs.length → (∀ (j : Nat) (v : Value), vs[j]? = some v → ∃ c u, cs[j]? = some c ∧ v = .str ⟨#[c]⟩ u) → StrsAre vs (cs.map fun c => (⟨#[c]⟩ : Str)) := by
    intro vs
    induction vs with
    | nil =>
      intro cs hl _
      cases cs with
      | nil => exact .nil
      | cons c r => simp at hl
    | cons v r ih =>
      intro cs hl hj
      cases cs with
      | nil => simp at hl
      | cons c t =>
        obtain ⟨c', u, e1, e2⟩ := hj 0 v rfl
        simp at e1
        subst e1
        subst e2
        exact .cons _ u (ih t (by simpa using hl) fun j w hw => by
          obtain ⟨c', u', e1, e2⟩ := hj (j + 1) w (by simpa using hw)
          exact ⟨c', u', by simpa using e1, e2⟩)
  refine key _ _ (by simp [h1]) fun j v hv => ?_
  obtain ⟨c, u, e1, e2⟩ := h2 j v (by simpa using hv)
  exact ⟨c, u, by simpa using e1, e2⟩
theorem map_one (l : List Nat) : (l.map fun c => (⟨#[c]⟩ : Str)).map V.str = l.map sg := by
  rw [List.map_map]
  rfl

/-! ### list(text) -/
def rListT : List V → Hp → VK → Prop := fun vs H Q => ∃ l : List Nat, vs = [.str (S l)] ∧ l.length ≤ sizeLine ∧ ∀ p, H p = none → Q (.ref p) (upd H p (.lst (l.map sg)))
theorem cr_listT {X : Cx} (hc : X.calm = true) : CallR X (.type "list") rListT := by
  intro pins s σ H vs us Q I r h
  obtain ⟨l, rfl, hl, q⟩ := h
  obtain ⟨u, rfl, rx⟩ := vals1 r
  obtain ⟨t, rfl⟩ := rx
  refine call_list_str (hn := by simpa [S] using hl) (I.ok.hd hc) (S l) t fun h' tk acc c' hk e hi => ?_
  have hs := vals_of_strs (strs_of_items hi)
  rw [S_cps, map_one] at hs
  refine ⟨.ref s.heap.objs.size, upd H s.heap.objs.size (.lst (l.map sg)), I.laid hk (Nat.le_refl _) ⟨by simpa using hl, acc.toList, c', hs, by rw [Array.toArray_toList]; exact e⟩, rfl, q _ (I.hok.fresh (Nat.le_refl _))⟩

/-! ### sorted(text) -/
section
variable {prog : Program} {w : World} {A : Around} {E : Value → Shared → Prop} {s : Shared}
theorem sorted_text {x : Str} {t : Tok} {Q : Value → Shared → Prop} (hh : A.handled = none) (h64 : x.cps.size < 64)
    (h : ∀ (hp h' : Heap) (tk : Nat) (out : Array Value) (ys : List Str) (n : Nat), StrsAre out.toList ys → ys.Perm (x.cps.toList.map fun c => (⟨#[c]⟩ : Str)) → sortedS ys = true → h'.get? hp.objs.size = some (seqObj "list" out n) →
      (∀ b o, s.heap.get? b = some o → hp.get? b = some o) → (∀ b o, hp.get? b = some o → h'.get? b = some o) → Q (.ref hp.objs.size) { s with heap := h', toks := tk }) :
    wpAny (model prog w) A (call (.builtin "sorted") [.str x t]) Q E s := by
  refine Calls.call_function_entry kind_sorted plain_sorted entry_sorted (args_sorted1 _) ?_
  unfold Builtin.«sorted»
  refine wpAny_bind (m := checkCount "sorted" 1 1 _) (wpAny_pure ?_)
  refine wpAny_bind (wpAny_collect_str (A := A.in1) (hn := by rw [sizeLine_eq]; omega) hh x t fun s1 acc hk hg hd ho hi => ?_)
  have hS := strs_of_items hi
  obtain ⟨hp, g, d, tk, os⟩ := s1
  have eg : g = s.gens := hg
  have ed : d = s.drawn := hd
  have eo : os = s.os := ho
  subst eg; subst ed; subst eo
  have hk : ∀ b o, s.heap.get? b = some o → hp.get? b = some o := hk
  have hlen : acc.toList.length < 64 := by
    have e := hi.1
    simp
    omega
  refine wpAny_bind (wpAny_newList (hsz := by rw [sizeLine_eq]; omega) ?_)
  have hoL : (hp.push (seqObj "list" acc.toList.toArray 0)).get? hp.objs.size = some (seqObj "list" acc.toList.toArray 0) := Heap.get?_push_size _ rfl
  refine wpAny_bind (wpAny_holding (wpAny_call_entry slot_list_sort ⟨_, hoL, rfl⟩ entry_list_sort (list_sort_treeK strKind_oneLt hoL hS.keysOf (fun v₁ v₂ rest e => keyKind_strs (by rw [← e]; exact hS)) hlen fun st' a1 a2 => ⟨_, rfl, ?_⟩) (args_list_sort _)))
  obtain ⟨ys, b1, b2, b3⟩ := sorted_out_str hS a1 a2
  obtain ⟨n, hat⟩ := sortedHeap_at (h := hp.push (seqObj "list" acc.toList.toArray 0)) (vs := acc.toList) (out := (arrOf st').map (·.2)) hoL
  refine wpAny_pure ⟨_, rfl, h hp _ tk _ ys n b1 b2 b3 hat hk fun b o e => ?_⟩
  have lt := Heap.lt_size e
  rw [sortedHeap_old (Nat.ne_of_lt lt) (by rw [Heap.size_push]; exact Nat.lt_succ_of_lt lt)]
  exact Heap.get?_push_of_some _ e
end
theorem rising_pw : ∀ (l : List Nat) (c : Nat), risingS ⟨#[c]⟩ (l.map fun c => (⟨#[c]⟩ : Str)) = true → (c :: l).Pairwise (· ≤ ·)
  | [], c, _ => List.pairwise_singleton _ _
  | d :: r, c, h => by
    have h' : (!ltCps [d] [c] && risingS ⟨#[d]⟩ (r.map fun c => (⟨#[c]⟩ : Str))) = true := h
    rw [Bool.and_eq_true] at h'
    have p := rising_pw r d h'.2
    have le : c ≤ d := by
      have z := h'.1
      rw [ltCps_eq] at z
      have z2 : ¬ [d] < [c] := by
        intro q
        rw [decide_eq_true q] at z
        cases z
      exact Nat.le_of_not_lt fun q => z2 (List.cons_lt_cons_iff.mpr (.inl q))
    refine List.pairwise_cons.mpr ⟨fun e he => ?_, p⟩
    rcases List.mem_cons.mp he with e1 | e1
    · omega
    · exact Nat.le_trans le ((List.pairwise_cons.mp p).1 e e1)
theorem sorted_pw : ∀ (l : List Nat), sortedS (l.map fun c => (⟨#[c]⟩ : Str)) = true → l.Pairwise (· ≤ ·)
  | [], _ => List.Pairwise.nil
  | c :: r, h => rising_pw r c h
def rSortT : List V → Hp → VK → Prop := fun vs H Q => ∃ l : List Nat, vs = [.str (S l)] ∧ l.length < 64 ∧ ∀ (l' : List Nat) (p : Addr), l'.Perm l → l'.Pairwise (· ≤ ·) → H p = none → Q (.ref p) (upd H p (.lst (l'.map sg)))
theorem cr_sortT {X : Cx} (hc : X.calm = true) : CallR X (.builtin "sorted") rSortT := by
  intro pins s σ H vs us Q I r h
  obtain ⟨l, rfl, hl, q⟩ := h
  obtain ⟨u, rfl, rx⟩ := vals1 r
  obtain ⟨t, rfl⟩ := rx
  refine sorted_text (I.ok.hd hc) (by simpa [S] using hl) fun hp h' tk out ys n h1 h2 h3 h4 k1 k2 => ?_
  rw [S_cps] at h2
  have ey : ys = (ys.map fun z => z.cps.toList.headD 0).map fun c => (⟨#[c]⟩ : Str) := by
    rw [List.map_map]
    have : ∀ z ∈ ys, ((fun c => (⟨#[c]⟩ : Str)) ∘ fun z : Str => z.cps.toList.headD 0) z = z := fun z hz => by
      obtain ⟨c, _, rfl⟩ := List.mem_map.mp (h2.mem_iff.mp hz)
      rfl
    rw [List.map_congr_left this, List.map_id']
  have p2 : (ys.map fun z => z.cps.toList.headD 0).Perm l := by
    have e := h2.map fun z : Str => z.cps.toList.headD 0
    rw [List.map_map] at e
    have e2 : l.map ((fun z : Str => z.cps.toList.headD 0) ∘ fun c => (⟨#[c]⟩ : Str)) = l := by
      have : ((fun z : Str => z.cps.toList.headD 0) ∘ fun c => (⟨#[c]⟩ : Str)) = id := by
        funext c
        rfl
      rw [this, List.map_id]
    rwa [e2] at e
  generalize (ys.map fun z => z.cps.toList.headD 0) = l' at ey p2
  subst ey
  have hs := vals_of_strs h1
  rw [map_one] at hs
  have I1 : Inv X pins σ H { s with heap := hp, toks := tk } := I.kept k1
  exact ⟨.ref hp.objs.size, upd H hp.objs.size (.lst (l'.map sg)), I1.laid (t' := tk) k2 (Nat.le_refl _) ⟨by rw [List.length_map, p2.length_eq]; exact small64 hl, out.toList, n, hs, by rw [Array.toArray_toList]; exact h4⟩, rfl, q l' _ p2 (sorted_pw _ h3) (I1.hok.fresh (Nat.le_refl _))⟩
end Cl
set_option Elab.async false
set_option linter.all false
set_option maxRecDepth 100000
set_option maxHeartbeats 4000000
namespace Cl
open PySem PySem.Spec L2 PyProof.Rows
/-! ### text[::-1] -/
def tRevT (te : TE) : TE := fun σ H Q => te σ H fun x H1 => ∃ l : List Nat, x = .str (S l) ∧ l.length ≤ sizeLine ∧ Q (.str (S l.reverse)) H1
theorem rev_codes (l : List Nat) : (Builtin.Str.strSliceIndices none none (-1) (S l).length).filterMap ((S l).cps[·]?) = l.reverse := by
  rw [picked_rev, filterMap_get, List.map_map]
  · rw [S_len]
    apply List.ext_getElem?
    intro i
    by_cases hi : i < l.length
    · rw [List.getElem?_reverse hi, List.getElem?_map, List.getElem?_range hi]
      show some ((S l).cps.getD (l.length - 1 - i) 0) = _
      have hj : l.length - 1 - i < l.length := by omega
      rw [List.getElem?_eq_getElem hj]
      simp [S, Array.getD, hj]
    · rw [List.getElem?_eq_none (by simp; omega), List.getElem?_eq_none (by simp; omega)]
  · intro i hi
    obtain ⟨k, hk, rfl⟩ := List.mem_map.mp hi
    have hk' := List.mem_range.mp hk
    show (S l).length - 1 - k < (S l).length
    omega
theorem pe_revT {X : Cx} {e : Expr} {te : TE} {k : Nat} {p1 p2 p3 pos : Pos} (he : PE X e te) : PE X (.Subscript e (.Slice none none (some (.UnaryOp .USub (.Constant (.int 1) k p1) p2)) p3) pos) (tRevT te) := by
  refine ⟨fun pins s σ H Q I h => ?_⟩
  refine Subscript_ (thn (he.run pins s σ H _ I h) fun v s1 ⟨x, H1, I1, r1, l, ex, hx, q⟩ => ?_)
  subst ex
  obtain ⟨t, rfl⟩ := r1
  have hst : PO X (some (.UnaryOp .USub (.Constant (.int 1) k p1) p2)) (tPart (tUn (rU fun i => .int (-i)) (tC (.int 1)))) := po_some (pe_un un_neg pe_int)
  refine wpAny_Slice (thn (po_none.run pins s1 σ H1 (fun o H2 => o = none ∧ H2 = H1) I1 ⟨rfl, rfl⟩) fun vl s2 ⟨lo, H2, I2, pl, el, e2⟩ => ?_)
  subst el e2
  refine thn (po_none.run pins s2 σ H2 (fun o H3 => o = none ∧ H3 = H2) I2 ⟨rfl, rfl⟩) fun vu s3 ⟨u, H3, I3, pu, eu, e3⟩ => ?_
  subst eu e3
  refine thn (hst.run pins s3 σ H3 (fun o H4 => o = some (-1) ∧ H4 = H3) I3 ⟨1, rfl, -1, rfl, rfl, rfl⟩) fun vs s4 ⟨o, H4, I4, ps, eo, e4⟩ => ?_
  subst eo e4
  have I5 : Inv X pins σ H4 { s4 with heap := s4.heap.push { cls := .type "slice", data := .fields #[vl, vu, vs] } } := I4.kept (t' := s4.toks) fun b ob q => Heap.get?_push_of_some _ q
  obtain ⟨l1, d1, e1⟩ := IsPart.raw pl
  obtain ⟨u1, d2, e2⟩ := IsPart.raw pu
  obtain ⟨w1, d3, e3⟩ := IsPart.raw ps
  have a1 : l1 = none := by cases l1 <;> simp_all
  have a2 : u1 = none := by cases u1 <;> simp_all
  obtain ⟨tw, a3⟩ : ∃ tw, w1 = some (-1, tw) := by
    cases w1 with
    | none => simp at e3
    | some p =>
      obtain ⟨i, tw⟩ := p
      simp at e3
      exact ⟨tw, by rw [← e3]⟩
  subst a1 a2 a3 d1 d2 d3
  show wpAny (model X.prog X.w) X.A (subscriptTail e (.Slice none none (some (.UnaryOp .USub (.Constant (.int 1) k p1) p2)) p3) (.str (S l) t) (.ref s4.heap.objs.size)) (EP X pins σ Q) X.xe _
  refine tail_any (ops := [.ref s4.heap.objs.size]) (typeIs_str _ _ _) (PySem.F.slot_str_getitem.lookup) ?_ (by with_unfolding_all rfl)
  refine wpAny_getItem_str_slice (l := none) (u := none) (st := some (-1, tw)) ⟨_, Heap.get?_push_size _ rfl, rfl, rfl⟩ rfl ?_
  have e := rev_codes l
  unfold sliceMade slicePicked
  rw [if_neg (by simp)]
  have hz : (⟨((Builtin.Str.strSliceIndices none none (-1) (S l).length).filterMap ((S l).cps[·]?)).toArray⟩ : Str) = S l.reverse := by rw [e] <;> rfl
  show Made.post (Made.str ⟨((Builtin.Str.strSliceIndices none none (-1) (S l).length).filterMap ((S l).cps[·]?)).toArray⟩) _ _
  rw [hz]
  exact ⟨by rw [S_len, List.length_reverse]; exact hx, .str (S l.reverse), H4, I5.tok _, ⟨_, rfl⟩, q⟩

/-! ### text * n -/
def rMulT : R2 := fun x y H Q => ∃ (l : List Nat) (n : Int), x = .str (S l) ∧ y = .int n ∧ 0 ≤ n ∧ n ≤ 1000 ∧ l.length ≤ 1000 ∧ Q (.str (S (List.replicate n.toNat l).flatten)) H
theorem fold_app (a : Array Nat) : ∀ (n : Nat) (acc : Array Nat), ((List.replicate n a).foldl (· ++ ·) acc).toList = acc.toList ++ (List.replicate n a.toList).flatten
  | 0, acc => by simp
  | n + 1, acc => by
    rw [List.replicate_succ, List.foldl_cons, fold_app a n, List.replicate_succ, List.flatten_cons, Array.toList_append, List.append_assoc]
theorem op_mulT {X : Cx} : OpR X (binaryOp .Mult) rMulT := by
  intro pins s σ H x y v u Q I rx ry h
  obtain ⟨l, n, rfl, rfl, h0, h1, hl, q⟩ := h
  obtain ⟨t, rfl⟩ := rx
  obtain ⟨t', rfl⟩ := ry
  have hm : l.length * n.toNat ≤ 1000 * 1000 := Nat.mul_le_mul hl (by omega)
  have hz : (⟨(List.replicate n.toNat (S l).cps).foldl (· ++ ·) #[]⟩ : Str) = S (List.replicate n.toNat l).flatten := by
    have e := fold_app (S l).cps n.toNat #[]
    rw [S_cps] at e
    rw [← S_of ⟨(List.replicate n.toNat (S l).cps).foldl (· ++ ·) #[]⟩]
    show S ((List.replicate n.toNat (S l).cps).foldl (· ++ ·) #[]).toList = _
    rw [e] <;> rfl
  refine PySem.P.mul_str ?_ ?_ ?_ ?_
  · rw [decide_eq_false (by omega), decide_eq_false (by omega)] <;> rfl
  · intro a b c
    rw [S_len] at c
    have d : (1000 : Int) ≤ (2 ^ 63 - 1) / n := (Int.le_ediv_iff_mul_le (by omega)).mpr (by omega)
    omega
  · intro a b
    rw [S_len]
    show decide (l.length * n.toNat > sizeLine) = false
    rw [sizeLine_eq]
    exact decide_eq_false (by omega)
  · by_cases c : n < 1
    · rw [if_pos c]
      have e0 : n = 0 := by omega
      subst e0
      exact ⟨by decide, .str Str.empty, H, I.tok _, ⟨_, rfl⟩, q⟩
    · rw [if_neg c]
      by_cases d : (n == 1 || (S l).length == 0) = true
      · rw [if_pos d]
        have e : (List.replicate n.toNat l).flatten = l := by
          rw [S_len, Bool.or_eq_true, beq_iff_eq, beq_iff_eq] at d
          rcases d with d | d
          · rw [d]
            simp
          · have : l = [] := List.eq_nil_of_length_eq_zero d
            rw [this]
            simp
        rw [e] at q
        exact ⟨.str (S l), H, I, ⟨t, rfl⟩, q⟩
      · rw [if_neg d, hz]
        refine ⟨?_, .str _, H, I.tok _, ⟨_, rfl⟩, q⟩
        rw [S_len, List.length_flatten, List.map_replicate, List.sum_replicate_nat, Nat.mul_comm]
        exact Nat.le_trans hm (by rw [sizeLine_eq]; decide)
end Cl
set_option Elab.async false
set_option linter.all false
set_option maxRecDepth 100000
set_option maxHeartbeats 4000000
/-! What the law's helpers promise. -/
namespace Cl
open PySem PySem.Spec L2 PyProof.Rows
/-- letters in order, all unlike, at least one, at most n -/
structure Lets (l : List Nat) (n : Nat) : Prop where
  up : l.Pairwise (· < ·)
  az : ∀ c ∈ l, 97 ≤ c ∧ c ≤ 122
  one : 1 ≤ l.length
  most : l.length ≤ n
/-- some of the letters, in order -/
structure Sub (v l : List Nat) : Prop where
  sub : v.Sublist l
def abc : List Nat := (List.range 26).map (· + 97)
theorem abc_str : ("abcdefghijklmnopqrstuvwxyz" : Str) = S abc := by decide +kernel
def spLetters : Sp := fun vs H Q _ => ∃ (b lb : Addr) (top : Int), vs = [.ref b, .int top] ∧ 1 ≤ top ∧ top ≤ 8 ∧ Bag H b lb ∧
  ∀ (l : List Nat) (H' : Hp), Kp b H H' → Bag H' b lb → Lets l top.toNat → Q (.str (S l)) H'
def spVowels : Sp := fun vs H Q _ => ∃ (b lb : Addr) (l : List Nat), vs = [.ref b, .str (S l)] ∧ l.length ≤ 8 ∧ Bag H b lb ∧
  ∀ (v : List Nat) (H' : Hp), Kp b H H' → Bag H' b lb → v.Sublist l → Q (.str (S v)) H'
theorem abc_mem {c : Nat} (h : c ∈ abc) : 97 ≤ c ∧ c ≤ 122 := by
  obtain ⟨k, hk, rfl⟩ := List.mem_map.mp h
  have := List.mem_range.mp hk
  omega
theorem abc_nodup : abc.Nodup := by decide +kernel
theorem pw_lt {l : List Nat} (h1 : l.Pairwise (· ≤ ·)) (h2 : l.Nodup) : l.Pairwise (· < ·) := by
  have h := List.Pairwise.and h1 h2
  exact h.imp fun z => Nat.lt_of_le_of_ne z.1 z.2
/-- texts joined by a text -/
theorem join_tl (y : Str) (ys : List Str) : Txt.join y ys = S (TL.joinL y.cps.toList (ys.map fun z => z.cps.toList)) := by
  rw [TL.join_eq, ← S_of (Str.join y ys)]
  exact congrArg S (TL.tl_join y ys)
theorem joinL_nil : ∀ ys : List (List Nat), TL.joinL [] ys = ys.flatten
  | [] => rfl
  | [p] => by simp [TL.joinL]
  | p :: q :: r => by
    have e : TL.joinL [] (p :: q :: r) = p ++ TL.joinL [] (q :: r) := rfl
    rw [e, joinL_nil (q :: r)] <;> rfl
theorem flat_one (l : List Nat) : (l.map fun c => [c]).flatten = l := by
  induction l with
  | nil => rfl
  | cons c r ih => rw [List.map_cons, List.flatten_cons, ih] <;> rfl
/-- the texts of single signs, joined -/
theorem join_sg (l : List Nat) : Txt.join ("" : Str) (l.map fun c => (⟨#[c]⟩ : Str)) = S l := by
  rw [join_tl]
  show S (TL.joinL [] _) = _
  rw [joinL_nil, List.map_map]
  exact congrArg S (flat_one l)
theorem seqIx {v : Int} {n : Nat} (h0 : 0 ≤ v) (h1 : v < n) : seqIndex? v n = some v.toNat := by
  unfold seqIndex?
  have a : ¬ v < 0 := by omega
  simp only [a, if_false, h0, h1, decide_true, Bool.and_self, if_true]
theorem join_size (l : List Nat) (a : Str) (ha : a.length = 0) (h : l.length ≤ 1000) : ((l.map fun c => (⟨#[c]⟩ : Str)).map (·.length)).sum + (l.map fun c => (⟨#[c]⟩ : Str)).length * a.length ≤ 16777216 := by
  rw [ha, List.map_map]
  have e : (l.map ((fun z : Str => z.length) ∘ fun c => (⟨#[c]⟩ : Str))).sum = l.length := by
    have : ((fun z : Str => z.length) ∘ fun c => (⟨#[c]⟩ : Str)) = fun _ => 1 := by
      funext c
      rfl
    rw [this]
    clear h
    induction l with
    | nil => rfl
    | cons c r ih =>
      rw [List.map_cons, List.sum_cons, ih, List.length_cons]
      omega
  rw [e]
  omega
theorem erase_map (f : Nat → V) : ∀ (l : List Nat) (i : Nat), (l.map f).eraseIdx i = (l.eraseIdx i).map f
  | [], _ => rfl
  | c :: r, 0 => rfl
  | c :: r, i + 1 => by
    show f c :: (r.map f).eraseIdx i = f c :: (r.eraseIdx i).map f
    rw [erase_map f r i]
theorem perm_erase : ∀ (l : List Nat) (i : Nat) (h : i < l.length), (l[i] :: l.eraseIdx i).Perm l
  | c :: r, 0, _ => List.Perm.refl _
  | c :: r, i + 1, h => by
    have h' : i < r.length := by simpa using h
    have ih := perm_erase r i h'
    exact (List.Perm.swap c r[i] (r.eraseIdx i)).trans (ih.cons c)
theorem take_perm {rest acc all : List Nat} {i : Nat} (h : i < rest.length) (p : (rest ++ acc).Perm all) : (rest.eraseIdx i ++ (acc ++ [rest[i]])).Perm all := by
  refine List.Perm.trans ?_ p
  refine List.Perm.trans ?_ ((perm_erase rest i h).append_right acc)
  rw [← List.append_assoc]
  exact List.perm_append_comm
/-- a list of texts at a place -/
def txs (ys : List (List Nat)) : List V := ys.map fun y => V.str (S y)
theorem strs_map (ys : List (List Nat)) : (ys.map S).map V.str = txs ys := by
  rw [List.map_map]
  rfl
theorem join_nil (ys : List (List Nat)) : Txt.join ("" : Str) (ys.map S) = S ys.flatten := by
  rw [join_tl, List.map_map]
  show S (TL.joinL [] _) = _
  rw [joinL_nil]
  have e : ((fun z : Str => z.cps.toList) ∘ S) = id := by
    funext l
    exact S_cps l
  rw [e, List.map_id]
theorem join_room (ys : List (List Nat)) (a : Str) (n : Nat) (ha : a.length ≤ 100) (h1 : ys.length ≤ 1000) (h2 : ys.flatten.length ≤ 100000) : ((ys.map S).map (·.length)).sum + (ys.map S).length * a.length ≤ 16777216 := by
  rw [List.map_map]
  have e : (ys.map ((fun z : Str => z.length) ∘ S)).sum = ys.flatten.length := by
    have : ((fun z : Str => z.length) ∘ S) = fun l : List Nat => l.length := by
      funext l
      exact S_len l
    rw [this, List.length_flatten]
  rw [e, List.length_map]
  have : ys.length * a.length ≤ 1000 * 100 := Nat.mul_le_mul h1 ha
  omega
theorem at2_0 {x y : V} {v : Int} (h : v = 0) : atI [x, y] v = some x := by
  subst h
  rfl
theorem at2_1 {x y : V} {v : Int} (h : v = 1) : atI [x, y] v = some y := by
  subst h
  rfl
theorem take_snoc {l : List Nat} {i c : Nat} (h : l[i]? = some c) : l.take (i + 1) = l.take i ++ [c] := by
  rw [List.take_succ, h] <;> rfl
theorem S_get {l : List Nat} {i c : Nat} (h : (S l).cps[i]? = some c) : l[i]? = some c := by
  rw [← Array.getElem?_toList, S_cps] at h
  exact h
theorem S_size (l : List Nat) : (S l).cps.size = l.length := S_len l
end Cl
set_option Elab.async false
set_option linter.all false
set_option maxRecDepth 100000
set_option maxHeartbeats 4000000
namespace Cl.K81
open PySem PySem.Spec L2 PyProof.Rows
abbrev sBag : Stmt := top 20
section
variable {P : Program} {w : World} {K : PySem.W.Frag} {mg : Str → Option Value} {base : Heap}
theorem scBag : FnScope ["_law_script"] ["_law_script"] (defScope sBag) := ⟨rfl, rfl, rfl, by decide +kernel, rfl, by decide +kernel, by decide +kernel⟩
theorem cut_all (ns : List Int) (m : Nat) : ∃ ks : List Int, cutV (ns.map V.int) none (some (m : Int)) = ks.map V.int := by
  unfold cutV
  rw [← List.map_drop, ← List.map_take]
  exact ⟨_, rfl⟩
theorem ok_bag {f : Addr} {fd : FuncData} (F : Fun K "_law_bag" "_law_bag" sBag f fd) (hL : mg "list" = none) : FnOk P w K mg base CX0 1 f fd ["_law_script"] (spBag K) := by
  refine F.ok scBag (fun vs H Q E h => ?_) (fun cdv A outer s H vs Q E hr h => ?_)
  · obtain ⟨a, ns, rfl, _⟩ := h
    rfl
  · obtain ⟨a, ns, rfl, ha, k⟩ := h
    refine ⟨_, pss_one (ps_ret (pe_lst (pa_cons (pe_callTy call_list_of (by rfl) hL (by decide +kernel) (pa_cons (pe_slice sl_list (pv 0) po_none (po_some pe_int)) pa_nil)) (pa_cons pe_int (pa_cons pe_int (pa_cons pe_int pa_nil)))))), ?_⟩
    obtain ⟨ks, ek⟩ := cut_all ns 63
    refine ⟨_, rfl, 63, rfl, a, _, rfl, ha, fun p hp => ?_⟩
    refine ⟨p, _, rfl, .inl (SqL.of upd_same), fun l hl => ?_⟩
    refine ⟨(by show 4 ≤ sizeLine; decide), fun b hb => ?_⟩
    have e : cutV (ns.map V.int) none (some 63) = ks.map V.int := ek
    have npl : l ≠ p := fun z => by
      rw [z, upd_same] at hl
      cases hl
    have hl0 : H l = none := by
      rw [upd_ne npl] at hl
      exact hl
    have nbl : b ≠ l := fun z => by
      rw [z, upd_same] at hb
      cases hb
    have hb1 : upd H p (.lst (cutV (ns.map V.int) none (some 63))) b = none := by
      rw [upd_ne nbl] at hb
      exact hb
    have hb0 : H b = none := (same_new hp).free hb1
    refine k b l _ hb0 hl0 (((same_new hp).trans (same_new hl)).trans (same_new hb)) ⟨ks, 0, 0, 1, upd_same, nbl.symm, ?_, Int.le_refl _⟩
    rw [upd_ne nbl.symm, upd_same, e]
end
end Cl.K81
set_option Elab.async false
set_option linter.all false
set_option maxRecDepth 100000
set_option maxHeartbeats 4000000
/-! len(set(text)) -/
namespace Cl
open PySem PySem.Spec L2 PyProof.Rows

/-- the unlike ones of a list, each at its first place -/
def once1 (acc : List Str) (x : Str) : List Str := if x ∈ acc then acc else acc ++ [x]
def onceS (l : List Str) : List Str := l.foldl once1 []
theorem onceS_snoc (l : List Str) (x : Str) : onceS (l ++ [x]) = once1 (onceS l) x := by
  unfold onceS
  rw [List.foldl_append] <;> rfl
theorem onceS_le : ∀ (l : List Str) (acc : List Str), (l.foldl once1 acc).length ≤ acc.length + l.length
  | [], acc => by simp
  | x :: r, acc => by
    have h := onceS_le r (once1 acc x)
    have h2 : (once1 acc x).length ≤ acc.length + 1 := by
      unfold once1
      split <;> simp
    simp only [List.foldl_cons, List.length_cons]
    omega
theorem onceS_eq : ∀ (l : List Str) (acc : List Str), (l.foldl once1 acc).length = acc.length + l.length ↔ l.Nodup ∧ ∀ x ∈ l, x ∉ acc
  | [], acc => by simp
  | x :: r, acc => by
    simp only [List.foldl_cons, List.length_cons, List.nodup_cons]
    by_cases hx : x ∈ acc
    · have e : once1 acc x = acc := if_pos hx
      rw [e]
      have h := onceS_le r acc
      constructor
      · intro z
        omega
      · intro z
        exact absurd hx (z.2 x List.mem_cons_self)
    · have e : once1 acc x = acc ++ [x] := if_neg hx
      rw [e]
      have ih := onceS_eq r (acc ++ [x])
      rw [List.length_append, List.length_singleton] at ih
      rw [show acc.length + (r.length + 1) = acc.length + 1 + r.length by omega, ih]
      constructor
      · rintro ⟨h1, h2⟩
        refine ⟨⟨fun z => ?_, h1⟩, fun y hy => ?_⟩
        · exact h2 x z (by simp)
        · rcases List.mem_cons.mp hy with q | q
          · rw [q]
            exact hx
          · exact fun z => h2 y q (by simp [z])
      · rintro ⟨⟨h0, h1⟩, h2⟩
        refine ⟨h1, fun y hy z => ?_⟩
        rcases List.mem_append.mp z with q | q
        · exact h2 y (List.mem_cons_of_mem _ hy) q
        · rw [List.mem_singleton] at q
          exact h0 (q ▸ hy)
def ones (l : List Nat) : List Str := l.map fun c => (⟨#[c]⟩ : Str)
/-- how many unlike signs -/
def unlike (l : List Nat) : Nat := (onceS (ones l)).length
theorem unlike_le (l : List Nat) : unlike l ≤ l.length := by
  have h := onceS_le (ones l) []
  simpa [unlike, onceS, ones] using h
theorem ones_nodup (l : List Nat) : (ones l).Nodup ↔ l.Nodup := by
  unfold ones
  induction l with
  | nil => simp
  | cons c r ih =>
    rw [List.map_cons, List.nodup_cons, List.nodup_cons, ih]
    have : ((⟨#[c]⟩ : Str) ∈ r.map fun c => (⟨#[c]⟩ : Str)) ↔ c ∈ r := by
      rw [List.mem_map]
      constructor
      · rintro ⟨d, hd, e⟩
        have e2 := S_inj (a := [d]) (b := [c]) e
        cases e2
        exact hd
      · intro h
        exact ⟨c, h, rfl⟩
    rw [this]
theorem unlike_lt (l : List Nat) : decide (unlike l < l.length) = !decide l.Nodup := by
  have h := onceS_eq (ones l) []
  have h2 := unlike_le l
  have e : (ones l).length = l.length := by simp [ones]
  rw [e, ones_nodup] at h
  have h3 : unlike l = l.length ↔ l.Nodup := by
    constructor
    · intro z
      exact (h.mp (by show unlike l = _; simpa using z)).1
    · intro z
      have y : unlike l = _ := h.mpr ⟨z, fun x _ => by simp⟩
      simpa using y
  by_cases hn : l.Nodup
  · rw [decide_eq_true hn, decide_eq_false (by rw [h3.mpr hn]; omega)] <;> rfl
  · rw [decide_eq_false hn, decide_eq_true (by have : unlike l ≠ l.length := fun z => hn (h3.mp z); omega)] <;> rfl

section
variable {prog : Program} {w : World} {A : Around} {R : Result → Shared → Prop} {I : Addr} {fp wr : List Addr} {G : Array GenState → Array GenState → Prop} {St : Nat → Shared → Prop}
abbrev has (l : List Str) : Str → Bool := fun k => decide (k ∈ l)
theorem set_cong {h : Heap} {a : Addr} {T T' : Str → Bool} {n n' : Nat} (hS : h.SetOf (strKind prog w) a T n) (e : ∀ k, T k = T' k) (en : n = n') : h.SetOf (strKind prog w) a T' n' := by
  have e2 : T = T' := funext e
  subst e2
  subst en
  exact hS
/-- the signs go into the set, one behind another -/
theorem text_into_set {z : Str} (l : List Str) (el : l = ones z.cps.toList) (W : WalksS prog w A.in1 I fp wr G l.length (SignAt z) St) (T : Addr) (hT : T ∉ fp) (hb : l.length + 1 < scanBound) :
    ∀ (k i : Nat) (s : Shared), l.length - i = k → i ≤ l.length → St i s → s.heap.SetOf (strKind prog w) T (has (onceS (l.take i))) (onceS (l.take i)).length →
      (∀ s', Moved (T :: wr) G s s' → s'.heap.SetOf (strKind prog w) T (has (onceS l)) (onceS l).length → R (.ok (.ret .none)) s') →
      codeAny (model prog w) A (.builtin "set.update.loop" ⟨[.ref T, .ref I], []⟩) R s := by
  have hTw : T ∉ wr := fun h => hT (W.sub _ h)
  have sub : ∀ b ∈ wr, b ∈ T :: wr := fun b hb => List.mem_cons_of_mem _ hb
  have keepS : ∀ {s s' : Shared} {f : Str → Bool} {n : Nat}, s.heap.SetOf (strKind prog w) T f n → (∀ o, s.heap.get? T = some o → s'.heap.get? T = some o) → s'.heap.SetOf (strKind prog w) T f n := fun {s s' f n} hS k => by
    obtain ⟨o, es, ep, t, ho, r⟩ := hS
    exact ⟨o, es, ep, t, k o ho, r⟩
  intro k
  induction k with
  | zero =>
    intro i s hk hi hst hS hR
    have hin : i = l.length := by omega
    subst hin
    rw [List.take_length] at hS
    refine codeAny_builtin F.entry_set_update_loop ?_
    rw [Around.under_plainId F.plain_set_update_loop _]
    refine wpAny_bind (m := pyNext (.ref I)) (W.done s _ _ hst fun s' hm => ?_)
    exact wpAny_pure (hR s' (hm.mono sub) (keepS hS fun o e => hm.heap T o hTw e))
  | succ k ih =>
    intro i s hk hi hst hS hR
    have hlt : i < l.length := by omega
    refine codeAny_builtin F.entry_set_update_loop ?_
    rw [Around.under_plainId F.plain_set_update_loop _]
    refine wpAny_bind (m := pyNext (.ref I)) (W.item i s _ _ hlt hst fun v s1 hP hst1 hm => ?_)
    obtain ⟨c, u, hc, rfl⟩ := hP
    have hx : l[i]? = some (⟨#[c]⟩ : Str) := by
      rw [el]
      unfold ones
      rw [List.getElem?_map, Array.getElem?_toList, hc] <;> rfl
    have htake : l.take (i + 1) = l.take i ++ [(⟨#[c]⟩ : Str)] := by
      rw [List.take_succ, hx] <;> rfl
    have hS1 := keepS (s' := s1) hS fun o e => hm.heap T o hTw e
    refine wpAny_bind (m := holding [Value.str ⟨#[c]⟩ u] (setAdd T (.str ⟨#[c]⟩ u))) (wpAny_holding ?_)
    unfold setAdd
    refine wpAny_holding ?_
    have hkey : (strKind prog w).is (⟨#[c]⟩ : Str) (.str ⟨#[c]⟩ u) = true := by
      show Value.isStrOf (⟨#[c]⟩ : Str) (.str ⟨#[c]⟩ u) = true
      simp [Value.isStrOf]
    refine wpAny_bind ((strKind prog w).pyHash hkey ?_)
    have room : (onceS (l.take i)).length + 1 < scanBound := by
      have h1 := onceS_le (l.take i) []
      have h2 : (onceS (l.take i)).length ≤ (l.take i).length := by simpa [onceS] using h1
      rw [List.length_take] at h2
      omega
    refine wpAny_setAddHashed_of (knd := strKind prog w) (s := { s1 with toks := s1.toks + 1 }) hkey rfl hS1 room fun h' sb hS2 => ?_
    have hS3 : h'.SetOf (strKind prog w) T (has (onceS (l.take (i + 1)))) (onceS (l.take (i + 1))).length := by
      rw [htake, onceS_snoc]
      refine set_cong hS2 (fun k' => ?_) ?_
      · unfold once1 has
        by_cases hm : (⟨#[c]⟩ : Str) ∈ onceS (l.take i)
        · rw [if_pos hm]
          by_cases e : k' = ⟨#[c]⟩
          · subst e
            simp [hm]
          · simp [e]
        · rw [if_neg hm]
          simp
      · unfold once1 has
        by_cases hm : (⟨#[c]⟩ : Str) ∈ onceS (l.take i)
        · simp [hm]
        · simp [hm]
    refine wpAny_pure ⟨plainId_quiet F.plain_set_update_loop _, ih (i + 1) _ (by omega) hlt (W.frame _ s1 _ _ hst1 (Nat.le_succ _) fun b hb o e => ?_) hS3 fun s2 hm2 hS4 => ?_⟩
    · rw [sb.2 b fun h : b = T => hT (h ▸ hb)]
      exact e
    · refine hR s2 (Moved.trans W.gtrans ((hm.mono sub).then_heap (Nat.le_succ _) fun b o hb e => ?_) hm2) hS4
      rw [sb.2 b fun h : b = T => hb (by rw [h]; exact List.mem_cons_self)]
      exact e
end
end Cl
set_option Elab.async false
set_option linter.all false
set_option maxRecDepth 100000
set_option maxHeartbeats 4000000
namespace Cl
open PySem PySem.Spec L2 PyProof.Rows
theorem sub_str_set : isSubtype (.type "str") (.type "set") = pure false := by rw [isSubtype_type]; kernel_rfl
theorem sub_str_frozen : isSubtype (.type "str") (.type "frozenset") = pure false := by rw [isSubtype_type]; kernel_rfl
section
variable {prog : Program} {w : World} {A : Around} {E : Value → Shared → Prop} {s : Shared}
abbrev freshSet (led : Bool) : Obj := { cls := .type "set", dict := none, data := .set #[] 0 (.fresh 0 0 led) }
theorem set_of_text {x : Str} {t : Tok} {Q : Value → Shared → Prop} (hh : A.handled = none) (hb : x.cps.size + 1 < scanBound)
    (h : ∀ (h' : Heap) (tk : Nat), h'.SetOf (PySem.strKind prog w) s.heap.objs.size (has (onceS (ones x.cps.toList))) (onceS (ones x.cps.toList)).length →
      (∀ b o, b < s.heap.objs.size → s.heap.get? b = some o → h'.get? b = some o) → Q (.ref s.heap.objs.size) { s with heap := h', toks := tk }) :
    wpAny (model prog w) A (call (.type "set") [.str x t]) Q E s := by
  obtain ⟨c, tl, hmro⟩ := PySem.F.called_set.mro
  have f1 := PySem.F.called_set.made
  have f2 := PySem.F.called_set.sub
  refine wpAny_call (codeAny_of_tree ?_)
  show wpAny _ _ (callAny (.type "set") _) _ _ _
  refine wpAny_pure ⟨Code.quiet_builtin _ (by decide +kernel), codeAny_builtin PySem.F.entry_type_call ?_⟩
  rw [Around.under_plain (weight_type_call_type "set" [.str x t] []) rfl]
  have f3 := PySem.F.called_set.notType
  have f4 := PySem.F.called_set.canCreate
  have f5 := PySem.F.typeCall_set_1 (.str x t)
  repeat (any_goals (first | assumption | wp_step))
  refine codeAny_mono (code_set_new_1 (.str x t) (E := E) (Q₁ := fun obj s₁ => ∃ led : Bool, obj = .ref s.heap.objs.size ∧ s₁ = { s with heap := s.heap.push (freshSet led) }) fun led => ⟨led, rfl, rfl⟩) fun r s₁ hr => ?_
  cases r with
  | error e => exact hr
  | ok fl =>
    cases fl with
    | next => exact hr.elim
    | brk => exact hr.elim
    | cont => exact hr.elim
    | ret obj =>
      obtain ⟨led, rfl, rfl⟩ := hr
      have hS : (s.heap.push (freshSet led)).get? s.heap.objs.size = some (freshSet led) := Heap.get?_push_size _ rfl
      have hT : Shared.TypeIs { s with heap := s.heap.push (freshSet led) } (.ref s.heap.objs.size) "set" := ⟨_, hS, rfl⟩
      have g1 := PySem.F.called_set.init.lookup
      have g2 := PySem.F.called_set.init.bind (.ref s.heap.objs.size)
      repeat (any_goals (first | assumption | wp_step))
      refine codeAny_mono (codeAny_call_builtin (R := wants (fun r s₂ => r = .none ∧ ∃ h' tk, s₂ = { s with heap := h', toks := tk } ∧
          h'.SetOf (PySem.strKind prog w) s.heap.objs.size (has (onceS (ones x.cps.toList))) (onceS (ones x.cps.toList)).length ∧
          (∀ b o, b < s.heap.objs.size → s.heap.get? b = some o → h'.get? b = some o)) E) PySem.F.called_set.init.plain PySem.F.entry_set_init (check_set_init_1 hT ?_)) fun r₂ s₂ hr₂ => ?_
      · unfold Builtin.«set.__init__» noKeywords Builtin.Frozenset.updateFrom
        have k1 := sub_str_set
        have k2 := sub_str_frozen
        have k3 : (Value.type "str" == Value.type "dict") = false := by decide
        generalize hPI : pyIter = PI
        wp_walk
        subst hPI
        refine wpAny_pyIter_str fun o St W hst => ?_
        refine wpAny_bind (wpAny_runValue ?_)
        have hsz : (s.heap.push (freshSet led)).objs.size = s.heap.objs.size + 1 := Heap.size_push ..
        have hne : s.heap.objs.size ∉ [(s.heap.push (freshSet led)).objs.size] := fun z => by
          rw [List.mem_singleton, hsz] at z
          exact absurd z (Nat.ne_of_lt (Nat.lt_succ_self _))
        have ln : (ones x.cps.toList).length = x.cps.size := by simp [ones]
        refine text_into_set (z := x) (ones x.cps.toList) rfl (by rw [ln]; exact (W A.in1.in1.in1 (by simpa using hh)).toS) s.heap.objs.size hne (by rw [ln]; exact hb) _ 0 _ rfl (Nat.zero_le _) hst ?_ fun s' hm hS' => ?_
        · have hget : ((s.heap.push (freshSet led)).push o).get? s.heap.objs.size = some (freshSet led) := Heap.get?_push_of_some _ hS
          exact set_cong ((PyProof.Rows.setObjOf_fresh (knd := PySem.strKind prog w) led).setOf hget (by unfold scanBound; omega)) (fun _ => rfl) rfl
        · obtain ⟨h', g', d', tk', os'⟩ := s'
          obtain rfl : g' = s.gens := hm.gens
          obtain rfl : d' = s.drawn := hm.drawn
          obtain rfl : os' = s.os := hm.os
          refine wpAny_pure ?_
          show wpAny _ _ (ret Value.none) _ _ _
          refine wpAny_pure ⟨rfl, h', tk', rfl, hS', fun b o hb e => ?_⟩
          refine hm.heap b o (fun z => ?_) (Heap.get?_push_of_some _ (Heap.get?_push_of_some _ e))
          rcases List.mem_cons.mp z with z | z
          · exact absurd z (Nat.ne_of_lt hb)
          · rw [List.mem_singleton, hsz] at z
            exact absurd z (Nat.ne_of_lt (Nat.lt_succ_of_lt hb))
      · cases r₂ with
        | error e => exact hr₂
        | ok fl₂ =>
          cases fl₂ with
          | ret r =>
            obtain ⟨rfl, h', tk, rfl, hS', hk'⟩ := hr₂
            repeat (any_goals (first | assumption | wp_step))
            exact h _ _ hS' hk'
          | next => exact hr₂.elim
          | brk => exact hr₂.elim
          | cont => exact hr₂.elim
end
/-- len(set(e)), e a text -/
def tUnlike (te : TE) : TE := fun σ H Q => te σ H fun v H1 => ∃ l : List Nat, v = .str (S l) ∧ l.length ≤ 1000 ∧ Q (.int (unlike l : Nat)) H1
theorem pe_unlike {X : Cx} {a : Expr} {ta : TE} {p p2 q pos : Pos} (hc : X.calm = true) (hg : Gl X "len") (hm : X.mg "len" = none) (hg2 : Gl X "set") (hm2 : X.mg "set" = none) (ha : PE X a ta)
    (na : starEach [a] X.env = (false, eval a X.env) :: starEach [] X.env := by rfl) : PE X (.Call (.Name "len" p) [.Call (.Name "set" p2) [a] [] q] [] pos) (tUnlike ta) := by
  refine ⟨fun pins s σ H Q I h => ?_⟩
  refine Call_ (ld_blt I hg hm boot_len (PyProof.Rows.callWith_builtin1 (PyProof.Rows.args_cons ?_ rfl) rfl rfl))
  refine Call_ (ld_blt I hg2 hm2 boot_set (PyProof.Rows.callWith_type1 (PyProof.Rows.args_cons (thn (ha.run pins s σ H _ I h) fun v s1 ⟨x, H1, I1, r1, l, ex, hl, q1⟩ => PyProof.Rows.args_nil ?_) na) na rfl))
  subst ex
  obtain ⟨t, rfl⟩ := r1
  have hsz : (S l).cps.size = l.length := by simp [S]
  refine set_of_text (I1.ok.hd hc) (by rw [hsz]; unfold scanBound; omega) fun h' tk hS hk => ?_
  rw [S_cps] at hS
  refine PyProof.Rows.args_nil ?_
  obtain ⟨o, es, ep, t', ho, hex, hd, _, _, _, hf, hn⟩ := hS
  have I2 : Inv X pins σ H1 { s1 with heap := h', toks := tk } := I1.kept fun b o e => hk b o (Heap.lt_size e) e
  have hu := unlike_le l
  exact call_len_set ho hex hd hf (by rw [hn]; show ((unlike l : Nat) : Int) < _; omega) ⟨.int (unlike l : Nat), H1, I2.tok _, ⟨_, by rw [hn] <;> rfl⟩, q1⟩
end Cl
set_option Elab.async false
set_option linter.all false
set_option maxRecDepth 100000
set_option maxHeartbeats 4000000
/-! Comprehensions over a text whose parts change nothing; == by an own __eq__. -/
namespace Cl
open PySem PySem.Spec L2 PyProof.Rows

section
variable {l : List Nat} {f : Nat → V} {p : Nat → Bool} {σ : L2.St} {vs : List Nat} {i : Nat} {te : TE} {tt : TT} {D : Addr} {H1 : Hp} {Qd : Hp → Prop}
theorem lc_textIf (hl : l.length ≤ 1000) (hD : H1 D = none) (hw : ∀ c, wipe ((wipe σ vs).set i (some (sg c))) vs = wipe σ vs)
    (hp : ∀ c ∈ l, ∀ H', Same H1 H' → ∀ Q : Bool → Hp → Prop, Q (p c) H' → tt ((wipe σ vs).set i (some (sg c))) H' Q)
    (hf : ∀ c ∈ l, p c = true → ∀ H', Same H1 H' → ∀ Q : VK, Q (f c) H' → te ((wipe σ vs).set i (some (sg c))) H' Q)
    (hd : Qd (upd H1 D (.lst ((l.filter p).map f)))) :
    ∃ W : Nat → Nat → Hp → Prop, (∃ m, W 0 m (upd H1 D (.lst []))) ∧ ∀ k m H, W k m H →
      ((Its (S l)).stop k H ∧ Qd H) ∨ ((Its (S l)).go k H ∧ ∃ Nx : Hp → Prop, (∀ H', Nx H' → ∃ m', m' < m ∧ W (k + 1) m' H') ∧ ∀ x H', (Its (S l)).yld k H x H' → gName i x (wipe σ vs) H' fun σ2 H2 => wipe σ2 vs = wipe σ vs ∧ tt σ2 H2 fun b H3 =>
        if b = true then te σ2 H3 fun y H4 => ∃ acc, H4 D = some (.lst acc) ∧ acc.length < sizeLine ∧ Nx (upd H4 D (.lst (acc ++ [y]))) else Nx H3) := by
  refine lc_it walk_str (fun k H' => H' = upd H1 D (.lst (((l.take k).filter p).map f))) rfl (fun _ _ _ _ => trivial) ?_ ?_
  · rintro k x H H' hk rfl ⟨rfl, c, hc, rfl⟩
    have hc' := S_get hc
    have hm : c ∈ l := List.mem_of_getElem? hc'
    have hsame : Same H1 (upd H1 D (.lst (((l.take k).filter p).map f))) := same_new hD
    refine ⟨hw c, hp c hm _ hsame _ ?_⟩
    have et := take_snoc hc'
    cases hpc : p c with
    | true =>
      refine iteT (hf c hm hpc _ hsame _ ⟨_, upd_same, ?_, ?_⟩)
      · rw [List.length_map]
        have h1 := List.length_filter_le p (l.take k)
        have h2 : (l.take k).length ≤ l.length := List.length_take_le' ..
        exact Nat.lt_of_le_of_lt (by omega : _ ≤ 1000) (by decide)
      · rw [upd_upd, et, List.filter_append, List.map_append]
        simp [hpc]
    | false =>
      refine iteF ?_
      rw [et, List.filter_append]
      simp [hpc]
  · rintro H rfl
    rw [S_size, List.take_length]
    exact hd
theorem lc_text (hl : l.length ≤ 1000) (hD : H1 D = none) (hw : ∀ c, wipe ((wipe σ vs).set i (some (sg c))) vs = wipe σ vs)
    (hf : ∀ c ∈ l, ∀ H', Same H1 H' → ∀ Q : VK, Q (f c) H' → te ((wipe σ vs).set i (some (sg c))) H' Q) (hd : Qd (upd H1 D (.lst (l.map f)))) :
    ∃ W : Nat → Nat → Hp → Prop, (∃ m, W 0 m (upd H1 D (.lst []))) ∧ ∀ k m H, W k m H →
      ((Its (S l)).stop k H ∧ Qd H) ∨ ((Its (S l)).go k H ∧ ∃ Nx : Hp → Prop, (∀ H', Nx H' → ∃ m', m' < m ∧ W (k + 1) m' H') ∧ ∀ x H', (Its (S l)).yld k H x H' → gName i x (wipe σ vs) H' fun σ2 H2 => wipe σ2 vs = wipe σ vs ∧ tYes σ2 H2 fun b H3 =>
        if b = true then te σ2 H3 fun y H4 => ∃ acc, H4 D = some (.lst acc) ∧ acc.length < sizeLine ∧ Nx (upd H4 D (.lst (acc ++ [y]))) else Nx H3) :=
  lc_textIf (p := fun _ => true) (f := f) hl hD hw (fun _ _ _ _ _ q => q) (fun c hc _ H' e Q q => hf c hc H' e Q q) (by rw [List.filter_eq_self.mpr fun _ _ => rfl]; exact hd)
end

/-! ### x == y by an own __eq__ -/
def rEqI (C : Addr) (sp : Sp) (E : XK) : R2 := fun x y H Q => ∃ a b dx dy fs gs, x = .ref a ∧ y = .ref b ∧ H a = some (.ins C dx fs) ∧ H b = some (.ins C dy gs) ∧ sp [.ref a, .ref b] H (fun v H' => ∃ k, v = .bl k ∧ Q (.bl k) H') E
theorem op_eqI {X : Cx} {CX : CXT} {n : Nat} {C f : Addr} {fd : FuncData} {ps : List Str} {sp : Sp} {E : XK} (F : FnOk X.prog X.w X.K X.mg X.base CX n f fd ps sp) (hr : Room n X.A)
    (hs : PySem.W.findIn X.K (.ref C) "__eq__" = some (some (.ref f))) (hf : PySem.W.isFn X.K (.ref f) = true) (hb : Binds X.K fd ps []) (hx : Passes CX X E) : OpR X (compareOp .Eq) (rEqI C sp E) := by
  intro pins s σ H x y v u Q I rx ry h
  obtain ⟨a, b, dx, dy, fs, gs, rfl, rfl, ha, hb', hsp⟩ := h
  cases rx
  cases ry
  obtain ⟨mA, J, _⟩ := ins_get I.hok ha
  obtain ⟨mB, J', _⟩ := ins_get I.hok hb'
  obtain ⟨od, J, _⟩ := J.look
  obtain ⟨od', J', _⟩ := J'.look
  obtain ⟨m, hF⟩ := I.fr
  show wpAny (model X.prog X.w) X.A (richCompare .Eq (.ref a) (.ref b)) (EP X pins σ Q) X.xe s
  refine PySem.W.cmp_K (op := .Eq) (tb := .ref C) hr.units0 hF I.ok.mod.kin J J'.type (by simp [PySem.W.notFirst]) hs hf ?_
  have q := run_fn (us := [.ref a, .ref b]) (vs := [.ref a, .ref b]) (dvs := []) F hr hb .nil hx I (.cons rfl (.cons rfl .nil)) (show sp ([V.ref a, V.ref b] ++ []) H _ E from hsp)
  refine thn q fun r s' hr' => ?_
  obtain ⟨z, H', I', rz, k, ez, q'⟩ := hr'
  subst ez
  cases rz
  exact ⟨.bl k, H', I', rfl, q'⟩

/-! ### the alphabet -/
/-- an alphabet's attributes: its letters, its vowels -/
def af (l v : List Nat) : List (Str × V) := [("letters", .str (S l)), ("vowels", .str (S v)), ("consonants", .str (S (l.filter (· ∉ v)))), ("signs", .str (S (45 :: l)))]
/-- at p an alphabet of these letters and vowels -/
def AlphaAt (C : Addr) (H : Hp) (p : Addr) (l v : List Nat) : Prop := ∃ dx, H p = some (.ins C dx (af l v))
theorem af_letters (l v : List Nat) : (af l v).lookup ("letters" : Str) = some (.str (S l)) := rfl
theorem af_vowels (l v : List Nat) : (af l v).lookup ("vowels" : Str) = some (.str (S v)) := rfl
theorem af_cons (l v : List Nat) : (af l v).lookup ("consonants" : Str) = some (.str (S (l.filter (· ∉ v)))) := rfl
theorem af_signs (l v : List Nat) : (af l v).lookup ("signs" : Str) = some (.str (S (45 :: l))) := rfl
theorem AlphaAt.same {C p : Addr} {H H' : Hp} {l v : List Nat} (a : AlphaAt C H p l v) (s : Same H H') : AlphaAt C H' p l v := let ⟨dx, h⟩ := a; ⟨dx, s _ _ h⟩
theorem AlphaAt.kp {C p b : Addr} {H H' : Hp} {l v : List Nat} (a : AlphaAt C H p l v) (k : Kp b H H') (n : p ≠ b) : AlphaAt C H' p l v := let ⟨dx, h⟩ := a; ⟨dx, k _ _ n h⟩

def spTwice : Sp := fun vs H Q _ => ∃ l : List Nat, vs = [.str (S l)] ∧ l.length ≤ 1000 ∧ ∀ H', Same H H' → Q (.bl (!decide l.Nodup)) H'
def spOrder : Sp := fun vs H Q _ => ∃ l : List Nat, vs = [.str (S l)] ∧ l.length < 64 ∧ ∀ (l' : List Nat) (H' : Hp), Same H H' → l'.Perm l → l'.Pairwise (· ≤ ·) → Q (.str (S l')) H'
/-- from a to z -/
def az (c : Nat) : Bool := decide (97 ≤ c) && decide (c ≤ 122)
def isLets (l : List Nat) : Bool := decide (1 ≤ l.length) && decide (l.length ≤ 8) && decide l.Nodup && l.all az
def spAreLetters (C : Addr) : Sp := fun vs H Q _ => ∃ (p dx : Addr) (fs : List (Str × V)) (l : List Nat), vs = [.ref p, .str (S l)] ∧ H p = some (.ins C dx fs) ∧ fs.lookup ("MOST" : Str) = none ∧ l.length ≤ 1000 ∧ ∀ H', Same H H' → Q (.bl (isLets l)) H'
def spIsWord (C : Addr) : Sp := fun vs H Q _ => ∃ (p : Addr) (l v t : List Nat), vs = [.ref p, .str (S t)] ∧ AlphaAt C H p l v ∧ t.length ≤ 1000 ∧ ∀ H', Same H H' → Q (.bl (t.all fun c => decide (c ∈ 45 :: l))) H'
/-- signs that make a listed set -/
def isList (l x : List Nat) : Bool := decide (x ≠ []) && x.all (fun c => decide (c ∈ 45 :: l)) && decide (x.Pairwise (· < ·))
def spListed (C : Addr) : Sp := fun vs H Q _ => ∃ (p : Addr) (l v t : List Nat), vs = [.ref p, .str (S t)] ∧ AlphaAt C H p l v ∧ t.length < 64 ∧ ∀ H', Same H H' → Q (.bl (isList l t)) H'
/-- C(a, u) with letters and vowels that make an alphabet: l and v are theirs in order -/
def spInitA (C : Addr) : Sp := fun vs H Q _ => ∃ (p dx : Addr) (a u l v : List Nat), vs = [.ref p, .str (S a), .str (S u)] ∧ H p = some (.ins C dx []) ∧ Lets l 8 ∧ v.Sublist l ∧ a.Perm l ∧ u.Perm v ∧
  ∀ H', Kp p H H' → AlphaAt C H' p l v → Q .non H'
structure ATxt (K : PySem.W.Frag) (mg : Str → Option Value) (C : Addr) : Prop where
  cl : Cls K C
  nL : NoAttr K C "letters"
  nV : NoAttr K C "vowels"
  nC : NoAttr K C "consonants"
  nS : NoAttr K C "signs"
  cJ : ∃ u, Con K C "JOINT" (.str (S [45])) u
  cM : ∃ u, Con K C "MOST" (.int 8) u
  mgC : mg "Alphabet" = some (.ref C)
theorem sorted_eq {t t' : List Nat} (p : t'.Perm t) (h : t'.Pairwise (· ≤ ·)) : t = t' ↔ t.Pairwise (· ≤ ·) :=
  ⟨fun e => by rw [e]; exact h, fun q => List.Perm.eq_of_pairwise (le := (· ≤ ·)) (fun _ _ _ _ => Nat.le_antisymm) q h p.symm⟩
theorem vs_eq (a b : List Nat) : decide (V.str (S a) = V.str (S b)) = decide (a = b) :=
  decide_eq_decide.mpr ⟨fun h => by injection h with h; exact S_inj h, fun h => by rw [h]⟩
theorem lt_le_nodup (t : List Nat) : t.Pairwise (· < ·) ↔ t.Pairwise (· ≤ ·) ∧ t.Nodup := by
  constructor
  · intro h
    exact ⟨h.imp fun z => Nat.le_of_lt z, h.imp fun z => Nat.ne_of_lt z⟩
  · rintro ⟨h1, h2⟩
    exact pw_lt h1 h2
theorem le_S {n : Nat} {l : List Nat} (h : l.length ≤ n) (hn : n ≤ 16777216 := by decide) : (S l).length ≤ sizeLine := by
  rw [S_len, sizeLine_eq]
  omega
theorem az_lo (c : Nat) : (!decide ((⟨#[c]⟩ : Str).cps.toList < ("a" : Str).cps.toList)) = decide (97 ≤ c) := by
  show (!decide ([c] < [97])) = decide (97 ≤ c)
  rw [show decide ([c] < [97]) = decide (c < 97) from decide_eq_decide.mpr (by rw [List.cons_lt_cons_iff]; simp)]
  by_cases h : c < 97
  · rw [decide_eq_true h, decide_eq_false (by omega)] <;> rfl
  · rw [decide_eq_false h, decide_eq_true (by omega)] <;> rfl
theorem az_hi (c : Nat) : (!decide (("z" : Str).cps.toList < (⟨#[c]⟩ : Str).cps.toList)) = decide (c ≤ 122) := by
  show (!decide ([122] < [c])) = decide (c ≤ 122)
  rw [show decide ([122] < [c]) = decide (122 < c) from decide_eq_decide.mpr (by rw [List.cons_lt_cons_iff]; simp)]
  by_cases h : 122 < c
  · rw [decide_eq_true h, decide_eq_false (by omega)] <;> rfl
  · rw [decide_eq_false h, decide_eq_true (by omega)] <;> rfl
end Cl
set_option Elab.async false
set_option linter.all false
set_option maxRecDepth 100000
set_option maxHeartbeats 4000000
/-! The names of sets. -/
namespace Cl
open PySem PySem.Spec L2 PyProof.Rows
def cAll : List Nat := [97, 108, 108]
def cLetters : List Nat := [108, 101, 116, 116, 101, 114, 115]
def cVowels : List Nat := [118, 111, 119, 101, 108, 115]
def cCons : List Nat := [99, 111, 110, 115, 111, 110, 97, 110, 116, 115]
def cJoints : List Nat := [106, 111, 105, 110, 116, 115]
theorem eAll : ("all" : Str) = S cAll := by decide +kernel
theorem eLetters : ("letters" : Str) = S cLetters := by decide +kernel
theorem eVowels : ("vowels" : Str) = S cVowels := by decide +kernel
theorem eCons : ("consonants" : Str) = S cCons := by decide +kernel
theorem eJoints : ("joints" : Str) = S cJoints := by decide +kernel
/-- what stands between the brackets -/
def inner (n : List Nat) : List Nat := (n.drop 1).dropLast
/-- the members of a set that has a name of its own -/
def namedSet (l v n : List Nat) : Option (List Nat) :=
  if cAll = n then some (45 :: l) else if cLetters = n then some l else if cVowels = n then some v else if cCons = n then some (l.filter (· ∉ v)) else if cJoints = n then some [45] else none
/-- the members of a set by its name -/
def setOf (l v n : List Nat) : Option (List Nat) :=
  match namedSet l v n with
  | some m => some m
  | none => if n = 91 :: (inner n ++ [93]) ∧ isList l (inner n) = true then some (inner n) else none
def namedD (l v : List Nat) : List (Key × V) := [(.inr ("all" : Str), .str (S (45 :: l))), (.inr ("letters" : Str), .str (S l)), (.inr ("vowels" : Str), .str (S v)), (.inr ("consonants" : Str), .str (S (l.filter (· ∉ v)))), (.inr ("joints" : Str), .str (S [45]))]
theorem key_dec (a b : List Nat) : decide ((Sum.inr (S a) : Key) = Sum.inr (S b)) = decide (a = b) :=
  decide_eq_decide.mpr ⟨fun h => S_inj (Sum.inr.inj h), fun h => by rw [h]⟩
theorem val_named (l v n : List Nat) : valV (namedD l v) (.inr (S n)) = (namedSet l v n).map fun m => .str (S m) := by
  unfold valV namedD namedSet
  rw [eAll, eLetters, eVowels, eCons, eJoints]
  simp only [List.find?_cons, key_dec, List.find?_nil]
  by_cases h1 : cAll = n
  · simp [h1]
  · by_cases h2 : cLetters = n
    · simp [h1, h2]
    · by_cases h3 : cVowels = n
      · simp [h1, h2, h3]
      · by_cases h4 : cCons = n
        · simp [h1, h2, h3, h4]
        · by_cases h5 : cJoints = n
          · simp [h1, h2, h3, h4, h5]
          · simp [h1, h2, h3, h4, h5]
theorem merge_named (l v : List Nat) : mergeK [] (namedD l v) = namedD l v := by
  rfl
theorem cut_inner (n : List Nat) : cutS (S n) (some 1) (some (-1)) = S (inner n) := by
  unfold cutS inner
  rw [S_cps, S_len]
  have e1 : HT.sIx n.length 0 (some 1) = min 1 n.length := HT.sIx_nat n.length 0 1
  have e2 : HT.sIx n.length n.length (some (-1)) = n.length - 1 := by
    show (if (-1 : Int) < 0 then ((-1 : Int) + (n.length : Int)).toNat else min (-1 : Int).toNat n.length) = _
    rw [if_pos (by decide)]
    omega
  rw [e1, e2]
  show Str.mk _ = Str.mk _
  congr 2
  rw [List.dropLast_eq_take, List.length_drop]
  cases n with
  | nil => rfl
  | cons c r =>
    simp
theorem named_none {l v n : List Nat} (h : namedSet l v n = none) : setOf l v n = if n = 91 :: (inner n ++ [93]) ∧ isList l (inner n) = true then some (inner n) else none := by
  unfold setOf
  rw [h]
theorem brackets (x : List Nat) : ((Str.empty ++ ("[" : Str)) ++ S x) ++ ("]" : Str) = S (91 :: (x ++ [93])) := by
  have e1 : (Str.empty ++ ("[" : Str)) = S [91] := by decide +kernel
  have e2 : ("]" : Str) = S [93] := by decide +kernel
  rw [e1, e2, S_app, S_app] <;> rfl
theorem bracket1 (x : List Nat) : (Str.empty ++ ("[" : Str)) ++ S x = S (91 :: x) := by
  have e1 : (Str.empty ++ ("[" : Str)) = S [91] := by decide +kernel
  rw [e1, S_app] <;> rfl
theorem inner_le (n : List Nat) : (inner n).length ≤ n.length := by
  unfold inner
  rw [List.length_dropLast, List.length_drop]
  omega
/-- members of a name that is one -/
def spMembers (C : Addr) : Sp := fun vs H Q _ => ∃ (p : Addr) (l v n m : List Nat), vs = [.ref p, .str (S n)] ∧ AlphaAt C H p l v ∧ n.length ≤ 60 ∧ setOf l v n = some m ∧ ∀ H', Same H H' → Q (.str (S m)) H'
/-- what isinstance wants of an own class -/
structure IsTxt (K : PySem.W.Frag) (C : Addr) : Prop where
  ha : PySem.W.findIn K (.ref C) "__class__" = some (some (.builtin "object.__class__"))
  hn : PySem.W.specialIn K (.builtin "object.__class__") "__get__" = some (some (.builtin "getset_descriptor.__get__"))
  htk : PySem.W.takesIn K (.builtin "object.__class__") = some true
  hm : PySem.W.mroIn K C (.type "object") = some true
theorem kit_self {K : PySem.W.Frag} {t : Value} : PySem.W.kitOne K t t = some true := by
  unfold PySem.W.kitOne
  rw [if_pos (by simp)]
def spEqA (C : Addr) : Sp := fun vs H Q _ => ∃ (p q : Addr) (l v l' v' : List Nat), vs = [.ref p, .ref q] ∧ AlphaAt C H p l v ∧ AlphaAt C H q l' v' ∧ Q (.bl (decide (l = l') && decide (v = v'))) H
end Cl
set_option Elab.async false
set_option linter.all false
set_option maxRecDepth 100000
set_option maxHeartbeats 4000000
namespace Cl
open PySem PySem.Spec L2 PyProof.Rows
def lawMembers (l v n : List Nat) : List Nat := (namedSet l v n).getD (inner n)
def spLawMembers : Sp := fun vs H Q _ => ∃ l v n : List Nat, vs = [.str (S l), .str (S v), .str (S n)] ∧ l.length ≤ 8 ∧ n.length ≤ 60 ∧ ∀ H', Same H H' → Q (.str (S (lawMembers l v n))) H'
/-- a name of a set -/
def GoodName (l n : List Nat) : Prop := n.length ≤ 12 ∧ (n = cAll ∨ n = cLetters ∨ n = cVowels ∨ n = cCons ∨ n = cJoints ∨ ∃ x, n = 91 :: (x ++ [93]) ∧ isList l x = true)
theorem inner_of (x : List Nat) : inner (91 :: (x ++ [93])) = x := by
  unfold inner
  rw [List.drop_one, List.tail_cons, List.dropLast_concat]
/-- for a good name the law's members are the set's -/
theorem good_members {l v n : List Nat} (h : GoodName l n) : setOf l v n = some (lawMembers l v n) := by
  unfold setOf lawMembers
  cases e : namedSet l v n with
  | some m => rfl
  | none =>
    obtain ⟨_, h⟩ := h
    have hn : ¬ cAll = n ∧ ¬ cLetters = n ∧ ¬ cVowels = n ∧ ¬ cCons = n ∧ ¬ cJoints = n := by
      unfold namedSet at e
      refine ⟨fun z => ?_, fun z => ?_, fun z => ?_, fun z => ?_, fun z => ?_⟩
      all_goals (subst z; revert e; simp [cAll, cLetters, cVowels, cCons, cJoints])
    rcases h with h | h | h | h | h | ⟨x, hx, hl⟩
    · exact absurd h.symm hn.1
    · exact absurd h.symm hn.2.1
    · exact absurd h.symm hn.2.2.1
    · exact absurd h.symm hn.2.2.2.1
    · exact absurd h.symm hn.2.2.2.2
    · subst hx
      rw [inner_of]
      show (if _ then some x else none) = some x
      rw [if_pos ⟨rfl, hl⟩]
def spLawName : Sp := fun vs H Q _ => ∃ (b lb : Addr) (l : List Nat), vs = [.ref b, .str (S l)] ∧ Lets l 8 ∧ Bag H b lb ∧
  ∀ (n : List Nat) (H' : Hp), Kp b H H' → Bag H' b lb → GoodName l n → Q (.str (S n)) H'
def spLawWord : Sp := fun vs H Q _ => ∃ (b lb : Addr) (g : List Nat) (top : Nat), vs = [.ref b, .str (S g), .int top] ∧ g ≠ [] ∧ g.length ≤ 30 ∧ top ≤ 60 ∧ Bag H b lb ∧
  ∀ (t : List Nat) (H' : Hp), Kp b H H' → Bag H' b lb → (∀ c ∈ t, c ∈ g) → t.length ≤ top → Q (.str (S t)) H'
theorem signs_up {l : List Nat} {n : Nat} (h : Lets l n) : (45 :: l).Pairwise (· < ·) :=
  List.pairwise_cons.mpr ⟨fun c hc => by have := (h.az c hc).1; omega, h.up⟩
theorem sub_isList {l x : List Nat} {n : Nat} (h : Lets l n) (hx : x.Sublist (45 :: l)) (h0 : x ≠ []) : isList l x = true := by
  unfold isList
  rw [decide_eq_true h0, decide_eq_true ((signs_up h).sublist hx), Bool.true_and, Bool.and_true]
  exact List.all_eq_true.mpr fun c hc => decide_eq_true (hx.subset hc)
theorem dash_app (l : List Nat) : ("-" : Str) ++ S l = S (45 :: l) := by
  have e45 : ("-" : Str) = S [45] := by decide +kernel
  rw [e45, S_app] <;> rfl
theorem dash_len (l : List Nat) (h : l.length ≤ 1000) : ("-" : Str).length + (S l).length ≤ sizeLine := by
  have e45 : ("-" : Str) = S [45] := by decide +kernel
  rw [e45, S_len, S_len, sizeLine_eq]
  show 1 + l.length ≤ _
  omega
theorem name_app (x : List Nat) : (("[" : Str) ++ S x) ++ ("]" : Str) = S (91 :: (x ++ [93])) := by
  have e1 : ("[" : Str) = S [91] := by decide +kernel
  have e2 : ("]" : Str) = S [93] := by decide +kernel
  rw [e1, e2, S_app, S_app] <;> rfl
theorem name_app1 (x : List Nat) : ("[" : Str) ++ S x = S (91 :: x) := by
  have e1 : ("[" : Str) = S [91] := by decide +kernel
  rw [e1, S_app] <;> rfl
theorem atS {l : List Nat} {v : Int} (h0 : 0 ≤ v) (h1 : v < l.length) : atI (S l).cps.toList v = some (l[v.toNat]'(by omega)) := by
  rw [S_cps]
  exact atI_pos h0 (List.getElem?_eq_getElem _)
end Cl
set_option Elab.async false
set_option linter.all false
set_option maxRecDepth 100000
set_option maxHeartbeats 4000000
/-! super().__init__(..) in the own __init__ of an exception of one's own over ValueError. -/
namespace Sx
open PySem PySem.Spec L2 PyProof.Rows
/-- what super().__init__ wants of the class C, within D -/
structure SupE (K : PySem.W.Frag) (C D : Addr) : Prop where
  cD : ∃ oD cd, K.lookup D = some oD ∧ oD.data = .cls cd
  sub : PySem.W.subIn K (.ref C) (.ref D) = some true
  no : PySem.W.nsIn K cStatics "thirdparty.any" = some none
  at_ : PySem.W.ks_superIn K C D "__init__" = some (some (.builtin "ValueError.__init__"))
  ve : PySem.W.subIn K (.ref C) (.type "ValueError") = some true
section
variable {X : Cx} {pins : List (Addr × Obj)} {σ : L2.St} {H : Hp} {s : Shared} {a C D u : Addr}
/-- the bound __init__ called -/
theorem call_mw {us : List Value} {Q : Value → Shared → Prop} {E : Value → Shared → Prop} (T : OexC X.K C) (I : Inv X ((u, PySem.W.kxs_mw "ValueError.__init__" a) :: pins) σ H s) (e : H a = some (exo a C none)) (hl : us.length ≤ sizeLine)
    (h : ∀ s', Inv X pins σ H s' → Q .none s') : wpAny (model X.prog X.w) X.A (call (.ref u) us) Q E s := by
  obtain ⟨nm, q, N, bs, bm, sn, sub, ab, col, dd, k0, k1, k2, k3, k5, hC, hbm⟩ := T.cls
  obtain ⟨t1, ho⟩ := exo_at I.hok e
  have hu := ClX.pin_at I
  have I0 := ClX.unpin I
  have hC' := I.kIn _ _ hC
  obtain ⟨hp, g, d, t, os⟩ := s
  have fin : ∀ h', (∀ b o, b ≠ a → hp.get? b = some o → h'.get? b = some o) → h'.get? a = some (PySem.W.excObj C hp.objs.size none .none) → h'.get? hp.objs.size = some (PySem.W.excTup us) → Q .none ⟨h', g, d, t, os⟩ := fun h' k e' _ => by
    have J := I0.write (t' := t) (x := a) (e := a) (o := exo a C none) (h' := h') (by rw [e]; exact True.intro) (.inl rfl) k ⟨_, e'⟩ (exo_ok e')
    have eu : upd H a (exo a C none) = H := by
      funext b
      by_cases hb : b = a
      · rw [hb, upd_same, e]
      · rw [upd_ne hb]
    rw [eu] at J
    exact h _ J
  refine wpAny_call (codeAny_of_tree ?_)
  show wpAny _ X.A.in1 (callAny (.ref u) ⟨us, []⟩) _ _ _
  simp only [callAny]
  refine wpAny_bind (wpAny_load hu ?_)
  simp only [PySem.W.kxs_mw, show (Value.type "method-wrapper" == Value.type "method" || Value.type "method-wrapper" == Value.type "builtin_function_or_method" || Value.type "method-wrapper" == Value.type "method-wrapper") = true by decide, if_true]
  refine PySem.W.KFB.if_so (by decide) ?_
  refine wpAny_bind (PySem.W.check_bound_init F.excBase_ValueError.toExcCallFacts hC' ho rfl ?_)
  refine wpAny_bind (wpAny_pure (wpAny_pure ?_))
  refine ⟨plainId_quiet F.excBase_ValueError.init.plain _, codeAny_builtin F.excBase_ValueError.initEntry ?_⟩
  exact PySem.W.exc_init_tree (cls := .ref C) (t0 := t1) (dv := none) (c2 := .none) (c3 := .none) (b4 := .bool false) ho hl fin
/-- super(D, self).__init__(..), once D and self are told -/
theorem sup_chain {e0 : Expr} {es : List Expr} {ta : TA} {pos : Pos} {pl : Sem Bool} {Q : VK} {R : Value → Shared → Prop} (T : OexC X.K C) (z : SupE X.K C D) (I : Inv X pins σ H s) (e : H a = some (exo a C none)) (ha : PA X (e0 :: es) ta)
    (hq : ta σ H fun ws H1 => ws.length ≤ 1000 ∧ H1 a = some (exo a C none) ∧ Q .non H1) (hR : ∀ v s', EP X pins σ Q v s' → R v s')
    (he : starEach (e0 :: es) X.env = (false, eval e0 X.env) :: starEach es X.env := by rfl) (hpl : (backTo pos (starEach es X.env)).any (·.1) = false := by rfl) :
    wpAny (model X.prog X.w) X.A (isType (.ref D)) (fun b s₄ => b = true ∧ wpAny (model X.prog X.w) X.A (call (.type "super") [.ref D, .ref a]) (fun ov s₁ => wpAny (model X.prog X.w) X.A (getMethod ov "__init__" pl) (fun fx s₂ => wpAny (model X.prog X.w) X.A (callWith pos fx.1 fx.2 (backTo pos (starEach (e0 :: es) X.env)) []) R X.xe s₂) X.xe s₁) X.xe s₄) X.xe s := by
  obtain ⟨nm, q, N, bs, bm, sn, sub, ab, col, dd, k0, k1, k2, k3, k5, hC, hbm⟩ := T.cls
  have hcl : PySem.W.clsIn X.K C = some { name := nm, bases := bs, mro := .ref C :: bm, ns := N, qualname := q, hasDict := true, slotNames := sn, subclasses := sub, abstract := ab, collection := col, hasDel := false } := by unfold PySem.W.clsIn; rw [hC] <;> rfl
  obtain ⟨oD, cd, hD, hDt⟩ := z.cD
  obtain ⟨t1, ho⟩ := exo_at I.hok e
  have hD' := I.kIn _ _ hD
  obtain ⟨hp, g, d, t, os⟩ := s
  refine PySem.ks_wpAny_isType_cls hD' hDt ⟨rfl, ?_⟩
  refine PySem.ks_wpAny_call_super hD' hDt ho rfl (fun c y => by cases y) (PySem.W.looks_subIn I.kIn z.sub) fun h1 hso k1 => ?_
  have I1 := ClX.pin_new (t' := t) I k1 (Nat.le_refl _) hso (fun v y => by cases y)
  have ho1 := k1 _ _ ho
  have J1 : PySem.W.InstAt h1 a _ C none := ⟨ho1, rfl, rfl, trivial⟩
  have hm := z.at_
  unfold PySem.W.ks_superIn at hm
  rw [hcl, Option.bind_some] at hm
  refine PySem.W.kxs_getMethod PySem.W.kxs_ValueError hso (PySem.W.looks_opaque I1.kIn z.no) (l₀ := .ref C :: bm) (fun A Q E s k q => wpAny_bind ((PySem.W.looks_clsIn I1.kIn hcl) A _ E s k (wpAny_pure q))) rfl I1.kIn hm (J1.type.andThen (PySem.W.looks_subIn I1.kIn z.ve)) (PySem.W.ks_ne I1.kIn J1 hcl) rfl ?_
  have I2 := ClX.pin_new (t' := t + 1) (o := PySem.W.kxs_mw "ValueError.__init__" a) (h' := h1.push (PySem.W.kxs_mw "ValueError.__init__" a)) I1 (fun b o y => Heap.get?_push_of_some _ y) (Nat.le_refl _) (Heap.get?_push_at rfl rfl) (fun v y => by cases y)
  show wpAny _ _ (callWith pos (.ref h1.objs.size) [] (backTo pos (starEach (e0 :: es) X.env)) []) _ _ _
  have hr := ha.run pos _ _ σ H _ I2 hq
  rw [he] at hr ⊢
  refine PySem.W.kxs_callWith (i := "ValueError.__init__") (x := a) (by show (false || (backTo pos (starEach es X.env)).any (·.1)) = false; rw [hpl]; rfl) ?_
  refine Calls.evalArgs_plain (thn hr fun us s1 ⟨vs, H1, I3, r1, hl, ea, q⟩ => ?_)
  refine ⟨ClX.pin_at I3, ?_⟩
  have hlen : us.length ≤ sizeLine := by
    rw [← r1.length, sizeLine_eq]
    omega
  exact call_mw T I3 ea hlen fun s' J => hR _ _ ⟨.non, H1, ClX.unpin J, rfl, q⟩
end
end Sx
set_option Elab.async false
set_option linter.all false
set_option maxRecDepth 100000
set_option maxHeartbeats 4000000
namespace Sx
open PySem PySem.Spec L2 PyProof.Rows
/-- its words: the class cell is captured -/
abbrev nf (x qual : Str) (st : Stmt) (cc c : Addr) : NdefX.NF := ⟨x, qual, defArgs st, defBody st, defScope st, [("__class__", cc)], c⟩
/-- a method with super() as it stands behind the top: D its class -/
structure FunS (K : PySem.W.Frag) (file x qual : Str) (st : Stmt) (D f c cc : Addr) (fd : FuncData) : Prop where
  ex : ∃ (oc : Value) (od an : Option Addr) (kV doc pm ct : Value) (osl : Array (Option Value)), fd = PySem.W.fnX x qual (defArgs st) (defBody st) (defScope st) [("__class__", cc)] .none kV doc pm an (.ref c) ct ∧ K.lookup f = some ⟨oc, od, .func fd, osl⟩
  cd : PySem.W.codeIn K (.ref c) qual = true
  cell : ∃ o, K.lookup cc = some o ∧ o.data = .cell (some (.ref D))
  code : ∃ (o : Obj) (vs : Array Value) (tf : Tok), K.lookup c = some o ∧ o.data = .fields vs ∧ vs[2]? = some (.str file tf)
  kp : PySem.W.keepIn K (.ref f) = true
abbrev wsOf (D : Addr) : List (Option V) := [some (.ref D)]
theorem FunS.binds {K : PySem.W.Frag} {file x qual : Str} {st : Stmt} {D f c cc : Addr} {fd : FuncData} {ps : List Str} (F : FunS K file x qual st D f c cc fd)
    (h : ∀ (kV doc pm : Value) (an : Option Addr) (ct : Value) (us : List Value), us.length = ps.length → bindArgs (PySem.W.fnX x qual (defArgs st) (defBody st) (defScope st) [("__class__", cc)] .none kV doc pm an (.ref c) ct) ⟨us, []⟩ = pure (ps.zip us)) : Binds K fd ps [] := by
  obtain ⟨oc, od, an, kV, doc, pm, ct, osl, rfl, lk⟩ := F.ex
  exact .all (h kV doc pm an ct)
section
variable {CX : CXT} {P : Program} {w : World} {K : PySem.W.Frag} {mg : Str → Option Value} {base : Heap} {N : List Str} {D f c cc : Addr} {k : Nat} {sp : Sp} {x qual p1 : Str} {ps : List Str} {st : Stmt} {fd : FuncData} {e0 : Expr} {es : List Expr} {rest : List Stmt} {q0 q1 q2 q3 q4 : Pos} {ar : Arg} {n : NdefX.NF}
/-- THE RULE: __init__ of an own exception whose first row is super().__init__(..) -/
theorem fn_sup (F : FunS K P.main.file x qual st D f c cc fd) (hn : n = nf x qual st cc c) (S : NdefX.NScope N (p1 :: ps) ["__class__"] (defScope st))
    (hbd : defBody st = .Expr (.Call (.Attribute (.Call (.Name "super" q0) [] [] q1) "__init__" q2) (e0 :: es) [] q3) q4 :: rest)
    (hk : (defScope st).names.lookup ("super" : Str) = some .globalImplicit)
    (har : ((defArgs st).posonlyargs ++ (defArgs st).args).head? = some ar) (harn : ar.arg = p1) (htop : (P.main.scope.names.lookup ("super" : Str)).isSome = false) (hsu : mg "super" = none)
    (len : ∀ vs H Q E, sp vs H Q E → vs.length = (p1 :: ps).length)
    (hbody : ∀ (A : Around) (outer : List Env) (s : Shared) (H : Hp) (vs : List V) (Q : VK) (E : XK), Room k (A.deeper (NdefX.envF n f s.heap.objs.size)) → sp vs H Q E →
      ∃ (ta : TA) (tr : TS), PA (NdefX.ncx CX P w K mg base N n f A outer s H E) (e0 :: es) ta ∧ PSs (NdefX.ncx CX P w K mg base N n f A outer s H E) rest tr ∧
        ∃ (a C : Addr) (vr : List V), vs = .ref a :: vr ∧ H a = some (exo a C none) ∧ OexC K C ∧ SupE K C D ∧
          ta (NdefX.startF N vs (wsOf D)) H fun ws H1 => ws.length ≤ 1000 ∧ H1 a = some (exo a C none) ∧ tr { nx := fun _ H' => Q .non H', rt := Q } (NdefX.startF N vs (wsOf D)) H1)
    (he : ∀ L, starEach (e0 :: es) (NdefX.envF n f L) = (false, eval e0 (NdefX.envF n f L)) :: starEach es (NdefX.envF n f L) := by intro _; rfl) (hpl : ∀ L, (backTo q3 (starEach es (NdefX.envF n f L))).any (·.1) = false := by intro _; rfl)
    (hi : ∀ L, interactive (NdefX.envF n f L) = false := by intro _; rfl) (hsw : ∀ L, swapsWith (.Call (.Attribute (.Call (.Name "super" q0) [] [] q1) "__init__" q2) (e0 :: es) [] q3) none q4.line (NdefX.envF n f L) = pure false := by intro _; rfl) {pl : Nat → Sem Bool}
    (hm : ∀ L, eval (.Call (.Attribute (.Call (.Name "super" q0) [] [] q1) "__init__" q2) (e0 :: es) [] q3) (NdefX.envF n f L) = (do
      let ov ← attributeBase (.Call (.Name "super" q0) [] [] q1) "__init__" (NdefX.envF n f L) (eval (.Call (.Name "super" q0) [] [] q1) (NdefX.envF n f L))
      standAt q2.atName
      let (g, first) ← holding [ov] (getMethod ov "__init__" (pl L))
      callWith q3 g first (backTo q3 (starEach (e0 :: es) (NdefX.envF n f L))) []) := by intro _; rfl) :
    FnOk P w K mg base CX (k + 1) f fd (p1 :: ps) sp := by
  subst hn
  obtain ⟨oc, od, an, kV, doc, pm, ct, osl, rfl, lk⟩ := F.ex
  refine ⟨len, fun A outer s H args us vs Q E hr e0' hb r hsp => ?_⟩
  have hl := len _ _ _ _ hsp
  have KX : K.In s.heap := e0'.mod.kin.keeps fun b o e => (e0'.bs b o e).1
  have lim : s.heap.NoLimit := e0'.mod.nolimit.keeps fun b o e => (e0'.bs b o e).1
  obtain ⟨oCl, hcl, hcd⟩ := F.cell
  obtain ⟨oCd, vsC, tf, hco, hcf, hc2⟩ := F.code
  have C : NdefX.CellsAt [("__class__", cc)] ["__class__"] (wsOf D) s.heap H := by
    have hc : H cc = none := (e0'.bs cc oCl (e0'.mod.kin _ _ hcl)).2
    have hcell : s.heap.IsCell cc (some (.ref D)) := ⟨oCl, KX _ _ hcl, hcd⟩
    have one : ∀ {y : Str} {b : Addr}, List.lookup y [(("__class__" : Str), cc)] = some b → y = "__class__" ∧ b = cc := fun {y b} h => by
      rw [List.lookup_cons] at h
      cases q : y == ("__class__" : Str) with
      | true =>
        rw [q] at h
        exact ⟨eq_of_beq q, (Option.some.inj h).symm⟩
      | false =>
        rw [q] at h
        cases h
    refine ⟨rfl, fun y b h => ?_, fun x y b h1 h2 => ?_, fun i y h => ?_⟩
    · obtain ⟨rfl, rfl⟩ := one h
      exact ⟨hc, _, hcell⟩
    · rw [(one h1).1, (one h2).1]
    · match i, h with
      | 0, h =>
        have h : some ("__class__" : Str) = some y := h
        cases h
        refine ⟨cc, by rw [List.lookup_cons_self], fun v hv => ?_⟩
        have hv : some (some (V.ref D)) = some (some v) := hv
        cases hv
        exact ⟨.ref D, rfl, hcell⟩
  refine codeAny_call_function hr.depth (KX _ _ lk) rfl S.co S.gen rfl (PySem.W.codeRec_of KX F.cd) (hb _ _ _ _ ?_)
  refine wpAny_newFunctionEnv S.nocell (fun ⟨n, _⟩ hy => S.par n (List.of_mem_zip hy).1) (fun h₁ hns hsb => ⟨lim.fresh _ hsb, ?_⟩) S.kind
  have kp : ∀ b o, s.heap.get? b = some o → h₁.get? b = some o := fun b o e => hsb.extBut b o (Nat.ne_of_lt (Heap.lt_size e)) (Heap.get?_push_of_some _ e)
  show codeAny _ _ (.func (defBody st) (NdefX.envF (nf x qual st cc c) f s.heap.objs.size)) _ _
  obtain ⟨ta, tr, hta, htr, a, C', vr, rfl, ha, T, z, hq⟩ := hbody A outer s H vs Q E (hr.deeper _) hsp
  have I : Inv (NdefX.ncx CX P w K mg base N (nf x qual st cc c) f A outer s H E) [] (NdefX.startF N (.ref a :: vr) (wsOf D)) H { s with heap := h₁, toks := s.toks + ((p1 :: ps).zip us).length } := NdefX.inv_startN S hr.hd e0' hl r C hns kp
  refine PySem.ks_codeAny_funcAt ?_
  rw [hbd]
  refine PySem.ks_wpAt_execs_cons (PySem.ks_wpAt_Expr_any (PySem.ks_wpAt_MethodCall (pl := pl s.heap.objs.size) ?_ (hm _)) (hi _) (hsw _))
  have hfree : (NdefX.envF (nf x qual st cc c) f s.heap.objs.size).kindOf "__class__" = some .free := S.frk _ (List.mem_singleton.mpr rfl)
  have hloc : (NdefX.envF (nf x qual st cc c) f s.heap.objs.size).kindOf ar.arg = some .local := by
    rw [harn]
    exact S.par _ (List.mem_cons_self ..)
  refine PySem.ks_wpAt_super_base (ar := ar) (f := f) (cc := c) hk hfree rfl rfl (kp _ _ (KX _ _ lk)) rfl har rfl (kp _ _ (KX _ _ hco)) hcf hc2 (by simp) htop ?_
  -- the three names
  have hsup : ∀ {R : Value → Shared → Prop} {E' : Value → Shared → Prop}, R (.type "super") { s with heap := h₁, toks := s.toks + ((p1 :: ps).zip us).length } → wpAny (model P w) (A.deeper (NdefX.envF (nf x qual st cc c) f s.heap.objs.size)) (loadName (NdefX.envF (nf x qual st cc c) f s.heap.objs.size) "super") R E' { s with heap := h₁, toks := s.toks + ((p1 :: ps).zip us).length } := fun {R E'} h => by
    unfold loadName
    have hk' : (NdefX.envF (nf x qual st cc c) f s.heap.objs.size).kindOf "super" = some .globalImplicit := hk
    simp only [Env.blockKind, S.kind, hk', ScopeKind.isAnnotationScope, Bool.false_and, Bool.false_eq_true, if_false]
    obtain ⟨mb, h1, h2⟩ := I.mod.blt
    exact Calls.loadGlobal_builtin (I.mod.glob.keeps I.bk) hsu (h1.keeps I.bk) ((h2 "super" (by decide)).trans PyProof.Rows.Boot.«super») h
  refine hsup ⟨rfl, ?_⟩
  obtain ⟨c0, hc0, hv0⟩ := C.has 0 "__class__" rfl
  obtain ⟨u0, ru0, ⟨oq, hq1, hq2⟩⟩ := hv0 (.ref D) rfl
  cases ru0
  refine wpAny_loadName_free (env := NdefX.envF (nf x qual st cc c) f s.heap.objs.size) S.kind hfree hc0 ⟨oq, kp _ _ hq1, hq2⟩ ?_
  cases r with
  | @cons _ ua _ ur ra rr =>
  obtain rfl : ua = Value.ref a := ra
  have hlk : ((p1 :: ps).zip (Value.ref a :: ur)).reverse.lookup ar.arg = some (.ref a) := by
    rw [harn]
    have ndP : (p1 :: ps).Nodup := by
      have q := S.nd.sublist (List.take_sublist ((p1 :: ps).length + [("__class__" : Str)].length) N)
      rw [S.pre] at q
      exact (List.nodup_append.mp q).1
    exact NdefX.zip_look (i := 0) ndP rfl rfl
  refine wpAny_loadName_local (env := NdefX.envF (nf x qual st cc c) f s.heap.objs.size) S.kind hloc hns hlk ?_
  refine sup_chain (X := NdefX.ncx CX P w K mg base N (nf x qual st cc c) f A outer s H E) (Q := fun _ H1 => tr { nx := fun _ H' => Q .non H', rt := Q } (NdefX.startF N (.ref a :: vr) (wsOf D)) H1) T z I ha hta hq (fun v s' h => ?_) (he _) (hpl _)
  obtain ⟨y, H1, J, ry, q⟩ := h
  show PySem.wpAt _ _ _ (execs rest (NdefX.envF (nf x qual st cc c) f s.heap.objs.size)) _ _ _
  refine PySem.wpAt_of_wpAny (wpAny_mono (htr.run [] s' _ H1 _ J q) (fun fl s' hs => ?_) fun e s' hs => hs)
  have fin : ∀ {σ' : L2.St} {H' : Hp} {v : V} {u : Value}, Inv (NdefX.ncx CX P w K mg base N (nf x qual st cc c) f A outer s H E) [] σ' H' s' → L2.RelV v u → Q v H' → CE outer P w H s Q u s' :=
    fun {σ' H' v u} J rv q => ⟨v, H', J.os, J.bare, J.base, J.hok, rv, q⟩
  cases fl with
  | ret u =>
    obtain ⟨v, σ', H', J, rv, q⟩ := hs
    exact fin J rv q
  | next =>
    obtain ⟨σ', H', J, q⟩ := hs
    exact fin (v := V.non) (u := Value.none) J rfl q
  | brk =>
    obtain ⟨_, _, _, q⟩ := hs
    exact False.elim q
  | cont =>
    obtain ⟨_, _, _, q⟩ := hs
    exact False.elim q
end
end Sx
set_option Elab.async false
set_option linter.all false
set_option maxRecDepth 100000
set_option maxHeartbeats 4000000
/-! C(..) whose refusal is told at the slots of the frame. -/
namespace Sx
open PySem PySem.Spec L2 PyProof.Rows
section
variable {X : Cx} {CXa : CXT} {k : Nat} {g C : Addr} {gd : FuncData} {ns : List Str} {sp : Sp} {Eo : L2.St → XK} {x : Str} {p pos : Pos} {a0 : Expr} {as : List Expr} {ta : TA} {ws : List V} {dw : List Value}
def tMakeS (C : Addr) (sp : Sp) (ws : List V) (Eo : L2.St → XK) (ta : TA) : TE := fun σ H Q => ta σ H fun vs H1 => ∀ o dx, H1 o = none → H1 dx = none → dx ≠ o →
  sp (.ref o :: (vs ++ ws)) (upd (upd H1 dx (.own o)) o (.ins C dx [])) (fun v H2 => v = .non ∧ Q (.ref o) H2) (Eo σ)
theorem pe_makeS (M : Mk X.K C g) (F : FnOk X.prog X.w X.K X.mg X.base CXa k g gd ns sp) (hr : Room (k + 1) X.A) (hg : Gl X x) (hm : X.mg x = some (.ref C)) (hb : Binds X.K gd ns dw) (hd : Vals ws dw)
    (out : ∀ (σ : L2.St) (pins : List (Addr × Obj)) (H : Hp) (o dx : Addr) (s : Shared) (e : Value) (s' : Shared), Inv X pins σ (upd (upd H dx (.own o)) o (.ins C dx [])) s → CXa X.stack (upd (upd H dx (.own o)) o (.ins C dx [])) s (Eo σ) e s' → X.xe e s')
    (ha : PA X (a0 :: as) ta) (hdb : (x == ("__debug__" : Str)) = false := by decide) (he : starEach (a0 :: as) X.env = (false, eval a0 X.env) :: starEach as X.env := by rfl) (hpl : (backTo pos (starEach as X.env)).any (·.1) = false := by rfl) :
    PE X (.Call (.Name x p) (a0 :: as) [] pos) (tMakeS C sp ws Eo ta) := by
  refine ⟨fun pins s σ H Q I h => wpAny_Call_Name_kw (ld_glob I hg hm ?_ hdb)⟩
  refine PySem.W.callWith_K (h₀ := X.base) I.ok.mod.kin M.kp (thn (ha.run pos pins s σ H _ I h) fun us s1 hh => ?_) he hpl
  obtain ⟨vs, H1, J, rv, q⟩ := hh
  refine ⟨J.kIn, ?_⟩
  have n0 : s1.heap.objs.size ≠ s1.heap.objs.size + 1 := Nat.ne_of_lt (Nat.lt_succ_self _)
  have q1 := q _ _ (J.hok.fresh (Nat.le_succ s1.heap.objs.size)) (J.hok.fresh (Nat.le_refl s1.heap.objs.size)) n0
  have J2 := Inv.made (C := C) J
  have rall := Vals.append rv hd
  have r3 : Vals (V.ref (s1.heap.objs.size + 1) :: (vs ++ ws)) (Value.ref (s1.heap.objs.size + 1) :: (us ++ dw)) := .cons rfl rall
  have hlen : (Value.ref (s1.heap.objs.size + 1) :: us ++ dw).length = ns.length := r3.length.symm.trans (F.len _ _ _ _ q1)
  have body := F.run _ X.stack _ _ ⟨Value.ref (s1.heap.objs.size + 1) :: us, []⟩ (Value.ref (s1.heap.objs.size + 1) :: (us ++ dw)) _ _ _ (hr.make C us []) (J2.env0.make C us []) (hb _ (Value.ref (s1.heap.objs.size + 1) :: us) J2.kIn hlen) r3 q1
  refine wpAny_call (make_map (f := g) J.kIn M.makes M.init (beq_iff_eq.mp M.fn) (codeAny_mono body fun res s' hres => ?_))
  match res, hres with
  | .error e, hres => exact out σ pins _ _ _ _ e s' J2 hres
  | .ok (.ret u), hres =>
    obtain ⟨v, H3, J3, rw3, ev, q3⟩ := J2.after hres
    subst ev
    exact ⟨rw3, V.ref (s1.heap.objs.size + 1), H3, J3, rfl, q3⟩
  | .ok .next, hres => exact False.elim hres
  | .ok .brk, hres => exact False.elim hres
  | .ok .cont, hres => exact False.elim hres
theorem out_of {W : WX} (tk : Takes X W) (σ : L2.St) (pins : List (Addr × Obj)) (H : Hp) (o dx : Addr) (s : Shared) (e : Value) (s' : Shared) (I : Inv X pins σ (upd (upd H dx (.own o)) o (.ins C dx [])) s)
    (c : L2.CX X.prog X.w X.stack (upd (upd H dx (.own o)) o (.ins C dx [])) s (WE W σ) e s') : X.xe e s' := passAt tk σ pins _ s e s' I c
end
end Sx
set_option Elab.async false
set_option linter.all false
set_option maxRecDepth 100000
set_option maxHeartbeats 4000000
/-! isinstance(e, c), e the error that a suite holds, with a dict of its own. -/
namespace Sx
open PySem PySem.Spec L2 PyProof.Rows
def rIsX (K : PySem.W.Frag) (a : Addr) (cls : Value) (d : Option Addr) : List V → Hp → VK → Prop := fun xs H Q => ∃ (D dd : Addr) (c : V) (cv : Value) (b : Bool) (fs : List (Str × V)), cls = .ref D ∧ d = some dd ∧ ExcC K D ∧
  xs = [.ref a, c] ∧ (∀ u, RelV c u → u = cv) ∧ H dd = some (.xd fs) ∧ PySem.W.kitOne K (.ref D) cv = some b ∧ Q (.bl b) H
theorem call_isX {X : Cx} {a : Addr} {cls : Value} {d : Option Addr} {oe : Obj} {pn : List (Addr × Obj)} (hz : Zc cls d oe) (hf : ∃ vs, oe.data = .fields vs) : CallR (X.suite a ((a, oe) :: pn)) (.builtin "isinstance") (rIsX X.K a cls d) := by
  rintro pins s σ H xs us Q I r ⟨D, dd, c, cv, b, fs, rfl, rfl, C, rfl, hcv, hd, hk, q⟩
  obtain ⟨u1, u2, rfl, ra, rc⟩ : ∃ u1 u2, us = [u1, u2] ∧ RelV (.ref a) u1 ∧ RelV c u2 := by
    cases r with
    | cons ra rr => cases rr with
      | cons rc rn => cases rn; exact ⟨_, _, rfl, ra, rc⟩
  obtain rfl : u1 = Value.ref a := ra
  obtain rfl := hcv _ rc
  have pin := (I.pin (a, oe) (List.mem_append.mpr (.inl List.mem_cons_self))).1
  obtain ⟨vs, hv⟩ := hf
  obtain ⟨mA, hns, _⟩ : ObjOk X.prog X.w H s.heap dd (.xd fs) := I.hok dd _ hd
  obtain ⟨od, ho, _⟩ := lookIn_ns hns
  have J : PySem.W.InstAt s.heap a oe D (some od) := ⟨pin, hz.1, by unfold PySem.W.notCls; rw [hv], by rw [hz.2]; exact ho⟩
  have hcl : (PySem.W.clsIn X.K D).isSome = true := by
    obtain ⟨cd, hc, _⟩ := PySem.W.any_some C.hd
    rw [hc]
    rfl
  exact PySem.W.kia_one (PySem.W.kitx_exc hcl C.hg C.hk C.hs C.ha C.hn C.ht C.hm) I.kIn J hk (fun z => nomatch z) fun tk => ⟨.bl b, H, I.kept (t' := tk) fun _ _ y => y, rfl, q⟩
end Sx
set_option Elab.async false
set_option linter.all false
set_option maxRecDepth 100000
set_option maxHeartbeats 4000000
/-! Errors of one's own as values: made, their fields, isinstance. -/
namespace Sx
open PySem PySem.Spec L2 PyProof.Rows
/-- C(..) as a value -/
def tMkX (C : Addr) (sp : Sp) (ta : TA) : TE := fun σ H Q => ta σ H fun vs H1 => vs.length ≤ 1000 ∧ ∀ a, H1 a = none → sp (.ref a :: vs) (upd H1 a (exo a C none)) (fun v H2 => v = .non ∧ Q (.ref a) H2) (fun _ _ _ => False)
section
variable {X : Cx} {CXa : CXT} {k : Nat} {g C : Addr} {gd : FuncData} {ns : List Str} {sp : Sp} {x : Str} {p pos : Pos} {a0 : Expr} {as : List Expr} {ta : TA} {pins : List (Addr × Obj)} {σ : L2.St} {H : Hp} {s : Shared} {Q : VK}
theorem make_x {us : List Value} {vs : List V} (T : OexC X.K C) (iC : PySem.W.findIn X.K (.ref C) "__init__" = some (some (.ref g))) (tI : PySem.W.typeIn X.K (.ref g) = some (.type "function")) (FG : FnOk X.prog X.w X.K X.mg X.base CXa k g gd ns sp) (hr : Room (k + 1) X.A) (hb : Binds X.K gd ns [])
    (hx : Passes CXa X (fun _ _ _ => False)) (I : Inv X pins σ H s) (r : Vals vs us) (hz : vs.length ≤ 1000) (h : ∀ a, H a = none → sp (.ref a :: vs) (upd H a (exo a C none)) (fun v H2 => v = .non ∧ Q (.ref a) H2) (fun _ _ _ => False)) :
    wpAny (model X.prog X.w) X.A (call (.ref C) us) (EP X pins σ Q) X.xe s := by
  obtain ⟨nm, q, N, bs, bm, sn, sub, ab, col, dd, k0, k1, k2, k3, k5, hC, hbm⟩ := T.cls
  obtain ⟨hp, gs, dr, tk, os⟩ := s
  have up : ∀ b o, hp.get? b = some o → ((hp.push (PySem.W.kdv_tup us)).push (PySem.HandSPX.excO C hp.objs.size)).get? b = some o := fun b o e => Heap.get?_push_of_some _ (Heap.get?_push_of_some _ e)
  have new : ((hp.push (PySem.W.kdv_tup us)).push (PySem.HandSPX.excO C hp.objs.size)).get? (hp.objs.size + 1) = some (PySem.HandSPX.excO C hp.objs.size) := by heap_get
  have J := I.laid (t' := tk) (a := hp.objs.size + 1) (o := exo (hp.objs.size + 1) C none) (h' := (hp.push (PySem.W.kdv_tup us)).push (PySem.HandSPX.excO C hp.objs.size)) up (Nat.le_succ _) (exo_ok new)
  have q1 := h (hp.objs.size + 1) (I.hok.fresh (Nat.le_succ _))
  have r2 : Vals (V.ref (hp.objs.size + 1) :: vs) (Value.ref (hp.objs.size + 1) :: us) := .cons rfl r
  have hlen : (Value.ref (hp.objs.size + 1) :: us).length = ns.length := r2.length.symm.trans (FG.len _ _ _ _ q1)
  have hus : us.length ≤ sizeLine := by
    rw [← r.length, sizeLine_eq]
    omega
  have bt := hb _ (Value.ref (hp.objs.size + 1) :: us) J.kIn (by rw [List.append_nil]; exact hlen)
  rw [List.append_nil] at bt
  have body := FG.run _ X.stack _ _ ⟨Value.ref (hp.objs.size + 1) :: us, []⟩ _ _ _ _ (hr.make C us []) (J.env0.make C us []) bt r2 q1
  refine wpAny_call (PySem.HandSPX.call_own F.excBase_ValueError (fun Y => PySem.HandSPX.refsVE_contains Y bm hbm) (I.kIn _ _ hC) (PySem.W.looks_findIn I.kIn iC) (fun self => PySem.W.bind_fn I.kIn self tI) hus (codeAny_mono body fun res s' hres => ?_))
  match res, hres with
  | .error e, hres => exact hx pins σ _ _ e s' J hres
  | .ok (.ret u), hres =>
    obtain ⟨v, H3, J3, rw3, ev, q3⟩ := J.after hres
    subst ev
    exact ⟨rw3, V.ref (hp.objs.size + 1), H3, J3, rfl, q3⟩
  | .ok .next, hres => exact False.elim hres
  | .ok .brk, hres => exact False.elim hres
  | .ok .cont, hres => exact False.elim hres
theorem pe_mkX (T : OexC X.K C) (iC : PySem.W.findIn X.K (.ref C) "__init__" = some (some (.ref g))) (tI : PySem.W.typeIn X.K (.ref g) = some (.type "function")) (FG : FnOk X.prog X.w X.K X.mg X.base CXa k g gd ns sp) (hr : Room (k + 1) X.A) (hb : Binds X.K gd ns [])
    (hx : Passes CXa X (fun _ _ _ => False)) (hg : Gl X x) (hm : X.mg x = some (.ref C)) (ha : PA X (a0 :: as) ta)
    (hdb : (x == ("__debug__" : Str)) = false := by decide) (he : starEach (a0 :: as) X.env = (false, eval a0 X.env) :: starEach as X.env := by rfl) (hpl : (backTo pos (starEach as X.env)).any (·.1) = false := by rfl) :
    PE X (.Call (.Name x p) (a0 :: as) [] pos) (tMkX C sp ta) := by
  refine ⟨fun pins s σ H Q I h => wpAny_Call_Name_kw (ld_glob I hg hm ?_ hdb)⟩
  refine PySem.W.callWith_K (h₀ := X.base) I.ok.mod.kin T.kC (thn (ha.run pos pins s σ H _ I h) fun us s1 hh => ?_) he hpl
  obtain ⟨vs, H1, J, rv, hz, q⟩ := hh
  exact ⟨J.kIn, make_x T iC tI FG hr hb hx J rv hz q⟩
theorem pe_mkX0 (T : OexC X.K C) (iC : PySem.W.findIn X.K (.ref C) "__init__" = some (some (.ref g))) (tI : PySem.W.typeIn X.K (.ref g) = some (.type "function")) (FG : FnOk X.prog X.w X.K X.mg X.base CXa k g gd ns sp) (hr : Room (k + 1) X.A) (hb : Binds X.K gd ns [])
    (hx : Passes CXa X (fun _ _ _ => False)) (hg : Gl X x) (hm : X.mg x = some (.ref C)) (hdb : (x == ("__debug__" : Str)) = false := by decide) : PE X (.Call (.Name x p) [] [] pos) (tMkX C sp tNil) := by
  refine ⟨fun pins s σ H Q I h => wpAny_Call_Name_kw (ld_glob I hg hm ?_ hdb)⟩
  exact PySem.W.callWith_K0 I.kIn T.kC (make_x (us := []) (vs := []) T iC tI FG hr hb hx I .nil h.1 h.2)
/-- at a an error of the class at C with the fields fs -/
def ErrAt (H : Hp) (a C : Addr) (fs : List (Str × V)) : Prop := (fs = [] ∧ H a = some (exo a C none)) ∨ ∃ d, H a = some (exo a C (some d)) ∧ H d = some (exd d fs)
theorem err_inst {fs : List (Str × V)} {a : Addr} (I : Inv X pins σ H s) (e : ErrAt H a C fs) : ∃ (oe : Obj) (od : Option Obj), PySem.W.InstAt s.heap a oe C od ∧ (∀ f v, fs.lookup f = some v → ∃ o u, od = some o ∧ PySem.W.lookIn f o = some (some u) ∧ RelV v u) := by
  rcases e with ⟨rfl, ea⟩ | ⟨d, ea, ed⟩
  · obtain ⟨t, ho⟩ := exo_at I.hok ea
    exact ⟨_, none, ⟨ho, rfl, rfl, trivial⟩, fun f v h => by cases h⟩
  · obtain ⟨t, ho⟩ := exo_at I.hok ea
    obtain ⟨mA, hns, rel⟩ := exd_at I.hok ed
    obtain ⟨od, hod, hl⟩ := lookIn_ns hns
    refine ⟨_, some od, ⟨ho, rfl, rfl, hod⟩, fun f v h => ?_⟩
    obtain ⟨u, hu, ru⟩ := RelO.some_of (v := v) (o := mA f) (by rw [← h]; exact rel f)
    exact ⟨od, u, rfl, by rw [hl, hu], ru⟩
/-- e.f, e such a value -/
def tFldX (K : PySem.W.Frag) (f : Str) (te : TE) : TE := fun σ H Q => te σ H fun x H1 => ∃ (a C : Addr) (fs : List (Str × V)) (v : V), x = .ref a ∧ ErrAt H1 a C fs ∧ XfC K C ∧ PySem.W.findIn K (.ref C) f = some none ∧ fs.lookup f = some v ∧ Q v H1
theorem pe_fldX {e : Expr} {te : TE} {f : Str} (he : PE X e te) (hb : attributeBase e f X.env (eval e X.env) = eval e X.env := by rfl) : PE X (.Attribute e f pos) (tFldX X.K f te) := by
  refine ⟨fun pins s σ H Q I h => attr_of hb (thn (he.run pins s σ H _ I h) fun u s1 hh => ?_)⟩
  obtain ⟨x, H1, J, rx, a, C, fs, v, rfl, er, T, hno, hl, q⟩ := hh
  obtain rfl : u = Value.ref a := rx
  obtain ⟨oe, od, ins, look⟩ := err_inst J er
  obtain ⟨o, u, rfl, lk, ru⟩ := look f v hl
  exact HandSPX.exc_get J.kIn ins T.ga T.gg T.exC (PySem.W.findObj_own T.hdC hno rfl lk) (handed_of ru) ⟨v, H1, J.tok _, ru, q⟩
/-- isinstance(e, c), e such a value -/
def rIsV (K : PySem.W.Frag) : List V → Hp → VK → Prop := fun xs H Q => ∃ (a C : Addr) (fs : List (Str × V)) (c : V) (cv : Value) (b : Bool), xs = [.ref a, c] ∧ (∀ u, RelV c u → u = cv) ∧ ErrAt H a C fs ∧ ExcC K C ∧ PySem.W.kitOne K (.ref C) cv = some b ∧ Q (.bl b) H
theorem call_isV : CallR X (.builtin "isinstance") (rIsV X.K) := by
  rintro pins s σ H xs us Q I r ⟨a, C, fs, c, cv, b, rfl, hcv, er, E, hk, q⟩
  obtain ⟨u1, u2, rfl, ra, rc⟩ : ∃ u1 u2, us = [u1, u2] ∧ RelV (.ref a) u1 ∧ RelV c u2 := by
    cases r with
    | cons ra rr => cases rr with
      | cons rc rn => cases rn; exact ⟨_, _, rfl, ra, rc⟩
  obtain rfl : u1 = Value.ref a := ra
  obtain rfl := hcv _ rc
  obtain ⟨oe, od, ins, _⟩ := err_inst I er
  have hcl : (PySem.W.clsIn X.K C).isSome = true := by
    obtain ⟨cd, hc, _⟩ := PySem.W.any_some E.hd
    rw [hc]
    rfl
  exact PySem.W.kia_one (PySem.W.kitx_exc hcl E.hg E.hk E.hs E.ha E.hn E.ht E.hm) I.kIn ins hk (fun z => nomatch z) fun tk => ⟨.bl b, H, I.kept (t' := tk) fun _ _ y => y, rfl, q⟩
end
end Sx
set_option Elab.async false
set_option linter.all false
set_option maxRecDepth 100000
set_option maxHeartbeats 4000000
namespace Cl
open PySem PySem.Spec L2 PyProof.Rows
/-- what an error is given: a short text or a small int -/
def okArg (v : V) : Prop := (∃ t : List Nat, v = .str (S t) ∧ t.length ≤ 20 ∧ ∀ c ∈ t, c < 1000) ∨ ∃ i : Int, v = .int i ∧ i.natAbs < 10 ^ 9
theorem fmt_t {σ : L2.St} {v : V} {H : Hp} {Q : VK} {i : Nat} (hi : σ[i]? = some (some v)) (hv : okArg v) (h : ∀ y : Str, y.length ≤ 300 → Q (.str y) H) : tFmt (tVar i) σ H Q := by
  refine ⟨v, hi, ?_⟩
  rcases hv with ⟨t, rfl, ht, _⟩ | ⟨n, rfl, hn⟩
  · exact .inl ⟨_, rfl, le_S (by omega : _ ≤ 60), h _ (by rw [S_len]; omega)⟩
  · refine .inr ⟨n, rfl, ?_, h _ ?_⟩
    · by_cases z : n.natAbs = 0
      · rw [z]
        decide
      · exact Nat.lt_of_lt_of_le ((Nat.log2_lt z).mpr (Nat.lt_of_lt_of_le hn (by decide : 10 ^ 9 ≤ 2 ^ 64))) (by decide)
    · have e := int_text_length_le10 (a := n) (k := 9) (by decide) hn
      rw [PySem.ofString_length]
      omega
theorem fmtR_t {σ : L2.St} {t : List Nat} {H : Hp} {Q : VK} {i : Nat} (hi : σ[i]? = some (some (.str (S t)))) (ht : t.length ≤ 20) (hc : ∀ c ∈ t, c < 1000) (h : ∀ y : Str, y.length ≤ 300 → Q (.str y) H) : tFmtR (tVar i) σ H Q := by
  have z := StrLaws.reprText_len (S t) (fun c hm => by
    rw [S_cps] at hm
    exact Nat.lt_of_lt_of_le (hc c hm) (by decide))
  rw [S_len] at z
  exact ⟨_, hi, .inl ⟨_, rfl, by rw [sizeLine_eq]; omega, h _ (by omega)⟩⟩
/-- __init__ of an error with one field -/
def spE1 (B : Addr) (f : Str) : Sp := fun vs H Q _ => ∃ (a : Addr) (v : V), vs = [.ref a, v] ∧ H a = some (exo a B none) ∧ okArg v ∧
  ∀ d H', Kp a H H' → H' a = some (exo a B (some d)) → H' d = some (exd d [(f, v)]) → Q .non H'
/-- .. with one field, a text -/
def spET (B : Addr) (f : Str) : Sp := fun vs H Q _ => ∃ (a : Addr) (t : List Nat), vs = [.ref a, .str (S t)] ∧ H a = some (exo a B none) ∧ t.length ≤ 20 ∧ (∀ c ∈ t, c < 1000) ∧
  ∀ d H', Kp a H H' → H' a = some (exo a B (some d)) → H' d = some (exd d [(f, .str (S t))]) → Q .non H'
/-- .. with two -/
def spE2 (B : Addr) (f g : Str) : Sp := fun vs H Q _ => ∃ (a : Addr) (v u : V), vs = [.ref a, v, u] ∧ H a = some (exo a B none) ∧ okArg v ∧ okArg u ∧
  ∀ d H', Kp a H H' → H' a = some (exo a B (some d)) → H' d = some (exd d [(g, u), (f, v)]) → Q .non H'
/-- .. with none -/
def spE0 (B : Addr) : Sp := fun vs H Q _ => ∃ a : Addr, vs = [.ref a] ∧ H a = some (exo a B none) ∧ Q .non H
theorem kp_two {H : Hp} {a d : Addr} {o u : HO} (hd : H d = none) : Kp a H (upd (upd H d o) a u) := fun b x nb e => by
  rw [upd_ne nb, upd_ne (ne_of_none e hd)]
  exact e
theorem kp_three {H : Hp} {a d : Addr} {o u o' : HO} (hd : H d = none) : Kp a H (upd (upd (upd H d o) a u) d o') := fun b x nb e => by
  rw [upd_ne (ne_of_none e hd)]
  exact kp_two hd b x nb e
theorem empty_len : Str.empty.length = 0 := rfl
end Cl
namespace Cl.K81
open PySem PySem.Spec L2 PyProof.Rows
section
variable {P : Program} {w : World} {K : PySem.W.Frag} {mg : Str → Option Value} {base : Heap} {B f c cc : Addr} {fd : FuncData}
abbrev sBadAlphabet : Stmt := inClass (top 2) 0
theorem ok_BadAlphabet (F : Sx.FunS K P.main.file "__init__" "BadAlphabet.__init__" sBadAlphabet B f c cc fd) (T : OexC K B) (z : Sx.SupE K B B) (hno0 : PySem.W.findIn K (.ref B) "part" = some none) (htop : (P.main.scope.names.lookup ("super" : Str)).isSome = false) (hs : mg "super" = none) :
    FnOk P w K mg base CX0 1 f fd ["self", "part"] (spE1 B "part") := by
  refine Sx.fn_sup (k := 0) (n := Sx.nf "__init__" "BadAlphabet.__init__" sBadAlphabet cc c) (N := ["self", "part", "__class__"]) F rfl (NdefX.nscope_by (by decide +kernel)) rfl rfl rfl rfl htop hs (fun vs H Q E h => ?_) (fun A outer s H vs Q E hr h => ?_)
  · obtain ⟨a, v, rfl, _⟩ := h
    rfl
  · obtain ⟨a, v, rfl, ha, hv1, k⟩ := h
    have c1 : ("these " : Str).length ≤ 60 := by decide +kernel
    have c2 : (" make no alphabet" : Str).length ≤ 60 := by decide +kernel
    refine ⟨_, _, pa_cons (pe_joined (.cons pe_str (.cons (pe_fmt (pv 1)) (.cons pe_str .nil)))) pa_nil, (pss_one (ps_ost (pv 0) (pv 1))), a, B, _, rfl, ha, T, z, ?_⟩
    refine ⟨_, rfl, ?_, ?_⟩
    · rw [sizeLine_eq]
      simp only [PySem.Str.length_append, empty_len]
      omega
    show tFmt (tVar 1) _ _ _
    refine fmt_t rfl hv1 fun y1 hy1 => ⟨_, rfl, ?_, ?_⟩
    · rw [sizeLine_eq]
      simp only [PySem.Str.length_append, empty_len]
      omega
    refine ⟨_, rfl, ?_, ?_⟩
    · rw [sizeLine_eq]
      simp only [PySem.Str.length_append, empty_len]
      omega
    exact ⟨(by show 1 ≤ 1000; decide), ha, _, rfl, _, rfl, a, B, rfl, T, hno0, .inl ⟨ha, fun d hd nd => k d _ (kp_two hd) upd_same (by rw [upd_ne nd]; exact upd_same)⟩⟩
abbrev sBadWord : Stmt := inClass (top 3) 0
theorem ok_BadWord (F : Sx.FunS K P.main.file "__init__" "BadWord.__init__" sBadWord B f c cc fd) (T : OexC K B) (z : Sx.SupE K B B) (hno0 : PySem.W.findIn K (.ref B) "word" = some none) (htop : (P.main.scope.names.lookup ("super" : Str)).isSome = false) (hs : mg "super" = none) :
    FnOk P w K mg base CX0 1 f fd ["self", "word"] (spET B "word") := by
  refine Sx.fn_sup (k := 0) (n := Sx.nf "__init__" "BadWord.__init__" sBadWord cc c) (N := ["self", "word", "__class__"]) F rfl (NdefX.nscope_by (by decide +kernel)) rfl rfl rfl rfl htop hs (fun vs H Q E h => ?_) (fun A outer s H vs Q E hr h => ?_)
  · obtain ⟨a, t, rfl, _⟩ := h
    rfl
  · obtain ⟨a, t, rfl, ha, ht, hc, k⟩ := h
    have c1 : ("not a word of the alphabet: " : Str).length ≤ 60 := by decide +kernel
    refine ⟨_, _, pa_cons (pe_joined (.cons pe_str (.cons (pe_fmtR (pv 1)) .nil))) pa_nil, (pss_one (ps_ost (pv 0) (pv 1))), a, B, _, rfl, ha, T, z, ?_⟩
    refine ⟨_, rfl, ?_, ?_⟩
    · rw [sizeLine_eq]
      simp only [PySem.Str.length_append, empty_len]
      omega
    show tFmtR (tVar 1) _ _ _
    refine fmtR_t rfl ht hc fun y1 hy1 => ⟨_, rfl, ?_, ?_⟩
    · rw [sizeLine_eq]
      simp only [PySem.Str.length_append, empty_len]
      omega
    exact ⟨(by show 1 ≤ 1000; decide), ha, _, rfl, _, rfl, a, B, rfl, T, hno0, .inl ⟨ha, fun d hd nd => k d _ (kp_two hd) upd_same (by rw [upd_ne nd]; exact upd_same)⟩⟩
abbrev sBadStage : Stmt := inClass (top 4) 0
theorem ok_BadStage (F : Sx.FunS K P.main.file "__init__" "BadStage.__init__" sBadStage B f c cc fd) (T : OexC K B) (z : Sx.SupE K B B) (hno0 : PySem.W.findIn K (.ref B) "what" = some none) (htop : (P.main.scope.names.lookup ("super" : Str)).isSome = false) (hs : mg "super" = none) :
    FnOk P w K mg base CX0 1 f fd ["self", "what"] (spE1 B "what") := by
  refine Sx.fn_sup (k := 0) (n := Sx.nf "__init__" "BadStage.__init__" sBadStage cc c) (N := ["self", "what", "__class__"]) F rfl (NdefX.nscope_by (by decide +kernel)) rfl rfl rfl rfl htop hs (fun vs H Q E h => ?_) (fun A outer s H vs Q E hr h => ?_)
  · obtain ⟨a, v, rfl, _⟩ := h
    rfl
  · obtain ⟨a, v, rfl, ha, hv1, k⟩ := h
    have c1 : ("wrong stage: " : Str).length ≤ 60 := by decide +kernel
    refine ⟨_, _, pa_cons (pe_joined (.cons pe_str (.cons (pe_fmt (pv 1)) .nil))) pa_nil, (pss_one (ps_ost (pv 0) (pv 1))), a, B, _, rfl, ha, T, z, ?_⟩
    refine ⟨_, rfl, ?_, ?_⟩
    · rw [sizeLine_eq]
      simp only [PySem.Str.length_append, empty_len]
      omega
    show tFmt (tVar 1) _ _ _
    refine fmt_t rfl hv1 fun y1 hy1 => ⟨_, rfl, ?_, ?_⟩
    · rw [sizeLine_eq]
      simp only [PySem.Str.length_append, empty_len]
      omega
    exact ⟨(by show 1 ≤ 1000; decide), ha, _, rfl, _, rfl, a, B, rfl, T, hno0, .inl ⟨ha, fun d hd nd => k d _ (kp_two hd) upd_same (by rw [upd_ne nd]; exact upd_same)⟩⟩
abbrev sBadRule : Stmt := inClass (top 5) 0
theorem ok_BadRule (F : Sx.FunS K P.main.file "__init__" "BadRule.__init__" sBadRule B f c cc fd) (T : OexC K B) (z : Sx.SupE K B B) (hno0 : PySem.W.findIn K (.ref B) "stage" = some none) (hno1 : PySem.W.findIn K (.ref B) "what" = some none) (htop : (P.main.scope.names.lookup ("super" : Str)).isSome = false) (hs : mg "super" = none) :
    FnOk P w K mg base CX0 1 f fd ["self", "stage", "what"] (spE2 B "stage" "what") := by
  refine Sx.fn_sup (k := 0) (n := Sx.nf "__init__" "BadRule.__init__" sBadRule cc c) (N := ["self", "stage", "what", "__class__"]) F rfl (NdefX.nscope_by (by decide +kernel)) rfl rfl rfl rfl htop hs (fun vs H Q E h => ?_) (fun A outer s H vs Q E hr h => ?_)
  · obtain ⟨a, v, u, rfl, _⟩ := h
    rfl
  · obtain ⟨a, v, u, rfl, ha, hv1, hv2, k⟩ := h
    have c1 : ("wrong stage " : Str).length ≤ 60 := by decide +kernel
    have c2 : (" of the rule: " : Str).length ≤ 60 := by decide +kernel
    refine ⟨_, _, pa_cons (pe_joined (.cons pe_str (.cons (pe_fmt (pv 1)) (.cons pe_str (.cons (pe_fmt (pv 2)) .nil))))) pa_nil, (pss_cons (ps_ost (pv 0) (pv 1)) (pss_one (ps_ost (pv 0) (pv 2)))), a, B, _, rfl, ha, T, z, ?_⟩
    refine ⟨_, rfl, ?_, ?_⟩
    · rw [sizeLine_eq]
      simp only [PySem.Str.length_append, empty_len]
      omega
    show tFmt (tVar 1) _ _ _
    refine fmt_t rfl hv1 fun y1 hy1 => ⟨_, rfl, ?_, ?_⟩
    · rw [sizeLine_eq]
      simp only [PySem.Str.length_append, empty_len]
      omega
    refine ⟨_, rfl, ?_, ?_⟩
    · rw [sizeLine_eq]
      simp only [PySem.Str.length_append, empty_len]
      omega
    show tFmt (tVar 2) _ _ _
    refine fmt_t rfl hv2 fun y2 hy2 => ⟨_, rfl, ?_, ?_⟩
    · rw [sizeLine_eq]
      simp only [PySem.Str.length_append, empty_len]
      omega
    exact ⟨(by show 1 ≤ 1000; decide), ha, _, rfl, _, rfl, a, B, rfl, T, hno0, .inl ⟨ha, fun d hd nd => ⟨_, rfl, _, rfl, a, B, rfl, T, hno1, .inr ⟨d, _, upd_same, (by rw [upd_ne nd]; exact upd_same), (by show 1 ≤ 900; decide), k d _ (kp_three hd) (by rw [upd_ne nd.symm]; exact upd_same) upd_same⟩⟩⟩⟩
abbrev sBadShape : Stmt := inClass (top 6) 0
theorem ok_BadShape (F : Sx.FunS K P.main.file "__init__" "BadShape.__init__" sBadShape B f c cc fd) (T : OexC K B) (z : Sx.SupE K B B) (hno0 : PySem.W.findIn K (.ref B) "place" = some none) (htop : (P.main.scope.names.lookup ("super" : Str)).isSome = false) (hs : mg "super" = none) :
    FnOk P w K mg base CX0 1 f fd ["self", "place"] (spE1 B "place") := by
  refine Sx.fn_sup (k := 0) (n := Sx.nf "__init__" "BadShape.__init__" sBadShape cc c) (N := ["self", "place", "__class__"]) F rfl (NdefX.nscope_by (by decide +kernel)) rfl rfl rfl rfl htop hs (fun vs H Q E h => ?_) (fun A outer s H vs Q E hr h => ?_)
  · obtain ⟨a, v, rfl, _⟩ := h
    rfl
  · obtain ⟨a, v, rfl, ha, hv1, k⟩ := h
    have c1 : ("wrong shape at index " : Str).length ≤ 60 := by decide +kernel
    refine ⟨_, _, pa_cons (pe_joined (.cons pe_str (.cons (pe_fmt (pv 1)) .nil))) pa_nil, (pss_one (ps_ost (pv 0) (pv 1))), a, B, _, rfl, ha, T, z, ?_⟩
    refine ⟨_, rfl, ?_, ?_⟩
    · rw [sizeLine_eq]
      simp only [PySem.Str.length_append, empty_len]
      omega
    show tFmt (tVar 1) _ _ _
    refine fmt_t rfl hv1 fun y1 hy1 => ⟨_, rfl, ?_, ?_⟩
    · rw [sizeLine_eq]
      simp only [PySem.Str.length_append, empty_len]
      omega
    exact ⟨(by show 1 ≤ 1000; decide), ha, _, rfl, _, rfl, a, B, rfl, T, hno0, .inl ⟨ha, fun d hd nd => k d _ (kp_two hd) upd_same (by rw [upd_ne nd]; exact upd_same)⟩⟩
abbrev sBadTable : Stmt := inClass (top 7) 0
theorem ok_BadTable (F : Sx.FunS K P.main.file "__init__" "BadTable.__init__" sBadTable B f c cc fd) (T : OexC K B) (z : Sx.SupE K B B) (hno0 : PySem.W.findIn K (.ref B) "place" = some none) (htop : (P.main.scope.names.lookup ("super" : Str)).isSome = false) (hs : mg "super" = none) :
    FnOk P w K mg base CX0 1 f fd ["self", "place"] (spE1 B "place") := by
  refine Sx.fn_sup (k := 0) (n := Sx.nf "__init__" "BadTable.__init__" sBadTable cc c) (N := ["self", "place", "__class__"]) F rfl (NdefX.nscope_by (by decide +kernel)) rfl rfl rfl rfl htop hs (fun vs H Q E h => ?_) (fun A outer s H vs Q E hr h => ?_)
  · obtain ⟨a, v, rfl, _⟩ := h
    rfl
  · obtain ⟨a, v, rfl, ha, hv1, k⟩ := h
    have c1 : ("wrong table at place " : Str).length ≤ 60 := by decide +kernel
    refine ⟨_, _, pa_cons (pe_joined (.cons pe_str (.cons (pe_fmt (pv 1)) .nil))) pa_nil, (pss_one (ps_ost (pv 0) (pv 1))), a, B, _, rfl, ha, T, z, ?_⟩
    refine ⟨_, rfl, ?_, ?_⟩
    · rw [sizeLine_eq]
      simp only [PySem.Str.length_append, empty_len]
      omega
    show tFmt (tVar 1) _ _ _
    refine fmt_t rfl hv1 fun y1 hy1 => ⟨_, rfl, ?_, ?_⟩
    · rw [sizeLine_eq]
      simp only [PySem.Str.length_append, empty_len]
      omega
    exact ⟨(by show 1 ≤ 1000; decide), ha, _, rfl, _, rfl, a, B, rfl, T, hno0, .inl ⟨ha, fun d hd nd => k d _ (kp_two hd) upd_same (by rw [upd_ne nd]; exact upd_same)⟩⟩
abbrev sMixed : Stmt := inClass (top 8) 0
theorem ok_Mixed (F : Sx.FunS K P.main.file "__init__" "Mixed.__init__" sMixed B f c cc fd) (T : OexC K B) (z : Sx.SupE K B B)  (htop : (P.main.scope.names.lookup ("super" : Str)).isSome = false) (hs : mg "super" = none) :
    FnOk P w K mg base CX0 1 f fd ["self"] (spE0 B) := by
  refine Sx.fn_sup (k := 0) (n := Sx.nf "__init__" "Mixed.__init__" sMixed cc c) (N := ["self", "__class__"]) F rfl (NdefX.nscope_by (by decide +kernel)) rfl rfl rfl rfl htop hs (fun vs H Q E h => ?_) (fun A outer s H vs Q E hr h => ?_)
  · obtain ⟨a, rfl, _⟩ := h
    rfl
  · obtain ⟨a, rfl, ha, k⟩ := h
    refine ⟨_, _, pa_cons pe_str pa_nil, pss_nil, a, B, _, rfl, ha, T, z, ?_⟩
    exact ⟨(by show 1 ≤ 1000; decide), ha, k⟩
abbrev sBadLot : Stmt := inClass (top 9) 0
theorem ok_BadLot (F : Sx.FunS K P.main.file "__init__" "BadLot.__init__" sBadLot B f c cc fd) (T : OexC K B) (z : Sx.SupE K B B) (hno0 : PySem.W.findIn K (.ref B) "number" = some none) (htop : (P.main.scope.names.lookup ("super" : Str)).isSome = false) (hs : mg "super" = none) :
    FnOk P w K mg base CX0 1 f fd ["self", "number"] (spE1 B "number") := by
  refine Sx.fn_sup (k := 0) (n := Sx.nf "__init__" "BadLot.__init__" sBadLot cc c) (N := ["self", "number", "__class__"]) F rfl (NdefX.nscope_by (by decide +kernel)) rfl rfl rfl rfl htop hs (fun vs H Q E h => ?_) (fun A outer s H vs Q E hr h => ?_)
  · obtain ⟨a, v, rfl, _⟩ := h
    rfl
  · obtain ⟨a, v, rfl, ha, hv1, k⟩ := h
    have c1 : ("wrong lot at number " : Str).length ≤ 60 := by decide +kernel
    refine ⟨_, _, pa_cons (pe_joined (.cons pe_str (.cons (pe_fmt (pv 1)) .nil))) pa_nil, (pss_one (ps_ost (pv 0) (pv 1))), a, B, _, rfl, ha, T, z, ?_⟩
    refine ⟨_, rfl, ?_, ?_⟩
    · rw [sizeLine_eq]
      simp only [PySem.Str.length_append, empty_len]
      omega
    show tFmt (tVar 1) _ _ _
    refine fmt_t rfl hv1 fun y1 hy1 => ⟨_, rfl, ?_, ?_⟩
    · rw [sizeLine_eq]
      simp only [PySem.Str.length_append, empty_len]
      omega
    exact ⟨(by show 1 ≤ 1000; decide), ha, _, rfl, _, rfl, a, B, rfl, T, hno0, .inl ⟨ha, fun d hd nd => k d _ (kp_two hd) upd_same (by rw [upd_ne nd]; exact upd_same)⟩⟩
abbrev sBadLimit : Stmt := inClass (top 10) 0
theorem ok_BadLimit (F : Sx.FunS K P.main.file "__init__" "BadLimit.__init__" sBadLimit B f c cc fd) (T : OexC K B) (z : Sx.SupE K B B) (hno0 : PySem.W.findIn K (.ref B) "asked" = some none) (htop : (P.main.scope.names.lookup ("super" : Str)).isSome = false) (hs : mg "super" = none) :
    FnOk P w K mg base CX0 1 f fd ["self", "limit"] (spE1 B "asked") := by
  refine Sx.fn_sup (k := 0) (n := Sx.nf "__init__" "BadLimit.__init__" sBadLimit cc c) (N := ["self", "limit", "__class__"]) F rfl (NdefX.nscope_by (by decide +kernel)) rfl rfl rfl rfl htop hs (fun vs H Q E h => ?_) (fun A outer s H vs Q E hr h => ?_)
  · obtain ⟨a, v, rfl, _⟩ := h
    rfl
  · obtain ⟨a, v, rfl, ha, hv1, k⟩ := h
    have c1 : ("no such limit: " : Str).length ≤ 60 := by decide +kernel
    refine ⟨_, _, pa_cons (pe_joined (.cons pe_str (.cons (pe_fmt (pv 1)) .nil))) pa_nil, (pss_one (ps_ost (pv 0) (pv 1))), a, B, _, rfl, ha, T, z, ?_⟩
    refine ⟨_, rfl, ?_, ?_⟩
    · rw [sizeLine_eq]
      simp only [PySem.Str.length_append, empty_len]
      omega
    show tFmt (tVar 1) _ _ _
    refine fmt_t rfl hv1 fun y1 hy1 => ⟨_, rfl, ?_, ?_⟩
    · rw [sizeLine_eq]
      simp only [PySem.Str.length_append, empty_len]
      omega
    exact ⟨(by show 1 ≤ 1000; decide), ha, _, rfl, _, rfl, a, B, rfl, T, hno0, .inl ⟨ha, fun d hd nd => k d _ (kp_two hd) upd_same (by rw [upd_ne nd]; exact upd_same)⟩⟩
abbrev sTooMany : Stmt := inClass (top 11) 0
theorem ok_TooMany (F : Sx.FunS K P.main.file "__init__" "TooMany.__init__" sTooMany B f c cc fd) (T : OexC K B) (z : Sx.SupE K B B) (hno0 : PySem.W.findIn K (.ref B) "number" = some none) (htop : (P.main.scope.names.lookup ("super" : Str)).isSome = false) (hs : mg "super" = none) :
    FnOk P w K mg base CX0 1 f fd ["self", "number"] (spE1 B "number") := by
  refine Sx.fn_sup (k := 0) (n := Sx.nf "__init__" "TooMany.__init__" sTooMany cc c) (N := ["self", "number", "__class__"]) F rfl (NdefX.nscope_by (by decide +kernel)) rfl rfl rfl rfl htop hs (fun vs H Q E h => ?_) (fun A outer s H vs Q E hr h => ?_)
  · obtain ⟨a, v, rfl, _⟩ := h
    rfl
  · obtain ⟨a, v, rfl, ha, hv1, k⟩ := h
    have c1 : ("too many: " : Str).length ≤ 60 := by decide +kernel
    refine ⟨_, _, pa_cons (pe_joined (.cons pe_str (.cons (pe_fmt (pv 1)) .nil))) pa_nil, (pss_one (ps_ost (pv 0) (pv 1))), a, B, _, rfl, ha, T, z, ?_⟩
    refine ⟨_, rfl, ?_, ?_⟩
    · rw [sizeLine_eq]
      simp only [PySem.Str.length_append, empty_len]
      omega
    show tFmt (tVar 1) _ _ _
    refine fmt_t rfl hv1 fun y1 hy1 => ⟨_, rfl, ?_, ?_⟩
    · rw [sizeLine_eq]
      simp only [PySem.Str.length_append, empty_len]
      omega
    exact ⟨(by show 1 ≤ 1000; decide), ha, _, rfl, _, rfl, a, B, rfl, T, hno0, .inl ⟨ha, fun d hd nd => k d _ (kp_two hd) upd_same (by rw [upd_ne nd]; exact upd_same)⟩⟩
abbrev sOutsideStock : Stmt := inClass (top 12) 0
theorem ok_OutsideStock (F : Sx.FunS K P.main.file "__init__" "OutsideStock.__init__" sOutsideStock B f c cc fd) (T : OexC K B) (z : Sx.SupE K B B) (hno0 : PySem.W.findIn K (.ref B) "word" = some none) (htop : (P.main.scope.names.lookup ("super" : Str)).isSome = false) (hs : mg "super" = none) :
    FnOk P w K mg base CX0 1 f fd ["self", "word"] (spET B "word") := by
  refine Sx.fn_sup (k := 0) (n := Sx.nf "__init__" "OutsideStock.__init__" sOutsideStock cc c) (N := ["self", "word", "__class__"]) F rfl (NdefX.nscope_by (by decide +kernel)) rfl rfl rfl rfl htop hs (fun vs H Q E h => ?_) (fun A outer s H vs Q E hr h => ?_)
  · obtain ⟨a, t, rfl, _⟩ := h
    rfl
  · obtain ⟨a, t, rfl, ha, ht, hc, k⟩ := h
    have c1 : ("not in the stock: " : Str).length ≤ 60 := by decide +kernel
    refine ⟨_, _, pa_cons (pe_joined (.cons pe_str (.cons (pe_fmtR (pv 1)) .nil))) pa_nil, (pss_one (ps_ost (pv 0) (pv 1))), a, B, _, rfl, ha, T, z, ?_⟩
    refine ⟨_, rfl, ?_, ?_⟩
    · rw [sizeLine_eq]
      simp only [PySem.Str.length_append, empty_len]
      omega
    show tFmtR (tVar 1) _ _ _
    refine fmtR_t rfl ht hc fun y1 hy1 => ⟨_, rfl, ?_, ?_⟩
    · rw [sizeLine_eq]
      simp only [PySem.Str.length_append, empty_len]
      omega
    exact ⟨(by show 1 ≤ 1000; decide), ha, _, rfl, _, rfl, a, B, rfl, T, hno0, .inl ⟨ha, fun d hd nd => k d _ (kp_two hd) upd_same (by rw [upd_ne nd]; exact upd_same)⟩⟩
abbrev sNoRule : Stmt := inClass (top 13) 0
theorem ok_NoRule (F : Sx.FunS K P.main.file "__init__" "NoRule.__init__" sNoRule B f c cc fd) (T : OexC K B) (z : Sx.SupE K B B) (hno0 : PySem.W.findIn K (.ref B) "fewest" = some none) (htop : (P.main.scope.names.lookup ("super" : Str)).isSome = false) (hs : mg "super" = none) :
    FnOk P w K mg base CX0 1 f fd ["self", "fewest"] (spE1 B "fewest") := by
  refine Sx.fn_sup (k := 0) (n := Sx.nf "__init__" "NoRule.__init__" sNoRule cc c) (N := ["self", "fewest", "__class__"]) F rfl (NdefX.nscope_by (by decide +kernel)) rfl rfl rfl rfl htop hs (fun vs H Q E h => ?_) (fun A outer s H vs Q E hr h => ?_)
  · obtain ⟨a, v, rfl, _⟩ := h
    rfl
  · obtain ⟨a, v, rfl, ha, hv1, k⟩ := h
    have c1 : ("no rule would be left, each misses at least " : Str).length ≤ 60 := by decide +kernel
    refine ⟨_, _, pa_cons (pe_joined (.cons pe_str (.cons (pe_fmt (pv 1)) .nil))) pa_nil, (pss_one (ps_ost (pv 0) (pv 1))), a, B, _, rfl, ha, T, z, ?_⟩
    refine ⟨_, rfl, ?_, ?_⟩
    · rw [sizeLine_eq]
      simp only [PySem.Str.length_append, empty_len]
      omega
    show tFmt (tVar 1) _ _ _
    refine fmt_t rfl hv1 fun y1 hy1 => ⟨_, rfl, ?_, ?_⟩
    · rw [sizeLine_eq]
      simp only [PySem.Str.length_append, empty_len]
      omega
    exact ⟨(by show 1 ≤ 1000; decide), ha, _, rfl, _, rfl, a, B, rfl, T, hno0, .inl ⟨ha, fun d hd nd => k d _ (kp_two hd) upd_same (by rw [upd_ne nd]; exact upd_same)⟩⟩
abbrev sNoEntry : Stmt := inClass (top 14) 0
theorem ok_NoEntry (F : Sx.FunS K P.main.file "__init__" "NoEntry.__init__" sNoEntry B f c cc fd) (T : OexC K B) (z : Sx.SupE K B B) (hno0 : PySem.W.findIn K (.ref B) "number" = some none) (htop : (P.main.scope.names.lookup ("super" : Str)).isSome = false) (hs : mg "super" = none) :
    FnOk P w K mg base CX0 1 f fd ["self", "number"] (spE1 B "number") := by
  refine Sx.fn_sup (k := 0) (n := Sx.nf "__init__" "NoEntry.__init__" sNoEntry cc c) (N := ["self", "number", "__class__"]) F rfl (NdefX.nscope_by (by decide +kernel)) rfl rfl rfl rfl htop hs (fun vs H Q E h => ?_) (fun A outer s H vs Q E hr h => ?_)
  · obtain ⟨a, v, rfl, _⟩ := h
    rfl
  · obtain ⟨a, v, rfl, ha, hv1, k⟩ := h
    have c1 : ("no entry " : Str).length ≤ 60 := by decide +kernel
    refine ⟨_, _, pa_cons (pe_joined (.cons pe_str (.cons (pe_fmt (pv 1)) .nil))) pa_nil, (pss_one (ps_ost (pv 0) (pv 1))), a, B, _, rfl, ha, T, z, ?_⟩
    refine ⟨_, rfl, ?_, ?_⟩
    · rw [sizeLine_eq]
      simp only [PySem.Str.length_append, empty_len]
      omega
    show tFmt (tVar 1) _ _ _
    refine fmt_t rfl hv1 fun y1 hy1 => ⟨_, rfl, ?_, ?_⟩
    · rw [sizeLine_eq]
      simp only [PySem.Str.length_append, empty_len]
      omega
    exact ⟨(by show 1 ≤ 1000; decide), ha, _, rfl, _, rfl, a, B, rfl, T, hno0, .inl ⟨ha, fun d hd nd => k d _ (kp_two hd) upd_same (by rw [upd_ne nd]; exact upd_same)⟩⟩
abbrev sNoClass : Stmt := inClass (top 15) 0
theorem ok_NoClass (F : Sx.FunS K P.main.file "__init__" "NoClass.__init__" sNoClass B f c cc fd) (T : OexC K B) (z : Sx.SupE K B B) (hno0 : PySem.W.findIn K (.ref B) "number" = some none) (htop : (P.main.scope.names.lookup ("super" : Str)).isSome = false) (hs : mg "super" = none) :
    FnOk P w K mg base CX0 1 f fd ["self", "number"] (spE1 B "number") := by
  refine Sx.fn_sup (k := 0) (n := Sx.nf "__init__" "NoClass.__init__" sNoClass cc c) (N := ["self", "number", "__class__"]) F rfl (NdefX.nscope_by (by decide +kernel)) rfl rfl rfl rfl htop hs (fun vs H Q E h => ?_) (fun A outer s H vs Q E hr h => ?_)
  · obtain ⟨a, v, rfl, _⟩ := h
    rfl
  · obtain ⟨a, v, rfl, ha, hv1, k⟩ := h
    have c1 : ("no class " : Str).length ≤ 60 := by decide +kernel
    refine ⟨_, _, pa_cons (pe_joined (.cons pe_str (.cons (pe_fmt (pv 1)) .nil))) pa_nil, (pss_one (ps_ost (pv 0) (pv 1))), a, B, _, rfl, ha, T, z, ?_⟩
    refine ⟨_, rfl, ?_, ?_⟩
    · rw [sizeLine_eq]
      simp only [PySem.Str.length_append, empty_len]
      omega
    show tFmt (tVar 1) _ _ _
    refine fmt_t rfl hv1 fun y1 hy1 => ⟨_, rfl, ?_, ?_⟩
    · rw [sizeLine_eq]
      simp only [PySem.Str.length_append, empty_len]
      omega
    exact ⟨(by show 1 ≤ 1000; decide), ha, _, rfl, _, rfl, a, B, rfl, T, hno0, .inl ⟨ha, fun d hd nd => k d _ (kp_two hd) upd_same (by rw [upd_ne nd]; exact upd_same)⟩⟩
abbrev sNoHistory : Stmt := inClass (top 16) 0
theorem ok_NoHistory (F : Sx.FunS K P.main.file "__init__" "NoHistory.__init__" sNoHistory B f c cc fd) (T : OexC K B) (z : Sx.SupE K B B) (hno0 : PySem.W.findIn K (.ref B) "way" = some none) (htop : (P.main.scope.names.lookup ("super" : Str)).isSome = false) (hs : mg "super" = none) :
    FnOk P w K mg base CX0 1 f fd ["self", "way"] (spE1 B "way") := by
  refine Sx.fn_sup (k := 0) (n := Sx.nf "__init__" "NoHistory.__init__" sNoHistory cc c) (N := ["self", "way", "__class__"]) F rfl (NdefX.nscope_by (by decide +kernel)) rfl rfl rfl rfl htop hs (fun vs H Q E h => ?_) (fun A outer s H vs Q E hr h => ?_)
  · obtain ⟨a, v, rfl, _⟩ := h
    rfl
  · obtain ⟨a, v, rfl, ha, hv1, k⟩ := h
    have c1 : ("nothing to " : Str).length ≤ 60 := by decide +kernel
    refine ⟨_, _, pa_cons (pe_joined (.cons pe_str (.cons (pe_fmt (pv 1)) .nil))) pa_nil, (pss_one (ps_ost (pv 0) (pv 1))), a, B, _, rfl, ha, T, z, ?_⟩
    refine ⟨_, rfl, ?_, ?_⟩
    · rw [sizeLine_eq]
      simp only [PySem.Str.length_append, empty_len]
      omega
    show tFmt (tVar 1) _ _ _
    refine fmt_t rfl hv1 fun y1 hy1 => ⟨_, rfl, ?_, ?_⟩
    · rw [sizeLine_eq]
      simp only [PySem.Str.length_append, empty_len]
      omega
    exact ⟨(by show 1 ≤ 1000; decide), ha, _, rfl, _, rfl, a, B, rfl, T, hno0, .inl ⟨ha, fun d hd nd => k d _ (kp_two hd) upd_same (by rw [upd_ne nd]; exact upd_same)⟩⟩
abbrev sBadDeed : Stmt := inClass (top 17) 0
theorem ok_BadDeed (F : Sx.FunS K P.main.file "__init__" "BadDeed.__init__" sBadDeed B f c cc fd) (T : OexC K B) (z : Sx.SupE K B B) (hno0 : PySem.W.findIn K (.ref B) "index" = some none) (htop : (P.main.scope.names.lookup ("super" : Str)).isSome = false) (hs : mg "super" = none) :
    FnOk P w K mg base CX0 1 f fd ["self", "index"] (spE1 B "index") := by
  refine Sx.fn_sup (k := 0) (n := Sx.nf "__init__" "BadDeed.__init__" sBadDeed cc c) (N := ["self", "index", "__class__"]) F rfl (NdefX.nscope_by (by decide +kernel)) rfl rfl rfl rfl htop hs (fun vs H Q E h => ?_) (fun A outer s H vs Q E hr h => ?_)
  · obtain ⟨a, v, rfl, _⟩ := h
    rfl
  · obtain ⟨a, v, rfl, ha, hv1, k⟩ := h
    have c1 : ("wrong deed at index " : Str).length ≤ 60 := by decide +kernel
    refine ⟨_, _, pa_cons (pe_joined (.cons pe_str (.cons (pe_fmt (pv 1)) .nil))) pa_nil, (pss_one (ps_ost (pv 0) (pv 1))), a, B, _, rfl, ha, T, z, ?_⟩
    refine ⟨_, rfl, ?_, ?_⟩
    · rw [sizeLine_eq]
      simp only [PySem.Str.length_append, empty_len]
      omega
    show tFmt (tVar 1) _ _ _
    refine fmt_t rfl hv1 fun y1 hy1 => ⟨_, rfl, ?_, ?_⟩
    · rw [sizeLine_eq]
      simp only [PySem.Str.length_append, empty_len]
      omega
    exact ⟨(by show 1 ≤ 1000; decide), ha, _, rfl, _, rfl, a, B, rfl, T, hno0, .inl ⟨ha, fun d hd nd => k d _ (kp_two hd) upd_same (by rw [upd_ne nd]; exact upd_same)⟩⟩
abbrev sNoPlan : Stmt := inClass (top 18) 0
theorem ok_NoPlan (F : Sx.FunS K P.main.file "__init__" "NoPlan.__init__" sNoPlan B f c cc fd) (T : OexC K B) (z : Sx.SupE K B B) (hno0 : PySem.W.findIn K (.ref B) "one" = some none) (hno1 : PySem.W.findIn K (.ref B) "two" = some none) (htop : (P.main.scope.names.lookup ("super" : Str)).isSome = false) (hs : mg "super" = none) :
    FnOk P w K mg base CX0 1 f fd ["self", "one", "two"] (spE2 B "one" "two") := by
  refine Sx.fn_sup (k := 0) (n := Sx.nf "__init__" "NoPlan.__init__" sNoPlan cc c) (N := ["self", "one", "two", "__class__"]) F rfl (NdefX.nscope_by (by decide +kernel)) rfl rfl rfl rfl htop hs (fun vs H Q E h => ?_) (fun A outer s H vs Q E hr h => ?_)
  · obtain ⟨a, v, u, rfl, _⟩ := h
    rfl
  · obtain ⟨a, v, u, rfl, ha, hv1, hv2, k⟩ := h
    have c1 : ("no word parts the classes " : Str).length ≤ 60 := by decide +kernel
    have c2 : (" and " : Str).length ≤ 60 := by decide +kernel
    refine ⟨_, _, pa_cons (pe_joined (.cons pe_str (.cons (pe_fmt (pv 1)) (.cons pe_str (.cons (pe_fmt (pv 2)) .nil))))) pa_nil, (pss_cons (ps_ost (pv 0) (pv 1)) (pss_one (ps_ost (pv 0) (pv 2)))), a, B, _, rfl, ha, T, z, ?_⟩
    refine ⟨_, rfl, ?_, ?_⟩
    · rw [sizeLine_eq]
      simp only [PySem.Str.length_append, empty_len]
      omega
    show tFmt (tVar 1) _ _ _
    refine fmt_t rfl hv1 fun y1 hy1 => ⟨_, rfl, ?_, ?_⟩
    · rw [sizeLine_eq]
      simp only [PySem.Str.length_append, empty_len]
      omega
    refine ⟨_, rfl, ?_, ?_⟩
    · rw [sizeLine_eq]
      simp only [PySem.Str.length_append, empty_len]
      omega
    show tFmt (tVar 2) _ _ _
    refine fmt_t rfl hv2 fun y2 hy2 => ⟨_, rfl, ?_, ?_⟩
    · rw [sizeLine_eq]
      simp only [PySem.Str.length_append, empty_len]
      omega
    exact ⟨(by show 1 ≤ 1000; decide), ha, _, rfl, _, rfl, a, B, rfl, T, hno0, .inl ⟨ha, fun d hd nd => ⟨_, rfl, _, rfl, a, B, rfl, T, hno1, .inr ⟨d, _, upd_same, (by rw [upd_ne nd]; exact upd_same), (by show 1 ≤ 900; decide), k d _ (kp_three hd) (by rw [upd_ne nd.symm]; exact upd_same) upd_same⟩⟩⟩⟩
end
end Cl.K81
set_option Elab.async false
set_option linter.all false
set_option maxRecDepth 100000
set_option maxHeartbeats 4000000
namespace Cl
open PySem PySem.Spec L2 PyProof.Rows
theorem none_back {H H' : Hp} {p : Addr} (s : Same H H') (h : H' p = none) : H p = none := by
  cases e : H p with
  | none => rfl
  | some o =>
    rw [s _ _ e] at h
    cases h
theorem err_same {H H' : Hp} {a C : Addr} {fs : List (Str × V)} (e : Sx.ErrAt H a C fs) (s : Same H H') : Sx.ErrAt H' a C fs := by
  rcases e with ⟨rfl, ea⟩ | ⟨d, ea, ed⟩
  · exact .inl ⟨rfl, s _ _ ea⟩
  · exact .inr ⟨d, s _ _ ea, s _ _ ed⟩
/-- the names of the errors, in order -/
def errNames : List Str := ["BadAlphabet", "BadWord", "BadStage", "BadRule", "BadShape", "BadTable", "Mixed", "BadLot", "BadLimit", "TooMany", "OutsideStock", "NoRule", "NoEntry", "NoClass", "NoHistory", "BadDeed", "NoPlan"]
/-- what the top says of the errors: cs their classes, in order -/
structure Errs (K : PySem.W.Frag) (mg : Str → Option Value) (cs : Nat → Addr) (Cl : Addr) : Prop where
  gl : ∀ k, k < 17 → mg (errNames.getD k "") = some (.ref (cs k))
  ec : ∀ k, k < 17 → ExcC K (cs k)
  kit : ∀ j k, j < 17 → k < 17 → PySem.W.kitOne K (.ref (cs j)) (.ref (cs k)) = some (decide (k = j))
  gC : mg "ClipError" = some (.ref Cl)
  kC : ∀ j, j < 17 → PySem.W.kitOne K (.ref (cs j)) (.ref Cl) = some true
  kV : ∀ j, j < 17 → PySem.W.kitOne K (.ref (cs j)) (.type "ValueError") = some true
/-- the row of an error's kinds -/
def row (j : Nat) : List V := (List.range 17).map fun k => .bl (decide (k = j))
def spRanks (cs : Nat → Addr) : Sp := fun vs H Q _ => ∃ (a : Addr) (j : Nat) (fs : List (Str × V)), vs = [.ref a] ∧ j < 17 ∧ Sx.ErrAt H a (cs j) fs ∧ ∀ p H', Same H H' → H p = none → H' p = some (.lst (row j)) → Q (.ref p) H'
end Cl
namespace Cl.K81
open PySem PySem.Spec L2 PyProof.Rows
abbrev sRanks : Stmt := top 22
section
variable {P : Program} {w : World} {K : PySem.W.Frag} {mg : Str → Option Value} {base : Heap} {cs : Nat → Addr} {Clp : Addr}
theorem scRanks : FnScope ["_law_e", "_law_ranks_here"] ["_law_e"] (defScope sRanks) := ⟨rfl, rfl, rfl, by decide +kernel, rfl, by decide +kernel, by decide +kernel⟩
theorem ok_ranks {f : Addr} {fd : FuncData} (F : Fun K "_law_ranks" "_law_ranks" sRanks f fd) (Z : Errs K mg cs Clp) (hi : mg "isinstance" = none) : FnOk P w K mg base CX0 1 f fd ["_law_e"] (spRanks cs) := by
  refine F.ok scRanks (fun vs H Q E h => ?_) (fun cdv A outer s H vs Q E hr h => ?_)
  · obtain ⟨a, j, fs, rfl, _⟩ := h
    rfl
  · obtain ⟨a, j, fs, rfl, hj, er, k⟩ := h
    refine ⟨_, pss_cons (ps_set (i := 1) scRanks.nd rfl (.inl rfl) (pe_lst (pa_cons (pe_callB Sx.call_isV (by rfl) hi (by decide +kernel) (pa_cons (pv 0) (pa_cons (pe_glob (v := .ref (cs 0)) rfl (Z.gl 0 (by decide)) rfl) pa_nil))) (pa_cons (pe_callB Sx.call_isV (by rfl) hi (by decide +kernel) (pa_cons (pv 0) (pa_cons (pe_glob (v := .ref (cs 1)) rfl (Z.gl 1 (by decide)) rfl) pa_nil))) (pa_cons (pe_callB Sx.call_isV (by rfl) hi (by decide +kernel) (pa_cons (pv 0) (pa_cons (pe_glob (v := .ref (cs 2)) rfl (Z.gl 2 (by decide)) rfl) pa_nil))) (pa_cons (pe_callB Sx.call_isV (by rfl) hi (by decide +kernel) (pa_cons (pv 0) (pa_cons (pe_glob (v := .ref (cs 3)) rfl (Z.gl 3 (by decide)) rfl) pa_nil))) pa_nil))))))
      (pss_cons (ps_set (i := 1) scRanks.nd rfl (.inl rfl) (pe_op op_cat (pv 1) (pe_lst (pa_cons (pe_callB Sx.call_isV (by rfl) hi (by decide +kernel) (pa_cons (pv 0) (pa_cons (pe_glob (v := .ref (cs 4)) rfl (Z.gl 4 (by decide)) rfl) pa_nil))) (pa_cons (pe_callB Sx.call_isV (by rfl) hi (by decide +kernel) (pa_cons (pv 0) (pa_cons (pe_glob (v := .ref (cs 5)) rfl (Z.gl 5 (by decide)) rfl) pa_nil))) (pa_cons (pe_callB Sx.call_isV (by rfl) hi (by decide +kernel) (pa_cons (pv 0) (pa_cons (pe_glob (v := .ref (cs 6)) rfl (Z.gl 6 (by decide)) rfl) pa_nil))) (pa_cons (pe_callB Sx.call_isV (by rfl) hi (by decide +kernel) (pa_cons (pv 0) (pa_cons (pe_glob (v := .ref (cs 7)) rfl (Z.gl 7 (by decide)) rfl) pa_nil))) pa_nil)))))))
      (pss_cons (ps_set (i := 1) scRanks.nd rfl (.inl rfl) (pe_op op_cat (pv 1) (pe_lst (pa_cons (pe_callB Sx.call_isV (by rfl) hi (by decide +kernel) (pa_cons (pv 0) (pa_cons (pe_glob (v := .ref (cs 8)) rfl (Z.gl 8 (by decide)) rfl) pa_nil))) (pa_cons (pe_callB Sx.call_isV (by rfl) hi (by decide +kernel) (pa_cons (pv 0) (pa_cons (pe_glob (v := .ref (cs 9)) rfl (Z.gl 9 (by decide)) rfl) pa_nil))) (pa_cons (pe_callB Sx.call_isV (by rfl) hi (by decide +kernel) (pa_cons (pv 0) (pa_cons (pe_glob (v := .ref (cs 10)) rfl (Z.gl 10 (by decide)) rfl) pa_nil))) pa_nil))))))
      (pss_cons (ps_set (i := 1) scRanks.nd rfl (.inl rfl) (pe_op op_cat (pv 1) (pe_lst (pa_cons (pe_callB Sx.call_isV (by rfl) hi (by decide +kernel) (pa_cons (pv 0) (pa_cons (pe_glob (v := .ref (cs 11)) rfl (Z.gl 11 (by decide)) rfl) pa_nil))) (pa_cons (pe_callB Sx.call_isV (by rfl) hi (by decide +kernel) (pa_cons (pv 0) (pa_cons (pe_glob (v := .ref (cs 12)) rfl (Z.gl 12 (by decide)) rfl) pa_nil))) (pa_cons (pe_callB Sx.call_isV (by rfl) hi (by decide +kernel) (pa_cons (pv 0) (pa_cons (pe_glob (v := .ref (cs 13)) rfl (Z.gl 13 (by decide)) rfl) pa_nil))) (pa_cons (pe_callB Sx.call_isV (by rfl) hi (by decide +kernel) (pa_cons (pv 0) (pa_cons (pe_glob (v := .ref (cs 14)) rfl (Z.gl 14 (by decide)) rfl) pa_nil))) pa_nil)))))))
      (pss_one (ps_ret (pe_op op_cat (pv 1) (pe_lst (pa_cons (pe_callB Sx.call_isV (by rfl) hi (by decide +kernel) (pa_cons (pv 0) (pa_cons (pe_glob (v := .ref (cs 15)) rfl (Z.gl 15 (by decide)) rfl) pa_nil))) (pa_cons (pe_callB Sx.call_isV (by rfl) hi (by decide +kernel) (pa_cons (pv 0) (pa_cons (pe_glob (v := .ref (cs 16)) rfl (Z.gl 16 (by decide)) rfl) pa_nil))) pa_nil))))))))), ?_⟩
    refine ⟨_, rfl, a, cs j, fs, .ref (cs 0), .ref (cs 0), decide (0 = j), rfl, fun u r => r, er, Z.ec j hj, Z.kit j 0 hj (by decide), _, rfl, a, cs j, fs, .ref (cs 1), .ref (cs 1), decide (1 = j), rfl, fun u r => r, er, Z.ec j hj, Z.kit j 1 hj (by decide), _, rfl, a, cs j, fs, .ref (cs 2), .ref (cs 2), decide (2 = j), rfl, fun u r => r, er, Z.ec j hj, Z.kit j 2 hj (by decide), _, rfl, a, cs j, fs, .ref (cs 3), .ref (cs 3), decide (3 = j), rfl, fun u r => r, er, Z.ec j hj, Z.kit j 3 hj (by decide), (by show 4 ≤ sizeLine; decide), fun p0 n0 => ?_⟩
    have s0 : Same H (upd H p0 (.lst [V.bl (decide (0 = j)), V.bl (decide (1 = j)), V.bl (decide (2 = j)), V.bl (decide (3 = j))])) := same_new n0
    have h0 : (upd H p0 (.lst [V.bl (decide (0 = j)), V.bl (decide (1 = j)), V.bl (decide (2 = j)), V.bl (decide (3 = j))])) p0 = some (.lst [V.bl (decide (0 = j)), V.bl (decide (1 = j)), V.bl (decide (2 = j)), V.bl (decide (3 = j))]) := upd_same
    have er0 := err_same er s0
    generalize upd H p0 _ = H0 at s0 h0 er0
    refine ⟨_, rfl, _, rfl, a, cs j, fs, .ref (cs 4), .ref (cs 4), decide (4 = j), rfl, fun u r => r, er0, Z.ec j hj, Z.kit j 4 hj (by decide), _, rfl, a, cs j, fs, .ref (cs 5), .ref (cs 5), decide (5 = j), rfl, fun u r => r, er0, Z.ec j hj, Z.kit j 5 hj (by decide), _, rfl, a, cs j, fs, .ref (cs 6), .ref (cs 6), decide (6 = j), rfl, fun u r => r, er0, Z.ec j hj, Z.kit j 6 hj (by decide), _, rfl, a, cs j, fs, .ref (cs 7), .ref (cs 7), decide (7 = j), rfl, fun u r => r, er0, Z.ec j hj, Z.kit j 7 hj (by decide), (by show 4 ≤ sizeLine; decide), fun q1 m1 => ?_⟩
    have t1 : Same H0 (upd H0 q1 (.lst [V.bl (decide (4 = j)), V.bl (decide (5 = j)), V.bl (decide (6 = j)), V.bl (decide (7 = j))])) := same_new m1
    have g1 : (upd H0 q1 (.lst [V.bl (decide (4 = j)), V.bl (decide (5 = j)), V.bl (decide (6 = j)), V.bl (decide (7 = j))])) q1 = some (.lst [V.bl (decide (4 = j)), V.bl (decide (5 = j)), V.bl (decide (6 = j)), V.bl (decide (7 = j))]) := upd_same
    have h0b := t1 _ _ h0
    have er0b := err_same er0 t1
    generalize upd H0 q1 _ = G1 at t1 g1 h0b er0b
    refine ⟨p0, q1, _, _, rfl, rfl, h0b, g1, (by show 4 + 4 ≤ sizeLine; decide), fun p1 n1 => ?_⟩
    have s1 : Same H (upd G1 p1 (.lst ([V.bl (decide (0 = j)), V.bl (decide (1 = j)), V.bl (decide (2 = j)), V.bl (decide (3 = j))] ++ [V.bl (decide (4 = j)), V.bl (decide (5 = j)), V.bl (decide (6 = j)), V.bl (decide (7 = j))]))) := (s0.trans t1).trans (same_new n1)
    have h1 : (upd G1 p1 (.lst ([V.bl (decide (0 = j)), V.bl (decide (1 = j)), V.bl (decide (2 = j)), V.bl (decide (3 = j))] ++ [V.bl (decide (4 = j)), V.bl (decide (5 = j)), V.bl (decide (6 = j)), V.bl (decide (7 = j))]))) p1 = some (.lst [V.bl (decide (0 = j)), V.bl (decide (1 = j)), V.bl (decide (2 = j)), V.bl (decide (3 = j)), V.bl (decide (4 = j)), V.bl (decide (5 = j)), V.bl (decide (6 = j)), V.bl (decide (7 = j))]) := upd_same
    have er1 := err_same er s1
    generalize upd G1 p1 (.lst ([V.bl (decide (0 = j)), V.bl (decide (1 = j)), V.bl (decide (2 = j)), V.bl (decide (3 = j))] ++ [V.bl (decide (4 = j)), V.bl (decide (5 = j)), V.bl (decide (6 = j)), V.bl (decide (7 = j))])) = H1 at s1 h1 er1
    refine ⟨_, rfl, _, rfl, a, cs j, fs, .ref (cs 8), .ref (cs 8), decide (8 = j), rfl, fun u r => r, er1, Z.ec j hj, Z.kit j 8 hj (by decide), _, rfl, a, cs j, fs, .ref (cs 9), .ref (cs 9), decide (9 = j), rfl, fun u r => r, er1, Z.ec j hj, Z.kit j 9 hj (by decide), _, rfl, a, cs j, fs, .ref (cs 10), .ref (cs 10), decide (10 = j), rfl, fun u r => r, er1, Z.ec j hj, Z.kit j 10 hj (by decide), (by show 3 ≤ sizeLine; decide), fun q2 m2 => ?_⟩
    have t2 : Same H1 (upd H1 q2 (.lst [V.bl (decide (8 = j)), V.bl (decide (9 = j)), V.bl (decide (10 = j))])) := same_new m2
    have g2 : (upd H1 q2 (.lst [V.bl (decide (8 = j)), V.bl (decide (9 = j)), V.bl (decide (10 = j))])) q2 = some (.lst [V.bl (decide (8 = j)), V.bl (decide (9 = j)), V.bl (decide (10 = j))]) := upd_same
    have h1b := t2 _ _ h1
    have er1b := err_same er1 t2
    generalize upd H1 q2 _ = G2 at t2 g2 h1b er1b
    refine ⟨p1, q2, _, _, rfl, rfl, h1b, g2, (by show 8 + 3 ≤ sizeLine; decide), fun p2 n2 => ?_⟩
    have s2 : Same H (upd G2 p2 (.lst ([V.bl (decide (0 = j)), V.bl (decide (1 = j)), V.bl (decide (2 = j)), V.bl (decide (3 = j)), V.bl (decide (4 = j)), V.bl (decide (5 = j)), V.bl (decide (6 = j)), V.bl (decide (7 = j))] ++ [V.bl (decide (8 = j)), V.bl (decide (9 = j)), V.bl (decide (10 = j))]))) := (s1.trans t2).trans (same_new n2)
    have h2 : (upd G2 p2 (.lst ([V.bl (decide (0 = j)), V.bl (decide (1 = j)), V.bl (decide (2 = j)), V.bl (decide (3 = j)), V.bl (decide (4 = j)), V.bl (decide (5 = j)), V.bl (decide (6 = j)), V.bl (decide (7 = j))] ++ [V.bl (decide (8 = j)), V.bl (decide (9 = j)), V.bl (decide (10 = j))]))) p2 = some (.lst [V.bl (decide (0 = j)), V.bl (decide (1 = j)), V.bl (decide (2 = j)), V.bl (decide (3 = j)), V.bl (decide (4 = j)), V.bl (decide (5 = j)), V.bl (decide (6 = j)), V.bl (decide (7 = j)), V.bl (decide (8 = j)), V.bl (decide (9 = j)), V.bl (decide (10 = j))]) := upd_same
    have er2 := err_same er s2
    generalize upd G2 p2 (.lst ([V.bl (decide (0 = j)), V.bl (decide (1 = j)), V.bl (decide (2 = j)), V.bl (decide (3 = j)), V.bl (decide (4 = j)), V.bl (decide (5 = j)), V.bl (decide (6 = j)), V.bl (decide (7 = j))] ++ [V.bl (decide (8 = j)), V.bl (decide (9 = j)), V.bl (decide (10 = j))])) = H2 at s2 h2 er2
    refine ⟨_, rfl, _, rfl, a, cs j, fs, .ref (cs 11), .ref (cs 11), decide (11 = j), rfl, fun u r => r, er2, Z.ec j hj, Z.kit j 11 hj (by decide), _, rfl, a, cs j, fs, .ref (cs 12), .ref (cs 12), decide (12 = j), rfl, fun u r => r, er2, Z.ec j hj, Z.kit j 12 hj (by decide), _, rfl, a, cs j, fs, .ref (cs 13), .ref (cs 13), decide (13 = j), rfl, fun u r => r, er2, Z.ec j hj, Z.kit j 13 hj (by decide), _, rfl, a, cs j, fs, .ref (cs 14), .ref (cs 14), decide (14 = j), rfl, fun u r => r, er2, Z.ec j hj, Z.kit j 14 hj (by decide), (by show 4 ≤ sizeLine; decide), fun q3 m3 => ?_⟩
    have t3 : Same H2 (upd H2 q3 (.lst [V.bl (decide (11 = j)), V.bl (decide (12 = j)), V.bl (decide (13 = j)), V.bl (decide (14 = j))])) := same_new m3
    have g3 : (upd H2 q3 (.lst [V.bl (decide (11 = j)), V.bl (decide (12 = j)), V.bl (decide (13 = j)), V.bl (decide (14 = j))])) q3 = some (.lst [V.bl (decide (11 = j)), V.bl (decide (12 = j)), V.bl (decide (13 = j)), V.bl (decide (14 = j))]) := upd_same
    have h2b := t3 _ _ h2
    have er2b := err_same er2 t3
    generalize upd H2 q3 _ = G3 at t3 g3 h2b er2b
    refine ⟨p2, q3, _, _, rfl, rfl, h2b, g3, (by show 11 + 4 ≤ sizeLine; decide), fun p3 n3 => ?_⟩
    have s3 : Same H (upd G3 p3 (.lst ([V.bl (decide (0 = j)), V.bl (decide (1 = j)), V.bl (decide (2 = j)), V.bl (decide (3 = j)), V.bl (decide (4 = j)), V.bl (decide (5 = j)), V.bl (decide (6 = j)), V.bl (decide (7 = j)), V.bl (decide (8 = j)), V.bl (decide (9 = j)), V.bl (decide (10 = j))] ++ [V.bl (decide (11 = j)), V.bl (decide (12 = j)), V.bl (decide (13 = j)), V.bl (decide (14 = j))]))) := (s2.trans t3).trans (same_new n3)
    have h3 : (upd G3 p3 (.lst ([V.bl (decide (0 = j)), V.bl (decide (1 = j)), V.bl (decide (2 = j)), V.bl (decide (3 = j)), V.bl (decide (4 = j)), V.bl (decide (5 = j)), V.bl (decide (6 = j)), V.bl (decide (7 = j)), V.bl (decide (8 = j)), V.bl (decide (9 = j)), V.bl (decide (10 = j))] ++ [V.bl (decide (11 = j)), V.bl (decide (12 = j)), V.bl (decide (13 = j)), V.bl (decide (14 = j))]))) p3 = some (.lst [V.bl (decide (0 = j)), V.bl (decide (1 = j)), V.bl (decide (2 = j)), V.bl (decide (3 = j)), V.bl (decide (4 = j)), V.bl (decide (5 = j)), V.bl (decide (6 = j)), V.bl (decide (7 = j)), V.bl (decide (8 = j)), V.bl (decide (9 = j)), V.bl (decide (10 = j)), V.bl (decide (11 = j)), V.bl (decide (12 = j)), V.bl (decide (13 = j)), V.bl (decide (14 = j))]) := upd_same
    have er3 := err_same er s3
    generalize upd G3 p3 (.lst ([V.bl (decide (0 = j)), V.bl (decide (1 = j)), V.bl (decide (2 = j)), V.bl (decide (3 = j)), V.bl (decide (4 = j)), V.bl (decide (5 = j)), V.bl (decide (6 = j)), V.bl (decide (7 = j)), V.bl (decide (8 = j)), V.bl (decide (9 = j)), V.bl (decide (10 = j))] ++ [V.bl (decide (11 = j)), V.bl (decide (12 = j)), V.bl (decide (13 = j)), V.bl (decide (14 = j))])) = H3 at s3 h3 er3
    refine ⟨_, rfl, _, rfl, a, cs j, fs, .ref (cs 15), .ref (cs 15), decide (15 = j), rfl, fun u r => r, er3, Z.ec j hj, Z.kit j 15 hj (by decide), _, rfl, a, cs j, fs, .ref (cs 16), .ref (cs 16), decide (16 = j), rfl, fun u r => r, er3, Z.ec j hj, Z.kit j 16 hj (by decide), (by show 2 ≤ sizeLine; decide), fun q4 m4 => ?_⟩
    have t4 : Same H3 (upd H3 q4 (.lst [V.bl (decide (15 = j)), V.bl (decide (16 = j))])) := same_new m4
    have g4 : (upd H3 q4 (.lst [V.bl (decide (15 = j)), V.bl (decide (16 = j))])) q4 = some (.lst [V.bl (decide (15 = j)), V.bl (decide (16 = j))]) := upd_same
    have h3b := t4 _ _ h3
    have er3b := err_same er3 t4
    generalize upd H3 q4 _ = G4 at t4 g4 h3b er3b
    refine ⟨p3, q4, _, _, rfl, rfl, h3b, g4, (by show 15 + 2 ≤ sizeLine; decide), fun p4 n4 => ?_⟩
    exact k p4 _ ((s3.trans t4).trans (same_new n4)) (none_back (s3.trans t4) n4) upd_same
end
end Cl.K81
set_option Elab.async false
set_option linter.all false
set_option maxRecDepth 100000
set_option maxHeartbeats 4000000
namespace Cl
open PySem PySem.Spec L2 PyProof.Rows
theorem cut_lo (l : List Nat) {v : Int} (h : 0 ≤ v) : cutS (S l) (some v) none = S (l.drop v.toNat) := by
  unfold cutS
  rw [S_cps, S_len]
  have e1 : HT.sIx l.length 0 (some v) = min v.toNat l.length := by
    have z := HT.sIx_nat l.length 0 v.toNat
    rwa [Int.toNat_of_nonneg h] at z
  have e2 : HT.sIx l.length l.length none = l.length := rfl
  rw [e1, e2]
  show Str.mk _ = Str.mk _
  congr 2
  by_cases c : v.toNat ≤ l.length
  · rw [Nat.min_eq_left c]
    exact List.take_of_length_le (by rw [List.length_drop]; omega)
  · rw [Nat.min_eq_right (by omega), List.drop_length, List.drop_of_length_le (by omega)]
    simp
theorem cut_hi (l : List Nat) {v : Int} (h : 0 ≤ v) : cutS (S l) none (some v) = S (l.take v.toNat) := by
  unfold cutS
  rw [S_cps, S_len]
  have e1 : HT.sIx l.length l.length (some v) = min v.toNat l.length := by
    have z := HT.sIx_nat l.length l.length v.toNat
    rwa [Int.toNat_of_nonneg h] at z
  have e2 : HT.sIx l.length 0 none = 0 := rfl
  rw [e1, e2]
  show Str.mk _ = Str.mk _
  congr 2
  rw [List.drop_zero, Nat.sub_zero]
  by_cases c : v.toNat ≤ l.length
  · rw [Nat.min_eq_left c]
  · rw [Nat.min_eq_right (by omega), List.take_length, List.take_of_length_le (by omega)]
theorem cut_mid (l : List Nat) (m n : Nat) (h : m ≤ n) : cutS (S l) (some (m : Int)) (some (n : Int)) = S ((l.drop m).take (n - m)) := by
  unfold cutS
  rw [S_cps, S_len, HT.sIx_nat, HT.sIx_nat]
  show Str.mk _ = Str.mk _
  congr 2
  by_cases c : m ≤ l.length
  · rw [Nat.min_eq_left c]
    by_cases d : n ≤ l.length
    · rw [Nat.min_eq_left d]
    · rw [Nat.min_eq_right (by omega), List.take_of_length_le (by rw [List.length_drop]; omega), List.take_of_length_le (by rw [List.length_drop]; omega)]
  · rw [Nat.min_eq_right (by omega), Nat.min_eq_right (by omega), List.drop_of_length_le (by omega : l.length ≤ m)]
    simp
theorem same_made {H H' : Hp} {p dx C : Addr} (hp : H p = none) (hd : H dx = none) (k : Kp p (upd (upd H dx (.own p)) p (.ins C dx [])) H') : Same H H' := fun a o e => by
  have n := ne_of_none e hp
  refine k a o n ?_
  rw [upd_ne n, upd_ne (ne_of_none e hd)]
  exact e
section
variable {P : Program} {w : World} {K : PySem.W.Frag} {mg : Str → Option Value} {base : Heap}
structure LawG (P : Program) (w : World) (K : PySem.W.Frag) (mg : Str → Option Value) (base : Heap) (n : Nat) (x : Str) (ps : List Str) (sp : Sp) (f : Addr) (fd : FuncData) : Prop where
  ok : FnOk P w K mg base CX0 n f fd ps sp
  bd : Binds K fd ps []
  gl : mg x = some (.ref f)
  kp : PySem.W.keepIn K (.ref f) = true
end
end Cl
set_option Elab.async false
set_option linter.all false
set_option maxRecDepth 100000
set_option maxHeartbeats 8000000
namespace Cl.K81
open PySem PySem.Spec L2 PyProof.Rows
abbrev sLaw : Stmt := top 23
def spLaw (K : PySem.W.Frag) : Sp := fun vs H Q _ => ∃ (a : Addr) (ns : List Int), vs = [.ref a] ∧ SqL K H a (ns.map V.int) ∧ ∀ H', Q (.bl true) H'
abbrev nLaw : List Str := ["_law_script", "_law_bag_here", "_law_number", "_law_other", "_law_text", "_law_made", "_law_at", "_law_told", "_law_due", "_law_k"]
theorem scLaw : FnScope nLaw ["_law_script"] (defScope sLaw) := ⟨rfl, rfl, rfl, by decide +kernel, rfl, by decide +kernel, by decide +kernel⟩
/-- what making an error wants -/
structure MkE (P : Program) (w : World) (K : PySem.W.Frag) (mg : Str → Option Value) (base : Heap) (B g : Addr) (gd : FuncData) (ps : List Str) (sp : Sp) : Prop where
  T : OexC K B
  iC : PySem.W.findIn K (.ref B) "__init__" = some (some (.ref g))
  tI : PySem.W.typeIn K (.ref g) = some (.type "function")
  ok : FnOk P w K mg base CX0 1 g gd ps sp
  bd : Binds K gd ps []
section
variable {P : Program} {w : World} {K : PySem.W.Frag} {mg : Str → Option Value} {base : Heap} {cs : Nat → Addr} {Clp : Addr}
theorem dash45 : ("-" : Str) = S [45] := by decide +kernel
def litT : List Nat := [97, 98, 32, 99, 48, 65]
theorem lit_str : ("ab c0A" : Str) = S litT := by decide +kernel
theorem text_ok {n m : Int} (h0 : 0 ≤ n) (h1 : n < 5) : ((List.replicate n.toNat [45]).flatten ++ litT.take m.toNat).length ≤ 20 ∧ ∀ c ∈ (List.replicate n.toNat [45]).flatten ++ litT.take m.toNat, c < 1000 := by
  refine ⟨?_, fun c hc => ?_⟩
  · have e : (List.replicate n.toNat [45]).flatten.length ≤ 4 := by
      rw [List.length_flatten, List.map_replicate, List.sum_replicate_nat]
      show n.toNat * 1 ≤ 4
      omega
    rw [List.length_append, List.length_take]
    have : litT.length = 6 := rfl
    omega
  · rcases List.mem_append.mp hc with h | h
    · obtain ⟨x, hx, hc⟩ := List.mem_flatten.mp h
      rw [List.eq_of_mem_replicate hx, List.mem_singleton] at hc
      omega
    · have z : ∀ c ∈ litT, c < 1000 := by decide
      exact z c (List.mem_of_mem_take h)
theorem same_kp1 {H H' : Hp} {a : Addr} {o : HO} (n : H a = none) (k : Kp a (upd H a o) H') : Same H H' := fun b u e => by
  have nb := ne_of_none e n
  refine k b u nb ?_
  rw [upd_ne nb]
  exact e
theorem err_put {H : Hp} {a C p : Addr} {fs : List (Str × V)} {xs : List V} {o : HO} (e : Sx.ErrAt H a C fs) (h : H p = some (.lst xs)) : Sx.ErrAt (upd H p o) a C fs := by
  have no : ∀ {b : Addr} {φ : Heap → Prop}, H b = some (.ext φ) → b ≠ p := fun {b φ} hb z => by
    rw [z, h] at hb
    cases hb
  rcases e with ⟨rfl, ea⟩ | ⟨d, ea, ed⟩
  · exact .inl ⟨rfl, by rw [upd_ne (no ea)]; exact ea⟩
  · exact .inr ⟨d, by rw [upd_ne (no ea)]; exact ea, by rw [upd_ne (no ed)]; exact ed⟩
theorem dp_bools {K : PySem.W.Frag} {H : Hp} : ∀ bs : List Bool, DpAll K H (bs.map V.bl) (bs.map PyData.bool)
  | [] => .nil
  | b :: r => .cons (.bl b) (dp_bools r)
theorem lay_bools : ∀ bs : List Bool, PyData.canLayAll0 (bs.map PyData.bool) = true
  | [] => by simp [PyData.canLayAll0]
  | b :: r => by
    have ih := lay_bools r
    simp [PyData.canLayAll0, PyData.canLay0, ih]
theorem dep_bools : ∀ bs : List Bool, PyData.depthAll (bs.map PyData.bool) ≤ 1
  | [] => by simp [PyData.depthAll]
  | b :: r => by
    have ih := dep_bools r
    simp [PyData.depthAll, PyData.depth]
    omega
theorem shaped_bools (bs : List Bool) : SeqAt.shaped (.list (bs.map PyData.bool)) = true := by
  have h := dep_bools bs
  simp [SeqAt.shaped, PyData.canLay0, lay_bools, PyData.depth]
  omega
theorem row_bools (j : Nat) : row j = ((List.range 17).map fun k => decide (k = j)).map V.bl := by
  unfold row
  rw [List.map_map]
  rfl
theorem range_snoc (i j : Nat) : (List.range (i + 1)).map (fun k => V.bl (decide (k = j))) = (List.range i).map (fun k => V.bl (decide (k = j))) ++ [V.bl (decide (i = j))] := by
  rw [List.range_succ, List.map_append]
  rfl
theorem dec_nat (i j : Nat) : decide (V.int (0 + (i : Int)) = V.int (0 + (j : Int))) = decide (i = j) :=
  decide_eq_decide.mpr ⟨fun h => by
    injection h with h
    omega, fun h => by rw [h]⟩
theorem strOk_t {t : List Nat} (h : ∀ c ∈ t, c < 1000) : PyData.strOk (S t) = true := by
  unfold PyData.strOk
  rw [← Array.all_toList, S_cps]
  exact List.all_eq_true.mpr fun c hc => decide_eq_true (Nat.lt_of_lt_of_le (h c hc) (by decide))
theorem ok_law {f fB fT fR : Addr} {fd fdB fdT fdR : FuncData} (F : Fun K "law" "law" sLaw f fd)
    (GB : LawG P w K mg base 1 "_law_bag" ["_law_script"] (spBag K) fB fdB)
    (GT : LawG P w K mg base 1 "_law_take" ["_law_bag_here", "_law_size"] spTake fT fdT)
    (GR : LawG P w K mg base 1 "_law_ranks" ["_law_e"] (spRanks cs) fR fdR)
    (Z : Errs K mg cs Clp)
    {g0 : Addr} {gd0 : FuncData} (M0 : MkE P w K mg base (cs 0) g0 gd0 ["self", "part"] (spE1 (cs 0) "part"))
    {g1 : Addr} {gd1 : FuncData} (M1 : MkE P w K mg base (cs 1) g1 gd1 ["self", "word"] (spET (cs 1) "word"))
    {g2 : Addr} {gd2 : FuncData} (M2 : MkE P w K mg base (cs 2) g2 gd2 ["self", "what"] (spE1 (cs 2) "what"))
    {g3 : Addr} {gd3 : FuncData} (M3 : MkE P w K mg base (cs 3) g3 gd3 ["self", "stage", "what"] (spE2 (cs 3) "stage" "what"))
    {g4 : Addr} {gd4 : FuncData} (M4 : MkE P w K mg base (cs 4) g4 gd4 ["self", "place"] (spE1 (cs 4) "place"))
    {g5 : Addr} {gd5 : FuncData} (M5 : MkE P w K mg base (cs 5) g5 gd5 ["self", "place"] (spE1 (cs 5) "place"))
    {g6 : Addr} {gd6 : FuncData} (M6 : MkE P w K mg base (cs 6) g6 gd6 ["self"] (spE0 (cs 6)))
    {g7 : Addr} {gd7 : FuncData} (M7 : MkE P w K mg base (cs 7) g7 gd7 ["self", "number"] (spE1 (cs 7) "number"))
    {g8 : Addr} {gd8 : FuncData} (M8 : MkE P w K mg base (cs 8) g8 gd8 ["self", "limit"] (spE1 (cs 8) "asked"))
    {g9 : Addr} {gd9 : FuncData} (M9 : MkE P w K mg base (cs 9) g9 gd9 ["self", "number"] (spE1 (cs 9) "number"))
    {g10 : Addr} {gd10 : FuncData} (M10 : MkE P w K mg base (cs 10) g10 gd10 ["self", "word"] (spET (cs 10) "word"))
    {g11 : Addr} {gd11 : FuncData} (M11 : MkE P w K mg base (cs 11) g11 gd11 ["self", "fewest"] (spE1 (cs 11) "fewest"))
    {g12 : Addr} {gd12 : FuncData} (M12 : MkE P w K mg base (cs 12) g12 gd12 ["self", "number"] (spE1 (cs 12) "number"))
    {g13 : Addr} {gd13 : FuncData} (M13 : MkE P w K mg base (cs 13) g13 gd13 ["self", "number"] (spE1 (cs 13) "number"))
    {g14 : Addr} {gd14 : FuncData} (M14 : MkE P w K mg base (cs 14) g14 gd14 ["self", "way"] (spE1 (cs 14) "way"))
    {g15 : Addr} {gd15 : FuncData} (M15 : MkE P w K mg base (cs 15) g15 gd15 ["self", "index"] (spE1 (cs 15) "index"))
    {g16 : Addr} {gd16 : FuncData} (M16 : MkE P w K mg base (cs 16) g16 gd16 ["self", "one", "two"] (spE2 (cs 16) "one" "two"))
    (no0_part : PySem.W.findIn K (.ref (cs 0)) "part" = some none) (no1_word : PySem.W.findIn K (.ref (cs 1)) "word" = some none) (no2_what : PySem.W.findIn K (.ref (cs 2)) "what" = some none) (no3_stage : PySem.W.findIn K (.ref (cs 3)) "stage" = some none) (no3_what : PySem.W.findIn K (.ref (cs 3)) "what" = some none) (no4_place : PySem.W.findIn K (.ref (cs 4)) "place" = some none) (no5_place : PySem.W.findIn K (.ref (cs 5)) "place" = some none) (no7_number : PySem.W.findIn K (.ref (cs 7)) "number" = some none) (no8_asked : PySem.W.findIn K (.ref (cs 8)) "asked" = some none) (no9_number : PySem.W.findIn K (.ref (cs 9)) "number" = some none) (no10_word : PySem.W.findIn K (.ref (cs 10)) "word" = some none) (no11_fewest : PySem.W.findIn K (.ref (cs 11)) "fewest" = some none) (no12_number : PySem.W.findIn K (.ref (cs 12)) "number" = some none) (no13_number : PySem.W.findIn K (.ref (cs 13)) "number" = some none) (no14_way : PySem.W.findIn K (.ref (cs 14)) "way" = some none) (no15_index : PySem.W.findIn K (.ref (cs 15)) "index" = some none) (no16_one : PySem.W.findIn K (.ref (cs 16)) "one" = some none) (no16_two : PySem.W.findIn K (.ref (cs 16)) "two" = some none)
    (xf : ∀ k, k < 17 → XfC K (cs k)) (hi : mg "isinstance" = none) (hR : mg "range" = none) (hV : mg "ValueError" = none) : FnOk P w K mg base CX0 3 f fd ["_law_script"] (spLaw K) := by
  refine F.ok scLaw (fun vs H Q E h => ?_) (fun cdv A outer s H vs Q E hr h => ?_)
  · obtain ⟨a, ns, rfl, _⟩ := h
    rfl
  · obtain ⟨a, ns, rfl, hA, k⟩ := h
    have hr2 : Room 2 _ := hr
    have hr1 : Room 1 _ := hr.mono (by decide)
    refine ⟨_, (pss_cons (ps_set (i := 1) scLaw.nd rfl (.inl rfl) (pe_call GB.ok hr1 rfl GB.gl GB.kp GB.bd .nil pass0 (pa_cons (pv 0) pa_nil)))
      (pss_cons (ps_set (i := 2) scLaw.nd rfl (.inl rfl) (pe_op op_sub (pe_call GT.ok hr1 rfl GT.gl GT.kp GT.bd .nil pass0 (pa_cons (pv 1) (pa_cons (pe_op op_pow pe_int pe_int) pa_nil))) (pe_op op_pow pe_int pe_int)))
      (pss_cons (ps_set (i := 3) scLaw.nd rfl (.inl rfl) (pe_call GT.ok hr1 rfl GT.gl GT.kp GT.bd .nil pass0 (pa_cons (pv 1) (pa_cons (pe_op op_pow pe_int pe_int) pa_nil))))
      (pss_cons (ps_set (i := 4) scLaw.nd rfl (.inl rfl) (pe_op op_add_str (pe_op op_mulT pe_str (pe_call GT.ok hr1 rfl GT.gl GT.kp GT.bd .nil pass0 (pa_cons (pv 1) (pa_cons pe_int pa_nil)))) (pe_slice sl_str pe_str po_none (po_some (pe_call GT.ok hr1 rfl GT.gl GT.kp GT.bd .nil pass0 (pa_cons (pv 1) (pa_cons pe_int pa_nil)))))))
      (pss_cons (ps_set (i := 5) scLaw.nd rfl (.inl rfl) (pe_lst (pa_cons (Sx.pe_mkX (M0.T) (M0.iC) (M0.tI) (M0.ok) hr2 (M0.bd) pass0 rfl (Z.gl 0 (by decide)) (pa_cons (pv 4) pa_nil)) (pa_cons (Sx.pe_mkX (M1.T) (M1.iC) (M1.tI) (M1.ok) hr2 (M1.bd) pass0 rfl (Z.gl 1 (by decide)) (pa_cons (pv 4) pa_nil)) (pa_cons (Sx.pe_mkX (M2.T) (M2.iC) (M2.tI) (M2.ok) hr2 (M2.bd) pass0 rfl (Z.gl 2 (by decide)) (pa_cons (pv 4) pa_nil)) (pa_cons (Sx.pe_mkX (M3.T) (M3.iC) (M3.tI) (M3.ok) hr2 (M3.bd) pass0 rfl (Z.gl 3 (by decide)) (pa_cons (pv 2) (pa_cons (pv 4) pa_nil))) (pa_cons (Sx.pe_mkX (M4.T) (M4.iC) (M4.tI) (M4.ok) hr2 (M4.bd) pass0 rfl (Z.gl 4 (by decide)) (pa_cons (pv 2) pa_nil)) pa_nil)))))))
      (pss_cons (ps_set (i := 5) scLaw.nd rfl (.inl rfl) (pe_op op_cat (pv 5) (pe_lst (pa_cons (Sx.pe_mkX (M5.T) (M5.iC) (M5.tI) (M5.ok) hr2 (M5.bd) pass0 rfl (Z.gl 5 (by decide)) (pa_cons (pv 2) pa_nil)) (pa_cons (Sx.pe_mkX0 (M6.T) (M6.iC) (M6.tI) (M6.ok) hr2 (M6.bd) pass0 rfl (Z.gl 6 (by decide))) (pa_cons (Sx.pe_mkX (M7.T) (M7.iC) (M7.tI) (M7.ok) hr2 (M7.bd) pass0 rfl (Z.gl 7 (by decide)) (pa_cons (pv 2) pa_nil)) (pa_cons (Sx.pe_mkX (M8.T) (M8.iC) (M8.tI) (M8.ok) hr2 (M8.bd) pass0 rfl (Z.gl 8 (by decide)) (pa_cons (pv 2) pa_nil)) (pa_cons (Sx.pe_mkX (M9.T) (M9.iC) (M9.tI) (M9.ok) hr2 (M9.bd) pass0 rfl (Z.gl 9 (by decide)) (pa_cons (pv 2) pa_nil)) (pa_cons (Sx.pe_mkX (M10.T) (M10.iC) (M10.tI) (M10.ok) hr2 (M10.bd) pass0 rfl (Z.gl 10 (by decide)) (pa_cons (pv 4) pa_nil)) pa_nil)))))))))
      (pss_cons (ps_set (i := 5) scLaw.nd rfl (.inl rfl) (pe_op op_cat (pv 5) (pe_lst (pa_cons (Sx.pe_mkX (M11.T) (M11.iC) (M11.tI) (M11.ok) hr2 (M11.bd) pass0 rfl (Z.gl 11 (by decide)) (pa_cons (pv 2) pa_nil)) (pa_cons (Sx.pe_mkX (M12.T) (M12.iC) (M12.tI) (M12.ok) hr2 (M12.bd) pass0 rfl (Z.gl 12 (by decide)) (pa_cons (pv 2) pa_nil)) (pa_cons (Sx.pe_mkX (M13.T) (M13.iC) (M13.tI) (M13.ok) hr2 (M13.bd) pass0 rfl (Z.gl 13 (by decide)) (pa_cons (pv 2) pa_nil)) (pa_cons (Sx.pe_mkX (M14.T) (M14.iC) (M14.tI) (M14.ok) hr2 (M14.bd) pass0 rfl (Z.gl 14 (by decide)) (pa_cons (pv 4) pa_nil)) (pa_cons (Sx.pe_mkX (M15.T) (M15.iC) (M15.tI) (M15.ok) hr2 (M15.bd) pass0 rfl (Z.gl 15 (by decide)) (pa_cons (pv 2) pa_nil)) pa_nil))))))))
      (pss_cons (ps_expr (pe_bm PySem.F.plainAttrs_list PySem.F.slot_list_append PySem.F.type_list_append mt_append (pv 5) (pa_cons (Sx.pe_mkX (M16.T) (M16.iC) (M16.tI) (M16.ok) hr2 (M16.bd) pass0 rfl (Z.gl 16 (by decide)) (pa_cons (pv 2) (pa_cons (pv 3) pa_nil))) pa_nil)))
      (pss_cons (ps_for PassesOwn.never rfl (pi_range1 rfl hR (pa_cons pe_int pa_nil)) (pg_name (i := 6) scLaw.nd rfl (.inr rfl))
        (pss_cons (ps_if (pt_cmpR (op_neD hr.units) (pe_call GR.ok hr1 rfl GR.gl GR.kp GR.bd .nil pass0 (pa_cons (pe_ix ix_list (pv 5) (pv 6) (fun _ _ => rfl)) pa_nil)) (pe_lc (own := [("_law_k", 9)]) (g := gName 9) (tt := tYes) (te := tOp rEq (tVar 9) (tVar 6)) rfl scLaw.nd (pi_range1 rfl hR (pa_cons pe_int pa_nil)) (blkOk_by (N := nLaw) (sc := defScope sLaw) (by decide +kernel)) (fun _ _ _ _ _ => pg_name (i := 9) scLaw.nd rfl (Or.inl rfl)) (fun _ _ _ _ _ => pts_nil) (fun _ _ _ _ _ => pe_cmpR op_eq (pv 9) (pv 6) (nomark _))) (nomark _)) (pss_one (ps_ret pe_bl)) pss_nil)
        (pss_one (ps_if (PW.pt (pw_or (pt_not (pt_val (pe_callB Sx.call_isV (by rfl) hi (by decide +kernel) (pa_cons (pe_ix ix_list (pv 5) (pv 6) (fun _ _ => rfl)) (pa_cons (pe_glob (v := .ref Clp) rfl Z.gC rfl) pa_nil))))) (pw_or1 (pt_not (pt_val (pe_callB Sx.call_isV (by rfl) hi (by decide +kernel) (pa_cons (pe_ix ix_list (pv 5) (pv 6) (fun _ _ => rfl)) (pa_cons (pe_bltn (v := .ty "ValueError") (by rfl) hV (by decide +kernel) rfl) pa_nil)))))))) (pss_one (ps_ret pe_bl)) pss_nil))))
      (pss_cons (ps_set (i := 7) scLaw.nd rfl (.inl rfl) (pe_lst (pa_cons (Sx.pe_fldX (pe_ix ix_list (pv 5) pe_int (fun _ _ => rfl))) (pa_cons (Sx.pe_fldX (pe_ix ix_list (pv 5) pe_int (fun _ _ => rfl))) (pa_cons (Sx.pe_fldX (pe_ix ix_list (pv 5) pe_int (fun _ _ => rfl))) (pa_cons (Sx.pe_fldX (pe_ix ix_list (pv 5) pe_int (fun _ _ => rfl))) (pa_cons (Sx.pe_fldX (pe_ix ix_list (pv 5) pe_int (fun _ _ => rfl))) (pa_cons (Sx.pe_fldX (pe_ix ix_list (pv 5) pe_int (fun _ _ => rfl))) (pa_cons (Sx.pe_fldX (pe_ix ix_list (pv 5) pe_int (fun _ _ => rfl))) pa_nil)))))))))
      (pss_cons (ps_set (i := 7) scLaw.nd rfl (.inl rfl) (pe_op op_cat (pv 7) (pe_lst (pa_cons (Sx.pe_fldX (pe_ix ix_list (pv 5) pe_int (fun _ _ => rfl))) (pa_cons (Sx.pe_fldX (pe_ix ix_list (pv 5) pe_int (fun _ _ => rfl))) (pa_cons (Sx.pe_fldX (pe_ix ix_list (pv 5) pe_int (fun _ _ => rfl))) (pa_cons (Sx.pe_fldX (pe_ix ix_list (pv 5) pe_int (fun _ _ => rfl))) (pa_cons (Sx.pe_fldX (pe_ix ix_list (pv 5) pe_int (fun _ _ => rfl))) (pa_cons (Sx.pe_fldX (pe_ix ix_list (pv 5) pe_int (fun _ _ => rfl))) pa_nil)))))))))
      (pss_cons (ps_set (i := 7) scLaw.nd rfl (.inl rfl) (pe_op op_cat (pv 7) (pe_lst (pa_cons (Sx.pe_fldX (pe_ix ix_list (pv 5) pe_int (fun _ _ => rfl))) (pa_cons (Sx.pe_fldX (pe_ix ix_list (pv 5) pe_int (fun _ _ => rfl))) (pa_cons (Sx.pe_fldX (pe_ix ix_list (pv 5) pe_int (fun _ _ => rfl))) (pa_cons (Sx.pe_fldX (pe_ix ix_list (pv 5) pe_int (fun _ _ => rfl))) (pa_cons (Sx.pe_fldX (pe_ix ix_list (pv 5) pe_int (fun _ _ => rfl))) pa_nil))))))))
      (pss_cons (ps_set (i := 8) scLaw.nd rfl (.inl rfl) (pe_lst (pa_cons (pv 4) (pa_cons (pv 4) (pa_cons (pv 4) (pa_cons (pv 2) (pa_cons (pv 4) (pa_cons (pv 2) (pa_cons (pv 2) (pa_cons (pv 2) (pa_cons (pv 2) (pa_cons (pv 2) (pa_cons (pv 4) (pa_cons (pv 2) (pa_cons (pv 2) (pa_cons (pv 2) pa_nil))))))))))))))))
      (pss_one (ps_ret (pe_cmpR (op_eqD hr.units) (pv 7) (pe_op op_cat (pv 8) (pe_lst (pa_cons (pv 4) (pa_cons (pv 2) (pa_cons (pv 2) (pa_cons (pv 3) pa_nil)))))) (nomark _))))))))))))))))), ?_⟩
    refine ⟨_, rfl, a, ns, rfl, hA, fun b lb H1 nb nl s1 hb1 => ?_⟩
    refine ⟨_, rfl, _, _, rfl, rfl, ⟨by decide, by decide, by decide⟩, b, lb, 1000000, rfl, by decide, by decide, hb1, fun n1 H2 n10 n11 kp2 hb2 => ?_⟩
    refine ⟨_, _, rfl, rfl, ⟨by decide, by decide, by decide⟩, _, _, rfl, rfl, ?_⟩
    refine ⟨_, rfl, _, _, rfl, rfl, ⟨by decide, by decide, by decide⟩, b, lb, 1000000, rfl, by decide, by decide, hb2, fun n2 H3 n20 n21 kp3 hb3 => ?_⟩
    have okN : okArg (.int (n1 - 10 ^ (5 : Int).toNat)) := .inr ⟨_, rfl, by show (n1 - 100000).natAbs < 1000000000; omega⟩
    have okO : okArg (.int n2) := .inr ⟨_, rfl, by show n2.natAbs < 1000000000; omega⟩
    -- the text
    refine ⟨_, rfl, b, lb, 5, rfl, by decide, by decide, hb3, fun m1 H4 m10 m11 kp4 hb4 => ?_⟩
    refine ⟨[45], m1, by rw [dash45], rfl, m10, by omega, by decide, ?_⟩
    refine ⟨_, rfl, b, lb, 7, rfl, by decide, by decide, hb4, fun m2 H5 m20 m21 kp5 hb5 => ?_⟩
    rw [lit_str]
    refine ⟨_, rfl, S litT, rfl, le_S (by decide : _ ≤ 6), ?_⟩
    rw [cut_hi litT m20]
    have tx := text_ok m10 m11 (m := m2)
    refine ⟨_, _, rfl, rfl, ?_, ?_⟩
    · rw [S_len, S_len, ← List.length_append]; exact Nat.le_trans tx.1 (by decide)
    rw [S_app]
    generalize (List.replicate m1.toNat [45]).flatten ++ litT.take m2.toNat = t at tx
    obtain ⟨ht, hc⟩ := tx
    have okT : okArg (.str (S t)) := .inl ⟨t, rfl, ht, hc⟩
    refine ⟨_, rfl, (by show 1 ≤ 1000; decide), fun a0 n0_ => ⟨a0, _, rfl, upd_same, okT, fun d0 J0 k0_ x0 y0 => ⟨rfl, ?_⟩⟩⟩
    have s0_ : Same H5 J0 := same_kp1 n0_ k0_
    have e0_ : Sx.ErrAt J0 a0 (cs 0) [("part", V.str (S t))] := .inr ⟨d0, x0, y0⟩
    refine ⟨_, rfl, (by show 1 ≤ 1000; decide), fun a1 n1_ => ⟨a1, t, rfl, upd_same, ht, hc, fun d1 J1 k1_ x1 y1 => ⟨rfl, ?_⟩⟩⟩
    have s1_ : Same J0 J1 := same_kp1 n1_ k1_
    have e1_ : Sx.ErrAt J1 a1 (cs 1) [("word", V.str (S t))] := .inr ⟨d1, x1, y1⟩
    replace e0_ := err_same e0_ s1_
    refine ⟨_, rfl, (by show 1 ≤ 1000; decide), fun a2 n2_ => ⟨a2, _, rfl, upd_same, okT, fun d2 J2 k2_ x2 y2 => ⟨rfl, ?_⟩⟩⟩
    have s2_ : Same J1 J2 := same_kp1 n2_ k2_
    have e2_ : Sx.ErrAt J2 a2 (cs 2) [("what", V.str (S t))] := .inr ⟨d2, x2, y2⟩
    replace e0_ := err_same e0_ s2_
    replace e1_ := err_same e1_ s2_
    refine ⟨_, rfl, _, rfl, (by show 2 ≤ 1000; decide), fun a3 n3_ => ⟨a3, _, _, rfl, upd_same, okN, okT, fun d3 J3 k3_ x3 y3 => ⟨rfl, ?_⟩⟩⟩
    have s3_ : Same J2 J3 := same_kp1 n3_ k3_
    have e3_ : Sx.ErrAt J3 a3 (cs 3) [("what", V.str (S t)), ("stage", V.int (n1 - 10 ^ (5 : Int).toNat))] := .inr ⟨d3, x3, y3⟩
    replace e0_ := err_same e0_ s3_
    replace e1_ := err_same e1_ s3_
    replace e2_ := err_same e2_ s3_
    refine ⟨_, rfl, (by show 1 ≤ 1000; decide), fun a4 n4_ => ⟨a4, _, rfl, upd_same, okN, fun d4 J4 k4_ x4 y4 => ⟨rfl, ?_⟩⟩⟩
    have s4_ : Same J3 J4 := same_kp1 n4_ k4_
    have e4_ : Sx.ErrAt J4 a4 (cs 4) [("place", V.int (n1 - 10 ^ (5 : Int).toNat))] := .inr ⟨d4, x4, y4⟩
    replace e0_ := err_same e0_ s4_
    replace e1_ := err_same e1_ s4_
    replace e2_ := err_same e2_ s4_
    replace e3_ := err_same e3_ s4_
    refine ⟨(by show 5 ≤ sizeLine; decide), fun p1 np1 => ?_⟩
    have sLp1 : Same J4 (upd J4 p1 (.lst [V.ref a0, V.ref a1, V.ref a2, V.ref a3, V.ref a4])) := same_new np1
    have hLp1 : (upd J4 p1 (.lst [V.ref a0, V.ref a1, V.ref a2, V.ref a3, V.ref a4])) p1 = some (.lst [V.ref a0, V.ref a1, V.ref a2, V.ref a3, V.ref a4]) := upd_same
    generalize upd J4 p1 (.lst [V.ref a0, V.ref a1, V.ref a2, V.ref a3, V.ref a4]) = L1 at sLp1 hLp1
    replace e0_ := err_same e0_ sLp1
    replace e1_ := err_same e1_ sLp1
    replace e2_ := err_same e2_ sLp1
    replace e3_ := err_same e3_ sLp1
    replace e4_ := err_same e4_ sLp1
    refine ⟨_, rfl, _, rfl, (by show 1 ≤ 1000; decide), fun a5 n5_ => ⟨a5, _, rfl, upd_same, okN, fun d5 J5 k5_ x5 y5 => ⟨rfl, ?_⟩⟩⟩
    have s5_ : Same L1 J5 := same_kp1 n5_ k5_
    have e5_ : Sx.ErrAt J5 a5 (cs 5) [("place", V.int (n1 - 10 ^ (5 : Int).toNat))] := .inr ⟨d5, x5, y5⟩
    replace e0_ := err_same e0_ s5_
    replace e1_ := err_same e1_ s5_
    replace e2_ := err_same e2_ s5_
    replace e3_ := err_same e3_ s5_
    replace e4_ := err_same e4_ s5_
    replace hLp1 := s5_ _ _ hLp1
    refine ⟨(by show 0 ≤ 1000; decide), fun a6 n6_ => ⟨a6, rfl, upd_same, rfl, ?_⟩⟩
    have s6_ : Same J5 (upd J5 a6 (exo a6 (cs 6) none)) := same_new n6_
    have e6_ : Sx.ErrAt (upd J5 a6 (exo a6 (cs 6) none)) a6 (cs 6) [] := .inl ⟨rfl, upd_same⟩
    generalize upd J5 a6 (exo a6 (cs 6) none) = J6 at s6_ e6_
    replace e0_ := err_same e0_ s6_
    replace e1_ := err_same e1_ s6_
    replace e2_ := err_same e2_ s6_
    replace e3_ := err_same e3_ s6_
    replace e4_ := err_same e4_ s6_
    replace e5_ := err_same e5_ s6_
    replace hLp1 := s6_ _ _ hLp1
    refine ⟨_, rfl, (by show 1 ≤ 1000; decide), fun a7 n7_ => ⟨a7, _, rfl, upd_same, okN, fun d7 J7 k7_ x7 y7 => ⟨rfl, ?_⟩⟩⟩
    have s7_ : Same J6 J7 := same_kp1 n7_ k7_
    have e7_ : Sx.ErrAt J7 a7 (cs 7) [("number", V.int (n1 - 10 ^ (5 : Int).toNat))] := .inr ⟨d7, x7, y7⟩
    replace e0_ := err_same e0_ s7_
    replace e1_ := err_same e1_ s7_
    replace e2_ := err_same e2_ s7_
    replace e3_ := err_same e3_ s7_
    replace e4_ := err_same e4_ s7_
    replace e5_ := err_same e5_ s7_
    replace e6_ := err_same e6_ s7_
    replace hLp1 := s7_ _ _ hLp1
    refine ⟨_, rfl, (by show 1 ≤ 1000; decide), fun a8 n8_ => ⟨a8, _, rfl, upd_same, okN, fun d8 J8 k8_ x8 y8 => ⟨rfl, ?_⟩⟩⟩
    have s8_ : Same J7 J8 := same_kp1 n8_ k8_
    have e8_ : Sx.ErrAt J8 a8 (cs 8) [("asked", V.int (n1 - 10 ^ (5 : Int).toNat))] := .inr ⟨d8, x8, y8⟩
    replace e0_ := err_same e0_ s8_
    replace e1_ := err_same e1_ s8_
    replace e2_ := err_same e2_ s8_
    replace e3_ := err_same e3_ s8_
    replace e4_ := err_same e4_ s8_
    replace e5_ := err_same e5_ s8_
    replace e6_ := err_same e6_ s8_
    replace e7_ := err_same e7_ s8_
    replace hLp1 := s8_ _ _ hLp1
    refine ⟨_, rfl, (by show 1 ≤ 1000; decide), fun a9 n9_ => ⟨a9, _, rfl, upd_same, okN, fun d9 J9 k9_ x9 y9 => ⟨rfl, ?_⟩⟩⟩
    have s9_ : Same J8 J9 := same_kp1 n9_ k9_
    have e9_ : Sx.ErrAt J9 a9 (cs 9) [("number", V.int (n1 - 10 ^ (5 : Int).toNat))] := .inr ⟨d9, x9, y9⟩
    replace e0_ := err_same e0_ s9_
    replace e1_ := err_same e1_ s9_
    replace e2_ := err_same e2_ s9_
    replace e3_ := err_same e3_ s9_
    replace e4_ := err_same e4_ s9_
    replace e5_ := err_same e5_ s9_
    replace e6_ := err_same e6_ s9_
    replace e7_ := err_same e7_ s9_
    replace e8_ := err_same e8_ s9_
    replace hLp1 := s9_ _ _ hLp1
    refine ⟨_, rfl, (by show 1 ≤ 1000; decide), fun a10 n10_ => ⟨a10, t, rfl, upd_same, ht, hc, fun d10 J10 k10_ x10 y10 => ⟨rfl, ?_⟩⟩⟩
    have s10_ : Same J9 J10 := same_kp1 n10_ k10_
    have e10_ : Sx.ErrAt J10 a10 (cs 10) [("word", V.str (S t))] := .inr ⟨d10, x10, y10⟩
    replace e0_ := err_same e0_ s10_
    replace e1_ := err_same e1_ s10_
    replace e2_ := err_same e2_ s10_
    replace e3_ := err_same e3_ s10_
    replace e4_ := err_same e4_ s10_
    replace e5_ := err_same e5_ s10_
    replace e6_ := err_same e6_ s10_
    replace e7_ := err_same e7_ s10_
    replace e8_ := err_same e8_ s10_
    replace e9_ := err_same e9_ s10_
    replace hLp1 := s10_ _ _ hLp1
    refine ⟨(by show 6 ≤ sizeLine; decide), fun q2 nq2 => ?_⟩
    have sLq2 : Same J10 (upd J10 q2 (.lst [V.ref a5, V.ref a6, V.ref a7, V.ref a8, V.ref a9, V.ref a10])) := same_new nq2
    have hLq2 : (upd J10 q2 (.lst [V.ref a5, V.ref a6, V.ref a7, V.ref a8, V.ref a9, V.ref a10])) q2 = some (.lst [V.ref a5, V.ref a6, V.ref a7, V.ref a8, V.ref a9, V.ref a10]) := upd_same
    generalize upd J10 q2 (.lst [V.ref a5, V.ref a6, V.ref a7, V.ref a8, V.ref a9, V.ref a10]) = L2q at sLq2 hLq2
    replace e0_ := err_same e0_ sLq2
    replace e1_ := err_same e1_ sLq2
    replace e2_ := err_same e2_ sLq2
    replace e3_ := err_same e3_ sLq2
    replace e4_ := err_same e4_ sLq2
    replace e5_ := err_same e5_ sLq2
    replace e6_ := err_same e6_ sLq2
    replace e7_ := err_same e7_ sLq2
    replace e8_ := err_same e8_ sLq2
    replace e9_ := err_same e9_ sLq2
    replace e10_ := err_same e10_ sLq2
    replace hLp1 := sLq2 _ _ hLp1
    refine ⟨p1, q2, _, _, rfl, rfl, hLp1, hLq2, (by show 5 + 6 ≤ sizeLine; decide), fun p2 np2 => ?_⟩
    have sLp2 : Same L2q (upd L2q p2 (.lst ([V.ref a0, V.ref a1, V.ref a2, V.ref a3, V.ref a4] ++ [V.ref a5, V.ref a6, V.ref a7, V.ref a8, V.ref a9, V.ref a10]))) := same_new np2
    have hLp2 : (upd L2q p2 (.lst ([V.ref a0, V.ref a1, V.ref a2, V.ref a3, V.ref a4] ++ [V.ref a5, V.ref a6, V.ref a7, V.ref a8, V.ref a9, V.ref a10]))) p2 = some (.lst [V.ref a0, V.ref a1, V.ref a2, V.ref a3, V.ref a4, V.ref a5, V.ref a6, V.ref a7, V.ref a8, V.ref a9, V.ref a10]) := upd_same
    generalize upd L2q p2 (.lst ([V.ref a0, V.ref a1, V.ref a2, V.ref a3, V.ref a4] ++ [V.ref a5, V.ref a6, V.ref a7, V.ref a8, V.ref a9, V.ref a10])) = L2 at sLp2 hLp2
    replace e0_ := err_same e0_ sLp2
    replace e1_ := err_same e1_ sLp2
    replace e2_ := err_same e2_ sLp2
    replace e3_ := err_same e3_ sLp2
    replace e4_ := err_same e4_ sLp2
    replace e5_ := err_same e5_ sLp2
    replace e6_ := err_same e6_ sLp2
    replace e7_ := err_same e7_ sLp2
    replace e8_ := err_same e8_ sLp2
    replace e9_ := err_same e9_ sLp2
    replace e10_ := err_same e10_ sLp2
    replace hLp1 := sLp2 _ _ hLp1
    replace hLq2 := sLp2 _ _ hLq2
    refine ⟨_, rfl, _, rfl, (by show 1 ≤ 1000; decide), fun a11 n11_ => ⟨a11, _, rfl, upd_same, okN, fun d11 J11 k11_ x11 y11 => ⟨rfl, ?_⟩⟩⟩
    have s11_ : Same L2 J11 := same_kp1 n11_ k11_
    have e11_ : Sx.ErrAt J11 a11 (cs 11) [("fewest", V.int (n1 - 10 ^ (5 : Int).toNat))] := .inr ⟨d11, x11, y11⟩
    replace e0_ := err_same e0_ s11_
    replace e1_ := err_same e1_ s11_
    replace e2_ := err_same e2_ s11_
    replace e3_ := err_same e3_ s11_
    replace e4_ := err_same e4_ s11_
    replace e5_ := err_same e5_ s11_
    replace e6_ := err_same e6_ s11_
    replace e7_ := err_same e7_ s11_
    replace e8_ := err_same e8_ s11_
    replace e9_ := err_same e9_ s11_
    replace e10_ := err_same e10_ s11_
    replace hLp1 := s11_ _ _ hLp1
    replace hLq2 := s11_ _ _ hLq2
    replace hLp2 := s11_ _ _ hLp2
    refine ⟨_, rfl, (by show 1 ≤ 1000; decide), fun a12 n12_ => ⟨a12, _, rfl, upd_same, okN, fun d12 J12 k12_ x12 y12 => ⟨rfl, ?_⟩⟩⟩
    have s12_ : Same J11 J12 := same_kp1 n12_ k12_
    have e12_ : Sx.ErrAt J12 a12 (cs 12) [("number", V.int (n1 - 10 ^ (5 : Int).toNat))] := .inr ⟨d12, x12, y12⟩
    replace e0_ := err_same e0_ s12_
    replace e1_ := err_same e1_ s12_
    replace e2_ := err_same e2_ s12_
    replace e3_ := err_same e3_ s12_
    replace e4_ := err_same e4_ s12_
    replace e5_ := err_same e5_ s12_
    replace e6_ := err_same e6_ s12_
    replace e7_ := err_same e7_ s12_
    replace e8_ := err_same e8_ s12_
    replace e9_ := err_same e9_ s12_
    replace e10_ := err_same e10_ s12_
    replace e11_ := err_same e11_ s12_
    replace hLp1 := s12_ _ _ hLp1
    replace hLq2 := s12_ _ _ hLq2
    replace hLp2 := s12_ _ _ hLp2
    refine ⟨_, rfl, (by show 1 ≤ 1000; decide), fun a13 n13_ => ⟨a13, _, rfl, upd_same, okN, fun d13 J13 k13_ x13 y13 => ⟨rfl, ?_⟩⟩⟩
    have s13_ : Same J12 J13 := same_kp1 n13_ k13_
    have e13_ : Sx.ErrAt J13 a13 (cs 13) [("number", V.int (n1 - 10 ^ (5 : Int).toNat))] := .inr ⟨d13, x13, y13⟩
    replace e0_ := err_same e0_ s13_
    replace e1_ := err_same e1_ s13_
    replace e2_ := err_same e2_ s13_
    replace e3_ := err_same e3_ s13_
    replace e4_ := err_same e4_ s13_
    replace e5_ := err_same e5_ s13_
    replace e6_ := err_same e6_ s13_
    replace e7_ := err_same e7_ s13_
    replace e8_ := err_same e8_ s13_
    replace e9_ := err_same e9_ s13_
    replace e10_ := err_same e10_ s13_
    replace e11_ := err_same e11_ s13_
    replace e12_ := err_same e12_ s13_
    replace hLp1 := s13_ _ _ hLp1
    replace hLq2 := s13_ _ _ hLq2
    replace hLp2 := s13_ _ _ hLp2
    refine ⟨_, rfl, (by show 1 ≤ 1000; decide), fun a14 n14_ => ⟨a14, _, rfl, upd_same, okT, fun d14 J14 k14_ x14 y14 => ⟨rfl, ?_⟩⟩⟩
    have s14_ : Same J13 J14 := same_kp1 n14_ k14_
    have e14_ : Sx.ErrAt J14 a14 (cs 14) [("way", V.str (S t))] := .inr ⟨d14, x14, y14⟩
    replace e0_ := err_same e0_ s14_
    replace e1_ := err_same e1_ s14_
    replace e2_ := err_same e2_ s14_
    replace e3_ := err_same e3_ s14_
    replace e4_ := err_same e4_ s14_
    replace e5_ := err_same e5_ s14_
    replace e6_ := err_same e6_ s14_
    replace e7_ := err_same e7_ s14_
    replace e8_ := err_same e8_ s14_
    replace e9_ := err_same e9_ s14_
    replace e10_ := err_same e10_ s14_
    replace e11_ := err_same e11_ s14_
    replace e12_ := err_same e12_ s14_
    replace e13_ := err_same e13_ s14_
    replace hLp1 := s14_ _ _ hLp1
    replace hLq2 := s14_ _ _ hLq2
    replace hLp2 := s14_ _ _ hLp2
    refine ⟨_, rfl, (by show 1 ≤ 1000; decide), fun a15 n15_ => ⟨a15, _, rfl, upd_same, okN, fun d15 J15 k15_ x15 y15 => ⟨rfl, ?_⟩⟩⟩
    have s15_ : Same J14 J15 := same_kp1 n15_ k15_
    have e15_ : Sx.ErrAt J15 a15 (cs 15) [("index", V.int (n1 - 10 ^ (5 : Int).toNat))] := .inr ⟨d15, x15, y15⟩
    replace e0_ := err_same e0_ s15_
    replace e1_ := err_same e1_ s15_
    replace e2_ := err_same e2_ s15_
    replace e3_ := err_same e3_ s15_
    replace e4_ := err_same e4_ s15_
    replace e5_ := err_same e5_ s15_
    replace e6_ := err_same e6_ s15_
    replace e7_ := err_same e7_ s15_
    replace e8_ := err_same e8_ s15_
    replace e9_ := err_same e9_ s15_
    replace e10_ := err_same e10_ s15_
    replace e11_ := err_same e11_ s15_
    replace e12_ := err_same e12_ s15_
    replace e13_ := err_same e13_ s15_
    replace e14_ := err_same e14_ s15_
    replace hLp1 := s15_ _ _ hLp1
    replace hLq2 := s15_ _ _ hLq2
    replace hLp2 := s15_ _ _ hLp2
    refine ⟨(by show 5 ≤ sizeLine; decide), fun q3 nq3 => ?_⟩
    have sLq3 : Same J15 (upd J15 q3 (.lst [V.ref a11, V.ref a12, V.ref a13, V.ref a14, V.ref a15])) := same_new nq3
    have hLq3 : (upd J15 q3 (.lst [V.ref a11, V.ref a12, V.ref a13, V.ref a14, V.ref a15])) q3 = some (.lst [V.ref a11, V.ref a12, V.ref a13, V.ref a14, V.ref a15]) := upd_same
    generalize upd J15 q3 (.lst [V.ref a11, V.ref a12, V.ref a13, V.ref a14, V.ref a15]) = L3q at sLq3 hLq3
    replace e0_ := err_same e0_ sLq3
    replace e1_ := err_same e1_ sLq3
    replace e2_ := err_same e2_ sLq3
    replace e3_ := err_same e3_ sLq3
    replace e4_ := err_same e4_ sLq3
    replace e5_ := err_same e5_ sLq3
    replace e6_ := err_same e6_ sLq3
    replace e7_ := err_same e7_ sLq3
    replace e8_ := err_same e8_ sLq3
    replace e9_ := err_same e9_ sLq3
    replace e10_ := err_same e10_ sLq3
    replace e11_ := err_same e11_ sLq3
    replace e12_ := err_same e12_ sLq3
    replace e13_ := err_same e13_ sLq3
    replace e14_ := err_same e14_ sLq3
    replace e15_ := err_same e15_ sLq3
    replace hLp1 := sLq3 _ _ hLp1
    replace hLq2 := sLq3 _ _ hLq2
    replace hLp2 := sLq3 _ _ hLp2
    refine ⟨p2, q3, _, _, rfl, rfl, hLp2, hLq3, (by show 11 + 5 ≤ sizeLine; decide), fun p3 np3 => ?_⟩
    have sLp3 : Same L3q (upd L3q p3 (.lst ([V.ref a0, V.ref a1, V.ref a2, V.ref a3, V.ref a4, V.ref a5, V.ref a6, V.ref a7, V.ref a8, V.ref a9, V.ref a10] ++ [V.ref a11, V.ref a12, V.ref a13, V.ref a14, V.ref a15]))) := same_new np3
    have hLp3 : (upd L3q p3 (.lst ([V.ref a0, V.ref a1, V.ref a2, V.ref a3, V.ref a4, V.ref a5, V.ref a6, V.ref a7, V.ref a8, V.ref a9, V.ref a10] ++ [V.ref a11, V.ref a12, V.ref a13, V.ref a14, V.ref a15]))) p3 = some (.lst [V.ref a0, V.ref a1, V.ref a2, V.ref a3, V.ref a4, V.ref a5, V.ref a6, V.ref a7, V.ref a8, V.ref a9, V.ref a10, V.ref a11, V.ref a12, V.ref a13, V.ref a14, V.ref a15]) := upd_same
    generalize upd L3q p3 (.lst ([V.ref a0, V.ref a1, V.ref a2, V.ref a3, V.ref a4, V.ref a5, V.ref a6, V.ref a7, V.ref a8, V.ref a9, V.ref a10] ++ [V.ref a11, V.ref a12, V.ref a13, V.ref a14, V.ref a15])) = L3 at sLp3 hLp3
    replace e0_ := err_same e0_ sLp3
    replace e1_ := err_same e1_ sLp3
    replace e2_ := err_same e2_ sLp3
    replace e3_ := err_same e3_ sLp3
    replace e4_ := err_same e4_ sLp3
    replace e5_ := err_same e5_ sLp3
    replace e6_ := err_same e6_ sLp3
    replace e7_ := err_same e7_ sLp3
    replace e8_ := err_same e8_ sLp3
    replace e9_ := err_same e9_ sLp3
    replace e10_ := err_same e10_ sLp3
    replace e11_ := err_same e11_ sLp3
    replace e12_ := err_same e12_ sLp3
    replace e13_ := err_same e13_ sLp3
    replace e14_ := err_same e14_ sLp3
    replace e15_ := err_same e15_ sLp3
    replace hLp1 := sLp3 _ _ hLp1
    replace hLq2 := sLp3 _ _ hLq2
    replace hLp2 := sLp3 _ _ hLp2
    replace hLq3 := sLp3 _ _ hLq3
    refine ⟨_, rfl, .inl ⟨rfl, _, SqL.of hLp3⟩, _, rfl, _, rfl, (by show 2 ≤ 1000; decide), fun a16 n16_ => ⟨a16, _, _, rfl, upd_same, okN, okO, fun d16 J16 k16_ x16 y16 => ⟨rfl, ?_⟩⟩⟩
    have s16_ : Same L3 J16 := same_kp1 n16_ k16_
    have e16_ : Sx.ErrAt J16 a16 (cs 16) [("two", V.int n2), ("one", V.int (n1 - 10 ^ (5 : Int).toNat))] := .inr ⟨d16, x16, y16⟩
    replace e0_ := err_same e0_ s16_
    replace e1_ := err_same e1_ s16_
    replace e2_ := err_same e2_ s16_
    replace e3_ := err_same e3_ s16_
    replace e4_ := err_same e4_ s16_
    replace e5_ := err_same e5_ s16_
    replace e6_ := err_same e6_ s16_
    replace e7_ := err_same e7_ s16_
    replace e8_ := err_same e8_ s16_
    replace e9_ := err_same e9_ s16_
    replace e10_ := err_same e10_ s16_
    replace e11_ := err_same e11_ s16_
    replace e12_ := err_same e12_ s16_
    replace e13_ := err_same e13_ s16_
    replace e14_ := err_same e14_ s16_
    replace e15_ := err_same e15_ s16_
    replace hLp1 := s16_ _ _ hLp1
    replace hLq2 := s16_ _ _ hLq2
    replace hLp2 := s16_ _ _ hLp2
    replace hLq3 := s16_ _ _ hLq3
    replace hLp3 := s16_ _ _ hLp3
    refine ⟨p3, _, _, rfl, rfl, hLp3, (by show 16 < sizeLine; decide), ?_⟩
    have hM : (upd J16 p3 (.lst ([V.ref a0, V.ref a1, V.ref a2, V.ref a3, V.ref a4, V.ref a5, V.ref a6, V.ref a7, V.ref a8, V.ref a9, V.ref a10, V.ref a11, V.ref a12, V.ref a13, V.ref a14, V.ref a15] ++ [V.ref a16]))) p3 = some (.lst [V.ref a0, V.ref a1, V.ref a2, V.ref a3, V.ref a4, V.ref a5, V.ref a6, V.ref a7, V.ref a8, V.ref a9, V.ref a10, V.ref a11, V.ref a12, V.ref a13, V.ref a14, V.ref a15, V.ref a16]) := upd_same
    replace e0_ := err_put e0_ hLp3 (o := .lst ([V.ref a0, V.ref a1, V.ref a2, V.ref a3, V.ref a4, V.ref a5, V.ref a6, V.ref a7, V.ref a8, V.ref a9, V.ref a10, V.ref a11, V.ref a12, V.ref a13, V.ref a14, V.ref a15] ++ [V.ref a16]))
    replace e1_ := err_put e1_ hLp3 (o := .lst ([V.ref a0, V.ref a1, V.ref a2, V.ref a3, V.ref a4, V.ref a5, V.ref a6, V.ref a7, V.ref a8, V.ref a9, V.ref a10, V.ref a11, V.ref a12, V.ref a13, V.ref a14, V.ref a15] ++ [V.ref a16]))
    replace e2_ := err_put e2_ hLp3 (o := .lst ([V.ref a0, V.ref a1, V.ref a2, V.ref a3, V.ref a4, V.ref a5, V.ref a6, V.ref a7, V.ref a8, V.ref a9, V.ref a10, V.ref a11, V.ref a12, V.ref a13, V.ref a14, V.ref a15] ++ [V.ref a16]))
    replace e3_ := err_put e3_ hLp3 (o := .lst ([V.ref a0, V.ref a1, V.ref a2, V.ref a3, V.ref a4, V.ref a5, V.ref a6, V.ref a7, V.ref a8, V.ref a9, V.ref a10, V.ref a11, V.ref a12, V.ref a13, V.ref a14, V.ref a15] ++ [V.ref a16]))
    replace e4_ := err_put e4_ hLp3 (o := .lst ([V.ref a0, V.ref a1, V.ref a2, V.ref a3, V.ref a4, V.ref a5, V.ref a6, V.ref a7, V.ref a8, V.ref a9, V.ref a10, V.ref a11, V.ref a12, V.ref a13, V.ref a14, V.ref a15] ++ [V.ref a16]))
    replace e5_ := err_put e5_ hLp3 (o := .lst ([V.ref a0, V.ref a1, V.ref a2, V.ref a3, V.ref a4, V.ref a5, V.ref a6, V.ref a7, V.ref a8, V.ref a9, V.ref a10, V.ref a11, V.ref a12, V.ref a13, V.ref a14, V.ref a15] ++ [V.ref a16]))
    replace e6_ := err_put e6_ hLp3 (o := .lst ([V.ref a0, V.ref a1, V.ref a2, V.ref a3, V.ref a4, V.ref a5, V.ref a6, V.ref a7, V.ref a8, V.ref a9, V.ref a10, V.ref a11, V.ref a12, V.ref a13, V.ref a14, V.ref a15] ++ [V.ref a16]))
    replace e7_ := err_put e7_ hLp3 (o := .lst ([V.ref a0, V.ref a1, V.ref a2, V.ref a3, V.ref a4, V.ref a5, V.ref a6, V.ref a7, V.ref a8, V.ref a9, V.ref a10, V.ref a11, V.ref a12, V.ref a13, V.ref a14, V.ref a15] ++ [V.ref a16]))
    replace e8_ := err_put e8_ hLp3 (o := .lst ([V.ref a0, V.ref a1, V.ref a2, V.ref a3, V.ref a4, V.ref a5, V.ref a6, V.ref a7, V.ref a8, V.ref a9, V.ref a10, V.ref a11, V.ref a12, V.ref a13, V.ref a14, V.ref a15] ++ [V.ref a16]))
    replace e9_ := err_put e9_ hLp3 (o := .lst ([V.ref a0, V.ref a1, V.ref a2, V.ref a3, V.ref a4, V.ref a5, V.ref a6, V.ref a7, V.ref a8, V.ref a9, V.ref a10, V.ref a11, V.ref a12, V.ref a13, V.ref a14, V.ref a15] ++ [V.ref a16]))
    replace e10_ := err_put e10_ hLp3 (o := .lst ([V.ref a0, V.ref a1, V.ref a2, V.ref a3, V.ref a4, V.ref a5, V.ref a6, V.ref a7, V.ref a8, V.ref a9, V.ref a10, V.ref a11, V.ref a12, V.ref a13, V.ref a14, V.ref a15] ++ [V.ref a16]))
    replace e11_ := err_put e11_ hLp3 (o := .lst ([V.ref a0, V.ref a1, V.ref a2, V.ref a3, V.ref a4, V.ref a5, V.ref a6, V.ref a7, V.ref a8, V.ref a9, V.ref a10, V.ref a11, V.ref a12, V.ref a13, V.ref a14, V.ref a15] ++ [V.ref a16]))
    replace e12_ := err_put e12_ hLp3 (o := .lst ([V.ref a0, V.ref a1, V.ref a2, V.ref a3, V.ref a4, V.ref a5, V.ref a6, V.ref a7, V.ref a8, V.ref a9, V.ref a10, V.ref a11, V.ref a12, V.ref a13, V.ref a14, V.ref a15] ++ [V.ref a16]))
    replace e13_ := err_put e13_ hLp3 (o := .lst ([V.ref a0, V.ref a1, V.ref a2, V.ref a3, V.ref a4, V.ref a5, V.ref a6, V.ref a7, V.ref a8, V.ref a9, V.ref a10, V.ref a11, V.ref a12, V.ref a13, V.ref a14, V.ref a15] ++ [V.ref a16]))
    replace e14_ := err_put e14_ hLp3 (o := .lst ([V.ref a0, V.ref a1, V.ref a2, V.ref a3, V.ref a4, V.ref a5, V.ref a6, V.ref a7, V.ref a8, V.ref a9, V.ref a10, V.ref a11, V.ref a12, V.ref a13, V.ref a14, V.ref a15] ++ [V.ref a16]))
    replace e15_ := err_put e15_ hLp3 (o := .lst ([V.ref a0, V.ref a1, V.ref a2, V.ref a3, V.ref a4, V.ref a5, V.ref a6, V.ref a7, V.ref a8, V.ref a9, V.ref a10, V.ref a11, V.ref a12, V.ref a13, V.ref a14, V.ref a15] ++ [V.ref a16]))
    replace e16_ := err_put e16_ hLp3 (o := .lst ([V.ref a0, V.ref a1, V.ref a2, V.ref a3, V.ref a4, V.ref a5, V.ref a6, V.ref a7, V.ref a8, V.ref a9, V.ref a10, V.ref a11, V.ref a12, V.ref a13, V.ref a14, V.ref a15] ++ [V.ref a16]))
    generalize upd J16 p3 (.lst ([V.ref a0, V.ref a1, V.ref a2, V.ref a3, V.ref a4, V.ref a5, V.ref a6, V.ref a7, V.ref a8, V.ref a9, V.ref a10, V.ref a11, V.ref a12, V.ref a13, V.ref a14, V.ref a15] ++ [V.ref a16])) = Hm at hM e0_ e1_ e2_ e3_ e4_ e5_ e6_ e7_ e8_ e9_ e10_ e11_ e12_ e13_ e14_ e15_ e16_
    have all : ∀ i, i < 17 → ∃ e fs, [V.ref a0, V.ref a1, V.ref a2, V.ref a3, V.ref a4, V.ref a5, V.ref a6, V.ref a7, V.ref a8, V.ref a9, V.ref a10, V.ref a11, V.ref a12, V.ref a13, V.ref a14, V.ref a15, V.ref a16][i]? = some (V.ref e) ∧ Sx.ErrAt Hm e (cs i) fs := fun i hi => by
      match i, hi with
      | 0, _ => exact ⟨a0, _, rfl, e0_⟩
      | 1, _ => exact ⟨a1, _, rfl, e1_⟩
      | 2, _ => exact ⟨a2, _, rfl, e2_⟩
      | 3, _ => exact ⟨a3, _, rfl, e3_⟩
      | 4, _ => exact ⟨a4, _, rfl, e4_⟩
      | 5, _ => exact ⟨a5, _, rfl, e5_⟩
      | 6, _ => exact ⟨a6, _, rfl, e6_⟩
      | 7, _ => exact ⟨a7, _, rfl, e7_⟩
      | 8, _ => exact ⟨a8, _, rfl, e8_⟩
      | 9, _ => exact ⟨a9, _, rfl, e9_⟩
      | 10, _ => exact ⟨a10, _, rfl, e10_⟩
      | 11, _ => exact ⟨a11, _, rfl, e11_⟩
      | 12, _ => exact ⟨a12, _, rfl, e12_⟩
      | 13, _ => exact ⟨a13, _, rfl, e13_⟩
      | 14, _ => exact ⟨a14, _, rfl, e14_⟩
      | 15, _ => exact ⟨a15, _, rfl, e15_⟩
      | 16, _ => exact ⟨a16, _, rfl, e16_⟩
      | n + 17, h => exact absurd h (by omega)
    -- the loop
    refine ⟨17, rfl, by decide, by decide, ?_⟩
    have okM : ∀ H', Same Hm H' → SqL K H' p3 [V.ref a0, V.ref a1, V.ref a2, V.ref a3, V.ref a4, V.ref a5, V.ref a6, V.ref a7, V.ref a8, V.ref a9, V.ref a10, V.ref a11, V.ref a12, V.ref a13, V.ref a14, V.ref a15, V.ref a16] := fun H' s => SqL.of (s _ _ hM)
    refine for_range (n := 17) (fun i σ H' => ∃ v : Option V, σ = [some (.ref a), some (.ref b), some (.int (n1 - 10 ^ (5 : Int).toNat)), some (.int n2), some (.str (S t)), some (.ref p3), v, none, none, none] ∧ Same Hm H') ⟨none, rfl, Same.refl _⟩ ?_ ?_
    · rintro i σ H6 hi ⟨v, rfl, sm⟩
      obtain ⟨e, fs, hie, er⟩ := all i hi
      have er6 := err_same er sm
      have hat : atI [V.ref a0, V.ref a1, V.ref a2, V.ref a3, V.ref a4, V.ref a5, V.ref a6, V.ref a7, V.ref a8, V.ref a9, V.ref a10, V.ref a11, V.ref a12, V.ref a13, V.ref a14, V.ref a15, V.ref a16] (0 + (i : Int)) = some (V.ref e) := by rw [Int.zero_add]; exact atI_nat hie
      refine ⟨_, rfl, _, rfl, p3, _, _, _, rfl, rfl, okM _ sm, hat, e, i, fs, rfl, hi, er6, fun r H7 s7 nr hr7 => ?_⟩
      refine ⟨17, rfl, by decide, by decide, fun D hD => lc_it walk_range (fun k H' => H' = upd H7 D (.lst ((List.range k).map fun k => V.bl (decide (k = i))))) rfl (fun _ _ _ _ => trivial) ?_ ?_⟩
      · rintro k x H8 H9 hk rfl ⟨rfl, rfl⟩
        refine ⟨rfl, _, rfl, _, rfl, rfl, ?_⟩
        rw [dec_nat]
        refine ⟨_, upd_same, ?_, ?_⟩
        · rw [List.length_map, List.length_range]; exact Nat.lt_of_lt_of_le hk (by decide)
        · rw [upd_upd, range_snoc]
      · rintro H8 rfl
        have nrD : r ≠ D := fun z => by rw [z, hD] at hr7; cases hr7
        refine ⟨.list (((List.range 17).map fun k => decide (k = i)).map PyData.bool), .list (((List.range 17).map fun k => decide (k = i)).map PyData.bool), ?_, ?_, shaped_bools _, shaped_bools _, _, rfl, ?_⟩
        · refine .lst (xs := row i) (SqL.of (by rw [upd_ne nrD]; exact hr7)) ?_
          rw [row_bools]
          exact dp_bools _
        · refine .lst (xs := row i) (SqL.of upd_same) ?_
          rw [row_bools]
          exact dp_bools _
        rw [SeqAt.eqv_refl _ (SeqAt.canLay_of_shaped (shaped_bools _))]
        refine iteF ?_
        have s8 : Same Hm (upd H7 D (.lst (row i))) := (sm.trans s7).trans (same_new hD)
        have er8 := err_same er s8
        refine ⟨_, rfl, _, rfl, p3, _, _, _, rfl, rfl, okM _ s8, hat, e, cs i, fs, .ref Clp, .ref Clp, true, rfl, fun u r => r, er8, Z.ec i hi, Z.kC i hi, true, rfl, ?_⟩
        refine iteF ?_
        refine ⟨_, rfl, _, rfl, p3, _, _, _, rfl, rfl, okM _ s8, hat, e, cs i, fs, .ty "ValueError", .type "ValueError", true, rfl, fun u r => r, er8, Z.ec i hi, Z.kV i hi, true, rfl, ?_⟩
        refine iteF ?_
        exact ⟨_, rfl, s8⟩
    rintro σ H6 ⟨v, rfl, sm⟩
    replace e0_ := err_same e0_ sm
    replace e1_ := err_same e1_ sm
    replace e2_ := err_same e2_ sm
    replace e3_ := err_same e3_ sm
    replace e4_ := err_same e4_ sm
    replace e5_ := err_same e5_ sm
    replace e6_ := err_same e6_ sm
    replace e7_ := err_same e7_ sm
    replace e8_ := err_same e8_ sm
    replace e9_ := err_same e9_ sm
    replace e10_ := err_same e10_ sm
    replace e11_ := err_same e11_ sm
    replace e12_ := err_same e12_ sm
    replace e13_ := err_same e13_ sm
    replace e14_ := err_same e14_ sm
    replace e15_ := err_same e15_ sm
    replace e16_ := err_same e16_ sm
    have hM6 := sm _ _ hM
    clear sm all okM
    -- the fields
    refine ⟨_, rfl, p3, _, 0, _, rfl, rfl, SqL.of hM6, rfl, a0, cs 0, _, _, rfl, e0_, xf 0 (by decide), no0_part, rfl, _, rfl, p3, _, 1, _, rfl, rfl, SqL.of hM6, rfl, a1, cs 1, _, _, rfl, e1_, xf 1 (by decide), no1_word, rfl, _, rfl, p3, _, 2, _, rfl, rfl, SqL.of hM6, rfl, a2, cs 2, _, _, rfl, e2_, xf 2 (by decide), no2_what, rfl, _, rfl, p3, _, 3, _, rfl, rfl, SqL.of hM6, rfl, a3, cs 3, _, _, rfl, e3_, xf 3 (by decide), no3_stage, rfl, _, rfl, p3, _, 3, _, rfl, rfl, SqL.of hM6, rfl, a3, cs 3, _, _, rfl, e3_, xf 3 (by decide), no3_what, rfl, _, rfl, p3, _, 4, _, rfl, rfl, SqL.of hM6, rfl, a4, cs 4, _, _, rfl, e4_, xf 4 (by decide), no4_place, rfl, _, rfl, p3, _, 5, _, rfl, rfl, SqL.of hM6, rfl, a5, cs 5, _, _, rfl, e5_, xf 5 (by decide), no5_place, rfl, (by show 7 ≤ sizeLine; decide), fun w0 nu0 => ?_⟩
    have sLw0 : Same H6 (upd H6 w0 (.lst [V.str (S t), V.str (S t), V.str (S t), V.int (n1 - 10 ^ (5 : Int).toNat), V.str (S t), V.int (n1 - 10 ^ (5 : Int).toNat), V.int (n1 - 10 ^ (5 : Int).toNat)])) := same_new nu0
    have hLw0 : (upd H6 w0 (.lst [V.str (S t), V.str (S t), V.str (S t), V.int (n1 - 10 ^ (5 : Int).toNat), V.str (S t), V.int (n1 - 10 ^ (5 : Int).toNat), V.int (n1 - 10 ^ (5 : Int).toNat)])) w0 = some (.lst [V.str (S t), V.str (S t), V.str (S t), V.int (n1 - 10 ^ (5 : Int).toNat), V.str (S t), V.int (n1 - 10 ^ (5 : Int).toNat), V.int (n1 - 10 ^ (5 : Int).toNat)]) := upd_same
    generalize upd H6 w0 (.lst [V.str (S t), V.str (S t), V.str (S t), V.int (n1 - 10 ^ (5 : Int).toNat), V.str (S t), V.int (n1 - 10 ^ (5 : Int).toNat), V.int (n1 - 10 ^ (5 : Int).toNat)]) = U0 at sLw0 hLw0
    replace e0_ := err_same e0_ sLw0
    replace e1_ := err_same e1_ sLw0
    replace e2_ := err_same e2_ sLw0
    replace e3_ := err_same e3_ sLw0
    replace e4_ := err_same e4_ sLw0
    replace e5_ := err_same e5_ sLw0
    replace e6_ := err_same e6_ sLw0
    replace e7_ := err_same e7_ sLw0
    replace e8_ := err_same e8_ sLw0
    replace e9_ := err_same e9_ sLw0
    replace e10_ := err_same e10_ sLw0
    replace e11_ := err_same e11_ sLw0
    replace e12_ := err_same e12_ sLw0
    replace e13_ := err_same e13_ sLw0
    replace e14_ := err_same e14_ sLw0
    replace e15_ := err_same e15_ sLw0
    replace e16_ := err_same e16_ sLw0
    replace hM6 := sLw0 _ _ hM6
    refine ⟨_, rfl, _, rfl, p3, _, 7, _, rfl, rfl, SqL.of hM6, rfl, a7, cs 7, _, _, rfl, e7_, xf 7 (by decide), no7_number, rfl, _, rfl, p3, _, 8, _, rfl, rfl, SqL.of hM6, rfl, a8, cs 8, _, _, rfl, e8_, xf 8 (by decide), no8_asked, rfl, _, rfl, p3, _, 9, _, rfl, rfl, SqL.of hM6, rfl, a9, cs 9, _, _, rfl, e9_, xf 9 (by decide), no9_number, rfl, _, rfl, p3, _, 10, _, rfl, rfl, SqL.of hM6, rfl, a10, cs 10, _, _, rfl, e10_, xf 10 (by decide), no10_word, rfl, _, rfl, p3, _, 11, _, rfl, rfl, SqL.of hM6, rfl, a11, cs 11, _, _, rfl, e11_, xf 11 (by decide), no11_fewest, rfl, _, rfl, p3, _, 12, _, rfl, rfl, SqL.of hM6, rfl, a12, cs 12, _, _, rfl, e12_, xf 12 (by decide), no12_number, rfl, (by show 6 ≤ sizeLine; decide), fun u1 nu1 => ?_⟩
    have sLu1 : Same U0 (upd U0 u1 (.lst [V.int (n1 - 10 ^ (5 : Int).toNat), V.int (n1 - 10 ^ (5 : Int).toNat), V.int (n1 - 10 ^ (5 : Int).toNat), V.str (S t), V.int (n1 - 10 ^ (5 : Int).toNat), V.int (n1 - 10 ^ (5 : Int).toNat)])) := same_new nu1
    have hLu1 : (upd U0 u1 (.lst [V.int (n1 - 10 ^ (5 : Int).toNat), V.int (n1 - 10 ^ (5 : Int).toNat), V.int (n1 - 10 ^ (5 : Int).toNat), V.str (S t), V.int (n1 - 10 ^ (5 : Int).toNat), V.int (n1 - 10 ^ (5 : Int).toNat)])) u1 = some (.lst [V.int (n1 - 10 ^ (5 : Int).toNat), V.int (n1 - 10 ^ (5 : Int).toNat), V.int (n1 - 10 ^ (5 : Int).toNat), V.str (S t), V.int (n1 - 10 ^ (5 : Int).toNat), V.int (n1 - 10 ^ (5 : Int).toNat)]) := upd_same
    generalize upd U0 u1 (.lst [V.int (n1 - 10 ^ (5 : Int).toNat), V.int (n1 - 10 ^ (5 : Int).toNat), V.int (n1 - 10 ^ (5 : Int).toNat), V.str (S t), V.int (n1 - 10 ^ (5 : Int).toNat), V.int (n1 - 10 ^ (5 : Int).toNat)]) = U1 at sLu1 hLu1
    replace e0_ := err_same e0_ sLu1
    replace e1_ := err_same e1_ sLu1
    replace e2_ := err_same e2_ sLu1
    replace e3_ := err_same e3_ sLu1
    replace e4_ := err_same e4_ sLu1
    replace e5_ := err_same e5_ sLu1
    replace e6_ := err_same e6_ sLu1
    replace e7_ := err_same e7_ sLu1
    replace e8_ := err_same e8_ sLu1
    replace e9_ := err_same e9_ sLu1
    replace e10_ := err_same e10_ sLu1
    replace e11_ := err_same e11_ sLu1
    replace e12_ := err_same e12_ sLu1
    replace e13_ := err_same e13_ sLu1
    replace e14_ := err_same e14_ sLu1
    replace e15_ := err_same e15_ sLu1
    replace e16_ := err_same e16_ sLu1
    replace hM6 := sLu1 _ _ hM6
    replace hLw0 := sLu1 _ _ hLw0
    refine ⟨w0, u1, _, _, rfl, rfl, hLw0, hLu1, (by show 7 + 6 ≤ sizeLine; decide), fun w1 nw1 => ?_⟩
    have sLw1 : Same U1 (upd U1 w1 (.lst ([V.str (S t), V.str (S t), V.str (S t), V.int (n1 - 10 ^ (5 : Int).toNat), V.str (S t), V.int (n1 - 10 ^ (5 : Int).toNat), V.int (n1 - 10 ^ (5 : Int).toNat)] ++ [V.int (n1 - 10 ^ (5 : Int).toNat), V.int (n1 - 10 ^ (5 : Int).toNat), V.int (n1 - 10 ^ (5 : Int).toNat), V.str (S t), V.int (n1 - 10 ^ (5 : Int).toNat), V.int (n1 - 10 ^ (5 : Int).toNat)]))) := same_new nw1
    have hLw1 : (upd U1 w1 (.lst ([V.str (S t), V.str (S t), V.str (S t), V.int (n1 - 10 ^ (5 : Int).toNat), V.str (S t), V.int (n1 - 10 ^ (5 : Int).toNat), V.int (n1 - 10 ^ (5 : Int).toNat)] ++ [V.int (n1 - 10 ^ (5 : Int).toNat), V.int (n1 - 10 ^ (5 : Int).toNat), V.int (n1 - 10 ^ (5 : Int).toNat), V.str (S t), V.int (n1 - 10 ^ (5 : Int).toNat), V.int (n1 - 10 ^ (5 : Int).toNat)]))) w1 = some (.lst [V.str (S t), V.str (S t), V.str (S t), V.int (n1 - 10 ^ (5 : Int).toNat), V.str (S t), V.int (n1 - 10 ^ (5 : Int).toNat), V.int (n1 - 10 ^ (5 : Int).toNat), V.int (n1 - 10 ^ (5 : Int).toNat), V.int (n1 - 10 ^ (5 : Int).toNat), V.int (n1 - 10 ^ (5 : Int).toNat), V.str (S t), V.int (n1 - 10 ^ (5 : Int).toNat), V.int (n1 - 10 ^ (5 : Int).toNat)]) := upd_same
    generalize upd U1 w1 (.lst ([V.str (S t), V.str (S t), V.str (S t), V.int (n1 - 10 ^ (5 : Int).toNat), V.str (S t), V.int (n1 - 10 ^ (5 : Int).toNat), V.int (n1 - 10 ^ (5 : Int).toNat)] ++ [V.int (n1 - 10 ^ (5 : Int).toNat), V.int (n1 - 10 ^ (5 : Int).toNat), V.int (n1 - 10 ^ (5 : Int).toNat), V.str (S t), V.int (n1 - 10 ^ (5 : Int).toNat), V.int (n1 - 10 ^ (5 : Int).toNat)])) = W1 at sLw1 hLw1
    replace e0_ := err_same e0_ sLw1
    replace e1_ := err_same e1_ sLw1
    replace e2_ := err_same e2_ sLw1
    replace e3_ := err_same e3_ sLw1
    replace e4_ := err_same e4_ sLw1
    replace e5_ := err_same e5_ sLw1
    replace e6_ := err_same e6_ sLw1
    replace e7_ := err_same e7_ sLw1
    replace e8_ := err_same e8_ sLw1
    replace e9_ := err_same e9_ sLw1
    replace e10_ := err_same e10_ sLw1
    replace e11_ := err_same e11_ sLw1
    replace e12_ := err_same e12_ sLw1
    replace e13_ := err_same e13_ sLw1
    replace e14_ := err_same e14_ sLw1
    replace e15_ := err_same e15_ sLw1
    replace e16_ := err_same e16_ sLw1
    replace hM6 := sLw1 _ _ hM6
    replace hLw0 := sLw1 _ _ hLw0
    replace hLu1 := sLw1 _ _ hLu1
    refine ⟨_, rfl, _, rfl, p3, _, 13, _, rfl, rfl, SqL.of hM6, rfl, a13, cs 13, _, _, rfl, e13_, xf 13 (by decide), no13_number, rfl, _, rfl, p3, _, 14, _, rfl, rfl, SqL.of hM6, rfl, a14, cs 14, _, _, rfl, e14_, xf 14 (by decide), no14_way, rfl, _, rfl, p3, _, 15, _, rfl, rfl, SqL.of hM6, rfl, a15, cs 15, _, _, rfl, e15_, xf 15 (by decide), no15_index, rfl, _, rfl, p3, _, 16, _, rfl, rfl, SqL.of hM6, rfl, a16, cs 16, _, _, rfl, e16_, xf 16 (by decide), no16_one, rfl, _, rfl, p3, _, 16, _, rfl, rfl, SqL.of hM6, rfl, a16, cs 16, _, _, rfl, e16_, xf 16 (by decide), no16_two, rfl, (by show 5 ≤ sizeLine; decide), fun u2 nu2 => ?_⟩
    have sLu2 : Same W1 (upd W1 u2 (.lst [V.int (n1 - 10 ^ (5 : Int).toNat), V.str (S t), V.int (n1 - 10 ^ (5 : Int).toNat), V.int (n1 - 10 ^ (5 : Int).toNat), V.int n2])) := same_new nu2
    have hLu2 : (upd W1 u2 (.lst [V.int (n1 - 10 ^ (5 : Int).toNat), V.str (S t), V.int (n1 - 10 ^ (5 : Int).toNat), V.int (n1 - 10 ^ (5 : Int).toNat), V.int n2])) u2 = some (.lst [V.int (n1 - 10 ^ (5 : Int).toNat), V.str (S t), V.int (n1 - 10 ^ (5 : Int).toNat), V.int (n1 - 10 ^ (5 : Int).toNat), V.int n2]) := upd_same
    generalize upd W1 u2 (.lst [V.int (n1 - 10 ^ (5 : Int).toNat), V.str (S t), V.int (n1 - 10 ^ (5 : Int).toNat), V.int (n1 - 10 ^ (5 : Int).toNat), V.int n2]) = U2 at sLu2 hLu2
    replace e0_ := err_same e0_ sLu2
    replace e1_ := err_same e1_ sLu2
    replace e2_ := err_same e2_ sLu2
    replace e3_ := err_same e3_ sLu2
    replace e4_ := err_same e4_ sLu2
    replace e5_ := err_same e5_ sLu2
    replace e6_ := err_same e6_ sLu2
    replace e7_ := err_same e7_ sLu2
    replace e8_ := err_same e8_ sLu2
    replace e9_ := err_same e9_ sLu2
    replace e10_ := err_same e10_ sLu2
    replace e11_ := err_same e11_ sLu2
    replace e12_ := err_same e12_ sLu2
    replace e13_ := err_same e13_ sLu2
    replace e14_ := err_same e14_ sLu2
    replace e15_ := err_same e15_ sLu2
    replace e16_ := err_same e16_ sLu2
    replace hM6 := sLu2 _ _ hM6
    replace hLw0 := sLu2 _ _ hLw0
    replace hLu1 := sLu2 _ _ hLu1
    replace hLw1 := sLu2 _ _ hLw1
    refine ⟨w1, u2, _, _, rfl, rfl, hLw1, hLu2, (by show 13 + 5 ≤ sizeLine; decide), fun w2 nw2 => ?_⟩
    have sLw2 : Same U2 (upd U2 w2 (.lst ([V.str (S t), V.str (S t), V.str (S t), V.int (n1 - 10 ^ (5 : Int).toNat), V.str (S t), V.int (n1 - 10 ^ (5 : Int).toNat), V.int (n1 - 10 ^ (5 : Int).toNat), V.int (n1 - 10 ^ (5 : Int).toNat), V.int (n1 - 10 ^ (5 : Int).toNat), V.int (n1 - 10 ^ (5 : Int).toNat), V.str (S t), V.int (n1 - 10 ^ (5 : Int).toNat), V.int (n1 - 10 ^ (5 : Int).toNat)] ++ [V.int (n1 - 10 ^ (5 : Int).toNat), V.str (S t), V.int (n1 - 10 ^ (5 : Int).toNat), V.int (n1 - 10 ^ (5 : Int).toNat), V.int n2]))) := same_new nw2
    have hLw2 : (upd U2 w2 (.lst ([V.str (S t), V.str (S t), V.str (S t), V.int (n1 - 10 ^ (5 : Int).toNat), V.str (S t), V.int (n1 - 10 ^ (5 : Int).toNat), V.int (n1 - 10 ^ (5 : Int).toNat), V.int (n1 - 10 ^ (5 : Int).toNat), V.int (n1 - 10 ^ (5 : Int).toNat), V.int (n1 - 10 ^ (5 : Int).toNat), V.str (S t), V.int (n1 - 10 ^ (5 : Int).toNat), V.int (n1 - 10 ^ (5 : Int).toNat)] ++ [V.int (n1 - 10 ^ (5 : Int).toNat), V.str (S t), V.int (n1 - 10 ^ (5 : Int).toNat), V.int (n1 - 10 ^ (5 : Int).toNat), V.int n2]))) w2 = some (.lst [V.str (S t), V.str (S t), V.str (S t), V.int (n1 - 10 ^ (5 : Int).toNat), V.str (S t), V.int (n1 - 10 ^ (5 : Int).toNat), V.int (n1 - 10 ^ (5 : Int).toNat), V.int (n1 - 10 ^ (5 : Int).toNat), V.int (n1 - 10 ^ (5 : Int).toNat), V.int (n1 - 10 ^ (5 : Int).toNat), V.str (S t), V.int (n1 - 10 ^ (5 : Int).toNat), V.int (n1 - 10 ^ (5 : Int).toNat), V.int (n1 - 10 ^ (5 : Int).toNat), V.str (S t), V.int (n1 - 10 ^ (5 : Int).toNat), V.int (n1 - 10 ^ (5 : Int).toNat), V.int n2]) := upd_same
    generalize upd U2 w2 (.lst ([V.str (S t), V.str (S t), V.str (S t), V.int (n1 - 10 ^ (5 : Int).toNat), V.str (S t), V.int (n1 - 10 ^ (5 : Int).toNat), V.int (n1 - 10 ^ (5 : Int).toNat), V.int (n1 - 10 ^ (5 : Int).toNat), V.int (n1 - 10 ^ (5 : Int).toNat), V.int (n1 - 10 ^ (5 : Int).toNat), V.str (S t), V.int (n1 - 10 ^ (5 : Int).toNat), V.int (n1 - 10 ^ (5 : Int).toNat)] ++ [V.int (n1 - 10 ^ (5 : Int).toNat), V.str (S t), V.int (n1 - 10 ^ (5 : Int).toNat), V.int (n1 - 10 ^ (5 : Int).toNat), V.int n2])) = W2 at sLw2 hLw2
    replace e0_ := err_same e0_ sLw2
    replace e1_ := err_same e1_ sLw2
    replace e2_ := err_same e2_ sLw2
    replace e3_ := err_same e3_ sLw2
    replace e4_ := err_same e4_ sLw2
    replace e5_ := err_same e5_ sLw2
    replace e6_ := err_same e6_ sLw2
    replace e7_ := err_same e7_ sLw2
    replace e8_ := err_same e8_ sLw2
    replace e9_ := err_same e9_ sLw2
    replace e10_ := err_same e10_ sLw2
    replace e11_ := err_same e11_ sLw2
    replace e12_ := err_same e12_ sLw2
    replace e13_ := err_same e13_ sLw2
    replace e14_ := err_same e14_ sLw2
    replace e15_ := err_same e15_ sLw2
    replace e16_ := err_same e16_ sLw2
    replace hM6 := sLw2 _ _ hM6
    replace hLw0 := sLw2 _ _ hLw0
    replace hLu1 := sLw2 _ _ hLu1
    replace hLw1 := sLw2 _ _ hLw1
    replace hLu2 := sLw2 _ _ hLu2
    refine ⟨_, rfl, _, rfl, _, rfl, _, rfl, _, rfl, _, rfl, _, rfl, _, rfl, _, rfl, _, rfl, _, rfl, _, rfl, _, rfl, _, rfl, (by show 14 ≤ sizeLine; decide), fun y0 ny0 => ?_⟩
    have sLy0 : Same W2 (upd W2 y0 (.lst [V.str (S t), V.str (S t), V.str (S t), V.int (n1 - 10 ^ (5 : Int).toNat), V.str (S t), V.int (n1 - 10 ^ (5 : Int).toNat), V.int (n1 - 10 ^ (5 : Int).toNat), V.int (n1 - 10 ^ (5 : Int).toNat), V.int (n1 - 10 ^ (5 : Int).toNat), V.int (n1 - 10 ^ (5 : Int).toNat), V.str (S t), V.int (n1 - 10 ^ (5 : Int).toNat), V.int (n1 - 10 ^ (5 : Int).toNat), V.int (n1 - 10 ^ (5 : Int).toNat)])) := same_new ny0
    have hLy0 : (upd W2 y0 (.lst [V.str (S t), V.str (S t), V.str (S t), V.int (n1 - 10 ^ (5 : Int).toNat), V.str (S t), V.int (n1 - 10 ^ (5 : Int).toNat), V.int (n1 - 10 ^ (5 : Int).toNat), V.int (n1 - 10 ^ (5 : Int).toNat), V.int (n1 - 10 ^ (5 : Int).toNat), V.int (n1 - 10 ^ (5 : Int).toNat), V.str (S t), V.int (n1 - 10 ^ (5 : Int).toNat), V.int (n1 - 10 ^ (5 : Int).toNat), V.int (n1 - 10 ^ (5 : Int).toNat)])) y0 = some (.lst [V.str (S t), V.str (S t), V.str (S t), V.int (n1 - 10 ^ (5 : Int).toNat), V.str (S t), V.int (n1 - 10 ^ (5 : Int).toNat), V.int (n1 - 10 ^ (5 : Int).toNat), V.int (n1 - 10 ^ (5 : Int).toNat), V.int (n1 - 10 ^ (5 : Int).toNat), V.int (n1 - 10 ^ (5 : Int).toNat), V.str (S t), V.int (n1 - 10 ^ (5 : Int).toNat), V.int (n1 - 10 ^ (5 : Int).toNat), V.int (n1 - 10 ^ (5 : Int).toNat)]) := upd_same
    generalize upd W2 y0 (.lst [V.str (S t), V.str (S t), V.str (S t), V.int (n1 - 10 ^ (5 : Int).toNat), V.str (S t), V.int (n1 - 10 ^ (5 : Int).toNat), V.int (n1 - 10 ^ (5 : Int).toNat), V.int (n1 - 10 ^ (5 : Int).toNat), V.int (n1 - 10 ^ (5 : Int).toNat), V.int (n1 - 10 ^ (5 : Int).toNat), V.str (S t), V.int (n1 - 10 ^ (5 : Int).toNat), V.int (n1 - 10 ^ (5 : Int).toNat), V.int (n1 - 10 ^ (5 : Int).toNat)]) = Y0 at sLy0 hLy0
    replace e0_ := err_same e0_ sLy0
    replace e1_ := err_same e1_ sLy0
    replace e2_ := err_same e2_ sLy0
    replace e3_ := err_same e3_ sLy0
    replace e4_ := err_same e4_ sLy0
    replace e5_ := err_same e5_ sLy0
    replace e6_ := err_same e6_ sLy0
    replace e7_ := err_same e7_ sLy0
    replace e8_ := err_same e8_ sLy0
    replace e9_ := err_same e9_ sLy0
    replace e10_ := err_same e10_ sLy0
    replace e11_ := err_same e11_ sLy0
    replace e12_ := err_same e12_ sLy0
    replace e13_ := err_same e13_ sLy0
    replace e14_ := err_same e14_ sLy0
    replace e15_ := err_same e15_ sLy0
    replace e16_ := err_same e16_ sLy0
    replace hM6 := sLy0 _ _ hM6
    replace hLw0 := sLy0 _ _ hLw0
    replace hLu1 := sLy0 _ _ hLu1
    replace hLw1 := sLy0 _ _ hLw1
    replace hLu2 := sLy0 _ _ hLu2
    replace hLw2 := sLy0 _ _ hLw2
    refine ⟨_, rfl, _, rfl, _, rfl, _, rfl, _, rfl, _, rfl, (by show 4 ≤ sizeLine; decide), fun y1 ny1 => ?_⟩
    have sLy1 : Same Y0 (upd Y0 y1 (.lst [V.str (S t), V.int (n1 - 10 ^ (5 : Int).toNat), V.int (n1 - 10 ^ (5 : Int).toNat), V.int n2])) := same_new ny1
    have hLy1 : (upd Y0 y1 (.lst [V.str (S t), V.int (n1 - 10 ^ (5 : Int).toNat), V.int (n1 - 10 ^ (5 : Int).toNat), V.int n2])) y1 = some (.lst [V.str (S t), V.int (n1 - 10 ^ (5 : Int).toNat), V.int (n1 - 10 ^ (5 : Int).toNat), V.int n2]) := upd_same
    generalize upd Y0 y1 (.lst [V.str (S t), V.int (n1 - 10 ^ (5 : Int).toNat), V.int (n1 - 10 ^ (5 : Int).toNat), V.int n2]) = Y1 at sLy1 hLy1
    replace e0_ := err_same e0_ sLy1
    replace e1_ := err_same e1_ sLy1
    replace e2_ := err_same e2_ sLy1
    replace e3_ := err_same e3_ sLy1
    replace e4_ := err_same e4_ sLy1
    replace e5_ := err_same e5_ sLy1
    replace e6_ := err_same e6_ sLy1
    replace e7_ := err_same e7_ sLy1
    replace e8_ := err_same e8_ sLy1
    replace e9_ := err_same e9_ sLy1
    replace e10_ := err_same e10_ sLy1
    replace e11_ := err_same e11_ sLy1
    replace e12_ := err_same e12_ sLy1
    replace e13_ := err_same e13_ sLy1
    replace e14_ := err_same e14_ sLy1
    replace e15_ := err_same e15_ sLy1
    replace e16_ := err_same e16_ sLy1
    replace hM6 := sLy1 _ _ hM6
    replace hLw0 := sLy1 _ _ hLw0
    replace hLu1 := sLy1 _ _ hLu1
    replace hLw1 := sLy1 _ _ hLw1
    replace hLu2 := sLy1 _ _ hLu2
    replace hLw2 := sLy1 _ _ hLw2
    replace hLy0 := sLy1 _ _ hLy0
    refine ⟨y0, y1, _, _, rfl, rfl, hLy0, hLy1, (by show 14 + 4 ≤ sizeLine; decide), fun y2 ny2 => ?_⟩
    have sLy2 : Same Y1 (upd Y1 y2 (.lst ([V.str (S t), V.str (S t), V.str (S t), V.int (n1 - 10 ^ (5 : Int).toNat), V.str (S t), V.int (n1 - 10 ^ (5 : Int).toNat), V.int (n1 - 10 ^ (5 : Int).toNat), V.int (n1 - 10 ^ (5 : Int).toNat), V.int (n1 - 10 ^ (5 : Int).toNat), V.int (n1 - 10 ^ (5 : Int).toNat), V.str (S t), V.int (n1 - 10 ^ (5 : Int).toNat), V.int (n1 - 10 ^ (5 : Int).toNat), V.int (n1 - 10 ^ (5 : Int).toNat)] ++ [V.str (S t), V.int (n1 - 10 ^ (5 : Int).toNat), V.int (n1 - 10 ^ (5 : Int).toNat), V.int n2]))) := same_new ny2
    have hLy2 : (upd Y1 y2 (.lst ([V.str (S t), V.str (S t), V.str (S t), V.int (n1 - 10 ^ (5 : Int).toNat), V.str (S t), V.int (n1 - 10 ^ (5 : Int).toNat), V.int (n1 - 10 ^ (5 : Int).toNat), V.int (n1 - 10 ^ (5 : Int).toNat), V.int (n1 - 10 ^ (5 : Int).toNat), V.int (n1 - 10 ^ (5 : Int).toNat), V.str (S t), V.int (n1 - 10 ^ (5 : Int).toNat), V.int (n1 - 10 ^ (5 : Int).toNat), V.int (n1 - 10 ^ (5 : Int).toNat)] ++ [V.str (S t), V.int (n1 - 10 ^ (5 : Int).toNat), V.int (n1 - 10 ^ (5 : Int).toNat), V.int n2]))) y2 = some (.lst [V.str (S t), V.str (S t), V.str (S t), V.int (n1 - 10 ^ (5 : Int).toNat), V.str (S t), V.int (n1 - 10 ^ (5 : Int).toNat), V.int (n1 - 10 ^ (5 : Int).toNat), V.int (n1 - 10 ^ (5 : Int).toNat), V.int (n1 - 10 ^ (5 : Int).toNat), V.int (n1 - 10 ^ (5 : Int).toNat), V.str (S t), V.int (n1 - 10 ^ (5 : Int).toNat), V.int (n1 - 10 ^ (5 : Int).toNat), V.int (n1 - 10 ^ (5 : Int).toNat), V.str (S t), V.int (n1 - 10 ^ (5 : Int).toNat), V.int (n1 - 10 ^ (5 : Int).toNat), V.int n2]) := upd_same
    generalize upd Y1 y2 (.lst ([V.str (S t), V.str (S t), V.str (S t), V.int (n1 - 10 ^ (5 : Int).toNat), V.str (S t), V.int (n1 - 10 ^ (5 : Int).toNat), V.int (n1 - 10 ^ (5 : Int).toNat), V.int (n1 - 10 ^ (5 : Int).toNat), V.int (n1 - 10 ^ (5 : Int).toNat), V.int (n1 - 10 ^ (5 : Int).toNat), V.str (S t), V.int (n1 - 10 ^ (5 : Int).toNat), V.int (n1 - 10 ^ (5 : Int).toNat), V.int (n1 - 10 ^ (5 : Int).toNat)] ++ [V.str (S t), V.int (n1 - 10 ^ (5 : Int).toNat), V.int (n1 - 10 ^ (5 : Int).toNat), V.int n2])) = Y2 at sLy2 hLy2
    replace e0_ := err_same e0_ sLy2
    replace e1_ := err_same e1_ sLy2
    replace e2_ := err_same e2_ sLy2
    replace e3_ := err_same e3_ sLy2
    replace e4_ := err_same e4_ sLy2
    replace e5_ := err_same e5_ sLy2
    replace e6_ := err_same e6_ sLy2
    replace e7_ := err_same e7_ sLy2
    replace e8_ := err_same e8_ sLy2
    replace e9_ := err_same e9_ sLy2
    replace e10_ := err_same e10_ sLy2
    replace e11_ := err_same e11_ sLy2
    replace e12_ := err_same e12_ sLy2
    replace e13_ := err_same e13_ sLy2
    replace e14_ := err_same e14_ sLy2
    replace e15_ := err_same e15_ sLy2
    replace e16_ := err_same e16_ sLy2
    replace hM6 := sLy2 _ _ hM6
    replace hLw0 := sLy2 _ _ hLw0
    replace hLu1 := sLy2 _ _ hLu1
    replace hLw1 := sLy2 _ _ hLw1
    replace hLu2 := sLy2 _ _ hLu2
    replace hLw2 := sLy2 _ _ hLw2
    replace hLy0 := sLy2 _ _ hLy0
    replace hLy1 := sLy2 _ _ hLy1
    have sh : SeqAt.shaped (.list [PyData.str (S t), PyData.str (S t), PyData.str (S t), PyData.int (n1 - 10 ^ (5 : Int).toNat), PyData.str (S t), PyData.int (n1 - 10 ^ (5 : Int).toNat), PyData.int (n1 - 10 ^ (5 : Int).toNat), PyData.int (n1 - 10 ^ (5 : Int).toNat), PyData.int (n1 - 10 ^ (5 : Int).toNat), PyData.int (n1 - 10 ^ (5 : Int).toNat), PyData.str (S t), PyData.int (n1 - 10 ^ (5 : Int).toNat), PyData.int (n1 - 10 ^ (5 : Int).toNat), PyData.int (n1 - 10 ^ (5 : Int).toNat), PyData.str (S t), PyData.int (n1 - 10 ^ (5 : Int).toNat), PyData.int (n1 - 10 ^ (5 : Int).toNat), PyData.int n2]) = true := by
      have z := strOk_t hc
      simp [SeqAt.shaped, PyData.canLay0, PyData.canLayAll0, PyData.depth, PyData.depthAll, z]
    refine ⟨.list [PyData.str (S t), PyData.str (S t), PyData.str (S t), PyData.int (n1 - 10 ^ (5 : Int).toNat), PyData.str (S t), PyData.int (n1 - 10 ^ (5 : Int).toNat), PyData.int (n1 - 10 ^ (5 : Int).toNat), PyData.int (n1 - 10 ^ (5 : Int).toNat), PyData.int (n1 - 10 ^ (5 : Int).toNat), PyData.int (n1 - 10 ^ (5 : Int).toNat), PyData.str (S t), PyData.int (n1 - 10 ^ (5 : Int).toNat), PyData.int (n1 - 10 ^ (5 : Int).toNat), PyData.int (n1 - 10 ^ (5 : Int).toNat), PyData.str (S t), PyData.int (n1 - 10 ^ (5 : Int).toNat), PyData.int (n1 - 10 ^ (5 : Int).toNat), PyData.int n2], .list [PyData.str (S t), PyData.str (S t), PyData.str (S t), PyData.int (n1 - 10 ^ (5 : Int).toNat), PyData.str (S t), PyData.int (n1 - 10 ^ (5 : Int).toNat), PyData.int (n1 - 10 ^ (5 : Int).toNat), PyData.int (n1 - 10 ^ (5 : Int).toNat), PyData.int (n1 - 10 ^ (5 : Int).toNat), PyData.int (n1 - 10 ^ (5 : Int).toNat), PyData.str (S t), PyData.int (n1 - 10 ^ (5 : Int).toNat), PyData.int (n1 - 10 ^ (5 : Int).toNat), PyData.int (n1 - 10 ^ (5 : Int).toNat), PyData.str (S t), PyData.int (n1 - 10 ^ (5 : Int).toNat), PyData.int (n1 - 10 ^ (5 : Int).toNat), PyData.int n2], .lst (SqL.of hLw2) (.cons (.str _) (.cons (.str _) (.cons (.str _) (.cons (.int _) (.cons (.str _) (.cons (.int _) (.cons (.int _) (.cons (.int _) (.cons (.int _) (.cons (.int _) (.cons (.str _) (.cons (.int _) (.cons (.int _) (.cons (.int _) (.cons (.str _) (.cons (.int _) (.cons (.int _) (.cons (.int _) .nil)))))))))))))))))), .lst (SqL.of hLy2) (.cons (.str _) (.cons (.str _) (.cons (.str _) (.cons (.int _) (.cons (.str _) (.cons (.int _) (.cons (.int _) (.cons (.int _) (.cons (.int _) (.cons (.int _) (.cons (.str _) (.cons (.int _) (.cons (.int _) (.cons (.int _) (.cons (.str _) (.cons (.int _) (.cons (.int _) (.cons (.int _) .nil)))))))))))))))))), sh, sh, ?_⟩
    rw [SeqAt.eqv_refl _ (SeqAt.canLay_of_shaped sh)]
    exact k _
end
end Cl.K81
set_option Elab.async false
set_option linter.all false
set_option maxRecDepth 100000
set_option maxHeartbeats 4000000
/-! A head's facts with methods that say super(), errors of one's own, constants of classes, isinstance. -/
namespace Sx
open PySem PySem.Spec L2 PyProof.Rows
/-! ### methods with super() -/
structure DefS where
  cls : Str
  m : Str
  qual : Str
  st : Stmt
abbrev FnT : Type := Option (Str × Str × Arguments × FuncBody × Scope × Addr × List Str × Addr)
def fnT (K : PySem.W.Frag) (d : DefS) : FnT := match K.lookup (He.ma K (He.ga K d.cls) d.m) with
  | some ⟨_, _, .func fd, _⟩ => some (fd.name, fd.qualname, fd.params, fd.body, fd.scope, fd.globals, fd.closure.map (·.1), fd.builtins)
  | _ => none
def DefS.val (d : DefS) : FnT := some (d.m, d.qual, defArgs d.st, .stmts (defBody d.st), defScope d.st, mainGlobals, ["__class__"], builtinsNs)
def cellB (K : PySem.W.Frag) (cc D : Addr) : Bool := match K.lookup cc with
  | some ⟨_, _, .cell (some (.ref E)), _⟩ => decide (E = D)
  | _ => false
def fileB (K : PySem.W.Frag) (c : Addr) (file : Str) : Bool := match K.lookup c with
  | some ⟨_, _, .fields vs, _⟩ => (match (vs[2]? : Option Value) with
    | some (Value.str s _) => decide (s = file)
    | _ => false)
  | _ => false
def DefS.ok (file : Str) (K : PySem.W.Frag) (d : DefS) : Bool := match K.lookup (He.ma K (He.ga K d.cls) d.m) with
  | some ⟨_, _, .func fd, _⟩ => (match fd.defaults, fd.closure, fd.code with
    | .none, [(_, cc)], .ref c => PySem.W.codeIn K (.ref c) d.qual && (PySem.W.keepIn K (.ref (He.ma K (He.ga K d.cls) d.m)) && (cellB K cc (He.ga K d.cls) && fileB K c file))
    | _, _, _ => false)
  | _ => false
theorem DefS.funS {K : PySem.W.Frag} {file : Str} {d : DefS} (e : fnT K d = d.val) (h : d.ok file K = true) : ∃ c cc fd, FunS K file d.m d.qual d.st (He.ga K d.cls) (He.ma K (He.ga K d.cls) d.m) c cc fd := by
  unfold fnT at e
  unfold DefS.ok at h
  generalize hf : He.ma K (He.ga K d.cls) d.m = f at e h ⊢
  cases q : K.lookup f with
  | none =>
    rw [q] at h
    cases h
  | some o =>
    rw [q] at h e
    obtain ⟨oc, od, dt, osl⟩ := o
    cases dt with
    | func fd =>
      dsimp only at h e
      split at h
      · next y cc c h1 h2 h3 =>
        obtain ⟨a1, a2⟩ := He.ba h
        obtain ⟨a2, a3⟩ := He.ba a2
        obtain ⟨a3, a4⟩ := He.ba a3
        obtain ⟨nm, qn, pr, bd, sc, gl, clo, dfl, kw, doc, pm, an, cd, ct, bl⟩ := fd
        dsimp only at h1 h2 h3 e
        subst h1 h2 h3
        unfold DefS.val at e
        simp only [Option.some.injEq, Prod.mk.injEq, List.map_cons, List.map_nil, List.cons.injEq, and_true] at e
        obtain ⟨rfl, rfl, rfl, rfl, rfl, rfl, rfl, rfl⟩ := e
        refine ⟨c, cc, _, ⟨⟨oc, od, an, kw, doc, pm, ct, osl, rfl, q⟩, a1, ?_, ?_, a2⟩⟩
        · unfold cellB at a3
          split at a3
          · next E x1 x2 x3 z => exact ⟨_, z, by rw [of_decide_eq_true a3]⟩
          · cases a3
        · unfold fileB at a4
          split at a4
          · next x1 x2 vs x3 z =>
            split at a4
            · next s tk z2 =>
              rw [of_decide_eq_true a4] at z2
              exact ⟨_, vs, tk, z, rfl, z2⟩
            · cases a4
          · cases a4
      · cases h
    | _ => cases h
end Sx
set_option Elab.async false
set_option linter.all false
set_option maxRecDepth 100000
set_option maxHeartbeats 4000000
namespace Sx
open PySem PySem.Spec L2 PyProof.Rows
/-! ### an error of one's own over ValueError -/
def oexObjB (K : PySem.W.Frag) (C : Addr) : Bool := match K.lookup C with
  | some ⟨.type "type", _, .cls cd, sl⟩ => (match cd.mro, sl.toList with
    | .ref C' :: bm, [_, _, _, _, some (.builtin n), _] => decide (C' = C) && (decide (n = "ValueError.__new__") && (!cd.hasDel && (cd.hasDict && PySem.HandSPX.refsVE bm)))
    | _, _ => false)
  | _ => false
theorem oexObjB_ok {K : PySem.W.Frag} {C : Addr} (h : oexObjB K C = true) : ∃ nm q N bs bm sn sub ab col dd k0 k1 k2 k3 k5, K.lookup C = some (excClassObj nm q C N bs bm true sn sub ab col dd k0 k1 k2 k3 k5 "ValueError.__new__") ∧ PySem.HandSPX.refsVE bm = true := by
  unfold oexObjB at h
  split at h
  · next dd cd sl ho =>
    split at h
    · next C' bm k0 k1 k2 k3 n k5 hm hs =>
      obtain ⟨a1, h⟩ := He.ba h
      obtain ⟨a2, h⟩ := He.ba h
      obtain ⟨a3, h⟩ := He.ba h
      obtain ⟨a4, a5⟩ := He.ba h
      have e1 := of_decide_eq_true a1
      have e2 := of_decide_eq_true a2
      obtain ⟨nm, bs, mro, ns, qn, hd, sn, sb, ab, col, del⟩ := cd
      dsimp only at hm a3 a4
      rw [Bool.not_eq_true'] at a3
      subst hm e1 e2 a3 a4
      have e3 : sl = #[k0, k1, k2, k3, some (.builtin "ValueError.__new__"), k5] := by
        apply Array.ext'
        exact hs
      subst e3
      exact ⟨nm, qn, ns, bs, bm, sn, sb, ab, col, dd, k0, k1, k2, k3, k5, ho, a5⟩
    · cases h
  · cases h
def oexB (K : PySem.W.Frag) (C : Addr) : Bool := oexObjB K C && (He.eqO (PySem.W.findIn K (.ref C) "__setattr__") (some (some (.builtin "object.__setattr__"))) && (decide (PySem.W.subIn K (.ref C) (.type "BaseException") = some true) && (decide (PySem.W.typeIn K (.ref C) = some (.type "type")) && PySem.W.keepIn K (.ref C))))
theorem oexB_ok {K : PySem.W.Frag} {C : Addr} (h : oexB K C = true) : OexC K C := by
  obtain ⟨a1, h⟩ := He.ba h
  obtain ⟨a2, h⟩ := He.ba h
  obtain ⟨a3, h⟩ := He.ba h
  obtain ⟨a4, a5⟩ := He.ba h
  exact ⟨oexObjB_ok a1, He.eqO_ok a2, of_decide_eq_true a3, of_decide_eq_true a4, a5⟩
def supB (K : PySem.W.Frag) (C D : Addr) : Bool := oexObjB K D && (decide (PySem.W.subIn K (.ref C) (.ref D) = some true) && (He.eqO (PySem.W.nsIn K cStatics "thirdparty.any") (some none) && (He.eqO (PySem.W.ks_superIn K C D "__init__") (some (some (.builtin "ValueError.__init__"))) && decide (PySem.W.subIn K (.ref C) (.type "ValueError") = some true))))
theorem supB_ok {K : PySem.W.Frag} {C D : Addr} (h : supB K C D = true) : SupE K C D := by
  obtain ⟨a1, h⟩ := He.ba h
  obtain ⟨a2, h⟩ := He.ba h
  obtain ⟨a3, h⟩ := He.ba h
  obtain ⟨a4, a5⟩ := He.ba h
  obtain ⟨nm, q, N, bs, bm, sn, sub, ab, col, dd, k0, k1, k2, k3, k5, hC, _⟩ := oexObjB_ok a1
  exact ⟨⟨_, _, hC, rfl⟩, of_decide_eq_true a2, He.eqO_ok a3, He.eqO_ok a4, of_decide_eq_true a5⟩
def clsB (K : PySem.W.Frag) (C : Addr) : Bool := He.eqO (PySem.W.findIn K (.ref C) "__class__") (some (some (.builtin "object.__class__"))) &&
  (He.eqO (PySem.W.specialIn K (.builtin "object.__class__") "__get__") (some (some (.builtin "getset_descriptor.__get__"))) &&
  (decide (PySem.W.takesIn K (.builtin "object.__class__") = some true) && decide (PySem.W.mroIn K C (.type "object") = some true)))
def excB (K : PySem.W.Frag) (C : Addr) : Bool := xfB K C && clsB K C
theorem excB_ok {K : PySem.W.Frag} {C : Addr} (h : excB K C = true) : ExcC K C := by
  obtain ⟨a1, h⟩ := He.ba h
  obtain ⟨h1, h⟩ := He.ba h
  obtain ⟨h2, h⟩ := He.ba h
  obtain ⟨h3, h4⟩ := He.ba h
  have x := xfB_ok a1
  exact ⟨x.ga, x.gg, x.exC, x.hdC, He.eqO_ok h1, He.eqO_ok h2, of_decide_eq_true h3, of_decide_eq_true h4⟩
theorem excB_xf {K : PySem.W.Frag} {C : Addr} (h : excB K C = true) : XfC K C := xfB_ok (He.ba h).1
theorem clsB_ok {K : PySem.W.Frag} {C : Addr} (h : clsB K C = true) : Cl.IsTxt K C := by
  obtain ⟨h1, h⟩ := He.ba h
  obtain ⟨h2, h⟩ := He.ba h
  obtain ⟨h3, h4⟩ := He.ba h
  exact ⟨He.eqO_ok h1, He.eqO_ok h2, of_decide_eq_true h3, of_decide_eq_true h4⟩
/-! ### the Hook -/
def asX (g : Addr → Option Obj) (n : Nat) : List Addr := He.asD g n ++ [cStatics]
abbrev AlX : Type := He.AlD × List FnT × Bool
def obsX (file : Str) (n : Nat) (fa : List He.Fa) (fn : List He.DefD) (fs : List DefS) (ex : PySem.W.Frag → Bool) (K : PySem.W.Frag) : AlX := (He.obsD fa fn K, fs.map (fnT K), ex K && fs.all fun d => d.ok file K)
structure SaysX (file : Str) (fa : List He.Fa) (fn : List He.DefD) (fs : List DefS) (ex : PySem.W.Frag → Bool) (K : PySem.W.Frag) : Prop where
  c : He.SaysD fa fn K
  more : ex K = true
  sup : ∀ d ∈ fs, ∃ c cc fd, FunS K file d.m d.qual d.st (He.ga K d.cls) (He.ma K (He.ga K d.cls) d.m) c cc fd
theorem saysX_of {file : Str} {n : Nat} {fa : List He.Fa} {fn : List He.DefD} {fs : List DefS} {ex : PySem.W.Frag → Bool} {K : PySem.W.Frag} (e : obsX file n fa fn fs ex K = (He.valD fn, fs.map DefS.val, true)) : SaysX file fa fn fs ex K := by
  have e1 : He.obsD fa fn K = He.valD fn := congrArg (fun z : AlX => z.1) e
  have e2 : fs.map (fnT K) = fs.map DefS.val := congrArg (fun z : AlX => z.2.1) e
  have e3 : (ex K && fs.all fun d => d.ok file K) = true := congrArg (fun z : AlX => z.2.2) e
  obtain ⟨a1, a2⟩ := He.ba e3
  refine ⟨e1, a1, fun d hd => DefS.funS (List.map_inj_left.mp e2 d hd) (List.all_eq_true.mp a2 d hd)⟩
def hookX (file : Str) (n : Nat) (fa : List He.Fa) (fn : List He.DefD) (fs : List DefS) (ex : PySem.W.Frag → Bool) : PySem.W.Hook where
  α := AlX
  obs := fun s => obsX file n fa fn fs ex (He.frG s.heap.get? (asX s.heap.get? n))
  val := fun _ => (He.valD fn, fs.map DefS.val, true)
  says := fun _ h => ∃ K : PySem.W.Frag, K.In h ∧ SaysX file fa fn fs ex K
  of := fun _ _ e => ⟨_, He.frG_in, saysX_of (n := n) e⟩
  keeps := fun _ _ _ ⟨K, hK, c⟩ k => ⟨K, PySem.W.Frag.In.keeps hK k, c⟩
theorem obsX_eq {file : Str} {n : Nat} {fa : List He.Fa} {fn : List He.DefD} {fs : List DefS} {ex : PySem.W.Frag → Bool} {g : Addr → Option Obj} {s : Shared} (h : ∀ a, g a = s.heap.get? a) : obsX file n fa fn fs ex (He.frG g (asX g n)) = (hookX file n fa fn fs ex).obs s := by
  have e : g = s.heap.get? := funext h
  rw [e] <;> rfl
theorem toFun {K : PySem.W.Frag} {x qual : Str} {st : Stmt} {f : Addr} {fd : FuncData} (F : FunD K x qual (defArgs st) (defBody st) (defScope st) [] [] f fd) : Fun K x qual st f fd := by
  obtain ⟨oc, od, dV, kV, doc, pm, an, cdv, ct, osl, rfl, lk, hcd, hD, _⟩ := F.ex
  rcases hD with ⟨_, rfl⟩ | ⟨e, _⟩
  · exact ⟨⟨oc, od, kV, doc, pm, an, cdv, ct, osl, rfl, lk, hcd⟩, F.kp⟩
  · exact absurd rfl e
end Sx
set_option Elab.async false
set_option linter.all false
set_option maxRecDepth 100000
set_option maxHeartbeats 0
namespace Cl.K81
open PySem PySem.Spec L2 PyProof.Rows
def dF (x : Str) (st : Stmt) : He.DefD := ⟨(x, none), x, x, defArgs st, defBody st, defScope st, [], []⟩
def fn : List He.DefD := [dF "_law_bag" sBag, dF "_law_take" sTake, dF "_law_ranks" sRanks, dF "law" sLaw]
def faG : List He.Fa := errNames.map He.Fa.glo
def faM : List He.Fa := errNames.map fun n => He.Fa.meth n "__init__"
def faO : List He.Fa := [.noat "BadAlphabet" "part", .noat "BadWord" "word", .noat "BadStage" "what", .noat "BadRule" "stage", .noat "BadRule" "what", .noat "BadShape" "place", .noat "BadTable" "place", .noat "BadLot" "number", .noat "BadLimit" "asked", .noat "TooMany" "number", .noat "OutsideStock" "word", .noat "NoRule" "fewest", .noat "NoEntry" "number", .noat "NoClass" "number", .noat "NoHistory" "way", .noat "BadDeed" "index", .noat "NoPlan" "one", .noat "NoPlan" "two", .glo "ClipError", .glo "_law_bag", .glo "_law_take", .glo "_law_ranks", .glo "law", .free "int", .free "len", .free "list", .free "isinstance", .free "range", .free "ValueError", .free "super"]
def fa : List He.Fa := faG ++ (faM ++ faO)
def fs : List Sx.DefS := [⟨"BadAlphabet", "__init__", "BadAlphabet.__init__", sBadAlphabet⟩, ⟨"BadWord", "__init__", "BadWord.__init__", sBadWord⟩, ⟨"BadStage", "__init__", "BadStage.__init__", sBadStage⟩, ⟨"BadRule", "__init__", "BadRule.__init__", sBadRule⟩, ⟨"BadShape", "__init__", "BadShape.__init__", sBadShape⟩, ⟨"BadTable", "__init__", "BadTable.__init__", sBadTable⟩, ⟨"Mixed", "__init__", "Mixed.__init__", sMixed⟩, ⟨"BadLot", "__init__", "BadLot.__init__", sBadLot⟩, ⟨"BadLimit", "__init__", "BadLimit.__init__", sBadLimit⟩, ⟨"TooMany", "__init__", "TooMany.__init__", sTooMany⟩, ⟨"OutsideStock", "__init__", "OutsideStock.__init__", sOutsideStock⟩, ⟨"NoRule", "__init__", "NoRule.__init__", sNoRule⟩, ⟨"NoEntry", "__init__", "NoEntry.__init__", sNoEntry⟩, ⟨"NoClass", "__init__", "NoClass.__init__", sNoClass⟩, ⟨"NoHistory", "__init__", "NoHistory.__init__", sNoHistory⟩, ⟨"BadDeed", "__init__", "BadDeed.__init__", sBadDeed⟩, ⟨"NoPlan", "__init__", "NoPlan.__init__", sNoPlan⟩]
def exN (K : PySem.W.Frag) (n : Str) : Bool := Sx.oexB K (He.ga K n) && (Sx.supB K (He.ga K n) (He.ga K n) && (Sx.excB K (He.ga K n) && (decide (PySem.W.kitOne K (.ref (He.ga K n)) (.ref (He.ga K "ClipError")) = some true) && (decide (PySem.W.kitOne K (.ref (He.ga K n)) (.type "ValueError") = some true) &&
  errNames.all fun m => decide (PySem.W.kitOne K (.ref (He.ga K n)) (.ref (He.ga K m)) = some (decide (m = n)))))))
def ex (K : PySem.W.Frag) : Bool := errNames.all fun n => exN K n
abbrev R0 : PySem.W.OpenRow := PySem.W.OpenLaw.row PySem.Challenge.rw_cliplore_k81_errors_and_attributes
abbrev file : Str := "/claim/cut.py"
abbrev hk : PySem.W.Hook := Sx.hookX file 6 fa fn fs ex
def ob (s : PySem.W.SharedT) : Sx.AlX := Sx.obsX file 6 fa fn fs ex (He.frG (HandSHeadRun.getT s) (Sx.asX (HandSHeadRun.getT s) 6))
theorem ob_eq (s : PySem.W.SharedT) : ob s = hk.obs s.abs := Sx.obsX_eq (HandSHeadRun.getT_eq s)
def loose : List Str := ["__name__", "ClipError", "BadAlphabet", "BadWord", "BadStage", "BadRule", "BadShape", "BadTable", "Mixed", "BadLot", "BadLimit", "TooMany", "OutsideStock", "NoRule", "NoEntry", "NoClass", "NoHistory", "BadDeed", "NoPlan", "_law_bag", "_law_take", "_law_ranks"]
theorem run (w : World) : HandSHeadRun.RunEq R0 (PySem.W.view R0.prog [23]) hk ob 12000 loose w := by
  intro os
  kernel_rfl
end Cl.K81
set_option Elab.async false
set_option linter.all false
set_option maxRecDepth 100000
set_option maxHeartbeats 0
namespace Cl.K81
open PySem PySem.Spec L2 PyProof.Rows
abbrev prog : Program := PySem.Challenge.pw_cliplore_k81_errors_and_attributes
theorem names_ne : ∀ j, j < 17 → ∀ k, k < 17 → decide (errNames.getD k "" = errNames.getD j "") = decide (k = j) := by decide +kernel
theorem name_mem {k : Nat} (h : k < 17) : errNames.getD k "" ∈ errNames := by
  have e : k < errNames.length := h
  rw [List.getD_eq_getElem?_getD, List.getElem?_eq_getElem e]
  exact List.getElem_mem _
theorem facts {w : World} {K : PySem.W.Frag} {h : Heap} {mg : Str → Option Value} {f : Addr} (X : K.In h) (G : h.Ns mainGlobals mg) (hfa : mg ("law" : Str) = some (.ref f)) (s : Sx.SaysX file fa fn fs ex K) :
    ∃ fd : FuncData, (∀ (s : Shared) (v : Value), BindsTo s fd ⟨[v], []⟩ [("_law_script", v)]) ∧ ∀ base : Heap, K.In base → base.Ns mainGlobals mg → FnOk prog w K mg base CX0 3 f fd ["_law_script"] (spLaw K) := by
  have c := s.c
  have inG : ∀ {g : He.Fa}, g ∈ faG → g.ok K = true := fun {g} hg => He.SaysD.facts c (List.mem_append_left _ hg)
  have inM : ∀ {g : He.Fa}, g ∈ faM → g.ok K = true := fun {g} hg => He.SaysD.facts c (List.mem_append_right _ (List.mem_append_left _ hg))
  have inO : ∀ (i : Nat) {g : He.Fa}, faO[i]? = some g → g.ok K = true := fun i {g} hg => He.SaysD.facts c (List.mem_append_right _ (List.mem_append_right _ (List.mem_of_getElem? hg)))
  have exn : ∀ k, k < 17 → exN K (errNames.getD k "") = true := fun k hk => List.all_eq_true.mp s.more _ (name_mem hk)
  have gl : ∀ k, k < 17 → mg (errNames.getD k "") = some (.ref (He.ga K (errNames.getD k ""))) := fun k hk => He.glo_ok X G (inG (List.mem_map_of_mem (name_mem hk)))
  have me : ∀ k, k < 17 → Meth K (He.ga K (errNames.getD k "")) "__init__" _ := fun k hk => He.meth_ok (inM (List.mem_map_of_mem (f := fun n => He.Fa.meth n "__init__") (name_mem hk)))
  have gC := He.glo_ok X G (inO 18 (g := .glo "ClipError") rfl)
  have Z : Errs K mg (fun k => He.ga K (errNames.getD k "")) (He.ga K "ClipError") := {
    gl := gl
    ec := fun k hk => Sx.excB_ok (He.ba (He.ba (He.ba (exn k hk)).2).2).1
    kit := fun j k hj hk => by
      have z := (He.ba (He.ba (He.ba (He.ba (He.ba (exn j hj)).2).2).2).2).2
      have y := of_decide_eq_true (List.all_eq_true.mp z _ (name_mem hk))
      rw [names_ne j hj k hk] at y
      exact y
    gC := gC
    kC := fun k hk => of_decide_eq_true (He.ba (He.ba (He.ba (He.ba (exn k hk)).2).2).2).1
    kV := fun k hk => of_decide_eq_true (He.ba (He.ba (He.ba (He.ba (He.ba (exn k hk)).2).2).2).2).1 }
  have xf : ∀ k, k < 17 → XfC K (He.ga K (errNames.getD k "")) := fun k hk => Sx.excB_xf (He.ba (He.ba (He.ba (exn k hk)).2).2).1
  have ox : ∀ k, k < 17 → OexC K (He.ga K (errNames.getD k "")) := fun k hk => Sx.oexB_ok (He.ba (exn k hk)).1
  have su : ∀ k, k < 17 → Sx.SupE K (He.ga K (errNames.getD k "")) (He.ga K (errNames.getD k "")) := fun k hk => Sx.supB_ok (He.ba (He.ba (exn k hk)).2).1
  obtain ⟨fBa, FBa⟩ := c.def_ 0 rfl
  obtain ⟨fTa, FTa⟩ := c.def_ 1 rfl
  obtain ⟨fRa, FRa⟩ := c.def_ 2 rfl
  obtain ⟨fLa, FLa⟩ := c.def_ 3 rfl
  have FBa' := Sx.toFun (st := sBag) FBa
  have FTa' := Sx.toFun (st := sTake) FTa
  have FRa' := Sx.toFun (st := sRanks) FRa
  have FLa' := Sx.toFun (st := sLaw) FLa
  have e := hfa.symm.trans (He.glo_ok X G (inO 22 (g := .glo "law") rfl))
  cases e
  have gBa := He.glo_ok X G (inO 19 (g := .glo "_law_bag") rfl)
  have gTa := He.glo_ok X G (inO 20 (g := .glo "_law_take") rfl)
  have gRa := He.glo_ok X G (inO 21 (g := .glo "_law_ranks") rfl)
  have zint := He.free_ok X G (inO 23 (g := .free "int") rfl)
  have zlen := He.free_ok X G (inO 24 (g := .free "len") rfl)
  have zlist := He.free_ok X G (inO 25 (g := .free "list") rfl)
  have zisinstance := He.free_ok X G (inO 26 (g := .free "isinstance") rfl)
  have zrange := He.free_ok X G (inO 27 (g := .free "range") rfl)
  have zValueError := He.free_ok X G (inO 28 (g := .free "ValueError") rfl)
  have zsuper := He.free_ok X G (inO 29 (g := .free "super") rfl)
  have no0_part : PySem.W.findIn K (.ref (He.ga K "BadAlphabet")) "part" = some none := He.noat_ok (inO 0 (g := .noat "BadAlphabet" "part") rfl)
  have no1_word : PySem.W.findIn K (.ref (He.ga K "BadWord")) "word" = some none := He.noat_ok (inO 1 (g := .noat "BadWord" "word") rfl)
  have no2_what : PySem.W.findIn K (.ref (He.ga K "BadStage")) "what" = some none := He.noat_ok (inO 2 (g := .noat "BadStage" "what") rfl)
  have no3_stage : PySem.W.findIn K (.ref (He.ga K "BadRule")) "stage" = some none := He.noat_ok (inO 3 (g := .noat "BadRule" "stage") rfl)
  have no3_what : PySem.W.findIn K (.ref (He.ga K "BadRule")) "what" = some none := He.noat_ok (inO 4 (g := .noat "BadRule" "what") rfl)
  have no4_place : PySem.W.findIn K (.ref (He.ga K "BadShape")) "place" = some none := He.noat_ok (inO 5 (g := .noat "BadShape" "place") rfl)
  have no5_place : PySem.W.findIn K (.ref (He.ga K "BadTable")) "place" = some none := He.noat_ok (inO 6 (g := .noat "BadTable" "place") rfl)
  have no7_number : PySem.W.findIn K (.ref (He.ga K "BadLot")) "number" = some none := He.noat_ok (inO 7 (g := .noat "BadLot" "number") rfl)
  have no8_asked : PySem.W.findIn K (.ref (He.ga K "BadLimit")) "asked" = some none := He.noat_ok (inO 8 (g := .noat "BadLimit" "asked") rfl)
  have no9_number : PySem.W.findIn K (.ref (He.ga K "TooMany")) "number" = some none := He.noat_ok (inO 9 (g := .noat "TooMany" "number") rfl)
  have no10_word : PySem.W.findIn K (.ref (He.ga K "OutsideStock")) "word" = some none := He.noat_ok (inO 10 (g := .noat "OutsideStock" "word") rfl)
  have no11_fewest : PySem.W.findIn K (.ref (He.ga K "NoRule")) "fewest" = some none := He.noat_ok (inO 11 (g := .noat "NoRule" "fewest") rfl)
  have no12_number : PySem.W.findIn K (.ref (He.ga K "NoEntry")) "number" = some none := He.noat_ok (inO 12 (g := .noat "NoEntry" "number") rfl)
  have no13_number : PySem.W.findIn K (.ref (He.ga K "NoClass")) "number" = some none := He.noat_ok (inO 13 (g := .noat "NoClass" "number") rfl)
  have no14_way : PySem.W.findIn K (.ref (He.ga K "NoHistory")) "way" = some none := He.noat_ok (inO 14 (g := .noat "NoHistory" "way") rfl)
  have no15_index : PySem.W.findIn K (.ref (He.ga K "BadDeed")) "index" = some none := He.noat_ok (inO 15 (g := .noat "BadDeed" "index") rfl)
  have no16_one : PySem.W.findIn K (.ref (He.ga K "NoPlan")) "one" = some none := He.noat_ok (inO 16 (g := .noat "NoPlan" "one") rfl)
  have no16_two : PySem.W.findIn K (.ref (He.ga K "NoPlan")) "two" = some none := He.noat_ok (inO 17 (g := .noat "NoPlan" "two") rfl)
  obtain ⟨c0, cc0, fd0, F0⟩ := s.sup ⟨"BadAlphabet", "__init__", "BadAlphabet.__init__", sBadAlphabet⟩ (List.mem_of_getElem? (i := 0) rfl)
  have b0 := F0.binds (ps := ["self", "part"]) fun _ _ _ _ _ us hl => match us, hl with | [_, _], _ => rfl
  obtain ⟨c1, cc1, fd1, F1⟩ := s.sup ⟨"BadWord", "__init__", "BadWord.__init__", sBadWord⟩ (List.mem_of_getElem? (i := 1) rfl)
  have b1 := F1.binds (ps := ["self", "word"]) fun _ _ _ _ _ us hl => match us, hl with | [_, _], _ => rfl
  obtain ⟨c2, cc2, fd2, F2⟩ := s.sup ⟨"BadStage", "__init__", "BadStage.__init__", sBadStage⟩ (List.mem_of_getElem? (i := 2) rfl)
  have b2 := F2.binds (ps := ["self", "what"]) fun _ _ _ _ _ us hl => match us, hl with | [_, _], _ => rfl
  obtain ⟨c3, cc3, fd3, F3⟩ := s.sup ⟨"BadRule", "__init__", "BadRule.__init__", sBadRule⟩ (List.mem_of_getElem? (i := 3) rfl)
  have b3 := F3.binds (ps := ["self", "stage", "what"]) fun _ _ _ _ _ us hl => match us, hl with | [_, _, _], _ => rfl
  obtain ⟨c4, cc4, fd4, F4⟩ := s.sup ⟨"BadShape", "__init__", "BadShape.__init__", sBadShape⟩ (List.mem_of_getElem? (i := 4) rfl)
  have b4 := F4.binds (ps := ["self", "place"]) fun _ _ _ _ _ us hl => match us, hl with | [_, _], _ => rfl
  obtain ⟨c5, cc5, fd5, F5⟩ := s.sup ⟨"BadTable", "__init__", "BadTable.__init__", sBadTable⟩ (List.mem_of_getElem? (i := 5) rfl)
  have b5 := F5.binds (ps := ["self", "place"]) fun _ _ _ _ _ us hl => match us, hl with | [_, _], _ => rfl
  obtain ⟨c6, cc6, fd6, F6⟩ := s.sup ⟨"Mixed", "__init__", "Mixed.__init__", sMixed⟩ (List.mem_of_getElem? (i := 6) rfl)
  have b6 := F6.binds (ps := ["self"]) fun _ _ _ _ _ us hl => match us, hl with | [_], _ => rfl
  obtain ⟨c7, cc7, fd7, F7⟩ := s.sup ⟨"BadLot", "__init__", "BadLot.__init__", sBadLot⟩ (List.mem_of_getElem? (i := 7) rfl)
  have b7 := F7.binds (ps := ["self", "number"]) fun _ _ _ _ _ us hl => match us, hl with | [_, _], _ => rfl
  obtain ⟨c8, cc8, fd8, F8⟩ := s.sup ⟨"BadLimit", "__init__", "BadLimit.__init__", sBadLimit⟩ (List.mem_of_getElem? (i := 8) rfl)
  have b8 := F8.binds (ps := ["self", "limit"]) fun _ _ _ _ _ us hl => match us, hl with | [_, _], _ => rfl
  obtain ⟨c9, cc9, fd9, F9⟩ := s.sup ⟨"TooMany", "__init__", "TooMany.__init__", sTooMany⟩ (List.mem_of_getElem? (i := 9) rfl)
  have b9 := F9.binds (ps := ["self", "number"]) fun _ _ _ _ _ us hl => match us, hl with | [_, _], _ => rfl
  obtain ⟨c10, cc10, fd10, F10⟩ := s.sup ⟨"OutsideStock", "__init__", "OutsideStock.__init__", sOutsideStock⟩ (List.mem_of_getElem? (i := 10) rfl)
  have b10 := F10.binds (ps := ["self", "word"]) fun _ _ _ _ _ us hl => match us, hl with | [_, _], _ => rfl
  obtain ⟨c11, cc11, fd11, F11⟩ := s.sup ⟨"NoRule", "__init__", "NoRule.__init__", sNoRule⟩ (List.mem_of_getElem? (i := 11) rfl)
  have b11 := F11.binds (ps := ["self", "fewest"]) fun _ _ _ _ _ us hl => match us, hl with | [_, _], _ => rfl
  obtain ⟨c12, cc12, fd12, F12⟩ := s.sup ⟨"NoEntry", "__init__", "NoEntry.__init__", sNoEntry⟩ (List.mem_of_getElem? (i := 12) rfl)
  have b12 := F12.binds (ps := ["self", "number"]) fun _ _ _ _ _ us hl => match us, hl with | [_, _], _ => rfl
  obtain ⟨c13, cc13, fd13, F13⟩ := s.sup ⟨"NoClass", "__init__", "NoClass.__init__", sNoClass⟩ (List.mem_of_getElem? (i := 13) rfl)
  have b13 := F13.binds (ps := ["self", "number"]) fun _ _ _ _ _ us hl => match us, hl with | [_, _], _ => rfl
  obtain ⟨c14, cc14, fd14, F14⟩ := s.sup ⟨"NoHistory", "__init__", "NoHistory.__init__", sNoHistory⟩ (List.mem_of_getElem? (i := 14) rfl)
  have b14 := F14.binds (ps := ["self", "way"]) fun _ _ _ _ _ us hl => match us, hl with | [_, _], _ => rfl
  obtain ⟨c15, cc15, fd15, F15⟩ := s.sup ⟨"BadDeed", "__init__", "BadDeed.__init__", sBadDeed⟩ (List.mem_of_getElem? (i := 15) rfl)
  have b15 := F15.binds (ps := ["self", "index"]) fun _ _ _ _ _ us hl => match us, hl with | [_, _], _ => rfl
  obtain ⟨c16, cc16, fd16, F16⟩ := s.sup ⟨"NoPlan", "__init__", "NoPlan.__init__", sNoPlan⟩ (List.mem_of_getElem? (i := 16) rfl)
  have b16 := F16.binds (ps := ["self", "one", "two"]) fun _ _ _ _ _ us hl => match us, hl with | [_, _, _], _ => rfl
  have bBa := FBa'.binds (ps := ["_law_script"]) fun _ _ _ _ _ _ us hl => match us, hl with | [_], _ => rfl
  have bTa := FTa'.binds (ps := ["_law_bag_here", "_law_size"]) fun _ _ _ _ _ _ us hl => match us, hl with | [_, _], _ => rfl
  have bRa := FRa'.binds (ps := ["_law_e"]) fun _ _ _ _ _ _ us hl => match us, hl with | [_], _ => rfl
  have bLa := FunD.bindsA (ps := ["_law_script"]) FLa fun _ _ _ _ _ _ us hl => match us, hl with | [_], _ => rfl
  refine ⟨fLa, fun s v => bLa s [v] rfl, fun base _ _ => ?_⟩
  have htop : (prog.main.scope.names.lookup ("super" : Str)).isSome = false := by decide +kernel
  have GTa : FnOk prog w K mg base CX0 1 _ fTa ["_law_bag_here", "_law_size"] spTake := ok_take FTa' zint zlen
  have GBa : FnOk prog w K mg base CX0 1 _ fBa ["_law_script"] (spBag K) := ok_bag FBa' zlist
  have GRa : FnOk prog w K mg base CX0 1 _ fRa ["_law_e"] (spRanks _) := ok_ranks FRa' Z zisinstance
  have M0 : MkE prog w K mg base (He.ga K "BadAlphabet") _ fd0 ["self", "part"] (spE1 (He.ga K "BadAlphabet") "part") := ⟨ox 0 (by decide), (me 0 (by decide)).at_, beq_iff_eq.mp (me 0 (by decide)).fn, ok_BadAlphabet F0 (ox 0 (by decide)) (su 0 (by decide)) no0_part htop zsuper, b0⟩
  have M1 : MkE prog w K mg base (He.ga K "BadWord") _ fd1 ["self", "word"] (spET (He.ga K "BadWord") "word") := ⟨ox 1 (by decide), (me 1 (by decide)).at_, beq_iff_eq.mp (me 1 (by decide)).fn, ok_BadWord F1 (ox 1 (by decide)) (su 1 (by decide)) no1_word htop zsuper, b1⟩
  have M2 : MkE prog w K mg base (He.ga K "BadStage") _ fd2 ["self", "what"] (spE1 (He.ga K "BadStage") "what") := ⟨ox 2 (by decide), (me 2 (by decide)).at_, beq_iff_eq.mp (me 2 (by decide)).fn, ok_BadStage F2 (ox 2 (by decide)) (su 2 (by decide)) no2_what htop zsuper, b2⟩
  have M3 : MkE prog w K mg base (He.ga K "BadRule") _ fd3 ["self", "stage", "what"] (spE2 (He.ga K "BadRule") "stage" "what") := ⟨ox 3 (by decide), (me 3 (by decide)).at_, beq_iff_eq.mp (me 3 (by decide)).fn, ok_BadRule F3 (ox 3 (by decide)) (su 3 (by decide)) no3_stage no3_what htop zsuper, b3⟩
  have M4 : MkE prog w K mg base (He.ga K "BadShape") _ fd4 ["self", "place"] (spE1 (He.ga K "BadShape") "place") := ⟨ox 4 (by decide), (me 4 (by decide)).at_, beq_iff_eq.mp (me 4 (by decide)).fn, ok_BadShape F4 (ox 4 (by decide)) (su 4 (by decide)) no4_place htop zsuper, b4⟩
  have M5 : MkE prog w K mg base (He.ga K "BadTable") _ fd5 ["self", "place"] (spE1 (He.ga K "BadTable") "place") := ⟨ox 5 (by decide), (me 5 (by decide)).at_, beq_iff_eq.mp (me 5 (by decide)).fn, ok_BadTable F5 (ox 5 (by decide)) (su 5 (by decide)) no5_place htop zsuper, b5⟩
  have M6 : MkE prog w K mg base (He.ga K "Mixed") _ fd6 ["self"] (spE0 (He.ga K "Mixed")) := ⟨ox 6 (by decide), (me 6 (by decide)).at_, beq_iff_eq.mp (me 6 (by decide)).fn, ok_Mixed F6 (ox 6 (by decide)) (su 6 (by decide))  htop zsuper, b6⟩
  have M7 : MkE prog w K mg base (He.ga K "BadLot") _ fd7 ["self", "number"] (spE1 (He.ga K "BadLot") "number") := ⟨ox 7 (by decide), (me 7 (by decide)).at_, beq_iff_eq.mp (me 7 (by decide)).fn, ok_BadLot F7 (ox 7 (by decide)) (su 7 (by decide)) no7_number htop zsuper, b7⟩
  have M8 : MkE prog w K mg base (He.ga K "BadLimit") _ fd8 ["self", "limit"] (spE1 (He.ga K "BadLimit") "asked") := ⟨ox 8 (by decide), (me 8 (by decide)).at_, beq_iff_eq.mp (me 8 (by decide)).fn, ok_BadLimit F8 (ox 8 (by decide)) (su 8 (by decide)) no8_asked htop zsuper, b8⟩
  have M9 : MkE prog w K mg base (He.ga K "TooMany") _ fd9 ["self", "number"] (spE1 (He.ga K "TooMany") "number") := ⟨ox 9 (by decide), (me 9 (by decide)).at_, beq_iff_eq.mp (me 9 (by decide)).fn, ok_TooMany F9 (ox 9 (by decide)) (su 9 (by decide)) no9_number htop zsuper, b9⟩
  have M10 : MkE prog w K mg base (He.ga K "OutsideStock") _ fd10 ["self", "word"] (spET (He.ga K "OutsideStock") "word") := ⟨ox 10 (by decide), (me 10 (by decide)).at_, beq_iff_eq.mp (me 10 (by decide)).fn, ok_OutsideStock F10 (ox 10 (by decide)) (su 10 (by decide)) no10_word htop zsuper, b10⟩
  have M11 : MkE prog w K mg base (He.ga K "NoRule") _ fd11 ["self", "fewest"] (spE1 (He.ga K "NoRule") "fewest") := ⟨ox 11 (by decide), (me 11 (by decide)).at_, beq_iff_eq.mp (me 11 (by decide)).fn, ok_NoRule F11 (ox 11 (by decide)) (su 11 (by decide)) no11_fewest htop zsuper, b11⟩
  have M12 : MkE prog w K mg base (He.ga K "NoEntry") _ fd12 ["self", "number"] (spE1 (He.ga K "NoEntry") "number") := ⟨ox 12 (by decide), (me 12 (by decide)).at_, beq_iff_eq.mp (me 12 (by decide)).fn, ok_NoEntry F12 (ox 12 (by decide)) (su 12 (by decide)) no12_number htop zsuper, b12⟩
  have M13 : MkE prog w K mg base (He.ga K "NoClass") _ fd13 ["self", "number"] (spE1 (He.ga K "NoClass") "number") := ⟨ox 13 (by decide), (me 13 (by decide)).at_, beq_iff_eq.mp (me 13 (by decide)).fn, ok_NoClass F13 (ox 13 (by decide)) (su 13 (by decide)) no13_number htop zsuper, b13⟩
  have M14 : MkE prog w K mg base (He.ga K "NoHistory") _ fd14 ["self", "way"] (spE1 (He.ga K "NoHistory") "way") := ⟨ox 14 (by decide), (me 14 (by decide)).at_, beq_iff_eq.mp (me 14 (by decide)).fn, ok_NoHistory F14 (ox 14 (by decide)) (su 14 (by decide)) no14_way htop zsuper, b14⟩
  have M15 : MkE prog w K mg base (He.ga K "BadDeed") _ fd15 ["self", "index"] (spE1 (He.ga K "BadDeed") "index") := ⟨ox 15 (by decide), (me 15 (by decide)).at_, beq_iff_eq.mp (me 15 (by decide)).fn, ok_BadDeed F15 (ox 15 (by decide)) (su 15 (by decide)) no15_index htop zsuper, b15⟩
  have M16 : MkE prog w K mg base (He.ga K "NoPlan") _ fd16 ["self", "one", "two"] (spE2 (He.ga K "NoPlan") "one" "two") := ⟨ox 16 (by decide), (me 16 (by decide)).at_, beq_iff_eq.mp (me 16 (by decide)).fn, ok_NoPlan F16 (ox 16 (by decide)) (su 16 (by decide)) no16_one no16_two htop zsuper, b16⟩
  exact ok_law FLa' ⟨GBa, bBa, gBa, FBa'.kp⟩ ⟨GTa, bTa, gTa, FTa'.kp⟩ ⟨GRa, bRa, gRa, FRa'.kp⟩ Z M0 M1 M2 M3 M4 M5 M6 M7 M8 M9 M10 M11 M12 M13 M14 M15 M16 no0_part no1_word no2_what no3_stage no3_what no4_place no5_place no7_number no8_asked no9_number no10_word no11_fewest no12_number no13_number no14_way no15_index no16_one no16_two xf zisinstance zrange zValueError
end Cl.K81

open PySem PySem.W PySem.Calls PyProof.Rows in
theorem PySem.Challenge.cw_cliplore_k81_errors_and_attributes_holds : PySem.Challenge.rw_cliplore_k81_errors_and_attributes.Holds := by
  w_on; o_law
  refine HandSHeadRun.head_any (r := OpenLaw.row PySem.Challenge.rw_cliplore_k81_errors_and_attributes) (q := view (OpenLaw.row PySem.Challenge.rw_cliplore_k81_errors_and_attributes).prog [23]) (H := Cl.K81.hk) (ob := Cl.K81.ob) (M := 12000) (loose := Cl.K81.loose) (d := HandSHeadRun.topDef (OpenLaw.row PySem.Challenge.rw_cliplore_k81_errors_and_attributes).prog 23) (kwd := []) Cl.K81.ob_eq
    (by kernel_rfl) (fun s => by kernel_rfl) Cl.K81.run (by kernel_rfl) (by kernel_rfl) (by kernel_rfl) (by rfl) (by first | assumption | decide +kernel) (by decide +kernel) ⟨rfl, rfl, rfl, rfl, rfl, by decide +kernel⟩ ?hw ?hc
  case hw => w_witness2
  case hc =>
    refine L2.walk_ofE (l := PySem.Challenge.rw_cliplore_k81_errors_and_attributes) (n := 63) (k := 3) (x := "_law_script") (CX := L2.CX0) rfl (by decide) (by kernel_rfl) ⟨rfl, by decide, by decide⟩ ?F (fun _ _ _ _ z => z)
    intro w mg fa h Y G hmg0
    obtain ⟨K, KX, c⟩ := Y
    have hmg : mg ("law" : PySem.Str) = some (.ref fa) := by
      have e : (HandSHeadRun.topDef (OpenLaw.row PySem.Challenge.rw_cliplore_k81_errors_and_attributes).prog 23).name = ("law" : PySem.Str) := by kernel_rfl
      rw [← e]
      exact hmg0
    obtain ⟨fd, hb, hF⟩ := Cl.K81.facts (w := w) KX G hmg c
    exact ⟨K, fd, Cl.K81.spLaw K, KX, hb, fun H a ns hl _ hS => ⟨a, ns, rfl, hS, fun _ => rfl⟩, hF⟩
